/- That the functions do what the pure definitions say: walks, as tools/lift.py writes them. No condition. -/
import Derived.Test.YtofnbcfjdngakaaProg
import Derived.Test.YtofnbcfjdngakaaPKK1
import Derived.Test.YtofnbcfjdngakaaPKK2
import Derived.Test.YtofnbcfjdngakaaPD
import Derived.Test.YtofnbcfjdngakaaPSb
import Derived.Tactics2
namespace Go.K
open Go.Proofs Go.RowKit
set_option linter.unusedVariables false
set_option linter.unusedSimpArgs false
set_option maxRecDepth 100000
theorem eq26 (n : Nat) (x0 x1 x2 y0 y1 y2 : Int) (w : World) : (Op.equalIn (n + 2) 26 (.agg #[.int .i64 x0, .int .i64 x1, .int .i64 x2]) (.agg #[.int .i64 y0, .int .i64 y1, .int .i64 y2])).run Try.prog w = .ok (decide (x0 = y0) && decide (x1 = y1) && decide (x2 = y2)) w := by
  have u3 := Try.underlying3; have a3 := Try.isAgg3; have z3 := Try.sizeOf3
  have hS : Try.prog.underlying 26 = some (.struct (Try.prog.fieldsOf 26)) := by kernel_rfl
  rw [show n + 2 = (n + 1) + 1 from rfl, run_equalIn_agg w (n + 1) 26 _ _ hS (by kernel_rfl)]
  simp only [Program.fieldsOf, Try.underlying26]
  go_simp
  by_cases h0 : x0 = y0 <;> by_cases h1 : x1 = y1 <;> by_cases h2 : x2 = y2 <;> simp [h0, h1, h2]
theorem eq28 (n : Nat) (x0 x1 y0 y1 : Int) (w : World) : (Op.equalIn (n + 2) 28 (.agg #[.int .i64 x0, .int .i64 x1]) (.agg #[.int .i64 y0, .int .i64 y1])).run Try.prog w = .ok (decide (x0 = y0) && decide (x1 = y1)) w := by
  have u3 := Try.underlying3; have a3 := Try.isAgg3; have z3 := Try.sizeOf3
  have hS : Try.prog.underlying 28 = some (.struct (Try.prog.fieldsOf 28)) := by kernel_rfl
  rw [show n + 2 = (n + 1) + 1 from rfl, run_equalIn_agg w (n + 1) 28 _ _ hS (by kernel_rfl)]
  simp only [Program.fieldsOf, Try.underlying28]
  go_simp
  by_cases h0 : x0 = y0 <;> by_cases h1 : x1 = y1 <;> simp [h0, h1]
attribute [local irreducible] Seq Step CallV AnyE opX

theorem L70 (w0 : World) (p0 : Int) (p1 : Int) (p2 : Int) (r : Bool) (hF : F70 p0 p1 p2 = some r) : Does Try.prog 70 [.int .i64 p0, .int .i64 p1, .int .i64 p2] w0 fun v w => v = .bool r ∧ Below w0.heap.size w0 w := by
 refine calls_of (n := 15) Try.func70 rfl Try.ntmps70 rfl ?_
 have hI := Inv.start w0
 unfold F70 at hF
 refine wp_seq (rgn (by kernel_rfl) (pu (.bool false) (by kernel_rfl) (seq_nil (wp_seq (rgn (by kernel_rfl) (pu (iv p1) (by kernel_rfl) (pu (iv p0) (by kernel_rfl) (ifE hF (fun h7 hF => ?_) (fun h7 hF => ?_)))))))))
 ·
  refine seq_c (s_leq rfl rfl (fun _ => ?_) (fun h => absurd (a := p1 ≤ p0) h7 h))
  refine pu (.bool true) (by kernel_rfl) (puo (iv p0) ⟨(by kernel_rfl), (by kernel_rfl)⟩ (puo (iv p2) ⟨(by kernel_rfl), (by kernel_rfl)⟩ (ifE hF (fun h8 hF => ?_) (fun h8 hF => ?_))))
  ·
   refine seq_on (by kernel_rfl) (s_leq rfl rfl (fun _ => ?_) (fun h => absurd (a := p0 ≤ p2) h8 h))
   refine pu (.bool true) (by kernel_rfl) (pu (.bool true) (by kernel_rfl) (seq_nil (wp_ret ?_)))
   replace hF := Option.some.inj hF; subst hF
   exact ⟨.bool true, Ret.r1 rfl rfl, ⟨rfl, hI.below⟩⟩
  ·
   refine seq_on (by kernel_rfl) (s_leq rfl rfl (fun h => absurd (a := p0 ≤ p2) h h8) (fun _ => ?_))
   refine pu (.bool false) (by kernel_rfl) (pu (.bool false) (by kernel_rfl) (seq_nil (wp_ret ?_)))
   replace hF := Option.some.inj hF; subst hF
   exact ⟨.bool false, Ret.r1 rfl rfl, ⟨rfl, hI.below⟩⟩
 ·
  refine seq_c (s_leq rfl rfl (fun h => absurd (a := p1 ≤ p0) h h7) (fun _ => ?_))
  refine pu (.bool false) (by kernel_rfl) (of_ (by kernel_rfl) (of_ (by kernel_rfl) (of_ (by kernel_rfl) (pu (.bool false) (by kernel_rfl) (pu (.bool false) (by kernel_rfl) (seq_nil (wp_ret ?_)))))))
  replace hF := Option.some.inj hF; subst hF
  exact ⟨.bool false, Ret.r1 rfl rfl, ⟨rfl, hI.below⟩⟩


theorem L21 (w0 : World) (p0 : Cm) (r : Int) (hF : F21 p0 = some r) : Does Try.prog 21 [.agg #[.int .i64 p0.fam, .int .i64 p0.hrs, .int .i64 p0.wants]] w0 fun v w => v = .int .i64 r ∧ Below w0.heap.size w0 w := by
 refine calls_of (n := 16) Try.func21 rfl Try.ntmps21 rfl ?_
 have hI := Inv.start w0
 unfold F21 at hF
 refine wp_seq (rgn (by kernel_rfl) (seq_c (s_boxI hI [iv p0.fam, iv p0.hrs, iv p0.wants] rfl ?_)))
 intro b26 w hI
 refine pu (iv 0) (by kernel_rfl) (seq_nil (wp_seq (wp_seq (rgn (by kernel_rfl) (pu (.pointer (some ⟨b26, 0, none⟩)) (by kernel_rfl) (seq_c (s_load1 hI 0 (iv p0.fam) Try.isAgg3 rfl rfl rfl ?_)))))))
 refine bindE hF (fun y45 hy46 hF => ?_)
 refine ifE hF (fun h22 hF => ?_) (fun h22 hF => ?_)
 ·
  refine seq_c (s_callv hI 70 [iv p0.fam, iv 1, iv 99] (.bool true) (by kernel_rfl) (Does.mono (L70 _ p0.fam 1 99 _ hy46) (fun v' w' h => ⟨h.1.trans (congrArg Value.bool h22), h.2⟩)) ?_)
  intro w hI
  refine pu (.bool true) (by kernel_rfl) (puo (.pointer (some ⟨b26, 1, none⟩)) ⟨(by kernel_rfl), (by kernel_rfl)⟩ (seq_on (by kernel_rfl) (s_load1 hI 0 (iv p0.hrs) Try.isAgg3 rfl rfl rfl ?_)))
  refine bindE hF (fun y47 hy48 hF => ?_)
  refine ifE hF (fun h23 hF => ?_) (fun h23 hF => ?_)
  ·
   refine seq_on (by kernel_rfl) (s_callv hI 70 [iv p0.hrs, iv 0, iv 16777215] (.bool true) (by kernel_rfl) (Does.mono (L70 _ p0.hrs 0 16777215 _ hy48) (fun v' w' h => ⟨h.1.trans (congrArg Value.bool h23), h.2⟩)) ?_)
   intro w hI
   refine pu (.bool true) (by kernel_rfl) (pu (.bool true) (by kernel_rfl) (puo (.pointer (some ⟨b26, 2, none⟩)) ⟨(by kernel_rfl), (by kernel_rfl)⟩ (seq_on (by kernel_rfl) (s_load1 hI 0 (iv p0.wants) Try.isAgg3 rfl rfl rfl ?_))))
   refine bindE hF (fun y49 hy50 hF => ?_)
   refine ifE hF (fun h24 hF => ?_) (fun h24 hF => ?_)
   ·
    refine seq_on (by kernel_rfl) (s_callv hI 70 [iv p0.wants, iv 0, iv 24] (.bool true) (by kernel_rfl) (Does.mono (L70 _ p0.wants 0 24 _ hy50) (fun v' w' h => ⟨h.1.trans (congrArg Value.bool h24), h.2⟩)) ?_)
    intro w hI
    refine pu (.bool true) (by kernel_rfl) (seq_nil (wp_condT rfl (wp_seq (rgn (by kernel_rfl) (pu (iv 0) (by kernel_rfl) (seq_nil (wp_ret ?_)))))))
    replace hF := Option.some.inj hF; subst hF
    exact ⟨iv 0, Ret.r1 rfl rfl, ⟨rfl, hI.below⟩⟩
   ·
    refine seq_on (by kernel_rfl) (s_callv hI 70 [iv p0.wants, iv 0, iv 24] (.bool false) (by kernel_rfl) (Does.mono (L70 _ p0.wants 0 24 _ hy50) (fun v' w' h => ⟨h.1.trans (congrArg Value.bool (Bool.eq_false_iff.2 h24)), h.2⟩)) ?_)
    intro w hI
    refine pu (.bool false) (by kernel_rfl) (seq_nil (wp_condF rfl (wp_skip (wp_seq (rgn (by kernel_rfl) (pu (iv 51) (by kernel_rfl) (seq_nil (wp_ret ?_))))))))
    replace hF := Option.some.inj hF; subst hF
    exact ⟨iv 51, Ret.r1 rfl rfl, ⟨rfl, hI.below⟩⟩
  ·
   refine seq_on (by kernel_rfl) (s_callv hI 70 [iv p0.hrs, iv 0, iv 16777215] (.bool false) (by kernel_rfl) (Does.mono (L70 _ p0.hrs 0 16777215 _ hy48) (fun v' w' h => ⟨h.1.trans (congrArg Value.bool (Bool.eq_false_iff.2 h23)), h.2⟩)) ?_)
   intro w hI
   refine pu (.bool false) (by kernel_rfl) (pu (.bool false) (by kernel_rfl) (of_ (by kernel_rfl) (of_ (by kernel_rfl) (of_ (by kernel_rfl) (pu (.bool false) (by kernel_rfl) (seq_nil (wp_condF rfl (wp_skip (wp_seq ?_)))))))))
   refine rgn (by kernel_rfl) (pu (iv 51) (by kernel_rfl) (seq_nil (wp_ret ?_)))
   replace hF := Option.some.inj hF; subst hF
   exact ⟨iv 51, Ret.r1 rfl rfl, ⟨rfl, hI.below⟩⟩
 ·
  refine seq_c (s_callv hI 70 [iv p0.fam, iv 1, iv 99] (.bool false) (by kernel_rfl) (Does.mono (L70 _ p0.fam 1 99 _ hy46) (fun v' w' h => ⟨h.1.trans (congrArg Value.bool (Bool.eq_false_iff.2 h22)), h.2⟩)) ?_)
  intro w hI
  refine pu (.bool false) (by kernel_rfl) (of_ (by kernel_rfl) (of_ (by kernel_rfl) (of_ (by kernel_rfl) (pu (.bool false) (by kernel_rfl) (pu (.bool false) (by kernel_rfl) (of_ (by kernel_rfl) (of_ (by kernel_rfl) (of_ (by kernel_rfl) (pu (.bool false) (by kernel_rfl) ?_)))))))))
  refine seq_nil (wp_condF rfl (wp_skip (wp_seq (rgn (by kernel_rfl) (pu (iv 51) (by kernel_rfl) (seq_nil (wp_ret ?_)))))))
  replace hF := Option.some.inj hF; subst hF
  exact ⟨iv 51, Ret.r1 rfl rfl, ⟨rfl, hI.below⟩⟩


theorem L98 (w0 : World) (p0_0 : Int) (Ap0_1 : Option Addr) (cp0_1 : Nat) (lp0_1 : List Cm) (p1 : Int) (hCp0_1 : Cells w0 Ap0_1 (flat eCm lp0_1)) (hMp0_1 : lp0_1.length ≤ 9223372036854775807) (hKp0_1 : lp0_1.length ≤ cp0_1) (N : Nat) (r : Int) (hF : F98 N p0_0 lp0_1 p1 = some r) : Does Try.prog 98 [.agg #[.int .i64 p0_0, .slice Ap0_1 lp0_1.length cp0_1], .int .i64 p1] w0 fun v w => v = .int .i64 r ∧ Below w0.heap.size w0 w := by
 refine calls_of (n := 9) Try.func98 rfl Try.ntmps98 rfl ?_
 have hI := Inv.start w0
 unfold F98 at hF
 refine wp_seq (rgn (by kernel_rfl) (seq_c (s_boxI hI [iv p0_0, .slice Ap0_1 lp0_1.length cp0_1] rfl ?_)))
 intro b444 w hI
 refine seq_c (s_boxI hI [iv p1] rfl ?_)
 intro b445 w hI
 refine pu (iv 0) (by kernel_rfl) (seq_nil (wp_seq (rgn (by kernel_rfl) (pu (.pointer (some ⟨b444, 1, none⟩)) (by kernel_rfl) (seq_c (s_load1 hI 1 (.slice Ap0_1 lp0_1.length cp0_1) Try.isAgg22 rfl rfl rfl ?_))))))
 refine pu (.func (.func 114) #[] #[.pointer (some ⟨b445, 0, none⟩)]) (by kernel_rfl) (seq_c (s_callI 113 [.slice Ap0_1 lp0_1.length cp0_1, .func (.func 114) #[] #[.pointer (some ⟨b445, 0, none⟩)]] (by kernel_rfl) ?_))
 refine calls_of (n := 19) Try.func113 rfl Try.ntmps113 rfl ?_
 refine wp_seq (rgn (by kernel_rfl) (pu (iv 0) (by kernel_rfl) (seq_nil (wp_seq (wp_seq (rgn (by kernel_rfl) (pu (.slice Ap0_1 lp0_1.length cp0_1) (by kernel_rfl) (pu (iv ((lp0_1.length : Nat) : Int)) (by kernel_rfl) (pu (iv 0) (by kernel_rfl) ?_)))))))))
 refine seq_nil (wp_block ?_)
 refine wp_loop (fun m ρ w => ∃ (v850 : Int) (mm : Nat), Agree ρ [(0, .slice Ap0_1 lp0_1.length cp0_1), (1, .func (.func 114) #[] #[.pointer (some ⟨b445, 0, none⟩)]), (7, iv (lp0_1.length : Int)), (8, iv v850)] ∧ Inv [] w0 w [(some b445, blk [iv p1] 3), (some b444, blk [iv p0_0, .slice Ap0_1 lp0_1.length cp0_1] 24)] ∧ F98l1 lp0_1 p1 mm v850 = some r ∧ mm = m) (m := N) ⟨0, N, ⟨rfl, rfl, rfl, rfl, trivial⟩, hI.pickL [0, 1] (by decide) rfl, hF, rfl⟩ ?_
 rintro m ρ w ⟨v850, mm, hag, hI, hF, hm⟩
 subst hm; obtain ⟨ρ, rfl⟩ := hag.form; clear hag
 obtain _ | m1 := mm
 ·cases (show (none : Option Int) = some r from hF)
 replace hF : F98b1 lp0_1 p1 (F98l1 lp0_1 p1 m1) v850 = some r := hF; unfold F98b1 at hF
 refine wp_seq (rgn (by kernel_rfl) (ifE hF (fun h353 hF => ?_) (fun h353 hF => ?_)))
 ·
  refine seq_c (s_lss rfl rfl (fun _ => ?_) (fun h => absurd (a := v850 < (lp0_1.length : Int)) h353 h))
  refine seq_nil (wp_seq (wp_condT rfl (wp_skip (wp_seq (wp_block ?_)))))
  refine wp_seq (rgn (by kernel_rfl) (pu (iv v850) (by kernel_rfl) (pu (iv v850) (by kernel_rfl) (seq_nil (wp_seq (rgn (by kernel_rfl) (pu (.func (.func 114) #[] #[.pointer (some ⟨b445, 0, none⟩)]) (by kernel_rfl) (pu (.slice Ap0_1 lp0_1.length cp0_1) (by kernel_rfl) (pu (iv v850) (by kernel_rfl) ?_)))))))))
  refine gdE hF (fun h364 hF => ?_)
  refine bindE hF (fun x878 hx879 hF => ?_)
  obtain ⟨b880, o881, hA882, hb883, he884⟩ := hCp0_1.at_ eCm_len (by decide) hx879
  refine seq_c (s_indexA (v850).toNat Try.underlying22 Try.sizeOf26 rfl hA882 rfl (Int.toNat_of_nonneg h364).symm (lt_n hx879 rfl) ?_)
  refine seq_c (s_loadBK hI [iv x878.fam, iv x878.hrs, iv x878.wants] Try.isAgg26 Try.sizeOf26 rfl rfl hb883 (by simp) he884 ?_)
  refine seq_c (s_callI 114 [.agg #[iv x878.fam, iv x878.hrs, iv x878.wants], .pointer (some ⟨b445, 0, none⟩)] (by kernel_rfl) ?_)
  refine calls_of (n := 8) Try.func114 rfl Try.ntmps114 rfl ?_
  refine wp_seq (rgn (by kernel_rfl) (seq_c (s_boxI hI [iv x878.fam, iv x878.hrs, iv x878.wants] rfl ?_)))
  intro b885 w hI
  refine pu (.bool false) (by kernel_rfl) (seq_nil (wp_cutO (fun ρ w => ∃ (v886 : Bool), Agree ρ [(3, .bool v886)] ∧ Inv [] w0 w [(some b444, blk [iv p0_0, .slice Ap0_1 lp0_1.length cp0_1] 24), (some b445, blk [iv p1] 3)] ∧ F98j2 (F98l1 lp0_1 p1 m1) v850 v886 = some r) ?_ ?_))
  ·
   refine rgn (by kernel_rfl) (pu (.pointer (some ⟨b885, 0, none⟩)) (by kernel_rfl) (seq_c (s_load1 hI 0 (iv x878.fam) Try.isAgg3 rfl rfl rfl ?_)))
   refine seq_c (s_load1 hI 1 (iv p1) Try.isAgg3 rfl rfl rfl ?_)
   refine ifE hF (fun h368 hF => ?_) (fun h368 hF => ?_)
   ·
    refine seq_c (s_eql rfl rfl (fun _ => ?_) (fun h => absurd (a := x878.fam = p1) h368 h))
    refine pu (.bool true) (by kernel_rfl) (seq_nil ?_)
    exact .inl ⟨rfl, ⟨true, ⟨rfl, trivial⟩, hI.pickL [2, 1] (by decide) rfl, hF⟩⟩
   ·
    refine seq_c (s_eql rfl rfl (fun h => absurd (a := x878.fam = p1) h h368) (fun _ => ?_))
    refine pu (.bool false) (by kernel_rfl) (seq_nil ?_)
    exact .inl ⟨rfl, ⟨false, ⟨rfl, trivial⟩, hI.pickL [2, 1] (by decide) rfl, hF⟩⟩
  ·intro ρ w hJ
   obtain ⟨v886, hag, hI, hF⟩ := hJ
   obtain ⟨ρ, rfl⟩ := hag.form; clear hag
   unfold F98j2 at hF
   refine wp_ret (⟨.bool v886, Ret.r1 rfl rfl, ?_⟩)
   refine seq_nil (ifE hF (fun h366 hF => ?_) (fun h366 hF => ?_))
   ·
    refine wp_cond (t := v886) rfl (fun _ => ?_) (fun h => absurd (a := v886 = true) h366 (by rw [h]; decide))
    refine wp_seq (rgn (by kernel_rfl) (pu (iv v850) (by kernel_rfl) (pu (iv v850) (by kernel_rfl) (seq_nil (wp_ret (⟨iv v850, Ret.r1 rfl rfl, ?_⟩))))))
    refine pu (iv v850) (by kernel_rfl) (seq_nil (wp_ret ?_))
    replace hF := Option.some.inj hF; subst hF
    exact ⟨iv v850, Ret.r1 rfl rfl, ⟨rfl, hI.below⟩⟩
   ·
    refine wp_cond (t := v886) rfl (fun h => absurd (a := v886 = true) h h366) (fun _ => ?_)
    refine wp_skip (rgn (by kernel_rfl) (ckE hF (fun h367 hF => ?_)))
    refine seq_c (s_add rfl rfl h367 ?_)
    refine pu (iv (v850 + 1)) (by kernel_rfl) (seq_nil ?_)
    exact ⟨rfl, m1, Nat.lt_succ_self _, ⟨v850 + 1, m1, ⟨rfl, rfl, rfl, rfl, trivial⟩, hI.pickL [1, 0] (by decide) rfl, hF, rfl⟩⟩
 ·
  refine seq_c (s_lss rfl rfl (fun h => absurd (a := v850 < (lp0_1.length : Int)) h h353) (fun _ => ?_))
  refine seq_nil (wp_seq (wp_condF rfl (wp_exit ?_)))
  refine wp_seq (rgn (by kernel_rfl) (pu (iv (-1)) (by kernel_rfl) (seq_nil (wp_ret (⟨iv (-1), Ret.r1 rfl rfl, ?_⟩)))))
  refine pu (iv (-1)) (by kernel_rfl) (seq_nil (wp_ret ?_))
  replace hF := Option.some.inj hF; subst hF
  exact ⟨iv (-1), Ret.r1 rfl rfl, ⟨rfl, hI.below⟩⟩


theorem L63 (w0 : World) (p0_0 : Int) (Ap0_1 : Option Addr) (cp0_1 : Nat) (lp0_1 : List Cm) (p1 : Cm) (hCp0_1 : Cells w0 Ap0_1 (flat eCm lp0_1)) (hMp0_1 : lp0_1.length ≤ 9223372036854775807) (hKp0_1 : lp0_1.length ≤ cp0_1) (N : Nat) (r : Bool) (hF : F63 N p0_0 lp0_1 p1 = some r) : Does Try.prog 63 [.agg #[.int .i64 p0_0, .slice Ap0_1 lp0_1.length cp0_1], .agg #[.int .i64 p1.fam, .int .i64 p1.hrs, .int .i64 p1.wants]] w0 fun v w => v = .bool r ∧ Below w0.heap.size w0 w := by
 refine calls_of (n := 23) Try.func63 rfl Try.ntmps63 rfl ?_
 have hI := Inv.start w0
 unfold F63 at hF
 refine wp_seq (rgn (by kernel_rfl) (seq_c (s_boxI hI [iv p0_0, .slice Ap0_1 lp0_1.length cp0_1] rfl ?_)))
 intro b12 w hI
 refine seq_c (s_boxI hI [iv p1.fam, iv p1.hrs, iv p1.wants] rfl ?_)
 intro b13 w hI
 refine pu (.bool false) (by kernel_rfl) (seq_nil (wp_seq (rgn (by kernel_rfl) (seq_c (s_loadK hI 0 3 [iv p1.fam, iv p1.hrs, iv p1.wants] Try.isAgg26 Try.sizeOf26 rfl rfl rfl rfl ?_)))))
 refine bindE hF (fun y19 hy20 hF => ?_)
 refine seq_c (s_callv hI 21 [.agg #[iv p1.fam, iv p1.hrs, iv p1.wants]] (iv y19) (by kernel_rfl) (L21 _ p1 _ hy20) ?_)
 intro w hI
 refine ifE hF (fun h13 hF => ?_) (fun h13 hF => ?_)
 ·
  refine seq_c (s_eql rfl rfl (fun _ => ?_) (fun h => absurd (a := y19 = 0) h13 h))
  refine pu (.bool true) (by kernel_rfl) (puo (.pointer (some ⟨b13, 1, none⟩)) ⟨(by kernel_rfl), (by kernel_rfl)⟩ (seq_on (by kernel_rfl) (s_load1 hI 0 (iv p1.hrs) Try.isAgg3 rfl rfl rfl ?_)))
  refine puo (.pointer (some ⟨b12, 0, none⟩)) ⟨(by kernel_rfl), (by kernel_rfl)⟩ (seq_on (by kernel_rfl) (s_load1 hI 1 (iv p0_0) Try.isAgg3 rfl rfl rfl ?_))
  refine gdE hF (fun h14 hF => ?_)
  refine seq_on (by kernel_rfl) (s_shr rfl rfl h14 ?_)
  refine ifE hF (fun h15 hF => ?_) (fun h15 hF => ?_)
  ·
   refine seq_on (by kernel_rfl) (s_eql rfl rfl (fun _ => ?_) (fun h => absurd (a := (p1.hrs.fdiv (2 ^ (p0_0 : Int).toNat)) = 0) h15 h))
   refine pu (.bool true) (by kernel_rfl) (pu (.bool true) (by kernel_rfl) (seq_on (by kernel_rfl) (s_loadK hI 1 2 [iv p0_0, .slice Ap0_1 lp0_1.length cp0_1] Try.isAgg24 Try.sizeOf24 rfl rfl rfl rfl ?_)))
   refine puo (.pointer (some ⟨b13, 0, none⟩)) ⟨(by kernel_rfl), (by kernel_rfl)⟩ (seq_on (by kernel_rfl) (s_load1 hI 0 (iv p1.fam) Try.isAgg3 rfl rfl rfl ?_))
   refine bindE hF (fun y21 hy22 hF => ?_)
   refine seq_on (by kernel_rfl) (s_callv hI 98 [.agg #[iv p0_0, .slice Ap0_1 lp0_1.length cp0_1], iv p1.fam] (iv y21) (by kernel_rfl) (L98 _ p0_0 Ap0_1 cp0_1 lp0_1 p1.fam (hCp0_1.inv0 hI) hMp0_1 hKp0_1 N _ hy22) ?_)
   intro w hI
   refine ifE hF (fun h16 hF => ?_) (fun h16 hF => ?_)
   ·
    refine seq_on (by kernel_rfl) (s_eql rfl rfl (fun _ => ?_) (fun h => absurd (a := y21 = (-1)) h16 h))
    refine pu (.bool true) (by kernel_rfl) (pu (.bool true) (by kernel_rfl) (seq_nil (wp_ret ?_)))
    replace hF := Option.some.inj hF; subst hF
    exact ⟨.bool true, Ret.r1 rfl rfl, ⟨rfl, hI.below⟩⟩
   ·
    refine seq_on (by kernel_rfl) (s_eql rfl rfl (fun h => absurd (a := y21 = (-1)) h h16) (fun _ => ?_))
    refine pu (.bool false) (by kernel_rfl) (pu (.bool false) (by kernel_rfl) (seq_nil (wp_ret ?_)))
    replace hF := Option.some.inj hF; subst hF
    exact ⟨.bool false, Ret.r1 rfl rfl, ⟨rfl, hI.below⟩⟩
  ·
   refine seq_on (by kernel_rfl) (s_eql rfl rfl (fun h => absurd (a := (p1.hrs.fdiv (2 ^ (p0_0 : Int).toNat)) = 0) h h15) (fun _ => ?_))
   refine pu (.bool false) (by kernel_rfl) (pu (.bool false) (by kernel_rfl) (of_ (by kernel_rfl) (of_ (by kernel_rfl) (of_ (by kernel_rfl) (of_ (by kernel_rfl) (of_ (by kernel_rfl) (pu (.bool false) (by kernel_rfl) (pu (.bool false) (by kernel_rfl) (seq_nil ?_)))))))))
   refine wp_ret ?_
   replace hF := Option.some.inj hF; subst hF
   exact ⟨.bool false, Ret.r1 rfl rfl, ⟨rfl, hI.below⟩⟩
 ·
  refine seq_c (s_eql rfl rfl (fun h => absurd (a := y19 = 0) h h13) (fun _ => ?_))
  refine pu (.bool false) (by kernel_rfl) (of_ (by kernel_rfl) (of_ (by kernel_rfl) (of_ (by kernel_rfl) (of_ (by kernel_rfl) (of_ (by kernel_rfl) (of_ (by kernel_rfl) (pu (.bool false) (by kernel_rfl) (pu (.bool false) (by kernel_rfl) (of_ (by kernel_rfl) ?_)))))))))
  refine of_ (by kernel_rfl) (of_ (by kernel_rfl) (of_ (by kernel_rfl) (of_ (by kernel_rfl) (pu (.bool false) (by kernel_rfl) (pu (.bool false) (by kernel_rfl) (seq_nil (wp_ret ?_)))))))
  replace hF := Option.some.inj hF; subst hF
  exact ⟨.bool false, Ret.r1 rfl rfl, ⟨rfl, hI.below⟩⟩


theorem L23 (w0 : World) (p0_0 : Int) (Ap0_1 : Option Addr) (cp0_1 : Nat) (lp0_1 : List Cm) (hCp0_1 : Cells w0 Ap0_1 (flat eCm lp0_1)) (hMp0_1 : lp0_1.length ≤ 9223372036854775807) (hKp0_1 : lp0_1.length ≤ cp0_1) (N : Nat) (r : Int) (hF : F23 N p0_0 lp0_1 = some r) : Does Try.prog 23 [.agg #[.int .i64 p0_0, .slice Ap0_1 lp0_1.length cp0_1]] w0 fun v w => v = .int .i64 r ∧ Below w0.heap.size w0 w := by
 refine calls_of (n := 34) Try.func23 rfl Try.ntmps23 rfl ?_
 have hI := Inv.start w0
 unfold F23 at hF
 refine wp_seq (rgn (by kernel_rfl) (seq_c (s_boxI hI [iv p0_0, .slice Ap0_1 lp0_1.length cp0_1] rfl ?_)))
 intro b302 w hI
 refine pu (iv 0) (by kernel_rfl) (seq_nil (wp_seq (wp_seq (rgn (by kernel_rfl) (pu (.pointer (some ⟨b302, 0, none⟩)) (by kernel_rfl) (seq_c (s_load1 hI 0 (iv p0_0) Try.isAgg3 rfl rfl rfl ?_)))))))
 refine bindE hF (fun y309 hy310 hF => ?_)
 refine ifE hF (fun h87 hF => ?_) (fun h87 hF => ?_)
 ·
  refine seq_c (s_callv hI 70 [iv p0_0, iv 0, iv 24] (.bool true) (by kernel_rfl) (Does.mono (L70 _ p0_0 0 24 _ hy310) (fun v' w' h => ⟨h.1.trans (congrArg Value.bool h87), h.2⟩)) ?_)
  intro w hI
  refine pu (.bool false) (by kernel_rfl) (pu (.bool false) (by kernel_rfl) (puo (.pointer (some ⟨b302, 1, none⟩)) ⟨(by kernel_rfl), (by kernel_rfl)⟩ (seq_on (by kernel_rfl) (s_load1 hI 0 (.slice Ap0_1 lp0_1.length cp0_1) Try.isAgg22 rfl rfl rfl ?_))))
  refine puo (iv ((lp0_1.length : Nat) : Int)) ⟨(by kernel_rfl), (by kernel_rfl)⟩ (ifE hF (fun h88 hF => ?_) (fun h88 hF => ?_))
  ·
   refine seq_on (by kernel_rfl) (s_gtr rfl rfl (fun _ => ?_) (fun h => absurd (a := 12 < (lp0_1.length : Int)) h88 h))
   refine pu (.bool true) (by kernel_rfl) (seq_nil (wp_condT rfl (wp_seq (rgn (by kernel_rfl) (pu (iv 52) (by kernel_rfl) (seq_nil (wp_ret ?_)))))))
   replace hF := Option.some.inj hF; subst hF
   exact ⟨iv 52, Ret.r1 rfl rfl, ⟨rfl, hI.below⟩⟩
  ·
   refine seq_on (by kernel_rfl) (s_gtr rfl rfl (fun h => absurd (a := 12 < (lp0_1.length : Int)) h h88) (fun _ => ?_))
   refine pu (.bool false) (by kernel_rfl) (seq_nil (wp_condF rfl (wp_skip (wp_seq (wp_seq (rgn (by kernel_rfl) (pu (.pointer (some ⟨b302, 1, none⟩)) (by kernel_rfl) (seq_c (s_load1 hI 0 (.slice Ap0_1 lp0_1.length cp0_1) Try.isAgg22 rfl rfl rfl ?_)))))))))
   refine pu (iv ((lp0_1.length : Nat) : Int)) (by kernel_rfl) (pu (iv 0) (by kernel_rfl) (seq_nil (wp_block ?_)))
   refine wp_loop (fun m ρ w => ∃ (v554 : Int) (mm : Nat), Agree ρ [(1, .pointer (some ⟨b302, 0, none⟩)), (16, .slice Ap0_1 lp0_1.length cp0_1), (17, iv (lp0_1.length : Int)), (18, iv v554)] ∧ Inv [] w0 w [(some b302, blk [iv p0_0, .slice Ap0_1 lp0_1.length cp0_1] 24)] ∧ F23l1 p0_0 lp0_1 N mm v554 = some r ∧ mm = m) (m := N) ⟨0, N, ⟨rfl, rfl, rfl, rfl, trivial⟩, hI.pickL [0] (by decide) rfl, hF, rfl⟩ ?_
   rintro m ρ w ⟨v554, mm, hag, hI, hF, hm⟩
   subst hm; obtain ⟨ρ, rfl⟩ := hag.form; clear hag
   obtain _ | m1 := mm
   ·cases (show (none : Option Int) = some r from hF)
   replace hF : F23b1 p0_0 lp0_1 N (F23l1 p0_0 lp0_1 N m1) v554 = some r := hF; unfold F23b1 at hF
   refine wp_seq (rgn (by kernel_rfl) (ifE hF (fun h149 hF => ?_) (fun h149 hF => ?_)))
   ·
    refine seq_c (s_lss rfl rfl (fun _ => ?_) (fun h => absurd (a := v554 < (lp0_1.length : Int)) h149 h))
    refine seq_nil (wp_seq (wp_condT rfl (wp_skip (wp_seq (wp_block ?_)))))
    refine wp_seq (rgn (by kernel_rfl) (pu (iv v554) (by kernel_rfl) (gdE hF (fun h155 hF => ?_))))
    refine bindE hF (fun x579 hx580 hF => ?_)
    obtain ⟨b581, o582, hA583, hb584, he585⟩ := hCp0_1.at_ eCm_len (by decide) hx580
    refine seq_c (s_indexA (v554).toNat Try.underlying22 Try.sizeOf26 rfl hA583 rfl (Int.toNat_of_nonneg h155).symm (lt_n hx580 rfl) ?_)
    refine seq_c (s_loadBK hI [iv x579.fam, iv x579.hrs, iv x579.wants] Try.isAgg26 Try.sizeOf26 rfl rfl hb584 (by simp) he585 ?_)
    refine seq_c (s_allocI hI [iv 0, iv 0, iv 0] Try.zeroValue26 rfl ?_)
    intro b586 w hI
    refine pu (iv v554) (by kernel_rfl) (seq_c (s_store hI 0 3 [iv x579.fam, iv x579.hrs, iv x579.wants] Try.sizeOf26 rfl rfl rfl rfl rfl (Nat.le_of_ble_eq_true rfl) ?_))
    intro w hI
    refine seq_nil (wp_seq (gdE hF (fun h158 hF => ?_)))
    refine bindE hF (fun y597 hy598 hF => ?_)
    refine ifE hF (fun h159 hF => ?_) (fun h159 hF => ?_)
    ·
     refine wp_drawn2 hI [0, 1] (by decide) rfl (by kernel_rfl) (by kernel_rfl) ?_
     intro hsub
     refine alp 0 (.pointer (some ⟨b302, 0, none⟩)) hsub rfl (by kernel_rfl) (fun _ => (by kernel_rfl)) ?_
     refine al_light 1 (iv p0_0) hsub rfl (by kernel_rfl) (fun w hI => s_load1 hI 1 (iv p0_0) Try.isAgg3 rfl rfl rfl ⟨rfl, Below.refl _ _⟩) ?_
     refine alp 2 (.pointer (some ⟨b302, 1, none⟩)) hsub rfl (by kernel_rfl) (fun _ => (by kernel_rfl)) ?_
     refine al_light 3 (.slice Ap0_1 lp0_1.length cp0_1) hsub rfl (by kernel_rfl) (fun w hI => s_load1 hI 1 (.slice Ap0_1 lp0_1.length cp0_1) Try.isAgg22 rfl rfl rfl ⟨rfl, Below.refl _ _⟩) ?_
     refine alp 4 (iv v554) hsub rfl (by kernel_rfl) (fun _ => (by kernel_rfl)) ?_
     obtain ⟨A599, hC600, hA599⟩ := cutA (enc := eCm) (l := lp0_1) (lo := 0) (hi := (v554).toNat) (c := cp0_1) (k := 3) eCm_len hCp0_1 h158 hKp0_1
     refine al_light 5 (.slice A599 (((lp0_1.drop 0).take ((v554).toNat - 0)).length) (cp0_1 - 0)) hsub rfl (by kernel_rfl) (fun w hI => hA599 Try.underlying22 Try.sizeOf26 rfl (.inr ⟨rfl, rfl⟩) (.inl (congrArg (fun z => some (Value.int .i64 z)) (Int.toNat_of_nonneg h155).symm)) ⟨rfl, Below.refl _ _⟩) ?_
     refine alp 6 (.agg #[iv p0_0, .slice A599 (((lp0_1.drop 0).take ((v554).toNat - 0)).length) (cp0_1 - 0)]) hsub rfl (by kernel_rfl) (fun _ => (by kernel_rfl)) ?_
     refine al_light 7 (.agg #[iv x579.fam, iv x579.hrs, iv x579.wants]) hsub rfl (by kernel_rfl) (fun w hI => s_loadK hI 0 3 [iv x579.fam, iv x579.hrs, iv x579.wants] Try.isAgg26 Try.sizeOf26 rfl rfl rfl rfl ⟨rfl, Below.refl _ _⟩) ?_
     refine al_light 8 (.bool true) hsub rfl (by kernel_rfl) (fun w hI => s_call 63 [.agg #[iv p0_0, .slice A599 (((lp0_1.drop 0).take ((v554).toNat - 0)).length) (cp0_1 - 0)], .agg #[iv x579.fam, iv x579.hrs, iv x579.wants]] (by kernel_rfl) (Does.mono (L63 _ p0_0 A599 (cp0_1 - 0) ((lp0_1.drop 0).take ((v554).toNat - 0)) x579 (hC600.inv0 hI) (cut_big h158 hMp0_1) (cut_cap h158 hKp0_1) N _ hy598) (fun v' w' h => ⟨h.1.trans (congrArg Value.bool h159), h.2⟩)) (fun v' w' h => h)) ?_
     refine alp 9 (.bool false) hsub rfl (by kernel_rfl) (fun _ => (by kernel_rfl)) ?_
     refine any_end (by kernel_rfl) (fun w hI => ?_)
     refine wp_condF rfl (wp_skip (rgn (by kernel_rfl) (ckE hF (fun h160 hF => ?_))))
     refine seq_c (s_add rfl rfl h160 ?_)
     refine pu (iv (v554 + 1)) (by kernel_rfl) (seq_nil ?_)
     exact ⟨rfl, m1, Nat.lt_succ_self _, ⟨v554 + 1, m1, ⟨rfl, rfl, rfl, rfl, trivial⟩, hI.pickL [1] (by decide) rfl, hF, rfl⟩⟩
    ·
     refine wp_drawn2 hI [0, 1] (by decide) rfl (by kernel_rfl) (by kernel_rfl) ?_
     intro hsub
     refine alp 0 (.pointer (some ⟨b302, 0, none⟩)) hsub rfl (by kernel_rfl) (fun _ => (by kernel_rfl)) ?_
     refine al_light 1 (iv p0_0) hsub rfl (by kernel_rfl) (fun w hI => s_load1 hI 1 (iv p0_0) Try.isAgg3 rfl rfl rfl ⟨rfl, Below.refl _ _⟩) ?_
     refine alp 2 (.pointer (some ⟨b302, 1, none⟩)) hsub rfl (by kernel_rfl) (fun _ => (by kernel_rfl)) ?_
     refine al_light 3 (.slice Ap0_1 lp0_1.length cp0_1) hsub rfl (by kernel_rfl) (fun w hI => s_load1 hI 1 (.slice Ap0_1 lp0_1.length cp0_1) Try.isAgg22 rfl rfl rfl ⟨rfl, Below.refl _ _⟩) ?_
     refine alp 4 (iv v554) hsub rfl (by kernel_rfl) (fun _ => (by kernel_rfl)) ?_
     obtain ⟨A601, hC602, hA601⟩ := cutA (enc := eCm) (l := lp0_1) (lo := 0) (hi := (v554).toNat) (c := cp0_1) (k := 3) eCm_len hCp0_1 h158 hKp0_1
     refine al_light 5 (.slice A601 (((lp0_1.drop 0).take ((v554).toNat - 0)).length) (cp0_1 - 0)) hsub rfl (by kernel_rfl) (fun w hI => hA601 Try.underlying22 Try.sizeOf26 rfl (.inr ⟨rfl, rfl⟩) (.inl (congrArg (fun z => some (Value.int .i64 z)) (Int.toNat_of_nonneg h155).symm)) ⟨rfl, Below.refl _ _⟩) ?_
     refine alp 6 (.agg #[iv p0_0, .slice A601 (((lp0_1.drop 0).take ((v554).toNat - 0)).length) (cp0_1 - 0)]) hsub rfl (by kernel_rfl) (fun _ => (by kernel_rfl)) ?_
     refine al_light 7 (.agg #[iv x579.fam, iv x579.hrs, iv x579.wants]) hsub rfl (by kernel_rfl) (fun w hI => s_loadK hI 0 3 [iv x579.fam, iv x579.hrs, iv x579.wants] Try.isAgg26 Try.sizeOf26 rfl rfl rfl rfl ⟨rfl, Below.refl _ _⟩) ?_
     refine al_light 8 (.bool false) hsub rfl (by kernel_rfl) (fun w hI => s_call 63 [.agg #[iv p0_0, .slice A601 (((lp0_1.drop 0).take ((v554).toNat - 0)).length) (cp0_1 - 0)], .agg #[iv x579.fam, iv x579.hrs, iv x579.wants]] (by kernel_rfl) (Does.mono (L63 _ p0_0 A601 (cp0_1 - 0) ((lp0_1.drop 0).take ((v554).toNat - 0)) x579 (hC602.inv0 hI) (cut_big h158 hMp0_1) (cut_cap h158 hKp0_1) N _ hy598) (fun v' w' h => ⟨h.1.trans (congrArg Value.bool (Bool.eq_false_iff.2 h159)), h.2⟩)) (fun v' w' h => h)) ?_
     refine alp 9 (.bool true) hsub rfl (by kernel_rfl) (fun _ => (by kernel_rfl)) ?_
     refine any_end (by kernel_rfl) (fun w hI => ?_)
     refine wp_condT rfl (wp_seq (rgn (by kernel_rfl) (pu (iv 52) (by kernel_rfl) (seq_nil (wp_ret ?_)))))
     replace hF := Option.some.inj hF; subst hF
     exact ⟨iv 52, Ret.r1 rfl rfl, ⟨rfl, hI.below⟩⟩
   ·
    refine seq_c (s_lss rfl rfl (fun h => absurd (a := v554 < (lp0_1.length : Int)) h h149) (fun _ => ?_))
    refine seq_nil (wp_seq (wp_condF rfl (wp_exit ?_)))
    refine wp_seq (rgn (by kernel_rfl) (pu (iv 0) (by kernel_rfl) (seq_nil (wp_ret ?_))))
    replace hF := Option.some.inj hF; subst hF
    exact ⟨iv 0, Ret.r1 rfl rfl, ⟨rfl, hI.below⟩⟩
 ·
  refine seq_c (s_callv hI 70 [iv p0_0, iv 0, iv 24] (.bool false) (by kernel_rfl) (Does.mono (L70 _ p0_0 0 24 _ hy310) (fun v' w' h => ⟨h.1.trans (congrArg Value.bool (Bool.eq_false_iff.2 h87)), h.2⟩)) ?_)
  intro w hI
  refine pu (.bool true) (by kernel_rfl) (pu (.bool true) (by kernel_rfl) (of_ (by kernel_rfl) (of_ (by kernel_rfl) (of_ (by kernel_rfl) (of_ (by kernel_rfl) (pu (.bool true) (by kernel_rfl) (seq_nil (wp_condT rfl (wp_seq ?_)))))))))
  refine rgn (by kernel_rfl) (pu (iv 52) (by kernel_rfl) (seq_nil (wp_ret ?_)))
  replace hF := Option.some.inj hF; subst hF
  exact ⟨iv 52, Ret.r1 rfl rfl, ⟨rfl, hI.below⟩⟩

theorem L64 (w0 : World) (Ap0 : Option Addr) (cp0 : Nat) (lp0 : List Cm) (hCp0 : Cells w0 Ap0 (flat eCm lp0)) (hMp0 : lp0.length ≤ 9223372036854775807) (hKp0 : lp0.length ≤ cp0) (r : List Cm) (hF : F64 lp0 = some r) : Does Try.prog 64 [.slice Ap0 lp0.length cp0] w0 fun v w => ∃ (z0 : Option Nat) (z1 : Nat) (z2 : List Value), v = slv z0 r.length z1 ∧ Inv [] w0 w [(z0, blk z2 26)] ∧ Row 3 z0 r.length z1 z2 (flat eCm r) := by
 refine gdE hF (fun hb hF => ?_)
 replace hF := Option.some.inj hF; subst hF
 refine calls_of (n := 8) Try.func64 rfl Try.ntmps64 rfl ?_
 have hI := Inv.start w0
 refine wp_seq (rgn (by kernel_rfl) (pu (.slice none 0 0) (by kernel_rfl) (seq_nil (wp_seq (wp_seq (rgn (by kernel_rfl) (pu (.slice Ap0 lp0.length cp0) (by kernel_rfl) (seq_c (s_eqnil Try.underlying22 rfl rfl ?_ ?_)))))))))
 · intro h1; subst h1
   obtain rfl := flat_nil_of eCm_len (by decide) hCp0.nil_of
   refine seq_nil (wp_condT rfl (wp_seq (rgn (by kernel_rfl) (pu (.slice none 0 0) (by kernel_rfl) (seq_nil (wp_ret ?_))))))
   have hI := hI.nilRow 26
   exact ⟨.slice none 0 0, Ret.r1 rfl rfl, ⟨none, 0, [], rfl, hI.pickL [0] (by decide) rfl, Row.nil_ 3⟩⟩
 · intro h2
   refine seq_nil (wp_condF rfl (wp_skip (wp_seq (rgn (by kernel_rfl) (seq_c (s_new hI [] 26 (fun b => slv (some b) 0 0) (by kernel_rfl) ?_))))))
   intro b1 w hI
   refine pu (.slice Ap0 lp0.length cp0) (by kernel_rfl) (seq_c (s_appN hI Try.underlying22 (z := .agg #[.int .i64 0, .int .i64 0, .int .i64 0]) (k := 3) (bytes := 24) (by kernel_rfl) rfl rfl 0 rfl rfl (Row.zero_ 3 b1) (flat eCm lp0) rfl (flat_len eCm_len _) (hCp0.inv0 hI) (flat_cell eCm_cell _) (by omega) (by omega) (n2 := lp0.length) (by omega) ?_))
   intro g2 c3 cl4 w hI r5
   refine pu (slv g2 lp0.length c3) (by kernel_rfl) (seq_nil (wp_ret ?_))
   exact ⟨slv g2 lp0.length c3, Ret.r1 rfl rfl, ⟨g2, c3, cl4, rfl, hI.pickL [0] (by decide) rfl, r5⟩⟩


theorem L14 (w0 : World) (p0_0 : Int) (Ap0_1 : Option Addr) (cp0_1 : Nat) (lp0_1 : List Cm) (p1 : Cm) (hCp0_1 : Cells w0 Ap0_1 (flat eCm lp0_1)) (hMp0_1 : lp0_1.length ≤ 9223372036854775807) (hKp0_1 : lp0_1.length ≤ cp0_1) (N : Nat) (r : (Int × List Cm × Int)) (hF : F14 N p0_0 lp0_1 p1 = some r) : Does Try.prog 14 [.agg #[.int .i64 p0_0, .slice Ap0_1 lp0_1.length cp0_1], .agg #[.int .i64 p1.fam, .int .i64 p1.hrs, .int .i64 p1.wants]] w0 fun v w => ∃ (z0 : Option Nat) (z1 : Nat) (z2 : List Value), v = .tuple #[.agg #[.int .i64 r.1, slv z0 r.2.1.length z1], .int .i64 r.2.2] ∧ Inv [] w0 w [(z0, blk z2 26)] ∧ Row 3 z0 r.2.1.length z1 z2 (flat eCm r.2.1) := by
 refine calls_of (n := 32) Try.func14 rfl Try.ntmps14 rfl ?_
 have hI := Inv.start w0
 unfold F14 at hF
 refine wp_seq (rgn (by kernel_rfl) (seq_c (s_boxI hI [iv p0_0, .slice Ap0_1 lp0_1.length cp0_1] rfl ?_)))
 intro b83 w hI
 refine seq_c (s_boxI hI [iv p1.fam, iv p1.hrs, iv p1.wants] rfl ?_)
 intro b84 w hI
 refine seq_c (s_allocI hI [iv 0, .slice none 0 0] Try.zeroValue24 rfl ?_)
 intro b85 w hI
 refine pu (iv 0) (by kernel_rfl) (seq_nil (wp_seq (wp_seq (rgn (by kernel_rfl) (seq_c (s_loadK hI 2 2 [iv p0_0, .slice Ap0_1 lp0_1.length cp0_1] Try.isAgg24 Try.sizeOf24 rfl rfl rfl rfl ?_))))))
 refine bindE hF (fun y92 hy93 hF => ?_)
 refine seq_c (s_callv hI 23 [.agg #[iv p0_0, .slice Ap0_1 lp0_1.length cp0_1]] (iv y92) (by kernel_rfl) (L23 _ p0_0 Ap0_1 cp0_1 lp0_1 (hCp0_1.inv0 hI) hMp0_1 hKp0_1 N _ hy93) ?_)
 intro w hI
 refine pu (iv y92) (by kernel_rfl) (seq_nil (wp_seq (rgn (by kernel_rfl) (pu (iv y92) (by kernel_rfl) (ifE hF (fun h18 hF => ?_) (fun h18 hF => ?_))))))
 ·
  refine seq_c (s_neq rfl rfl (fun h => absurd (a := y92 = 0) h18 h) (fun _ => ?_))
  refine seq_nil (wp_condF rfl (wp_skip (wp_seq (wp_seq (rgn (by kernel_rfl) (seq_c (s_loadK hI 2 2 [iv p0_0, .slice Ap0_1 lp0_1.length cp0_1] Try.isAgg24 Try.sizeOf24 rfl rfl rfl rfl ?_)))))))
  refine seq_c (s_loadK hI 1 3 [iv p1.fam, iv p1.hrs, iv p1.wants] Try.isAgg26 Try.sizeOf26 rfl rfl rfl rfl ?_)
  refine bindE hF (fun y100 hy101 hF => ?_)
  refine ifE hF (fun h22 hF => ?_) (fun h22 hF => ?_)
  ·
   refine seq_c (s_callv hI 63 [.agg #[iv p0_0, .slice Ap0_1 lp0_1.length cp0_1], .agg #[iv p1.fam, iv p1.hrs, iv p1.wants]] (.bool true) (by kernel_rfl) (Does.mono (L63 _ p0_0 Ap0_1 cp0_1 lp0_1 p1 (hCp0_1.inv0 hI) hMp0_1 hKp0_1 N _ hy101) (fun v' w' h => ⟨h.1.trans (congrArg Value.bool h22), h.2⟩)) ?_)
   intro w hI
   refine pu (.bool false) (by kernel_rfl) (seq_nil (wp_condF rfl (wp_skip (wp_seq (wp_seq (rgn (by kernel_rfl) (pu (.pointer (some ⟨b83, 1, none⟩)) (by kernel_rfl) (seq_c (s_load1 hI 2 (.slice Ap0_1 lp0_1.length cp0_1) Try.isAgg22 rfl rfl rfl ?_)))))))))
   refine pu (iv ((lp0_1.length : Nat) : Int)) (by kernel_rfl) (ifE hF (fun h26 hF => ?_) (fun h26 hF => ?_))
   ·
    refine seq_c (s_eql rfl rfl (fun _ => ?_) (fun h => absurd (a := (lp0_1.length : Int) = 12) h26 h))
    refine seq_nil (wp_condT rfl (wp_seq (rgn (by kernel_rfl) (pu (.agg #[iv 0, .slice none 0 0]) (by kernel_rfl) (seq_c (s_store hI 0 2 [iv 0, .slice none 0 0] Try.sizeOf24 rfl rfl rfl rfl rfl (Nat.le_of_ble_eq_true rfl) ?_))))))
    intro w hI
    refine pu (iv 2) (by kernel_rfl) (seq_nil (wp_ret ?_))
    have hI := hI.nilRow 26
    replace hF := Option.some.inj hF; subst hF
    exact ⟨.tuple #[.agg #[iv 0, .slice none 0 0], iv 2], Ret.ct rfl rfl (run_loadK hI 1 2 [iv 0, .slice none 0 0] Try.isAgg24 Try.sizeOf24 rfl rfl rfl) rfl, ⟨none, 0, [], rfl, hI.pickL [0] (by decide) rfl, Row.nil_ 3⟩⟩
   ·
    refine seq_c (s_eql rfl rfl (fun h => absurd (a := (lp0_1.length : Int) = 12) h h26) (fun _ => ?_))
    refine seq_nil (wp_condF rfl (wp_skip (wp_seq (bindE hF (fun y136 hy137 hF => ?_)))))
    refine gdE hF (fun h28 hF => ?_)
    replace hI := hI.pickL [1, 2, 0] (by decide) rfl
    refine wp_drawn2 hI [0, 1] (by decide) rfl (by kernel_rfl) (by kernel_rfl) ?_
    intro hsub
    refine alp 0 (.pointer (some ⟨b83, 0, none⟩)) hsub rfl (by kernel_rfl) (fun _ => (by kernel_rfl)) ?_
    refine al_light 1 (iv p0_0) hsub rfl (by kernel_rfl) (fun w hI => s_load1 hI 1 (iv p0_0) Try.isAgg3 rfl rfl rfl ⟨rfl, Below.refl _ _⟩) ?_
    refine alp 2 (.pointer (some ⟨b83, 1, none⟩)) hsub rfl (by kernel_rfl) (fun _ => (by kernel_rfl)) ?_
    refine al_light 3 (.slice Ap0_1 lp0_1.length cp0_1) hsub rfl (by kernel_rfl) (fun w hI => s_load1 hI 1 (.slice Ap0_1 lp0_1.length cp0_1) Try.isAgg22 rfl rfl rfl ⟨rfl, Below.refl _ _⟩) ?_
    refine al_light 5 (.agg #[iv p1.fam, iv p1.hrs, iv p1.wants]) hsub rfl (by kernel_rfl) (fun w hI => s_loadK hI 0 3 [iv p1.fam, iv p1.hrs, iv p1.wants] Try.isAgg26 Try.sizeOf26 rfl rfl rfl rfl ⟨rfl, Below.refl _ _⟩) ?_
    refine any_heavy [4, 6] (by kernel_rfl) rfl (each2 ?_ ?_)
    ·intro w hI
     refine ol_c rfl (s_call 64 [.slice Ap0_1 lp0_1.length cp0_1] (by kernel_rfl) (L64 _ Ap0_1 cp0_1 lp0_1 (hCp0_1.inv0 hI) hMp0_1 hKp0_1 _ hy137) ?_)
     rintro v w ⟨g147, c148, cl149, rfl, hN, r150⟩
     have hI := hI.join hN; clear hN
     refine ⟨_, hI, subk (fun _ h => h.pickL [1, 2] (by decide) rfl) ?_⟩
     intro hsub
     refine any_heavy [6] (by kernel_rfl) rfl (each1 ?_)
     intro w hI
     refine ol_c rfl (s_new hI [iv p1.fam, iv p1.hrs, iv p1.wants] 26 (fun b => slv (some b) 1 1) (by kernel_rfl) ?_)
     intro b151 w hI
     refine ⟨_, hI, subk (fun _ h => h.pickL [2, 3] (by decide) rfl) ?_⟩
     intro hsub
     refine any_heavy [7] (by kernel_rfl) rfl (each1 ?_)
     intro w hI
     refine ol_c rfl (s_appN hI Try.underlying22 (z := .agg #[iv 0, iv 0, iv 0]) (k := 3) (bytes := 24) (by kernel_rfl) rfl rfl 1 rfl rfl r150 [iv p1.fam, iv p1.hrs, iv p1.wants] rfl rfl (hI.cells 0 (off := 0) rfl (fun j u h => by rw [Nat.zero_add]; exact h)) (by simp [Value.oneCell']) (by omega) (by omega) (n2 := (y136 ++ [(⟨p1.fam, p1.hrs, p1.wants⟩ : Cm)]).length) (app_len rfl rfl) ?_)
     intro g152 c153 cl154 w hI r155
     refine ⟨_, hI, subk (fun _ h => h.pickL [2, 3] (by decide) rfl) ?_⟩
     intro hsub
     have r155 : Row 3 g152 ((y136 ++ [(⟨p1.fam, p1.hrs, p1.wants⟩ : Cm)]).length) c153 cl154 (flat eCm (y136 ++ [(⟨p1.fam, p1.hrs, p1.wants⟩ : Cm)])) := r155.snoc _ rfl
     refine alp 8 (.agg #[iv p0_0, slv g152 ((y136 ++ [(⟨p1.fam, p1.hrs, p1.wants⟩ : Cm)]).length) c153]) hsub rfl (by kernel_rfl) (fun _ => (by kernel_rfl)) ?_
     refine any_heavy [9] (by kernel_rfl) rfl (each1 ?_)
     intro w hI
     refine ol_c rfl (s_store hI 4 2 [iv p0_0, slv g152 ((y136 ++ [(⟨p1.fam, p1.hrs, p1.wants⟩ : Cm)]).length) c153] Try.sizeOf24 rfl rfl rfl rfl rfl (Nat.le_of_ble_eq_true rfl) ?_)
     intro w hI
     refine ⟨_, hI, subk (fun _ h => h.pickL [2, 3] (by decide) rfl) ?_⟩
     intro hsub
     refine alp 10 (iv 0) hsub rfl (by kernel_rfl) (fun _ => (by kernel_rfl)) ?_
     refine any_end (by kernel_rfl) (fun w hI => ?_)
     refine wp_ret ?_
     replace hF := Option.some.inj hF; subst hF
     exact ⟨.tuple #[.agg #[iv p0_0, slv g152 ((y136 ++ [(⟨p1.fam, p1.hrs, p1.wants⟩ : Cm)]).length) c153], iv 0], Ret.ct rfl rfl (run_loadK hI 4 2 [iv p0_0, slv g152 ((y136 ++ [(⟨p1.fam, p1.hrs, p1.wants⟩ : Cm)]).length) c153] Try.isAgg24 Try.sizeOf24 rfl rfl rfl) rfl, ⟨g152, c153, cl154, rfl, hI.pickL [1] (by decide) rfl, r155.to rfl rfl⟩⟩
    ·intro w hI
     refine ol_c rfl (s_new hI [iv p1.fam, iv p1.hrs, iv p1.wants] 26 (fun b => slv (some b) 1 1) (by kernel_rfl) ?_)
     intro b156 w hI
     refine ⟨_, hI, subk (fun _ h => h.pickL [1, 2] (by decide) rfl) ?_⟩
     intro hsub
     refine any_heavy [4] (by kernel_rfl) rfl (each1 ?_)
     intro w hI
     refine ol_c rfl (s_call 64 [.slice Ap0_1 lp0_1.length cp0_1] (by kernel_rfl) (L64 _ Ap0_1 cp0_1 lp0_1 (hCp0_1.inv0 hI) hMp0_1 hKp0_1 _ hy137) ?_)
     rintro v w ⟨g157, c158, cl159, rfl, hN, r160⟩
     have hI := hI.join hN; clear hN
     refine ⟨_, hI, subk (fun _ h => h.pickL [2, 3] (by decide) rfl) ?_⟩
     intro hsub
     refine any_heavy [7] (by kernel_rfl) rfl (each1 ?_)
     intro w hI
     refine ol_c rfl (s_appN hI Try.underlying22 (z := .agg #[iv 0, iv 0, iv 0]) (k := 3) (bytes := 24) (by kernel_rfl) rfl rfl 0 rfl rfl r160 [iv p1.fam, iv p1.hrs, iv p1.wants] rfl rfl (hI.cells 1 (off := 0) rfl (fun j u h => by rw [Nat.zero_add]; exact h)) (by simp [Value.oneCell']) (by omega) (by omega) (n2 := (y136 ++ [(⟨p1.fam, p1.hrs, p1.wants⟩ : Cm)]).length) (app_len rfl rfl) ?_)
     intro g161 c162 cl163 w hI r164
     refine ⟨_, hI, subk (fun _ h => h.pickL [2, 3] (by decide) rfl) ?_⟩
     intro hsub
     have r164 : Row 3 g161 ((y136 ++ [(⟨p1.fam, p1.hrs, p1.wants⟩ : Cm)]).length) c162 cl163 (flat eCm (y136 ++ [(⟨p1.fam, p1.hrs, p1.wants⟩ : Cm)])) := r164.snoc _ rfl
     refine alp 8 (.agg #[iv p0_0, slv g161 ((y136 ++ [(⟨p1.fam, p1.hrs, p1.wants⟩ : Cm)]).length) c162]) hsub rfl (by kernel_rfl) (fun _ => (by kernel_rfl)) ?_
     refine any_heavy [9] (by kernel_rfl) rfl (each1 ?_)
     intro w hI
     refine ol_c rfl (s_store hI 4 2 [iv p0_0, slv g161 ((y136 ++ [(⟨p1.fam, p1.hrs, p1.wants⟩ : Cm)]).length) c162] Try.sizeOf24 rfl rfl rfl rfl rfl (Nat.le_of_ble_eq_true rfl) ?_)
     intro w hI
     refine ⟨_, hI, subk (fun _ h => h.pickL [2, 3] (by decide) rfl) ?_⟩
     intro hsub
     refine alp 10 (iv 0) hsub rfl (by kernel_rfl) (fun _ => (by kernel_rfl)) ?_
     refine any_end (by kernel_rfl) (fun w hI => ?_)
     refine wp_ret ?_
     replace hF := Option.some.inj hF; subst hF
     exact ⟨.tuple #[.agg #[iv p0_0, slv g161 ((y136 ++ [(⟨p1.fam, p1.hrs, p1.wants⟩ : Cm)]).length) c162], iv 0], Ret.ct rfl rfl (run_loadK hI 4 2 [iv p0_0, slv g161 ((y136 ++ [(⟨p1.fam, p1.hrs, p1.wants⟩ : Cm)]).length) c162] Try.isAgg24 Try.sizeOf24 rfl rfl rfl) rfl, ⟨g161, c162, cl163, rfl, hI.pickL [0] (by decide) rfl, r164.to rfl rfl⟩⟩
  ·
   refine seq_c (s_callv hI 63 [.agg #[iv p0_0, .slice Ap0_1 lp0_1.length cp0_1], .agg #[iv p1.fam, iv p1.hrs, iv p1.wants]] (.bool false) (by kernel_rfl) (Does.mono (L63 _ p0_0 Ap0_1 cp0_1 lp0_1 p1 (hCp0_1.inv0 hI) hMp0_1 hKp0_1 N _ hy101) (fun v' w' h => ⟨h.1.trans (congrArg Value.bool (Bool.eq_false_iff.2 h22)), h.2⟩)) ?_)
   intro w hI
   refine pu (.bool true) (by kernel_rfl) (seq_nil (wp_condT rfl (wp_seq (rgn (by kernel_rfl) (pu (.agg #[iv 0, .slice none 0 0]) (by kernel_rfl) (seq_c (s_store hI 0 2 [iv 0, .slice none 0 0] Try.sizeOf24 rfl rfl rfl rfl rfl (Nat.le_of_ble_eq_true rfl) ?_)))))))
   intro w hI
   refine pu (iv 51) (by kernel_rfl) (seq_nil (wp_ret ?_))
   have hI := hI.nilRow 26
   replace hF := Option.some.inj hF; subst hF
   exact ⟨.tuple #[.agg #[iv 0, .slice none 0 0], iv 51], Ret.ct rfl rfl (run_loadK hI 1 2 [iv 0, .slice none 0 0] Try.isAgg24 Try.sizeOf24 rfl rfl rfl) rfl, ⟨none, 0, [], rfl, hI.pickL [0] (by decide) rfl, Row.nil_ 3⟩⟩
 ·
  refine seq_c (s_neq rfl rfl (fun _ => ?_) (fun h => absurd (a := y92 = 0) h h18))
  refine seq_nil (wp_condT rfl (wp_seq (rgn (by kernel_rfl) (pu (.agg #[iv 0, .slice none 0 0]) (by kernel_rfl) (pu (iv y92) (by kernel_rfl) (seq_c (s_store hI 0 2 [iv 0, .slice none 0 0] Try.sizeOf24 rfl rfl rfl rfl rfl (Nat.le_of_ble_eq_true rfl) ?_)))))))
  intro w hI
  refine pu (iv y92) (by kernel_rfl) (seq_nil (wp_ret ?_))
  have hI := hI.nilRow 26
  replace hF := Option.some.inj hF; subst hF
  exact ⟨.tuple #[.agg #[iv 0, .slice none 0 0], iv y92], Ret.ct rfl rfl (run_loadK hI 1 2 [iv 0, .slice none 0 0] Try.isAgg24 Try.sizeOf24 rfl rfl rfl) rfl, ⟨none, 0, [], rfl, hI.pickL [0] (by decide) rfl, Row.nil_ 3⟩⟩


theorem L71 (w0 : World) (p0 : Int) (p1 : Int) (p2 : Int) (r : Bool) (hF : F71 p0 p1 p2 = some r) : Does Try.prog 71 [.int .i64 p0, .int .i64 p1, .int .i64 p2] w0 fun v w => v = .bool r ∧ Below w0.heap.size w0 w := by
 refine calls_of (n := 15) Try.func71 rfl Try.ntmps71 rfl ?_
 have hI := Inv.start w0
 unfold F71 at hF
 refine wp_seq (rgn (by kernel_rfl) (pu (.bool false) (by kernel_rfl) (seq_nil (wp_seq (rgn (by kernel_rfl) (pu (iv p1) (by kernel_rfl) (pu (iv p0) (by kernel_rfl) (ifE hF (fun h7 hF => ?_) (fun h7 hF => ?_)))))))))
 ·
  refine seq_c (s_leq rfl rfl (fun _ => ?_) (fun h => absurd (a := p1 ≤ p0) h7 h))
  refine pu (.bool true) (by kernel_rfl) (puo (iv p0) ⟨(by kernel_rfl), (by kernel_rfl)⟩ (puo (iv p2) ⟨(by kernel_rfl), (by kernel_rfl)⟩ (ifE hF (fun h8 hF => ?_) (fun h8 hF => ?_))))
  ·
   refine seq_on (by kernel_rfl) (s_leq rfl rfl (fun _ => ?_) (fun h => absurd (a := p0 ≤ p2) h8 h))
   refine pu (.bool true) (by kernel_rfl) (pu (.bool true) (by kernel_rfl) (seq_nil (wp_ret ?_)))
   replace hF := Option.some.inj hF; subst hF
   exact ⟨.bool true, Ret.r1 rfl rfl, ⟨rfl, hI.below⟩⟩
  ·
   refine seq_on (by kernel_rfl) (s_leq rfl rfl (fun h => absurd (a := p0 ≤ p2) h h8) (fun _ => ?_))
   refine pu (.bool false) (by kernel_rfl) (pu (.bool false) (by kernel_rfl) (seq_nil (wp_ret ?_)))
   replace hF := Option.some.inj hF; subst hF
   exact ⟨.bool false, Ret.r1 rfl rfl, ⟨rfl, hI.below⟩⟩
 ·
  refine seq_c (s_leq rfl rfl (fun h => absurd (a := p1 ≤ p0) h h7) (fun _ => ?_))
  refine pu (.bool false) (by kernel_rfl) (of_ (by kernel_rfl) (of_ (by kernel_rfl) (of_ (by kernel_rfl) (pu (.bool false) (by kernel_rfl) (pu (.bool false) (by kernel_rfl) (seq_nil (wp_ret ?_)))))))
  replace hF := Option.some.inj hF; subst hF
  exact ⟨.bool false, Ret.r1 rfl rfl, ⟨rfl, hI.below⟩⟩


theorem L22 (w0 : World) (p0 : Cm) (r : Int) (hF : F22 p0 = some r) : Does Try.prog 22 [.agg #[.int .i64 p0.fam, .int .i64 p0.hrs, .int .i64 p0.wants]] w0 fun v w => v = .int .i64 r ∧ Below w0.heap.size w0 w := by
 refine calls_of (n := 19) Try.func22 rfl Try.ntmps22 rfl ?_
 have hI := Inv.start w0
 unfold F22 at hF
 refine wp_seq (rgn (by kernel_rfl) (seq_c (s_boxI hI [iv p0.fam, iv p0.hrs, iv p0.wants] rfl ?_)))
 intro b26 w hI
 refine pu (iv 0) (by kernel_rfl) (seq_nil (wp_seq (wp_seq (rgn (by kernel_rfl) (pu (.pointer (some ⟨b26, 0, none⟩)) (by kernel_rfl) (seq_c (s_load1 hI 0 (iv p0.fam) Try.isAgg3 rfl rfl rfl ?_)))))))
 refine bindE hF (fun y45 hy46 hF => ?_)
 refine ifE hF (fun h22 hF => ?_) (fun h22 hF => ?_)
 ·
  refine seq_c (s_callv hI 71 [iv p0.fam, iv 1, iv 99] (.bool true) (by kernel_rfl) (Does.mono (L71 _ p0.fam 1 99 _ hy46) (fun v' w' h => ⟨h.1.trans (congrArg Value.bool h22), h.2⟩)) ?_)
  intro w hI
  refine pu (.bool false) (by kernel_rfl) (pu (.bool false) (by kernel_rfl) (puo (.pointer (some ⟨b26, 1, none⟩)) ⟨(by kernel_rfl), (by kernel_rfl)⟩ (seq_on (by kernel_rfl) (s_load1 hI 0 (iv p0.hrs) Try.isAgg3 rfl rfl rfl ?_))))
  refine bindE hF (fun y47 hy48 hF => ?_)
  refine ifE hF (fun h23 hF => ?_) (fun h23 hF => ?_)
  ·
   refine seq_on (by kernel_rfl) (s_callv hI 71 [iv p0.hrs, iv 0, iv 16777215] (.bool true) (by kernel_rfl) (Does.mono (L71 _ p0.hrs 0 16777215 _ hy48) (fun v' w' h => ⟨h.1.trans (congrArg Value.bool h23), h.2⟩)) ?_)
   intro w hI
   refine puo (.bool false) ⟨(by kernel_rfl), (by kernel_rfl)⟩ (pu (.bool false) (by kernel_rfl) (pu (.bool false) (by kernel_rfl) (puo (.pointer (some ⟨b26, 2, none⟩)) ⟨(by kernel_rfl), (by kernel_rfl)⟩ (seq_on (by kernel_rfl) (s_load1 hI 0 (iv p0.wants) Try.isAgg3 rfl rfl rfl ?_)))))
   refine bindE hF (fun y49 hy50 hF => ?_)
   refine ifE hF (fun h24 hF => ?_) (fun h24 hF => ?_)
   ·
    refine seq_on (by kernel_rfl) (s_callv hI 71 [iv p0.wants, iv 0, iv 24] (.bool true) (by kernel_rfl) (Does.mono (L71 _ p0.wants 0 24 _ hy50) (fun v' w' h => ⟨h.1.trans (congrArg Value.bool h24), h.2⟩)) ?_)
    intro w hI
    refine puo (.bool false) ⟨(by kernel_rfl), (by kernel_rfl)⟩ (pu (.bool false) (by kernel_rfl) (seq_nil (wp_condF rfl (wp_skip (wp_seq (rgn (by kernel_rfl) (pu (iv 0) (by kernel_rfl) (seq_nil (wp_ret ?_)))))))))
    replace hF := Option.some.inj hF; subst hF
    exact ⟨iv 0, Ret.r1 rfl rfl, ⟨rfl, hI.below⟩⟩
   ·
    refine seq_on (by kernel_rfl) (s_callv hI 71 [iv p0.wants, iv 0, iv 24] (.bool false) (by kernel_rfl) (Does.mono (L71 _ p0.wants 0 24 _ hy50) (fun v' w' h => ⟨h.1.trans (congrArg Value.bool (Bool.eq_false_iff.2 h24)), h.2⟩)) ?_)
    intro w hI
    refine puo (.bool true) ⟨(by kernel_rfl), (by kernel_rfl)⟩ (pu (.bool true) (by kernel_rfl) (seq_nil (wp_condT rfl (wp_seq (rgn (by kernel_rfl) (pu (iv 51) (by kernel_rfl) (seq_nil (wp_ret ?_))))))))
    replace hF := Option.some.inj hF; subst hF
    exact ⟨iv 51, Ret.r1 rfl rfl, ⟨rfl, hI.below⟩⟩
  ·
   refine seq_on (by kernel_rfl) (s_callv hI 71 [iv p0.hrs, iv 0, iv 16777215] (.bool false) (by kernel_rfl) (Does.mono (L71 _ p0.hrs 0 16777215 _ hy48) (fun v' w' h => ⟨h.1.trans (congrArg Value.bool (Bool.eq_false_iff.2 h23)), h.2⟩)) ?_)
   intro w hI
   refine puo (.bool true) ⟨(by kernel_rfl), (by kernel_rfl)⟩ (pu (.bool true) (by kernel_rfl) (pu (.bool true) (by kernel_rfl) (of_ (by kernel_rfl) (of_ (by kernel_rfl) (of_ (by kernel_rfl) (of_ (by kernel_rfl) (pu (.bool true) (by kernel_rfl) (seq_nil (wp_condT rfl ?_)))))))))
   refine wp_seq (rgn (by kernel_rfl) (pu (iv 51) (by kernel_rfl) (seq_nil (wp_ret ?_))))
   replace hF := Option.some.inj hF; subst hF
   exact ⟨iv 51, Ret.r1 rfl rfl, ⟨rfl, hI.below⟩⟩
 ·
  refine seq_c (s_callv hI 71 [iv p0.fam, iv 1, iv 99] (.bool false) (by kernel_rfl) (Does.mono (L71 _ p0.fam 1 99 _ hy46) (fun v' w' h => ⟨h.1.trans (congrArg Value.bool (Bool.eq_false_iff.2 h22)), h.2⟩)) ?_)
  intro w hI
  refine pu (.bool true) (by kernel_rfl) (pu (.bool true) (by kernel_rfl) (of_ (by kernel_rfl) (of_ (by kernel_rfl) (of_ (by kernel_rfl) (of_ (by kernel_rfl) (pu (.bool true) (by kernel_rfl) (pu (.bool true) (by kernel_rfl) (of_ (by kernel_rfl) (of_ (by kernel_rfl) ?_)))))))))
  refine of_ (by kernel_rfl) (of_ (by kernel_rfl) (pu (.bool true) (by kernel_rfl) (seq_nil (wp_condT rfl (wp_seq (rgn (by kernel_rfl) (pu (iv 51) (by kernel_rfl) (seq_nil (wp_ret ?_)))))))))
  replace hF := Option.some.inj hF; subst hF
  exact ⟨iv 51, Ret.r1 rfl rfl, ⟨rfl, hI.below⟩⟩


theorem L65 (w0 : World) (p0_0 : Int) (Ap0_1 : Option Addr) (cp0_1 : Nat) (lp0_1 : List Cm) (p1 : Int) (hCp0_1 : Cells w0 Ap0_1 (flat eCm lp0_1)) (hMp0_1 : lp0_1.length ≤ 9223372036854775807) (hKp0_1 : lp0_1.length ≤ cp0_1) (N : Nat) (r : Int) (hF : F65 N p0_0 lp0_1 p1 = some r) : Does Try.prog 65 [.agg #[.int .i64 p0_0, .slice Ap0_1 lp0_1.length cp0_1], .int .i64 p1] w0 fun v w => v = .int .i64 r ∧ Below w0.heap.size w0 w := by
 refine calls_of (n := 22) Try.func65 rfl Try.ntmps65 rfl ?_
 have hI := Inv.start w0
 unfold F65 at hF
 refine wp_seq (rgn (by kernel_rfl) (seq_c (s_boxI hI [iv p0_0, .slice Ap0_1 lp0_1.length cp0_1] rfl ?_)))
 intro b174 w hI
 refine pu (iv 0) (by kernel_rfl) (seq_nil (wp_seq (wp_seq (rgn (by kernel_rfl) (pu (iv 0) (by kernel_rfl) (seq_nil (wp_block ?_)))))))
 refine wp_loop (fun m ρ w => ∃ (i_318 : Int) (mm : Nat), Agree ρ [(1, iv p1), (2, .pointer (some ⟨b174, 0, none⟩)), (5, iv i_318)] ∧ Inv [] w0 w [(some b174, blk [iv p0_0, .slice Ap0_1 lp0_1.length cp0_1] 24)] ∧ F65l1 lp0_1 p1 mm i_318 = some r ∧ mm = m) (m := N) ⟨0, N, ⟨rfl, rfl, rfl, trivial⟩, hI.pickL [0] (by decide) rfl, hF, rfl⟩ ?_
 rintro m ρ w ⟨i_318, mm, hag, hI, hF, hm⟩
 subst hm; obtain ⟨ρ, rfl⟩ := hag.form; clear hag
 obtain _ | m1 := mm
 ·cases (show (none : Option Int) = some r from hF)
 replace hF : F65b1 lp0_1 p1 (F65l1 lp0_1 p1 m1) i_318 = some r := hF; unfold F65b1 at hF
 refine wp_seq (wp_seq (rgn (by kernel_rfl) (pu (iv i_318) (by kernel_rfl) (pu (.pointer (some ⟨b174, 1, none⟩)) (by kernel_rfl) (seq_c (s_load1 hI 0 (.slice Ap0_1 lp0_1.length cp0_1) Try.isAgg22 rfl rfl rfl ?_))))))
 refine pu (iv ((lp0_1.length : Nat) : Int)) (by kernel_rfl) (ifE hF (fun h127 hF => ?_) (fun h127 hF => ?_))
 ·
  refine seq_c (s_lss rfl rfl (fun _ => ?_) (fun h => absurd (a := i_318 < (lp0_1.length : Int)) h127 h))
  refine seq_nil (wp_condT rfl (wp_skip (wp_seq (wp_block ?_))))
  refine wp_seq (rgn (by kernel_rfl) (pu (.pointer (some ⟨b174, 1, none⟩)) (by kernel_rfl) (seq_c (s_load1 hI 0 (.slice Ap0_1 lp0_1.length cp0_1) Try.isAgg22 rfl rfl rfl ?_))))
  refine pu (iv i_318) (by kernel_rfl) (gdE hF (fun h134 hF => ?_))
  refine bindE hF (fun x340 hx341 hF => ?_)
  obtain ⟨b342, o343, hA344, hb345, he346⟩ := hCp0_1.at_ eCm_len (by decide) hx341
  refine seq_c (s_indexA (i_318).toNat Try.underlying22 Try.sizeOf26 rfl hA344 rfl (Int.toNat_of_nonneg h134).symm (lt_n hx341 rfl) ?_)
  refine pu (.pointer (some ⟨b342, o343 + (i_318).toNat * 3, none⟩)) (by kernel_rfl) (seq_c (s_loadB1 hI (iv x340.fam) Try.isAgg3 rfl hb345 (by simp) (he346 0 _ rfl) ?_))
  refine pu (iv p1) (by kernel_rfl) (ifE hF (fun h135 hF => ?_) (fun h135 hF => ?_))
  ·
   refine seq_c (s_eql rfl rfl (fun _ => ?_) (fun h => absurd (a := x340.fam = p1) h135 h))
   refine seq_nil (wp_condT rfl (wp_seq (rgn (by kernel_rfl) (pu (iv i_318) (by kernel_rfl) (pu (iv i_318) (by kernel_rfl) (seq_nil (wp_ret ?_)))))))
   replace hF := Option.some.inj hF; subst hF
   exact ⟨iv i_318, Ret.r1 rfl rfl, ⟨rfl, hI.below⟩⟩
  ·
   refine seq_c (s_eql rfl rfl (fun h => absurd (a := x340.fam = p1) h h135) (fun _ => ?_))
   refine seq_nil (wp_condF rfl (wp_skip (rgn (by kernel_rfl) (pu (iv i_318) (by kernel_rfl) (ckE hF (fun h136 hF => ?_))))))
   refine seq_c (s_add rfl rfl h136 ?_)
   refine pu (iv (i_318 + 1)) (by kernel_rfl) (seq_nil ?_)
   exact ⟨rfl, m1, Nat.lt_succ_self _, ⟨i_318 + 1, m1, ⟨rfl, rfl, rfl, trivial⟩, hI.pickL [0] (by decide) rfl, hF, rfl⟩⟩
 ·
  refine seq_c (s_lss rfl rfl (fun h => absurd (a := i_318 < (lp0_1.length : Int)) h h127) (fun _ => ?_))
  refine seq_nil (wp_condF rfl (wp_exit ?_))
  refine wp_seq (rgn (by kernel_rfl) (pu (iv (-1)) (by kernel_rfl) (seq_nil (wp_ret ?_))))
  replace hF := Option.some.inj hF; subst hF
  exact ⟨iv (-1), Ret.r1 rfl rfl, ⟨rfl, hI.below⟩⟩


theorem L24 (w0 : World) (p0_0 : Int) (Ap0_1 : Option Addr) (cp0_1 : Nat) (lp0_1 : List Cm) (hCp0_1 : Cells w0 Ap0_1 (flat eCm lp0_1)) (hMp0_1 : lp0_1.length ≤ 9223372036854775807) (hKp0_1 : lp0_1.length ≤ cp0_1) (N : Nat) (r : Int) (hF : F24 N p0_0 lp0_1 = some r) : Does Try.prog 24 [.agg #[.int .i64 p0_0, .slice Ap0_1 lp0_1.length cp0_1]] w0 fun v w => v = .int .i64 r ∧ Below w0.heap.size w0 w := by
 refine calls_of (n := 46) Try.func24 rfl Try.ntmps24 rfl ?_
 have hI := Inv.start w0
 unfold F24 at hF
 refine wp_seq (rgn (by kernel_rfl) (seq_c (s_boxI hI [iv p0_0, .slice Ap0_1 lp0_1.length cp0_1] rfl ?_)))
 intro b206 w hI
 refine pu (iv 0) (by kernel_rfl) (seq_nil (wp_seq (wp_seq (rgn (by kernel_rfl) (pu (.pointer (some ⟨b206, 0, none⟩)) (by kernel_rfl) (seq_c (s_load1 hI 0 (iv p0_0) Try.isAgg3 rfl rfl rfl ?_)))))))
 refine bindE hF (fun y213 hy214 hF => ?_)
 refine ifE hF (fun h171 hF => ?_) (fun h171 hF => ?_)
 ·
  refine seq_c (s_callv hI 71 [iv p0_0, iv 0, iv 24] (.bool true) (by kernel_rfl) (Does.mono (L71 _ p0_0 0 24 _ hy214) (fun v' w' h => ⟨h.1.trans (congrArg Value.bool h171), h.2⟩)) ?_)
  intro w hI
  refine pu (.bool false) (by kernel_rfl) (pu (.bool false) (by kernel_rfl) (puo (.pointer (some ⟨b206, 1, none⟩)) ⟨(by kernel_rfl), (by kernel_rfl)⟩ (seq_on (by kernel_rfl) (s_load1 hI 0 (.slice Ap0_1 lp0_1.length cp0_1) Try.isAgg22 rfl rfl rfl ?_))))
  refine puo (iv ((lp0_1.length : Nat) : Int)) ⟨(by kernel_rfl), (by kernel_rfl)⟩ (ifE hF (fun h172 hF => ?_) (fun h172 hF => ?_))
  ·
   refine seq_on (by kernel_rfl) (s_gtr rfl rfl (fun _ => ?_) (fun h => absurd (a := 12 < (lp0_1.length : Int)) h172 h))
   refine pu (.bool true) (by kernel_rfl) (seq_nil (wp_condT rfl (wp_seq (rgn (by kernel_rfl) (pu (iv 52) (by kernel_rfl) (seq_nil (wp_ret ?_)))))))
   replace hF := Option.some.inj hF; subst hF
   exact ⟨iv 52, Ret.r1 rfl rfl, ⟨rfl, hI.below⟩⟩
  ·
   refine seq_on (by kernel_rfl) (s_gtr rfl rfl (fun h => absurd (a := 12 < (lp0_1.length : Int)) h h172) (fun _ => ?_))
   refine pu (.bool false) (by kernel_rfl) (seq_nil (wp_condF rfl (wp_skip (wp_seq (wp_seq (rgn (by kernel_rfl) (pu (iv 0) (by kernel_rfl) (seq_nil (wp_block ?_)))))))))
   refine wp_loop (fun m ρ w => ∃ (i_378 : Int) (mm : Nat), Agree ρ [(1, .pointer (some ⟨b206, 0, none⟩)), (3, iv i_378)] ∧ Inv [] w0 w [(some b206, blk [iv p0_0, .slice Ap0_1 lp0_1.length cp0_1] 24)] ∧ F24l1 p0_0 lp0_1 N mm i_378 = some r ∧ mm = m) (m := N) ⟨0, N, ⟨rfl, rfl, trivial⟩, hI.pickL [0] (by decide) rfl, hF, rfl⟩ ?_
   rintro m ρ w ⟨i_378, mm, hag, hI, hF, hm⟩
   subst hm; obtain ⟨ρ, rfl⟩ := hag.form; clear hag
   obtain _ | m1 := mm
   ·cases (show (none : Option Int) = some r from hF)
   replace hF : F24b1 p0_0 lp0_1 N (F24l1 p0_0 lp0_1 N m1) i_378 = some r := hF; unfold F24b1 at hF
   refine wp_seq (wp_seq (rgn (by kernel_rfl) (pu (iv i_378) (by kernel_rfl) (pu (.pointer (some ⟨b206, 1, none⟩)) (by kernel_rfl) (seq_c (s_load1 hI 0 (.slice Ap0_1 lp0_1.length cp0_1) Try.isAgg22 rfl rfl rfl ?_))))))
   refine pu (iv ((lp0_1.length : Nat) : Int)) (by kernel_rfl) (ifE hF (fun h305 hF => ?_) (fun h305 hF => ?_))
   ·
    refine seq_c (s_lss rfl rfl (fun _ => ?_) (fun h => absurd (a := i_378 < (lp0_1.length : Int)) h305 h))
    refine seq_nil (wp_condT rfl (wp_skip (wp_seq (wp_block ?_))))
    refine wp_seq (rgn (by kernel_rfl) (pu (.pointer (some ⟨b206, 1, none⟩)) (by kernel_rfl) (seq_c (s_load1 hI 0 (.slice Ap0_1 lp0_1.length cp0_1) Try.isAgg22 rfl rfl rfl ?_))))
    refine pu (iv i_378) (by kernel_rfl) (gdE hF (fun h317 hF => ?_))
    refine bindE hF (fun x395 hx396 hF => ?_)
    obtain ⟨b397, o398, hA399, hb400, he401⟩ := hCp0_1.at_ eCm_len (by decide) hx396
    refine seq_c (s_indexA (i_378).toNat Try.underlying22 Try.sizeOf26 rfl hA399 rfl (Int.toNat_of_nonneg h317).symm (lt_n hx396 rfl) ?_)
    refine seq_c (s_loadBK hI [iv x395.fam, iv x395.hrs, iv x395.wants] Try.isAgg26 Try.sizeOf26 rfl rfl hb400 (by simp) he401 ?_)
    refine seq_c (s_allocI hI [iv 0, iv 0, iv 0] Try.zeroValue26 rfl ?_)
    intro b402 w hI
    refine seq_c (s_store hI 0 3 [iv x395.fam, iv x395.hrs, iv x395.wants] Try.sizeOf26 rfl rfl rfl rfl rfl (Nat.le_of_ble_eq_true rfl) ?_)
    intro w hI
    refine seq_nil (wp_seq (bindE hF (fun y407 hy408 hF => ?_)))
    refine ifE hF (fun h323 hF => ?_) (fun h323 hF => ?_)
    ·
     refine gdE hF (fun h324 hF => ?_)
     refine ckE hF (fun h325 hF => ?_)
     refine ifE hF (fun h326 hF => ?_) (fun h326 hF => ?_)
     ·
      refine wp_drawn2 hI [0, 1] (by decide) rfl (by kernel_rfl) (by kernel_rfl) ?_
      intro hsub
      refine al_light 0 (.agg #[iv x395.fam, iv x395.hrs, iv x395.wants]) hsub rfl (by kernel_rfl) (fun w hI => s_loadK hI 0 3 [iv x395.fam, iv x395.hrs, iv x395.wants] Try.isAgg26 Try.sizeOf26 rfl rfl rfl rfl ⟨rfl, Below.refl _ _⟩) ?_
      refine al_light 1 (iv y407) hsub rfl (by kernel_rfl) (fun w hI => s_call 22 [.agg #[iv x395.fam, iv x395.hrs, iv x395.wants]] (by kernel_rfl) (L22 _ x395 _ hy408) (fun v' w' h => h)) ?_
      refine al_light 2 (.bool false) hsub rfl (by kernel_rfl) (fun w hI => s_neq rfl rfl (fun h => absurd (a := y407 = 0) h323 h) (fun _ => ⟨rfl, Below.refl _ _⟩)) ?_
      refine alp 3 (.bool false) hsub rfl (by kernel_rfl) (fun _ => (by kernel_rfl)) ?_
      refine al_on 4 (.pointer (some ⟨b402, 1, none⟩)) hsub rfl (by kernel_rfl) (by kernel_rfl) (fun w hI => s_pure (.pointer (some ⟨b402, 1, none⟩)) (by kernel_rfl) ⟨rfl, Below.refl _ _⟩) ?_
      refine al_on 5 (iv x395.hrs) hsub rfl (by kernel_rfl) (by kernel_rfl) (fun w hI => s_load1 hI 0 (iv x395.hrs) Try.isAgg3 rfl rfl rfl ⟨rfl, Below.refl _ _⟩) ?_
      refine al_on 6 (.pointer (some ⟨b206, 0, none⟩)) hsub rfl (by kernel_rfl) (by kernel_rfl) (fun w hI => s_pure (.pointer (some ⟨b206, 0, none⟩)) (by kernel_rfl) ⟨rfl, Below.refl _ _⟩) ?_
      refine al_on 7 (iv p0_0) hsub rfl (by kernel_rfl) (by kernel_rfl) (fun w hI => s_load1 hI 1 (iv p0_0) Try.isAgg3 rfl rfl rfl ⟨rfl, Below.refl _ _⟩) ?_
      refine al_on 8 (iv ((1 : Int) * 2 ^ (p0_0 : Int).toNat)) hsub rfl (by kernel_rfl) (by kernel_rfl) (fun w hI => s_shl rfl rfl h324 h325 ⟨rfl, Below.refl _ _⟩) ?_
      refine al_on 9 (.bool true) hsub rfl (by kernel_rfl) (by kernel_rfl) (fun w hI => s_geq rfl rfl (fun _ => ⟨rfl, Below.refl _ _⟩) (fun h => absurd (a := ((1 : Int) * 2 ^ (p0_0 : Int).toNat) ≤ x395.hrs) h326 h)) ?_
      refine alp 10 (.bool true) hsub rfl (by kernel_rfl) (fun _ => (by kernel_rfl)) ?_
      refine alp 11 (.bool true) hsub rfl (by kernel_rfl) (fun _ => (by kernel_rfl)) ?_
      refine al_off 12 hsub rfl (by kernel_rfl) (by kernel_rfl) ?_
      refine al_off 13 hsub rfl (by kernel_rfl) (by kernel_rfl) ?_
      refine al_off 14 hsub rfl (by kernel_rfl) (by kernel_rfl) ?_
      refine al_off 15 hsub rfl (by kernel_rfl) (by kernel_rfl) ?_
      refine al_off 16 hsub rfl (by kernel_rfl) (by kernel_rfl) ?_
      refine al_off 17 hsub rfl (by kernel_rfl) (by kernel_rfl) ?_
      refine alp 18 (.bool true) hsub rfl (by kernel_rfl) (fun _ => (by kernel_rfl)) ?_
      refine any_end (by kernel_rfl) (fun w hI => ?_)
      refine wp_condT rfl (wp_seq (rgn (by kernel_rfl) (pu (iv 52) (by kernel_rfl) (seq_nil (wp_ret ?_)))))
      replace hF := Option.some.inj hF; subst hF
      exact ⟨iv 52, Ret.r1 rfl rfl, ⟨rfl, hI.below⟩⟩
     ·
      refine bindE hF (fun y409 hy410 hF => ?_)
      refine ifE hF (fun h327 hF => ?_) (fun h327 hF => ?_)
      ·
       refine wp_drawn2 hI [0, 1] (by decide) rfl (by kernel_rfl) (by kernel_rfl) ?_
       intro hsub
       refine al_light 0 (.agg #[iv x395.fam, iv x395.hrs, iv x395.wants]) hsub rfl (by kernel_rfl) (fun w hI => s_loadK hI 0 3 [iv x395.fam, iv x395.hrs, iv x395.wants] Try.isAgg26 Try.sizeOf26 rfl rfl rfl rfl ⟨rfl, Below.refl _ _⟩) ?_
       refine al_light 1 (iv y407) hsub rfl (by kernel_rfl) (fun w hI => s_call 22 [.agg #[iv x395.fam, iv x395.hrs, iv x395.wants]] (by kernel_rfl) (L22 _ x395 _ hy408) (fun v' w' h => h)) ?_
       refine al_light 2 (.bool false) hsub rfl (by kernel_rfl) (fun w hI => s_neq rfl rfl (fun h => absurd (a := y407 = 0) h323 h) (fun _ => ⟨rfl, Below.refl _ _⟩)) ?_
       refine alp 3 (.bool false) hsub rfl (by kernel_rfl) (fun _ => (by kernel_rfl)) ?_
       refine al_on 4 (.pointer (some ⟨b402, 1, none⟩)) hsub rfl (by kernel_rfl) (by kernel_rfl) (fun w hI => s_pure (.pointer (some ⟨b402, 1, none⟩)) (by kernel_rfl) ⟨rfl, Below.refl _ _⟩) ?_
       refine al_on 5 (iv x395.hrs) hsub rfl (by kernel_rfl) (by kernel_rfl) (fun w hI => s_load1 hI 0 (iv x395.hrs) Try.isAgg3 rfl rfl rfl ⟨rfl, Below.refl _ _⟩) ?_
       refine al_on 6 (.pointer (some ⟨b206, 0, none⟩)) hsub rfl (by kernel_rfl) (by kernel_rfl) (fun w hI => s_pure (.pointer (some ⟨b206, 0, none⟩)) (by kernel_rfl) ⟨rfl, Below.refl _ _⟩) ?_
       refine al_on 7 (iv p0_0) hsub rfl (by kernel_rfl) (by kernel_rfl) (fun w hI => s_load1 hI 1 (iv p0_0) Try.isAgg3 rfl rfl rfl ⟨rfl, Below.refl _ _⟩) ?_
       refine al_on 8 (iv ((1 : Int) * 2 ^ (p0_0 : Int).toNat)) hsub rfl (by kernel_rfl) (by kernel_rfl) (fun w hI => s_shl rfl rfl h324 h325 ⟨rfl, Below.refl _ _⟩) ?_
       refine al_on 9 (.bool false) hsub rfl (by kernel_rfl) (by kernel_rfl) (fun w hI => s_geq rfl rfl (fun h => absurd (a := ((1 : Int) * 2 ^ (p0_0 : Int).toNat) ≤ x395.hrs) h h326) (fun _ => ⟨rfl, Below.refl _ _⟩)) ?_
       refine alp 10 (.bool false) hsub rfl (by kernel_rfl) (fun _ => (by kernel_rfl)) ?_
       refine alp 11 (.bool false) hsub rfl (by kernel_rfl) (fun _ => (by kernel_rfl)) ?_
       refine al_on 12 (.agg #[iv p0_0, .slice Ap0_1 lp0_1.length cp0_1]) hsub rfl (by kernel_rfl) (by kernel_rfl) (fun w hI => s_loadK hI 1 2 [iv p0_0, .slice Ap0_1 lp0_1.length cp0_1] Try.isAgg24 Try.sizeOf24 rfl rfl rfl rfl ⟨rfl, Below.refl _ _⟩) ?_
       refine al_on 13 (.pointer (some ⟨b402, 0, none⟩)) hsub rfl (by kernel_rfl) (by kernel_rfl) (fun w hI => s_pure (.pointer (some ⟨b402, 0, none⟩)) (by kernel_rfl) ⟨rfl, Below.refl _ _⟩) ?_
       refine al_on 14 (iv x395.fam) hsub rfl (by kernel_rfl) (by kernel_rfl) (fun w hI => s_load1 hI 0 (iv x395.fam) Try.isAgg3 rfl rfl rfl ⟨rfl, Below.refl _ _⟩) ?_
       refine al_on 15 (iv y409) hsub rfl (by kernel_rfl) (by kernel_rfl) (fun w hI => s_call 65 [.agg #[iv p0_0, .slice Ap0_1 lp0_1.length cp0_1], iv x395.fam] (by kernel_rfl) (L65 _ p0_0 Ap0_1 cp0_1 lp0_1 x395.fam (hCp0_1.inv0 hI) hMp0_1 hKp0_1 N _ hy410) (fun v' w' h => h)) ?_
       refine al_on 16 (iv i_378) hsub rfl (by kernel_rfl) (by kernel_rfl) (fun w hI => s_pure (iv i_378) (by kernel_rfl) ⟨rfl, Below.refl _ _⟩) ?_
       refine al_on 17 (.bool false) hsub rfl (by kernel_rfl) (by kernel_rfl) (fun w hI => s_neq rfl rfl (fun h => absurd (a := y409 = i_378) h327 h) (fun _ => ⟨rfl, Below.refl _ _⟩)) ?_
       refine alp 18 (.bool false) hsub rfl (by kernel_rfl) (fun _ => (by kernel_rfl)) ?_
       refine any_end (by kernel_rfl) (fun w hI => ?_)
       refine wp_condF rfl (wp_skip (rgn (by kernel_rfl) (pu (iv i_378) (by kernel_rfl) (ckE hF (fun h328 hF => ?_)))))
       refine seq_c (s_add rfl rfl h328 ?_)
       refine pu (iv (i_378 + 1)) (by kernel_rfl) (seq_nil ?_)
       exact ⟨rfl, m1, Nat.lt_succ_self _, ⟨i_378 + 1, m1, ⟨rfl, rfl, trivial⟩, hI.pickL [1] (by decide) rfl, hF, rfl⟩⟩
      ·
       refine wp_drawn2 hI [0, 1] (by decide) rfl (by kernel_rfl) (by kernel_rfl) ?_
       intro hsub
       refine al_light 0 (.agg #[iv x395.fam, iv x395.hrs, iv x395.wants]) hsub rfl (by kernel_rfl) (fun w hI => s_loadK hI 0 3 [iv x395.fam, iv x395.hrs, iv x395.wants] Try.isAgg26 Try.sizeOf26 rfl rfl rfl rfl ⟨rfl, Below.refl _ _⟩) ?_
       refine al_light 1 (iv y407) hsub rfl (by kernel_rfl) (fun w hI => s_call 22 [.agg #[iv x395.fam, iv x395.hrs, iv x395.wants]] (by kernel_rfl) (L22 _ x395 _ hy408) (fun v' w' h => h)) ?_
       refine al_light 2 (.bool false) hsub rfl (by kernel_rfl) (fun w hI => s_neq rfl rfl (fun h => absurd (a := y407 = 0) h323 h) (fun _ => ⟨rfl, Below.refl _ _⟩)) ?_
       refine alp 3 (.bool false) hsub rfl (by kernel_rfl) (fun _ => (by kernel_rfl)) ?_
       refine al_on 4 (.pointer (some ⟨b402, 1, none⟩)) hsub rfl (by kernel_rfl) (by kernel_rfl) (fun w hI => s_pure (.pointer (some ⟨b402, 1, none⟩)) (by kernel_rfl) ⟨rfl, Below.refl _ _⟩) ?_
       refine al_on 5 (iv x395.hrs) hsub rfl (by kernel_rfl) (by kernel_rfl) (fun w hI => s_load1 hI 0 (iv x395.hrs) Try.isAgg3 rfl rfl rfl ⟨rfl, Below.refl _ _⟩) ?_
       refine al_on 6 (.pointer (some ⟨b206, 0, none⟩)) hsub rfl (by kernel_rfl) (by kernel_rfl) (fun w hI => s_pure (.pointer (some ⟨b206, 0, none⟩)) (by kernel_rfl) ⟨rfl, Below.refl _ _⟩) ?_
       refine al_on 7 (iv p0_0) hsub rfl (by kernel_rfl) (by kernel_rfl) (fun w hI => s_load1 hI 1 (iv p0_0) Try.isAgg3 rfl rfl rfl ⟨rfl, Below.refl _ _⟩) ?_
       refine al_on 8 (iv ((1 : Int) * 2 ^ (p0_0 : Int).toNat)) hsub rfl (by kernel_rfl) (by kernel_rfl) (fun w hI => s_shl rfl rfl h324 h325 ⟨rfl, Below.refl _ _⟩) ?_
       refine al_on 9 (.bool false) hsub rfl (by kernel_rfl) (by kernel_rfl) (fun w hI => s_geq rfl rfl (fun h => absurd (a := ((1 : Int) * 2 ^ (p0_0 : Int).toNat) ≤ x395.hrs) h h326) (fun _ => ⟨rfl, Below.refl _ _⟩)) ?_
       refine alp 10 (.bool false) hsub rfl (by kernel_rfl) (fun _ => (by kernel_rfl)) ?_
       refine alp 11 (.bool false) hsub rfl (by kernel_rfl) (fun _ => (by kernel_rfl)) ?_
       refine al_on 12 (.agg #[iv p0_0, .slice Ap0_1 lp0_1.length cp0_1]) hsub rfl (by kernel_rfl) (by kernel_rfl) (fun w hI => s_loadK hI 1 2 [iv p0_0, .slice Ap0_1 lp0_1.length cp0_1] Try.isAgg24 Try.sizeOf24 rfl rfl rfl rfl ⟨rfl, Below.refl _ _⟩) ?_
       refine al_on 13 (.pointer (some ⟨b402, 0, none⟩)) hsub rfl (by kernel_rfl) (by kernel_rfl) (fun w hI => s_pure (.pointer (some ⟨b402, 0, none⟩)) (by kernel_rfl) ⟨rfl, Below.refl _ _⟩) ?_
       refine al_on 14 (iv x395.fam) hsub rfl (by kernel_rfl) (by kernel_rfl) (fun w hI => s_load1 hI 0 (iv x395.fam) Try.isAgg3 rfl rfl rfl ⟨rfl, Below.refl _ _⟩) ?_
       refine al_on 15 (iv y409) hsub rfl (by kernel_rfl) (by kernel_rfl) (fun w hI => s_call 65 [.agg #[iv p0_0, .slice Ap0_1 lp0_1.length cp0_1], iv x395.fam] (by kernel_rfl) (L65 _ p0_0 Ap0_1 cp0_1 lp0_1 x395.fam (hCp0_1.inv0 hI) hMp0_1 hKp0_1 N _ hy410) (fun v' w' h => h)) ?_
       refine al_on 16 (iv i_378) hsub rfl (by kernel_rfl) (by kernel_rfl) (fun w hI => s_pure (iv i_378) (by kernel_rfl) ⟨rfl, Below.refl _ _⟩) ?_
       refine al_on 17 (.bool true) hsub rfl (by kernel_rfl) (by kernel_rfl) (fun w hI => s_neq rfl rfl (fun _ => ⟨rfl, Below.refl _ _⟩) (fun h => absurd (a := y409 = i_378) h h327)) ?_
       refine alp 18 (.bool true) hsub rfl (by kernel_rfl) (fun _ => (by kernel_rfl)) ?_
       refine any_end (by kernel_rfl) (fun w hI => ?_)
       refine wp_condT rfl (wp_seq (rgn (by kernel_rfl) (pu (iv 52) (by kernel_rfl) (seq_nil (wp_ret ?_)))))
       replace hF := Option.some.inj hF; subst hF
       exact ⟨iv 52, Ret.r1 rfl rfl, ⟨rfl, hI.below⟩⟩
    ·
     refine wp_drawn2 hI [0, 1] (by decide) rfl (by kernel_rfl) (by kernel_rfl) ?_
     intro hsub
     refine al_light 0 (.agg #[iv x395.fam, iv x395.hrs, iv x395.wants]) hsub rfl (by kernel_rfl) (fun w hI => s_loadK hI 0 3 [iv x395.fam, iv x395.hrs, iv x395.wants] Try.isAgg26 Try.sizeOf26 rfl rfl rfl rfl ⟨rfl, Below.refl _ _⟩) ?_
     refine al_light 1 (iv y407) hsub rfl (by kernel_rfl) (fun w hI => s_call 22 [.agg #[iv x395.fam, iv x395.hrs, iv x395.wants]] (by kernel_rfl) (L22 _ x395 _ hy408) (fun v' w' h => h)) ?_
     refine al_light 2 (.bool true) hsub rfl (by kernel_rfl) (fun w hI => s_neq rfl rfl (fun _ => ⟨rfl, Below.refl _ _⟩) (fun h => absurd (a := y407 = 0) h h323)) ?_
     refine alp 3 (.bool true) hsub rfl (by kernel_rfl) (fun _ => (by kernel_rfl)) ?_
     refine al_off 4 hsub rfl (by kernel_rfl) (by kernel_rfl) ?_
     refine al_off 5 hsub rfl (by kernel_rfl) (by kernel_rfl) ?_
     refine al_off 6 hsub rfl (by kernel_rfl) (by kernel_rfl) ?_
     refine al_off 7 hsub rfl (by kernel_rfl) (by kernel_rfl) ?_
     refine al_off 8 hsub rfl (by kernel_rfl) (by kernel_rfl) ?_
     refine al_off 9 hsub rfl (by kernel_rfl) (by kernel_rfl) ?_
     refine alp 10 (.bool true) hsub rfl (by kernel_rfl) (fun _ => (by kernel_rfl)) ?_
     refine alp 11 (.bool true) hsub rfl (by kernel_rfl) (fun _ => (by kernel_rfl)) ?_
     refine al_off 12 hsub rfl (by kernel_rfl) (by kernel_rfl) ?_
     refine al_off 13 hsub rfl (by kernel_rfl) (by kernel_rfl) ?_
     refine al_off 14 hsub rfl (by kernel_rfl) (by kernel_rfl) ?_
     refine al_off 15 hsub rfl (by kernel_rfl) (by kernel_rfl) ?_
     refine al_off 16 hsub rfl (by kernel_rfl) (by kernel_rfl) ?_
     refine al_off 17 hsub rfl (by kernel_rfl) (by kernel_rfl) ?_
     refine alp 18 (.bool true) hsub rfl (by kernel_rfl) (fun _ => (by kernel_rfl)) ?_
     refine any_end (by kernel_rfl) (fun w hI => ?_)
     refine wp_condT rfl (wp_seq (rgn (by kernel_rfl) (pu (iv 52) (by kernel_rfl) (seq_nil (wp_ret ?_)))))
     replace hF := Option.some.inj hF; subst hF
     exact ⟨iv 52, Ret.r1 rfl rfl, ⟨rfl, hI.below⟩⟩
   ·
    refine seq_c (s_lss rfl rfl (fun h => absurd (a := i_378 < (lp0_1.length : Int)) h h305) (fun _ => ?_))
    refine seq_nil (wp_condF rfl (wp_exit ?_))
    refine wp_seq (rgn (by kernel_rfl) (pu (iv 0) (by kernel_rfl) (seq_nil (wp_ret ?_))))
    replace hF := Option.some.inj hF; subst hF
    exact ⟨iv 0, Ret.r1 rfl rfl, ⟨rfl, hI.below⟩⟩
 ·
  refine seq_c (s_callv hI 71 [iv p0_0, iv 0, iv 24] (.bool false) (by kernel_rfl) (Does.mono (L71 _ p0_0 0 24 _ hy214) (fun v' w' h => ⟨h.1.trans (congrArg Value.bool (Bool.eq_false_iff.2 h171)), h.2⟩)) ?_)
  intro w hI
  refine pu (.bool true) (by kernel_rfl) (pu (.bool true) (by kernel_rfl) (of_ (by kernel_rfl) (of_ (by kernel_rfl) (of_ (by kernel_rfl) (of_ (by kernel_rfl) (pu (.bool true) (by kernel_rfl) (seq_nil (wp_condT rfl (wp_seq ?_)))))))))
  refine rgn (by kernel_rfl) (pu (iv 52) (by kernel_rfl) (seq_nil (wp_ret ?_)))
  replace hF := Option.some.inj hF; subst hF
  exact ⟨iv 52, Ret.r1 rfl rfl, ⟨rfl, hI.below⟩⟩


theorem L15 (w0 : World) (p0_0 : Int) (Ap0_1 : Option Addr) (cp0_1 : Nat) (lp0_1 : List Cm) (p1 : Cm) (hCp0_1 : Cells w0 Ap0_1 (flat eCm lp0_1)) (hMp0_1 : lp0_1.length ≤ 9223372036854775807) (hKp0_1 : lp0_1.length ≤ cp0_1) (N : Nat) (r : (Int × List Cm × Int)) (hF : F15 N p0_0 lp0_1 p1 = some r) : Does Try.prog 15 [.agg #[.int .i64 p0_0, .slice Ap0_1 lp0_1.length cp0_1], .agg #[.int .i64 p1.fam, .int .i64 p1.hrs, .int .i64 p1.wants]] w0 fun v w => ∃ (z0 : Option Nat) (z1 : Nat) (z2 : List Value), v = .tuple #[.agg #[.int .i64 r.1, slv z0 r.2.1.length z1], .int .i64 r.2.2] ∧ Inv [] w0 w [(z0, blk z2 26)] ∧ Row 3 z0 r.2.1.length z1 z2 (flat eCm r.2.1) := by
 refine calls_of (n := 44) Try.func15 rfl Try.ntmps15 rfl ?_
 have hI := Inv.start w0
 unfold F15 at hF
 refine wp_seq (rgn (by kernel_rfl) (seq_c (s_boxI hI [iv p0_0, .slice Ap0_1 lp0_1.length cp0_1] rfl ?_)))
 intro b110 w hI
 refine seq_c (s_boxI hI [iv p1.fam, iv p1.hrs, iv p1.wants] rfl ?_)
 intro b111 w hI
 refine seq_c (s_allocI hI [iv 0, .slice none 0 0] Try.zeroValue24 rfl ?_)
 intro b112 w hI
 refine pu (iv 0) (by kernel_rfl) (seq_nil (wp_seq (wp_seq (rgn (by kernel_rfl) (seq_c (s_loadK hI 2 2 [iv p0_0, .slice Ap0_1 lp0_1.length cp0_1] Try.isAgg24 Try.sizeOf24 rfl rfl rfl rfl ?_))))))
 refine bindE hF (fun y119 hy120 hF => ?_)
 refine seq_c (s_callv hI 24 [.agg #[iv p0_0, .slice Ap0_1 lp0_1.length cp0_1]] (iv y119) (by kernel_rfl) (L24 _ p0_0 Ap0_1 cp0_1 lp0_1 (hCp0_1.inv0 hI) hMp0_1 hKp0_1 N _ hy120) ?_)
 intro w hI
 refine ifE hF (fun h36 hF => ?_) (fun h36 hF => ?_)
 ·
  refine seq_c (s_neq rfl rfl (fun h => absurd (a := y119 = 0) h36 h) (fun _ => ?_))
  refine seq_nil (wp_condF rfl (wp_skip (wp_seq (wp_seq (bindE hF (fun y133 hy134 hF => ?_))))))
  refine ifE hF (fun h52 hF => ?_) (fun h52 hF => ?_)
  ·
   refine gdE hF (fun h53 hF => ?_)
   refine ckE hF (fun h54 hF => ?_)
   refine ifE hF (fun h55 hF => ?_) (fun h55 hF => ?_)
   ·
    refine wp_drawn2 hI [0, 1, 2] (by decide) rfl (by kernel_rfl) (by kernel_rfl) ?_
    intro hsub
    refine al_light 0 (.agg #[iv p1.fam, iv p1.hrs, iv p1.wants]) hsub rfl (by kernel_rfl) (fun w hI => s_loadK hI 1 3 [iv p1.fam, iv p1.hrs, iv p1.wants] Try.isAgg26 Try.sizeOf26 rfl rfl rfl rfl ⟨rfl, Below.refl _ _⟩) ?_
    refine al_light 1 (iv y133) hsub rfl (by kernel_rfl) (fun w hI => s_call 22 [.agg #[iv p1.fam, iv p1.hrs, iv p1.wants]] (by kernel_rfl) (L22 _ p1 _ hy134) (fun v' w' h => h)) ?_
    refine al_light 2 (.bool false) hsub rfl (by kernel_rfl) (fun w hI => s_neq rfl rfl (fun h => absurd (a := y133 = 0) h52 h) (fun _ => ⟨rfl, Below.refl _ _⟩)) ?_
    refine alp 3 (.bool false) hsub rfl (by kernel_rfl) (fun _ => (by kernel_rfl)) ?_
    refine al_on 4 (.pointer (some ⟨b111, 1, none⟩)) hsub rfl (by kernel_rfl) (by kernel_rfl) (fun w hI => s_pure (.pointer (some ⟨b111, 1, none⟩)) (by kernel_rfl) ⟨rfl, Below.refl _ _⟩) ?_
    refine al_on 5 (iv p1.hrs) hsub rfl (by kernel_rfl) (by kernel_rfl) (fun w hI => s_load1 hI 1 (iv p1.hrs) Try.isAgg3 rfl rfl rfl ⟨rfl, Below.refl _ _⟩) ?_
    refine al_on 6 (.pointer (some ⟨b110, 0, none⟩)) hsub rfl (by kernel_rfl) (by kernel_rfl) (fun w hI => s_pure (.pointer (some ⟨b110, 0, none⟩)) (by kernel_rfl) ⟨rfl, Below.refl _ _⟩) ?_
    refine al_on 7 (iv p0_0) hsub rfl (by kernel_rfl) (by kernel_rfl) (fun w hI => s_load1 hI 2 (iv p0_0) Try.isAgg3 rfl rfl rfl ⟨rfl, Below.refl _ _⟩) ?_
    refine al_on 8 (iv ((1 : Int) * 2 ^ (p0_0 : Int).toNat)) hsub rfl (by kernel_rfl) (by kernel_rfl) (fun w hI => s_shl rfl rfl h53 h54 ⟨rfl, Below.refl _ _⟩) ?_
    refine al_on 9 (.bool true) hsub rfl (by kernel_rfl) (by kernel_rfl) (fun w hI => s_geq rfl rfl (fun _ => ⟨rfl, Below.refl _ _⟩) (fun h => absurd (a := ((1 : Int) * 2 ^ (p0_0 : Int).toNat) ≤ p1.hrs) h55 h)) ?_
    refine alp 10 (.bool true) hsub rfl (by kernel_rfl) (fun _ => (by kernel_rfl)) ?_
    refine alp 11 (.bool true) hsub rfl (by kernel_rfl) (fun _ => (by kernel_rfl)) ?_
    refine al_off 12 hsub rfl (by kernel_rfl) (by kernel_rfl) ?_
    refine al_off 13 hsub rfl (by kernel_rfl) (by kernel_rfl) ?_
    refine al_off 14 hsub rfl (by kernel_rfl) (by kernel_rfl) ?_
    refine al_off 15 hsub rfl (by kernel_rfl) (by kernel_rfl) ?_
    refine al_off 16 hsub rfl (by kernel_rfl) (by kernel_rfl) ?_
    refine alp 17 (.bool true) hsub rfl (by kernel_rfl) (fun _ => (by kernel_rfl)) ?_
    refine any_end (by kernel_rfl) (fun w hI => ?_)
    refine wp_condT rfl (wp_seq (rgn (by kernel_rfl) (pu (.agg #[iv 0, .slice none 0 0]) (by kernel_rfl) (seq_c (s_store hI 0 2 [iv 0, .slice none 0 0] Try.sizeOf24 rfl rfl rfl rfl rfl (Nat.le_of_ble_eq_true rfl) ?_)))))
    intro w hI
    refine pu (iv 51) (by kernel_rfl) (seq_nil (wp_ret ?_))
    have hI := hI.nilRow 26
    replace hF := Option.some.inj hF; subst hF
    exact ⟨.tuple #[.agg #[iv 0, .slice none 0 0], iv 51], Ret.ct rfl rfl (run_loadK hI 1 2 [iv 0, .slice none 0 0] Try.isAgg24 Try.sizeOf24 rfl rfl rfl) rfl, ⟨none, 0, [], rfl, hI.pickL [0] (by decide) rfl, Row.nil_ 3⟩⟩
   ·
    refine bindE hF (fun y135 hy136 hF => ?_)
    refine ifE hF (fun h56 hF => ?_) (fun h56 hF => ?_)
    ·
     refine wp_drawn2 hI [0, 1, 2] (by decide) rfl (by kernel_rfl) (by kernel_rfl) ?_
     intro hsub
     refine al_light 0 (.agg #[iv p1.fam, iv p1.hrs, iv p1.wants]) hsub rfl (by kernel_rfl) (fun w hI => s_loadK hI 1 3 [iv p1.fam, iv p1.hrs, iv p1.wants] Try.isAgg26 Try.sizeOf26 rfl rfl rfl rfl ⟨rfl, Below.refl _ _⟩) ?_
     refine al_light 1 (iv y133) hsub rfl (by kernel_rfl) (fun w hI => s_call 22 [.agg #[iv p1.fam, iv p1.hrs, iv p1.wants]] (by kernel_rfl) (L22 _ p1 _ hy134) (fun v' w' h => h)) ?_
     refine al_light 2 (.bool false) hsub rfl (by kernel_rfl) (fun w hI => s_neq rfl rfl (fun h => absurd (a := y133 = 0) h52 h) (fun _ => ⟨rfl, Below.refl _ _⟩)) ?_
     refine alp 3 (.bool false) hsub rfl (by kernel_rfl) (fun _ => (by kernel_rfl)) ?_
     refine al_on 4 (.pointer (some ⟨b111, 1, none⟩)) hsub rfl (by kernel_rfl) (by kernel_rfl) (fun w hI => s_pure (.pointer (some ⟨b111, 1, none⟩)) (by kernel_rfl) ⟨rfl, Below.refl _ _⟩) ?_
     refine al_on 5 (iv p1.hrs) hsub rfl (by kernel_rfl) (by kernel_rfl) (fun w hI => s_load1 hI 1 (iv p1.hrs) Try.isAgg3 rfl rfl rfl ⟨rfl, Below.refl _ _⟩) ?_
     refine al_on 6 (.pointer (some ⟨b110, 0, none⟩)) hsub rfl (by kernel_rfl) (by kernel_rfl) (fun w hI => s_pure (.pointer (some ⟨b110, 0, none⟩)) (by kernel_rfl) ⟨rfl, Below.refl _ _⟩) ?_
     refine al_on 7 (iv p0_0) hsub rfl (by kernel_rfl) (by kernel_rfl) (fun w hI => s_load1 hI 2 (iv p0_0) Try.isAgg3 rfl rfl rfl ⟨rfl, Below.refl _ _⟩) ?_
     refine al_on 8 (iv ((1 : Int) * 2 ^ (p0_0 : Int).toNat)) hsub rfl (by kernel_rfl) (by kernel_rfl) (fun w hI => s_shl rfl rfl h53 h54 ⟨rfl, Below.refl _ _⟩) ?_
     refine al_on 9 (.bool false) hsub rfl (by kernel_rfl) (by kernel_rfl) (fun w hI => s_geq rfl rfl (fun h => absurd (a := ((1 : Int) * 2 ^ (p0_0 : Int).toNat) ≤ p1.hrs) h h55) (fun _ => ⟨rfl, Below.refl _ _⟩)) ?_
     refine alp 10 (.bool false) hsub rfl (by kernel_rfl) (fun _ => (by kernel_rfl)) ?_
     refine alp 11 (.bool false) hsub rfl (by kernel_rfl) (fun _ => (by kernel_rfl)) ?_
     refine al_on 12 (.agg #[iv p0_0, .slice Ap0_1 lp0_1.length cp0_1]) hsub rfl (by kernel_rfl) (by kernel_rfl) (fun w hI => s_loadK hI 2 2 [iv p0_0, .slice Ap0_1 lp0_1.length cp0_1] Try.isAgg24 Try.sizeOf24 rfl rfl rfl rfl ⟨rfl, Below.refl _ _⟩) ?_
     refine al_on 13 (.pointer (some ⟨b111, 0, none⟩)) hsub rfl (by kernel_rfl) (by kernel_rfl) (fun w hI => s_pure (.pointer (some ⟨b111, 0, none⟩)) (by kernel_rfl) ⟨rfl, Below.refl _ _⟩) ?_
     refine al_on 14 (iv p1.fam) hsub rfl (by kernel_rfl) (by kernel_rfl) (fun w hI => s_load1 hI 1 (iv p1.fam) Try.isAgg3 rfl rfl rfl ⟨rfl, Below.refl _ _⟩) ?_
     refine al_on 15 (iv y135) hsub rfl (by kernel_rfl) (by kernel_rfl) (fun w hI => s_call 65 [.agg #[iv p0_0, .slice Ap0_1 lp0_1.length cp0_1], iv p1.fam] (by kernel_rfl) (L65 _ p0_0 Ap0_1 cp0_1 lp0_1 p1.fam (hCp0_1.inv0 hI) hMp0_1 hKp0_1 N _ hy136) (fun v' w' h => h)) ?_
     refine al_on 16 (.bool true) hsub rfl (by kernel_rfl) (by kernel_rfl) (fun w hI => s_geq rfl rfl (fun _ => ⟨rfl, Below.refl _ _⟩) (fun h => absurd (a := 0 ≤ y135) h56 h)) ?_
     refine alp 17 (.bool true) hsub rfl (by kernel_rfl) (fun _ => (by kernel_rfl)) ?_
     refine any_end (by kernel_rfl) (fun w hI => ?_)
     refine wp_condT rfl (wp_seq (rgn (by kernel_rfl) (pu (.agg #[iv 0, .slice none 0 0]) (by kernel_rfl) (seq_c (s_store hI 0 2 [iv 0, .slice none 0 0] Try.sizeOf24 rfl rfl rfl rfl rfl (Nat.le_of_ble_eq_true rfl) ?_)))))
     intro w hI
     refine pu (iv 51) (by kernel_rfl) (seq_nil (wp_ret ?_))
     have hI := hI.nilRow 26
     replace hF := Option.some.inj hF; subst hF
     exact ⟨.tuple #[.agg #[iv 0, .slice none 0 0], iv 51], Ret.ct rfl rfl (run_loadK hI 1 2 [iv 0, .slice none 0 0] Try.isAgg24 Try.sizeOf24 rfl rfl rfl) rfl, ⟨none, 0, [], rfl, hI.pickL [0] (by decide) rfl, Row.nil_ 3⟩⟩
    ·
     refine wp_drawn2 hI [0, 1, 2] (by decide) rfl (by kernel_rfl) (by kernel_rfl) ?_
     intro hsub
     refine al_light 0 (.agg #[iv p1.fam, iv p1.hrs, iv p1.wants]) hsub rfl (by kernel_rfl) (fun w hI => s_loadK hI 1 3 [iv p1.fam, iv p1.hrs, iv p1.wants] Try.isAgg26 Try.sizeOf26 rfl rfl rfl rfl ⟨rfl, Below.refl _ _⟩) ?_
     refine al_light 1 (iv y133) hsub rfl (by kernel_rfl) (fun w hI => s_call 22 [.agg #[iv p1.fam, iv p1.hrs, iv p1.wants]] (by kernel_rfl) (L22 _ p1 _ hy134) (fun v' w' h => h)) ?_
     refine al_light 2 (.bool false) hsub rfl (by kernel_rfl) (fun w hI => s_neq rfl rfl (fun h => absurd (a := y133 = 0) h52 h) (fun _ => ⟨rfl, Below.refl _ _⟩)) ?_
     refine alp 3 (.bool false) hsub rfl (by kernel_rfl) (fun _ => (by kernel_rfl)) ?_
     refine al_on 4 (.pointer (some ⟨b111, 1, none⟩)) hsub rfl (by kernel_rfl) (by kernel_rfl) (fun w hI => s_pure (.pointer (some ⟨b111, 1, none⟩)) (by kernel_rfl) ⟨rfl, Below.refl _ _⟩) ?_
     refine al_on 5 (iv p1.hrs) hsub rfl (by kernel_rfl) (by kernel_rfl) (fun w hI => s_load1 hI 1 (iv p1.hrs) Try.isAgg3 rfl rfl rfl ⟨rfl, Below.refl _ _⟩) ?_
     refine al_on 6 (.pointer (some ⟨b110, 0, none⟩)) hsub rfl (by kernel_rfl) (by kernel_rfl) (fun w hI => s_pure (.pointer (some ⟨b110, 0, none⟩)) (by kernel_rfl) ⟨rfl, Below.refl _ _⟩) ?_
     refine al_on 7 (iv p0_0) hsub rfl (by kernel_rfl) (by kernel_rfl) (fun w hI => s_load1 hI 2 (iv p0_0) Try.isAgg3 rfl rfl rfl ⟨rfl, Below.refl _ _⟩) ?_
     refine al_on 8 (iv ((1 : Int) * 2 ^ (p0_0 : Int).toNat)) hsub rfl (by kernel_rfl) (by kernel_rfl) (fun w hI => s_shl rfl rfl h53 h54 ⟨rfl, Below.refl _ _⟩) ?_
     refine al_on 9 (.bool false) hsub rfl (by kernel_rfl) (by kernel_rfl) (fun w hI => s_geq rfl rfl (fun h => absurd (a := ((1 : Int) * 2 ^ (p0_0 : Int).toNat) ≤ p1.hrs) h h55) (fun _ => ⟨rfl, Below.refl _ _⟩)) ?_
     refine alp 10 (.bool false) hsub rfl (by kernel_rfl) (fun _ => (by kernel_rfl)) ?_
     refine alp 11 (.bool false) hsub rfl (by kernel_rfl) (fun _ => (by kernel_rfl)) ?_
     refine al_on 12 (.agg #[iv p0_0, .slice Ap0_1 lp0_1.length cp0_1]) hsub rfl (by kernel_rfl) (by kernel_rfl) (fun w hI => s_loadK hI 2 2 [iv p0_0, .slice Ap0_1 lp0_1.length cp0_1] Try.isAgg24 Try.sizeOf24 rfl rfl rfl rfl ⟨rfl, Below.refl _ _⟩) ?_
     refine al_on 13 (.pointer (some ⟨b111, 0, none⟩)) hsub rfl (by kernel_rfl) (by kernel_rfl) (fun w hI => s_pure (.pointer (some ⟨b111, 0, none⟩)) (by kernel_rfl) ⟨rfl, Below.refl _ _⟩) ?_
     refine al_on 14 (iv p1.fam) hsub rfl (by kernel_rfl) (by kernel_rfl) (fun w hI => s_load1 hI 1 (iv p1.fam) Try.isAgg3 rfl rfl rfl ⟨rfl, Below.refl _ _⟩) ?_
     refine al_on 15 (iv y135) hsub rfl (by kernel_rfl) (by kernel_rfl) (fun w hI => s_call 65 [.agg #[iv p0_0, .slice Ap0_1 lp0_1.length cp0_1], iv p1.fam] (by kernel_rfl) (L65 _ p0_0 Ap0_1 cp0_1 lp0_1 p1.fam (hCp0_1.inv0 hI) hMp0_1 hKp0_1 N _ hy136) (fun v' w' h => h)) ?_
     refine al_on 16 (.bool false) hsub rfl (by kernel_rfl) (by kernel_rfl) (fun w hI => s_geq rfl rfl (fun h => absurd (a := 0 ≤ y135) h h56) (fun _ => ⟨rfl, Below.refl _ _⟩)) ?_
     refine alp 17 (.bool false) hsub rfl (by kernel_rfl) (fun _ => (by kernel_rfl)) ?_
     refine any_end (by kernel_rfl) (fun w hI => ?_)
     refine wp_condF rfl (wp_skip (wp_seq (wp_seq (rgn (by kernel_rfl) (pu (.pointer (some ⟨b110, 1, none⟩)) (by kernel_rfl) (seq_c (s_load1 hI 2 (.slice Ap0_1 lp0_1.length cp0_1) Try.isAgg22 rfl rfl rfl ?_)))))))
     refine pu (iv ((lp0_1.length : Nat) : Int)) (by kernel_rfl) (ifE hF (fun h60 hF => ?_) (fun h60 hF => ?_))
     ·
      refine seq_c (s_eql rfl rfl (fun _ => ?_) (fun h => absurd (a := (lp0_1.length : Int) = 12) h60 h))
      refine seq_nil (wp_condT rfl (wp_seq (rgn (by kernel_rfl) (pu (.agg #[iv 0, .slice none 0 0]) (by kernel_rfl) (seq_c (s_store hI 0 2 [iv 0, .slice none 0 0] Try.sizeOf24 rfl rfl rfl rfl rfl (Nat.le_of_ble_eq_true rfl) ?_))))))
      intro w hI
      refine pu (iv 2) (by kernel_rfl) (seq_nil (wp_ret ?_))
      have hI := hI.nilRow 26
      replace hF := Option.some.inj hF; subst hF
      exact ⟨.tuple #[.agg #[iv 0, .slice none 0 0], iv 2], Ret.ct rfl rfl (run_loadK hI 1 2 [iv 0, .slice none 0 0] Try.isAgg24 Try.sizeOf24 rfl rfl rfl) rfl, ⟨none, 0, [], rfl, hI.pickL [0] (by decide) rfl, Row.nil_ 3⟩⟩
     ·
      refine seq_c (s_eql rfl rfl (fun h => absurd (a := (lp0_1.length : Int) = 12) h h60) (fun _ => ?_))
      refine seq_nil (wp_condF rfl (wp_skip (wp_seq (gdE hF (fun h63 hF => ?_)))))
      refine gdE hF (fun h64 hF => ?_)
      replace hI := hI.pickL [1, 2, 0] (by decide) rfl
      refine wp_drawn2 hI [0, 1] (by decide) rfl (by kernel_rfl) (by kernel_rfl) ?_
      intro hsub
      refine alp 0 (.pointer (some ⟨b110, 0, none⟩)) hsub rfl (by kernel_rfl) (fun _ => (by kernel_rfl)) ?_
      refine al_light 1 (iv p0_0) hsub rfl (by kernel_rfl) (fun w hI => s_load1 hI 1 (iv p0_0) Try.isAgg3 rfl rfl rfl ⟨rfl, Below.refl _ _⟩) ?_
      refine alp 3 (.pointer (some ⟨b110, 1, none⟩)) hsub rfl (by kernel_rfl) (fun _ => (by kernel_rfl)) ?_
      refine al_light 4 (.slice Ap0_1 lp0_1.length cp0_1) hsub rfl (by kernel_rfl) (fun w hI => s_load1 hI 1 (.slice Ap0_1 lp0_1.length cp0_1) Try.isAgg22 rfl rfl rfl ⟨rfl, Below.refl _ _⟩) ?_
      refine al_light 6 (.agg #[iv p1.fam, iv p1.hrs, iv p1.wants]) hsub rfl (by kernel_rfl) (fun w hI => s_loadK hI 0 3 [iv p1.fam, iv p1.hrs, iv p1.wants] Try.isAgg26 Try.sizeOf26 rfl rfl rfl rfl ⟨rfl, Below.refl _ _⟩) ?_
      refine any_heavy [2, 7] (by kernel_rfl) rfl (each2 ?_ ?_)
      ·intro w hI
       refine ol_c rfl (s_new hI [] 26 (fun b => slv (some b) 0 0) (by kernel_rfl) ?_)
       intro b190 w hI
       refine ⟨_, hI, subk (fun _ h => h.pickL [1, 2] (by decide) rfl) ?_⟩
       intro hsub
       refine any_heavy [5, 7] (by kernel_rfl) rfl (each2 ?_ ?_)
       ·intro w hI
        refine ol_c rfl (s_appN hI Try.underlying22 (z := .agg #[iv 0, iv 0, iv 0]) (k := 3) (bytes := 24) (by kernel_rfl) rfl rfl 0 rfl rfl (Row.zero_ 3 b190) (flat eCm lp0_1) rfl (flat_len eCm_len _) (hCp0_1.inv0 hI) (flat_cell eCm_cell _) (by omega) (by omega) (n2 := lp0_1.length) (app_len0 rfl) ?_)
        intro g191 c192 cl193 w hI r194
        refine ⟨_, hI, subk (fun _ h => h.pickL [1, 2] (by decide) rfl) ?_⟩
        intro hsub
        have r194 : Row 3 g191 lp0_1.length c192 cl193 (flat eCm lp0_1) := r194
        refine any_heavy [7] (by kernel_rfl) rfl (each1 ?_)
        intro w hI
        refine ol_c rfl (s_new hI [iv p1.fam, iv p1.hrs, iv p1.wants] 26 (fun b => slv (some b) 1 1) (by kernel_rfl) ?_)
        intro b195 w hI
        refine ⟨_, hI, subk (fun _ h => h.pickL [2, 3] (by decide) rfl) ?_⟩
        intro hsub
        refine any_heavy [8] (by kernel_rfl) rfl (each1 ?_)
        intro w hI
        refine ol_c rfl (s_appN hI Try.underlying22 (z := .agg #[iv 0, iv 0, iv 0]) (k := 3) (bytes := 24) (by kernel_rfl) rfl rfl 1 rfl rfl r194 [iv p1.fam, iv p1.hrs, iv p1.wants] rfl rfl (hI.cells 0 (off := 0) rfl (fun j u h => by rw [Nat.zero_add]; exact h)) (by simp [Value.oneCell']) (by omega) (by omega) (n2 := (lp0_1 ++ [(⟨p1.fam, p1.hrs, p1.wants⟩ : Cm)]).length) (app_len rfl rfl) ?_)
        intro g196 c197 cl198 w hI r199
        refine ⟨_, hI, subk (fun _ h => h.pickL [2, 3] (by decide) rfl) ?_⟩
        intro hsub
        have r199 : Row 3 g196 ((lp0_1 ++ [(⟨p1.fam, p1.hrs, p1.wants⟩ : Cm)]).length) c197 cl198 (flat eCm (lp0_1 ++ [(⟨p1.fam, p1.hrs, p1.wants⟩ : Cm)])) := r199.snoc _ rfl
        refine alp 9 (.agg #[iv p0_0, slv g196 ((lp0_1 ++ [(⟨p1.fam, p1.hrs, p1.wants⟩ : Cm)]).length) c197]) hsub rfl (by kernel_rfl) (fun _ => (by kernel_rfl)) ?_
        refine any_heavy [10] (by kernel_rfl) rfl (each1 ?_)
        intro w hI
        refine ol_c rfl (s_store hI 4 2 [iv p0_0, slv g196 ((lp0_1 ++ [(⟨p1.fam, p1.hrs, p1.wants⟩ : Cm)]).length) c197] Try.sizeOf24 rfl rfl rfl rfl rfl (Nat.le_of_ble_eq_true rfl) ?_)
        intro w hI
        refine ⟨_, hI, subk (fun _ h => h.pickL [2, 3] (by decide) rfl) ?_⟩
        intro hsub
        refine alp 11 (iv 0) hsub rfl (by kernel_rfl) (fun _ => (by kernel_rfl)) ?_
        refine any_end (by kernel_rfl) (fun w hI => ?_)
        refine wp_ret ?_
        replace hF := Option.some.inj hF; subst hF
        exact ⟨.tuple #[.agg #[iv p0_0, slv g196 ((lp0_1 ++ [(⟨p1.fam, p1.hrs, p1.wants⟩ : Cm)]).length) c197], iv 0], Ret.ct rfl rfl (run_loadK hI 4 2 [iv p0_0, slv g196 ((lp0_1 ++ [(⟨p1.fam, p1.hrs, p1.wants⟩ : Cm)]).length) c197] Try.isAgg24 Try.sizeOf24 rfl rfl rfl) rfl, ⟨g196, c197, cl198, rfl, hI.pickL [1] (by decide) rfl, r199.to rfl rfl⟩⟩
       ·intro w hI
        refine ol_c rfl (s_new hI [iv p1.fam, iv p1.hrs, iv p1.wants] 26 (fun b => slv (some b) 1 1) (by kernel_rfl) ?_)
        intro b200 w hI
        refine ⟨_, hI, subk (fun _ h => h.pickL [2, 3] (by decide) rfl) ?_⟩
        intro hsub
        refine any_heavy [5] (by kernel_rfl) rfl (each1 ?_)
        intro w hI
        refine ol_c rfl (s_appN hI Try.underlying22 (z := .agg #[iv 0, iv 0, iv 0]) (k := 3) (bytes := 24) (by kernel_rfl) rfl rfl 1 rfl rfl (Row.zero_ 3 b190) (flat eCm lp0_1) rfl (flat_len eCm_len _) (hCp0_1.inv0 hI) (flat_cell eCm_cell _) (by omega) (by omega) (n2 := lp0_1.length) (app_len0 rfl) ?_)
        intro g201 c202 cl203 w hI r204
        refine ⟨_, hI, subk (fun _ h => h.pickL [2, 3] (by decide) rfl) ?_⟩
        intro hsub
        have r204 : Row 3 g201 lp0_1.length c202 cl203 (flat eCm lp0_1) := r204
        refine any_heavy [8] (by kernel_rfl) rfl (each1 ?_)
        intro w hI
        refine ol_c rfl (s_appN hI Try.underlying22 (z := .agg #[iv 0, iv 0, iv 0]) (k := 3) (bytes := 24) (by kernel_rfl) rfl rfl 1 rfl rfl r204 [iv p1.fam, iv p1.hrs, iv p1.wants] rfl rfl (hI.cells 0 (off := 0) rfl (fun j u h => by rw [Nat.zero_add]; exact h)) (by simp [Value.oneCell']) (by omega) (by omega) (n2 := (lp0_1 ++ [(⟨p1.fam, p1.hrs, p1.wants⟩ : Cm)]).length) (app_len rfl rfl) ?_)
        intro g205 c206 cl207 w hI r208
        refine ⟨_, hI, subk (fun _ h => h.pickL [2, 3] (by decide) rfl) ?_⟩
        intro hsub
        have r208 : Row 3 g205 ((lp0_1 ++ [(⟨p1.fam, p1.hrs, p1.wants⟩ : Cm)]).length) c206 cl207 (flat eCm (lp0_1 ++ [(⟨p1.fam, p1.hrs, p1.wants⟩ : Cm)])) := r208.snoc _ rfl
        refine alp 9 (.agg #[iv p0_0, slv g205 ((lp0_1 ++ [(⟨p1.fam, p1.hrs, p1.wants⟩ : Cm)]).length) c206]) hsub rfl (by kernel_rfl) (fun _ => (by kernel_rfl)) ?_
        refine any_heavy [10] (by kernel_rfl) rfl (each1 ?_)
        intro w hI
        refine ol_c rfl (s_store hI 4 2 [iv p0_0, slv g205 ((lp0_1 ++ [(⟨p1.fam, p1.hrs, p1.wants⟩ : Cm)]).length) c206] Try.sizeOf24 rfl rfl rfl rfl rfl (Nat.le_of_ble_eq_true rfl) ?_)
        intro w hI
        refine ⟨_, hI, subk (fun _ h => h.pickL [2, 3] (by decide) rfl) ?_⟩
        intro hsub
        refine alp 11 (iv 0) hsub rfl (by kernel_rfl) (fun _ => (by kernel_rfl)) ?_
        refine any_end (by kernel_rfl) (fun w hI => ?_)
        refine wp_ret ?_
        replace hF := Option.some.inj hF; subst hF
        exact ⟨.tuple #[.agg #[iv p0_0, slv g205 ((lp0_1 ++ [(⟨p1.fam, p1.hrs, p1.wants⟩ : Cm)]).length) c206], iv 0], Ret.ct rfl rfl (run_loadK hI 4 2 [iv p0_0, slv g205 ((lp0_1 ++ [(⟨p1.fam, p1.hrs, p1.wants⟩ : Cm)]).length) c206] Try.isAgg24 Try.sizeOf24 rfl rfl rfl) rfl, ⟨g205, c206, cl207, rfl, hI.pickL [1] (by decide) rfl, r208.to rfl rfl⟩⟩
      ·intro w hI
       refine ol_c rfl (s_new hI [iv p1.fam, iv p1.hrs, iv p1.wants] 26 (fun b => slv (some b) 1 1) (by kernel_rfl) ?_)
       intro b209 w hI
       refine ⟨_, hI, subk (fun _ h => h.pickL [1, 2] (by decide) rfl) ?_⟩
       intro hsub
       refine any_heavy [2] (by kernel_rfl) rfl (each1 ?_)
       intro w hI
       refine ol_c rfl (s_new hI [] 26 (fun b => slv (some b) 0 0) (by kernel_rfl) ?_)
       intro b210 w hI
       refine ⟨_, hI, subk (fun _ h => h.pickL [2, 3] (by decide) rfl) ?_⟩
       intro hsub
       refine any_heavy [5] (by kernel_rfl) rfl (each1 ?_)
       intro w hI
       refine ol_c rfl (s_appN hI Try.underlying22 (z := .agg #[iv 0, iv 0, iv 0]) (k := 3) (bytes := 24) (by kernel_rfl) rfl rfl 0 rfl rfl (Row.zero_ 3 b210) (flat eCm lp0_1) rfl (flat_len eCm_len _) (hCp0_1.inv0 hI) (flat_cell eCm_cell _) (by omega) (by omega) (n2 := lp0_1.length) (app_len0 rfl) ?_)
       intro g211 c212 cl213 w hI r214
       refine ⟨_, hI, subk (fun _ h => h.pickL [2, 3] (by decide) rfl) ?_⟩
       intro hsub
       have r214 : Row 3 g211 lp0_1.length c212 cl213 (flat eCm lp0_1) := r214
       refine any_heavy [8] (by kernel_rfl) rfl (each1 ?_)
       intro w hI
       refine ol_c rfl (s_appN hI Try.underlying22 (z := .agg #[iv 0, iv 0, iv 0]) (k := 3) (bytes := 24) (by kernel_rfl) rfl rfl 0 rfl rfl r214 [iv p1.fam, iv p1.hrs, iv p1.wants] rfl rfl (hI.cells 1 (off := 0) rfl (fun j u h => by rw [Nat.zero_add]; exact h)) (by simp [Value.oneCell']) (by omega) (by omega) (n2 := (lp0_1 ++ [(⟨p1.fam, p1.hrs, p1.wants⟩ : Cm)]).length) (app_len rfl rfl) ?_)
       intro g215 c216 cl217 w hI r218
       refine ⟨_, hI, subk (fun _ h => h.pickL [2, 3] (by decide) rfl) ?_⟩
       intro hsub
       have r218 : Row 3 g215 ((lp0_1 ++ [(⟨p1.fam, p1.hrs, p1.wants⟩ : Cm)]).length) c216 cl217 (flat eCm (lp0_1 ++ [(⟨p1.fam, p1.hrs, p1.wants⟩ : Cm)])) := r218.snoc _ rfl
       refine alp 9 (.agg #[iv p0_0, slv g215 ((lp0_1 ++ [(⟨p1.fam, p1.hrs, p1.wants⟩ : Cm)]).length) c216]) hsub rfl (by kernel_rfl) (fun _ => (by kernel_rfl)) ?_
       refine any_heavy [10] (by kernel_rfl) rfl (each1 ?_)
       intro w hI
       refine ol_c rfl (s_store hI 4 2 [iv p0_0, slv g215 ((lp0_1 ++ [(⟨p1.fam, p1.hrs, p1.wants⟩ : Cm)]).length) c216] Try.sizeOf24 rfl rfl rfl rfl rfl (Nat.le_of_ble_eq_true rfl) ?_)
       intro w hI
       refine ⟨_, hI, subk (fun _ h => h.pickL [2, 3] (by decide) rfl) ?_⟩
       intro hsub
       refine alp 11 (iv 0) hsub rfl (by kernel_rfl) (fun _ => (by kernel_rfl)) ?_
       refine any_end (by kernel_rfl) (fun w hI => ?_)
       refine wp_ret ?_
       replace hF := Option.some.inj hF; subst hF
       exact ⟨.tuple #[.agg #[iv p0_0, slv g215 ((lp0_1 ++ [(⟨p1.fam, p1.hrs, p1.wants⟩ : Cm)]).length) c216], iv 0], Ret.ct rfl rfl (run_loadK hI 4 2 [iv p0_0, slv g215 ((lp0_1 ++ [(⟨p1.fam, p1.hrs, p1.wants⟩ : Cm)]).length) c216] Try.isAgg24 Try.sizeOf24 rfl rfl rfl) rfl, ⟨g215, c216, cl217, rfl, hI.pickL [0] (by decide) rfl, r218.to rfl rfl⟩⟩
  ·
   refine wp_drawn2 hI [0, 1, 2] (by decide) rfl (by kernel_rfl) (by kernel_rfl) ?_
   intro hsub
   refine al_light 0 (.agg #[iv p1.fam, iv p1.hrs, iv p1.wants]) hsub rfl (by kernel_rfl) (fun w hI => s_loadK hI 1 3 [iv p1.fam, iv p1.hrs, iv p1.wants] Try.isAgg26 Try.sizeOf26 rfl rfl rfl rfl ⟨rfl, Below.refl _ _⟩) ?_
   refine al_light 1 (iv y133) hsub rfl (by kernel_rfl) (fun w hI => s_call 22 [.agg #[iv p1.fam, iv p1.hrs, iv p1.wants]] (by kernel_rfl) (L22 _ p1 _ hy134) (fun v' w' h => h)) ?_
   refine al_light 2 (.bool true) hsub rfl (by kernel_rfl) (fun w hI => s_neq rfl rfl (fun _ => ⟨rfl, Below.refl _ _⟩) (fun h => absurd (a := y133 = 0) h h52)) ?_
   refine alp 3 (.bool true) hsub rfl (by kernel_rfl) (fun _ => (by kernel_rfl)) ?_
   refine al_off 4 hsub rfl (by kernel_rfl) (by kernel_rfl) ?_
   refine al_off 5 hsub rfl (by kernel_rfl) (by kernel_rfl) ?_
   refine al_off 6 hsub rfl (by kernel_rfl) (by kernel_rfl) ?_
   refine al_off 7 hsub rfl (by kernel_rfl) (by kernel_rfl) ?_
   refine al_off 8 hsub rfl (by kernel_rfl) (by kernel_rfl) ?_
   refine al_off 9 hsub rfl (by kernel_rfl) (by kernel_rfl) ?_
   refine alp 10 (.bool true) hsub rfl (by kernel_rfl) (fun _ => (by kernel_rfl)) ?_
   refine alp 11 (.bool true) hsub rfl (by kernel_rfl) (fun _ => (by kernel_rfl)) ?_
   refine al_off 12 hsub rfl (by kernel_rfl) (by kernel_rfl) ?_
   refine al_off 13 hsub rfl (by kernel_rfl) (by kernel_rfl) ?_
   refine al_off 14 hsub rfl (by kernel_rfl) (by kernel_rfl) ?_
   refine al_off 15 hsub rfl (by kernel_rfl) (by kernel_rfl) ?_
   refine al_off 16 hsub rfl (by kernel_rfl) (by kernel_rfl) ?_
   refine alp 17 (.bool true) hsub rfl (by kernel_rfl) (fun _ => (by kernel_rfl)) ?_
   refine any_end (by kernel_rfl) (fun w hI => ?_)
   refine wp_condT rfl (wp_seq (rgn (by kernel_rfl) (pu (.agg #[iv 0, .slice none 0 0]) (by kernel_rfl) (seq_c (s_store hI 0 2 [iv 0, .slice none 0 0] Try.sizeOf24 rfl rfl rfl rfl rfl (Nat.le_of_ble_eq_true rfl) ?_)))))
   intro w hI
   refine pu (iv 51) (by kernel_rfl) (seq_nil (wp_ret ?_))
   have hI := hI.nilRow 26
   replace hF := Option.some.inj hF; subst hF
   exact ⟨.tuple #[.agg #[iv 0, .slice none 0 0], iv 51], Ret.ct rfl rfl (run_loadK hI 1 2 [iv 0, .slice none 0 0] Try.isAgg24 Try.sizeOf24 rfl rfl rfl) rfl, ⟨none, 0, [], rfl, hI.pickL [0] (by decide) rfl, Row.nil_ 3⟩⟩
 ·
  refine seq_c (s_neq rfl rfl (fun _ => ?_) (fun h => absurd (a := y119 = 0) h h36))
  refine seq_nil (wp_condT rfl (wp_seq (rgn (by kernel_rfl) (pu (.agg #[iv 0, .slice none 0 0]) (by kernel_rfl) (seq_c (s_store hI 0 2 [iv 0, .slice none 0 0] Try.sizeOf24 rfl rfl rfl rfl rfl (Nat.le_of_ble_eq_true rfl) ?_))))))
  intro w hI
  refine pu (iv 52) (by kernel_rfl) (seq_nil (wp_ret ?_))
  have hI := hI.nilRow 26
  replace hF := Option.some.inj hF; subst hF
  exact ⟨.tuple #[.agg #[iv 0, .slice none 0 0], iv 52], Ret.ct rfl rfl (run_loadK hI 1 2 [iv 0, .slice none 0 0] Try.isAgg24 Try.sizeOf24 rfl rfl rfl) rfl, ⟨none, 0, [], rfl, hI.pickL [0] (by decide) rfl, Row.nil_ 3⟩⟩


theorem L66 (w0 : World) (p0_0 : Int) (Ap0_1 : Option Addr) (cp0_1 : Nat) (lp0_1 : List Cm) (p1 : Int) (hCp0_1 : Cells w0 Ap0_1 (flat eCm lp0_1)) (hMp0_1 : lp0_1.length ≤ 9223372036854775807) (hKp0_1 : lp0_1.length ≤ cp0_1) (N : Nat) (r : (Int × Int)) (hF : F66 N p0_0 lp0_1 p1 = some r) : Does Try.prog 66 [.agg #[.int .i64 p0_0, .slice Ap0_1 lp0_1.length cp0_1], .int .i64 p1] w0 fun v w => v = .tuple #[.int .i64 r.1, .int .i64 r.2] ∧ Below w0.heap.size w0 w := by
 refine calls_of (n := 19) Try.func66 rfl Try.ntmps66 rfl ?_
 have hI := Inv.start w0
 unfold F66 at hF
 refine wp_seq (rgn (by kernel_rfl) (seq_c (s_boxI hI [iv p0_0, .slice Ap0_1 lp0_1.length cp0_1] rfl ?_)))
 intro b14 w hI
 refine pu (iv 0) (by kernel_rfl) (pu (iv 0) (by kernel_rfl) (seq_nil (wp_seq (wp_seq (rgn (by kernel_rfl) (seq_c (s_loadK hI 0 2 [iv p0_0, .slice Ap0_1 lp0_1.length cp0_1] Try.isAgg24 Try.sizeOf24 rfl rfl rfl rfl ?_)))))))
 refine bindE hF (fun y21 hy22 hF => ?_)
 refine seq_c (s_callv hI 23 [.agg #[iv p0_0, .slice Ap0_1 lp0_1.length cp0_1]] (iv y21) (by kernel_rfl) (L23 _ p0_0 Ap0_1 cp0_1 lp0_1 (hCp0_1.inv0 hI) hMp0_1 hKp0_1 N _ hy22) ?_)
 intro w hI
 refine pu (iv y21) (by kernel_rfl) (seq_nil (wp_seq (rgn (by kernel_rfl) (pu (iv y21) (by kernel_rfl) (ifE hF (fun h12 hF => ?_) (fun h12 hF => ?_))))))
 ·
  refine seq_c (s_neq rfl rfl (fun h => absurd (a := y21 = 0) h12 h) (fun _ => ?_))
  refine seq_nil (wp_condF rfl (wp_skip (wp_seq (rgn (by kernel_rfl) (seq_c (s_loadK hI 0 2 [iv p0_0, .slice Ap0_1 lp0_1.length cp0_1] Try.isAgg24 Try.sizeOf24 rfl rfl rfl rfl ?_))))))
  refine pu (iv p1) (by kernel_rfl) (bindE hF (fun y25 hy26 hF => ?_))
  refine seq_c (s_callv hI 98 [.agg #[iv p0_0, .slice Ap0_1 lp0_1.length cp0_1], iv p1] (iv y25) (by kernel_rfl) (L98 _ p0_0 Ap0_1 cp0_1 lp0_1 p1 (hCp0_1.inv0 hI) hMp0_1 hKp0_1 N _ hy26) ?_)
  intro w hI
  refine pu (iv y25) (by kernel_rfl) (seq_nil (wp_seq (wp_seq (rgn (by kernel_rfl) (pu (iv y25) (by kernel_rfl) (ifE hF (fun h16 hF => ?_) (fun h16 hF => ?_)))))))
  ·
   refine seq_c (s_eql rfl rfl (fun _ => ?_) (fun h => absurd (a := y25 = (-1)) h16 h))
   refine seq_nil (wp_condT rfl (wp_seq (rgn (by kernel_rfl) (pu (iv 0) (by kernel_rfl) (pu (iv 57) (by kernel_rfl) (seq_nil (wp_ret ?_)))))))
   replace hF := Option.some.inj hF; subst hF
   exact ⟨.tuple #[iv 0, iv 57], Ret.r2 rfl rfl rfl, ⟨rfl, hI.below⟩⟩
  ·
   refine seq_c (s_eql rfl rfl (fun h => absurd (a := y25 = (-1)) h h16) (fun _ => ?_))
   refine seq_nil (wp_condF rfl (wp_skip (wp_seq (rgn (by kernel_rfl) (pu (iv y25) (by kernel_rfl) (pu (iv y25) (by kernel_rfl) (pu (iv 0) (by kernel_rfl) (seq_nil (wp_ret ?_)))))))))
   replace hF := Option.some.inj hF; subst hF
   exact ⟨.tuple #[iv y25, iv 0], Ret.r2 rfl rfl rfl, ⟨rfl, hI.below⟩⟩
 ·
  refine seq_c (s_neq rfl rfl (fun _ => ?_) (fun h => absurd (a := y21 = 0) h h12))
  refine seq_nil (wp_condT rfl (wp_seq (rgn (by kernel_rfl) (pu (iv y21) (by kernel_rfl) (pu (iv 0) (by kernel_rfl) (pu (iv y21) (by kernel_rfl) (seq_nil (wp_ret ?_))))))))
  replace hF := Option.some.inj hF; subst hF
  exact ⟨.tuple #[iv 0, iv y21], Ret.r2 rfl rfl rfl, ⟨rfl, hI.below⟩⟩


theorem L99 (w0 : World) (bp0 : Nat) (cp0 : Nat) (clp0 : List Value) (lp0 : List Cm) (p1 : Int) (p2 : Int) (hgp0 : w0.heap[bp0]? = some (blk clp0 26)) (hrp0 : Row 3 (some bp0) lp0.length cp0 clp0 (flat eCm lp0)) (r : List Cm) (hF : F99 lp0 p1 p2 = some r) : Does Try.prog 99 [slv (some bp0) lp0.length cp0, .int .i64 p1, .int .i64 p2] w0 fun v w => ∃ (z0 : Option Nat) (z1 : Nat) (z2 : List Value), v = slv z0 r.length z1 ∧ Inv [bp0] w0 w [(z0, blk z2 26)] ∧ Row 3 z0 r.length z1 z2 (flat eCm r) := by
 refine calls_of (n := 33) Try.func99 rfl Try.ntmps99 rfl ?_
 have hI := Inv.lent w0 (some bp0) (blk clp0 26) (fun b hb => by injection hb with hb; subst hb; exact hgp0)
 unfold F99 at hF
 refine wp_seq (rgn (by kernel_rfl) (pu (.slice none 0 0) (by kernel_rfl) (seq_nil (wp_seq (rgn (by kernel_rfl) (pu (slv (some bp0) lp0.length cp0) (by kernel_rfl) (pu (iv p1) (by kernel_rfl) (pu (iv p2) (by kernel_rfl) (pu (slv (some bp0) lp0.length cp0) (by kernel_rfl) ?_)))))))))
 refine pu (iv ((lp0.length : Nat) : Int)) (by kernel_rfl) (gdE hF (fun h24 hF => ?_))
 refine gdE hF (fun h25 hF => ?_)
 refine gdE hF (fun h26 hF => ?_)
 refine seq_c (s_slice3 (l := (p1).toNat) (h := (p2).toNat) (q := lp0.length) Try.underlying22 Try.sizeOf26 rfl (congrArg (Value.int .i64) (Int.toNat_of_nonneg h24).symm) (congrArg (Value.int .i64) (Int.toNat_of_nonneg h25).symm) (congrArg (Value.int .i64) rfl) ⟨h26.1, h26.2.1, Nat.le_trans h26.2.2 (len_le rfl hrp0.cap)⟩ ?_)
 refine seq_nil (wp_seq (wp_seq (rgn (by kernel_rfl) (pu (iv p1) (by kernel_rfl) (pu (iv p2) (by kernel_rfl) (ifE hF (fun h30 hF => ?_) (fun h30 hF => ?_)))))))
 ·
  refine seq_c (s_eql rfl rfl (fun _ => ?_) (fun h => absurd (a := p1 = p2) h30 h))
  refine seq_nil (wp_condT rfl (wp_seq (rgn (by kernel_rfl) (pu (slv (some bp0) lp0.length cp0) (by kernel_rfl) (pu (slv (some bp0) lp0.length cp0) (by kernel_rfl) (seq_nil (wp_ret ?_)))))))
  replace hF := Option.some.inj hF; subst hF
  exact ⟨slv (some bp0) lp0.length cp0, Ret.r1 rfl rfl, ⟨some bp0, cp0, clp0, rfl, hI.pickL [0] (by decide) rfl, hrp0.to rfl rfl⟩⟩
 ·
  refine seq_c (s_eql rfl rfl (fun h => absurd (a := p1 = p2) h h30) (fun _ => ?_))
  refine seq_nil (wp_condF rfl (wp_skip (wp_seq (rgn (by kernel_rfl) (pu (slv (some bp0) lp0.length cp0) (by kernel_rfl) (pu (iv ((lp0.length : Nat) : Int)) (by kernel_rfl) (pu (iv (lp0.length : Int)) (by kernel_rfl) (seq_nil (wp_seq ?_)))))))))
  refine gdE hF (fun h34 hF => ?_)
  refine gdE hF (fun h35 hF => ?_)
  refine gdE hF (fun h36 hF => ?_)
  replace hI := hI.pickL [0] (by decide) rfl
  refine wp_drawn2 hI [] (by decide) rfl (by kernel_rfl) (by kernel_rfl) ?_
  intro hsub
  refine alp 0 (slv (some bp0) lp0.length cp0) hsub rfl (by kernel_rfl) (fun _ => (by kernel_rfl)) ?_
  refine alp 1 (iv p1) hsub rfl (by kernel_rfl) (fun _ => (by kernel_rfl)) ?_
  have r40 : Row 3 (some bp0) (lp0.take (p1).toNat).length cp0 clp0 (flat eCm (lp0.take (p1).toNat)) := (hrp0.cut eCm_len (by decide) (p1).toNat (len_ge rfl h34)).to rfl (take_len2 h34)
  refine al_light 2 (slv (some bp0) ((lp0.take (p1).toNat).length) cp0) hsub rfl (by kernel_rfl) (fun w hI => s_sliceHiN Try.underlying22 Try.sizeOf26 rfl (congrArg (Value.int .i64) (Int.toNat_of_nonneg h24).symm) (take_len2 h34) (Nat.le_trans h34 (len_le rfl hrp0.cap)) ⟨rfl, Below.refl _ _⟩) ?_
  refine alp 3 (slv (some bp0) lp0.length cp0) hsub rfl (by kernel_rfl) (fun _ => (by kernel_rfl)) ?_
  refine alp 4 (iv p2) hsub rfl (by kernel_rfl) (fun _ => (by kernel_rfl)) ?_
  refine al_light 5 (.slice (K.sub (some (⟨bp0, 0, none⟩ : Addr)) cp0 (p2).toNat 3) ((lp0.drop (p2).toNat).length) (cp0 - (p2).toNat)) hsub rfl (by kernel_rfl) (fun w hI => s_sliceLoN Try.underlying22 Try.sizeOf26 rfl (congrArg (Value.int .i64) (Int.toNat_of_nonneg h25).symm) (len_ge rfl h35) (drop_len2 rfl h35) hrp0.cap ⟨rfl, Below.refl _ _⟩) ?_
  refine any_heavy [6] (by kernel_rfl) rfl (each1 ?_)
  intro w hI
  refine ol_c rfl (s_appRoomN hI Try.underlying22 (z := .agg #[iv 0, iv 0, iv 0]) (k := 3) (bytes := 24) (by kernel_rfl) 0 rfl rfl r40 (flat eCm (lp0.drop (p2).toNat)) rfl (flat_len eCm_len _) (Cells.fromRow eCm_len (hI.rowCells 0 rfl (hrp0.to rfl rfl)) h35 hrp0.cap rfl) (flat_cell eCm_cell _) (n2 := ((lp0.take (p1).toNat) ++ (lp0.drop (p2).toNat)).length) (app_len rfl rfl) (Nat.le_trans h36 (len_le rfl hrp0.cap)) ?_)
  intro cl43 w hI r44
  refine ⟨_, hI, subk (fun _ h => h.pickL [] (by decide) rfl) ?_⟩
  intro hsub
  have r44 : Row 3 (some bp0) (((lp0.take (p1).toNat) ++ (lp0.drop (p2).toNat)).length) cp0 cl43 (flat eCm ((lp0.take (p1).toNat) ++ (lp0.drop (p2).toNat))) := r44.more
  refine alp 7 (slv (some bp0) (((lp0.take (p1).toNat) ++ (lp0.drop (p2).toNat)).length) cp0) hsub rfl (by kernel_rfl) (fun _ => (by kernel_rfl)) ?_
  refine any_end (by kernel_rfl) (fun w hI => ?_)
  refine wp_seq (rgn (by kernel_rfl) (pu (slv (some bp0) (((lp0.take (p1).toNat) ++ (lp0.drop (p2).toNat)).length) cp0) (by kernel_rfl) (pu (slv (some bp0) (((lp0.take (p1).toNat) ++ (lp0.drop (p2).toNat)).length) cp0) (by kernel_rfl) (pu (iv ((((lp0.take (p1).toNat) ++ (lp0.drop (p2).toNat)).length : Nat) : Int)) (by kernel_rfl) (pu (iv (lp0.length : Int)) (by kernel_rfl) (gdE hF (fun h39 hF => ?_)))))))
  refine gdE hF (fun h40 hF => ?_)
  refine seq_c (s_slice Try.underlying22 Try.sizeOf26 rfl (.inl (congrArg some (congrArg (Value.int .i64) (Int.toNat_of_nonneg h39).symm))) (.inl (congrArg some (congrArg (Value.int .i64) rfl))) h40 (len_le rfl hrp0.cap) ?_)
  refine seq_c (s_clearTail hI 0 (n := lp0.length) Try.underlying22 Try.zeroValue26 rfl rfl rfl rfl h36 (len_le rfl hrp0.cap) r44.size ?_)
  intro cl47 w hI hl0 ht0
  have r48 := r44.same hl0 ht0
  refine seq_nil (wp_seq (rgn (by kernel_rfl) (pu (slv (some bp0) (((lp0.take (p1).toNat) ++ (lp0.drop (p2).toNat)).length) cp0) (by kernel_rfl) (pu (slv (some bp0) (((lp0.take (p1).toNat) ++ (lp0.drop (p2).toNat)).length) cp0) (by kernel_rfl) (seq_nil (wp_ret ?_))))))
  replace hF := Option.some.inj hF; subst hF
  exact ⟨slv (some bp0) (((lp0.take (p1).toNat) ++ (lp0.drop (p2).toNat)).length) cp0, Ret.r1 rfl rfl, ⟨some bp0, cp0, cl47, rfl, hI.pickL [0] (by decide) rfl, r48.to rfl rfl⟩⟩


theorem L67 (w0 : World) (p0_0 : Int) (Ap0_1 : Option Addr) (cp0_1 : Nat) (lp0_1 : List Cm) (p1 : Int) (hCp0_1 : Cells w0 Ap0_1 (flat eCm lp0_1)) (hMp0_1 : lp0_1.length ≤ 9223372036854775807) (hKp0_1 : lp0_1.length ≤ cp0_1) (r : (Int × List Cm)) (hF : F67 p0_0 lp0_1 p1 = some r) : Does Try.prog 67 [.agg #[.int .i64 p0_0, .slice Ap0_1 lp0_1.length cp0_1], .int .i64 p1] w0 fun v w => ∃ (z0 : Option Nat) (z1 : Nat) (z2 : List Value), v = .agg #[.int .i64 r.1, slv z0 r.2.length z1] ∧ Inv [] w0 w [(z0, blk z2 26)] ∧ Row 3 z0 r.2.length z1 z2 (flat eCm r.2) := by
 refine calls_of (n := 15) Try.func67 rfl Try.ntmps67 rfl ?_
 have hI := Inv.start w0
 unfold F67 at hF
 refine wp_seq (rgn (by kernel_rfl) (seq_c (s_boxI hI [iv p0_0, .slice Ap0_1 lp0_1.length cp0_1] rfl ?_)))
 intro b47 w hI
 refine seq_c (s_allocI hI [iv 0, .slice none 0 0] Try.zeroValue24 rfl ?_)
 intro b48 w hI
 refine seq_nil (wp_seq (bindE hF (fun y71 hy72 hF => ?_)))
 refine ckE hF (fun h7 hF => ?_)
 refine gdE hF (fun h8 hF => ?_)
 refine bindE hF (fun y78 hy79 hF => ?_)
 replace hI := hI.pickL [1, 0] (by decide) rfl
 refine wp_drawn2 hI [0] (by decide) rfl (by kernel_rfl) (by kernel_rfl) ?_
 intro hsub
 refine alp 0 (.pointer (some ⟨b47, 0, none⟩)) hsub rfl (by kernel_rfl) (fun _ => (by kernel_rfl)) ?_
 refine al_light 1 (iv p0_0) hsub rfl (by kernel_rfl) (fun w hI => s_load1 hI 0 (iv p0_0) Try.isAgg3 rfl rfl rfl ⟨rfl, Below.refl _ _⟩) ?_
 refine alp 2 (.pointer (some ⟨b47, 1, none⟩)) hsub rfl (by kernel_rfl) (fun _ => (by kernel_rfl)) ?_
 refine al_light 3 (.slice Ap0_1 lp0_1.length cp0_1) hsub rfl (by kernel_rfl) (fun w hI => s_load1 hI 0 (.slice Ap0_1 lp0_1.length cp0_1) Try.isAgg22 rfl rfl rfl ⟨rfl, Below.refl _ _⟩) ?_
 refine alp 5 (iv p1) hsub rfl (by kernel_rfl) (fun _ => (by kernel_rfl)) ?_
 refine alp 6 (iv p1) hsub rfl (by kernel_rfl) (fun _ => (by kernel_rfl)) ?_
 refine al_light 7 (iv (p1 + 1)) hsub rfl (by kernel_rfl) (fun w hI => s_add rfl rfl h7 ⟨rfl, Below.refl _ _⟩) ?_
 refine any_heavy [4] (by kernel_rfl) rfl (each1 ?_)
 intro w hI
 refine ol_c rfl (s_call 64 [.slice Ap0_1 lp0_1.length cp0_1] (by kernel_rfl) (L64 _ Ap0_1 cp0_1 lp0_1 (hCp0_1.inv0 hI) hMp0_1 hKp0_1 _ hy72) ?_)
 rintro v w ⟨g84, c85, cl86, rfl, hN, r87⟩
 have hI := hI.join hN; clear hN
 refine ⟨_, hI, subk (fun _ h => h.pickL [1] (by decide) rfl) ?_⟩
 intro hsub
 refine any_heavy [8] (by kernel_rfl) rfl (each1 ?_)
 intro w hI
 obtain ⟨b88, rfl⟩ := r87.some_ (len_ge rfl h8)
 refine ol_c rfl (s_call 99 [slv (some b88) y71.length c85, iv p1, iv (p1 + 1)] (by kernel_rfl) (L99 _ b88 c85 cl86 y71 p1 (p1 + 1) (hI.has 0 _ _ rfl).1 (r87.to rfl rfl) _ hy79) ?_)
 rintro v w ⟨g89, c90, cl91, rfl, hN, r92⟩
 have hI := hI.back 0 rfl hN; clear hN; have hI := hI.nils 1 _ rfl (blk [] 26)
 refine ⟨_, hI, subk (fun _ h => h.pickL [2] (by decide) rfl) ?_⟩
 intro hsub
 refine alp 9 (.agg #[iv p0_0, slv g89 y78.length c90]) hsub rfl (by kernel_rfl) (fun _ => (by kernel_rfl)) ?_
 refine any_heavy [10] (by kernel_rfl) rfl (each1 ?_)
 intro w hI
 refine ol_c rfl (s_store hI 3 2 [iv p0_0, slv g89 y78.length c90] Try.sizeOf24 rfl rfl rfl rfl rfl (Nat.le_of_ble_eq_true rfl) ?_)
 intro w hI
 refine ⟨_, hI, subk (fun _ h => h.pickL [2] (by decide) rfl) ?_⟩
 intro hsub
 refine any_end (by kernel_rfl) (fun w hI => ?_)
 refine wp_ret ?_
 replace hF := Option.some.inj hF; subst hF
 exact ⟨.agg #[iv p0_0, slv g89 y78.length c90], Ret.c rfl rfl (run_loadK hI 3 2 [iv p0_0, slv g89 y78.length c90] Try.isAgg24 Try.sizeOf24 rfl rfl rfl), ⟨g89, c90, cl91, rfl, hI.pickL [0] (by decide) rfl, r92.to rfl rfl⟩⟩


theorem L16 (w0 : World) (p0_0 : Int) (Ap0_1 : Option Addr) (cp0_1 : Nat) (lp0_1 : List Cm) (p1 : Int) (hCp0_1 : Cells w0 Ap0_1 (flat eCm lp0_1)) (hMp0_1 : lp0_1.length ≤ 9223372036854775807) (hKp0_1 : lp0_1.length ≤ cp0_1) (N : Nat) (r : (Int × List Cm × Int)) (hF : F16 N p0_0 lp0_1 p1 = some r) : Does Try.prog 16 [.agg #[.int .i64 p0_0, .slice Ap0_1 lp0_1.length cp0_1], .int .i64 p1] w0 fun v w => ∃ (z0 : Option Nat) (z1 : Nat) (z2 : List Value), v = .tuple #[.agg #[.int .i64 r.1, slv z0 r.2.1.length z1], .int .i64 r.2.2] ∧ Inv [] w0 w [(z0, blk z2 26)] ∧ Row 3 z0 r.2.1.length z1 z2 (flat eCm r.2.1) := by
 refine calls_of (n := 21) Try.func16 rfl Try.ntmps16 rfl ?_
 have hI := Inv.start w0
 unfold F16 at hF
 refine wp_seq (rgn (by kernel_rfl) (seq_c (s_boxI hI [iv p0_0, .slice Ap0_1 lp0_1.length cp0_1] rfl ?_)))
 intro b19 w hI
 refine seq_c (s_allocI hI [iv 0, .slice none 0 0] Try.zeroValue24 rfl ?_)
 intro b20 w hI
 refine pu (iv 0) (by kernel_rfl) (seq_nil (wp_seq (rgn (by kernel_rfl) (seq_c (s_loadK hI 1 2 [iv p0_0, .slice Ap0_1 lp0_1.length cp0_1] Try.isAgg24 Try.sizeOf24 rfl rfl rfl rfl ?_)))))
 refine pu (iv p1) (by kernel_rfl) (bindE hF (fun y23 hy24 hF => ?_))
 refine seq_c (s_callv hI 66 [.agg #[iv p0_0, .slice Ap0_1 lp0_1.length cp0_1], iv p1] (.tuple #[iv y23.1, iv y23.2]) (by kernel_rfl) (L66 _ p0_0 Ap0_1 cp0_1 lp0_1 p1 (hCp0_1.inv0 hI) hMp0_1 hKp0_1 N _ hy24) ?_)
 intro w hI
 refine pu (.tuple #[iv y23.1, iv y23.2]) (by kernel_rfl) (pu (iv y23.1) (by kernel_rfl) (pu (iv y23.2) (by kernel_rfl) (pu (iv y23.1) (by kernel_rfl) (pu (iv y23.2) (by kernel_rfl) (seq_nil (wp_seq (wp_seq (rgn (by kernel_rfl) (pu (iv y23.2) (by kernel_rfl) ?_)))))))))
 refine ifE hF (fun h8 hF => ?_) (fun h8 hF => ?_)
 ·
  refine seq_c (s_neq rfl rfl (fun h => absurd (a := y23.2 = 0) h8 h) (fun _ => ?_))
  refine seq_nil (wp_condF rfl (wp_skip (wp_seq (rgn (by kernel_rfl) (seq_c (s_loadK hI 1 2 [iv p0_0, .slice Ap0_1 lp0_1.length cp0_1] Try.isAgg24 Try.sizeOf24 rfl rfl rfl rfl ?_))))))
  refine pu (iv y23.1) (by kernel_rfl) (bindE hF (fun y31 hy32 hF => ?_))
  refine seq_c (s_call 67 [.agg #[iv p0_0, .slice Ap0_1 lp0_1.length cp0_1], iv y23.1] (by kernel_rfl) (L67 _ p0_0 Ap0_1 cp0_1 lp0_1 y23.1 (hCp0_1.inv0 hI) hMp0_1 hKp0_1 _ hy32) ?_)
  rintro v w ⟨g33, c34, cl35, rfl, hN, r36⟩
  have hI := hI.join hN; clear hN
  refine seq_c (s_store hI 1 2 [iv y31.1, slv g33 y31.2.length c34] Try.sizeOf24 rfl rfl rfl rfl rfl (Nat.le_of_ble_eq_true rfl) ?_)
  intro w hI
  refine pu (iv 0) (by kernel_rfl) (seq_nil (wp_ret ?_))
  replace hF := Option.some.inj hF; subst hF
  exact ⟨.tuple #[.agg #[iv y31.1, slv g33 y31.2.length c34], iv 0], Ret.ct rfl rfl (run_loadK hI 1 2 [iv y31.1, slv g33 y31.2.length c34] Try.isAgg24 Try.sizeOf24 rfl rfl rfl) rfl, ⟨g33, c34, cl35, rfl, hI.pickL [0] (by decide) rfl, r36.to rfl rfl⟩⟩
 ·
  refine seq_c (s_neq rfl rfl (fun _ => ?_) (fun h => absurd (a := y23.2 = 0) h h8))
  refine seq_nil (wp_condT rfl (wp_seq (rgn (by kernel_rfl) (pu (.agg #[iv 0, .slice none 0 0]) (by kernel_rfl) (pu (iv y23.2) (by kernel_rfl) (seq_c (s_store hI 0 2 [iv 0, .slice none 0 0] Try.sizeOf24 rfl rfl rfl rfl rfl (Nat.le_of_ble_eq_true rfl) ?_)))))))
  intro w hI
  refine pu (iv y23.2) (by kernel_rfl) (seq_nil (wp_ret ?_))
  have hI := hI.nilRow 26
  replace hF := Option.some.inj hF; subst hF
  exact ⟨.tuple #[.agg #[iv 0, .slice none 0 0], iv y23.2], Ret.ct rfl rfl (run_loadK hI 1 2 [iv 0, .slice none 0 0] Try.isAgg24 Try.sizeOf24 rfl rfl rfl) rfl, ⟨none, 0, [], rfl, hI.pickL [0] (by decide) rfl, Row.nil_ 3⟩⟩


theorem L68 (w0 : World) (p0_0 : Int) (Ap0_1 : Option Addr) (cp0_1 : Nat) (lp0_1 : List Cm) (p1 : Int) (hCp0_1 : Cells w0 Ap0_1 (flat eCm lp0_1)) (hMp0_1 : lp0_1.length ≤ 9223372036854775807) (hKp0_1 : lp0_1.length ≤ cp0_1) (N : Nat) (r : (Int × List Cm)) (hF : F68 N p0_0 lp0_1 p1 = some r) : Does Try.prog 68 [.agg #[.int .i64 p0_0, .slice Ap0_1 lp0_1.length cp0_1], .int .i64 p1] w0 fun v w => ∃ (z0 : Option Nat) (z1 : Nat) (z2 : List Value), v = .agg #[.int .i64 r.1, slv z0 r.2.length z1] ∧ Inv [] w0 w [(z0, blk z2 26)] ∧ Row 3 z0 r.2.length z1 z2 (flat eCm r.2) := by
 refine calls_of (n := 36) Try.func68 rfl Try.ntmps68 rfl ?_
 have hI := Inv.start w0
 unfold F68 at hF
 refine wp_seq (rgn (by kernel_rfl) (seq_c (s_boxI hI [iv p0_0, .slice Ap0_1 lp0_1.length cp0_1] rfl ?_)))
 intro b411 w hI
 refine seq_c (s_allocI hI [iv 0, .slice none 0 0] Try.zeroValue24 rfl ?_)
 intro b412 w hI
 refine seq_nil (wp_seq (rgn (by kernel_rfl) (pu (.pointer (some ⟨b411, 0, none⟩)) (by kernel_rfl) (seq_c (s_load1 hI 1 (iv p0_0) Try.isAgg3 rfl rfl rfl ?_)))))
 refine pu (.agg #[iv p0_0, .slice none 0 0]) (by kernel_rfl) (seq_c (s_allocI hI [iv 0, .slice none 0 0] Try.zeroValue24 rfl ?_))
 intro b413 w hI
 refine seq_c (s_store hI 0 2 [iv p0_0, .slice none 0 0] Try.sizeOf24 rfl rfl rfl rfl rfl (Nat.le_of_ble_eq_true rfl) ?_)
 intro w hI
 refine seq_nil (wp_seq (wp_seq (rgn (by kernel_rfl) (pu (iv 0) (by kernel_rfl) (seq_nil (wp_block ?_))))))
 have hI := hI.nilRow 26
 refine wp_loop (fun m ρ w => ∃ (g753 : Option Nat) (c754 : Nat) (cl755 : List Value) (out_752 : List Cm) (i_757 : Int) (mm : Nat), Agree ρ [(1, iv p1), (2, .pointer (some ⟨b411, 0, none⟩)), (4, .pointer (some ⟨b412, 0, none⟩)), (5, .pointer (some ⟨b413, 0, none⟩)), (6, iv i_757)] ∧ Inv [] w0 w [(some b411, blk [iv p0_0, .slice Ap0_1 lp0_1.length cp0_1] 24), (some b412, blk [iv 0, .slice none 0 0] 24), (some b413, blk [iv p0_0, slv g753 out_752.length c754] 24), (g753, blk cl755 26)] ∧ (Row 3 g753 (out_752.length) c754 cl755 (flat eCm out_752)) ∧ F68l1 p0_0 lp0_1 p1 mm out_752 i_757 = some r ∧ mm = m) (m := N) ⟨none, 0, [], [], 0, N, ⟨rfl, rfl, rfl, rfl, rfl, trivial⟩, hI.pickL [3, 2, 1, 0] (by decide) rfl, (Row.nil_ 3), hF, rfl⟩ ?_
 rintro m ρ w ⟨g753, c754, cl755, out_752, i_757, mm, hag, hI, r756, hF, hm⟩
 subst hm; obtain ⟨ρ, rfl⟩ := hag.form; clear hag
 obtain _ | m1 := mm
 ·cases (show (none : Option (Int × List Cm)) = some r from hF)
 replace hF : F68b1 p0_0 lp0_1 p1 (F68l1 p0_0 lp0_1 p1 m1) out_752 i_757 = some r := hF; unfold F68b1 at hF
 refine wp_seq (wp_seq (rgn (by kernel_rfl) (pu (iv i_757) (by kernel_rfl) (pu (.pointer (some ⟨b411, 1, none⟩)) (by kernel_rfl) (seq_c (s_load1 hI 0 (.slice Ap0_1 lp0_1.length cp0_1) Try.isAgg22 rfl rfl rfl ?_))))))
 refine pu (iv ((lp0_1.length : Nat) : Int)) (by kernel_rfl) (ifE hF (fun h149 hF => ?_) (fun h149 hF => ?_))
 ·
  refine seq_c (s_lss rfl rfl (fun _ => ?_) (fun h => absurd (a := i_757 < (lp0_1.length : Int)) h149 h))
  refine seq_nil (wp_condT rfl (wp_skip (wp_cutO (fun ρ w => ∃ (g788 : Option Nat) (c789 : Nat) (cl790 : List Value) (out_787 : List Cm), Agree ρ [(1, iv p1), (2, .pointer (some ⟨b411, 0, none⟩)), (4, .pointer (some ⟨b412, 0, none⟩)), (5, .pointer (some ⟨b413, 0, none⟩)), (6, iv i_757)] ∧ Inv [] w0 w [(some b411, blk [iv p0_0, .slice Ap0_1 lp0_1.length cp0_1] 24), (some b412, blk [iv 0, .slice none 0 0] 24), (some b413, blk [iv p0_0, slv g788 out_787.length c789] 24), (g788, blk cl790 26)] ∧ (Row 3 g788 (out_787.length) c789 cl790 (flat eCm out_787)) ∧ F68j2 (F68l1 p0_0 lp0_1 p1 m1) i_757 out_787 = some r) ?_ ?_)))
  ·
   refine wp_block ?_
   refine wp_seq (rgn (by kernel_rfl) (pu (.pointer (some ⟨b411, 1, none⟩)) (by kernel_rfl) (seq_c (s_load1 hI 0 (.slice Ap0_1 lp0_1.length cp0_1) Try.isAgg22 rfl rfl rfl ?_))))
   refine pu (iv i_757) (by kernel_rfl) (gdE hF (fun h158 hF => ?_))
   refine bindE hF (fun x799 hx800 hF => ?_)
   obtain ⟨b801, o802, hA803, hb804, he805⟩ := hCp0_1.at_ eCm_len (by decide) hx800
   refine seq_c (s_indexA (i_757).toNat Try.underlying22 Try.sizeOf26 rfl hA803 rfl (Int.toNat_of_nonneg h158).symm (lt_n hx800 rfl) ?_)
   refine pu (.pointer (some ⟨b801, o802 + (i_757).toNat * 3, none⟩)) (by kernel_rfl) (seq_c (s_loadB1 hI (iv x799.fam) Try.isAgg3 rfl hb804 (by simp) (he805 0 _ rfl) ?_))
   refine pu (iv p1) (by kernel_rfl) (ifE hF (fun h159 hF => ?_) (fun h159 hF => ?_))
   ·
    refine seq_c (s_neq rfl rfl (fun h => absurd (a := x799.fam = p1) h159 h) (fun _ => ?_))
    refine seq_nil (wp_condF rfl (wp_skip ?_))
    exact .inl ⟨rfl, ⟨g753, c754, cl755, out_752, ⟨rfl, rfl, rfl, rfl, rfl, trivial⟩, hI.pickL [0, 1, 2, 3] (by decide) rfl, (r756.to rfl rfl), hF⟩⟩
   ·
    refine seq_c (s_neq rfl rfl (fun _ => ?_) (fun h => absurd (a := x799.fam = p1) h h159))
    refine seq_nil (wp_condT rfl (gdE hF (fun h160 hF => ?_)))
    replace hI := hI.pickL [0, 1, 2, 3] (by decide) rfl
    refine wp_drawn2 hI [0, 1] (by decide) rfl (by kernel_rfl) (by kernel_rfl) ?_
    intro hsub
    refine alp 0 (.pointer (some ⟨b413, 1, none⟩)) hsub rfl (by kernel_rfl) (fun _ => (by kernel_rfl)) ?_
    refine alp 2 (.pointer (some ⟨b411, 1, none⟩)) hsub rfl (by kernel_rfl) (fun _ => (by kernel_rfl)) ?_
    refine al_light 3 (.slice Ap0_1 lp0_1.length cp0_1) hsub rfl (by kernel_rfl) (fun w hI => s_load1 hI 0 (.slice Ap0_1 lp0_1.length cp0_1) Try.isAgg22 rfl rfl rfl ⟨rfl, Below.refl _ _⟩) ?_
    refine alp 4 (iv i_757) hsub rfl (by kernel_rfl) (fun _ => (by kernel_rfl)) ?_
    refine al_light 5 (.pointer (some ⟨b801, o802 + (i_757).toNat * 3, none⟩)) hsub rfl (by kernel_rfl) (fun w hI => s_indexA (i_757).toNat Try.underlying22 Try.sizeOf26 rfl hA803 rfl (Int.toNat_of_nonneg h158).symm (lt_n hx800 rfl) ⟨rfl, Below.refl _ _⟩) ?_
    refine al_light 6 (.agg #[iv x799.fam, iv x799.hrs, iv x799.wants]) hsub rfl (by kernel_rfl) (fun w hI => s_loadBK hI [iv x799.fam, iv x799.hrs, iv x799.wants] Try.isAgg26 Try.sizeOf26 rfl rfl hb804 (by simp) he805 ⟨rfl, Below.refl _ _⟩) ?_
    refine any_heavy [1, 7] (by kernel_rfl) rfl (each2 ?_ ?_)
    ·intro w hI
     refine ol_c rfl (s_load1 hI 2 (slv g753 out_752.length c754) Try.isAgg22 rfl rfl rfl ?_)
     refine ⟨_, hI, subk (fun _ h => h.pickL [0, 1] (by decide) rfl) ?_⟩
     intro hsub
     refine any_heavy [7] (by kernel_rfl) rfl (each1 ?_)
     intro w hI
     refine ol_c rfl (s_new hI [iv x799.fam, iv x799.hrs, iv x799.wants] 26 (fun b => slv (some b) 1 1) (by kernel_rfl) ?_)
     intro b811 w hI
     refine ⟨_, hI, subk (fun _ h => h.pickL [1, 2] (by decide) rfl) ?_⟩
     intro hsub
     refine any_heavy [8] (by kernel_rfl) rfl (each1 ?_)
     intro w hI
     refine ol_c rfl (s_appN hI Try.underlying22 (z := .agg #[iv 0, iv 0, iv 0]) (k := 3) (bytes := 24) (by kernel_rfl) rfl rfl 4 rfl rfl r756 [iv x799.fam, iv x799.hrs, iv x799.wants] rfl rfl (hI.cells 0 (off := 0) rfl (fun j u h => by rw [Nat.zero_add]; exact h)) (by simp [Value.oneCell']) (by omega) (by omega) (n2 := (out_752 ++ [(⟨x799.fam, x799.hrs, x799.wants⟩ : Cm)]).length) (app_len rfl rfl) ?_)
     intro g812 c813 cl814 w hI r815
     refine ⟨_, hI, subk (fun _ h => h.pickL [1, 2] (by decide) rfl) ?_⟩
     intro hsub
     have r815 : Row 3 g812 ((out_752 ++ [(⟨x799.fam, x799.hrs, x799.wants⟩ : Cm)]).length) c813 cl814 (flat eCm (out_752 ++ [(⟨x799.fam, x799.hrs, x799.wants⟩ : Cm)])) := r815.snoc _ rfl
     refine alp 9 (.pointer (some ⟨b413, 1, none⟩)) hsub rfl (by kernel_rfl) (fun _ => (by kernel_rfl)) ?_
     refine any_heavy [10] (by kernel_rfl) rfl (each1 ?_)
     intro w hI
     refine ol_c rfl (s_store hI 3 1 [slv g812 ((out_752 ++ [(⟨x799.fam, x799.hrs, x799.wants⟩ : Cm)]).length) c813] Try.sizeOf22 rfl rfl rfl rfl rfl (Nat.le_of_ble_eq_true rfl) ?_)
     intro w hI
     refine ⟨_, hI, subk (fun _ h => h.pickL [1, 2] (by decide) rfl) ?_⟩
     intro hsub
     refine any_end (by kernel_rfl) (fun w hI => ?_)
     exact .inl ⟨rfl, ⟨g812, c813, cl814, out_752 ++ [(⟨x799.fam, x799.hrs, x799.wants⟩ : Cm)], ⟨rfl, rfl, rfl, rfl, rfl, trivial⟩, hI.pickL [1, 2, 3, 4] (by decide) rfl, (r815.to rfl rfl), hF⟩⟩
    ·intro w hI
     refine ol_c rfl (s_new hI [iv x799.fam, iv x799.hrs, iv x799.wants] 26 (fun b => slv (some b) 1 1) (by kernel_rfl) ?_)
     intro b816 w hI
     refine ⟨_, hI, subk (fun _ h => h.pickL [1, 2] (by decide) rfl) ?_⟩
     intro hsub
     refine any_heavy [1] (by kernel_rfl) rfl (each1 ?_)
     intro w hI
     refine ol_c rfl (s_load1 hI 3 (slv g753 out_752.length c754) Try.isAgg22 rfl rfl rfl ?_)
     refine ⟨_, hI, subk (fun _ h => h.pickL [1, 2] (by decide) rfl) ?_⟩
     intro hsub
     refine any_heavy [8] (by kernel_rfl) rfl (each1 ?_)
     intro w hI
     refine ol_c rfl (s_appN hI Try.underlying22 (z := .agg #[iv 0, iv 0, iv 0]) (k := 3) (bytes := 24) (by kernel_rfl) rfl rfl 4 rfl rfl r756 [iv x799.fam, iv x799.hrs, iv x799.wants] rfl rfl (hI.cells 0 (off := 0) rfl (fun j u h => by rw [Nat.zero_add]; exact h)) (by simp [Value.oneCell']) (by omega) (by omega) (n2 := (out_752 ++ [(⟨x799.fam, x799.hrs, x799.wants⟩ : Cm)]).length) (app_len rfl rfl) ?_)
     intro g817 c818 cl819 w hI r820
     refine ⟨_, hI, subk (fun _ h => h.pickL [1, 2] (by decide) rfl) ?_⟩
     intro hsub
     have r820 : Row 3 g817 ((out_752 ++ [(⟨x799.fam, x799.hrs, x799.wants⟩ : Cm)]).length) c818 cl819 (flat eCm (out_752 ++ [(⟨x799.fam, x799.hrs, x799.wants⟩ : Cm)])) := r820.snoc _ rfl
     refine alp 9 (.pointer (some ⟨b413, 1, none⟩)) hsub rfl (by kernel_rfl) (fun _ => (by kernel_rfl)) ?_
     refine any_heavy [10] (by kernel_rfl) rfl (each1 ?_)
     intro w hI
     refine ol_c rfl (s_store hI 3 1 [slv g817 ((out_752 ++ [(⟨x799.fam, x799.hrs, x799.wants⟩ : Cm)]).length) c818] Try.sizeOf22 rfl rfl rfl rfl rfl (Nat.le_of_ble_eq_true rfl) ?_)
     intro w hI
     refine ⟨_, hI, subk (fun _ h => h.pickL [1, 2] (by decide) rfl) ?_⟩
     intro hsub
     refine any_end (by kernel_rfl) (fun w hI => ?_)
     exact .inl ⟨rfl, ⟨g817, c818, cl819, out_752 ++ [(⟨x799.fam, x799.hrs, x799.wants⟩ : Cm)], ⟨rfl, rfl, rfl, rfl, rfl, trivial⟩, hI.pickL [1, 2, 3, 4] (by decide) rfl, (r820.to rfl rfl), hF⟩⟩
  ·intro ρ w hJ
   obtain ⟨g788, c789, cl790, out_787, hag, hI, r791, hF⟩ := hJ
   obtain ⟨ρ, rfl⟩ := hag.form; clear hag
   unfold F68j2 at hF
   refine rgn (by kernel_rfl) (pu (iv i_757) (by kernel_rfl) (ckE hF (fun h155 hF => ?_)))
   refine seq_c (s_add rfl rfl h155 ?_)
   refine pu (iv (i_757 + 1)) (by kernel_rfl) (seq_nil ?_)
   exact ⟨rfl, m1, Nat.lt_succ_self _, ⟨g788, c789, cl790, out_787, i_757 + 1, m1, ⟨rfl, rfl, rfl, rfl, rfl, trivial⟩, hI.pickL [0, 1, 2, 3] (by decide) rfl, (r791.to rfl rfl), hF, rfl⟩⟩
 ·
  refine seq_c (s_lss rfl rfl (fun h => absurd (a := i_757 < (lp0_1.length : Int)) h h149) (fun _ => ?_))
  refine seq_nil (wp_condF rfl (wp_exit ?_))
  refine wp_seq (rgn (by kernel_rfl) (seq_c (s_loadK hI 2 2 [iv p0_0, slv g753 out_752.length c754] Try.isAgg24 Try.sizeOf24 rfl rfl rfl rfl ?_)))
  refine seq_c (s_store hI 1 2 [iv p0_0, slv g753 out_752.length c754] Try.sizeOf24 rfl rfl rfl rfl rfl (Nat.le_of_ble_eq_true rfl) ?_)
  intro w hI
  refine seq_nil (wp_ret ?_)
  replace hF := Option.some.inj hF; subst hF
  exact ⟨.agg #[iv p0_0, slv g753 out_752.length c754], Ret.c rfl rfl (run_loadK hI 1 2 [iv p0_0, slv g753 out_752.length c754] Try.isAgg24 Try.sizeOf24 rfl rfl rfl), ⟨g753, c754, cl755, rfl, hI.pickL [3] (by decide) rfl, r756.to rfl rfl⟩⟩


theorem L17 (w0 : World) (p0_0 : Int) (Ap0_1 : Option Addr) (cp0_1 : Nat) (lp0_1 : List Cm) (p1 : Int) (hCp0_1 : Cells w0 Ap0_1 (flat eCm lp0_1)) (hMp0_1 : lp0_1.length ≤ 9223372036854775807) (hKp0_1 : lp0_1.length ≤ cp0_1) (N : Nat) (r : (Int × List Cm × Int)) (hF : F17 N p0_0 lp0_1 p1 = some r) : Does Try.prog 17 [.agg #[.int .i64 p0_0, .slice Ap0_1 lp0_1.length cp0_1], .int .i64 p1] w0 fun v w => ∃ (z0 : Option Nat) (z1 : Nat) (z2 : List Value), v = .tuple #[.agg #[.int .i64 r.1, slv z0 r.2.1.length z1], .int .i64 r.2.2] ∧ Inv [] w0 w [(z0, blk z2 26)] ∧ Row 3 z0 r.2.1.length z1 z2 (flat eCm r.2.1) := by
 refine calls_of (n := 18) Try.func17 rfl Try.ntmps17 rfl ?_
 have hI := Inv.start w0
 unfold F17 at hF
 refine wp_seq (rgn (by kernel_rfl) (seq_c (s_boxI hI [iv p0_0, .slice Ap0_1 lp0_1.length cp0_1] rfl ?_)))
 intro b31 w hI
 refine seq_c (s_allocI hI [iv 0, .slice none 0 0] Try.zeroValue24 rfl ?_)
 intro b32 w hI
 refine pu (iv 0) (by kernel_rfl) (seq_nil (wp_seq (wp_seq (rgn (by kernel_rfl) (seq_c (s_loadK hI 1 2 [iv p0_0, .slice Ap0_1 lp0_1.length cp0_1] Try.isAgg24 Try.sizeOf24 rfl rfl rfl rfl ?_))))))
 refine bindE hF (fun y39 hy40 hF => ?_)
 refine seq_c (s_callv hI 24 [.agg #[iv p0_0, .slice Ap0_1 lp0_1.length cp0_1]] (iv y39) (by kernel_rfl) (L24 _ p0_0 Ap0_1 cp0_1 lp0_1 (hCp0_1.inv0 hI) hMp0_1 hKp0_1 N _ hy40) ?_)
 intro w hI
 refine ifE hF (fun h12 hF => ?_) (fun h12 hF => ?_)
 ·
  refine seq_c (s_neq rfl rfl (fun h => absurd (a := y39 = 0) h12 h) (fun _ => ?_))
  refine seq_nil (wp_condF rfl (wp_skip (wp_seq (wp_seq (rgn (by kernel_rfl) (seq_c (s_loadK hI 1 2 [iv p0_0, .slice Ap0_1 lp0_1.length cp0_1] Try.isAgg24 Try.sizeOf24 rfl rfl rfl rfl ?_)))))))
  refine pu (iv p1) (by kernel_rfl) (bindE hF (fun y47 hy48 hF => ?_))
  refine seq_c (s_callv hI 65 [.agg #[iv p0_0, .slice Ap0_1 lp0_1.length cp0_1], iv p1] (iv y47) (by kernel_rfl) (L65 _ p0_0 Ap0_1 cp0_1 lp0_1 p1 (hCp0_1.inv0 hI) hMp0_1 hKp0_1 N _ hy48) ?_)
  intro w hI
  refine ifE hF (fun h16 hF => ?_) (fun h16 hF => ?_)
  ·
   refine seq_c (s_lss rfl rfl (fun _ => ?_) (fun h => absurd (a := y47 < 0) h16 h))
   refine seq_nil (wp_condT rfl (wp_seq (rgn (by kernel_rfl) (pu (.agg #[iv 0, .slice none 0 0]) (by kernel_rfl) (seq_c (s_store hI 0 2 [iv 0, .slice none 0 0] Try.sizeOf24 rfl rfl rfl rfl rfl (Nat.le_of_ble_eq_true rfl) ?_))))))
   intro w hI
   refine pu (iv 57) (by kernel_rfl) (seq_nil (wp_ret ?_))
   have hI := hI.nilRow 26
   replace hF := Option.some.inj hF; subst hF
   exact ⟨.tuple #[.agg #[iv 0, .slice none 0 0], iv 57], Ret.ct rfl rfl (run_loadK hI 1 2 [iv 0, .slice none 0 0] Try.isAgg24 Try.sizeOf24 rfl rfl rfl) rfl, ⟨none, 0, [], rfl, hI.pickL [0] (by decide) rfl, Row.nil_ 3⟩⟩
  ·
   refine seq_c (s_lss rfl rfl (fun h => absurd (a := y47 < 0) h h16) (fun _ => ?_))
   refine seq_nil (wp_condF rfl (wp_skip (wp_seq (rgn (by kernel_rfl) (seq_c (s_loadK hI 1 2 [iv p0_0, .slice Ap0_1 lp0_1.length cp0_1] Try.isAgg24 Try.sizeOf24 rfl rfl rfl rfl ?_))))))
   refine pu (iv p1) (by kernel_rfl) (bindE hF (fun y55 hy56 hF => ?_))
   refine seq_c (s_call 68 [.agg #[iv p0_0, .slice Ap0_1 lp0_1.length cp0_1], iv p1] (by kernel_rfl) (L68 _ p0_0 Ap0_1 cp0_1 lp0_1 p1 (hCp0_1.inv0 hI) hMp0_1 hKp0_1 N _ hy56) ?_)
   rintro v w ⟨g57, c58, cl59, rfl, hN, r60⟩
   have hI := hI.join hN; clear hN
   refine seq_c (s_store hI 1 2 [iv y55.1, slv g57 y55.2.length c58] Try.sizeOf24 rfl rfl rfl rfl rfl (Nat.le_of_ble_eq_true rfl) ?_)
   intro w hI
   refine pu (iv 0) (by kernel_rfl) (seq_nil (wp_ret ?_))
   replace hF := Option.some.inj hF; subst hF
   exact ⟨.tuple #[.agg #[iv y55.1, slv g57 y55.2.length c58], iv 0], Ret.ct rfl rfl (run_loadK hI 1 2 [iv y55.1, slv g57 y55.2.length c58] Try.isAgg24 Try.sizeOf24 rfl rfl rfl) rfl, ⟨g57, c58, cl59, rfl, hI.pickL [0] (by decide) rfl, r60.to rfl rfl⟩⟩
 ·
  refine seq_c (s_neq rfl rfl (fun _ => ?_) (fun h => absurd (a := y39 = 0) h h12))
  refine seq_nil (wp_condT rfl (wp_seq (rgn (by kernel_rfl) (pu (.agg #[iv 0, .slice none 0 0]) (by kernel_rfl) (seq_c (s_store hI 0 2 [iv 0, .slice none 0 0] Try.sizeOf24 rfl rfl rfl rfl rfl (Nat.le_of_ble_eq_true rfl) ?_))))))
  intro w hI
  refine pu (iv 52) (by kernel_rfl) (seq_nil (wp_ret ?_))
  have hI := hI.nilRow 26
  replace hF := Option.some.inj hF; subst hF
  exact ⟨.tuple #[.agg #[iv 0, .slice none 0 0], iv 52], Ret.ct rfl rfl (run_loadK hI 1 2 [iv 0, .slice none 0 0] Try.isAgg24 Try.sizeOf24 rfl rfl rfl) rfl, ⟨none, 0, [], rfl, hI.pickL [0] (by decide) rfl, Row.nil_ 3⟩⟩


theorem L18 (w0 : World) (p0_0 : Int) (Ap0_1 : Option Addr) (cp0_1 : Nat) (lp0_1 : List Cm) (p1_0 : Int) (Ap1_1 : Option Addr) (cp1_1 : Nat) (lp1_1 : List Cm) (hCp0_1 : Cells w0 Ap0_1 (flat eCm lp0_1)) (hMp0_1 : lp0_1.length ≤ 9223372036854775807) (hKp0_1 : lp0_1.length ≤ cp0_1) (hCp1_1 : Cells w0 Ap1_1 (flat eCm lp1_1)) (hMp1_1 : lp1_1.length ≤ 9223372036854775807) (hKp1_1 : lp1_1.length ≤ cp1_1) (N : Nat) (r : Bool) (hF : F18 N p0_0 lp0_1 p1_0 lp1_1 = some r) : Does Try.prog 18 [.agg #[.int .i64 p0_0, .slice Ap0_1 lp0_1.length cp0_1], .agg #[.int .i64 p1_0, .slice Ap1_1 lp1_1.length cp1_1]] w0 fun v w => v = .bool r ∧ Below w0.heap.size w0 w := by
 refine calls_of (n := 38) Try.func18 rfl Try.ntmps18 rfl ?_
 have hI := Inv.start w0
 unfold F18 at hF
 refine wp_seq (rgn (by kernel_rfl) (seq_c (s_boxI hI [iv p0_0, .slice Ap0_1 lp0_1.length cp0_1] rfl ?_)))
 intro b823 w hI
 refine seq_c (s_boxI hI [iv p1_0, .slice Ap1_1 lp1_1.length cp1_1] rfl ?_)
 intro b824 w hI
 refine pu (.bool false) (by kernel_rfl) (seq_nil (wp_seq (wp_seq (rgn (by kernel_rfl) (pu (.pointer (some ⟨b823, 0, none⟩)) (by kernel_rfl) (seq_c (s_load1 hI 1 (iv p0_0) Try.isAgg3 rfl rfl rfl ?_)))))))
 refine pu (.pointer (some ⟨b824, 0, none⟩)) (by kernel_rfl) (seq_c (s_load1 hI 0 (iv p1_0) Try.isAgg3 rfl rfl rfl ?_))
 refine ifE hF (fun h83 hF => ?_) (fun h83 hF => ?_)
 ·
  refine seq_c (s_neq rfl rfl (fun h => absurd (a := p0_0 = p1_0) h83 h) (fun _ => ?_))
  refine pu (.bool false) (by kernel_rfl) (puo (.pointer (some ⟨b823, 1, none⟩)) ⟨(by kernel_rfl), (by kernel_rfl)⟩ (seq_on (by kernel_rfl) (s_load1 hI 1 (.slice Ap0_1 lp0_1.length cp0_1) Try.isAgg22 rfl rfl rfl ?_)))
  refine puo (iv ((lp0_1.length : Nat) : Int)) ⟨(by kernel_rfl), (by kernel_rfl)⟩ (puo (.pointer (some ⟨b824, 1, none⟩)) ⟨(by kernel_rfl), (by kernel_rfl)⟩ (seq_on (by kernel_rfl) (s_load1 hI 0 (.slice Ap1_1 lp1_1.length cp1_1) Try.isAgg22 rfl rfl rfl ?_)))
  refine puo (iv ((lp1_1.length : Nat) : Int)) ⟨(by kernel_rfl), (by kernel_rfl)⟩ (ifE hF (fun h84 hF => ?_) (fun h84 hF => ?_))
  ·
   refine seq_on (by kernel_rfl) (s_neq rfl rfl (fun h => absurd (a := (lp0_1.length : Int) = (lp1_1.length : Int)) h84 h) (fun _ => ?_))
   refine pu (.bool false) (by kernel_rfl) (seq_nil (wp_condF rfl (wp_skip (wp_seq (wp_seq (rgn (by kernel_rfl) (pu (iv 0) (by kernel_rfl) (seq_nil (wp_block ?_)))))))))
   refine wp_loop (fun m ρ w => ∃ (i_1508 : Int) (mm : Nat), Agree ρ [(2, .pointer (some ⟨b823, 0, none⟩)), (3, .pointer (some ⟨b824, 0, none⟩)), (5, iv i_1508)] ∧ Inv [] w0 w [(some b823, blk [iv p0_0, .slice Ap0_1 lp0_1.length cp0_1] 24), (some b824, blk [iv p1_0, .slice Ap1_1 lp1_1.length cp1_1] 24)] ∧ F18l1 lp0_1 lp1_1 mm i_1508 = some r ∧ mm = m) (m := N) ⟨0, N, ⟨rfl, rfl, rfl, trivial⟩, hI.pickL [1, 0] (by decide) rfl, hF, rfl⟩ ?_
   rintro m ρ w ⟨i_1508, mm, hag, hI, hF, hm⟩
   subst hm; obtain ⟨ρ, rfl⟩ := hag.form; clear hag
   obtain _ | m1 := mm
   ·cases (show (none : Option Bool) = some r from hF)
   replace hF : F18b1 lp0_1 lp1_1 (F18l1 lp0_1 lp1_1 m1) i_1508 = some r := hF; unfold F18b1 at hF
   refine wp_seq (wp_seq (rgn (by kernel_rfl) (pu (iv i_1508) (by kernel_rfl) (pu (.pointer (some ⟨b823, 1, none⟩)) (by kernel_rfl) (seq_c (s_load1 hI 0 (.slice Ap0_1 lp0_1.length cp0_1) Try.isAgg22 rfl rfl rfl ?_))))))
   refine pu (iv ((lp0_1.length : Nat) : Int)) (by kernel_rfl) (ifE hF (fun h143 hF => ?_) (fun h143 hF => ?_))
   ·
    refine seq_c (s_lss rfl rfl (fun _ => ?_) (fun h => absurd (a := i_1508 < (lp0_1.length : Int)) h143 h))
    refine seq_nil (wp_condT rfl (wp_skip (wp_seq (wp_block ?_))))
    refine wp_seq (gdE hF (fun h150 hF => ?_))
    refine bindE hF (fun x1611 hx1612 hF => ?_)
    refine bindE hF (fun x1618 hx1619 hF => ?_)
    refine ifE hF (fun h151 hF => ?_) (fun h151 hF => ?_)
    ·
     refine wp_drawn2 hI [0, 1] (by decide) rfl (by kernel_rfl) (by kernel_rfl) ?_
     intro hsub
     refine alp 0 (.pointer (some ⟨b823, 1, none⟩)) hsub rfl (by kernel_rfl) (fun _ => (by kernel_rfl)) ?_
     refine al_light 1 (.slice Ap0_1 lp0_1.length cp0_1) hsub rfl (by kernel_rfl) (fun w hI => s_load1 hI 0 (.slice Ap0_1 lp0_1.length cp0_1) Try.isAgg22 rfl rfl rfl ⟨rfl, Below.refl _ _⟩) ?_
     refine alp 2 (iv i_1508) hsub rfl (by kernel_rfl) (fun _ => (by kernel_rfl)) ?_
     obtain ⟨b1625, o1626, hA1627, hb1628, he1629⟩ := hCp0_1.at_ eCm_len (by decide) hx1612
     refine al_light 3 (.pointer (some ⟨b1625, o1626 + (i_1508).toNat * 3, none⟩)) hsub rfl (by kernel_rfl) (fun w hI => s_indexA (i_1508).toNat Try.underlying22 Try.sizeOf26 rfl hA1627 rfl (Int.toNat_of_nonneg h150).symm (lt_n hx1612 rfl) ⟨rfl, Below.refl _ _⟩) ?_
     refine al_light 4 (.agg #[iv x1611.fam, iv x1611.hrs, iv x1611.wants]) hsub rfl (by kernel_rfl) (fun w hI => s_loadBK hI [iv x1611.fam, iv x1611.hrs, iv x1611.wants] Try.isAgg26 Try.sizeOf26 rfl rfl hb1628 (by simp) he1629 ⟨rfl, Below.refl _ _⟩) ?_
     refine alp 5 (.pointer (some ⟨b824, 1, none⟩)) hsub rfl (by kernel_rfl) (fun _ => (by kernel_rfl)) ?_
     refine al_light 6 (.slice Ap1_1 lp1_1.length cp1_1) hsub rfl (by kernel_rfl) (fun w hI => s_load1 hI 1 (.slice Ap1_1 lp1_1.length cp1_1) Try.isAgg22 rfl rfl rfl ⟨rfl, Below.refl _ _⟩) ?_
     refine alp 7 (iv i_1508) hsub rfl (by kernel_rfl) (fun _ => (by kernel_rfl)) ?_
     obtain ⟨b1630, o1631, hA1632, hb1633, he1634⟩ := hCp1_1.at_ eCm_len (by decide) hx1619
     refine al_light 8 (.pointer (some ⟨b1630, o1631 + (i_1508).toNat * 3, none⟩)) hsub rfl (by kernel_rfl) (fun w hI => s_indexA (i_1508).toNat Try.underlying22 Try.sizeOf26 rfl hA1632 rfl (Int.toNat_of_nonneg h150).symm (lt_n hx1619 rfl) ⟨rfl, Below.refl _ _⟩) ?_
     refine al_light 9 (.agg #[iv x1618.fam, iv x1618.hrs, iv x1618.wants]) hsub rfl (by kernel_rfl) (fun w hI => s_loadBK hI [iv x1618.fam, iv x1618.hrs, iv x1618.wants] Try.isAgg26 Try.sizeOf26 rfl rfl hb1633 (by simp) he1634 ⟨rfl, Below.refl _ _⟩) ?_
     refine al_light 10 (.bool false) hsub rfl (by kernel_rfl) (fun w hI => s_neqA (b := decide (x1611.fam = x1618.fam) && decide (x1611.hrs = x1618.hrs) && decide (x1611.wants = x1618.wants)) rfl rfl (by kernel_rfl) (fun w => eq26 _ x1611.fam x1611.hrs x1611.wants x1618.fam x1618.hrs x1618.wants w) (fun h => absurd (a := (decide (x1611.fam = x1618.fam) && decide (x1611.hrs = x1618.hrs) && decide (x1611.wants = x1618.wants)) = true) h151 h) (fun _ => ⟨rfl, Below.refl _ _⟩)) ?_
     refine any_end (by kernel_rfl) (fun w hI => ?_)
     refine wp_condF rfl (wp_skip (rgn (by kernel_rfl) (pu (iv i_1508) (by kernel_rfl) (ckE hF (fun h152 hF => ?_)))))
     refine seq_c (s_add rfl rfl h152 ?_)
     refine pu (iv (i_1508 + 1)) (by kernel_rfl) (seq_nil ?_)
     exact ⟨rfl, m1, Nat.lt_succ_self _, ⟨i_1508 + 1, m1, ⟨rfl, rfl, rfl, trivial⟩, hI.pickL [0, 1] (by decide) rfl, hF, rfl⟩⟩
    ·
     refine wp_drawn2 hI [0, 1] (by decide) rfl (by kernel_rfl) (by kernel_rfl) ?_
     intro hsub
     refine alp 0 (.pointer (some ⟨b823, 1, none⟩)) hsub rfl (by kernel_rfl) (fun _ => (by kernel_rfl)) ?_
     refine al_light 1 (.slice Ap0_1 lp0_1.length cp0_1) hsub rfl (by kernel_rfl) (fun w hI => s_load1 hI 0 (.slice Ap0_1 lp0_1.length cp0_1) Try.isAgg22 rfl rfl rfl ⟨rfl, Below.refl _ _⟩) ?_
     refine alp 2 (iv i_1508) hsub rfl (by kernel_rfl) (fun _ => (by kernel_rfl)) ?_
     obtain ⟨b1635, o1636, hA1637, hb1638, he1639⟩ := hCp0_1.at_ eCm_len (by decide) hx1612
     refine al_light 3 (.pointer (some ⟨b1635, o1636 + (i_1508).toNat * 3, none⟩)) hsub rfl (by kernel_rfl) (fun w hI => s_indexA (i_1508).toNat Try.underlying22 Try.sizeOf26 rfl hA1637 rfl (Int.toNat_of_nonneg h150).symm (lt_n hx1612 rfl) ⟨rfl, Below.refl _ _⟩) ?_
     refine al_light 4 (.agg #[iv x1611.fam, iv x1611.hrs, iv x1611.wants]) hsub rfl (by kernel_rfl) (fun w hI => s_loadBK hI [iv x1611.fam, iv x1611.hrs, iv x1611.wants] Try.isAgg26 Try.sizeOf26 rfl rfl hb1638 (by simp) he1639 ⟨rfl, Below.refl _ _⟩) ?_
     refine alp 5 (.pointer (some ⟨b824, 1, none⟩)) hsub rfl (by kernel_rfl) (fun _ => (by kernel_rfl)) ?_
     refine al_light 6 (.slice Ap1_1 lp1_1.length cp1_1) hsub rfl (by kernel_rfl) (fun w hI => s_load1 hI 1 (.slice Ap1_1 lp1_1.length cp1_1) Try.isAgg22 rfl rfl rfl ⟨rfl, Below.refl _ _⟩) ?_
     refine alp 7 (iv i_1508) hsub rfl (by kernel_rfl) (fun _ => (by kernel_rfl)) ?_
     obtain ⟨b1640, o1641, hA1642, hb1643, he1644⟩ := hCp1_1.at_ eCm_len (by decide) hx1619
     refine al_light 8 (.pointer (some ⟨b1640, o1641 + (i_1508).toNat * 3, none⟩)) hsub rfl (by kernel_rfl) (fun w hI => s_indexA (i_1508).toNat Try.underlying22 Try.sizeOf26 rfl hA1642 rfl (Int.toNat_of_nonneg h150).symm (lt_n hx1619 rfl) ⟨rfl, Below.refl _ _⟩) ?_
     refine al_light 9 (.agg #[iv x1618.fam, iv x1618.hrs, iv x1618.wants]) hsub rfl (by kernel_rfl) (fun w hI => s_loadBK hI [iv x1618.fam, iv x1618.hrs, iv x1618.wants] Try.isAgg26 Try.sizeOf26 rfl rfl hb1643 (by simp) he1644 ⟨rfl, Below.refl _ _⟩) ?_
     refine al_light 10 (.bool true) hsub rfl (by kernel_rfl) (fun w hI => s_neqA (b := decide (x1611.fam = x1618.fam) && decide (x1611.hrs = x1618.hrs) && decide (x1611.wants = x1618.wants)) rfl rfl (by kernel_rfl) (fun w => eq26 _ x1611.fam x1611.hrs x1611.wants x1618.fam x1618.hrs x1618.wants w) (fun _ => ⟨rfl, Below.refl _ _⟩) (fun h => absurd (a := (decide (x1611.fam = x1618.fam) && decide (x1611.hrs = x1618.hrs) && decide (x1611.wants = x1618.wants)) = true) h h151)) ?_
     refine any_end (by kernel_rfl) (fun w hI => ?_)
     refine wp_condT rfl (wp_seq (rgn (by kernel_rfl) (pu (.bool false) (by kernel_rfl) (seq_nil (wp_ret ?_)))))
     replace hF := Option.some.inj hF; subst hF
     exact ⟨.bool false, Ret.r1 rfl rfl, ⟨rfl, hI.below⟩⟩
   ·
    refine seq_c (s_lss rfl rfl (fun h => absurd (a := i_1508 < (lp0_1.length : Int)) h h143) (fun _ => ?_))
    refine seq_nil (wp_condF rfl (wp_exit ?_))
    refine wp_seq (rgn (by kernel_rfl) (pu (.bool true) (by kernel_rfl) (seq_nil (wp_ret ?_))))
    replace hF := Option.some.inj hF; subst hF
    exact ⟨.bool true, Ret.r1 rfl rfl, ⟨rfl, hI.below⟩⟩
  ·
   refine seq_on (by kernel_rfl) (s_neq rfl rfl (fun _ => ?_) (fun h => absurd (a := (lp0_1.length : Int) = (lp1_1.length : Int)) h h84))
   refine pu (.bool true) (by kernel_rfl) (seq_nil (wp_condT rfl (wp_seq (rgn (by kernel_rfl) (pu (.bool false) (by kernel_rfl) (seq_nil (wp_ret ?_)))))))
   replace hF := Option.some.inj hF; subst hF
   exact ⟨.bool false, Ret.r1 rfl rfl, ⟨rfl, hI.below⟩⟩
 ·
  refine seq_c (s_neq rfl rfl (fun _ => ?_) (fun h => absurd (a := p0_0 = p1_0) h h83))
  refine pu (.bool true) (by kernel_rfl) (of_ (by kernel_rfl) (of_ (by kernel_rfl) (of_ (by kernel_rfl) (of_ (by kernel_rfl) (of_ (by kernel_rfl) (of_ (by kernel_rfl) (of_ (by kernel_rfl) (pu (.bool true) (by kernel_rfl) (seq_nil ?_)))))))))
  refine wp_condT rfl (wp_seq (rgn (by kernel_rfl) (pu (.bool false) (by kernel_rfl) (seq_nil (wp_ret ?_)))))
  replace hF := Option.some.inj hF; subst hF
  exact ⟨.bool false, Ret.r1 rfl rfl, ⟨rfl, hI.below⟩⟩


theorem L69 (w0 : World) (p0 : Rg) (p1 : Int) (r : Bool) (hF : F69 p0 p1 = some r) : Does Try.prog 69 [.agg #[.int .i64 p0.lo, .int .i64 p0.hi], .int .i64 p1] w0 fun v w => v = .bool r ∧ Below w0.heap.size w0 w := by
 refine calls_of (n := 21) Try.func69 rfl Try.ntmps69 rfl ?_
 have hI := Inv.start w0
 unfold F69 at hF
 refine wp_seq (rgn (by kernel_rfl) (seq_c (s_boxI hI [iv p0.lo, iv p0.hi] rfl ?_)))
 intro b3 w hI
 refine pu (.bool false) (by kernel_rfl) (seq_nil (wp_seq (rgn (by kernel_rfl) (pu (.pointer (some ⟨b3, 0, none⟩)) (by kernel_rfl) (seq_c (s_load1 hI 0 (iv p0.lo) Try.isAgg3 rfl rfl rfl ?_))))))
 refine ifE hF (fun h10 hF => ?_) (fun h10 hF => ?_)
 ·
  refine seq_c (s_geq rfl rfl (fun _ => ?_) (fun h => absurd (a := 0 ≤ p0.lo) h10 h))
  refine pu (.bool true) (by kernel_rfl) (puo (.pointer (some ⟨b3, 0, none⟩)) ⟨(by kernel_rfl), (by kernel_rfl)⟩ (seq_on (by kernel_rfl) (s_load1 hI 0 (iv p0.lo) Try.isAgg3 rfl rfl rfl ?_)))
  refine puo (.pointer (some ⟨b3, 1, none⟩)) ⟨(by kernel_rfl), (by kernel_rfl)⟩ (seq_on (by kernel_rfl) (s_load1 hI 0 (iv p0.hi) Try.isAgg3 rfl rfl rfl ?_))
  refine ifE hF (fun h11 hF => ?_) (fun h11 hF => ?_)
  ·
   refine seq_on (by kernel_rfl) (s_leq rfl rfl (fun _ => ?_) (fun h => absurd (a := p0.lo ≤ p0.hi) h11 h))
   refine pu (.bool true) (by kernel_rfl) (pu (.bool true) (by kernel_rfl) (puo (.pointer (some ⟨b3, 1, none⟩)) ⟨(by kernel_rfl), (by kernel_rfl)⟩ (seq_on (by kernel_rfl) (s_load1 hI 0 (iv p0.hi) Try.isAgg3 rfl rfl rfl ?_))))
   refine puo (iv p1) ⟨(by kernel_rfl), (by kernel_rfl)⟩ (ifE hF (fun h12 hF => ?_) (fun h12 hF => ?_))
   ·
    refine seq_on (by kernel_rfl) (s_leq rfl rfl (fun _ => ?_) (fun h => absurd (a := p0.hi ≤ p1) h12 h))
    refine pu (.bool true) (by kernel_rfl) (pu (.bool true) (by kernel_rfl) (seq_nil (wp_ret ?_)))
    replace hF := Option.some.inj hF; subst hF
    exact ⟨.bool true, Ret.r1 rfl rfl, ⟨rfl, hI.below⟩⟩
   ·
    refine seq_on (by kernel_rfl) (s_leq rfl rfl (fun h => absurd (a := p0.hi ≤ p1) h h12) (fun _ => ?_))
    refine pu (.bool false) (by kernel_rfl) (pu (.bool false) (by kernel_rfl) (seq_nil (wp_ret ?_)))
    replace hF := Option.some.inj hF; subst hF
    exact ⟨.bool false, Ret.r1 rfl rfl, ⟨rfl, hI.below⟩⟩
  ·
   refine seq_on (by kernel_rfl) (s_leq rfl rfl (fun h => absurd (a := p0.lo ≤ p0.hi) h h11) (fun _ => ?_))
   refine pu (.bool false) (by kernel_rfl) (pu (.bool false) (by kernel_rfl) (of_ (by kernel_rfl) (of_ (by kernel_rfl) (of_ (by kernel_rfl) (of_ (by kernel_rfl) (pu (.bool false) (by kernel_rfl) (pu (.bool false) (by kernel_rfl) (seq_nil (wp_ret ?_)))))))))
   replace hF := Option.some.inj hF; subst hF
   exact ⟨.bool false, Ret.r1 rfl rfl, ⟨rfl, hI.below⟩⟩
 ·
  refine seq_c (s_geq rfl rfl (fun h => absurd (a := 0 ≤ p0.lo) h h10) (fun _ => ?_))
  refine pu (.bool false) (by kernel_rfl) (of_ (by kernel_rfl) (of_ (by kernel_rfl) (of_ (by kernel_rfl) (of_ (by kernel_rfl) (of_ (by kernel_rfl) (pu (.bool false) (by kernel_rfl) (pu (.bool false) (by kernel_rfl) (of_ (by kernel_rfl) (of_ (by kernel_rfl) ?_)))))))))
  refine of_ (by kernel_rfl) (of_ (by kernel_rfl) (pu (.bool false) (by kernel_rfl) (pu (.bool false) (by kernel_rfl) (seq_nil (wp_ret ?_)))))
  replace hF := Option.some.inj hF; subst hF
  exact ⟨.bool false, Ret.r1 rfl rfl, ⟨rfl, hI.below⟩⟩


theorem L19 (w0 : World) (p0 : Yl) (r : Int) (hF : F19 p0 = some r) : Does Try.prog 19 [.agg #[.int .i64 p0.lo, .int .i64 p0.hi, .int .i64 p0.toll]] w0 fun v w => v = .int .i64 r ∧ Below w0.heap.size w0 w := by
 refine calls_of (n := 11) Try.func19 rfl Try.ntmps19 rfl ?_
 have hI := Inv.start w0
 unfold F19 at hF
 refine wp_seq (rgn (by kernel_rfl) (seq_c (s_boxI hI [iv p0.lo, iv p0.hi, iv p0.toll] rfl ?_)))
 intro b18 w hI
 refine pu (iv 0) (by kernel_rfl) (seq_nil (wp_seq (wp_seq (rgn (by kernel_rfl) (pu (.pointer (some ⟨b18, 0, none⟩)) (by kernel_rfl) (seq_c (s_loadK hI 0 2 [iv p0.lo, iv p0.hi] Try.isAgg28 Try.sizeOf28 rfl rfl rfl rfl ?_)))))))
 refine bindE hF (fun y31 hy32 hF => ?_)
 refine ifE hF (fun h15 hF => ?_) (fun h15 hF => ?_)
 ·
  refine seq_c (s_callv hI 69 [.agg #[iv p0.lo, iv p0.hi], iv 1000] (.bool true) (by kernel_rfl) (Does.mono (L69 _ (⟨p0.lo, p0.hi⟩ : Rg) 1000 _ hy32) (fun v' w' h => ⟨h.1.trans (congrArg Value.bool h15), h.2⟩)) ?_)
  intro w hI
  refine pu (.bool true) (by kernel_rfl) (puo (.pointer (some ⟨b18, 2, none⟩)) ⟨(by kernel_rfl), (by kernel_rfl)⟩ (seq_on (by kernel_rfl) (s_load1 hI 0 (iv p0.toll) Try.isAgg3 rfl rfl rfl ?_)))
  refine bindE hF (fun y33 hy34 hF => ?_)
  refine ifE hF (fun h16 hF => ?_) (fun h16 hF => ?_)
  ·
   refine seq_on (by kernel_rfl) (s_callv hI 70 [iv p0.toll, iv 2, iv 100] (.bool true) (by kernel_rfl) (Does.mono (L70 _ p0.toll 2 100 _ hy34) (fun v' w' h => ⟨h.1.trans (congrArg Value.bool h16), h.2⟩)) ?_)
   intro w hI
   refine pu (.bool true) (by kernel_rfl) (seq_nil (wp_condT rfl (wp_seq (rgn (by kernel_rfl) (pu (iv 0) (by kernel_rfl) (seq_nil (wp_ret ?_)))))))
   replace hF := Option.some.inj hF; subst hF
   exact ⟨iv 0, Ret.r1 rfl rfl, ⟨rfl, hI.below⟩⟩
  ·
   refine seq_on (by kernel_rfl) (s_callv hI 70 [iv p0.toll, iv 2, iv 100] (.bool false) (by kernel_rfl) (Does.mono (L70 _ p0.toll 2 100 _ hy34) (fun v' w' h => ⟨h.1.trans (congrArg Value.bool (Bool.eq_false_iff.2 h16)), h.2⟩)) ?_)
   intro w hI
   refine pu (.bool false) (by kernel_rfl) (seq_nil (wp_condF rfl (wp_skip (wp_seq (rgn (by kernel_rfl) (pu (iv 50) (by kernel_rfl) (seq_nil (wp_ret ?_))))))))
   replace hF := Option.some.inj hF; subst hF
   exact ⟨iv 50, Ret.r1 rfl rfl, ⟨rfl, hI.below⟩⟩
 ·
  refine seq_c (s_callv hI 69 [.agg #[iv p0.lo, iv p0.hi], iv 1000] (.bool false) (by kernel_rfl) (Does.mono (L69 _ (⟨p0.lo, p0.hi⟩ : Rg) 1000 _ hy32) (fun v' w' h => ⟨h.1.trans (congrArg Value.bool (Bool.eq_false_iff.2 h15)), h.2⟩)) ?_)
  intro w hI
  refine pu (.bool false) (by kernel_rfl) (of_ (by kernel_rfl) (of_ (by kernel_rfl) (of_ (by kernel_rfl) (pu (.bool false) (by kernel_rfl) (seq_nil (wp_condF rfl (wp_skip (wp_seq (rgn (by kernel_rfl) ?_)))))))))
  refine pu (iv 50) (by kernel_rfl) (seq_nil (wp_ret ?_))
  replace hF := Option.some.inj hF; subst hF
  exact ⟨iv 50, Ret.r1 rfl rfl, ⟨rfl, hI.below⟩⟩


theorem L20 (w0 : World) (p0 : Yl) (r : Int) (hF : F20 p0 = some r) : Does Try.prog 20 [.agg #[.int .i64 p0.lo, .int .i64 p0.hi, .int .i64 p0.toll]] w0 fun v w => v = .int .i64 r ∧ Below w0.heap.size w0 w := by
 refine calls_of (n := 28) Try.func20 rfl Try.ntmps20 rfl ?_
 have hI := Inv.start w0
 unfold F20 at hF
 refine wp_seq (rgn (by kernel_rfl) (seq_c (s_boxI hI [iv p0.lo, iv p0.hi, iv p0.toll] rfl ?_)))
 intro b10 w hI
 refine pu (iv 0) (by kernel_rfl) (seq_nil (wp_seq (wp_seq (rgn (by kernel_rfl) (pu (.pointer (some ⟨b10, 0, none⟩)) (by kernel_rfl) (pu (.pointer (some ⟨b10, 0, none⟩)) (by kernel_rfl) (seq_c (s_load1 hI 0 (iv p0.lo) Try.isAgg3 rfl rfl rfl ?_))))))))
 refine ifE hF (fun h29 hF => ?_) (fun h29 hF => ?_)
 ·
  refine seq_c (s_lss rfl rfl (fun _ => ?_) (fun h => absurd (a := p0.lo < 0) h29 h))
  refine pu (.bool true) (by kernel_rfl) (of_ (by kernel_rfl) (of_ (by kernel_rfl) (of_ (by kernel_rfl) (of_ (by kernel_rfl) (of_ (by kernel_rfl) (of_ (by kernel_rfl) (of_ (by kernel_rfl) (pu (.bool true) (by kernel_rfl) (pu (.bool true) (by kernel_rfl) ?_)))))))))
  refine of_ (by kernel_rfl) (of_ (by kernel_rfl) (of_ (by kernel_rfl) (of_ (by kernel_rfl) (pu (.bool true) (by kernel_rfl) (pu (.bool true) (by kernel_rfl) (of_ (by kernel_rfl) (of_ (by kernel_rfl) (of_ (by kernel_rfl) (of_ (by kernel_rfl) ?_)))))))))
  refine pu (.bool true) (by kernel_rfl) (seq_nil (wp_condT rfl (wp_seq (rgn (by kernel_rfl) (pu (iv 50) (by kernel_rfl) (seq_nil (wp_ret ?_)))))))
  replace hF := Option.some.inj hF; subst hF
  exact ⟨iv 50, Ret.r1 rfl rfl, ⟨rfl, hI.below⟩⟩
 ·
  refine seq_c (s_lss rfl rfl (fun h => absurd (a := p0.lo < 0) h h29) (fun _ => ?_))
  refine pu (.bool false) (by kernel_rfl) (puo (.pointer (some ⟨b10, 0, none⟩)) ⟨(by kernel_rfl), (by kernel_rfl)⟩ (puo (.pointer (some ⟨b10, 0, none⟩)) ⟨(by kernel_rfl), (by kernel_rfl)⟩ (seq_on (by kernel_rfl) (s_load1 hI 0 (iv p0.lo) Try.isAgg3 rfl rfl rfl ?_))))
  refine puo (.pointer (some ⟨b10, 0, none⟩)) ⟨(by kernel_rfl), (by kernel_rfl)⟩ (puo (.pointer (some ⟨b10, 1, none⟩)) ⟨(by kernel_rfl), (by kernel_rfl)⟩ (seq_on (by kernel_rfl) (s_load1 hI 0 (iv p0.hi) Try.isAgg3 rfl rfl rfl ?_)))
  refine ifE hF (fun h30 hF => ?_) (fun h30 hF => ?_)
  ·
   refine seq_on (by kernel_rfl) (s_gtr rfl rfl (fun _ => ?_) (fun h => absurd (a := p0.hi < p0.lo) h30 h))
   refine pu (.bool true) (by kernel_rfl) (pu (.bool true) (by kernel_rfl) (of_ (by kernel_rfl) (of_ (by kernel_rfl) (of_ (by kernel_rfl) (of_ (by kernel_rfl) (pu (.bool true) (by kernel_rfl) (pu (.bool true) (by kernel_rfl) (of_ (by kernel_rfl) (of_ (by kernel_rfl) ?_)))))))))
   refine of_ (by kernel_rfl) (of_ (by kernel_rfl) (pu (.bool true) (by kernel_rfl) (seq_nil (wp_condT rfl (wp_seq (rgn (by kernel_rfl) (pu (iv 50) (by kernel_rfl) (seq_nil (wp_ret ?_)))))))))
   replace hF := Option.some.inj hF; subst hF
   exact ⟨iv 50, Ret.r1 rfl rfl, ⟨rfl, hI.below⟩⟩
  ·
   refine seq_on (by kernel_rfl) (s_gtr rfl rfl (fun h => absurd (a := p0.hi < p0.lo) h h30) (fun _ => ?_))
   refine pu (.bool false) (by kernel_rfl) (pu (.bool false) (by kernel_rfl) (puo (.pointer (some ⟨b10, 0, none⟩)) ⟨(by kernel_rfl), (by kernel_rfl)⟩ (puo (.pointer (some ⟨b10, 1, none⟩)) ⟨(by kernel_rfl), (by kernel_rfl)⟩ (seq_on (by kernel_rfl) (s_load1 hI 0 (iv p0.hi) Try.isAgg3 rfl rfl rfl ?_)))))
   refine ifE hF (fun h31 hF => ?_) (fun h31 hF => ?_)
   ·
    refine seq_on (by kernel_rfl) (s_gtr rfl rfl (fun _ => ?_) (fun h => absurd (a := 1000 < p0.hi) h31 h))
    refine pu (.bool true) (by kernel_rfl) (pu (.bool true) (by kernel_rfl) (of_ (by kernel_rfl) (of_ (by kernel_rfl) (of_ (by kernel_rfl) (of_ (by kernel_rfl) (pu (.bool true) (by kernel_rfl) (seq_nil (wp_condT rfl (wp_seq ?_)))))))))
    refine rgn (by kernel_rfl) (pu (iv 50) (by kernel_rfl) (seq_nil (wp_ret ?_)))
    replace hF := Option.some.inj hF; subst hF
    exact ⟨iv 50, Ret.r1 rfl rfl, ⟨rfl, hI.below⟩⟩
   ·
    refine seq_on (by kernel_rfl) (s_gtr rfl rfl (fun h => absurd (a := 1000 < p0.hi) h h31) (fun _ => ?_))
    refine pu (.bool false) (by kernel_rfl) (pu (.bool false) (by kernel_rfl) (puo (.pointer (some ⟨b10, 2, none⟩)) ⟨(by kernel_rfl), (by kernel_rfl)⟩ (seq_on (by kernel_rfl) (s_load1 hI 0 (iv p0.toll) Try.isAgg3 rfl rfl rfl ?_))))
    refine bindE hF (fun y17 hy18 hF => ?_)
    refine ifE hF (fun h32 hF => ?_) (fun h32 hF => ?_)
    ·
     refine seq_on (by kernel_rfl) (s_callv hI 71 [iv p0.toll, iv 2, iv 100] (.bool true) (by kernel_rfl) (Does.mono (L71 _ p0.toll 2 100 _ hy18) (fun v' w' h => ⟨h.1.trans (congrArg Value.bool h32), h.2⟩)) ?_)
     intro w hI
     refine puo (.bool false) ⟨(by kernel_rfl), (by kernel_rfl)⟩ (pu (.bool false) (by kernel_rfl) (seq_nil (wp_condF rfl (wp_skip (wp_seq (rgn (by kernel_rfl) (pu (iv 0) (by kernel_rfl) (seq_nil (wp_ret ?_)))))))))
     replace hF := Option.some.inj hF; subst hF
     exact ⟨iv 0, Ret.r1 rfl rfl, ⟨rfl, hI.below⟩⟩
    ·
     refine seq_on (by kernel_rfl) (s_callv hI 71 [iv p0.toll, iv 2, iv 100] (.bool false) (by kernel_rfl) (Does.mono (L71 _ p0.toll 2 100 _ hy18) (fun v' w' h => ⟨h.1.trans (congrArg Value.bool (Bool.eq_false_iff.2 h32)), h.2⟩)) ?_)
     intro w hI
     refine puo (.bool true) ⟨(by kernel_rfl), (by kernel_rfl)⟩ (pu (.bool true) (by kernel_rfl) (seq_nil (wp_condT rfl (wp_seq (rgn (by kernel_rfl) (pu (iv 50) (by kernel_rfl) (seq_nil (wp_ret ?_))))))))
     replace hF := Option.some.inj hF; subst hF
     exact ⟨iv 50, Ret.r1 rfl rfl, ⟨rfl, hI.below⟩⟩


theorem L73 (w0 : World) (p0 : Yl) (p1 : Bool) (r : Int) (hF : F73 p0 p1 = some r) : Does Try.prog 73 [.agg #[.int .i64 p0.lo, .int .i64 p0.hi, .int .i64 p0.toll], .bool p1] w0 fun v w => v = .int .i64 r ∧ Below w0.heap.size w0 w := by
 refine calls_of (n := 13) Try.func73 rfl Try.ntmps73 rfl ?_
 have hI := Inv.start w0
 unfold F73 at hF
 refine wp_seq (rgn (by kernel_rfl) (seq_c (s_boxI hI [iv p0.lo, iv p0.hi, iv p0.toll] rfl ?_)))
 intro b10 w hI
 refine pu (iv 0) (by kernel_rfl) (seq_nil (wp_seq (wp_seq (rgn (by kernel_rfl) (seq_c (s_loadK hI 0 3 [iv p0.lo, iv p0.hi, iv p0.toll] Try.isAgg30 Try.sizeOf30 rfl rfl rfl rfl ?_))))))
 refine bindE hF (fun y17 hy18 hF => ?_)
 refine seq_c (s_callv hI 19 [.agg #[iv p0.lo, iv p0.hi, iv p0.toll]] (iv y17) (by kernel_rfl) (L19 _ p0 _ hy18) ?_)
 intro w hI
 refine pu (iv y17) (by kernel_rfl) (seq_nil (wp_seq (rgn (by kernel_rfl) (pu (iv y17) (by kernel_rfl) (ifE hF (fun h8 hF => ?_) (fun h8 hF => ?_))))))
 ·
  refine seq_c (s_neq rfl rfl (fun h => absurd (a := y17 = 0) h8 h) (fun _ => ?_))
  refine seq_nil (wp_condF rfl (wp_skip (wp_seq (wp_seq ?_))))
  have hG := hF; rcases Bool.eq_false_or_eq_true p1 with rfl | rfl
  ·
   have hF := hG; clear hG
   refine ifE hF (fun _ hF => ?_) (fun h => absurd rfl h)
   refine rgn (by kernel_rfl) (pu (.bool true) (by kernel_rfl) (pu (.bool false) (by kernel_rfl) (seq_nil (wp_condF rfl (wp_skip (wp_seq (rgn (by kernel_rfl) (pu (iv 0) (by kernel_rfl) (seq_nil ?_)))))))))
   refine wp_ret ?_
   replace hF := Option.some.inj hF; subst hF
   exact ⟨iv 0, Ret.r1 rfl rfl, ⟨rfl, hI.below⟩⟩
  ·
   have hF := hG; clear hG
   refine ifE hF (fun h => absurd h (by decide)) (fun _ hF => ?_)
   refine rgn (by kernel_rfl) (pu (.bool false) (by kernel_rfl) (pu (.bool true) (by kernel_rfl) (seq_nil (wp_condT rfl (wp_seq (rgn (by kernel_rfl) (pu (iv 58) (by kernel_rfl) (seq_nil (wp_ret ?_)))))))))
   replace hF := Option.some.inj hF; subst hF
   exact ⟨iv 58, Ret.r1 rfl rfl, ⟨rfl, hI.below⟩⟩
 ·
  refine seq_c (s_neq rfl rfl (fun _ => ?_) (fun h => absurd (a := y17 = 0) h h8))
  refine seq_nil (wp_condT rfl (wp_seq (rgn (by kernel_rfl) (pu (iv y17) (by kernel_rfl) (pu (iv y17) (by kernel_rfl) (seq_nil (wp_ret ?_)))))))
  replace hF := Option.some.inj hF; subst hF
  exact ⟨iv y17, Ret.r1 rfl rfl, ⟨rfl, hI.below⟩⟩


theorem L100 (w0 : World) (p0 : Int) (p1 : Int) (r : Int) (hF : F100 p0 p1 = some r) : Does Try.prog 100 [.int .i64 p0, .int .i64 p1] w0 fun v w => v = .int .i64 r ∧ Below w0.heap.size w0 w := by
 refine calls_of (n := 9) Try.func100 rfl Try.ntmps100 rfl ?_
 have hI := Inv.start w0
 unfold F100 at hF
 refine wp_seq (rgn (by kernel_rfl) (pu (iv 0) (by kernel_rfl) (seq_nil (wp_seq (rgn (by kernel_rfl) (pu (iv p1) (by kernel_rfl) (pu (iv p0) (by kernel_rfl) (ckE hF (fun h2 hF => ?_)))))))))
 refine seq_c (s_mul rfl rfl h2 ?_)
 refine seq_c (s_quo rfl rfl (by decide) h2 ?_)
 refine pu (iv ((p1 * p0).tdiv 100)) (by kernel_rfl) (seq_nil (wp_ret ?_))
 replace hF := Option.some.inj hF; subst hF
 exact ⟨iv ((p1 * p0).tdiv 100), Ret.r1 rfl rfl, ⟨rfl, hI.below⟩⟩


theorem L74 (w0 : World) (p0 : Yl) (p1 : Rg) (r : (Int × Int)) (hF : F74 p0 p1 = some r) : Does Try.prog 74 [.agg #[.int .i64 p0.lo, .int .i64 p0.hi, .int .i64 p0.toll], .agg #[.int .i64 p1.lo, .int .i64 p1.hi]] w0 fun v w => v = .agg #[.int .i64 r.1, .int .i64 r.2] ∧ Below w0.heap.size w0 w := by
 refine calls_of (n := 18) Try.func74 rfl Try.ntmps74 rfl ?_
 have hI := Inv.start w0
 unfold F74 at hF
 refine wp_seq (rgn (by kernel_rfl) (seq_c (s_boxI hI [iv p0.lo, iv p0.hi, iv p0.toll] rfl ?_)))
 intro b12 w hI
 refine seq_c (s_boxI hI [iv p1.lo, iv p1.hi] rfl ?_)
 intro b13 w hI
 refine seq_c (s_allocI hI [iv 0, iv 0] Try.zeroValue28 rfl ?_)
 intro b14 w hI
 refine seq_nil (wp_seq (bindE hF (fun y19 hy20 hF => ?_)))
 refine bindE hF (fun y21 hy22 hF => ?_)
 replace hI := hI.pickL [1, 2, 0] (by decide) rfl
 refine wp_drawn2 hI [0, 1] (by decide) rfl (by kernel_rfl) (by kernel_rfl) ?_
 intro hsub
 refine alp 0 (.pointer (some ⟨b12, 0, none⟩)) hsub rfl (by kernel_rfl) (fun _ => (by kernel_rfl)) ?_
 refine alp 1 (.pointer (some ⟨b12, 0, none⟩)) hsub rfl (by kernel_rfl) (fun _ => (by kernel_rfl)) ?_
 refine al_light 2 (iv p0.lo) hsub rfl (by kernel_rfl) (fun w hI => s_load1 hI 1 (iv p0.lo) Try.isAgg3 rfl rfl rfl ⟨rfl, Below.refl _ _⟩) ?_
 refine alp 3 (.pointer (some ⟨b13, 0, none⟩)) hsub rfl (by kernel_rfl) (fun _ => (by kernel_rfl)) ?_
 refine al_light 4 (iv p1.lo) hsub rfl (by kernel_rfl) (fun w hI => s_load1 hI 0 (iv p1.lo) Try.isAgg3 rfl rfl rfl ⟨rfl, Below.refl _ _⟩) ?_
 refine al_light 5 (iv y19) hsub rfl (by kernel_rfl) (fun w hI => s_call 100 [iv p0.lo, iv p1.lo] (by kernel_rfl) (L100 _ p0.lo p1.lo _ hy20) (fun v' w' h => h)) ?_
 refine alp 6 (.pointer (some ⟨b12, 0, none⟩)) hsub rfl (by kernel_rfl) (fun _ => (by kernel_rfl)) ?_
 refine alp 7 (.pointer (some ⟨b12, 1, none⟩)) hsub rfl (by kernel_rfl) (fun _ => (by kernel_rfl)) ?_
 refine al_light 8 (iv p0.hi) hsub rfl (by kernel_rfl) (fun w hI => s_load1 hI 1 (iv p0.hi) Try.isAgg3 rfl rfl rfl ⟨rfl, Below.refl _ _⟩) ?_
 refine alp 9 (.pointer (some ⟨b13, 1, none⟩)) hsub rfl (by kernel_rfl) (fun _ => (by kernel_rfl)) ?_
 refine al_light 10 (iv p1.hi) hsub rfl (by kernel_rfl) (fun w hI => s_load1 hI 0 (iv p1.hi) Try.isAgg3 rfl rfl rfl ⟨rfl, Below.refl _ _⟩) ?_
 refine al_light 11 (iv y21) hsub rfl (by kernel_rfl) (fun w hI => s_call 100 [iv p0.hi, iv p1.hi] (by kernel_rfl) (L100 _ p0.hi p1.hi _ hy22) (fun v' w' h => h)) ?_
 refine alp 12 (.agg #[iv y19, iv y21]) hsub rfl (by kernel_rfl) (fun _ => (by kernel_rfl)) ?_
 refine any_heavy [13] (by kernel_rfl) rfl (each1 ?_)
 intro w hI
 refine ol_c rfl (s_store hI 2 2 [iv y19, iv y21] Try.sizeOf28 rfl rfl rfl rfl rfl (Nat.le_of_ble_eq_true rfl) ?_)
 intro w hI
 refine ⟨_, hI, subk (fun _ h => h.pickL [0, 1] (by decide) rfl) ?_⟩
 intro hsub
 refine any_end (by kernel_rfl) (fun w hI => ?_)
 refine wp_ret ?_
 replace hF := Option.some.inj hF; subst hF
 exact ⟨.agg #[iv y19, iv y21], Ret.c rfl rfl (run_loadK hI 2 2 [iv y19, iv y21] Try.isAgg28 Try.sizeOf28 rfl rfl rfl), ⟨rfl, hI.below⟩⟩


theorem L26 (w0 : World) (p0 : Yl) (p1 : Rg) (r : (Int × Int × Int)) (hF : F26 p0 p1 = some r) : Does Try.prog 26 [.agg #[.int .i64 p0.lo, .int .i64 p0.hi, .int .i64 p0.toll], .agg #[.int .i64 p1.lo, .int .i64 p1.hi]] w0 fun v w => v = .tuple #[.agg #[.int .i64 r.1, .int .i64 r.2.1], .int .i64 r.2.2] ∧ Below w0.heap.size w0 w := by
 refine calls_of (n := 18) Try.func26 rfl Try.ntmps26 rfl ?_
 have hI := Inv.start w0
 unfold F26 at hF
 refine wp_seq (rgn (by kernel_rfl) (seq_c (s_boxI hI [iv p0.lo, iv p0.hi, iv p0.toll] rfl ?_)))
 intro b24 w hI
 refine seq_c (s_boxI hI [iv p1.lo, iv p1.hi] rfl ?_)
 intro b25 w hI
 refine seq_c (s_allocI hI [iv 0, iv 0] Try.zeroValue28 rfl ?_)
 intro b26 w hI
 refine pu (iv 0) (by kernel_rfl) (seq_nil (wp_seq (wp_seq (bindE hF (fun y39 hy40 hF => ?_)))))
 refine bindE hF (fun y41 hy42 hF => ?_)
 refine wp_drawn2 hI [0, 1, 2] (by decide) rfl (by kernel_rfl) (by kernel_rfl) ?_
 intro hsub
 refine al_light 0 (.agg #[iv p0.lo, iv p0.hi, iv p0.toll]) hsub rfl (by kernel_rfl) (fun w hI => s_loadK hI 2 3 [iv p0.lo, iv p0.hi, iv p0.toll] Try.isAgg30 Try.sizeOf30 rfl rfl rfl rfl ⟨rfl, Below.refl _ _⟩) ?_
 refine al_light 1 (.agg #[iv p1.lo, iv p1.hi]) hsub rfl (by kernel_rfl) (fun w hI => s_loadK hI 1 2 [iv p1.lo, iv p1.hi] Try.isAgg28 Try.sizeOf28 rfl rfl rfl rfl ⟨rfl, Below.refl _ _⟩) ?_
 refine al_light 2 (.bool y39) hsub rfl (by kernel_rfl) (fun w hI => s_call 69 [.agg #[iv p1.lo, iv p1.hi], iv 2000] (by kernel_rfl) (L69 _ p1 2000 _ hy40) (fun v' w' h => h)) ?_
 refine al_light 3 (iv y41) hsub rfl (by kernel_rfl) (fun w hI => s_call 73 [.agg #[iv p0.lo, iv p0.hi, iv p0.toll], .bool y39] (by kernel_rfl) (L73 _ p0 y39 _ hy42) (fun v' w' h => h)) ?_
 refine alp 4 (iv y41) hsub rfl (by kernel_rfl) (fun _ => (by kernel_rfl)) ?_
 refine any_end (by kernel_rfl) (fun w hI => ?_)
 refine wp_seq (rgn (by kernel_rfl) (pu (iv y41) (by kernel_rfl) (ifE hF (fun h8 hF => ?_) (fun h8 hF => ?_))))
 ·
  refine seq_c (s_neq rfl rfl (fun h => absurd (a := y41 = 0) h8 h) (fun _ => ?_))
  refine seq_nil (wp_condF rfl (wp_skip (wp_seq (rgn (by kernel_rfl) (seq_c (s_loadK hI 2 3 [iv p0.lo, iv p0.hi, iv p0.toll] Try.isAgg30 Try.sizeOf30 rfl rfl rfl rfl ?_))))))
  refine seq_c (s_loadK hI 1 2 [iv p1.lo, iv p1.hi] Try.isAgg28 Try.sizeOf28 rfl rfl rfl rfl ?_)
  refine bindE hF (fun y45 hy46 hF => ?_)
  refine seq_c (s_callv hI 74 [.agg #[iv p0.lo, iv p0.hi, iv p0.toll], .agg #[iv p1.lo, iv p1.hi]] (.agg #[iv y45.1, iv y45.2]) (by kernel_rfl) (L74 _ p0 p1 _ hy46) ?_)
  intro w hI
  refine seq_c (s_store hI 0 2 [iv y45.1, iv y45.2] Try.sizeOf28 rfl rfl rfl rfl rfl (Nat.le_of_ble_eq_true rfl) ?_)
  intro w hI
  refine pu (iv 0) (by kernel_rfl) (seq_nil (wp_ret ?_))
  replace hF := Option.some.inj hF; subst hF
  exact ⟨.tuple #[.agg #[iv y45.1, iv y45.2], iv 0], Ret.ct rfl rfl (run_loadK hI 0 2 [iv y45.1, iv y45.2] Try.isAgg28 Try.sizeOf28 rfl rfl rfl) rfl, ⟨rfl, hI.below⟩⟩
 ·
  refine seq_c (s_neq rfl rfl (fun _ => ?_) (fun h => absurd (a := y41 = 0) h h8))
  refine seq_nil (wp_condT rfl (wp_seq (rgn (by kernel_rfl) (pu (.agg #[iv 0, iv 0]) (by kernel_rfl) (pu (iv y41) (by kernel_rfl) (seq_c (s_store hI 0 2 [iv 0, iv 0] Try.sizeOf28 rfl rfl rfl rfl rfl (Nat.le_of_ble_eq_true rfl) ?_)))))))
  intro w hI
  refine pu (iv y41) (by kernel_rfl) (seq_nil (wp_ret ?_))
  replace hF := Option.some.inj hF; subst hF
  exact ⟨.tuple #[.agg #[iv 0, iv 0], iv y41], Ret.ct rfl rfl (run_loadK hI 0 2 [iv 0, iv 0] Try.isAgg28 Try.sizeOf28 rfl rfl rfl) rfl, ⟨rfl, hI.below⟩⟩


theorem L76 (w0 : World) (p0 : Yl) (p1 : Int) (r : Int) (hF : F76 p0 p1 = some r) : Does Try.prog 76 [.agg #[.int .i64 p0.lo, .int .i64 p0.hi, .int .i64 p0.toll], .int .i64 p1] w0 fun v w => v = .int .i64 r ∧ Below w0.heap.size w0 w := by
 refine calls_of (n := 11) Try.func76 rfl Try.ntmps76 rfl ?_
 have hI := Inv.start w0
 unfold F76 at hF
 refine wp_seq (rgn (by kernel_rfl) (seq_c (s_boxI hI [iv p0.lo, iv p0.hi, iv p0.toll] rfl ?_)))
 intro b2 w hI
 refine pu (iv 0) (by kernel_rfl) (seq_nil (wp_seq (rgn (by kernel_rfl) (pu (iv p1) (by kernel_rfl) (pu (iv p1) (by kernel_rfl) (pu (.pointer (some ⟨b2, 2, none⟩)) (by kernel_rfl) (seq_c (s_load1 hI 0 (iv p0.toll) Try.isAgg3 rfl rfl rfl ?_))))))))
 refine gdE hF (fun h4 hF => ?_)
 refine ckE hF (fun h5 hF => ?_)
 refine seq_c (s_quo rfl rfl h4 h5 ?_)
 refine ckE hF (fun h6 hF => ?_)
 refine seq_c (s_sub rfl rfl h6 ?_)
 refine pu (iv (p1 - (p1.tdiv p0.toll))) (by kernel_rfl) (seq_nil (wp_ret ?_))
 replace hF := Option.some.inj hF; subst hF
 exact ⟨iv (p1 - (p1.tdiv p0.toll)), Ret.r1 rfl rfl, ⟨rfl, hI.below⟩⟩


theorem L30 (w0 : World) (p0 : Yl) (p1 : Rg) (r : (Int × Int × Int)) (hF : F30 p0 p1 = some r) : Does Try.prog 30 [.agg #[.int .i64 p0.lo, .int .i64 p0.hi, .int .i64 p0.toll], .agg #[.int .i64 p1.lo, .int .i64 p1.hi]] w0 fun v w => v = .tuple #[.agg #[.int .i64 r.1, .int .i64 r.2.1], .int .i64 r.2.2] ∧ Below w0.heap.size w0 w := by
 refine calls_of (n := 28) Try.func30 rfl Try.ntmps30 rfl ?_
 have hI := Inv.start w0
 unfold F30 at hF
 refine wp_seq (rgn (by kernel_rfl) (seq_c (s_boxI hI [iv p0.lo, iv p0.hi, iv p0.toll] rfl ?_)))
 intro b34 w hI
 refine seq_c (s_boxI hI [iv p1.lo, iv p1.hi] rfl ?_)
 intro b35 w hI
 refine seq_c (s_allocI hI [iv 0, iv 0] Try.zeroValue28 rfl ?_)
 intro b36 w hI
 refine pu (iv 0) (by kernel_rfl) (seq_nil (wp_seq (wp_seq (bindE hF (fun y49 hy50 hF => ?_)))))
 refine bindE hF (fun y51 hy52 hF => ?_)
 refine wp_drawn2 hI [0, 1, 2] (by decide) rfl (by kernel_rfl) (by kernel_rfl) ?_
 intro hsub
 refine al_light 0 (.agg #[iv p0.lo, iv p0.hi, iv p0.toll]) hsub rfl (by kernel_rfl) (fun w hI => s_loadK hI 2 3 [iv p0.lo, iv p0.hi, iv p0.toll] Try.isAgg30 Try.sizeOf30 rfl rfl rfl rfl ⟨rfl, Below.refl _ _⟩) ?_
 refine al_light 1 (.agg #[iv p1.lo, iv p1.hi]) hsub rfl (by kernel_rfl) (fun w hI => s_loadK hI 1 2 [iv p1.lo, iv p1.hi] Try.isAgg28 Try.sizeOf28 rfl rfl rfl rfl ⟨rfl, Below.refl _ _⟩) ?_
 refine al_light 2 (.bool y49) hsub rfl (by kernel_rfl) (fun w hI => s_call 69 [.agg #[iv p1.lo, iv p1.hi], iv 2000] (by kernel_rfl) (L69 _ p1 2000 _ hy50) (fun v' w' h => h)) ?_
 refine al_light 3 (iv y51) hsub rfl (by kernel_rfl) (fun w hI => s_call 73 [.agg #[iv p0.lo, iv p0.hi, iv p0.toll], .bool y49] (by kernel_rfl) (L73 _ p0 y49 _ hy52) (fun v' w' h => h)) ?_
 refine alp 4 (iv y51) hsub rfl (by kernel_rfl) (fun _ => (by kernel_rfl)) ?_
 refine any_end (by kernel_rfl) (fun w hI => ?_)
 refine wp_seq (rgn (by kernel_rfl) (pu (iv y51) (by kernel_rfl) (ifE hF (fun h8 hF => ?_) (fun h8 hF => ?_))))
 ·
  refine seq_c (s_neq rfl rfl (fun h => absurd (a := y51 = 0) h8 h) (fun _ => ?_))
  refine seq_nil (wp_condF rfl (wp_skip (wp_seq (rgn (by kernel_rfl) (seq_c (s_loadK hI 2 3 [iv p0.lo, iv p0.hi, iv p0.toll] Try.isAgg30 Try.sizeOf30 rfl rfl rfl rfl ?_))))))
  refine seq_c (s_loadK hI 1 2 [iv p1.lo, iv p1.hi] Try.isAgg28 Try.sizeOf28 rfl rfl rfl rfl ?_)
  refine bindE hF (fun y56 hy57 hF => ?_)
  refine seq_c (s_callv hI 74 [.agg #[iv p0.lo, iv p0.hi, iv p0.toll], .agg #[iv p1.lo, iv p1.hi]] (.agg #[iv y56.1, iv y56.2]) (by kernel_rfl) (L74 _ p0 p1 _ hy57) ?_)
  intro w hI
  refine seq_c (s_allocI hI [iv 0, iv 0] Try.zeroValue28 rfl ?_)
  intro b58 w hI
  refine seq_c (s_store hI 0 2 [iv y56.1, iv y56.2] Try.sizeOf28 rfl rfl rfl rfl rfl (Nat.le_of_ble_eq_true rfl) ?_)
  intro w hI
  refine seq_nil (wp_seq (bindE hF (fun y63 hy64 hF => ?_)))
  refine bindE hF (fun y65 hy66 hF => ?_)
  replace hI := hI.pickL [0, 2, 3, 1] (by decide) rfl
  refine wp_drawn2 hI [0, 1, 2] (by decide) rfl (by kernel_rfl) (by kernel_rfl) ?_
  intro hsub
  refine al_light 0 (.agg #[iv p0.lo, iv p0.hi, iv p0.toll]) hsub rfl (by kernel_rfl) (fun w hI => s_loadK hI 2 3 [iv p0.lo, iv p0.hi, iv p0.toll] Try.isAgg30 Try.sizeOf30 rfl rfl rfl rfl ⟨rfl, Below.refl _ _⟩) ?_
  refine alp 1 (.pointer (some ⟨b58, 0, none⟩)) hsub rfl (by kernel_rfl) (fun _ => (by kernel_rfl)) ?_
  refine al_light 2 (iv y56.1) hsub rfl (by kernel_rfl) (fun w hI => s_load1 hI 0 (iv y56.1) Try.isAgg3 rfl rfl rfl ⟨rfl, Below.refl _ _⟩) ?_
  refine al_light 3 (iv y63) hsub rfl (by kernel_rfl) (fun w hI => s_call 76 [.agg #[iv p0.lo, iv p0.hi, iv p0.toll], iv y56.1] (by kernel_rfl) (L76 _ p0 y56.1 _ hy64) (fun v' w' h => h)) ?_
  refine al_light 4 (.agg #[iv p0.lo, iv p0.hi, iv p0.toll]) hsub rfl (by kernel_rfl) (fun w hI => s_loadK hI 2 3 [iv p0.lo, iv p0.hi, iv p0.toll] Try.isAgg30 Try.sizeOf30 rfl rfl rfl rfl ⟨rfl, Below.refl _ _⟩) ?_
  refine alp 5 (.pointer (some ⟨b58, 1, none⟩)) hsub rfl (by kernel_rfl) (fun _ => (by kernel_rfl)) ?_
  refine al_light 6 (iv y56.2) hsub rfl (by kernel_rfl) (fun w hI => s_load1 hI 0 (iv y56.2) Try.isAgg3 rfl rfl rfl ⟨rfl, Below.refl _ _⟩) ?_
  refine al_light 7 (iv y65) hsub rfl (by kernel_rfl) (fun w hI => s_call 76 [.agg #[iv p0.lo, iv p0.hi, iv p0.toll], iv y56.2] (by kernel_rfl) (L76 _ p0 y56.2 _ hy66) (fun v' w' h => h)) ?_
  refine alp 8 (.agg #[iv y63, iv y65]) hsub rfl (by kernel_rfl) (fun _ => (by kernel_rfl)) ?_
  refine any_heavy [9] (by kernel_rfl) rfl (each1 ?_)
  intro w hI
  refine ol_c rfl (s_store hI 3 2 [iv y63, iv y65] Try.sizeOf28 rfl rfl rfl rfl rfl (Nat.le_of_ble_eq_true rfl) ?_)
  intro w hI
  refine ⟨_, hI, subk (fun _ h => h.pickL [0, 1, 2] (by decide) rfl) ?_⟩
  intro hsub
  refine alp 10 (iv 0) hsub rfl (by kernel_rfl) (fun _ => (by kernel_rfl)) ?_
  refine any_end (by kernel_rfl) (fun w hI => ?_)
  refine wp_ret ?_
  replace hF := Option.some.inj hF; subst hF
  exact ⟨.tuple #[.agg #[iv y63, iv y65], iv 0], Ret.ct rfl rfl (run_loadK hI 3 2 [iv y63, iv y65] Try.isAgg28 Try.sizeOf28 rfl rfl rfl) rfl, ⟨rfl, hI.below⟩⟩
 ·
  refine seq_c (s_neq rfl rfl (fun _ => ?_) (fun h => absurd (a := y51 = 0) h h8))
  refine seq_nil (wp_condT rfl (wp_seq (rgn (by kernel_rfl) (pu (.agg #[iv 0, iv 0]) (by kernel_rfl) (pu (iv y51) (by kernel_rfl) (seq_c (s_store hI 0 2 [iv 0, iv 0] Try.sizeOf28 rfl rfl rfl rfl rfl (Nat.le_of_ble_eq_true rfl) ?_)))))))
  intro w hI
  refine pu (iv y51) (by kernel_rfl) (seq_nil (wp_ret ?_))
  replace hF := Option.some.inj hF; subst hF
  exact ⟨.tuple #[.agg #[iv 0, iv 0], iv y51], Ret.ct rfl rfl (run_loadK hI 0 2 [iv 0, iv 0] Try.isAgg28 Try.sizeOf28 rfl rfl rfl) rfl, ⟨rfl, hI.below⟩⟩


theorem L101 (N : Nat) (w0 : World) (bY : Nat) (bBu : Nat) (yl : Int) (ylo : Int) (yhi : Int) (ytoll : Int) (bu : Int) (hL0 : Inv [bY, bBu] w0 w0 [(some bY, blk [.int .i64 ylo, .int .i64 yhi, .int .i64 ytoll] 30), (some bBu, blk [.int .i64 bu] 3)]) (r : Int) (hF : F101 N yl ylo yhi ytoll bu = some r) : Does Try.prog 101 [.int .i64 yl, .pointer (some ⟨bY, 0, none⟩), .pointer (some ⟨bBu, 0, none⟩)] w0 fun v w => v = .int .i64 r ∧ Inv [bY, bBu] w0 w [(some bY, blk [.int .i64 ylo, .int .i64 yhi, .int .i64 ytoll] 30), (some bBu, blk [.int .i64 bu] 3)] := by
 refine calls_of (n := 10) Try.func101 rfl Try.ntmps101 rfl ?_
 have hI : Inv [bY, bBu] w0 w0 [(some bY, blk [iv ylo, iv yhi, iv ytoll] 30), (some bBu, blk [iv bu] 3)] := hL0
 unfold F101 at hF
 refine wp_seq (rgn (by kernel_rfl) (pu (iv 0) (by kernel_rfl) (seq_nil (wp_seq (bindE hF (fun y5 hy6 hF => ?_))))))
 refine bindE hF (fun y7 hy8 hF => ?_)
 refine wp_drawn2 hI [0, 1] (by decide) rfl (by kernel_rfl) (by kernel_rfl) ?_
 intro hsub
 refine al_light 0 (.agg #[iv ylo, iv yhi, iv ytoll]) hsub rfl (by kernel_rfl) (fun w hI => s_loadK hI 0 3 [iv ylo, iv yhi, iv ytoll] Try.isAgg30 Try.sizeOf30 rfl rfl rfl rfl ⟨rfl, Below.refl _ _⟩) ?_
 refine alp 1 (iv yl) hsub rfl (by kernel_rfl) (fun _ => (by kernel_rfl)) ?_
 refine al_light 2 (iv bu) hsub rfl (by kernel_rfl) (fun w hI => s_load1 hI 1 (iv bu) Try.isAgg3 rfl rfl rfl ⟨rfl, Below.refl _ _⟩) ?_
 refine al_light 3 (iv y5) hsub rfl (by kernel_rfl) (fun w hI => s_call 100 [iv yl, iv bu] (by kernel_rfl) (L100 _ yl bu _ hy6) (fun v' w' h => h)) ?_
 refine al_light 4 (iv y7) hsub rfl (by kernel_rfl) (fun w hI => s_call 76 [.agg #[iv ylo, iv yhi, iv ytoll], iv y5] (by kernel_rfl) (L76 _ (⟨ylo, yhi, ytoll⟩ : Yl) y5 _ hy8) (fun v' w' h => h)) ?_
 refine alp 5 (iv y7) hsub rfl (by kernel_rfl) (fun _ => (by kernel_rfl)) ?_
 refine any_end (by kernel_rfl) (fun w hI => ?_)
 refine wp_ret ?_
 replace hF := Option.some.inj hF; subst hF
 exact ⟨iv y7, Ret.r1 rfl rfl, ⟨rfl, hI.pickL [0, 1] (by decide) rfl⟩⟩


theorem L102 (N : Nat) (w0 : World) (bG : Nat) (bY : Nat) (bBu : Nat) (bFl : Nat) (nn : Int) (ylo : Int) (yhi : Int) (ytoll : Int) (bu : Int) (flo : Int) (fhi : Int) (hL0 : Inv [bG, bY, bBu, bFl] w0 w0 [(some bG, blk [.func (.func 101) #[] #[.pointer (some ⟨bY, 0, none⟩), .pointer (some ⟨bBu, 0, none⟩)]] 107), (some bY, blk [.int .i64 ylo, .int .i64 yhi, .int .i64 ytoll] 30), (some bBu, blk [.int .i64 bu] 3), (some bFl, blk [.int .i64 flo, .int .i64 fhi] 28)]) (r : Int) (hF : F102 N nn ylo yhi ytoll bu flo fhi = some r) : Does Try.prog 102 [.int .i64 nn, .func (.func 103) #[] #[.pointer (some ⟨bG, 0, none⟩), .pointer (some ⟨bY, 0, none⟩), .pointer (some ⟨bFl, 0, none⟩)]] w0 fun v w => v = .int .i64 r ∧ Inv [bG, bY, bBu, bFl] w0 w [(some bG, blk [.func (.func 101) #[] #[.pointer (some ⟨bY, 0, none⟩), .pointer (some ⟨bBu, 0, none⟩)]] 107), (some bY, blk [.int .i64 ylo, .int .i64 yhi, .int .i64 ytoll] 30), (some bBu, blk [.int .i64 bu] 3), (some bFl, blk [.int .i64 flo, .int .i64 fhi] 28)] := by
 refine calls_of (n := 26) Try.func102 rfl Try.ntmps102 rfl ?_
 have hI : Inv [bG, bY, bBu, bFl] w0 w0 [(some bG, blk [.func (.func 101) #[] #[.pointer (some ⟨bY, 0, none⟩), .pointer (some ⟨bBu, 0, none⟩)]] 107), (some bY, blk [iv ylo, iv yhi, iv ytoll] 30), (some bBu, blk [iv bu] 3), (some bFl, blk [iv flo, iv fhi] 28)] := hL0
 unfold F102 at hF
 refine wp_seq (rgn (by kernel_rfl) (pu (iv 0) (by kernel_rfl) (seq_nil (wp_seq (rgn (by kernel_rfl) (pu (iv nn) (by kernel_rfl) (pu (iv 0) (by kernel_rfl) (pu (iv nn) (by kernel_rfl) (seq_nil ?_)))))))))
 refine wp_seq (wp_block ?_)
 refine wp_loop (fun m ρ w => ∃ (i_58 : Int) (j_59 : Int) (mm : Nat), Agree ρ [(1, .func (.func 103) #[] #[.pointer (some ⟨bG, 0, none⟩), .pointer (some ⟨bY, 0, none⟩), .pointer (some ⟨bFl, 0, none⟩)]), (5, iv i_58), (6, iv j_59)] ∧ Inv [bG, bY, bBu, bFl] w0 w [(some bG, blk [.func (.func 101) #[] #[.pointer (some ⟨bY, 0, none⟩), .pointer (some ⟨bBu, 0, none⟩)]] 107), (some bY, blk [iv ylo, iv yhi, iv ytoll] 30), (some bBu, blk [iv bu] 3), (some bFl, blk [iv flo, iv fhi] 28)] ∧ F102l1 ylo yhi ytoll bu flo N mm i_58 j_59 = some r ∧ mm = m) (m := N) ⟨0, nn, N, ⟨rfl, rfl, rfl, trivial⟩, hI.pickL [0, 1, 2, 3] (by decide) rfl, hF, rfl⟩ ?_
 rintro m ρ w ⟨i_58, j_59, mm, hag, hI, hF, hm⟩
 subst hm; obtain ⟨ρ, rfl⟩ := hag.form; clear hag
 obtain _ | m1 := mm
 ·cases (show (none : Option Int) = some r from hF)
 replace hF : F102b1 ylo yhi ytoll bu flo N (F102l1 ylo yhi ytoll bu flo N m1) i_58 j_59 = some r := hF; unfold F102b1 at hF
 refine wp_seq (wp_seq (rgn (by kernel_rfl) (pu (iv i_58) (by kernel_rfl) (pu (iv j_59) (by kernel_rfl) (ifE hF (fun h89 hF => ?_) (fun h89 hF => ?_))))))
 ·
  refine seq_c (s_lss rfl rfl (fun _ => ?_) (fun h => absurd (a := i_58 < j_59) h89 h))
  refine seq_nil (wp_condT rfl (wp_skip (wp_block ?_)))
  refine wp_seq (rgn (by kernel_rfl) (pu (iv i_58) (by kernel_rfl) (pu (iv j_59) (by kernel_rfl) (ckE hF (fun h90 hF => ?_)))))
  refine seq_c (s_add rfl rfl h90 ?_)
  refine gdE hF (fun h91 hF => ?_)
  refine seq_c (s_toU rfl rfl rfl h91.1 h91.2 ?_)
  refine seq_c (s_half rfl rfl ?_)
  refine seq_c (s_toI rfl rfl rfl (by omega) (by omega) ?_)
  refine pu (iv ((i_58 + j_59) / 2)) (by kernel_rfl) (seq_nil (wp_seq (rgn (by kernel_rfl) (pu (.func (.func 103) #[] #[.pointer (some ⟨bG, 0, none⟩), .pointer (some ⟨bY, 0, none⟩), .pointer (some ⟨bFl, 0, none⟩)]) (by kernel_rfl) (pu (iv ((i_58 + j_59) / 2)) (by kernel_rfl) (seq_c (s_callI 103 [iv ((i_58 + j_59) / 2), .pointer (some ⟨bG, 0, none⟩), .pointer (some ⟨bY, 0, none⟩), .pointer (some ⟨bFl, 0, none⟩)] (by kernel_rfl) ?_)))))))
  refine calls_of (n := 16) Try.func103 rfl Try.ntmps103 rfl ?_
  refine wp_seq (rgn (by kernel_rfl) (pu (.bool false) (by kernel_rfl) (seq_nil (wp_cutO (fun ρ w => ∃ (v67 : Bool), Agree ρ [(5, .bool v67)] ∧ Inv [bG, bY, bBu, bFl] w0 w [(some bG, blk [.func (.func 101) #[] #[.pointer (some ⟨bY, 0, none⟩), .pointer (some ⟨bBu, 0, none⟩)]] 107), (some bY, blk [iv ylo, iv yhi, iv ytoll] 30), (some bBu, blk [iv bu] 3), (some bFl, blk [iv flo, iv fhi] 28)] ∧ F102j2 (F102l1 ylo yhi ytoll bu flo N m1) i_58 j_59 v67 = some r) ?_ ?_))))
  ·
   refine ckE hF (fun h101 hF => ?_)
   refine bindE hF (fun y68 hy69 hF => ?_)
   refine ifE hF (fun h102 hF => ?_) (fun h102 hF => ?_)
   ·
    refine wp_drawn2 hI [0, 1, 2, 3] (by decide) rfl (by kernel_rfl) (by kernel_rfl) ?_
    intro hsub
    refine al_light 0 (.func (.func 101) #[] #[.pointer (some ⟨bY, 0, none⟩), .pointer (some ⟨bBu, 0, none⟩)]) hsub rfl (by kernel_rfl) (fun w hI => s_load1 hI 0 (.func (.func 101) #[] #[.pointer (some ⟨bY, 0, none⟩), .pointer (some ⟨bBu, 0, none⟩)]) Try.isAgg107 rfl rfl rfl ⟨rfl, Below.refl _ _⟩) ?_
    refine alp 1 (.pointer (some ⟨bY, 0, none⟩)) hsub rfl (by kernel_rfl) (fun _ => (by kernel_rfl)) ?_
    refine alp 2 (.pointer (some ⟨bY, 0, none⟩)) hsub rfl (by kernel_rfl) (fun _ => (by kernel_rfl)) ?_
    refine al_light 3 (iv ylo) hsub rfl (by kernel_rfl) (fun w hI => s_load1 hI 1 (iv ylo) Try.isAgg3 rfl rfl rfl ⟨rfl, Below.refl _ _⟩) ?_
    refine alp 4 (iv ((i_58 + j_59) / 2)) hsub rfl (by kernel_rfl) (fun _ => (by kernel_rfl)) ?_
    refine al_light 5 (iv (ylo + ((i_58 + j_59) / 2))) hsub rfl (by kernel_rfl) (fun w hI => s_add rfl rfl h101 ⟨rfl, Below.refl _ _⟩) ?_
    refine alp 7 (.pointer (some ⟨bFl, 0, none⟩)) hsub rfl (by kernel_rfl) (fun _ => (by kernel_rfl)) ?_
    refine al_light 8 (iv flo) hsub rfl (by kernel_rfl) (fun w hI => s_load1 hI 3 (iv flo) Try.isAgg3 rfl rfl rfl ⟨rfl, Below.refl _ _⟩) ?_
    refine any_heavy [6] (by kernel_rfl) rfl (each1 ?_)
    intro w hI
    refine ol_c rfl (s_call 101 [iv (ylo + ((i_58 + j_59) / 2)), .pointer (some ⟨bY, 0, none⟩), .pointer (some ⟨bBu, 0, none⟩)] (by kernel_rfl) (L101 N _ bY bBu (ylo + ((i_58 + j_59) / 2)) ylo yhi ytoll bu (hI.lend [1, 2] (by decide) rfl rfl) _ hy69) ?_)
    rintro v w ⟨hv, hN⟩
    subst hv
    have hI := hI.backsL [1, 2] [0, 3] (by decide) rfl rfl rfl hN; clear hN
    have hI : Inv [bG, bY, bBu, bFl] w0 w [(some bY, blk [iv ylo, iv yhi, iv ytoll] 30), (some bBu, blk [iv bu] 3), (some bG, blk [.func (.func 101) #[] #[.pointer (some ⟨bY, 0, none⟩), .pointer (some ⟨bBu, 0, none⟩)]] 107), (some bFl, blk [iv flo, iv fhi] 28)] := hI
    refine ⟨_, hI, subk (fun _ h => h.pickL [2, 0, 1, 3] (by decide) rfl) ?_⟩
    intro hsub
    refine al_light 9 (.bool true) hsub rfl (by kernel_rfl) (fun w hI => s_geq rfl rfl (fun _ => ⟨rfl, Below.refl _ _⟩) (fun h => absurd (a := flo ≤ y68) h102 h)) ?_
    refine alp 10 (.bool true) hsub rfl (by kernel_rfl) (fun _ => (by kernel_rfl)) ?_
    refine any_end (by kernel_rfl) (fun w hI => ?_)
    exact .inl ⟨rfl, ⟨true, ⟨rfl, trivial⟩, hI.pickL [2, 0, 1, 3] (by decide) rfl, hF⟩⟩
   ·
    refine wp_drawn2 hI [0, 1, 2, 3] (by decide) rfl (by kernel_rfl) (by kernel_rfl) ?_
    intro hsub
    refine al_light 0 (.func (.func 101) #[] #[.pointer (some ⟨bY, 0, none⟩), .pointer (some ⟨bBu, 0, none⟩)]) hsub rfl (by kernel_rfl) (fun w hI => s_load1 hI 0 (.func (.func 101) #[] #[.pointer (some ⟨bY, 0, none⟩), .pointer (some ⟨bBu, 0, none⟩)]) Try.isAgg107 rfl rfl rfl ⟨rfl, Below.refl _ _⟩) ?_
    refine alp 1 (.pointer (some ⟨bY, 0, none⟩)) hsub rfl (by kernel_rfl) (fun _ => (by kernel_rfl)) ?_
    refine alp 2 (.pointer (some ⟨bY, 0, none⟩)) hsub rfl (by kernel_rfl) (fun _ => (by kernel_rfl)) ?_
    refine al_light 3 (iv ylo) hsub rfl (by kernel_rfl) (fun w hI => s_load1 hI 1 (iv ylo) Try.isAgg3 rfl rfl rfl ⟨rfl, Below.refl _ _⟩) ?_
    refine alp 4 (iv ((i_58 + j_59) / 2)) hsub rfl (by kernel_rfl) (fun _ => (by kernel_rfl)) ?_
    refine al_light 5 (iv (ylo + ((i_58 + j_59) / 2))) hsub rfl (by kernel_rfl) (fun w hI => s_add rfl rfl h101 ⟨rfl, Below.refl _ _⟩) ?_
    refine alp 7 (.pointer (some ⟨bFl, 0, none⟩)) hsub rfl (by kernel_rfl) (fun _ => (by kernel_rfl)) ?_
    refine al_light 8 (iv flo) hsub rfl (by kernel_rfl) (fun w hI => s_load1 hI 3 (iv flo) Try.isAgg3 rfl rfl rfl ⟨rfl, Below.refl _ _⟩) ?_
    refine any_heavy [6] (by kernel_rfl) rfl (each1 ?_)
    intro w hI
    refine ol_c rfl (s_call 101 [iv (ylo + ((i_58 + j_59) / 2)), .pointer (some ⟨bY, 0, none⟩), .pointer (some ⟨bBu, 0, none⟩)] (by kernel_rfl) (L101 N _ bY bBu (ylo + ((i_58 + j_59) / 2)) ylo yhi ytoll bu (hI.lend [1, 2] (by decide) rfl rfl) _ hy69) ?_)
    rintro v w ⟨hv, hN⟩
    subst hv
    have hI := hI.backsL [1, 2] [0, 3] (by decide) rfl rfl rfl hN; clear hN
    have hI : Inv [bG, bY, bBu, bFl] w0 w [(some bY, blk [iv ylo, iv yhi, iv ytoll] 30), (some bBu, blk [iv bu] 3), (some bG, blk [.func (.func 101) #[] #[.pointer (some ⟨bY, 0, none⟩), .pointer (some ⟨bBu, 0, none⟩)]] 107), (some bFl, blk [iv flo, iv fhi] 28)] := hI
    refine ⟨_, hI, subk (fun _ h => h.pickL [2, 0, 1, 3] (by decide) rfl) ?_⟩
    intro hsub
    refine al_light 9 (.bool false) hsub rfl (by kernel_rfl) (fun w hI => s_geq rfl rfl (fun h => absurd (a := flo ≤ y68) h h102) (fun _ => ⟨rfl, Below.refl _ _⟩)) ?_
    refine alp 10 (.bool false) hsub rfl (by kernel_rfl) (fun _ => (by kernel_rfl)) ?_
    refine any_end (by kernel_rfl) (fun w hI => ?_)
    exact .inl ⟨rfl, ⟨false, ⟨rfl, trivial⟩, hI.pickL [2, 0, 1, 3] (by decide) rfl, hF⟩⟩
  ·intro ρ w hJ
   obtain ⟨v67, hag, hI, hF⟩ := hJ
   obtain ⟨ρ, rfl⟩ := hag.form; clear hag
   unfold F102j2 at hF
   refine wp_ret (⟨.bool v67, Ret.r1 rfl rfl, ?_⟩)
   refine ifE hF (fun h99 hF => ?_) (fun h99 hF => ?_)
   ·
    refine seq_c (s_not (a := true) (congrArg Value.bool h99) ?_)
    refine seq_nil (wp_condF rfl (rgn (by kernel_rfl) (pu (iv ((i_58 + j_59) / 2)) (by kernel_rfl) (pu (iv ((i_58 + j_59) / 2)) (by kernel_rfl) (seq_nil ?_)))))
    exact ⟨rfl, m1, Nat.lt_succ_self _, ⟨i_58, (i_58 + j_59) / 2, m1, ⟨rfl, rfl, rfl, trivial⟩, hI.pickL [0, 1, 2, 3] (by decide) rfl, hF, rfl⟩⟩
   ·
    refine seq_c (s_not (a := false) (congrArg Value.bool (Bool.eq_false_iff.2 h99)) ?_)
    refine seq_nil (wp_condT rfl (rgn (by kernel_rfl) (pu (iv ((i_58 + j_59) / 2)) (by kernel_rfl) (ckE hF (fun h100 hF => ?_)))))
    refine seq_c (s_add rfl rfl h100 ?_)
    refine pu (iv (((i_58 + j_59) / 2) + 1)) (by kernel_rfl) (seq_nil ?_)
    exact ⟨rfl, m1, Nat.lt_succ_self _, ⟨((i_58 + j_59) / 2) + 1, j_59, m1, ⟨rfl, rfl, rfl, trivial⟩, hI.pickL [0, 1, 2, 3] (by decide) rfl, hF, rfl⟩⟩
 ·
  refine seq_c (s_lss rfl rfl (fun h => absurd (a := i_58 < j_59) h h89) (fun _ => ?_))
  refine seq_nil (wp_condF rfl (wp_exit ?_))
  refine wp_seq (rgn (by kernel_rfl) (pu (iv i_58) (by kernel_rfl) (pu (iv i_58) (by kernel_rfl) (seq_nil (wp_ret ?_)))))
  replace hF := Option.some.inj hF; subst hF
  exact ⟨iv i_58, Ret.r1 rfl rfl, ⟨rfl, hI.pickL [0, 1, 2, 3] (by decide) rfl⟩⟩


theorem L78 (w0 : World) (p0 : Yl) (p1 : Int) (p2 : Rg) (N : Nat) (r : Bool) (hF : F78 N p0 p1 p2 = some r) : Does Try.prog 78 [.agg #[.int .i64 p0.lo, .int .i64 p0.hi, .int .i64 p0.toll], .int .i64 p1, .agg #[.int .i64 p2.lo, .int .i64 p2.hi]] w0 fun v w => v = .bool r ∧ Below w0.heap.size w0 w := by
 refine calls_of (n := 37) Try.func78 rfl Try.ntmps78 rfl ?_
 have hI := Inv.start w0
 unfold F78 at hF
 refine wp_seq (rgn (by kernel_rfl) (seq_c (s_boxI hI [iv p0.lo, iv p0.hi, iv p0.toll] rfl ?_)))
 intro b14 w hI
 refine seq_c (s_boxI hI [iv p1] rfl ?_)
 intro b15 w hI
 refine seq_c (s_boxI hI [iv p2.lo, iv p2.hi] rfl ?_)
 intro b16 w hI
 refine pu (.bool false) (by kernel_rfl) (seq_nil (wp_seq (rgn (by kernel_rfl) (pu (.func (.func 101) #[] #[.pointer (some ⟨b14, 0, none⟩), .pointer (some ⟨b15, 0, none⟩)]) (by kernel_rfl) (seq_c (s_allocI hI [.nilFunc] Try.zeroValue107 rfl ?_))))))
 intro b17 w hI
 refine seq_c (s_store hI 0 1 [.func (.func 101) #[] #[.pointer (some ⟨b14, 0, none⟩), .pointer (some ⟨b15, 0, none⟩)]] Try.sizeOf107 rfl rfl rfl rfl rfl (Nat.le_of_ble_eq_true rfl) ?_)
 intro w hI
 refine seq_nil (wp_seq (ckE hF (fun h14 hF => ?_)))
 refine ckE hF (fun h15 hF => ?_)
 refine bindE hF (fun y20 hy21 hF => ?_)
 refine ckE hF (fun h16 hF => ?_)
 refine wp_drawn2 hI [0, 1, 2, 3] (by decide) rfl (by kernel_rfl) (by kernel_rfl) ?_
 intro hsub
 refine alp 0 (.pointer (some ⟨b14, 0, none⟩)) hsub rfl (by kernel_rfl) (fun _ => (by kernel_rfl)) ?_
 refine alp 1 (.pointer (some ⟨b14, 0, none⟩)) hsub rfl (by kernel_rfl) (fun _ => (by kernel_rfl)) ?_
 refine al_light 2 (iv p0.lo) hsub rfl (by kernel_rfl) (fun w hI => s_load1 hI 3 (iv p0.lo) Try.isAgg3 rfl rfl rfl ⟨rfl, Below.refl _ _⟩) ?_
 refine alp 3 (.pointer (some ⟨b14, 0, none⟩)) hsub rfl (by kernel_rfl) (fun _ => (by kernel_rfl)) ?_
 refine alp 4 (.pointer (some ⟨b14, 1, none⟩)) hsub rfl (by kernel_rfl) (fun _ => (by kernel_rfl)) ?_
 refine al_light 5 (iv p0.hi) hsub rfl (by kernel_rfl) (fun w hI => s_load1 hI 3 (iv p0.hi) Try.isAgg3 rfl rfl rfl ⟨rfl, Below.refl _ _⟩) ?_
 refine alp 6 (.pointer (some ⟨b14, 0, none⟩)) hsub rfl (by kernel_rfl) (fun _ => (by kernel_rfl)) ?_
 refine alp 7 (.pointer (some ⟨b14, 0, none⟩)) hsub rfl (by kernel_rfl) (fun _ => (by kernel_rfl)) ?_
 refine al_light 8 (iv p0.lo) hsub rfl (by kernel_rfl) (fun w hI => s_load1 hI 3 (iv p0.lo) Try.isAgg3 rfl rfl rfl ⟨rfl, Below.refl _ _⟩) ?_
 refine al_light 9 (iv (p0.hi - p0.lo)) hsub rfl (by kernel_rfl) (fun w hI => s_sub rfl rfl h14 ⟨rfl, Below.refl _ _⟩) ?_
 refine al_light 10 (iv ((p0.hi - p0.lo) + 1)) hsub rfl (by kernel_rfl) (fun w hI => s_add rfl rfl h15 ⟨rfl, Below.refl _ _⟩) ?_
 refine alp 11 (.func (.func 103) #[] #[.pointer (some ⟨b17, 0, none⟩), .pointer (some ⟨b14, 0, none⟩), .pointer (some ⟨b16, 0, none⟩)]) hsub rfl (by kernel_rfl) (fun _ => (by kernel_rfl)) ?_
 refine any_heavy [12] (by kernel_rfl) rfl (each1 ?_)
 intro w hI
 refine ol_c rfl (s_call 102 [iv ((p0.hi - p0.lo) + 1), .func (.func 103) #[] #[.pointer (some ⟨b17, 0, none⟩), .pointer (some ⟨b14, 0, none⟩), .pointer (some ⟨b16, 0, none⟩)]] (by kernel_rfl) (L102 N _ b17 b14 b15 b16 ((p0.hi - p0.lo) + 1) p0.lo p0.hi p0.toll p1 p2.lo p2.hi (hI.lend [0, 3, 2, 1] (by decide) rfl rfl) _ hy21) ?_)
 rintro v w ⟨hv, hN⟩
 subst hv
 have hI := hI.backsL [0, 3, 2, 1] [] (by decide) rfl rfl rfl hN; clear hN
 refine ⟨_, hI, subk (fun _ h => h.pickL [0, 3, 2, 1] (by decide) rfl) ?_⟩
 intro hsub
 refine al_light 13 (iv (p0.lo + y20)) hsub rfl (by kernel_rfl) (fun w hI => s_add rfl rfl h16 ⟨rfl, Below.refl _ _⟩) ?_
 refine alp 14 (iv (p0.lo + y20)) hsub rfl (by kernel_rfl) (fun _ => (by kernel_rfl)) ?_
 refine any_end (by kernel_rfl) (fun w hI => ?_)
 refine wp_seq (ifE hF (fun h19 hF => ?_) (fun h19 hF => ?_))
 ·
  refine bindE hF (fun y25 hy26 hF => ?_)
  refine ifE hF (fun h20 hF => ?_) (fun h20 hF => ?_)
  ·
   refine wp_drawn2 hI [0, 1, 2, 3] (by decide) rfl (by kernel_rfl) (by kernel_rfl) ?_
   intro hsub
   refine alp 0 (iv (p0.lo + y20)) hsub rfl (by kernel_rfl) (fun _ => (by kernel_rfl)) ?_
   refine alp 1 (.pointer (some ⟨b14, 0, none⟩)) hsub rfl (by kernel_rfl) (fun _ => (by kernel_rfl)) ?_
   refine alp 2 (.pointer (some ⟨b14, 1, none⟩)) hsub rfl (by kernel_rfl) (fun _ => (by kernel_rfl)) ?_
   refine al_light 3 (iv p0.hi) hsub rfl (by kernel_rfl) (fun w hI => s_load1 hI 1 (iv p0.hi) Try.isAgg3 rfl rfl rfl ⟨rfl, Below.refl _ _⟩) ?_
   refine al_light 4 (.bool true) hsub rfl (by kernel_rfl) (fun w hI => s_leq rfl rfl (fun _ => ⟨rfl, Below.refl _ _⟩) (fun h => absurd (a := (p0.lo + y20) ≤ p0.hi) h19 h)) ?_
   refine alp 5 (.bool true) hsub rfl (by kernel_rfl) (fun _ => (by kernel_rfl)) ?_
   refine al_on 6 (.func (.func 101) #[] #[.pointer (some ⟨b14, 0, none⟩), .pointer (some ⟨b15, 0, none⟩)]) hsub rfl (by kernel_rfl) (by kernel_rfl) (fun w hI => s_load1 hI 0 (.func (.func 101) #[] #[.pointer (some ⟨b14, 0, none⟩), .pointer (some ⟨b15, 0, none⟩)]) Try.isAgg107 rfl rfl rfl ⟨rfl, Below.refl _ _⟩) ?_
   refine al_on 7 (iv (p0.lo + y20)) hsub rfl (by kernel_rfl) (by kernel_rfl) (fun w hI => s_pure (iv (p0.lo + y20)) (by kernel_rfl) ⟨rfl, Below.refl _ _⟩) ?_
   refine al_on 9 (.pointer (some ⟨b16, 1, none⟩)) hsub rfl (by kernel_rfl) (by kernel_rfl) (fun w hI => s_pure (.pointer (some ⟨b16, 1, none⟩)) (by kernel_rfl) ⟨rfl, Below.refl _ _⟩) ?_
   refine al_on 10 (iv p2.hi) hsub rfl (by kernel_rfl) (by kernel_rfl) (fun w hI => s_load1 hI 3 (iv p2.hi) Try.isAgg3 rfl rfl rfl ⟨rfl, Below.refl _ _⟩) ?_
   refine any_heavy [8] (by kernel_rfl) rfl (each1 ?_)
   intro w hI
   refine ol_on rfl (by kernel_rfl) (s_call 101 [iv (p0.lo + y20), .pointer (some ⟨b14, 0, none⟩), .pointer (some ⟨b15, 0, none⟩)] (by kernel_rfl) (L101 N _ b14 b15 (p0.lo + y20) p0.lo p0.hi p0.toll p1 (hI.lend [1, 2] (by decide) rfl rfl) _ hy26) ?_)
   rintro v w ⟨hv, hN⟩
   subst hv
   have hI := hI.backsL [1, 2] [0, 3] (by decide) rfl rfl rfl hN; clear hN
   refine ⟨_, hI, subk (fun _ h => h.pickL [2, 0, 1, 3] (by decide) rfl) ?_⟩
   intro hsub
   refine al_on 11 (.bool true) hsub rfl (by kernel_rfl) (by kernel_rfl) (fun w hI => s_leq rfl rfl (fun _ => ⟨rfl, Below.refl _ _⟩) (fun h => absurd (a := y25 ≤ p2.hi) h20 h)) ?_
   refine alp 12 (.bool true) hsub rfl (by kernel_rfl) (fun _ => (by kernel_rfl)) ?_
   refine alp 13 (.bool true) hsub rfl (by kernel_rfl) (fun _ => (by kernel_rfl)) ?_
   refine any_end (by kernel_rfl) (fun w hI => ?_)
   refine wp_ret ?_
   replace hF := Option.some.inj hF; subst hF
   exact ⟨.bool true, Ret.r1 rfl rfl, ⟨rfl, hI.below⟩⟩
  ·
   refine wp_drawn2 hI [0, 1, 2, 3] (by decide) rfl (by kernel_rfl) (by kernel_rfl) ?_
   intro hsub
   refine alp 0 (iv (p0.lo + y20)) hsub rfl (by kernel_rfl) (fun _ => (by kernel_rfl)) ?_
   refine alp 1 (.pointer (some ⟨b14, 0, none⟩)) hsub rfl (by kernel_rfl) (fun _ => (by kernel_rfl)) ?_
   refine alp 2 (.pointer (some ⟨b14, 1, none⟩)) hsub rfl (by kernel_rfl) (fun _ => (by kernel_rfl)) ?_
   refine al_light 3 (iv p0.hi) hsub rfl (by kernel_rfl) (fun w hI => s_load1 hI 1 (iv p0.hi) Try.isAgg3 rfl rfl rfl ⟨rfl, Below.refl _ _⟩) ?_
   refine al_light 4 (.bool true) hsub rfl (by kernel_rfl) (fun w hI => s_leq rfl rfl (fun _ => ⟨rfl, Below.refl _ _⟩) (fun h => absurd (a := (p0.lo + y20) ≤ p0.hi) h19 h)) ?_
   refine alp 5 (.bool true) hsub rfl (by kernel_rfl) (fun _ => (by kernel_rfl)) ?_
   refine al_on 6 (.func (.func 101) #[] #[.pointer (some ⟨b14, 0, none⟩), .pointer (some ⟨b15, 0, none⟩)]) hsub rfl (by kernel_rfl) (by kernel_rfl) (fun w hI => s_load1 hI 0 (.func (.func 101) #[] #[.pointer (some ⟨b14, 0, none⟩), .pointer (some ⟨b15, 0, none⟩)]) Try.isAgg107 rfl rfl rfl ⟨rfl, Below.refl _ _⟩) ?_
   refine al_on 7 (iv (p0.lo + y20)) hsub rfl (by kernel_rfl) (by kernel_rfl) (fun w hI => s_pure (iv (p0.lo + y20)) (by kernel_rfl) ⟨rfl, Below.refl _ _⟩) ?_
   refine al_on 9 (.pointer (some ⟨b16, 1, none⟩)) hsub rfl (by kernel_rfl) (by kernel_rfl) (fun w hI => s_pure (.pointer (some ⟨b16, 1, none⟩)) (by kernel_rfl) ⟨rfl, Below.refl _ _⟩) ?_
   refine al_on 10 (iv p2.hi) hsub rfl (by kernel_rfl) (by kernel_rfl) (fun w hI => s_load1 hI 3 (iv p2.hi) Try.isAgg3 rfl rfl rfl ⟨rfl, Below.refl _ _⟩) ?_
   refine any_heavy [8] (by kernel_rfl) rfl (each1 ?_)
   intro w hI
   refine ol_on rfl (by kernel_rfl) (s_call 101 [iv (p0.lo + y20), .pointer (some ⟨b14, 0, none⟩), .pointer (some ⟨b15, 0, none⟩)] (by kernel_rfl) (L101 N _ b14 b15 (p0.lo + y20) p0.lo p0.hi p0.toll p1 (hI.lend [1, 2] (by decide) rfl rfl) _ hy26) ?_)
   rintro v w ⟨hv, hN⟩
   subst hv
   have hI := hI.backsL [1, 2] [0, 3] (by decide) rfl rfl rfl hN; clear hN
   refine ⟨_, hI, subk (fun _ h => h.pickL [2, 0, 1, 3] (by decide) rfl) ?_⟩
   intro hsub
   refine al_on 11 (.bool false) hsub rfl (by kernel_rfl) (by kernel_rfl) (fun w hI => s_leq rfl rfl (fun h => absurd (a := y25 ≤ p2.hi) h h20) (fun _ => ⟨rfl, Below.refl _ _⟩)) ?_
   refine alp 12 (.bool false) hsub rfl (by kernel_rfl) (fun _ => (by kernel_rfl)) ?_
   refine alp 13 (.bool false) hsub rfl (by kernel_rfl) (fun _ => (by kernel_rfl)) ?_
   refine any_end (by kernel_rfl) (fun w hI => ?_)
   refine wp_ret ?_
   replace hF := Option.some.inj hF; subst hF
   exact ⟨.bool false, Ret.r1 rfl rfl, ⟨rfl, hI.below⟩⟩
 ·
  refine wp_drawn2 hI [0, 1, 2, 3] (by decide) rfl (by kernel_rfl) (by kernel_rfl) ?_
  intro hsub
  refine alp 0 (iv (p0.lo + y20)) hsub rfl (by kernel_rfl) (fun _ => (by kernel_rfl)) ?_
  refine alp 1 (.pointer (some ⟨b14, 0, none⟩)) hsub rfl (by kernel_rfl) (fun _ => (by kernel_rfl)) ?_
  refine alp 2 (.pointer (some ⟨b14, 1, none⟩)) hsub rfl (by kernel_rfl) (fun _ => (by kernel_rfl)) ?_
  refine al_light 3 (iv p0.hi) hsub rfl (by kernel_rfl) (fun w hI => s_load1 hI 1 (iv p0.hi) Try.isAgg3 rfl rfl rfl ⟨rfl, Below.refl _ _⟩) ?_
  refine al_light 4 (.bool false) hsub rfl (by kernel_rfl) (fun w hI => s_leq rfl rfl (fun h => absurd (a := (p0.lo + y20) ≤ p0.hi) h h19) (fun _ => ⟨rfl, Below.refl _ _⟩)) ?_
  refine alp 5 (.bool false) hsub rfl (by kernel_rfl) (fun _ => (by kernel_rfl)) ?_
  refine al_off 6 hsub rfl (by kernel_rfl) (by kernel_rfl) ?_
  refine al_off 7 hsub rfl (by kernel_rfl) (by kernel_rfl) ?_
  refine al_off 8 hsub rfl (by kernel_rfl) (by kernel_rfl) ?_
  refine al_off 9 hsub rfl (by kernel_rfl) (by kernel_rfl) ?_
  refine al_off 10 hsub rfl (by kernel_rfl) (by kernel_rfl) ?_
  refine al_off 11 hsub rfl (by kernel_rfl) (by kernel_rfl) ?_
  refine alp 12 (.bool false) hsub rfl (by kernel_rfl) (fun _ => (by kernel_rfl)) ?_
  refine alp 13 (.bool false) hsub rfl (by kernel_rfl) (fun _ => (by kernel_rfl)) ?_
  refine any_end (by kernel_rfl) (fun w hI => ?_)
  refine wp_ret ?_
  replace hF := Option.some.inj hF; subst hF
  exact ⟨.bool false, Ret.r1 rfl rfl, ⟨rfl, hI.below⟩⟩


theorem L32 (w0 : World) (p0 : Yl) (p1 : Rg) (N : Nat) (r : (Int × Int × Int)) (hF : F32 N p0 p1 = some r) : Does Try.prog 32 [.agg #[.int .i64 p0.lo, .int .i64 p0.hi, .int .i64 p0.toll], .agg #[.int .i64 p1.lo, .int .i64 p1.hi]] w0 fun v w => v = .tuple #[.agg #[.int .i64 r.1, .int .i64 r.2.1], .int .i64 r.2.2] ∧ Below w0.heap.size w0 w := by
 refine calls_of (n := 43) Try.func32 rfl Try.ntmps32 rfl ?_
 have hI := Inv.start w0
 unfold F32 at hF
 refine wp_seq (rgn (by kernel_rfl) (seq_c (s_boxI hI [iv p0.lo, iv p0.hi, iv p0.toll] rfl ?_)))
 intro b207 w hI
 refine seq_c (s_boxI hI [iv p1.lo, iv p1.hi] rfl ?_)
 intro b208 w hI
 refine seq_c (s_allocI hI [iv 0, iv 0] Try.zeroValue28 rfl ?_)
 intro b209 w hI
 refine pu (iv 0) (by kernel_rfl) (seq_nil (wp_seq (wp_seq (bindE hF (fun y222 hy223 hF => ?_)))))
 refine bindE hF (fun y224 hy225 hF => ?_)
 refine wp_drawn2 hI [0, 1, 2] (by decide) rfl (by kernel_rfl) (by kernel_rfl) ?_
 intro hsub
 refine al_light 0 (.agg #[iv p0.lo, iv p0.hi, iv p0.toll]) hsub rfl (by kernel_rfl) (fun w hI => s_loadK hI 2 3 [iv p0.lo, iv p0.hi, iv p0.toll] Try.isAgg30 Try.sizeOf30 rfl rfl rfl rfl ⟨rfl, Below.refl _ _⟩) ?_
 refine al_light 1 (.agg #[iv p1.lo, iv p1.hi]) hsub rfl (by kernel_rfl) (fun w hI => s_loadK hI 1 2 [iv p1.lo, iv p1.hi] Try.isAgg28 Try.sizeOf28 rfl rfl rfl rfl ⟨rfl, Below.refl _ _⟩) ?_
 refine al_light 2 (.bool y222) hsub rfl (by kernel_rfl) (fun w hI => s_call 69 [.agg #[iv p1.lo, iv p1.hi], iv 20000] (by kernel_rfl) (L69 _ p1 20000 _ hy223) (fun v' w' h => h)) ?_
 refine al_light 3 (iv y224) hsub rfl (by kernel_rfl) (fun w hI => s_call 73 [.agg #[iv p0.lo, iv p0.hi, iv p0.toll], .bool y222] (by kernel_rfl) (L73 _ p0 y222 _ hy225) (fun v' w' h => h)) ?_
 refine alp 4 (iv y224) hsub rfl (by kernel_rfl) (fun _ => (by kernel_rfl)) ?_
 refine any_end (by kernel_rfl) (fun w hI => ?_)
 refine wp_seq (rgn (by kernel_rfl) (pu (iv y224) (by kernel_rfl) (ifE hF (fun h64 hF => ?_) (fun h64 hF => ?_))))
 ·
  refine seq_c (s_neq rfl rfl (fun h => absurd (a := y224 = 0) h64 h) (fun _ => ?_))
  refine seq_nil (wp_condF rfl (wp_skip (wp_seq (rgn (by kernel_rfl) (pu (.slice none 0 0) (by kernel_rfl) (seq_nil (wp_cutO (fun ρ w => ∃ (g308 : Option Nat) (c309 : Nat) (cl310 : List Value) (told_307 : List Int), Agree ρ [(4, .pointer (some ⟨b209, 0, none⟩)), (7, slv g308 told_307.length c309)] ∧ Inv [] w0 w [(some b209, blk [iv 0, iv 0] 28), (g308, blk cl310 3)] ∧ (Row 1 g308 (told_307.length) c309 cl310 (flat eInt told_307)) ∧ F32j1 told_307 = some r) ?_ ?_)))))))
  ·
   refine wp_seq (rgn (by kernel_rfl) (pu (iv 0) (by kernel_rfl) (seq_nil (wp_block ?_))))
   have hI := hI.nilRow 3
   refine wp_loop (fun m ρ w => ∃ (g385 : Option Nat) (c386 : Nat) (cl387 : List Value) (told_384 : List Int) (v389 : Int) (mm : Nat), Agree ρ [(2, .pointer (some ⟨b207, 0, none⟩)), (3, .pointer (some ⟨b208, 0, none⟩)), (4, .pointer (some ⟨b209, 0, none⟩)), (7, slv g385 told_384.length c386), (17, iv v389)] ∧ Inv [] w0 w [(some b207, blk [iv p0.lo, iv p0.hi, iv p0.toll] 30), (some b208, blk [iv p1.lo, iv p1.hi] 28), (some b209, blk [iv 0, iv 0] 28), (g385, blk cl387 3)] ∧ (Row 1 g385 (told_384.length) c386 cl387 (flat eInt told_384)) ∧ F32l2 p0 p1 N mm told_384 v389 = some r ∧ mm = m) (m := N) ⟨none, 0, [], [], 0, N, ⟨rfl, rfl, rfl, rfl, rfl, trivial⟩, hI.pickL [3, 2, 1, 0] (by decide) rfl, (Row.nil_ 1), hF, rfl⟩ ?_
   rintro m ρ w ⟨g385, c386, cl387, told_384, v389, mm, hag, hI, r388, hF, hm⟩
   subst hm; obtain ⟨ρ, rfl⟩ := hag.form; clear hag
   obtain _ | m2 := mm
   ·cases (show (none : Option (Int × Int × Int)) = some r from hF)
   replace hF : F32b2 p0 p1 N (F32l2 p0 p1 N m2) told_384 v389 = some r := hF; unfold F32b2 at hF
   refine wp_seq (rgn (by kernel_rfl) (ifE hF (fun h113 hF => ?_) (fun h113 hF => ?_)))
   ·
    refine seq_c (s_lss rfl rfl (fun _ => ?_) (fun h => absurd (a := v389 < 2001) h113 h))
    refine seq_nil (wp_seq (wp_condT rfl (wp_skip (wp_cutO (fun ρ w => ∃ (g400 : Option Nat) (c401 : Nat) (cl402 : List Value) (told_399 : List Int), Agree ρ [(2, .pointer (some ⟨b207, 0, none⟩)), (3, .pointer (some ⟨b208, 0, none⟩)), (4, .pointer (some ⟨b209, 0, none⟩)), (7, slv g400 told_399.length c401), (17, iv v389)] ∧ Inv [] w0 w [(some b207, blk [iv p0.lo, iv p0.hi, iv p0.toll] 30), (some b208, blk [iv p1.lo, iv p1.hi] 28), (some b209, blk [iv 0, iv 0] 28), (g400, blk cl402 3)] ∧ (Row 1 g400 (told_399.length) c401 cl402 (flat eInt told_399)) ∧ F32j3 (F32l2 p0 p1 N m2) v389 told_399 = some r) ?_ ?_))))
    ·
     refine wp_block ?_
     refine wp_seq (rgn (by kernel_rfl) (pu (iv v389) (by kernel_rfl) (pu (iv v389) (by kernel_rfl) (seq_nil (wp_seq (rgn (by kernel_rfl) (seq_c (s_loadK hI 0 3 [iv p0.lo, iv p0.hi, iv p0.toll] Try.isAgg30 Try.sizeOf30 rfl rfl rfl rfl ?_))))))))
     refine pu (iv v389) (by kernel_rfl) (seq_c (s_loadK hI 1 2 [iv p1.lo, iv p1.hi] Try.isAgg28 Try.sizeOf28 rfl rfl rfl rfl ?_))
     refine bindE hF (fun y406 hy407 hF => ?_)
     refine ifE hF (fun h119 hF => ?_) (fun h119 hF => ?_)
     ·
      refine seq_c (s_callv hI 78 [.agg #[iv p0.lo, iv p0.hi, iv p0.toll], iv v389, .agg #[iv p1.lo, iv p1.hi]] (.bool true) (by kernel_rfl) (Does.mono (L78 _ p0 v389 p1 N _ hy407) (fun v' w' h => ⟨h.1.trans (congrArg Value.bool h119), h.2⟩)) ?_)
      intro w hI
      refine seq_nil (wp_condT rfl (rgn (by kernel_rfl) (pu (slv g385 told_384.length c386) (by kernel_rfl) (pu (iv v389) (by kernel_rfl) (seq_c (s_new hI [iv v389] 3 (fun b => slv (some b) 1 1) (by kernel_rfl) ?_))))))
      intro b408 w hI
      refine gdE hF (fun h120 hF => ?_)
      refine seq_c (s_appN hI Try.underlying49 (z := iv 0) (k := 1) (bytes := 8) (by kernel_rfl) rfl rfl 4 rfl rfl r388 [iv v389] rfl rfl (hI.cells 0 (off := 0) rfl (fun j u h => by rw [Nat.zero_add]; exact h)) (by simp [Value.oneCell']) (by omega) (by omega) (n2 := (told_384 ++ [v389]).length) (app_len rfl rfl) ?_)
      intro g409 c410 cl411 w hI r412
      have r412 : Row 1 g409 ((told_384 ++ [v389]).length) c410 cl411 (flat eInt (told_384 ++ [v389])) := r412.snoc _ rfl
      refine pu (slv g409 ((told_384 ++ [v389]).length) c410) (by kernel_rfl) (seq_nil ?_)
      exact .inl ⟨rfl, ⟨g409, c410, cl411, told_384 ++ [v389], ⟨rfl, rfl, rfl, rfl, rfl, trivial⟩, hI.pickL [1, 2, 3, 4] (by decide) rfl, (r412.to rfl rfl), hF⟩⟩
     ·
      refine seq_c (s_callv hI 78 [.agg #[iv p0.lo, iv p0.hi, iv p0.toll], iv v389, .agg #[iv p1.lo, iv p1.hi]] (.bool false) (by kernel_rfl) (Does.mono (L78 _ p0 v389 p1 N _ hy407) (fun v' w' h => ⟨h.1.trans (congrArg Value.bool (Bool.eq_false_iff.2 h119)), h.2⟩)) ?_)
      intro w hI
      refine seq_nil (wp_condF rfl (wp_skip ?_))
      exact .inl ⟨rfl, ⟨g385, c386, cl387, told_384, ⟨rfl, rfl, rfl, rfl, rfl, trivial⟩, hI.pickL [0, 1, 2, 3] (by decide) rfl, (r388.to rfl rfl), hF⟩⟩
    ·intro ρ w hJ
     obtain ⟨g400, c401, cl402, told_399, hag, hI, r403, hF⟩ := hJ
     obtain ⟨ρ, rfl⟩ := hag.form; clear hag
     unfold F32j3 at hF
     refine rgn (by kernel_rfl) (ckE hF (fun h117 hF => ?_))
     refine seq_c (s_add rfl rfl h117 ?_)
     refine pu (iv (v389 + 1)) (by kernel_rfl) (seq_nil ?_)
     exact ⟨rfl, m2, Nat.lt_succ_self _, ⟨g400, c401, cl402, told_399, v389 + 1, m2, ⟨rfl, rfl, rfl, rfl, rfl, trivial⟩, hI.pickL [0, 1, 2, 3] (by decide) rfl, (r403.to rfl rfl), hF, rfl⟩⟩
   ·
    refine seq_c (s_lss rfl rfl (fun h => absurd (a := v389 < 2001) h h113) (fun _ => ?_))
    refine seq_nil (wp_seq (wp_condF rfl (wp_exit ?_)))
    exact .inl ⟨rfl, ⟨g385, c386, cl387, told_384, ⟨rfl, rfl, trivial⟩, hI.pickL [2, 3] (by decide) rfl, (r388.to rfl rfl), hF⟩⟩
  ·intro ρ w hJ
   obtain ⟨g308, c309, cl310, told_307, hag, hI, r311, hF⟩ := hJ
   obtain ⟨ρ, rfl⟩ := hag.form; clear hag
   unfold F32j1 at hF
   refine wp_seq (wp_seq (rgn (by kernel_rfl) (pu (slv g308 told_307.length c309) (by kernel_rfl) (pu (iv ((told_307.length : Nat) : Int)) (by kernel_rfl) (ifE hF (fun h92 hF => ?_) (fun h92 hF => ?_))))))
   ·
    refine seq_c (s_eql rfl rfl (fun _ => ?_) (fun h => absurd (a := (told_307.length : Int) = 0) h92 h))
    refine seq_nil (wp_condT rfl (wp_seq (rgn (by kernel_rfl) (pu (.agg #[iv 0, iv 0]) (by kernel_rfl) (seq_c (s_store hI 0 2 [iv 0, iv 0] Try.sizeOf28 rfl rfl rfl rfl rfl (Nat.le_of_ble_eq_true rfl) ?_))))))
    intro w hI
    refine pu (iv 3) (by kernel_rfl) (seq_nil (wp_ret ?_))
    replace hF := Option.some.inj hF; subst hF
    exact ⟨.tuple #[.agg #[iv 0, iv 0], iv 3], Ret.ct rfl rfl (run_loadK hI 0 2 [iv 0, iv 0] Try.isAgg28 Try.sizeOf28 rfl rfl rfl) rfl, ⟨rfl, hI.below⟩⟩
   ·
    refine seq_c (s_eql rfl rfl (fun h => absurd (a := (told_307.length : Int) = 0) h h92) (fun _ => ?_))
    refine seq_nil (wp_condF rfl (wp_skip (wp_seq (bindE hF (fun x322 hx323 hF => ?_)))))
    refine ckE hF (fun h95 hF => ?_)
    refine gdE hF (fun h96 hF => ?_)
    refine bindE hF (fun x326 hx327 hF => ?_)
    replace hI := hI.pickL [1, 0] (by decide) rfl
    refine wp_drawn2 hI [0] (by decide) rfl (by kernel_rfl) (by kernel_rfl) ?_
    intro hsub
    refine alp 0 (slv g308 told_307.length c309) hsub rfl (by kernel_rfl) (fun _ => (by kernel_rfl)) ?_
    obtain ⟨b329, rfl, he330⟩ := r311.at_ eInt_len (by decide) hx323
    refine al_light 1 (.pointer (some ⟨b329, 0 * 1, none⟩)) hsub rfl (by kernel_rfl) (fun w hI => s_indexR 0 Try.underlying49 Try.sizeOf3 rfl rfl rfl (lt_n hx323 rfl) ⟨rfl, Below.refl _ _⟩) ?_
    refine al_light 2 (iv x322) hsub rfl (by kernel_rfl) (fun w hI => s_loadR1 hI 0 (iv x322) Try.isAgg3 rfl rfl (he330 0 _ rfl) ⟨rfl, Below.refl _ _⟩) ?_
    refine alp 3 (slv (some b329) told_307.length c309) hsub rfl (by kernel_rfl) (fun _ => (by kernel_rfl)) ?_
    refine alp 4 (slv (some b329) told_307.length c309) hsub rfl (by kernel_rfl) (fun _ => (by kernel_rfl)) ?_
    refine al_light 5 (iv (told_307.length : Int)) hsub rfl (by kernel_rfl) (fun w hI => s_pure (iv ((told_307.length : Nat) : Int)) (by kernel_rfl) ⟨rfl, Below.refl _ _⟩) ?_
    refine al_light 6 (iv ((told_307.length : Int) - 1)) hsub rfl (by kernel_rfl) (fun w hI => s_sub rfl rfl h95 ⟨rfl, Below.refl _ _⟩) ?_
    have he331 := r311.atS eInt_len (by decide) hx327
    refine al_light 7 (.pointer (some ⟨b329, (((told_307.length : Int) - 1).toNat) * 1, none⟩)) hsub rfl (by kernel_rfl) (fun w hI => s_indexR (((told_307.length : Int) - 1).toNat) Try.underlying49 Try.sizeOf3 rfl rfl (Int.toNat_of_nonneg h96).symm (lt_n hx327 rfl) ⟨rfl, Below.refl _ _⟩) ?_
    refine al_light 8 (iv x326) hsub rfl (by kernel_rfl) (fun w hI => s_loadR1 hI 0 (iv x326) Try.isAgg3 rfl rfl (he331 0 _ rfl) ⟨rfl, Below.refl _ _⟩) ?_
    refine alp 9 (.agg #[iv x322, iv x326]) hsub rfl (by kernel_rfl) (fun _ => (by kernel_rfl)) ?_
    refine any_heavy [10] (by kernel_rfl) rfl (each1 ?_)
    intro w hI
    refine ol_c rfl (s_store hI 1 2 [iv x322, iv x326] Try.sizeOf28 rfl rfl rfl rfl rfl (Nat.le_of_ble_eq_true rfl) ?_)
    intro w hI
    refine ⟨_, hI, subk (fun _ h => h.pickL [0] (by decide) rfl) ?_⟩
    intro hsub
    refine alp 11 (iv 0) hsub rfl (by kernel_rfl) (fun _ => (by kernel_rfl)) ?_
    refine any_end (by kernel_rfl) (fun w hI => ?_)
    refine wp_ret ?_
    replace hF := Option.some.inj hF; subst hF
    exact ⟨.tuple #[.agg #[iv x322, iv x326], iv 0], Ret.ct rfl rfl (run_loadK hI 1 2 [iv x322, iv x326] Try.isAgg28 Try.sizeOf28 rfl rfl rfl) rfl, ⟨rfl, hI.below⟩⟩
 ·
  refine seq_c (s_neq rfl rfl (fun _ => ?_) (fun h => absurd (a := y224 = 0) h h64))
  refine seq_nil (wp_condT rfl (wp_seq (rgn (by kernel_rfl) (pu (.agg #[iv 0, iv 0]) (by kernel_rfl) (pu (iv y224) (by kernel_rfl) (seq_c (s_store hI 0 2 [iv 0, iv 0] Try.sizeOf28 rfl rfl rfl rfl rfl (Nat.le_of_ble_eq_true rfl) ?_)))))))
  intro w hI
  refine pu (iv y224) (by kernel_rfl) (seq_nil (wp_ret ?_))
  replace hF := Option.some.inj hF; subst hF
  exact ⟨.tuple #[.agg #[iv 0, iv 0], iv y224], Ret.ct rfl rfl (run_loadK hI 0 2 [iv 0, iv 0] Try.isAgg28 Try.sizeOf28 rfl rfl rfl) rfl, ⟨rfl, hI.below⟩⟩


theorem L34 (w0 : World) (p0 : Int) (p1 : Int) (r : (Int × Int)) (hF : F34 p0 p1 = some r) : Does Try.prog 34 [.int .i64 p0, .int .i64 p1] w0 fun v w => v = .tuple #[.int .i64 r.1, .int .i64 r.2] ∧ Below w0.heap.size w0 w := by
 refine calls_of (n := 20) Try.func34 rfl Try.ntmps34 rfl ?_
 have hI := Inv.start w0
 unfold F34 at hF
 refine wp_seq (rgn (by kernel_rfl) (pu (iv 0) (by kernel_rfl) (pu (iv 0) (by kernel_rfl) (seq_nil (wp_seq (wp_seq (rgn (by kernel_rfl) (pu (iv p0) (by kernel_rfl) (bindE hF (fun y29 hy30 hF => ?_))))))))))
 refine ifE hF (fun h18 hF => ?_) (fun h18 hF => ?_)
 ·
  refine seq_c (s_callv hI 70 [iv p0, iv 0, iv 20000] (.bool true) (by kernel_rfl) (Does.mono (L70 _ p0 0 20000 _ hy30) (fun v' w' h => ⟨h.1.trans (congrArg Value.bool h18), h.2⟩)) ?_)
  intro w hI
  refine pu (.bool false) (by kernel_rfl) (pu (.bool false) (by kernel_rfl) (puo (iv p1) ⟨(by kernel_rfl), (by kernel_rfl)⟩ (bindE hF (fun y31 hy32 hF => ?_))))
  refine ifE hF (fun h19 hF => ?_) (fun h19 hF => ?_)
  ·
   refine seq_on (by kernel_rfl) (s_callv hI 70 [iv p1, iv 1, iv 20000] (.bool true) (by kernel_rfl) (Does.mono (L70 _ p1 1 20000 _ hy32) (fun v' w' h => ⟨h.1.trans (congrArg Value.bool h19), h.2⟩)) ?_)
   intro w hI
   refine puo (.bool false) ⟨(by kernel_rfl), (by kernel_rfl)⟩ (pu (.bool false) (by kernel_rfl) (seq_nil (wp_condF rfl (wp_skip (wp_seq (rgn (by kernel_rfl) (pu (iv p0) (by kernel_rfl) (pu (iv p1) (by kernel_rfl) (ckE hF (fun h20 hF => ?_))))))))))
   refine seq_c (s_add rfl rfl h20 ?_)
   refine ckE hF (fun h21 hF => ?_)
   refine seq_c (s_sub rfl rfl h21 ?_)
   refine pu (iv p1) (by kernel_rfl) (gdE hF (fun h22 hF => ?_))
   refine seq_c (s_quo rfl rfl h22 h21 ?_)
   refine pu (iv (((p0 + p1) - 1).tdiv p1)) (by kernel_rfl) (pu (iv 0) (by kernel_rfl) (seq_nil (wp_ret ?_)))
   replace hF := Option.some.inj hF; subst hF
   exact ⟨.tuple #[iv (((p0 + p1) - 1).tdiv p1), iv 0], Ret.r2 rfl rfl rfl, ⟨rfl, hI.below⟩⟩
  ·
   refine seq_on (by kernel_rfl) (s_callv hI 70 [iv p1, iv 1, iv 20000] (.bool false) (by kernel_rfl) (Does.mono (L70 _ p1 1 20000 _ hy32) (fun v' w' h => ⟨h.1.trans (congrArg Value.bool (Bool.eq_false_iff.2 h19)), h.2⟩)) ?_)
   intro w hI
   refine puo (.bool true) ⟨(by kernel_rfl), (by kernel_rfl)⟩ (pu (.bool true) (by kernel_rfl) (seq_nil (wp_condT rfl (wp_seq (rgn (by kernel_rfl) (pu (iv 0) (by kernel_rfl) (pu (iv 58) (by kernel_rfl) (seq_nil (wp_ret ?_)))))))))
   replace hF := Option.some.inj hF; subst hF
   exact ⟨.tuple #[iv 0, iv 58], Ret.r2 rfl rfl rfl, ⟨rfl, hI.below⟩⟩
 ·
  refine seq_c (s_callv hI 70 [iv p0, iv 0, iv 20000] (.bool false) (by kernel_rfl) (Does.mono (L70 _ p0 0 20000 _ hy30) (fun v' w' h => ⟨h.1.trans (congrArg Value.bool (Bool.eq_false_iff.2 h18)), h.2⟩)) ?_)
  intro w hI
  refine pu (.bool true) (by kernel_rfl) (pu (.bool true) (by kernel_rfl) (of_ (by kernel_rfl) (of_ (by kernel_rfl) (of_ (by kernel_rfl) (pu (.bool true) (by kernel_rfl) (seq_nil (wp_condT rfl (wp_seq (rgn (by kernel_rfl) ?_)))))))))
  refine pu (iv 0) (by kernel_rfl) (pu (iv 58) (by kernel_rfl) (seq_nil (wp_ret ?_)))
  replace hF := Option.some.inj hF; subst hF
  exact ⟨.tuple #[iv 0, iv 58], Ret.r2 rfl rfl rfl, ⟨rfl, hI.below⟩⟩


theorem L104 (w0 : World) (p0_0 : Int) (Ap0_1 : Option Addr) (cp0_1 : Nat) (lp0_1 : List Cm) (hCp0_1 : Cells w0 Ap0_1 (flat eCm lp0_1)) (hMp0_1 : lp0_1.length ≤ 9223372036854775807) (hKp0_1 : lp0_1.length ≤ cp0_1) (N : Nat) (r : (Int × List Int)) (hF : F104 N p0_0 lp0_1 = some r) : Does Try.prog 104 [.agg #[.int .i64 p0_0, .slice Ap0_1 lp0_1.length cp0_1]] w0 fun v w => ∃ (z0 : Option Nat) (z1 : Nat) (z2 : List Value), v = .agg #[.int .i64 r.1, .slice Ap0_1 lp0_1.length cp0_1, slv z0 r.2.length z1] ∧ Inv [] w0 w [(z0, blk z2 3)] ∧ Row 1 z0 r.2.length z1 z2 (flat eInt r.2) := by
 refine calls_of (n := 17) Try.func104 rfl Try.ntmps104 rfl ?_
 have hI := Inv.start w0
 unfold F104 at hF
 refine wp_seq (rgn (by kernel_rfl) (seq_c (s_boxI hI [iv p0_0, .slice Ap0_1 lp0_1.length cp0_1] rfl ?_)))
 intro b93 w hI
 refine seq_c (s_allocI hI [iv 0, .slice none 0 0, .slice none 0 0] Try.zeroValue93 rfl ?_)
 intro b94 w hI
 refine seq_nil (wp_seq (rgn (by kernel_rfl) (seq_c (s_loadK hI 1 2 [iv p0_0, .slice Ap0_1 lp0_1.length cp0_1] Try.isAgg24 Try.sizeOf24 rfl rfl rfl rfl ?_))))
 refine pu (.agg #[iv p0_0, .slice Ap0_1 lp0_1.length cp0_1, .slice none 0 0]) (by kernel_rfl) (seq_c (s_allocI hI [iv 0, .slice none 0 0, .slice none 0 0] Try.zeroValue93 rfl ?_))
 intro b95 w hI
 refine seq_c (s_store hI 0 3 [iv p0_0, .slice Ap0_1 lp0_1.length cp0_1, .slice none 0 0] Try.sizeOf93 rfl rfl rfl rfl rfl (Nat.le_of_ble_eq_true rfl) ?_)
 intro w hI
 refine seq_nil (wp_seq (wp_seq (rgn (by kernel_rfl) (pu (.pointer (some ⟨b93, 0, none⟩)) (by kernel_rfl) (seq_c (s_load1 hI 2 (iv p0_0) Try.isAgg3 rfl rfl rfl ?_))))))
 refine pu (iv 0) (by kernel_rfl) (seq_nil (wp_block ?_))
 have hI := hI.nilRow 3
 refine wp_loop (fun m ρ w => ∃ (g170 : Option Nat) (c171 : Nat) (cl172 : List Value) (r_169 : List Int) (v174 : Int) (mm : Nat), Agree ρ [(2, .pointer (some ⟨b94, 0, none⟩)), (3, .pointer (some ⟨b95, 0, none⟩)), (7, iv p0_0), (8, iv v174)] ∧ Inv [] w0 w [(some b94, blk [iv 0, .slice none 0 0, .slice none 0 0] 93), (some b95, blk [iv p0_0, .slice Ap0_1 lp0_1.length cp0_1, slv g170 r_169.length c171] 93), (g170, blk cl172 3)] ∧ (Row 1 g170 (r_169.length) c171 cl172 (flat eInt r_169)) ∧ F104l1 p0_0 mm r_169 v174 = some r ∧ mm = m) (m := N) ⟨none, 0, [], [], 0, N, ⟨rfl, rfl, rfl, rfl, trivial⟩, hI.pickL [2, 1, 0] (by decide) rfl, (Row.nil_ 1), hF, rfl⟩ ?_
 rintro m ρ w ⟨g170, c171, cl172, r_169, v174, mm, hag, hI, r173, hF, hm⟩
 subst hm; obtain ⟨ρ, rfl⟩ := hag.form; clear hag
 obtain _ | m1 := mm
 ·cases (show (none : Option (Int × List Int)) = some r from hF)
 replace hF : F104b1 p0_0 (F104l1 p0_0 m1) r_169 v174 = some r := hF; unfold F104b1 at hF
 refine wp_seq (rgn (by kernel_rfl) (ifE hF (fun h53 hF => ?_) (fun h53 hF => ?_)))
 ·
  refine seq_c (s_lss rfl rfl (fun _ => ?_) (fun h => absurd (a := v174 < p0_0) h53 h))
  refine seq_nil (wp_seq (wp_condT rfl (wp_skip (wp_seq (wp_block ?_)))))
  refine rgn (by kernel_rfl) (pu (.pointer (some ⟨b95, 2, none⟩)) (by kernel_rfl) (seq_c (s_load1 hI 1 (slv g170 r_169.length c171) Try.isAgg49 rfl rfl rfl ?_)))
  refine seq_c (s_new hI [iv (-1)] 3 (fun b => slv (some b) 1 1) (by kernel_rfl) ?_)
  intro b180 w hI
  refine gdE hF (fun h55 hF => ?_)
  refine seq_c (s_appN hI Try.underlying49 (z := iv 0) (k := 1) (bytes := 8) (by kernel_rfl) rfl rfl 3 rfl rfl r173 [iv (-1)] rfl rfl (hI.cells 0 (off := 0) rfl (fun j u h => by rw [Nat.zero_add]; exact h)) (by simp [Value.oneCell']) (by omega) (by omega) (n2 := (r_169 ++ [(-1 : Int)]).length) (app_len rfl rfl) ?_)
  intro g181 c182 cl183 w hI r184
  have r184 : Row 1 g181 ((r_169 ++ [(-1 : Int)]).length) c182 cl183 (flat eInt (r_169 ++ [(-1 : Int)])) := r184.snoc _ rfl
  refine pu (.pointer (some ⟨b95, 2, none⟩)) (by kernel_rfl) (seq_c (s_store hI 2 1 [slv g181 ((r_169 ++ [(-1 : Int)]).length) c182] Try.sizeOf49 rfl rfl rfl rfl rfl (Nat.le_of_ble_eq_true rfl) ?_))
  intro w hI
  refine seq_nil (rgn (by kernel_rfl) (ckE hF (fun h56 hF => ?_)))
  refine seq_c (s_add rfl rfl h56 ?_)
  refine pu (iv (v174 + 1)) (by kernel_rfl) (seq_nil ?_)
  exact ⟨rfl, m1, Nat.lt_succ_self _, ⟨g181, c182, cl183, r_169 ++ [(-1 : Int)], v174 + 1, m1, ⟨rfl, rfl, rfl, rfl, trivial⟩, hI.pickL [1, 2, 3] (by decide) rfl, (r184.to rfl rfl), hF, rfl⟩⟩
 ·
  refine seq_c (s_lss rfl rfl (fun h => absurd (a := v174 < p0_0) h h53) (fun _ => ?_))
  refine seq_nil (wp_seq (wp_condF rfl (wp_exit ?_)))
  refine wp_seq (rgn (by kernel_rfl) (seq_c (s_loadK hI 1 3 [iv p0_0, .slice Ap0_1 lp0_1.length cp0_1, slv g170 r_169.length c171] Try.isAgg93 Try.sizeOf93 rfl rfl rfl rfl ?_)))
  refine seq_c (s_store hI 0 3 [iv p0_0, .slice Ap0_1 lp0_1.length cp0_1, slv g170 r_169.length c171] Try.sizeOf93 rfl rfl rfl rfl rfl (Nat.le_of_ble_eq_true rfl) ?_)
  intro w hI
  refine seq_nil (wp_ret ?_)
  replace hF := Option.some.inj hF; subst hF
  exact ⟨.agg #[iv p0_0, .slice Ap0_1 lp0_1.length cp0_1, slv g170 r_169.length c171], Ret.c rfl rfl (run_loadK hI 0 3 [iv p0_0, .slice Ap0_1 lp0_1.length cp0_1, slv g170 r_169.length c171] Try.isAgg93 Try.sizeOf93 rfl rfl rfl), ⟨g170, c171, cl172, rfl, hI.pickL [2] (by decide) rfl, r173.to rfl rfl⟩⟩


theorem L92 (w0 : World) (p0 : Int) (p1 : Int) (r : Bool) (hF : F92 p0 p1 = some r) : Does Try.prog 92 [.int .i64 p0, .int .i64 p1] w0 fun v w => v = .bool r ∧ Below w0.heap.size w0 w := by
 refine calls_of (n := 10) Try.func92 rfl Try.ntmps92 rfl ?_
 have hI := Inv.start w0
 unfold F92 at hF
 refine wp_seq (rgn (by kernel_rfl) (pu (.bool false) (by kernel_rfl) (seq_nil (wp_seq (rgn (by kernel_rfl) (pu (iv p1) (by kernel_rfl) (pu (iv p0) (by kernel_rfl) (gdE hF (fun h13 hF => ?_)))))))))
 refine seq_c (s_shr rfl rfl h13 ?_)
 refine gdE hF (fun h14 hF => ?_)
 refine ckE hF (fun h15 hF => ?_)
 refine seq_c (s_and rfl rfl h14 (by decide) h15 (by decide) ?_)
 refine ifE hF (fun h16 hF => ?_) (fun h16 hF => ?_)
 ·
  refine seq_c (s_eql rfl rfl (fun _ => ?_) (fun h => absurd (a := (andI (p1.fdiv (2 ^ (p0 : Int).toNat)) 1) = 1) h16 h))
  refine pu (.bool true) (by kernel_rfl) (seq_nil (wp_ret ?_))
  replace hF := Option.some.inj hF; subst hF
  exact ⟨.bool true, Ret.r1 rfl rfl, ⟨rfl, hI.below⟩⟩
 ·
  refine seq_c (s_eql rfl rfl (fun h => absurd (a := (andI (p1.fdiv (2 ^ (p0 : Int).toNat)) 1) = 1) h h16) (fun _ => ?_))
  refine pu (.bool false) (by kernel_rfl) (seq_nil (wp_ret ?_))
  replace hF := Option.some.inj hF; subst hF
  exact ⟨.bool false, Ret.r1 rfl rfl, ⟨rfl, hI.below⟩⟩

theorem L116 (w0 : World) (p0 : Int) : Does Try.prog 116 [.int .i64 p0] w0 fun v w => ∃ z0 : Nat, v = .func (.func 130) #[] #[.pointer (some ⟨z0, 0, none⟩)] ∧ Inv [] w0 w [(some z0, blk [.int .i64 p0] 3)] := by
 refine calls_of (n := 4) Try.func116 rfl Try.ntmps116 rfl ?_
 have hI := Inv.start w0
 refine wp_seq (rgn (by kernel_rfl) (seq_c (s_boxI hI [iv p0] rfl ?_)))
 intro b1 w hI
 refine pu (.nilFunc) (by kernel_rfl) (seq_nil (wp_seq (rgn (by kernel_rfl) (pu (.func (.func 130) #[] #[.pointer (some ⟨b1, 0, none⟩)]) (by kernel_rfl) (pu (.func (.func 130) #[] #[.pointer (some ⟨b1, 0, none⟩)]) (by kernel_rfl) (seq_nil (wp_ret ?_)))))))
 exact ⟨.func (.func 130) #[] #[.pointer (some ⟨b1, 0, none⟩)], Ret.r1 rfl rfl, ⟨b1, rfl, hI.pickL [0] (by decide) rfl⟩⟩


end Go.K
