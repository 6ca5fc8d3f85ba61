/- That the functions do what the pure definitions say: walks, as tools/lift.py writes them. No condition. -/
import Derived.Test.YtkmnjiejlgoglaaPWc
namespace Go.K
open Go.Proofs Go.RowKit
set_option linter.unusedVariables false
set_option maxRecDepth 100000
attribute [local irreducible] Seq Step CallV AnyE opX
theorem L33 (w0 : World) (p0 : Gn) (p1 : Gn) (r : (Int × Int)) (hF : F33 p0 p1 = some r) : Does Try.prog 33 [.agg #[.int .i64 p0.num, .int .i64 p0.den], .agg #[.int .i64 p1.num, .int .i64 p1.den]] w0 fun v w => v = .tuple #[.int .i64 r.1, .int .i64 r.2] ∧ Below w0.heap.size w0 w := by
 refine calls_of (n := 17) Try.func33 rfl Try.ntmps33 rfl ?_
 have hI := Inv.start w0
 unfold F33 at hF
 refine wp_seq (rgn (by kernel_rfl) (seq_c (s_boxI hI [iv p0.num, iv p0.den] rfl ?_)))
 intro b23 w hI
 refine seq_c (s_boxI hI [iv p1.num, iv p1.den] rfl ?_)
 intro b24 w hI
 refine pu (iv 0) (by kernel_rfl) (pu (iv 0) (by kernel_rfl) (seq_nil (wp_seq (wp_seq (rgn (by kernel_rfl) (seq_c (s_loadK hI 1 2 [iv p0.num, iv p0.den] Try.isAgg51 Try.sizeOf51 rfl rfl rfl rfl ?_)))))))
 refine bindE hF (fun y37 hy38 hF => ?_)
 refine ifE hF (fun h15 hF => ?_) (fun h15 hF => ?_)
 ·
  refine seq_c (s_callv hI 78 [.agg #[iv p0.num, iv p0.den]] (.bool true) (by kernel_rfl) (Does.mono (L78 _ p0 _ hy38) (fun v' w' h => ⟨h.1.trans (congrArg Value.bool h15), h.2⟩)) ?_)
  intro w hI
  refine pu (.bool false) (by kernel_rfl) (pu (.bool false) (by kernel_rfl) (seq_on (by kernel_rfl) (s_loadK hI 0 2 [iv p1.num, iv p1.den] Try.isAgg51 Try.sizeOf51 rfl rfl rfl rfl ?_)))
  refine bindE hF (fun y39 hy40 hF => ?_)
  refine ifE hF (fun h16 hF => ?_) (fun h16 hF => ?_)
  ·
   refine seq_on (by kernel_rfl) (s_callv hI 78 [.agg #[iv p1.num, iv p1.den]] (.bool true) (by kernel_rfl) (Does.mono (L78 _ p1 _ hy40) (fun v' w' h => ⟨h.1.trans (congrArg Value.bool h16), h.2⟩)) ?_)
   intro w hI
   refine puo (.bool false) ⟨(by kernel_rfl), (by kernel_rfl)⟩ (pu (.bool false) (by kernel_rfl) (seq_nil (wp_condF rfl (wp_skip (wp_seq (rgn (by kernel_rfl) (seq_c (s_loadK hI 1 2 [iv p0.num, iv p0.den] Try.isAgg51 Try.sizeOf51 rfl rfl rfl rfl ?_))))))))
   refine seq_c (s_loadK hI 0 2 [iv p1.num, iv p1.den] Try.isAgg51 Try.sizeOf51 rfl rfl rfl rfl ?_)
   refine bindE hF (fun y43 hy44 hF => ?_)
   refine seq_c (s_callv hI 79 [.agg #[iv p0.num, iv p0.den], .agg #[iv p1.num, iv p1.den]] (iv y43) (by kernel_rfl) (L79 _ p0 p1 _ hy44) ?_)
   intro w hI
   refine pu (iv y43) (by kernel_rfl) (pu (iv 0) (by kernel_rfl) (seq_nil (wp_ret ?_)))
   replace hF := Option.some.inj hF; subst hF
   exact ⟨.tuple #[iv y43, iv 0], Ret.r2 rfl rfl rfl, ⟨rfl, hI.below⟩⟩
  ·
   refine seq_on (by kernel_rfl) (s_callv hI 78 [.agg #[iv p1.num, iv p1.den]] (.bool false) (by kernel_rfl) (Does.mono (L78 _ p1 _ hy40) (fun v' w' h => ⟨h.1.trans (congrArg Value.bool (Bool.eq_false_iff.2 h16)), h.2⟩)) ?_)
   intro w hI
   refine puo (.bool true) ⟨(by kernel_rfl), (by kernel_rfl)⟩ (pu (.bool true) (by kernel_rfl) (seq_nil (wp_condT rfl (wp_seq (rgn (by kernel_rfl) (pu (iv 0) (by kernel_rfl) (pu (iv 1) (by kernel_rfl) (seq_nil (wp_ret ?_)))))))))
   replace hF := Option.some.inj hF; subst hF
   exact ⟨.tuple #[iv 0, iv 1], Ret.r2 rfl rfl rfl, ⟨rfl, hI.below⟩⟩
 ·
  refine seq_c (s_callv hI 78 [.agg #[iv p0.num, iv p0.den]] (.bool false) (by kernel_rfl) (Does.mono (L78 _ p0 _ hy38) (fun v' w' h => ⟨h.1.trans (congrArg Value.bool (Bool.eq_false_iff.2 h15)), h.2⟩)) ?_)
  intro w hI
  refine pu (.bool true) (by kernel_rfl) (pu (.bool true) (by kernel_rfl) (of_ (by kernel_rfl) (of_ (by kernel_rfl) (of_ (by kernel_rfl) (pu (.bool true) (by kernel_rfl) (seq_nil (wp_condT rfl (wp_seq (rgn (by kernel_rfl) ?_)))))))))
  refine pu (iv 0) (by kernel_rfl) (pu (iv 1) (by kernel_rfl) (seq_nil (wp_ret ?_)))
  replace hF := Option.some.inj hF; subst hF
  exact ⟨.tuple #[iv 0, iv 1], Ret.r2 rfl rfl rfl, ⟨rfl, hI.below⟩⟩


theorem L81 (w0 : World) (Ap0_0 : Option Addr) (cp0_0 : Nat) (lp0_0 : List Ch) (Ap0_1 : Option Addr) (cp0_1 : Nat) (lp0_1 : List Ce) (bp0_2 : Nat) (esp0_2 : List En) (ckp0_2 : Nat) (Mp0_2 : Int → Option Int) (Ap0_3 : Option Addr) (cp0_3 : Nat) (lp0_3 : List Cl) (Ap1 : Option Addr) (cp1 : Nat) (lp1 : List Dr) (hCp0_0 : Cells w0 Ap0_0 (flat eCh lp0_0)) (hMp0_0 : lp0_0.length ≤ 9223372036854775807) (hKp0_0 : lp0_0.length ≤ cp0_0) (hCp0_1 : Cells w0 Ap0_1 (flat eCe lp0_1)) (hMp0_1 : lp0_1.length ≤ 9223372036854775807) (hKp0_1 : lp0_1.length ≤ cp0_1) (hbp0_2 : w0.heap[bp0_2]? = some (mobj esp0_2 ckp0_2)) (hop0_2 : MOk esp0_2 ckp0_2) (hMp0_2 : ∀ j, mget esp0_2 j = (Mp0_2 j).map (Value.int .i64)) (hCp0_3 : Cells w0 Ap0_3 (flat eCl lp0_3)) (hMp0_3 : lp0_3.length ≤ 9223372036854775807) (hKp0_3 : lp0_3.length ≤ cp0_3) (hCp1 : Cells w0 Ap1 (flat eDr lp1)) (hMp1 : lp1.length ≤ 9223372036854775807) (hKp1 : lp1.length ≤ cp1) (N : Nat) (r : Bool) (hF : F81 N lp0_0 lp0_1 Mp0_2 lp0_3 lp1 = some r) : Does Try.prog 81 [.agg #[.slice Ap0_0 lp0_0.length cp0_0, .slice Ap0_1 lp0_1.length cp0_1, .map (some bp0_2), .slice Ap0_3 lp0_3.length cp0_3], .slice Ap1 lp1.length cp1] w0 fun v w => v = .bool r ∧ Below w0.heap.size w0 w := by
 refine calls_of (n := 52) Try.func81 rfl Try.ntmps81 rfl ?_
 have hI := Inv.start w0
 unfold F81 at hF
 refine wp_seq (rgn (by kernel_rfl) (seq_c (s_boxI hI [.slice Ap0_0 lp0_0.length cp0_0, .slice Ap0_1 lp0_1.length cp0_1, .map (some bp0_2), .slice Ap0_3 lp0_3.length cp0_3] rfl ?_)))
 intro b202 w hI
 refine pu (.bool false) (by kernel_rfl) (seq_nil (wp_seq (wp_seq (rgn (by kernel_rfl) (pu (.slice Ap1 lp1.length cp1) (by kernel_rfl) (pu (iv ((lp1.length : Nat) : Int)) (by kernel_rfl) (pu (.pointer (some ⟨b202, 3, none⟩)) (by kernel_rfl) (seq_c (s_load1 hI 0 (.slice Ap0_3 lp0_3.length cp0_3) Try.isAgg26 rfl rfl rfl ?_)))))))))
 refine pu (iv ((lp0_3.length : Nat) : Int)) (by kernel_rfl) (ifE hF (fun h188 hF => ?_) (fun h188 hF => ?_))
 ·
  refine seq_c (s_neq rfl rfl (fun h => absurd (a := (lp1.length : Int) = (lp0_3.length : Int)) h188 h) (fun _ => ?_))
  refine seq_nil (wp_condF rfl (wp_skip (wp_seq (rgn (by kernel_rfl) (pu (iv 0) (by kernel_rfl) (seq_nil (wp_seq (wp_seq (rgn (by kernel_rfl) ?_)))))))))
  refine pu (.slice Ap1 lp1.length cp1) (by kernel_rfl) (pu (iv ((lp1.length : Nat) : Int)) (by kernel_rfl) (pu (iv 0) (by kernel_rfl) (seq_nil (wp_block ?_))))
  refine wp_loop (fun m ρ w => ∃ (next_369 : Int) (v370 : Int) (mm : Nat), Agree ρ [(2, .pointer (some ⟨b202, 0, none⟩)), (5, iv next_369), (15, .slice Ap1 lp1.length cp1), (16, iv (lp1.length : Int)), (17, iv v370)] ∧ Inv [] w0 w [(some b202, blk [.slice Ap0_0 lp0_0.length cp0_0, .slice Ap0_1 lp0_1.length cp0_1, .map (some bp0_2), .slice Ap0_3 lp0_3.length cp0_3] 120)] ∧ F81l1 lp0_3 lp1 mm next_369 v370 = some r ∧ mm = m) (m := N) ⟨0, 0, N, ⟨rfl, rfl, rfl, rfl, rfl, trivial⟩, hI.pickL [0] (by decide) rfl, hF, rfl⟩ ?_
  rintro m ρ w ⟨next_369, v370, mm, hag, hI, hF, hm⟩
  subst hm; obtain ⟨ρ, rfl⟩ := hag.form; clear hag
  obtain _ | m1 := mm
  ·cases (show (none : Option Bool) = some r from hF)
  replace hF : F81b1 lp0_3 lp1 (F81l1 lp0_3 lp1 m1) next_369 v370 = some r := hF; unfold F81b1 at hF
  refine wp_seq (rgn (by kernel_rfl) (ifE hF (fun h339 hF => ?_) (fun h339 hF => ?_)))
  ·
   refine seq_c (s_lss rfl rfl (fun _ => ?_) (fun h => absurd (a := v370 < (lp1.length : Int)) h339 h))
   refine seq_nil (wp_seq (wp_condT rfl (wp_skip (wp_seq (wp_block ?_)))))
   refine wp_seq (rgn (by kernel_rfl) (pu (iv v370) (by kernel_rfl) (gdE hF (fun h354 hF => ?_))))
   refine bindE hF (fun x387 hx388 hF => ?_)
   obtain ⟨b389, o390, hA391, hb392, he393⟩ := hCp1.at_ eDr_len (by decide) hx388
   refine seq_c (s_indexA (v370).toNat Try.underlying63 Try.sizeOf49 rfl hA391 rfl (Int.toNat_of_nonneg h354).symm (lt_n hx388 rfl) ?_)
   refine seq_c (s_loadBK hI [iv x387.fr, iv x387.to] Try.isAgg49 Try.sizeOf49 rfl rfl hb392 (by simp) he393 ?_)
   refine seq_c (s_allocI hI [iv 0, iv 0] Try.zeroValue49 rfl ?_)
   intro b394 w hI
   refine pu (iv v370) (by kernel_rfl) (seq_c (s_store hI 0 2 [iv x387.fr, iv x387.to] Try.sizeOf49 rfl rfl rfl rfl rfl (Nat.le_of_ble_eq_true rfl) ?_))
   intro w hI
   refine seq_nil (wp_seq (rgn (by kernel_rfl) (pu (.pointer (some ⟨b202, 3, none⟩)) (by kernel_rfl) (seq_c (s_load1 hI 1 (.slice Ap0_3 lp0_3.length cp0_3) Try.isAgg26 rfl rfl rfl ?_)))))
   refine pu (iv v370) (by kernel_rfl) (bindE hF (fun x395 hx396 hF => ?_))
   obtain ⟨b397, o398, hA399, hb400, he401⟩ := hCp0_3.at_ eCl_len (by decide) hx396
   refine seq_c (s_indexA (v370).toNat Try.underlying26 Try.sizeOf34 rfl hA399 rfl (Int.toNat_of_nonneg h354).symm (lt_n hx396 rfl) ?_)
   refine seq_c (s_loadBK hI [iv x395.fam, iv x395.hd, iv x395.fr, iv x395.to] Try.isAgg34 Try.sizeOf34 rfl rfl hb400 (by simp) he401 ?_)
   refine seq_c (s_allocI hI [iv 0, iv 0, iv 0, iv 0] Try.zeroValue34 rfl ?_)
   intro b402 w hI
   refine seq_c (s_store hI 0 4 [iv x395.fam, iv x395.hd, iv x395.fr, iv x395.to] Try.sizeOf34 rfl rfl rfl rfl rfl (Nat.le_of_ble_eq_true rfl) ?_)
   intro w hI
   refine seq_nil (wp_seq (wp_seq (rgn (by kernel_rfl) (pu (.pointer (some ⟨b394, 0, none⟩)) (by kernel_rfl) (seq_c (s_load1 hI 1 (iv x387.fr) Try.isAgg3 rfl rfl rfl ?_))))))
   refine pu (iv next_369) (by kernel_rfl) (pu (.pointer (some ⟨b402, 2, none⟩)) (by kernel_rfl) (seq_c (s_load1 hI 0 (iv x395.fr) Try.isAgg3 rfl rfl rfl ?_)))
   refine pu (iv (if x395.fr > next_369 then x395.fr else next_369)) (by kernel_rfl) (ifE hF (fun h364 hF => ?_) (fun h364 hF => ?_))
   ·
    refine seq_c (s_lss rfl rfl (fun _ => ?_) (fun h => absurd (a := x387.fr < (if x395.fr > next_369 then x395.fr else next_369)) h364 h))
    refine pu (.bool true) (by kernel_rfl) (of_ (by kernel_rfl) (of_ (by kernel_rfl) (of_ (by kernel_rfl) (of_ (by kernel_rfl) (of_ (by kernel_rfl) (pu (.bool true) (by kernel_rfl) (pu (.bool true) (by kernel_rfl) (of_ (by kernel_rfl) (of_ (by kernel_rfl) ?_)))))))))
    refine of_ (by kernel_rfl) (of_ (by kernel_rfl) (of_ (by kernel_rfl) (pu (.bool true) (by kernel_rfl) (seq_nil (wp_condT rfl (wp_seq (rgn (by kernel_rfl) (pu (.bool false) (by kernel_rfl) (seq_nil ?_)))))))))
    refine wp_ret ?_
    replace hF := Option.some.inj hF; subst hF
    exact ⟨.bool false, Ret.r1 rfl rfl, ⟨rfl, hI.below⟩⟩
   ·
    refine seq_c (s_lss rfl rfl (fun h => absurd (a := x387.fr < (if x395.fr > next_369 then x395.fr else next_369)) h h364) (fun _ => ?_))
    refine pu (.bool false) (by kernel_rfl) (puo (.pointer (some ⟨b394, 0, none⟩)) ⟨(by kernel_rfl), (by kernel_rfl)⟩ (seq_on (by kernel_rfl) (s_load1 hI 1 (iv x387.fr) Try.isAgg3 rfl rfl rfl ?_)))
    refine puo (.pointer (some ⟨b394, 1, none⟩)) ⟨(by kernel_rfl), (by kernel_rfl)⟩ (seq_on (by kernel_rfl) (s_load1 hI 1 (iv x387.to) Try.isAgg3 rfl rfl rfl ?_))
    refine ifE hF (fun h365 hF => ?_) (fun h365 hF => ?_)
    ·
     refine seq_on (by kernel_rfl) (s_gtr rfl rfl (fun _ => ?_) (fun h => absurd (a := x387.to < x387.fr) h365 h))
     refine pu (.bool true) (by kernel_rfl) (pu (.bool true) (by kernel_rfl) (of_ (by kernel_rfl) (of_ (by kernel_rfl) (of_ (by kernel_rfl) (of_ (by kernel_rfl) (of_ (by kernel_rfl) (pu (.bool true) (by kernel_rfl) (seq_nil (wp_condT rfl ?_)))))))))
     refine wp_seq (rgn (by kernel_rfl) (pu (.bool false) (by kernel_rfl) (seq_nil (wp_ret ?_))))
     replace hF := Option.some.inj hF; subst hF
     exact ⟨.bool false, Ret.r1 rfl rfl, ⟨rfl, hI.below⟩⟩
    ·
     refine seq_on (by kernel_rfl) (s_gtr rfl rfl (fun h => absurd (a := x387.to < x387.fr) h h365) (fun _ => ?_))
     refine pu (.bool false) (by kernel_rfl) (pu (.bool false) (by kernel_rfl) (puo (.pointer (some ⟨b394, 1, none⟩)) ⟨(by kernel_rfl), (by kernel_rfl)⟩ (seq_on (by kernel_rfl) (s_load1 hI 1 (iv x387.to) Try.isAgg3 rfl rfl rfl ?_))))
     refine puo (.pointer (some ⟨b402, 3, none⟩)) ⟨(by kernel_rfl), (by kernel_rfl)⟩ (seq_on (by kernel_rfl) (s_load1 hI 0 (iv x395.to) Try.isAgg3 rfl rfl rfl ?_))
     refine ifE hF (fun h366 hF => ?_) (fun h366 hF => ?_)
     ·
      refine seq_on (by kernel_rfl) (s_gtr rfl rfl (fun _ => ?_) (fun h => absurd (a := x395.to < x387.to) h366 h))
      refine pu (.bool true) (by kernel_rfl) (seq_nil (wp_condT rfl (wp_seq (rgn (by kernel_rfl) (pu (.bool false) (by kernel_rfl) (seq_nil (wp_ret ?_)))))))
      replace hF := Option.some.inj hF; subst hF
      exact ⟨.bool false, Ret.r1 rfl rfl, ⟨rfl, hI.below⟩⟩
     ·
      refine seq_on (by kernel_rfl) (s_gtr rfl rfl (fun h => absurd (a := x395.to < x387.to) h h366) (fun _ => ?_))
      refine pu (.bool false) (by kernel_rfl) (seq_nil (wp_condF rfl (wp_skip (rgn (by kernel_rfl) (pu (.pointer (some ⟨b394, 1, none⟩)) (by kernel_rfl) (seq_c (s_load1 hI 1 (iv x387.to) Try.isAgg3 rfl rfl rfl ?_)))))))
      refine ckE hF (fun h367 hF => ?_)
      refine seq_c (s_add rfl rfl h367 ?_)
      refine pu (iv (x387.to + 1)) (by kernel_rfl) (seq_nil (rgn (by kernel_rfl) (ckE hF (fun h368 hF => ?_))))
      refine seq_c (s_add rfl rfl h368 ?_)
      refine pu (iv (v370 + 1)) (by kernel_rfl) (seq_nil ?_)
      exact ⟨rfl, m1, Nat.lt_succ_self _, ⟨x387.to + 1, v370 + 1, m1, ⟨rfl, rfl, rfl, rfl, rfl, trivial⟩, hI.pickL [2] (by decide) rfl, hF, rfl⟩⟩
  ·
   refine seq_c (s_lss rfl rfl (fun h => absurd (a := v370 < (lp1.length : Int)) h h339) (fun _ => ?_))
   refine seq_nil (wp_seq (wp_condF rfl (wp_exit ?_)))
   refine wp_seq (rgn (by kernel_rfl) (pu (.bool true) (by kernel_rfl) (seq_nil (wp_ret ?_))))
   replace hF := Option.some.inj hF; subst hF
   exact ⟨.bool true, Ret.r1 rfl rfl, ⟨rfl, hI.below⟩⟩
 ·
  refine seq_c (s_neq rfl rfl (fun _ => ?_) (fun h => absurd (a := (lp1.length : Int) = (lp0_3.length : Int)) h h188))
  refine seq_nil (wp_condT rfl (wp_seq (rgn (by kernel_rfl) (pu (.bool false) (by kernel_rfl) (seq_nil (wp_ret ?_))))))
  replace hF := Option.some.inj hF; subst hF
  exact ⟨.bool false, Ret.r1 rfl rfl, ⟨rfl, hI.below⟩⟩


theorem L35 (w0 : World) (Ap0_0 : Option Addr) (cp0_0 : Nat) (lp0_0 : List Ch) (Ap0_1 : Option Addr) (cp0_1 : Nat) (lp0_1 : List Ce) (Ap1 : Option Addr) (cp1 : Nat) (lp1 : List Cl) (Ap2 : Option Addr) (cp2 : Nat) (lp2 : List Dr) (hCp0_0 : Cells w0 Ap0_0 (flat eCh lp0_0)) (hMp0_0 : lp0_0.length ≤ 9223372036854775807) (hKp0_0 : lp0_0.length ≤ cp0_0) (hCp0_1 : Cells w0 Ap0_1 (flat eCe lp0_1)) (hMp0_1 : lp0_1.length ≤ 9223372036854775807) (hKp0_1 : lp0_1.length ≤ cp0_1) (hCp1 : Cells w0 Ap1 (flat eCl lp1)) (hMp1 : lp1.length ≤ 9223372036854775807) (hKp1 : lp1.length ≤ cp1) (hCp2 : Cells w0 Ap2 (flat eDr lp2)) (hMp2 : lp2.length ≤ 9223372036854775807) (hKp2 : lp2.length ≤ cp2) (N : Nat) (r : (List Gn × Int)) (hF : F35 N lp0_0 lp0_1 lp1 lp2 = some r) : Does Try.prog 35 [.agg #[.slice Ap0_0 lp0_0.length cp0_0, .slice Ap0_1 lp0_1.length cp0_1], .slice Ap1 lp1.length cp1, .slice Ap2 lp2.length cp2] w0 fun v w => ∃ (z0 : Option Nat) (z1 : Nat) (z2 : List Value), v = .tuple #[slv z0 r.1.length z1, .int .i64 r.2] ∧ Inv [] w0 w [(z0, blk z2 51)] ∧ Row 2 z0 r.1.length z1 z2 (flat eGn r.1) := by
 refine calls_of (n := 40) Try.func35 rfl Try.ntmps35 rfl ?_
 have hI := Inv.start w0
 unfold F35 at hF
 refine wp_seq (rgn (by kernel_rfl) (seq_c (s_boxI hI [.slice Ap0_0 lp0_0.length cp0_0, .slice Ap0_1 lp0_1.length cp0_1] rfl ?_)))
 intro b228 w hI
 refine pu (.slice none 0 0) (by kernel_rfl) (pu (iv 0) (by kernel_rfl) (seq_nil (wp_seq (rgn (by kernel_rfl) (seq_c (s_loadK hI 0 2 [.slice Ap0_0 lp0_0.length cp0_0, .slice Ap0_1 lp0_1.length cp0_1] Try.isAgg25 Try.sizeOf25 rfl rfl rfl rfl ?_))))))
 refine pu (.slice Ap1 lp1.length cp1) (by kernel_rfl) (bindS3E hF (fun y244 hy245 hF => ?_) (fun y246 hy247 hF => ?_) (fun y248 hy249 hF => ?_))
 ·
  refine seq_c (s_callv hI 64 [.agg #[.slice Ap0_0 lp0_0.length cp0_0, .slice Ap0_1 lp0_1.length cp0_1], .slice Ap1 lp1.length cp1] (.tuple #[.agg #[.slice none 0 0, .slice none 0 0, .map none, .slice none 0 0], iv 42]) (by kernel_rfl) (L64 _ Ap0_0 cp0_0 lp0_0 Ap0_1 cp0_1 lp0_1 Ap1 cp1 lp1 (hCp0_0.inv0 hI) hMp0_0 hKp0_0 (hCp0_1.inv0 hI) hMp0_1 hKp0_1 (hCp1.inv0 hI) hMp1 hKp1 N _ hy245) ?_)
  intro w hI
  refine pu (.tuple #[.agg #[.slice none 0 0, .slice none 0 0, .map none, .slice none 0 0], iv 42]) (by kernel_rfl) (pu (.agg #[.slice none 0 0, .slice none 0 0, .map none, .slice none 0 0]) (by kernel_rfl) (pu (iv 42) (by kernel_rfl) (seq_c (s_allocI hI [.slice none 0 0, .slice none 0 0, .map none, .slice none 0 0] Try.zeroValue120 rfl ?_))))
  intro b250 w hI
  refine seq_c (s_store hI 0 4 [.slice none 0 0, .slice none 0 0, .map none, .slice none 0 0] Try.sizeOf120 rfl rfl rfl rfl rfl (Nat.le_of_ble_eq_true rfl) ?_)
  intro w hI
  refine pu (iv 42) (by kernel_rfl) (seq_nil (wp_seq (wp_seq (rgn (by kernel_rfl) (pu (iv 42) (by kernel_rfl) (seq_c (s_neq rfl rfl (fun _ => ?_) (fun h => absurd (a := 42 = 0) h (by decide)))))))))
  refine seq_nil (wp_condT rfl (wp_seq (rgn (by kernel_rfl) (pu (iv 42) (by kernel_rfl) (pu (.slice none 0 0) (by kernel_rfl) (pu (iv 42) (by kernel_rfl) (seq_nil (wp_ret ?_))))))))
  have hI := hI.nilRow 51
  replace hF := Option.some.inj hF; subst hF
  exact ⟨.tuple #[.slice none 0 0, iv 42], Ret.r2 rfl rfl rfl, ⟨none, 0, [], rfl, hI.pickL [0] (by decide) rfl, Row.nil_ 2⟩⟩
 ·
  refine seq_c (s_callv hI 64 [.agg #[.slice Ap0_0 lp0_0.length cp0_0, .slice Ap0_1 lp0_1.length cp0_1], .slice Ap1 lp1.length cp1] (.tuple #[.agg #[.slice none 0 0, .slice none 0 0, .map none, .slice none 0 0], iv 44]) (by kernel_rfl) (L64 _ Ap0_0 cp0_0 lp0_0 Ap0_1 cp0_1 lp0_1 Ap1 cp1 lp1 (hCp0_0.inv0 hI) hMp0_0 hKp0_0 (hCp0_1.inv0 hI) hMp0_1 hKp0_1 (hCp1.inv0 hI) hMp1 hKp1 N _ hy247) ?_)
  intro w hI
  refine pu (.tuple #[.agg #[.slice none 0 0, .slice none 0 0, .map none, .slice none 0 0], iv 44]) (by kernel_rfl) (pu (.agg #[.slice none 0 0, .slice none 0 0, .map none, .slice none 0 0]) (by kernel_rfl) (pu (iv 44) (by kernel_rfl) (seq_c (s_allocI hI [.slice none 0 0, .slice none 0 0, .map none, .slice none 0 0] Try.zeroValue120 rfl ?_))))
  intro b251 w hI
  refine seq_c (s_store hI 0 4 [.slice none 0 0, .slice none 0 0, .map none, .slice none 0 0] Try.sizeOf120 rfl rfl rfl rfl rfl (Nat.le_of_ble_eq_true rfl) ?_)
  intro w hI
  refine pu (iv 44) (by kernel_rfl) (seq_nil (wp_seq (wp_seq (rgn (by kernel_rfl) (pu (iv 44) (by kernel_rfl) (seq_c (s_neq rfl rfl (fun _ => ?_) (fun h => absurd (a := 44 = 0) h (by decide)))))))))
  refine seq_nil (wp_condT rfl (wp_seq (rgn (by kernel_rfl) (pu (iv 44) (by kernel_rfl) (pu (.slice none 0 0) (by kernel_rfl) (pu (iv 44) (by kernel_rfl) (seq_nil (wp_ret ?_))))))))
  have hI := hI.nilRow 51
  replace hF := Option.some.inj hF; subst hF
  exact ⟨.tuple #[.slice none 0 0, iv 44], Ret.r2 rfl rfl rfl, ⟨none, 0, [], rfl, hI.pickL [0] (by decide) rfl, Row.nil_ 2⟩⟩
 ·
  refine seq_c (s_call 64 [.agg #[.slice Ap0_0 lp0_0.length cp0_0, .slice Ap0_1 lp0_1.length cp0_1], .slice Ap1 lp1.length cp1] (by kernel_rfl) (L64 _ Ap0_0 cp0_0 lp0_0 Ap0_1 cp0_1 lp0_1 Ap1 cp1 lp1 (hCp0_0.inv0 hI) hMp0_0 hKp0_0 (hCp0_1.inv0 hI) hMp0_1 hKp0_1 (hCp1.inv0 hI) hMp1 hKp1 N _ hy249) ?_)
  rintro v w ⟨b252, es253, ck254, rfl, hN, ho255, hM256⟩
  have hI := hI.join hN; clear hN
  refine pu (.tuple #[.agg #[.slice Ap0_0 lp0_0.length cp0_0, .slice Ap0_1 lp0_1.length cp0_1, .map (some b252), .slice Ap1 lp1.length cp1], iv 0]) (by kernel_rfl) (pu (.agg #[.slice Ap0_0 lp0_0.length cp0_0, .slice Ap0_1 lp0_1.length cp0_1, .map (some b252), .slice Ap1 lp1.length cp1]) (by kernel_rfl) (pu (iv 0) (by kernel_rfl) (seq_c (s_allocI hI [.slice none 0 0, .slice none 0 0, .map none, .slice none 0 0] Try.zeroValue120 rfl ?_))))
  intro b257 w hI
  refine seq_c (s_store hI 0 4 [.slice Ap0_0 lp0_0.length cp0_0, .slice Ap0_1 lp0_1.length cp0_1, .map (some b252), .slice Ap1 lp1.length cp1] Try.sizeOf120 rfl rfl rfl rfl rfl (Nat.le_of_ble_eq_true rfl) ?_)
  intro w hI
  refine pu (iv 0) (by kernel_rfl) (seq_nil (wp_seq (wp_seq (rgn (by kernel_rfl) (pu (iv 0) (by kernel_rfl) (seq_c (s_neq rfl rfl (fun h => absurd (a := 0 = 0) (by decide) h) (fun _ => ?_))))))))
  refine seq_nil (wp_condF rfl (wp_skip (wp_seq (wp_seq (rgn (by kernel_rfl) (seq_c (s_loadK hI 0 4 [.slice Ap0_0 lp0_0.length cp0_0, .slice Ap0_1 lp0_1.length cp0_1, .map (some b252), .slice Ap1 lp1.length cp1] Try.isAgg120 Try.sizeOf120 rfl rfl rfl rfl ?_)))))))
  refine pu (.slice Ap2 lp2.length cp2) (by kernel_rfl) (bindE hF (fun y264 hy265 hF => ?_))
  refine ifE hF (fun h44 hF => ?_) (fun h44 hF => ?_)
  ·
   refine seq_c (s_callv hI 81 [.agg #[.slice Ap0_0 lp0_0.length cp0_0, .slice Ap0_1 lp0_1.length cp0_1, .map (some b252), .slice Ap1 lp1.length cp1], .slice Ap2 lp2.length cp2] (.bool true) (by kernel_rfl) (Does.mono (L81 _ Ap0_0 cp0_0 lp0_0 Ap0_1 cp0_1 lp0_1 b252 es253 ck254 y248 Ap1 cp1 lp1 Ap2 cp2 lp2 (hCp0_0.inv0 hI) hMp0_0 hKp0_0 (hCp0_1.inv0 hI) hMp0_1 hKp0_1 (hI.has 1 _ _ rfl).1 ho255 hM256 (hCp1.inv0 hI) hMp1 hKp1 (hCp2.inv0 hI) hMp2 hKp2 N _ hy265) (fun v' w' h => ⟨h.1.trans (congrArg Value.bool h44), h.2⟩)) ?_)
   intro w hI
   refine pu (.bool false) (by kernel_rfl) (seq_nil (wp_condF rfl (wp_skip (wp_seq (rgn (by kernel_rfl) (pu (.slice none 0 0) (by kernel_rfl) (seq_nil (wp_seq (wp_seq ?_)))))))))
   refine rgn (by kernel_rfl) (seq_c (s_loadK hI 0 4 [.slice Ap0_0 lp0_0.length cp0_0, .slice Ap0_1 lp0_1.length cp0_1, .map (some b252), .slice Ap1 lp1.length cp1] Try.isAgg120 Try.sizeOf120 rfl rfl rfl rfl ?_))
   refine pu (.slice Ap2 lp2.length cp2) (by kernel_rfl) (bindE hF (fun y369 hy370 hF => ?_))
   refine seq_c (s_call 82 [.agg #[.slice Ap0_0 lp0_0.length cp0_0, .slice Ap0_1 lp0_1.length cp0_1, .map (some b252), .slice Ap1 lp1.length cp1], .slice Ap2 lp2.length cp2] (by kernel_rfl) (L82 _ Ap0_0 cp0_0 lp0_0 Ap0_1 cp0_1 lp0_1 b252 es253 ck254 y248 Ap1 cp1 lp1 Ap2 cp2 lp2 (hCp0_0.inv0 hI) hMp0_0 hKp0_0 (hCp0_1.inv0 hI) hMp0_1 hKp0_1 (hI.has 1 _ _ rfl).1 ho255 hM256 (hCp1.inv0 hI) hMp1 hKp1 (hCp2.inv0 hI) hMp2 hKp2 N _ hy370) ?_)
   rintro v w ⟨g371, c372, cl373, rfl, hN, r374⟩
   have hI := hI.join hN; clear hN
   refine pu (iv ((y369.length : Nat) : Int)) (by kernel_rfl) (pu (iv 0) (by kernel_rfl) (seq_nil (wp_block ?_)))
   have hI := hI.nilRow 51
   refine wp_loop (fun m ρ w => ∃ (g426 : Option Nat) (c427 : Nat) (cl428 : List Value) (g430 : Option Nat) (c431 : Nat) (cl432 : List Value) (gains_425 : List Gn) (v434 : Int) (mm : Nat), Agree ρ [(10, slv g426 gains_425.length c427), (28, slv g430 y369.length c431), (29, iv (y369.length : Int)), (30, iv v434)] ∧ Inv [] w0 w [(g426, blk cl428 51), (g430, blk cl432 136)] ∧ (Row 2 g426 (gains_425.length) c427 cl428 (flat eGn gains_425)) ∧ (Row 2 g430 (y369.length) c431 cl432 (flat eGn y369)) ∧ F35l1 y369 mm gains_425 v434 = some r ∧ mm = m) (m := N) ⟨none, 0, [], g371, c372, cl373, [], 0, N, ⟨rfl, rfl, rfl, rfl, trivial⟩, hI.pickL [0, 1] (by decide) rfl, (Row.nil_ 2), (r374.to rfl rfl), hF, rfl⟩ ?_
   rintro m ρ w ⟨g426, c427, cl428, g430, c431, cl432, gains_425, v434, mm, hag, hI, r429, r433, hF, hm⟩
   subst hm; obtain ⟨ρ, rfl⟩ := hag.form; clear hag
   obtain _ | m1 := mm
   ·cases (show (none : Option (List Gn × Int)) = some r from hF)
   replace hF : F35b1 y369 (F35l1 y369 m1) gains_425 v434 = some r := hF; unfold F35b1 at hF
   refine wp_seq (rgn (by kernel_rfl) (ifE hF (fun h75 hF => ?_) (fun h75 hF => ?_)))
   ·
    refine seq_c (s_lss rfl rfl (fun _ => ?_) (fun h => absurd (a := v434 < (y369.length : Int)) h75 h))
    refine seq_nil (wp_seq (wp_condT rfl (wp_skip (wp_seq (wp_block ?_)))))
    refine wp_seq (rgn (by kernel_rfl) (gdE hF (fun h78 hF => ?_)))
    refine bindE hF (fun x445 hx446 hF => ?_)
    obtain ⟨b447, rfl, he448⟩ := r433.at_ eGn_len (by decide) hx446
    refine seq_c (s_indexR (v434).toNat Try.underlying140 Try.sizeOf136 rfl rfl (Int.toNat_of_nonneg h78).symm (lt_n hx446 rfl) ?_)
    refine seq_c (s_loadRK hI 1 [iv x445.num, iv x445.den] Try.isAgg136 Try.sizeOf136 rfl rfl rfl he448 ?_)
    refine seq_c (s_allocI hI [iv 0, iv 0] Try.zeroValue136 rfl ?_)
    intro b449 w hI
    refine seq_c (s_store hI 0 2 [iv x445.num, iv x445.den] Try.sizeOf136 rfl rfl rfl rfl rfl (Nat.le_of_ble_eq_true rfl) ?_)
    intro w hI
    refine seq_nil (rgn (by kernel_rfl) (pu (slv g426 gains_425.length c427) (by kernel_rfl) (seq_c (s_loadK hI 0 2 [iv x445.num, iv x445.den] Try.isAgg136 Try.sizeOf136 rfl rfl rfl rfl ?_))))
    refine seq_c (s_new hI [iv x445.num, iv x445.den] 51 (fun b => slv (some b) 1 1) (by kernel_rfl) ?_)
    intro b450 w hI
    refine gdE hF (fun h79 hF => ?_)
    refine seq_c (s_appN hI Try.underlying72 (z := .agg #[iv 0, iv 0]) (k := 2) (bytes := 16) (by kernel_rfl) rfl rfl 2 rfl rfl r429 [iv x445.num, iv x445.den] rfl rfl (hI.cells 0 (off := 0) rfl (fun j u h => by rw [Nat.zero_add]; exact h)) (by simp [Value.oneCell']) (by omega) (by omega) (n2 := (gains_425 ++ [(⟨x445.num, x445.den⟩ : Gn)]).length) (app_len rfl rfl) ?_)
    intro g451 c452 cl453 w hI r454
    have r454 : Row 2 g451 ((gains_425 ++ [(⟨x445.num, x445.den⟩ : Gn)]).length) c452 cl453 (flat eGn (gains_425 ++ [(⟨x445.num, x445.den⟩ : Gn)])) := r454.snoc _ rfl
    refine pu (slv g451 ((gains_425 ++ [(⟨x445.num, x445.den⟩ : Gn)]).length) c452) (by kernel_rfl) (seq_nil (rgn (by kernel_rfl) (ckE hF (fun h80 hF => ?_))))
    refine seq_c (s_add rfl rfl h80 ?_)
    refine pu (iv (v434 + 1)) (by kernel_rfl) (seq_nil ?_)
    exact ⟨rfl, m1, Nat.lt_succ_self _, ⟨g451, c452, cl453, some b447, c431, cl432, gains_425 ++ [(⟨x445.num, x445.den⟩ : Gn)], v434 + 1, m1, ⟨rfl, rfl, rfl, rfl, trivial⟩, hI.pickL [2, 3] (by decide) rfl, (r454.to rfl rfl), (r433.to rfl rfl), hF, rfl⟩⟩
   ·
    refine seq_c (s_lss rfl rfl (fun h => absurd (a := v434 < (y369.length : Int)) h h75) (fun _ => ?_))
    refine seq_nil (wp_seq (wp_condF rfl (wp_exit ?_)))
    refine wp_seq (rgn (by kernel_rfl) (pu (slv g426 gains_425.length c427) (by kernel_rfl) (pu (slv g426 gains_425.length c427) (by kernel_rfl) (pu (iv 0) (by kernel_rfl) (seq_nil (wp_ret ?_))))))
    replace hF := Option.some.inj hF; subst hF
    exact ⟨.tuple #[slv g426 gains_425.length c427, iv 0], Ret.r2 rfl rfl rfl, ⟨g426, c427, cl428, rfl, hI.pickL [0] (by decide) rfl, r429.to rfl rfl⟩⟩
  ·
   refine seq_c (s_callv hI 81 [.agg #[.slice Ap0_0 lp0_0.length cp0_0, .slice Ap0_1 lp0_1.length cp0_1, .map (some b252), .slice Ap1 lp1.length cp1], .slice Ap2 lp2.length cp2] (.bool false) (by kernel_rfl) (Does.mono (L81 _ Ap0_0 cp0_0 lp0_0 Ap0_1 cp0_1 lp0_1 b252 es253 ck254 y248 Ap1 cp1 lp1 Ap2 cp2 lp2 (hCp0_0.inv0 hI) hMp0_0 hKp0_0 (hCp0_1.inv0 hI) hMp0_1 hKp0_1 (hI.has 1 _ _ rfl).1 ho255 hM256 (hCp1.inv0 hI) hMp1 hKp1 (hCp2.inv0 hI) hMp2 hKp2 N _ hy265) (fun v' w' h => ⟨h.1.trans (congrArg Value.bool (Bool.eq_false_iff.2 h44)), h.2⟩)) ?_)
   intro w hI
   refine pu (.bool true) (by kernel_rfl) (seq_nil (wp_condT rfl (wp_seq (rgn (by kernel_rfl) (pu (.slice none 0 0) (by kernel_rfl) (pu (iv 46) (by kernel_rfl) (seq_nil (wp_ret ?_))))))))
   have hI := hI.nilRow 51
   replace hF := Option.some.inj hF; subst hF
   exact ⟨.tuple #[.slice none 0 0, iv 46], Ret.r2 rfl rfl rfl, ⟨none, 0, [], rfl, hI.pickL [0] (by decide) rfl, Row.nil_ 2⟩⟩


end Go.K
