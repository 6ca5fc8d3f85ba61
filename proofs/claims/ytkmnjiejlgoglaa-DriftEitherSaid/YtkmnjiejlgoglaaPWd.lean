/- That the functions do what the pure definitions say: walks, as tools/lift.py writes them. No condition. -/
import Derived.Test.YtkmnjiejlgoglaaPWc
namespace Go.K
open Go.Proofs Go.RowKit
set_option linter.unusedVariables false
set_option maxRecDepth 100000
attribute [local irreducible] Seq Step CallV AnyE opX
theorem L81 (w0 : World) (Ap0_0 : Option Addr) (cp0_0 : Nat) (lp0_0 : List Ch) (Ap0_1 : Option Addr) (cp0_1 : Nat) (lp0_1 : List Ce) (bp0_2 : Nat) (esp0_2 : List En) (ckp0_2 : Nat) (Mp0_2 : Int → Option Int) (Ap0_3 : Option Addr) (cp0_3 : Nat) (lp0_3 : List Cl) (Ap1 : Option Addr) (cp1 : Nat) (lp1 : List Dr) (hCp0_0 : Cells w0 Ap0_0 (flat eCh lp0_0)) (hMp0_0 : lp0_0.length ≤ 9223372036854775807) (hKp0_0 : lp0_0.length ≤ cp0_0) (hCp0_1 : Cells w0 Ap0_1 (flat eCe lp0_1)) (hMp0_1 : lp0_1.length ≤ 9223372036854775807) (hKp0_1 : lp0_1.length ≤ cp0_1) (hbp0_2 : w0.heap[bp0_2]? = some (mobj esp0_2 ckp0_2)) (hop0_2 : MOk esp0_2 ckp0_2) (hMp0_2 : ∀ j, mget esp0_2 j = (Mp0_2 j).map (Value.int .i64)) (hCp0_3 : Cells w0 Ap0_3 (flat eCl lp0_3)) (hMp0_3 : lp0_3.length ≤ 9223372036854775807) (hKp0_3 : lp0_3.length ≤ cp0_3) (hCp1 : Cells w0 Ap1 (flat eDr lp1)) (hMp1 : lp1.length ≤ 9223372036854775807) (hKp1 : lp1.length ≤ cp1) (N : Nat) (r : Bool) (hF : F81 N lp0_0 lp0_1 Mp0_2 lp0_3 lp1 = some r) : Does Try.prog 81 [.agg #[.slice Ap0_0 lp0_0.length cp0_0, .slice Ap0_1 lp0_1.length cp0_1, .map (some bp0_2), .slice Ap0_3 lp0_3.length cp0_3], .slice Ap1 lp1.length cp1] w0 fun v w => v = .bool r ∧ Below w0.heap.size w0 w := by
 refine calls_of (n := 52) Try.func81 rfl Try.ntmps81 rfl ?_
 have hI := Inv.start w0
 unfold F81 at hF
 refine wp_seq (rgn (by kernel_rfl) (seq_c (s_boxI hI [.slice Ap0_0 lp0_0.length cp0_0, .slice Ap0_1 lp0_1.length cp0_1, .map (some bp0_2), .slice Ap0_3 lp0_3.length cp0_3] rfl ?_)))
 intro b202 w hI
 refine pu (.bool false) (by kernel_rfl) (seq_nil (wp_seq (wp_seq (rgn (by kernel_rfl) (pu (.slice Ap1 lp1.length cp1) (by kernel_rfl) (pu (iv ((lp1.length : Nat) : Int)) (by kernel_rfl) (pu (.pointer (some ⟨b202, 3, none⟩)) (by kernel_rfl) (seq_c (s_load1 hI 0 (.slice Ap0_3 lp0_3.length cp0_3) Try.isAgg26 rfl rfl rfl ?_)))))))))
 refine pu (iv ((lp0_3.length : Nat) : Int)) (by kernel_rfl) (ifE hF (fun h188 hF => ?_) (fun h188 hF => ?_))
 ·
  refine seq_c (s_neq rfl rfl (fun h => absurd (a := (lp1.length : Int) = (lp0_3.length : Int)) h188 h) (fun _ => ?_))
  refine seq_nil (wp_condF rfl (wp_skip (wp_seq (rgn (by kernel_rfl) (pu (iv 0) (by kernel_rfl) (seq_nil (wp_seq (wp_seq (rgn (by kernel_rfl) ?_)))))))))
  refine pu (.slice Ap1 lp1.length cp1) (by kernel_rfl) (pu (iv ((lp1.length : Nat) : Int)) (by kernel_rfl) (pu (iv 0) (by kernel_rfl) (seq_nil (wp_block ?_))))
  refine wp_loop (fun m ρ w => ∃ (next_369 : Int) (v370 : Int) (mm : Nat), Agree ρ [(2, .pointer (some ⟨b202, 0, none⟩)), (5, iv next_369), (15, .slice Ap1 lp1.length cp1), (16, iv (lp1.length : Int)), (17, iv v370)] ∧ Inv [] w0 w [(some b202, blk [.slice Ap0_0 lp0_0.length cp0_0, .slice Ap0_1 lp0_1.length cp0_1, .map (some bp0_2), .slice Ap0_3 lp0_3.length cp0_3] 120)] ∧ F81l1 lp0_3 lp1 mm next_369 v370 = some r ∧ mm = m) (m := N) ⟨0, 0, N, ⟨rfl, rfl, rfl, rfl, rfl, trivial⟩, hI.pickL [0] (by decide) rfl, hF, rfl⟩ ?_
  rintro m ρ w ⟨next_369, v370, mm, hag, hI, hF, hm⟩
  subst hm; obtain ⟨ρ, rfl⟩ := hag.form; clear hag
  obtain _ | m1 := mm
  ·cases (show (none : Option Bool) = some r from hF)
  replace hF : F81b1 lp0_3 lp1 (F81l1 lp0_3 lp1 m1) next_369 v370 = some r := hF; unfold F81b1 at hF
  refine wp_seq (rgn (by kernel_rfl) (ifE hF (fun h339 hF => ?_) (fun h339 hF => ?_)))
  ·
   refine seq_c (s_lss rfl rfl (fun _ => ?_) (fun h => absurd (a := v370 < (lp1.length : Int)) h339 h))
   refine seq_nil (wp_seq (wp_condT rfl (wp_skip (wp_seq (wp_block ?_)))))
   refine wp_seq (rgn (by kernel_rfl) (pu (iv v370) (by kernel_rfl) (gdE hF (fun h354 hF => ?_))))
   refine bindE hF (fun x387 hx388 hF => ?_)
   obtain ⟨b389, o390, hA391, hb392, he393⟩ := hCp1.at_ eDr_len (by decide) hx388
   refine seq_c (s_indexA (v370).toNat Try.underlying63 Try.sizeOf49 rfl hA391 rfl (Int.toNat_of_nonneg h354).symm (lt_n hx388 rfl) ?_)
   refine seq_c (s_loadBK hI [iv x387.fr, iv x387.to] Try.isAgg49 Try.sizeOf49 rfl rfl hb392 (by simp) he393 ?_)
   refine seq_c (s_allocI hI [iv 0, iv 0] Try.zeroValue49 rfl ?_)
   intro b394 w hI
   refine pu (iv v370) (by kernel_rfl) (seq_c (s_store hI 0 2 [iv x387.fr, iv x387.to] Try.sizeOf49 rfl rfl rfl rfl rfl (Nat.le_of_ble_eq_true rfl) ?_))
   intro w hI
   refine seq_nil (wp_seq (rgn (by kernel_rfl) (pu (.pointer (some ⟨b202, 3, none⟩)) (by kernel_rfl) (seq_c (s_load1 hI 1 (.slice Ap0_3 lp0_3.length cp0_3) Try.isAgg26 rfl rfl rfl ?_)))))
   refine pu (iv v370) (by kernel_rfl) (bindE hF (fun x395 hx396 hF => ?_))
   obtain ⟨b397, o398, hA399, hb400, he401⟩ := hCp0_3.at_ eCl_len (by decide) hx396
   refine seq_c (s_indexA (v370).toNat Try.underlying26 Try.sizeOf34 rfl hA399 rfl (Int.toNat_of_nonneg h354).symm (lt_n hx396 rfl) ?_)
   refine seq_c (s_loadBK hI [iv x395.fam, iv x395.hd, iv x395.fr, iv x395.to] Try.isAgg34 Try.sizeOf34 rfl rfl hb400 (by simp) he401 ?_)
   refine seq_c (s_allocI hI [iv 0, iv 0, iv 0, iv 0] Try.zeroValue34 rfl ?_)
   intro b402 w hI
   refine seq_c (s_store hI 0 4 [iv x395.fam, iv x395.hd, iv x395.fr, iv x395.to] Try.sizeOf34 rfl rfl rfl rfl rfl (Nat.le_of_ble_eq_true rfl) ?_)
   intro w hI
   refine seq_nil (wp_seq (wp_seq (rgn (by kernel_rfl) (pu (.pointer (some ⟨b394, 0, none⟩)) (by kernel_rfl) (seq_c (s_load1 hI 1 (iv x387.fr) Try.isAgg3 rfl rfl rfl ?_))))))
   refine pu (iv next_369) (by kernel_rfl) (pu (.pointer (some ⟨b402, 2, none⟩)) (by kernel_rfl) (seq_c (s_load1 hI 0 (iv x395.fr) Try.isAgg3 rfl rfl rfl ?_)))
   refine pu (iv (if x395.fr > next_369 then x395.fr else next_369)) (by kernel_rfl) (ifE hF (fun h364 hF => ?_) (fun h364 hF => ?_))
   ·
    refine seq_c (s_lss rfl rfl (fun _ => ?_) (fun h => absurd (a := x387.fr < (if x395.fr > next_369 then x395.fr else next_369)) h364 h))
    refine pu (.bool true) (by kernel_rfl) (of_ (by kernel_rfl) (of_ (by kernel_rfl) (of_ (by kernel_rfl) (of_ (by kernel_rfl) (of_ (by kernel_rfl) (pu (.bool true) (by kernel_rfl) (pu (.bool true) (by kernel_rfl) (of_ (by kernel_rfl) (of_ (by kernel_rfl) ?_)))))))))
    refine of_ (by kernel_rfl) (of_ (by kernel_rfl) (of_ (by kernel_rfl) (pu (.bool true) (by kernel_rfl) (seq_nil (wp_condT rfl (wp_seq (rgn (by kernel_rfl) (pu (.bool false) (by kernel_rfl) (seq_nil ?_)))))))))
    refine wp_ret ?_
    replace hF := Option.some.inj hF; subst hF
    exact ⟨.bool false, Ret.r1 rfl rfl, ⟨rfl, hI.below⟩⟩
   ·
    refine seq_c (s_lss rfl rfl (fun h => absurd (a := x387.fr < (if x395.fr > next_369 then x395.fr else next_369)) h h364) (fun _ => ?_))
    refine pu (.bool false) (by kernel_rfl) (puo (.pointer (some ⟨b394, 0, none⟩)) ⟨(by kernel_rfl), (by kernel_rfl)⟩ (seq_on (by kernel_rfl) (s_load1 hI 1 (iv x387.fr) Try.isAgg3 rfl rfl rfl ?_)))
    refine puo (.pointer (some ⟨b394, 1, none⟩)) ⟨(by kernel_rfl), (by kernel_rfl)⟩ (seq_on (by kernel_rfl) (s_load1 hI 1 (iv x387.to) Try.isAgg3 rfl rfl rfl ?_))
    refine ifE hF (fun h365 hF => ?_) (fun h365 hF => ?_)
    ·
     refine seq_on (by kernel_rfl) (s_gtr rfl rfl (fun _ => ?_) (fun h => absurd (a := x387.to < x387.fr) h365 h))
     refine pu (.bool true) (by kernel_rfl) (pu (.bool true) (by kernel_rfl) (of_ (by kernel_rfl) (of_ (by kernel_rfl) (of_ (by kernel_rfl) (of_ (by kernel_rfl) (of_ (by kernel_rfl) (pu (.bool true) (by kernel_rfl) (seq_nil (wp_condT rfl ?_)))))))))
     refine wp_seq (rgn (by kernel_rfl) (pu (.bool false) (by kernel_rfl) (seq_nil (wp_ret ?_))))
     replace hF := Option.some.inj hF; subst hF
     exact ⟨.bool false, Ret.r1 rfl rfl, ⟨rfl, hI.below⟩⟩
    ·
     refine seq_on (by kernel_rfl) (s_gtr rfl rfl (fun h => absurd (a := x387.to < x387.fr) h h365) (fun _ => ?_))
     refine pu (.bool false) (by kernel_rfl) (pu (.bool false) (by kernel_rfl) (puo (.pointer (some ⟨b394, 1, none⟩)) ⟨(by kernel_rfl), (by kernel_rfl)⟩ (seq_on (by kernel_rfl) (s_load1 hI 1 (iv x387.to) Try.isAgg3 rfl rfl rfl ?_))))
     refine puo (.pointer (some ⟨b402, 3, none⟩)) ⟨(by kernel_rfl), (by kernel_rfl)⟩ (seq_on (by kernel_rfl) (s_load1 hI 0 (iv x395.to) Try.isAgg3 rfl rfl rfl ?_))
     refine ifE hF (fun h366 hF => ?_) (fun h366 hF => ?_)
     ·
      refine seq_on (by kernel_rfl) (s_gtr rfl rfl (fun _ => ?_) (fun h => absurd (a := x395.to < x387.to) h366 h))
      refine pu (.bool true) (by kernel_rfl) (seq_nil (wp_condT rfl (wp_seq (rgn (by kernel_rfl) (pu (.bool false) (by kernel_rfl) (seq_nil (wp_ret ?_)))))))
      replace hF := Option.some.inj hF; subst hF
      exact ⟨.bool false, Ret.r1 rfl rfl, ⟨rfl, hI.below⟩⟩
     ·
      refine seq_on (by kernel_rfl) (s_gtr rfl rfl (fun h => absurd (a := x395.to < x387.to) h h366) (fun _ => ?_))
      refine pu (.bool false) (by kernel_rfl) (seq_nil (wp_condF rfl (wp_skip (rgn (by kernel_rfl) (pu (.pointer (some ⟨b394, 1, none⟩)) (by kernel_rfl) (seq_c (s_load1 hI 1 (iv x387.to) Try.isAgg3 rfl rfl rfl ?_)))))))
      refine ckE hF (fun h367 hF => ?_)
      refine seq_c (s_add rfl rfl h367 ?_)
      refine pu (iv (x387.to + 1)) (by kernel_rfl) (seq_nil (rgn (by kernel_rfl) (ckE hF (fun h368 hF => ?_))))
      refine seq_c (s_add rfl rfl h368 ?_)
      refine pu (iv (v370 + 1)) (by kernel_rfl) (seq_nil ?_)
      exact ⟨rfl, m1, Nat.lt_succ_self _, ⟨x387.to + 1, v370 + 1, m1, ⟨rfl, rfl, rfl, rfl, rfl, trivial⟩, hI.pickL [2] (by decide) rfl, hF, rfl⟩⟩
  ·
   refine seq_c (s_lss rfl rfl (fun h => absurd (a := v370 < (lp1.length : Int)) h h339) (fun _ => ?_))
   refine seq_nil (wp_seq (wp_condF rfl (wp_exit ?_)))
   refine wp_seq (rgn (by kernel_rfl) (pu (.bool true) (by kernel_rfl) (seq_nil (wp_ret ?_))))
   replace hF := Option.some.inj hF; subst hF
   exact ⟨.bool true, Ret.r1 rfl rfl, ⟨rfl, hI.below⟩⟩
 ·
  refine seq_c (s_neq rfl rfl (fun _ => ?_) (fun h => absurd (a := (lp1.length : Int) = (lp0_3.length : Int)) h h188))
  refine seq_nil (wp_condT rfl (wp_seq (rgn (by kernel_rfl) (pu (.bool false) (by kernel_rfl) (seq_nil (wp_ret ?_))))))
  replace hF := Option.some.inj hF; subst hF
  exact ⟨.bool false, Ret.r1 rfl rfl, ⟨rfl, hI.below⟩⟩


theorem L43 (w0 : World) (Ap0_0 : Option Addr) (cp0_0 : Nat) (lp0_0 : List Ch) (Ap0_1 : Option Addr) (cp0_1 : Nat) (lp0_1 : List Ce) (Ap1 : Option Addr) (cp1 : Nat) (lp1 : List Cl) (Ap2 : Option Addr) (cp2 : Nat) (lp2 : List Dr) (hCp0_0 : Cells w0 Ap0_0 (flat eCh lp0_0)) (hMp0_0 : lp0_0.length ≤ 9223372036854775807) (hKp0_0 : lp0_0.length ≤ cp0_0) (hCp0_1 : Cells w0 Ap0_1 (flat eCe lp0_1)) (hMp0_1 : lp0_1.length ≤ 9223372036854775807) (hKp0_1 : lp0_1.length ≤ cp0_1) (hCp1 : Cells w0 Ap1 (flat eCl lp1)) (hMp1 : lp1.length ≤ 9223372036854775807) (hKp1 : lp1.length ≤ cp1) (hCp2 : Cells w0 Ap2 (flat eDr lp2)) (hMp2 : lp2.length ≤ 9223372036854775807) (hKp2 : lp2.length ≤ cp2) (N : Nat) (r : Int) (hF : F43 N lp0_0 lp0_1 lp1 lp2 = some r) : Does Try.prog 43 [.agg #[.slice Ap0_0 lp0_0.length cp0_0, .slice Ap0_1 lp0_1.length cp0_1], .slice Ap1 lp1.length cp1, .slice Ap2 lp2.length cp2] w0 fun v w => v = .int .i64 r ∧ Below w0.heap.size w0 w := by
 refine calls_of (n := 24) Try.func43 rfl Try.ntmps43 rfl ?_
 have hI := Inv.start w0
 unfold F43 at hF
 refine wp_seq (rgn (by kernel_rfl) (seq_c (s_boxI hI [.slice Ap0_0 lp0_0.length cp0_0, .slice Ap0_1 lp0_1.length cp0_1] rfl ?_)))
 intro b39 w hI
 refine pu (iv 0) (by kernel_rfl) (seq_nil (wp_seq (rgn (by kernel_rfl) (seq_c (s_loadK hI 0 2 [.slice Ap0_0 lp0_0.length cp0_0, .slice Ap0_1 lp0_1.length cp0_1] Try.isAgg25 Try.sizeOf25 rfl rfl rfl rfl ?_)))))
 refine pu (.slice Ap1 lp1.length cp1) (by kernel_rfl) (bindS3E hF (fun y55 hy56 hF => ?_) (fun y57 hy58 hF => ?_) (fun y59 hy60 hF => ?_))
 ·
  refine seq_c (s_callv hI 64 [.agg #[.slice Ap0_0 lp0_0.length cp0_0, .slice Ap0_1 lp0_1.length cp0_1], .slice Ap1 lp1.length cp1] (.tuple #[.agg #[.slice none 0 0, .slice none 0 0, .map none, .slice none 0 0], iv 42]) (by kernel_rfl) (L64 _ Ap0_0 cp0_0 lp0_0 Ap0_1 cp0_1 lp0_1 Ap1 cp1 lp1 (hCp0_0.inv0 hI) hMp0_0 hKp0_0 (hCp0_1.inv0 hI) hMp0_1 hKp0_1 (hCp1.inv0 hI) hMp1 hKp1 N _ hy56) ?_)
  intro w hI
  refine pu (.tuple #[.agg #[.slice none 0 0, .slice none 0 0, .map none, .slice none 0 0], iv 42]) (by kernel_rfl) (pu (.agg #[.slice none 0 0, .slice none 0 0, .map none, .slice none 0 0]) (by kernel_rfl) (pu (iv 42) (by kernel_rfl) (seq_c (s_allocI hI [.slice none 0 0, .slice none 0 0, .map none, .slice none 0 0] Try.zeroValue120 rfl ?_))))
  intro b61 w hI
  refine seq_c (s_store hI 0 4 [.slice none 0 0, .slice none 0 0, .map none, .slice none 0 0] Try.sizeOf120 rfl rfl rfl rfl rfl (Nat.le_of_ble_eq_true rfl) ?_)
  intro w hI
  refine pu (iv 42) (by kernel_rfl) (seq_nil (wp_seq (wp_seq (rgn (by kernel_rfl) (pu (iv 42) (by kernel_rfl) (seq_c (s_eql rfl rfl (fun h => absurd (a := 42 = 0) h (by decide)) (fun _ => ?_))))))))
  refine pu (.bool false) (by kernel_rfl) (of_ (by kernel_rfl) (of_ (by kernel_rfl) (of_ (by kernel_rfl) (of_ (by kernel_rfl) (pu (.bool false) (by kernel_rfl) (seq_nil (wp_condF rfl (wp_skip (wp_seq ?_)))))))))
  refine rgn (by kernel_rfl) (pu (iv 42) (by kernel_rfl) (pu (iv 42) (by kernel_rfl) (seq_nil (wp_ret ?_))))
  replace hF := Option.some.inj hF; subst hF
  exact ⟨iv 42, Ret.r1 rfl rfl, ⟨rfl, hI.below⟩⟩
 ·
  refine seq_c (s_callv hI 64 [.agg #[.slice Ap0_0 lp0_0.length cp0_0, .slice Ap0_1 lp0_1.length cp0_1], .slice Ap1 lp1.length cp1] (.tuple #[.agg #[.slice none 0 0, .slice none 0 0, .map none, .slice none 0 0], iv 44]) (by kernel_rfl) (L64 _ Ap0_0 cp0_0 lp0_0 Ap0_1 cp0_1 lp0_1 Ap1 cp1 lp1 (hCp0_0.inv0 hI) hMp0_0 hKp0_0 (hCp0_1.inv0 hI) hMp0_1 hKp0_1 (hCp1.inv0 hI) hMp1 hKp1 N _ hy58) ?_)
  intro w hI
  refine pu (.tuple #[.agg #[.slice none 0 0, .slice none 0 0, .map none, .slice none 0 0], iv 44]) (by kernel_rfl) (pu (.agg #[.slice none 0 0, .slice none 0 0, .map none, .slice none 0 0]) (by kernel_rfl) (pu (iv 44) (by kernel_rfl) (seq_c (s_allocI hI [.slice none 0 0, .slice none 0 0, .map none, .slice none 0 0] Try.zeroValue120 rfl ?_))))
  intro b62 w hI
  refine seq_c (s_store hI 0 4 [.slice none 0 0, .slice none 0 0, .map none, .slice none 0 0] Try.sizeOf120 rfl rfl rfl rfl rfl (Nat.le_of_ble_eq_true rfl) ?_)
  intro w hI
  refine pu (iv 44) (by kernel_rfl) (seq_nil (wp_seq (wp_seq (rgn (by kernel_rfl) (pu (iv 44) (by kernel_rfl) (seq_c (s_eql rfl rfl (fun h => absurd (a := 44 = 0) h (by decide)) (fun _ => ?_))))))))
  refine pu (.bool false) (by kernel_rfl) (of_ (by kernel_rfl) (of_ (by kernel_rfl) (of_ (by kernel_rfl) (of_ (by kernel_rfl) (pu (.bool false) (by kernel_rfl) (seq_nil (wp_condF rfl (wp_skip (wp_seq ?_)))))))))
  refine rgn (by kernel_rfl) (pu (iv 44) (by kernel_rfl) (pu (iv 44) (by kernel_rfl) (seq_nil (wp_ret ?_))))
  replace hF := Option.some.inj hF; subst hF
  exact ⟨iv 44, Ret.r1 rfl rfl, ⟨rfl, hI.below⟩⟩
 ·
  refine seq_c (s_call 64 [.agg #[.slice Ap0_0 lp0_0.length cp0_0, .slice Ap0_1 lp0_1.length cp0_1], .slice Ap1 lp1.length cp1] (by kernel_rfl) (L64 _ Ap0_0 cp0_0 lp0_0 Ap0_1 cp0_1 lp0_1 Ap1 cp1 lp1 (hCp0_0.inv0 hI) hMp0_0 hKp0_0 (hCp0_1.inv0 hI) hMp0_1 hKp0_1 (hCp1.inv0 hI) hMp1 hKp1 N _ hy60) ?_)
  rintro v w ⟨b63, es64, ck65, rfl, hN, ho66, hM67⟩
  have hI := hI.join hN; clear hN
  refine pu (.tuple #[.agg #[.slice Ap0_0 lp0_0.length cp0_0, .slice Ap0_1 lp0_1.length cp0_1, .map (some b63), .slice Ap1 lp1.length cp1], iv 0]) (by kernel_rfl) (pu (.agg #[.slice Ap0_0 lp0_0.length cp0_0, .slice Ap0_1 lp0_1.length cp0_1, .map (some b63), .slice Ap1 lp1.length cp1]) (by kernel_rfl) (pu (iv 0) (by kernel_rfl) (seq_c (s_allocI hI [.slice none 0 0, .slice none 0 0, .map none, .slice none 0 0] Try.zeroValue120 rfl ?_))))
  intro b68 w hI
  refine seq_c (s_store hI 0 4 [.slice Ap0_0 lp0_0.length cp0_0, .slice Ap0_1 lp0_1.length cp0_1, .map (some b63), .slice Ap1 lp1.length cp1] Try.sizeOf120 rfl rfl rfl rfl rfl (Nat.le_of_ble_eq_true rfl) ?_)
  intro w hI
  refine pu (iv 0) (by kernel_rfl) (seq_nil (wp_seq (wp_seq (rgn (by kernel_rfl) (pu (iv 0) (by kernel_rfl) (seq_c (s_eql rfl rfl (fun _ => ?_) (fun h => absurd (a := 0 = 0) (by decide) h))))))))
  refine pu (.bool true) (by kernel_rfl) (seq_on (by kernel_rfl) (s_loadK hI 0 4 [.slice Ap0_0 lp0_0.length cp0_0, .slice Ap0_1 lp0_1.length cp0_1, .map (some b63), .slice Ap1 lp1.length cp1] Try.isAgg120 Try.sizeOf120 rfl rfl rfl rfl ?_))
  refine puo (.slice Ap2 lp2.length cp2) ⟨(by kernel_rfl), (by kernel_rfl)⟩ (bindE hF (fun y75 hy76 hF => ?_))
  refine ifE hF (fun h8 hF => ?_) (fun h8 hF => ?_)
  ·
   refine seq_on (by kernel_rfl) (s_callv hI 81 [.agg #[.slice Ap0_0 lp0_0.length cp0_0, .slice Ap0_1 lp0_1.length cp0_1, .map (some b63), .slice Ap1 lp1.length cp1], .slice Ap2 lp2.length cp2] (.bool true) (by kernel_rfl) (Does.mono (L81 _ Ap0_0 cp0_0 lp0_0 Ap0_1 cp0_1 lp0_1 b63 es64 ck65 y59 Ap1 cp1 lp1 Ap2 cp2 lp2 (hCp0_0.inv0 hI) hMp0_0 hKp0_0 (hCp0_1.inv0 hI) hMp0_1 hKp0_1 (hI.has 1 _ _ rfl).1 ho66 hM67 (hCp1.inv0 hI) hMp1 hKp1 (hCp2.inv0 hI) hMp2 hKp2 N _ hy76) (fun v' w' h => ⟨h.1.trans (congrArg Value.bool h8), h.2⟩)) ?_)
   intro w hI
   refine puo (.bool false) ⟨(by kernel_rfl), (by kernel_rfl)⟩ (pu (.bool false) (by kernel_rfl) (seq_nil (wp_condF rfl (wp_skip (wp_seq (rgn (by kernel_rfl) (pu (iv 0) (by kernel_rfl) (pu (iv 0) (by kernel_rfl) (seq_nil ?_)))))))))
   refine wp_ret ?_
   replace hF := Option.some.inj hF; subst hF
   exact ⟨iv 0, Ret.r1 rfl rfl, ⟨rfl, hI.below⟩⟩
  ·
   refine seq_on (by kernel_rfl) (s_callv hI 81 [.agg #[.slice Ap0_0 lp0_0.length cp0_0, .slice Ap0_1 lp0_1.length cp0_1, .map (some b63), .slice Ap1 lp1.length cp1], .slice Ap2 lp2.length cp2] (.bool false) (by kernel_rfl) (Does.mono (L81 _ Ap0_0 cp0_0 lp0_0 Ap0_1 cp0_1 lp0_1 b63 es64 ck65 y59 Ap1 cp1 lp1 Ap2 cp2 lp2 (hCp0_0.inv0 hI) hMp0_0 hKp0_0 (hCp0_1.inv0 hI) hMp0_1 hKp0_1 (hI.has 1 _ _ rfl).1 ho66 hM67 (hCp1.inv0 hI) hMp1 hKp1 (hCp2.inv0 hI) hMp2 hKp2 N _ hy76) (fun v' w' h => ⟨h.1.trans (congrArg Value.bool (Bool.eq_false_iff.2 h8)), h.2⟩)) ?_)
   intro w hI
   refine puo (.bool true) ⟨(by kernel_rfl), (by kernel_rfl)⟩ (pu (.bool true) (by kernel_rfl) (seq_nil (wp_condT rfl (wp_seq (rgn (by kernel_rfl) (pu (iv 46) (by kernel_rfl) (seq_nil (wp_ret ?_))))))))
   replace hF := Option.some.inj hF; subst hF
   exact ⟨iv 46, Ret.r1 rfl rfl, ⟨rfl, hI.below⟩⟩


theorem L45 (w0 : World) (Ap0_0 : Option Addr) (cp0_0 : Nat) (lp0_0 : List Ch) (Ap0_1 : Option Addr) (cp0_1 : Nat) (lp0_1 : List Ce) (Ap1 : Option Addr) (cp1 : Nat) (lp1 : List Cl) (p2 : Cw) (hCp0_0 : Cells w0 Ap0_0 (flat eCh lp0_0)) (hMp0_0 : lp0_0.length ≤ 9223372036854775807) (hKp0_0 : lp0_0.length ≤ cp0_0) (hCp0_1 : Cells w0 Ap0_1 (flat eCe lp0_1)) (hMp0_1 : lp0_1.length ≤ 9223372036854775807) (hKp0_1 : lp0_1.length ≤ cp0_1) (hCp1 : Cells w0 Ap1 (flat eCl lp1)) (hMp1 : lp1.length ≤ 9223372036854775807) (hKp1 : lp1.length ≤ cp1) (N : Nat) (r : Int) (hF : F45 N lp0_0 lp0_1 lp1 p2 = some r) : Does Try.prog 45 [.agg #[.slice Ap0_0 lp0_0.length cp0_0, .slice Ap0_1 lp0_1.length cp0_1], .slice Ap1 lp1.length cp1, .agg #[.int .i64 p2.fst, .int .i64 p2.lst]] w0 fun v w => v = .int .i64 r ∧ Below w0.heap.size w0 w := by
 refine calls_of (n := 45) Try.func45 rfl Try.ntmps45 rfl ?_
 have hI := Inv.start w0
 unfold F45 at hF
 refine wp_seq (rgn (by kernel_rfl) (seq_c (s_boxI hI [.slice Ap0_0 lp0_0.length cp0_0, .slice Ap0_1 lp0_1.length cp0_1] rfl ?_)))
 intro b41 w hI
 refine seq_c (s_boxI hI [iv p2.fst, iv p2.lst] rfl ?_)
 intro b42 w hI
 refine pu (iv 0) (by kernel_rfl) (seq_nil (wp_seq (rgn (by kernel_rfl) (seq_c (s_loadK hI 1 2 [.slice Ap0_0 lp0_0.length cp0_0, .slice Ap0_1 lp0_1.length cp0_1] Try.isAgg25 Try.sizeOf25 rfl rfl rfl rfl ?_)))))
 refine pu (.slice Ap1 lp1.length cp1) (by kernel_rfl) (bindS3E hF (fun y58 hy59 hF => ?_) (fun y60 hy61 hF => ?_) (fun y62 hy63 hF => ?_))
 ·
  refine seq_c (s_callv hI 64 [.agg #[.slice Ap0_0 lp0_0.length cp0_0, .slice Ap0_1 lp0_1.length cp0_1], .slice Ap1 lp1.length cp1] (.tuple #[.agg #[.slice none 0 0, .slice none 0 0, .map none, .slice none 0 0], iv 42]) (by kernel_rfl) (L64 _ Ap0_0 cp0_0 lp0_0 Ap0_1 cp0_1 lp0_1 Ap1 cp1 lp1 (hCp0_0.inv0 hI) hMp0_0 hKp0_0 (hCp0_1.inv0 hI) hMp0_1 hKp0_1 (hCp1.inv0 hI) hMp1 hKp1 N _ hy59) ?_)
  intro w hI
  refine pu (.tuple #[.agg #[.slice none 0 0, .slice none 0 0, .map none, .slice none 0 0], iv 42]) (by kernel_rfl) (pu (.agg #[.slice none 0 0, .slice none 0 0, .map none, .slice none 0 0]) (by kernel_rfl) (pu (iv 42) (by kernel_rfl) (seq_c (s_allocI hI [.slice none 0 0, .slice none 0 0, .map none, .slice none 0 0] Try.zeroValue120 rfl ?_))))
  intro b64 w hI
  refine seq_c (s_store hI 0 4 [.slice none 0 0, .slice none 0 0, .map none, .slice none 0 0] Try.sizeOf120 rfl rfl rfl rfl rfl (Nat.le_of_ble_eq_true rfl) ?_)
  intro w hI
  refine pu (iv 42) (by kernel_rfl) (seq_nil (wp_seq (wp_seq (rgn (by kernel_rfl) (pu (iv 42) (by kernel_rfl) (seq_c (s_neq rfl rfl (fun _ => ?_) (fun h => absurd (a := 42 = 0) h (by decide)))))))))
  refine seq_nil (wp_condT rfl (wp_seq (rgn (by kernel_rfl) (pu (iv 42) (by kernel_rfl) (pu (iv 42) (by kernel_rfl) (seq_nil (wp_ret ?_)))))))
  replace hF := Option.some.inj hF; subst hF
  exact ⟨iv 42, Ret.r1 rfl rfl, ⟨rfl, hI.below⟩⟩
 ·
  refine seq_c (s_callv hI 64 [.agg #[.slice Ap0_0 lp0_0.length cp0_0, .slice Ap0_1 lp0_1.length cp0_1], .slice Ap1 lp1.length cp1] (.tuple #[.agg #[.slice none 0 0, .slice none 0 0, .map none, .slice none 0 0], iv 44]) (by kernel_rfl) (L64 _ Ap0_0 cp0_0 lp0_0 Ap0_1 cp0_1 lp0_1 Ap1 cp1 lp1 (hCp0_0.inv0 hI) hMp0_0 hKp0_0 (hCp0_1.inv0 hI) hMp0_1 hKp0_1 (hCp1.inv0 hI) hMp1 hKp1 N _ hy61) ?_)
  intro w hI
  refine pu (.tuple #[.agg #[.slice none 0 0, .slice none 0 0, .map none, .slice none 0 0], iv 44]) (by kernel_rfl) (pu (.agg #[.slice none 0 0, .slice none 0 0, .map none, .slice none 0 0]) (by kernel_rfl) (pu (iv 44) (by kernel_rfl) (seq_c (s_allocI hI [.slice none 0 0, .slice none 0 0, .map none, .slice none 0 0] Try.zeroValue120 rfl ?_))))
  intro b65 w hI
  refine seq_c (s_store hI 0 4 [.slice none 0 0, .slice none 0 0, .map none, .slice none 0 0] Try.sizeOf120 rfl rfl rfl rfl rfl (Nat.le_of_ble_eq_true rfl) ?_)
  intro w hI
  refine pu (iv 44) (by kernel_rfl) (seq_nil (wp_seq (wp_seq (rgn (by kernel_rfl) (pu (iv 44) (by kernel_rfl) (seq_c (s_neq rfl rfl (fun _ => ?_) (fun h => absurd (a := 44 = 0) h (by decide)))))))))
  refine seq_nil (wp_condT rfl (wp_seq (rgn (by kernel_rfl) (pu (iv 44) (by kernel_rfl) (pu (iv 44) (by kernel_rfl) (seq_nil (wp_ret ?_)))))))
  replace hF := Option.some.inj hF; subst hF
  exact ⟨iv 44, Ret.r1 rfl rfl, ⟨rfl, hI.below⟩⟩
 ·
  refine seq_c (s_call 64 [.agg #[.slice Ap0_0 lp0_0.length cp0_0, .slice Ap0_1 lp0_1.length cp0_1], .slice Ap1 lp1.length cp1] (by kernel_rfl) (L64 _ Ap0_0 cp0_0 lp0_0 Ap0_1 cp0_1 lp0_1 Ap1 cp1 lp1 (hCp0_0.inv0 hI) hMp0_0 hKp0_0 (hCp0_1.inv0 hI) hMp0_1 hKp0_1 (hCp1.inv0 hI) hMp1 hKp1 N _ hy63) ?_)
  rintro v w ⟨b66, es67, ck68, rfl, hN, ho69, hM70⟩
  have hI := hI.join hN; clear hN
  refine pu (.tuple #[.agg #[.slice Ap0_0 lp0_0.length cp0_0, .slice Ap0_1 lp0_1.length cp0_1, .map (some b66), .slice Ap1 lp1.length cp1], iv 0]) (by kernel_rfl) (pu (.agg #[.slice Ap0_0 lp0_0.length cp0_0, .slice Ap0_1 lp0_1.length cp0_1, .map (some b66), .slice Ap1 lp1.length cp1]) (by kernel_rfl) (pu (iv 0) (by kernel_rfl) (seq_c (s_allocI hI [.slice none 0 0, .slice none 0 0, .map none, .slice none 0 0] Try.zeroValue120 rfl ?_))))
  intro b71 w hI
  refine seq_c (s_store hI 0 4 [.slice Ap0_0 lp0_0.length cp0_0, .slice Ap0_1 lp0_1.length cp0_1, .map (some b66), .slice Ap1 lp1.length cp1] Try.sizeOf120 rfl rfl rfl rfl rfl (Nat.le_of_ble_eq_true rfl) ?_)
  intro w hI
  refine pu (iv 0) (by kernel_rfl) (seq_nil (wp_seq (wp_seq (rgn (by kernel_rfl) (pu (iv 0) (by kernel_rfl) (seq_c (s_neq rfl rfl (fun h => absurd (a := 0 = 0) (by decide) h) (fun _ => ?_))))))))
  refine seq_nil (wp_condF rfl (wp_skip (wp_cutO (fun ρ w => ∃ (inOrder_72 : Bool), Agree ρ [(5, .pointer (some ⟨b42, 0, none⟩)), (7, .pointer (some ⟨b71, 0, none⟩)), (9, .bool inOrder_72)] ∧ Inv [] w0 w [(some b42, blk [iv p2.fst, iv p2.lst] 65), (some b71, blk [.slice Ap0_0 lp0_0.length cp0_0, .slice Ap0_1 lp0_1.length cp0_1, .map (some b66), .slice Ap1 lp1.length cp1] 120), (some b66, mobj es67 ck68)] ∧ F45j1 lp0_0 lp0_1 lp1 p2 y62 inOrder_72 = some r) ?_ ?_)))
  ·
   refine rgn (by kernel_rfl) (pu (.pointer (some ⟨b42, 0, none⟩)) (by kernel_rfl) (seq_c (s_load1 hI 2 (iv p2.fst) Try.isAgg3 rfl rfl rfl ?_)))
   refine ifE hF (fun h18 hF => ?_) (fun h18 hF => ?_)
   ·
    refine seq_c (s_geq rfl rfl (fun _ => ?_) (fun h => absurd (a := 0 ≤ p2.fst) h18 h))
    refine pu (.bool true) (by kernel_rfl) (puo (.pointer (some ⟨b42, 0, none⟩)) ⟨(by kernel_rfl), (by kernel_rfl)⟩ (seq_on (by kernel_rfl) (s_load1 hI 2 (iv p2.fst) Try.isAgg3 rfl rfl rfl ?_)))
    refine puo (.pointer (some ⟨b42, 1, none⟩)) ⟨(by kernel_rfl), (by kernel_rfl)⟩ (seq_on (by kernel_rfl) (s_load1 hI 2 (iv p2.lst) Try.isAgg3 rfl rfl rfl ?_))
    refine ifE hF (fun h19 hF => ?_) (fun h19 hF => ?_)
    ·
     refine seq_on (by kernel_rfl) (s_leq rfl rfl (fun _ => ?_) (fun h => absurd (a := p2.fst ≤ p2.lst) h19 h))
     refine pu (.bool true) (by kernel_rfl) (pu (.bool true) (by kernel_rfl) (puo (.pointer (some ⟨b42, 1, none⟩)) ⟨(by kernel_rfl), (by kernel_rfl)⟩ (seq_on (by kernel_rfl) (s_load1 hI 2 (iv p2.lst) Try.isAgg3 rfl rfl rfl ?_))))
     refine puo (.slice Ap1 lp1.length cp1) ⟨(by kernel_rfl), (by kernel_rfl)⟩ (puo (iv ((lp1.length : Nat) : Int)) ⟨(by kernel_rfl), (by kernel_rfl)⟩ (ifE hF (fun h20 hF => ?_) (fun h20 hF => ?_)))
     ·
      refine seq_on (by kernel_rfl) (s_lss rfl rfl (fun _ => ?_) (fun h => absurd (a := p2.lst < (lp1.length : Int)) h20 h))
      refine pu (.bool true) (by kernel_rfl) (pu (.bool true) (by kernel_rfl) (seq_nil ?_))
      exact .inl ⟨rfl, ⟨true, ⟨rfl, rfl, rfl, trivial⟩, hI.pickL [2, 0, 1] (by decide) rfl, hF⟩⟩
     ·
      refine seq_on (by kernel_rfl) (s_lss rfl rfl (fun h => absurd (a := p2.lst < (lp1.length : Int)) h h20) (fun _ => ?_))
      refine pu (.bool false) (by kernel_rfl) (pu (.bool false) (by kernel_rfl) (seq_nil ?_))
      exact .inl ⟨rfl, ⟨false, ⟨rfl, rfl, rfl, trivial⟩, hI.pickL [2, 0, 1] (by decide) rfl, hF⟩⟩
    ·
     refine seq_on (by kernel_rfl) (s_leq rfl rfl (fun h => absurd (a := p2.fst ≤ p2.lst) h h19) (fun _ => ?_))
     refine pu (.bool false) (by kernel_rfl) (pu (.bool false) (by kernel_rfl) (of_ (by kernel_rfl) (of_ (by kernel_rfl) (of_ (by kernel_rfl) (of_ (by kernel_rfl) (of_ (by kernel_rfl) (pu (.bool false) (by kernel_rfl) (pu (.bool false) (by kernel_rfl) (seq_nil ?_)))))))))
     exact .inl ⟨rfl, ⟨false, ⟨rfl, rfl, rfl, trivial⟩, hI.pickL [2, 0, 1] (by decide) rfl, hF⟩⟩
   ·
    refine seq_c (s_geq rfl rfl (fun h => absurd (a := 0 ≤ p2.fst) h h18) (fun _ => ?_))
    refine pu (.bool false) (by kernel_rfl) (of_ (by kernel_rfl) (of_ (by kernel_rfl) (of_ (by kernel_rfl) (of_ (by kernel_rfl) (of_ (by kernel_rfl) (pu (.bool false) (by kernel_rfl) (pu (.bool false) (by kernel_rfl) (of_ (by kernel_rfl) (of_ (by kernel_rfl) ?_)))))))))
    refine of_ (by kernel_rfl) (of_ (by kernel_rfl) (of_ (by kernel_rfl) (pu (.bool false) (by kernel_rfl) (pu (.bool false) (by kernel_rfl) (seq_nil ?_)))))
    exact .inl ⟨rfl, ⟨false, ⟨rfl, rfl, rfl, trivial⟩, hI.pickL [2, 0, 1] (by decide) rfl, hF⟩⟩
  ·intro ρ w hJ
   obtain ⟨inOrder_72, hag, hI, hF⟩ := hJ
   obtain ⟨ρ, rfl⟩ := hag.form; clear hag
   unfold F45j1 at hF
   refine wp_seq (wp_seq ?_)
   have hG := hF; rcases Bool.eq_false_or_eq_true inOrder_72 with rfl | rfl
   ·
    have hF := hG; clear hG
    refine ifE hF (fun _ hF => ?_) (fun h => absurd rfl h)
    refine rgn (by kernel_rfl) (pu (.bool true) (by kernel_rfl) (pu (.bool true) (by kernel_rfl) (seq_on (by kernel_rfl) (s_loadK hI 1 4 [.slice Ap0_0 lp0_0.length cp0_0, .slice Ap0_1 lp0_1.length cp0_1, .map (some b66), .slice Ap1 lp1.length cp1] Try.isAgg120 Try.sizeOf120 rfl rfl rfl rfl ?_))))
    refine puo (.pointer (some ⟨b42, 0, none⟩)) ⟨(by kernel_rfl), (by kernel_rfl)⟩ (seq_on (by kernel_rfl) (s_load1 hI 0 (iv p2.fst) Try.isAgg3 rfl rfl rfl ?_))
    refine puo (.pointer (some ⟨b42, 1, none⟩)) ⟨(by kernel_rfl), (by kernel_rfl)⟩ (seq_on (by kernel_rfl) (s_load1 hI 0 (iv p2.lst) Try.isAgg3 rfl rfl rfl ?_))
    refine bindE hF (fun y79 hy80 hF => ?_)
    refine ifE hF (fun h17 hF => ?_) (fun h17 hF => ?_)
    ·
     refine seq_on (by kernel_rfl) (s_callv hI 89 [.agg #[.slice Ap0_0 lp0_0.length cp0_0, .slice Ap0_1 lp0_1.length cp0_1, .map (some b66), .slice Ap1 lp1.length cp1], iv p2.fst, iv p2.lst] (.bool true) (by kernel_rfl) (Does.mono (L89 _ Ap0_0 cp0_0 lp0_0 Ap0_1 cp0_1 lp0_1 b66 es67 ck68 y62 Ap1 cp1 lp1 p2.fst p2.lst (hCp0_0.inv0 hI) hMp0_0 hKp0_0 (hCp0_1.inv0 hI) hMp0_1 hKp0_1 (hI.has 2 _ _ rfl).1 ho69 hM70 (hCp1.inv0 hI) hMp1 hKp1 _ hy80) (fun v' w' h => ⟨h.1.trans (congrArg Value.bool h17), h.2⟩)) ?_)
     intro w hI
     refine pu (.bool true) (by kernel_rfl) (seq_nil (wp_condT rfl (wp_seq (rgn (by kernel_rfl) (pu (iv 0) (by kernel_rfl) (seq_nil (wp_ret ?_)))))))
     replace hF := Option.some.inj hF; subst hF
     exact ⟨iv 0, Ret.r1 rfl rfl, ⟨rfl, hI.below⟩⟩
    ·
     refine seq_on (by kernel_rfl) (s_callv hI 89 [.agg #[.slice Ap0_0 lp0_0.length cp0_0, .slice Ap0_1 lp0_1.length cp0_1, .map (some b66), .slice Ap1 lp1.length cp1], iv p2.fst, iv p2.lst] (.bool false) (by kernel_rfl) (Does.mono (L89 _ Ap0_0 cp0_0 lp0_0 Ap0_1 cp0_1 lp0_1 b66 es67 ck68 y62 Ap1 cp1 lp1 p2.fst p2.lst (hCp0_0.inv0 hI) hMp0_0 hKp0_0 (hCp0_1.inv0 hI) hMp0_1 hKp0_1 (hI.has 2 _ _ rfl).1 ho69 hM70 (hCp1.inv0 hI) hMp1 hKp1 _ hy80) (fun v' w' h => ⟨h.1.trans (congrArg Value.bool (Bool.eq_false_iff.2 h17)), h.2⟩)) ?_)
     intro w hI
     refine pu (.bool false) (by kernel_rfl) (seq_nil (wp_condF rfl (wp_skip (wp_seq (rgn (by kernel_rfl) (pu (iv 48) (by kernel_rfl) (seq_nil (wp_ret ?_))))))))
     replace hF := Option.some.inj hF; subst hF
     exact ⟨iv 48, Ret.r1 rfl rfl, ⟨rfl, hI.below⟩⟩
   ·
    have hF := hG; clear hG
    refine ifE hF (fun h => absurd h (by decide)) (fun _ hF => ?_)
    refine rgn (by kernel_rfl) (pu (.bool false) (by kernel_rfl) (pu (.bool false) (by kernel_rfl) (of_ (by kernel_rfl) (of_ (by kernel_rfl) (of_ (by kernel_rfl) (of_ (by kernel_rfl) (of_ (by kernel_rfl) (of_ (by kernel_rfl) (pu (.bool false) (by kernel_rfl) ?_)))))))))
    refine seq_nil (wp_condF rfl (wp_skip (wp_seq (rgn (by kernel_rfl) (pu (iv 48) (by kernel_rfl) (seq_nil (wp_ret ?_)))))))
    replace hF := Option.some.inj hF; subst hF
    exact ⟨iv 48, Ret.r1 rfl rfl, ⟨rfl, hI.below⟩⟩


end Go.K
