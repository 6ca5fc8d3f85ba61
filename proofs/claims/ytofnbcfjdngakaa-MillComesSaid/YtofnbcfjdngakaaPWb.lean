/- That the functions do what the pure definitions say: walks, as tools/lift.py writes them. No condition. -/
import Derived.Test.YtofnbcfjdngakaaPWa
namespace Go.K
open Go.Proofs Go.RowKit
set_option linter.unusedVariables false
set_option linter.unusedSimpArgs false
set_option maxRecDepth 100000
attribute [local irreducible] Seq Step CallV AnyE opX
theorem L115n (N : Nat) : ∀ (w0 : World) (bR : Nat) (bA : Nat) (bF : Nat) (bRo : Nat) (taker : Int) (asked : Int) (hrs : Int) (Acom : Option Addr) (ccom : Nat) (lcom : List Cm) (zhhol : Option Nat) (nhhol : Nat) (chhol : Nat) (hL0 : Inv [bR, bA, bF, bRo] w0 w0 [(some bR, blk [.pointer (some ⟨bRo, 0, none⟩)] 115), (some bA, blk [.int .i64 asked] 3), (some bF, blk [.func (.func 115) #[] #[.pointer (some ⟨bR, 0, none⟩), .pointer (some ⟨bA, 0, none⟩), .pointer (some ⟨bF, 0, none⟩)]] 109), (some bRo, blk [.int .i64 hrs, .slice Acom lcom.length ccom, slv zhhol nhhol chhol] 93)]) (hCcom : CellsB [bR, bA, bF, bRo] w0 Acom (flat eCm lcom)) (hMcom : lcom.length ≤ 9223372036854775807) (hKcom : lcom.length ≤ ccom) (r : (Bool × Int)) (hF : F115n N taker asked hrs lcom = some r), Does Try.prog 115 [.int .i64 taker, .pointer (some ⟨bR, 0, none⟩), .pointer (some ⟨bA, 0, none⟩), .pointer (some ⟨bF, 0, none⟩)] w0 fun v w => v = .bool r.1 ∧ Inv [bR, bA, bF, bRo] w0 w [(some bR, blk [.pointer (some ⟨bRo, 0, none⟩)] 115), (some bA, blk [.int .i64 r.2] 3), (some bF, blk [.func (.func 115) #[] #[.pointer (some ⟨bR, 0, none⟩), .pointer (some ⟨bA, 0, none⟩), .pointer (some ⟨bF, 0, none⟩)]] 109), (some bRo, blk [.int .i64 hrs, .slice Acom lcom.length ccom, slv zhhol nhhol chhol] 93)] := by
  induction N with
  | zero => intro w0 bR bA bF bRo taker asked hrs Acom ccom lcom zhhol nhhol chhol hL0 hCcom hMcom hKcom r hF; cases (show (none : Option (Bool × Int)) = some r from hF)
  | succ N ih =>
   intro w0 bR bA bF bRo taker asked hrs Acom ccom lcom zhhol nhhol chhol hL0 hCcom hMcom hKcom r hF
   replace hF : F115nb N (F115n N) taker asked hrs lcom = some r := hF
   refine calls_of (n := 47) Try.func115 rfl Try.ntmps115 rfl ?_
   have hI : Inv [bR, bA, bF, bRo] w0 w0 [(some bR, blk [.pointer (some ⟨bRo, 0, none⟩)] 115), (some bA, blk [iv asked] 3), (some bF, blk [.func (.func 115) #[] #[.pointer (some ⟨bR, 0, none⟩), .pointer (some ⟨bA, 0, none⟩), .pointer (some ⟨bF, 0, none⟩)]] 109), (some bRo, blk [iv hrs, .slice Acom lcom.length ccom, slv zhhol nhhol chhol] 93)] := hL0
   unfold F115nb at hF
   refine wp_seq (rgn (by kernel_rfl) (seq_c (s_boxI hI [iv taker] rfl ?_)))
   intro b1 w hI
   refine seq_c (s_allocI hI [.bool false] Try.zeroValue4 rfl ?_)
   intro b2 w hI
   refine seq_nil (wp_seq (wp_seq (gdE hF (fun h182 hF => ?_))))
   refine bindE hF (fun x175 hx176 hF => ?_)
   refine wp_drawn2 hI [0, 1, 2, 3, 4, 5] (by decide) rfl (by kernel_rfl) (by kernel_rfl) ?_
   intro hsub
   refine al_light 0 (.pointer (some ⟨bRo, 0, none⟩)) hsub rfl (by kernel_rfl) (fun w hI => s_load1 hI 2 (.pointer (some ⟨bRo, 0, none⟩)) Try.isAgg115 rfl rfl rfl ⟨rfl, Below.refl _ _⟩) ?_
   refine alp 1 (.pointer (some ⟨bRo, 0, none⟩)) hsub rfl (by kernel_rfl) (fun _ => (by kernel_rfl)) ?_
   refine alp 2 (.pointer (some ⟨bRo, 0, none⟩)) hsub rfl (by kernel_rfl) (fun _ => (by kernel_rfl)) ?_
   refine alp 3 (.pointer (some ⟨bRo, 1, none⟩)) hsub rfl (by kernel_rfl) (fun _ => (by kernel_rfl)) ?_
   refine al_light 4 (.slice Acom lcom.length ccom) hsub rfl (by kernel_rfl) (fun w hI => s_load1 hI 5 (.slice Acom lcom.length ccom) Try.isAgg22 rfl rfl rfl ⟨rfl, Below.refl _ _⟩) ?_
   refine al_light 5 (iv taker) hsub rfl (by kernel_rfl) (fun w hI => s_load1 hI 1 (iv taker) Try.isAgg3 rfl rfl rfl ⟨rfl, Below.refl _ _⟩) ?_
   obtain ⟨b184, o185, hA186, hb187, hB189, he188⟩ := hCcom.at_ eCm_len (by decide) hx176
   refine al_light 6 (.pointer (some ⟨b184, o185 + (taker).toNat * 3, none⟩)) hsub rfl (by kernel_rfl) (fun w hI => s_indexA (taker).toNat Try.underlying22 Try.sizeOf26 rfl hA186 rfl (Int.toNat_of_nonneg h182).symm (lt_n hx176 rfl) ⟨rfl, Below.refl _ _⟩) ?_
   refine alp 7 (.pointer (some ⟨b184, o185 + (taker).toNat * 3 + 1, none⟩)) hsub rfl (by kernel_rfl) (fun _ => (by kernel_rfl)) ?_
   refine al_light 8 (iv x175.hrs) hsub rfl (by kernel_rfl) (fun w hI => s_loadB1 hI (iv x175.hrs) Try.isAgg3 rfl hb187 hB189 (he188 1 _ rfl) ⟨rfl, Below.refl _ _⟩) ?_
   refine any_heavy [9] (by kernel_rfl) rfl (each1 ?_)
   intro w hI
   refine ol_c rfl (s_call 116 [iv x175.hrs] (by kernel_rfl) (L116 _ x175.hrs) ?_)
   rintro v w ⟨b190, rfl, hN⟩
   have hI := hI.join hN; clear hN
   have hI : Inv [bR, bA, bF, bRo] w0 w [(some b190, blk [iv x175.hrs] 3), (some b2, blk [.bool false] 4), (some b1, blk [iv taker] 3), (some bR, blk [.pointer (some ⟨bRo, 0, none⟩)] 115), (some bA, blk [iv asked] 3), (some bF, blk [.func (.func 115) #[] #[.pointer (some ⟨bR, 0, none⟩), .pointer (some ⟨bA, 0, none⟩), .pointer (some ⟨bF, 0, none⟩)]] 109), (some bRo, blk [iv hrs, .slice Acom lcom.length ccom, slv zhhol nhhol chhol] 93)] := hI
   refine ⟨_, hI, subk (fun _ h => h.pickL [1, 2, 3, 4, 5, 6] (by decide) rfl) ?_⟩
   intro hsub
   refine any_end (by kernel_rfl) (fun w hI => ?_)
   refine wp_block ?_
   refine wp_rangeFunc hI (first := #[]) (cap := #[.pointer (some ⟨b190, 0, none⟩)]) rfl 130 (fun y => [y, .pointer (some ⟨b190, 0, none⟩)]) (fun l W => by kernel_rfl) ?_
   intro rcq191 lqq191 w hpsq191 hasq191 hboq191 hofq191 hI
   refine calls_of (n := 17) Try.func130 rfl Try.ntmps130 rfl ?_
   refine wp_seq (rgn (by kernel_rfl) (pu (iv 0) (by kernel_rfl) (seq_nil (wp_block ?_))))
   refine wp_loop (fun m ρ w => ∃ (v273 : Int) (mm : Nat), Agree ρ [(0, yfn lqq191), (1, .pointer (some ⟨b190, 0, none⟩)), (4, iv v273)] ∧ Inv [bR, bA, bF, bRo] w0 w [(some lqq191, rcq191.at .ready none), (some b190, blk [iv x175.hrs] 3), (some rcq191.defers, .deferred (some [])), (some bR, blk [.pointer (some ⟨bRo, 0, none⟩)] 115), (some bRo, blk [iv hrs, .slice Acom lcom.length ccom, slv zhhol nhhol chhol] 93), (some bA, blk [iv asked] 3), (some bF, blk [.func (.func 115) #[] #[.pointer (some ⟨bR, 0, none⟩), .pointer (some ⟨bA, 0, none⟩), .pointer (some ⟨bF, 0, none⟩)]] 109), (some b1, blk [iv taker] 3), (some b2, blk [.bool false] 4)] ∧ F115nl1 asked hrs x175 mm v273 = some r ∧ mm = m) (m := N) ⟨0, N, ⟨rfl, rfl, rfl, trivial⟩, hI.pickL [0, 2, 1, 5, 8, 6, 7, 4, 3] (by decide) rfl, hF, rfl⟩ ?_
   rintro m ρ w ⟨v273, mm, hag, hI, hF, hm⟩
   subst hm; obtain ⟨ρ, rfl⟩ := hag.form; clear hag
   obtain _ | m1 := mm
   ·cases (show (none : Option (Bool × Int)) = some r from hF)
   replace hF : F115nb1 asked hrs x175 (F115nl1 asked hrs x175 m1) v273 = some r := hF; unfold F115nb1 at hF
   refine wp_seq (rgn (by kernel_rfl) (ifE hF (fun h299 hF => ?_) (fun h299 hF => ?_)))
   ·
    refine seq_c (s_lss rfl rfl (fun _ => ?_) (fun h => absurd (a := v273 < 24) h299 h))
    refine seq_nil (wp_seq (wp_condT rfl (wp_skip (wp_seq (wp_block ?_)))))
    refine wp_seq (rgn (by kernel_rfl) (pu (iv v273) (by kernel_rfl) (pu (iv v273) (by kernel_rfl) (seq_nil (wp_cutO (fun ρ w => Agree ρ [(0, yfn lqq191), (1, .pointer (some ⟨b190, 0, none⟩)), (4, iv v273), (15, .bool false)] ∧ Inv [bR, bA, bF, bRo] w0 w [(some lqq191, rcq191.at .ready none), (some b190, blk [iv x175.hrs] 3), (some rcq191.defers, .deferred (some [])), (some bR, blk [.pointer (some ⟨bRo, 0, none⟩)] 115), (some bRo, blk [iv hrs, .slice Acom lcom.length ccom, slv zhhol nhhol chhol] 93), (some bA, blk [iv asked] 3), (some bF, blk [.func (.func 115) #[] #[.pointer (some ⟨bR, 0, none⟩), .pointer (some ⟨bA, 0, none⟩), .pointer (some ⟨bF, 0, none⟩)]] 109), (some b1, blk [iv taker] 3), (some b2, blk [.bool false] 4)] ∧ F115nj2 (F115nl1 asked hrs x175 m1) v273 = some r) ?_ ?_)))))
    ·
     refine rgn (by kernel_rfl) (pu (iv v273) (by kernel_rfl) (seq_c (s_load1 hI 1 (iv x175.hrs) Try.isAgg3 rfl rfl rfl ?_)))
     refine bindE hF (fun y304 hy305 hF => ?_)
     refine ifE hF (fun h346 hF => ?_) (fun h346 hF => ?_)
     ·
      refine seq_c (s_callv hI 92 [iv v273, iv x175.hrs] (.bool true) (by kernel_rfl) (Does.mono (L92 _ v273 x175.hrs _ hy305) (fun v' w' h => ⟨h.1.trans (congrArg Value.bool h346), h.2⟩)) ?_)
      intro w hI
      refine pu (.bool true) (by kernel_rfl) (puo (yfn lqq191) ⟨(by kernel_rfl), (by kernel_rfl)⟩ (puo (iv v273) ⟨(by kernel_rfl), (by kernel_rfl)⟩ (seq_on (by kernel_rfl) (s_callVI (fv := yfn lqq191) [iv v273] rfl (by kernel_rfl) ?_))))
      have hI := hI.pickL [0, 1, 2, 3, 4, 5, 6, 7, 8] (by decide) rfl
      refine callV_yield hI hofq191 [18] hpsq191 rfl (by decide) ?_
      rw [hasq191]
      refine rgn (by kernel_rfl) (pu (iv v273) (by kernel_rfl) (seq_nil (⟨rfl, _, hI.pickL [0, 1, 2, 3, 4, 5, 6, 7, 8] (by decide) rfl, ?_⟩)))
      intro w hI
      rw [hboq191]
      refine wp_block ?_
      refine wp_seq (wp_seq (rgn (by kernel_rfl) (pu (iv v273) (by kernel_rfl) (seq_c (s_load1 hI 5 (iv asked) Try.isAgg3 rfl rfl rfl ?_)))))
      refine bindE hF (fun y312 hy313 hF => ?_)
      refine ifE hF (fun h350 hF => ?_) (fun h350 hF => ?_)
      ·
       refine seq_c (s_callv hI 92 [iv v273, iv asked] (.bool true) (by kernel_rfl) (Does.mono (L92 _ v273 asked _ hy313) (fun v' w' h => ⟨h.1.trans (congrArg Value.bool h350), h.2⟩)) ?_)
       intro w hI
       refine seq_nil (wp_condT rfl (wp_exit ?_))
       refine ⟨_, hI.pickL [0, 1, 2, 3, 4, 5, 6, 7, 8] (by decide) rfl, fun w hI => ?_⟩
       refine puo (.bool false) ⟨(by kernel_rfl), (by kernel_rfl)⟩ (pu (.bool false) (by kernel_rfl) (seq_nil ?_))
       exact .inl ⟨rfl, ⟨⟨rfl, rfl, rfl, rfl, trivial⟩, hI.pickL [0, 1, 2, 3, 4, 5, 6, 7, 8] (by decide) rfl, hF⟩⟩
      ·
       refine seq_c (s_callv hI 92 [iv v273, iv asked] (.bool false) (by kernel_rfl) (Does.mono (L92 _ v273 asked _ hy313) (fun v' w' h => ⟨h.1.trans (congrArg Value.bool (Bool.eq_false_iff.2 h350)), h.2⟩)) ?_)
       intro w hI
       refine seq_nil (wp_condF rfl (wp_skip (wp_seq (gdE hF (fun h356 hF => ?_)))))
       refine ckE hF (fun h357 hF => ?_)
       refine gdE hF (fun h358 hF => ?_)
       refine gdE hF (fun h359 hF => ?_)
       refine ckE hF (fun h360 hF => ?_)
       replace hI := hI.pickL [0, 1, 2, 3, 4, 6, 7, 8, 5] (by decide) rfl
       refine wp_drawn2 hI [0, 1, 2, 3, 4, 5, 6, 7] (by decide) rfl (by kernel_rfl) (by kernel_rfl) ?_
       intro hsub
       refine alp 1 (iv v273) hsub rfl (by kernel_rfl) (fun _ => (by kernel_rfl)) ?_
       refine al_light 2 (iv ((1 : Int) * 2 ^ (v273 : Int).toNat)) hsub rfl (by kernel_rfl) (fun w hI => s_shl rfl rfl h356 h357 ⟨rfl, Below.refl _ _⟩) ?_
       refine any_heavy [0] (by kernel_rfl) rfl (each1 ?_)
       intro w hI
       refine ol_c rfl (s_load1 hI 8 (iv asked) Try.isAgg3 rfl rfl rfl ?_)
       refine ⟨_, hI, subk (fun _ h => h.pickL [0, 1, 2, 3, 4, 5, 6, 7] (by decide) rfl) ?_⟩
       intro hsub
       refine al_light 3 (iv (orI asked ((1 : Int) * 2 ^ (v273 : Int).toNat))) hsub rfl (by kernel_rfl) (fun w hI => s_or rfl rfl h358 h359 h360 h357 ⟨rfl, Below.refl _ _⟩) ?_
       refine any_heavy [4] (by kernel_rfl) rfl (each1 ?_)
       intro w hI
       refine ol_c rfl (s_store hI 8 1 [iv (orI asked ((1 : Int) * 2 ^ (v273 : Int).toNat))] Try.sizeOf3 rfl rfl rfl rfl rfl (Nat.le_of_ble_eq_true rfl) ?_)
       intro w hI
       refine ⟨_, hI, subk (fun _ h => h.pickL [0, 1, 2, 3, 4, 5, 6, 7] (by decide) rfl) ?_⟩
       intro hsub
       refine any_end (by kernel_rfl) (fun w hI => ?_)
       refine wp_seq (rgn (by kernel_rfl) (seq_c (s_load1 hI 3 (.pointer (some ⟨bRo, 0, none⟩)) Try.isAgg115 rfl rfl rfl ?_)))
       refine pu (.pointer (some ⟨bRo, 0, none⟩)) (by kernel_rfl) (pu (.pointer (some ⟨bRo, 2, none⟩)) (by kernel_rfl) (seq_c (s_load1 hI 4 (slv zhhol nhhol chhol) Try.isAgg49 rfl rfl rfl ?_)))
       refine pu (iv v273) (by kernel_rfl) ?_
       cases hF
     ·
      refine seq_c (s_callv hI 92 [iv v273, iv x175.hrs] (.bool false) (by kernel_rfl) (Does.mono (L92 _ v273 x175.hrs _ hy305) (fun v' w' h => ⟨h.1.trans (congrArg Value.bool (Bool.eq_false_iff.2 h346)), h.2⟩)) ?_)
      intro w hI
      refine pu (.bool false) (by kernel_rfl) (of_ (by kernel_rfl) (of_ (by kernel_rfl) (of_ (by kernel_rfl) (of_ (by kernel_rfl) (pu (.bool false) (by kernel_rfl) (seq_nil ?_))))))
      exact .inl ⟨rfl, ⟨⟨rfl, rfl, rfl, rfl, trivial⟩, hI.pickL [0, 1, 2, 3, 4, 5, 6, 7, 8] (by decide) rfl, hF⟩⟩
    ·intro ρ w hJ
     obtain ⟨hag, hI, hF⟩ := hJ
     obtain ⟨ρ, rfl⟩ := hag.form; clear hag
     unfold F115nj2 at hF
     refine wp_condF rfl (wp_skip (rgn (by kernel_rfl) (ckE hF (fun h345 hF => ?_))))
     refine seq_c (s_add rfl rfl h345 ?_)
     refine pu (iv (v273 + 1)) (by kernel_rfl) (seq_nil ?_)
     exact ⟨rfl, m1, Nat.lt_succ_self _, ⟨v273 + 1, m1, ⟨rfl, rfl, rfl, trivial⟩, hI.pickL [0, 1, 2, 3, 4, 5, 6, 7, 8] (by decide) rfl, hF, rfl⟩⟩
   ·
    refine seq_c (s_lss rfl rfl (fun h => absurd (a := v273 < 24) h h299) (fun _ => ?_))
    refine seq_nil (wp_seq (wp_condF rfl (wp_exit ?_)))
    refine ⟨.tuple #[], Ret.r0 rfl, ?_⟩
    refine ⟨_, .inl ⟨hI.pickL [0, 1, 2, 3, 4, 5, 6, 7, 8] (by decide) rfl, fun w hI => ?_⟩⟩
    refine wp_seq (rgn (by kernel_rfl) (seq_c (s_store hI 8 1 [.bool false] Try.sizeOf4 rfl rfl rfl rfl rfl (Nat.le_of_ble_eq_true rfl) ?_)))
    intro w hI
    refine seq_nil (wp_ret (LeaveE.mark (D := rcq191.defers) (hI.pickL [2, 0, 1, 3, 4, 5, 6, 7, 8] (by decide) rfl) ?_))
    intro w hI
    have hI : Inv [bR, bA, bF, bRo] w0 w [(some lqq191, rcq191.at .exhausted none), (some b190, blk [iv x175.hrs] 3), (some bR, blk [.pointer (some ⟨bRo, 0, none⟩)] 115), (some bRo, blk [iv hrs, .slice Acom lcom.length ccom, slv zhhol nhhol chhol] 93), (some bA, blk [iv asked] 3), (some bF, blk [.func (.func 115) #[] #[.pointer (some ⟨bR, 0, none⟩), .pointer (some ⟨bA, 0, none⟩), .pointer (some ⟨bF, 0, none⟩)]] 109), (some b1, blk [iv taker] 3), (some b2, blk [.bool false] 4)] := hI
    replace hF := Option.some.inj hF; subst hF
    exact ⟨.bool false, Ret.c rfl rfl (run_load_cell (hI.cell (i := 7) rfl rfl) Try.isAgg4), ⟨rfl, hI.pickL [2, 4, 5, 3] (by decide) rfl⟩⟩


theorem L115 (N : Nat) : ∀ (w0 : World) (bR : Nat) (bA : Nat) (bF : Nat) (bRo : Nat) (bhhol : Nat) (taker : Int) (asked : Int) (hrs : Int) (Acom : Option Addr) (ccom : Nat) (lcom : List Cm) (nhol : Nat) (chhol : Nat) (clhhol : List Value) (lhol : List Int) (hL0 : Inv [bR, bA, bF, bRo, bhhol] w0 w0 [(some bR, blk [.pointer (some ⟨bRo, 0, none⟩)] 115), (some bA, blk [.int .i64 asked] 3), (some bF, blk [.func (.func 115) #[] #[.pointer (some ⟨bR, 0, none⟩), .pointer (some ⟨bA, 0, none⟩), .pointer (some ⟨bF, 0, none⟩)]] 109), (some bRo, blk [.int .i64 hrs, .slice Acom lcom.length ccom, slv (some bhhol) nhol chhol] 93), (some bhhol, blk clhhol 3)]) (hCcom : CellsB [bR, bA, bF, bRo, bhhol] w0 Acom (flat eCm lcom)) (hMcom : lcom.length ≤ 9223372036854775807) (hKcom : lcom.length ≤ ccom) (hrhol : Row 1 (some bhhol) nhol chhol clhhol (flat eInt lhol)) (r : (Bool × Int × List Int)) (hF : F115 N taker asked hrs lcom lhol = some r), Does Try.prog 115 [.int .i64 taker, .pointer (some ⟨bR, 0, none⟩), .pointer (some ⟨bA, 0, none⟩), .pointer (some ⟨bF, 0, none⟩)] w0 fun v w => ∃ q1 : List Value, v = .bool r.1 ∧ Inv [bR, bA, bF, bRo, bhhol] w0 w [(some bR, blk [.pointer (some ⟨bRo, 0, none⟩)] 115), (some bA, blk [.int .i64 r.2.1] 3), (some bF, blk [.func (.func 115) #[] #[.pointer (some ⟨bR, 0, none⟩), .pointer (some ⟨bA, 0, none⟩), .pointer (some ⟨bF, 0, none⟩)]] 109), (some bRo, blk [.int .i64 hrs, .slice Acom lcom.length ccom, slv (some bhhol) nhol chhol] 93), (some bhhol, blk q1 3)] ∧ Row 1 (some bhhol) nhol chhol q1 (flat eInt r.2.2) := by
  induction N with
  | zero => intro w0 bR bA bF bRo bhhol taker asked hrs Acom ccom lcom nhol chhol clhhol lhol hL0 hCcom hMcom hKcom hrhol r hF; cases (show (none : Option (Bool × Int × List Int)) = some r from hF)
  | succ N ih =>
   intro w0 bR bA bF bRo bhhol taker asked hrs Acom ccom lcom nhol chhol clhhol lhol hL0 hCcom hMcom hKcom hrhol r hF
   replace hF : F115b N (F115 N) taker asked hrs lcom lhol = some r := hF
   refine calls_of (n := 47) Try.func115 rfl Try.ntmps115 rfl ?_
   have hI : Inv [bR, bA, bF, bRo, bhhol] w0 w0 [(some bR, blk [.pointer (some ⟨bRo, 0, none⟩)] 115), (some bA, blk [iv asked] 3), (some bF, blk [.func (.func 115) #[] #[.pointer (some ⟨bR, 0, none⟩), .pointer (some ⟨bA, 0, none⟩), .pointer (some ⟨bF, 0, none⟩)]] 109), (some bRo, blk [iv hrs, .slice Acom lcom.length ccom, slv (some bhhol) nhol chhol] 93), (some bhhol, blk clhhol 3)] := hL0
   unfold F115b at hF
   refine wp_seq (rgn (by kernel_rfl) (seq_c (s_boxI hI [iv taker] rfl ?_)))
   intro b1 w hI
   refine seq_c (s_allocI hI [.bool false] Try.zeroValue4 rfl ?_)
   intro b2 w hI
   refine seq_nil (wp_seq (wp_seq (gdE hF (fun h238 hF => ?_))))
   refine bindE hF (fun x675 hx676 hF => ?_)
   refine wp_drawn2 hI [0, 1, 2, 3, 4, 5, 6] (by decide) rfl (by kernel_rfl) (by kernel_rfl) ?_
   intro hsub
   refine al_light 0 (.pointer (some ⟨bRo, 0, none⟩)) hsub rfl (by kernel_rfl) (fun w hI => s_load1 hI 2 (.pointer (some ⟨bRo, 0, none⟩)) Try.isAgg115 rfl rfl rfl ⟨rfl, Below.refl _ _⟩) ?_
   refine alp 1 (.pointer (some ⟨bRo, 0, none⟩)) hsub rfl (by kernel_rfl) (fun _ => (by kernel_rfl)) ?_
   refine alp 2 (.pointer (some ⟨bRo, 0, none⟩)) hsub rfl (by kernel_rfl) (fun _ => (by kernel_rfl)) ?_
   refine alp 3 (.pointer (some ⟨bRo, 1, none⟩)) hsub rfl (by kernel_rfl) (fun _ => (by kernel_rfl)) ?_
   refine al_light 4 (.slice Acom lcom.length ccom) hsub rfl (by kernel_rfl) (fun w hI => s_load1 hI 5 (.slice Acom lcom.length ccom) Try.isAgg22 rfl rfl rfl ⟨rfl, Below.refl _ _⟩) ?_
   refine al_light 5 (iv taker) hsub rfl (by kernel_rfl) (fun w hI => s_load1 hI 1 (iv taker) Try.isAgg3 rfl rfl rfl ⟨rfl, Below.refl _ _⟩) ?_
   obtain ⟨b684, o685, hA686, hb687, hB689, he688⟩ := hCcom.at_ eCm_len (by decide) hx676
   refine al_light 6 (.pointer (some ⟨b684, o685 + (taker).toNat * 3, none⟩)) hsub rfl (by kernel_rfl) (fun w hI => s_indexA (taker).toNat Try.underlying22 Try.sizeOf26 rfl hA686 rfl (Int.toNat_of_nonneg h238).symm (lt_n hx676 rfl) ⟨rfl, Below.refl _ _⟩) ?_
   refine alp 7 (.pointer (some ⟨b684, o685 + (taker).toNat * 3 + 1, none⟩)) hsub rfl (by kernel_rfl) (fun _ => (by kernel_rfl)) ?_
   refine al_light 8 (iv x675.hrs) hsub rfl (by kernel_rfl) (fun w hI => s_loadB1 hI (iv x675.hrs) Try.isAgg3 rfl hb687 hB689 (he688 1 _ rfl) ⟨rfl, Below.refl _ _⟩) ?_
   refine any_heavy [9] (by kernel_rfl) rfl (each1 ?_)
   intro w hI
   refine ol_c rfl (s_call 116 [iv x675.hrs] (by kernel_rfl) (L116 _ x675.hrs) ?_)
   rintro v w ⟨b690, rfl, hN⟩
   have hI := hI.join hN; clear hN
   have hI : Inv [bR, bA, bF, bRo, bhhol] w0 w [(some b690, blk [iv x675.hrs] 3), (some b2, blk [.bool false] 4), (some b1, blk [iv taker] 3), (some bR, blk [.pointer (some ⟨bRo, 0, none⟩)] 115), (some bA, blk [iv asked] 3), (some bF, blk [.func (.func 115) #[] #[.pointer (some ⟨bR, 0, none⟩), .pointer (some ⟨bA, 0, none⟩), .pointer (some ⟨bF, 0, none⟩)]] 109), (some bRo, blk [iv hrs, .slice Acom lcom.length ccom, slv (some bhhol) nhol chhol] 93), (some bhhol, blk clhhol 3)] := hI
   refine ⟨_, hI, subk (fun _ h => h.pickL [1, 2, 3, 4, 5, 6, 7] (by decide) rfl) ?_⟩
   intro hsub
   refine any_end (by kernel_rfl) (fun w hI => ?_)
   refine wp_block ?_
   refine wp_rangeFunc hI (first := #[]) (cap := #[.pointer (some ⟨b690, 0, none⟩)]) rfl 130 (fun y => [y, .pointer (some ⟨b690, 0, none⟩)]) (fun l W => by kernel_rfl) ?_
   intro rcq691 lqq691 w hpsq691 hasq691 hboq691 hofq691 hI
   refine calls_of (n := 17) Try.func130 rfl Try.ntmps130 rfl ?_
   refine wp_seq (rgn (by kernel_rfl) (pu (iv 0) (by kernel_rfl) (seq_nil (wp_block ?_))))
   refine wp_loop (fun m ρ w => ∃ (cl1107 : List Value) (v1105 : Int) (u1106 : List Int) (v1109 : Int) (mm : Nat), Agree ρ [(0, yfn lqq691), (1, .pointer (some ⟨b690, 0, none⟩)), (4, iv v1105)] ∧ Inv [bR, bA, bF, bRo, bhhol] w0 w [(some lqq691, rcq691.at .ready none), (some b690, blk [iv x675.hrs] 3), (some rcq691.defers, .deferred (some [])), (some bR, blk [.pointer (some ⟨bRo, 0, none⟩)] 115), (some bRo, blk [iv hrs, .slice Acom lcom.length ccom, slv (some bhhol) nhol chhol] 93), (some bhhol, blk cl1107 3), (some bA, blk [iv v1109] 3), (some bF, blk [.func (.func 115) #[] #[.pointer (some ⟨bR, 0, none⟩), .pointer (some ⟨bA, 0, none⟩), .pointer (some ⟨bF, 0, none⟩)]] 109), (some b1, blk [iv taker] 3), (some b2, blk [.bool false] 4)] ∧ (Row 1 (some bhhol) (nhol) chhol cl1107 (flat eInt u1106)) ∧ F115l1 taker hrs lcom (F115 N) x675 mm v1105 u1106 v1109 = some r ∧ mm = m) (m := N) ⟨clhhol, 0, lhol, asked, N, ⟨rfl, rfl, rfl, trivial⟩, hI.pickL [0, 2, 1, 5, 8, 9, 6, 7, 4, 3] (by decide) rfl, hrhol, hF, rfl⟩ ?_
   rintro m ρ w ⟨cl1107, v1105, u1106, v1109, mm, hag, hI, r1108, hF, hm⟩
   subst hm; obtain ⟨ρ, rfl⟩ := hag.form; clear hag
   obtain _ | m1 := mm
   ·cases (show (none : Option (Bool × Int × List Int)) = some r from hF)
   replace hF : F115b1 taker hrs lcom (F115 N) x675 (F115l1 taker hrs lcom (F115 N) x675 m1) v1105 u1106 v1109 = some r := hF; unfold F115b1 at hF
   refine wp_seq (rgn (by kernel_rfl) (ifE hF (fun h391 hF => ?_) (fun h391 hF => ?_)))
   ·
    refine seq_c (s_lss rfl rfl (fun _ => ?_) (fun h => absurd (a := v1105 < 24) h391 h))
    refine seq_nil (wp_seq (wp_condT rfl (wp_skip (wp_seq (wp_block ?_)))))
    refine wp_seq (rgn (by kernel_rfl) (pu (iv v1105) (by kernel_rfl) (pu (iv v1105) (by kernel_rfl) (seq_nil (wp_cutO (fun ρ w => ∃ (cl1262 : List Value) (u1261 : List Int) (v1264 : Int), Agree ρ [(0, yfn lqq691), (1, .pointer (some ⟨b690, 0, none⟩)), (4, iv v1105), (15, .bool false)] ∧ Inv [bR, bA, bF, bRo, bhhol] w0 w [(some lqq691, rcq691.at .ready none), (some b690, blk [iv x675.hrs] 3), (some rcq691.defers, .deferred (some [])), (some bR, blk [.pointer (some ⟨bRo, 0, none⟩)] 115), (some bRo, blk [iv hrs, .slice Acom lcom.length ccom, slv (some bhhol) nhol chhol] 93), (some bhhol, blk cl1262 3), (some bA, blk [iv v1264] 3), (some bF, blk [.func (.func 115) #[] #[.pointer (some ⟨bR, 0, none⟩), .pointer (some ⟨bA, 0, none⟩), .pointer (some ⟨bF, 0, none⟩)]] 109), (some b1, blk [iv taker] 3), (some b2, blk [.bool false] 4)] ∧ (Row 1 (some bhhol) (nhol) chhol cl1262 (flat eInt u1261)) ∧ F115j2 (F115l1 taker hrs lcom (F115 N) x675 m1) v1105 u1261 v1264 = some r) ?_ ?_)))))
    ·
     refine rgn (by kernel_rfl) (pu (iv v1105) (by kernel_rfl) (seq_c (s_load1 hI 1 (iv x675.hrs) Try.isAgg3 rfl rfl rfl ?_)))
     refine bindE hF (fun y1265 hy1266 hF => ?_)
     refine ifE hF (fun h453 hF => ?_) (fun h453 hF => ?_)
     ·
      refine seq_c (s_callv hI 92 [iv v1105, iv x675.hrs] (.bool true) (by kernel_rfl) (Does.mono (L92 _ v1105 x675.hrs _ hy1266) (fun v' w' h => ⟨h.1.trans (congrArg Value.bool h453), h.2⟩)) ?_)
      intro w hI
      refine pu (.bool true) (by kernel_rfl) (puo (yfn lqq691) ⟨(by kernel_rfl), (by kernel_rfl)⟩ (puo (iv v1105) ⟨(by kernel_rfl), (by kernel_rfl)⟩ (seq_on (by kernel_rfl) (s_callVI (fv := yfn lqq691) [iv v1105] rfl (by kernel_rfl) ?_))))
      have hI := hI.pickL [0, 1, 2, 3, 4, 5, 6, 7, 8, 9] (by decide) rfl
      refine callV_yield hI hofq691 [18] hpsq691 rfl (by decide) ?_
      rw [hasq691]
      refine rgn (by kernel_rfl) (pu (iv v1105) (by kernel_rfl) (seq_nil (⟨rfl, _, hI.pickL [0, 1, 2, 3, 4, 5, 6, 7, 8, 9] (by decide) rfl, ?_⟩)))
      intro w hI
      rw [hboq691]
      refine wp_block ?_
      refine wp_seq (wp_seq (rgn (by kernel_rfl) (pu (iv v1105) (by kernel_rfl) (seq_c (s_load1 hI 6 (iv v1109) Try.isAgg3 rfl rfl rfl ?_)))))
      refine bindE hF (fun y1273 hy1274 hF => ?_)
      refine ifE hF (fun h457 hF => ?_) (fun h457 hF => ?_)
      ·
       refine seq_c (s_callv hI 92 [iv v1105, iv v1109] (.bool true) (by kernel_rfl) (Does.mono (L92 _ v1105 v1109 _ hy1274) (fun v' w' h => ⟨h.1.trans (congrArg Value.bool h457), h.2⟩)) ?_)
       intro w hI
       refine seq_nil (wp_condT rfl (wp_exit ?_))
       refine ⟨_, hI.pickL [0, 1, 2, 3, 4, 5, 6, 7, 8, 9] (by decide) rfl, fun w hI => ?_⟩
       refine puo (.bool false) ⟨(by kernel_rfl), (by kernel_rfl)⟩ (pu (.bool false) (by kernel_rfl) (seq_nil ?_))
       exact .inl ⟨rfl, ⟨cl1107, u1106, v1109, ⟨rfl, rfl, rfl, rfl, trivial⟩, hI.pickL [0, 1, 2, 3, 4, 5, 6, 7, 8, 9] (by decide) rfl, r1108, hF⟩⟩
      ·
       refine seq_c (s_callv hI 92 [iv v1105, iv v1109] (.bool false) (by kernel_rfl) (Does.mono (L92 _ v1105 v1109 _ hy1274) (fun v' w' h => ⟨h.1.trans (congrArg Value.bool (Bool.eq_false_iff.2 h457)), h.2⟩)) ?_)
       intro w hI
       refine seq_nil (wp_condF rfl (wp_skip (wp_seq (gdE hF (fun h463 hF => ?_)))))
       refine ckE hF (fun h464 hF => ?_)
       refine gdE hF (fun h465 hF => ?_)
       refine gdE hF (fun h466 hF => ?_)
       refine ckE hF (fun h467 hF => ?_)
       replace hI := hI.pickL [0, 1, 2, 3, 4, 5, 7, 8, 9, 6] (by decide) rfl
       refine wp_drawn2 hI [0, 1, 2, 3, 4, 5, 6, 7, 8] (by decide) rfl (by kernel_rfl) (by kernel_rfl) ?_
       intro hsub
       refine alp 1 (iv v1105) hsub rfl (by kernel_rfl) (fun _ => (by kernel_rfl)) ?_
       refine al_light 2 (iv ((1 : Int) * 2 ^ (v1105 : Int).toNat)) hsub rfl (by kernel_rfl) (fun w hI => s_shl rfl rfl h463 h464 ⟨rfl, Below.refl _ _⟩) ?_
       refine any_heavy [0] (by kernel_rfl) rfl (each1 ?_)
       intro w hI
       refine ol_c rfl (s_load1 hI 9 (iv v1109) Try.isAgg3 rfl rfl rfl ?_)
       refine ⟨_, hI, subk (fun _ h => h.pickL [0, 1, 2, 3, 4, 5, 6, 7, 8] (by decide) rfl) ?_⟩
       intro hsub
       refine al_light 3 (iv (orI v1109 ((1 : Int) * 2 ^ (v1105 : Int).toNat))) hsub rfl (by kernel_rfl) (fun w hI => s_or rfl rfl h465 h466 h467 h464 ⟨rfl, Below.refl _ _⟩) ?_
       refine any_heavy [4] (by kernel_rfl) rfl (each1 ?_)
       intro w hI
       refine ol_c rfl (s_store hI 9 1 [iv (orI v1109 ((1 : Int) * 2 ^ (v1105 : Int).toNat))] Try.sizeOf3 rfl rfl rfl rfl rfl (Nat.le_of_ble_eq_true rfl) ?_)
       intro w hI
       refine ⟨_, hI, subk (fun _ h => h.pickL [0, 1, 2, 3, 4, 5, 6, 7, 8] (by decide) rfl) ?_⟩
       intro hsub
       refine any_end (by kernel_rfl) (fun w hI => ?_)
       refine wp_seq (rgn (by kernel_rfl) (seq_c (s_load1 hI 3 (.pointer (some ⟨bRo, 0, none⟩)) Try.isAgg115 rfl rfl rfl ?_)))
       refine pu (.pointer (some ⟨bRo, 0, none⟩)) (by kernel_rfl) (pu (.pointer (some ⟨bRo, 2, none⟩)) (by kernel_rfl) (seq_c (s_load1 hI 4 (slv (some bhhol) nhol chhol) Try.isAgg49 rfl rfl rfl ?_)))
       refine pu (iv v1105) (by kernel_rfl) (gdE hF (fun h468 hF => ?_))
       refine bindE hF (fun x1275 hx1276 hF => ?_)
       have he1277 := r1108.atS eInt_len (by decide) hx1276
       refine seq_c (s_indexR (v1105).toNat Try.underlying49 Try.sizeOf3 rfl rfl (Int.toNat_of_nonneg h468).symm (lt_n hx1276 (r1108.n_eq eInt_len (by decide))) ?_)
       refine seq_c (s_loadR1 hI 5 (iv x1275) Try.isAgg3 rfl rfl (he1277 0 _ rfl) ?_)
       refine pu (iv x1275) (by kernel_rfl) (seq_nil (wp_cutO (fun ρ w => ∃ (cl1287 : List Value) (u1286 : List Int) (v1289 : Int), Agree ρ [(1, .pointer (some ⟨bR, 0, none⟩)), (4, .pointer (some ⟨b1, 0, none⟩)), (5, .pointer (some ⟨b2, 0, none⟩)), (6, iv v1105), (39, .bool true)] ∧ Inv [bR, bA, bF, bRo, bhhol] w0 w [(some bR, blk [.pointer (some ⟨bRo, 0, none⟩)] 115), (some bRo, blk [iv hrs, .slice Acom lcom.length ccom, slv (some bhhol) nhol chhol] 93), (some bhhol, blk cl1287 3), (some b1, blk [iv taker] 3), (some b2, blk [.bool false] 4), (some lqq691, rcq691.at .busy none), (some rcq691.defers, .deferred (some [])), (some bA, blk [iv v1289] 3), (some bF, blk [.func (.func 115) #[] #[.pointer (some ⟨bR, 0, none⟩), .pointer (some ⟨bA, 0, none⟩), .pointer (some ⟨bF, 0, none⟩)]] 109), (some b690, blk [iv x675.hrs] 3)] ∧ (Row 1 (some bhhol) (nhol) chhol cl1287 (flat eInt u1286)) ∧ F115j3 taker v1105 u1286 v1289 = some r) ?_ ?_))
       ·
        refine rgn (by kernel_rfl) (pu (iv x1275) (by kernel_rfl) (ifE hF (fun h471 hF => ?_) (fun h471 hF => ?_)))
        ·
         refine seq_c (s_eql rfl rfl (fun _ => ?_) (fun h => absurd (a := x1275 = (-1)) h471 h))
         refine pu (.bool true) (by kernel_rfl) (of_ (by kernel_rfl) (of_ (by kernel_rfl) (of_ (by kernel_rfl) (pu (.bool true) (by kernel_rfl) (seq_nil ?_)))))
         exact .inl ⟨rfl, ⟨cl1107, u1106, orI v1109 ((1 : Int) * 2 ^ (v1105 : Int).toNat), ⟨rfl, rfl, rfl, rfl, rfl, trivial⟩, hI.pickL [3, 4, 5, 7, 8, 0, 2, 9, 6, 1] (by decide) rfl, r1108, hF⟩⟩
        ·
         refine seq_c (s_eql rfl rfl (fun h => absurd (a := x1275 = (-1)) h h471) (fun _ => ?_))
         refine pu (.bool false) (by kernel_rfl) (seq_on (by kernel_rfl) (s_load1 hI 6 (.func (.func 115) #[] #[.pointer (some ⟨bR, 0, none⟩), .pointer (some ⟨bA, 0, none⟩), .pointer (some ⟨bF, 0, none⟩)]) Try.isAgg109 rfl rfl rfl ?_))
         refine puo (iv x1275) ⟨(by kernel_rfl), (by kernel_rfl)⟩ (bindE hF (fun y1306 hy1307 hF => ?_))
         refine ifE hF (fun h472 hF => ?_) (fun h472 hF => ?_)
         ·
          refine seq_on (by kernel_rfl) (s_call 115 [iv x1275, .pointer (some ⟨bR, 0, none⟩), .pointer (some ⟨bA, 0, none⟩), .pointer (some ⟨bF, 0, none⟩)] (by kernel_rfl) (ih _ bR bA bF bRo bhhol x1275 (orI v1109 ((1 : Int) * 2 ^ (v1105 : Int).toNat)) hrs Acom ccom lcom nhol chhol cl1107 u1106 (hI.lend [3, 9, 6, 4, 5] (by decide) rfl rfl) (hI.apartL [3, 9, 6, 4, 5] rfl rfl hCcom) hMcom hKcom r1108 _ hy1307) ?_)
          rintro v w ⟨cl1309, hv, hN, r1310⟩
          rw [h472] at hv; subst hv
          have hI := hI.backsL [3, 9, 6, 4, 5] [0, 1, 2, 7, 8] (by decide) rfl rfl rfl hN; clear hN
          have hI : Inv [bR, bA, bF, bRo, bhhol] w0 w [(some bR, blk [.pointer (some ⟨bRo, 0, none⟩)] 115), (some bA, blk [iv y1306.2.1] 3), (some bF, blk [.func (.func 115) #[] #[.pointer (some ⟨bR, 0, none⟩), .pointer (some ⟨bA, 0, none⟩), .pointer (some ⟨bF, 0, none⟩)]] 109), (some bRo, blk [iv hrs, .slice Acom lcom.length ccom, slv (some bhhol) nhol chhol] 93), (some bhhol, blk cl1309 3), (some lqq691, rcq691.at .busy none), (some b690, blk [iv x675.hrs] 3), (some rcq691.defers, .deferred (some [])), (some b1, blk [iv taker] 3), (some b2, blk [.bool false] 4)] := hI
          refine pu (.bool true) (by kernel_rfl) (seq_nil ?_)
          exact .inl ⟨rfl, ⟨cl1309, y1306.2.2, y1306.2.1, ⟨rfl, rfl, rfl, rfl, rfl, trivial⟩, hI.pickL [0, 3, 4, 8, 9, 5, 7, 1, 2, 6] (by decide) rfl, r1310, hF⟩⟩
         ·
          refine seq_on (by kernel_rfl) (s_call 115 [iv x1275, .pointer (some ⟨bR, 0, none⟩), .pointer (some ⟨bA, 0, none⟩), .pointer (some ⟨bF, 0, none⟩)] (by kernel_rfl) (ih _ bR bA bF bRo bhhol x1275 (orI v1109 ((1 : Int) * 2 ^ (v1105 : Int).toNat)) hrs Acom ccom lcom nhol chhol cl1107 u1106 (hI.lend [3, 9, 6, 4, 5] (by decide) rfl rfl) (hI.apartL [3, 9, 6, 4, 5] rfl rfl hCcom) hMcom hKcom r1108 _ hy1307) ?_)
          rintro v w ⟨cl1312, hv, hN, r1313⟩
          rw [(Bool.eq_false_iff.2 h472)] at hv; subst hv
          have hI := hI.backsL [3, 9, 6, 4, 5] [0, 1, 2, 7, 8] (by decide) rfl rfl rfl hN; clear hN
          have hI : Inv [bR, bA, bF, bRo, bhhol] w0 w [(some bR, blk [.pointer (some ⟨bRo, 0, none⟩)] 115), (some bA, blk [iv y1306.2.1] 3), (some bF, blk [.func (.func 115) #[] #[.pointer (some ⟨bR, 0, none⟩), .pointer (some ⟨bA, 0, none⟩), .pointer (some ⟨bF, 0, none⟩)]] 109), (some bRo, blk [iv hrs, .slice Acom lcom.length ccom, slv (some bhhol) nhol chhol] 93), (some bhhol, blk cl1312 3), (some lqq691, rcq691.at .busy none), (some b690, blk [iv x675.hrs] 3), (some rcq691.defers, .deferred (some [])), (some b1, blk [iv taker] 3), (some b2, blk [.bool false] 4)] := hI
          refine pu (.bool false) (by kernel_rfl) (seq_nil (.inr ?_))
          refine wp_condF rfl (wp_skip (⟨_, hI.pickL [5, 0, 1, 2, 3, 4, 6, 7, 8, 9] (by decide) rfl, fun w hI => ?_⟩))
          refine puo (.bool false) ⟨(by kernel_rfl), (by kernel_rfl)⟩ (pu (.bool false) (by kernel_rfl) (seq_nil ?_))
          exact .inl ⟨rfl, ⟨cl1312, y1306.2.2, y1306.2.1, ⟨rfl, rfl, rfl, rfl, trivial⟩, hI.pickL [0, 6, 7, 1, 4, 5, 2, 3, 8, 9] (by decide) rfl, r1313, hF⟩⟩
       ·intro ρ w hJ
        obtain ⟨cl1287, u1286, v1289, hag, hI, r1288, hF⟩ := hJ
        obtain ⟨ρ, rfl⟩ := hag.form; clear hag
        unfold F115j3 at hF
        refine wp_condT rfl (wp_seq (bindE hF (fun x1298 hx1299 hF => ?_)))
        replace hI := hI.pickL [0, 1, 3, 4, 5, 6, 7, 8, 9, 2] (by decide) rfl
        refine wp_drawn2 hI [0, 1, 2, 3, 4, 5, 6, 7, 8] (by decide) rfl (by kernel_rfl) (by kernel_rfl) ?_
        intro hsub
        refine al_light 0 (.pointer (some ⟨bRo, 0, none⟩)) hsub rfl (by kernel_rfl) (fun w hI => s_load1 hI 0 (.pointer (some ⟨bRo, 0, none⟩)) Try.isAgg115 rfl rfl rfl ⟨rfl, Below.refl _ _⟩) ?_
        refine alp 1 (.pointer (some ⟨bRo, 0, none⟩)) hsub rfl (by kernel_rfl) (fun _ => (by kernel_rfl)) ?_
        refine alp 2 (.pointer (some ⟨bRo, 2, none⟩)) hsub rfl (by kernel_rfl) (fun _ => (by kernel_rfl)) ?_
        refine al_light 3 (slv (some bhhol) nhol chhol) hsub rfl (by kernel_rfl) (fun w hI => s_load1 hI 1 (slv (some bhhol) nhol chhol) Try.isAgg49 rfl rfl rfl ⟨rfl, Below.refl _ _⟩) ?_
        refine alp 4 (iv v1105) hsub rfl (by kernel_rfl) (fun _ => (by kernel_rfl)) ?_
        refine al_light 5 (iv taker) hsub rfl (by kernel_rfl) (fun w hI => s_load1 hI 2 (iv taker) Try.isAgg3 rfl rfl rfl ⟨rfl, Below.refl _ _⟩) ?_
        have he1303 := r1288.atS eInt_len (by decide) hx1299
        refine al_light 6 (.pointer (some ⟨bhhol, (v1105).toNat * 1, none⟩)) hsub rfl (by kernel_rfl) (fun w hI => s_indexR (v1105).toNat Try.underlying49 Try.sizeOf3 rfl rfl (Int.toNat_of_nonneg h468).symm (lt_n hx1299 (r1288.n_eq eInt_len (by decide))) ⟨rfl, Below.refl _ _⟩) ?_
        refine any_heavy [7] (by kernel_rfl) rfl (each1 ?_)
        intro w hI
        have := lt_n hx1299 (r1288.n_eq eInt_len (by decide))
        refine ol_c rfl (s_store hI 9 1 [iv taker] Try.sizeOf3 rfl rfl rfl rfl rfl (r1288.room (by omega)) ?_)
        intro w hI
        refine ⟨_, hI, subk (fun _ h => h.pickL [0, 1, 2, 3, 4, 5, 6, 7, 8] (by decide) rfl) ?_⟩
        intro hsub
        have r1304 := r1288.put eInt_len (by decide) (v1105).toNat taker (by omega)
        refine any_end (by kernel_rfl) (fun w hI => ?_)
        refine wp_seq (rgn (by kernel_rfl) (seq_c (s_store hI 3 1 [.bool true] Try.sizeOf4 rfl rfl rfl rfl rfl (Nat.le_of_ble_eq_true rfl) ?_)))
        intro w hI
        refine seq_nil (wp_ret (⟨_, hI.pickL [4, 0, 1, 2, 3, 5, 6, 7, 8, 9] (by decide) rfl, fun w hI => ?_⟩))
        refine puo (.bool true) ⟨(by kernel_rfl), (by kernel_rfl)⟩ (pu (.bool true) (by kernel_rfl) (seq_nil (.inr ?_)))
        refine wp_condT rfl (wp_ret (⟨.tuple #[], Ret.r0 rfl, ?_⟩))
        refine ⟨_, .inr ⟨.ret, hI.pickL [0, 1, 2, 3, 4, 5, 6, 7, 8, 9] (by decide) rfl, fun w hI => ?_⟩⟩
        refine wp_ret (LeaveE.mark (D := rcq691.defers) (hI.pickL [5, 0, 1, 2, 3, 4, 6, 7, 8, 9] (by decide) rfl) ?_)
        intro w hI
        have hI : Inv [bR, bA, bF, bRo, bhhol] w0 w [(some lqq691, rcq691.at .exhausted (some .ret)), (some bR, blk [.pointer (some ⟨bRo, 0, none⟩)] 115), (some bRo, blk [iv hrs, .slice Acom lcom.length ccom, slv (some bhhol) nhol chhol] 93), (some b1, blk [iv taker] 3), (some b2, blk [.bool true] 4), (some bA, blk [iv v1289] 3), (some bF, blk [.func (.func 115) #[] #[.pointer (some ⟨bR, 0, none⟩), .pointer (some ⟨bA, 0, none⟩), .pointer (some ⟨bF, 0, none⟩)]] 109), (some b690, blk [iv x675.hrs] 3), (some bhhol, blk (putCells cl1287 ((v1105).toNat * 1) (eInt taker)) 3)] := hI
        replace hF := Option.some.inj hF; subst hF
        exact ⟨.bool true, Ret.c rfl rfl (run_load_cell (hI.cell (i := 4) rfl rfl) Try.isAgg4), ⟨putCells cl1287 ((v1105).toNat * 1) (eInt taker), rfl, hI.pickL [1, 5, 6, 2, 8] (by decide) rfl, r1304⟩⟩
     ·
      refine seq_c (s_callv hI 92 [iv v1105, iv x675.hrs] (.bool false) (by kernel_rfl) (Does.mono (L92 _ v1105 x675.hrs _ hy1266) (fun v' w' h => ⟨h.1.trans (congrArg Value.bool (Bool.eq_false_iff.2 h453)), h.2⟩)) ?_)
      intro w hI
      refine pu (.bool false) (by kernel_rfl) (of_ (by kernel_rfl) (of_ (by kernel_rfl) (of_ (by kernel_rfl) (of_ (by kernel_rfl) (pu (.bool false) (by kernel_rfl) (seq_nil ?_))))))
      exact .inl ⟨rfl, ⟨cl1107, u1106, v1109, ⟨rfl, rfl, rfl, rfl, trivial⟩, hI.pickL [0, 1, 2, 3, 4, 5, 6, 7, 8, 9] (by decide) rfl, r1108, hF⟩⟩
    ·intro ρ w hJ
     obtain ⟨cl1262, u1261, v1264, hag, hI, r1263, hF⟩ := hJ
     obtain ⟨ρ, rfl⟩ := hag.form; clear hag
     unfold F115j2 at hF
     refine wp_condF rfl (wp_skip (rgn (by kernel_rfl) (ckE hF (fun h452 hF => ?_))))
     refine seq_c (s_add rfl rfl h452 ?_)
     refine pu (iv (v1105 + 1)) (by kernel_rfl) (seq_nil ?_)
     exact ⟨rfl, m1, Nat.lt_succ_self _, ⟨cl1262, v1105 + 1, u1261, v1264, m1, ⟨rfl, rfl, rfl, trivial⟩, hI.pickL [0, 1, 2, 3, 4, 5, 6, 7, 8, 9] (by decide) rfl, r1263, hF, rfl⟩⟩
   ·
    refine seq_c (s_lss rfl rfl (fun h => absurd (a := v1105 < 24) h h391) (fun _ => ?_))
    refine seq_nil (wp_seq (wp_condF rfl (wp_exit ?_)))
    refine ⟨.tuple #[], Ret.r0 rfl, ?_⟩
    refine ⟨_, .inl ⟨hI.pickL [0, 1, 2, 3, 4, 5, 6, 7, 8, 9] (by decide) rfl, fun w hI => ?_⟩⟩
    refine wp_seq (rgn (by kernel_rfl) (seq_c (s_store hI 9 1 [.bool false] Try.sizeOf4 rfl rfl rfl rfl rfl (Nat.le_of_ble_eq_true rfl) ?_)))
    intro w hI
    refine seq_nil (wp_ret (LeaveE.mark (D := rcq691.defers) (hI.pickL [2, 0, 1, 3, 4, 5, 6, 7, 8, 9] (by decide) rfl) ?_))
    intro w hI
    have hI : Inv [bR, bA, bF, bRo, bhhol] w0 w [(some lqq691, rcq691.at .exhausted none), (some b690, blk [iv x675.hrs] 3), (some bR, blk [.pointer (some ⟨bRo, 0, none⟩)] 115), (some bRo, blk [iv hrs, .slice Acom lcom.length ccom, slv (some bhhol) nhol chhol] 93), (some bhhol, blk cl1107 3), (some bA, blk [iv v1109] 3), (some bF, blk [.func (.func 115) #[] #[.pointer (some ⟨bR, 0, none⟩), .pointer (some ⟨bA, 0, none⟩), .pointer (some ⟨bF, 0, none⟩)]] 109), (some b1, blk [iv taker] 3), (some b2, blk [.bool false] 4)] := hI
    replace hF := Option.some.inj hF; subst hF
    exact ⟨.bool false, Ret.c rfl rfl (run_load_cell (hI.cell (i := 8) rfl rfl) Try.isAgg4), ⟨cl1107, rfl, hI.pickL [2, 5, 6, 3, 4] (by decide) rfl, r1108⟩⟩


theorem L80 (w0 : World) (p0_0 : Int) (Ap0_1 : Option Addr) (cp0_1 : Nat) (lp0_1 : List Cm) (hCp0_1 : Cells w0 Ap0_1 (flat eCm lp0_1)) (hMp0_1 : lp0_1.length ≤ 9223372036854775807) (hKp0_1 : lp0_1.length ≤ cp0_1) (N : Nat) (r : (Int × List Int × List Int)) (hF : F80 N p0_0 lp0_1 = some r) : Does Try.prog 80 [.agg #[.int .i64 p0_0, .slice Ap0_1 lp0_1.length cp0_1]] w0 fun v w => ∃ (z0 : Option Nat) (z1 : Nat) (z2 : List Value) (z3 : Option Nat) (z4 : Nat) (z5 : List Value), v = .tuple #[.agg #[.int .i64 r.1, .slice Ap0_1 lp0_1.length cp0_1, slv z0 r.2.1.length z1], slv z3 r.2.2.length z4] ∧ Inv [] w0 w [(z0, blk z2 3), (z3, blk z5 3)] ∧ Row 1 z0 r.2.1.length z1 z2 (flat eInt r.2.1) ∧ Row 1 z3 r.2.2.length z4 z5 (flat eInt r.2.2) := by
 refine calls_of (n := 56) Try.func80 rfl Try.ntmps80 rfl ?_
 have hI := Inv.start w0
 unfold F80 at hF
 refine wp_seq (rgn (by kernel_rfl) (seq_c (s_boxI hI [iv p0_0, .slice Ap0_1 lp0_1.length cp0_1] rfl ?_)))
 intro b7217 w hI
 refine seq_c (s_allocI hI [iv 0, .slice none 0 0, .slice none 0 0] Try.zeroValue93 rfl ?_)
 intro b7218 w hI
 refine pu (.slice none 0 0) (by kernel_rfl) (seq_nil (wp_seq (rgn (by kernel_rfl) (seq_c (s_loadK hI 1 2 [iv p0_0, .slice Ap0_1 lp0_1.length cp0_1] Try.isAgg24 Try.sizeOf24 rfl rfl rfl rfl ?_)))))
 refine bindE hF (fun y7226 hy7227 hF => ?_)
 refine seq_c (s_call 104 [.agg #[iv p0_0, .slice Ap0_1 lp0_1.length cp0_1]] (by kernel_rfl) (L104 _ p0_0 Ap0_1 cp0_1 lp0_1 (hCp0_1.inv0 hI) hMp0_1 hKp0_1 N _ hy7227) ?_)
 rintro v w ⟨g7228, c7229, cl7230, rfl, hN, r7231⟩
 have hI := hI.join hN; clear hN
 refine seq_c (s_allocI hI [iv 0, .slice none 0 0, .slice none 0 0] Try.zeroValue93 rfl ?_)
 intro b7232 w hI
 refine seq_c (s_store hI 0 3 [iv y7226.1, .slice Ap0_1 lp0_1.length cp0_1, slv g7228 y7226.2.length c7229] Try.sizeOf93 rfl rfl rfl rfl rfl (Nat.le_of_ble_eq_true rfl) ?_)
 intro w hI
 refine seq_nil (wp_seq (rgn (by kernel_rfl) (pu (.pointer (some ⟨b7217, 1, none⟩)) (by kernel_rfl) (seq_c (s_load1 hI 3 (.slice Ap0_1 lp0_1.length cp0_1) Try.isAgg22 rfl rfl rfl ?_)))))
 refine pu (iv ((lp0_1.length : Nat) : Int)) (by kernel_rfl) (gdE hF (fun h1099 hF => ?_))
 refine gdE hF (fun h1100 hF => ?_)
 refine seq_c (s_makeRowN hI (enc := eInt) eInt_len (by decide) ((0 : Int)) Try.underlying49 (z := iv 0) (k := 1) (bytes := 8) (by kernel_rfl) rfl ((lp0_1.length : Int)).toNat (congrArg (Value.int .i64) (Int.toNat_of_nonneg h1099).symm) (congrArg (Value.int .i64) (Int.toNat_of_nonneg h1099).symm) (by omega) (by decide) ?_)
 intro b7236 cl7237 w hI r7238
 refine pu (slv (some b7236) ((List.replicate ((lp0_1.length : Int)).toNat (0 : Int)).length) (((lp0_1.length : Int)).toNat)) (by kernel_rfl) (seq_nil (wp_seq (wp_seq (rgn (by kernel_rfl) (pu (iv 0) (by kernel_rfl) (seq_nil (wp_block ?_)))))))
 refine wp_loop (fun m ρ w => ∃ (g13217 : Option Nat) (c13218 : Nat) (cl13219 : List Value) (g13222 : Option Nat) (c13223 : Nat) (cl13224 : List Value) (r_13216 : List Int) (hours_13221 : List Int) (v13226 : Int) (mm : Nat), Agree ρ [(1, .pointer (some ⟨b7217, 0, none⟩)), (2, .pointer (some ⟨b7218, 0, none⟩)), (4, .pointer (some ⟨b7232, 0, none⟩)), (5, slv g13222 hours_13221.length c13223), (17, iv v13226)] ∧ Inv [] w0 w [(some b7217, blk [iv p0_0, .slice Ap0_1 lp0_1.length cp0_1] 24), (some b7218, blk [iv 0, .slice none 0 0, .slice none 0 0] 93), (some b7232, blk [iv y7226.1, .slice Ap0_1 lp0_1.length cp0_1, slv g13217 r_13216.length c13218] 93), (g13217, blk cl13219 3), (g13222, blk cl13224 3)] ∧ (Row 1 g13217 (r_13216.length) c13218 cl13219 (flat eInt r_13216)) ∧ (Row 1 g13222 (hours_13221.length) c13223 cl13224 (flat eInt hours_13221)) ∧ F80l1 lp0_1 N y7226 mm r_13216 hours_13221 v13226 = some r ∧ mm = m) (m := N) ⟨g7228, c7229, cl7230, some b7236, ((lp0_1.length : Int)).toNat, cl7237, y7226.2, List.replicate ((lp0_1.length : Int)).toNat (0 : Int), 0, N, ⟨rfl, rfl, rfl, rfl, rfl, trivial⟩, hI.pickL [4, 3, 1, 2, 0] (by decide) rfl, (r7231.to rfl rfl), (r7238.to rfl rfl), hF, rfl⟩ ?_
 rintro m ρ w ⟨g13217, c13218, cl13219, g13222, c13223, cl13224, r_13216, hours_13221, v13226, mm, hag, hI, r13220, r13225, hF, hm⟩
 subst hm; obtain ⟨ρ, rfl⟩ := hag.form; clear hag
 obtain _ | m1 := mm
 ·cases (show (none : Option (Int × List Int × List Int)) = some r from hF)
 replace hF : F80b1 lp0_1 N y7226 (F80l1 lp0_1 N y7226 m1) r_13216 hours_13221 v13226 = some r := hF; unfold F80b1 at hF
 refine wp_seq (rgn (by kernel_rfl) (ifE hF (fun h2011 hF => ?_) (fun h2011 hF => ?_)))
 ·
  refine seq_c (s_lss rfl rfl (fun _ => ?_) (fun h => absurd (a := v13226 < 24) h2011 h))
  refine seq_nil (wp_seq (wp_condT rfl (wp_skip (wp_cutO (fun ρ w => ∃ (g13826 : Option Nat) (c13827 : Nat) (cl13828 : List Value) (g13831 : Option Nat) (c13832 : Nat) (cl13833 : List Value) (r_13825 : List Int) (hours_13830 : List Int), Agree ρ [(1, .pointer (some ⟨b7217, 0, none⟩)), (2, .pointer (some ⟨b7218, 0, none⟩)), (4, .pointer (some ⟨b7232, 0, none⟩)), (5, slv g13831 hours_13830.length c13832), (17, iv v13226)] ∧ Inv [] w0 w [(some b7217, blk [iv p0_0, .slice Ap0_1 lp0_1.length cp0_1] 24), (some b7218, blk [iv 0, .slice none 0 0, .slice none 0 0] 93), (some b7232, blk [iv y7226.1, .slice Ap0_1 lp0_1.length cp0_1, slv g13826 r_13825.length c13827] 93), (g13826, blk cl13828 3), (g13831, blk cl13833 3)] ∧ (Row 1 g13826 (r_13825.length) c13827 cl13828 (flat eInt r_13825)) ∧ (Row 1 g13831 (hours_13830.length) c13832 cl13833 (flat eInt hours_13830)) ∧ F80j2 (F80l1 lp0_1 N y7226 m1) v13226 r_13825 hours_13830 = some r) ?_ ?_))))
  ·
   refine wp_block ?_
   refine wp_seq (rgn (by kernel_rfl) (pu (iv v13226) (by kernel_rfl) (pu (iv v13226) (by kernel_rfl) (seq_nil (wp_seq (rgn (by kernel_rfl) (pu (.pointer (some ⟨b7217, 1, none⟩)) (by kernel_rfl) (seq_c (s_load1 hI 0 (.slice Ap0_1 lp0_1.length cp0_1) Try.isAgg22 rfl rfl rfl ?_)))))))))
   refine pu (iv ((lp0_1.length : Nat) : Int)) (by kernel_rfl) (pu (iv 0) (by kernel_rfl) (seq_nil (wp_block ?_)))
   refine wp_loop (fun m ρ w => ∃ (g14231 : Option Nat) (c14232 : Nat) (cl14233 : List Value) (g14236 : Option Nat) (c14237 : Nat) (cl14238 : List Value) (r_14230 : List Int) (hours_14235 : List Int) (v14240 : Int) (mm : Nat), Agree ρ [(1, .pointer (some ⟨b7217, 0, none⟩)), (2, .pointer (some ⟨b7218, 0, none⟩)), (4, .pointer (some ⟨b7232, 0, none⟩)), (5, slv g14236 hours_14235.length c14237), (6, iv v13226), (17, iv v13226), (21, .slice Ap0_1 lp0_1.length cp0_1), (22, iv (lp0_1.length : Int)), (23, iv v14240)] ∧ Inv [] w0 w [(some b7217, blk [iv p0_0, .slice Ap0_1 lp0_1.length cp0_1] 24), (some b7218, blk [iv 0, .slice none 0 0, .slice none 0 0] 93), (some b7232, blk [iv y7226.1, .slice Ap0_1 lp0_1.length cp0_1, slv g14231 r_14230.length c14232] 93), (g14231, blk cl14233 3), (g14236, blk cl14238 3)] ∧ (Row 1 g14231 (r_14230.length) c14232 cl14233 (flat eInt r_14230)) ∧ (Row 1 g14236 (hours_14235.length) c14237 cl14238 (flat eInt hours_14235)) ∧ F80l3 lp0_1 N (F80l1 lp0_1 N y7226 m1) y7226 v13226 mm r_14230 hours_14235 v14240 = some r ∧ mm = m) (m := N) ⟨g13217, c13218, cl13219, g13222, c13223, cl13224, r_13216, hours_13221, 0, N, ⟨rfl, rfl, rfl, rfl, rfl, rfl, rfl, rfl, rfl, trivial⟩, hI.pickL [0, 1, 2, 3, 4] (by decide) rfl, (r13220.to rfl rfl), (r13225.to rfl rfl), hF, rfl⟩ ?_
   rintro m ρ w ⟨g14231, c14232, cl14233, g14236, c14237, cl14238, r_14230, hours_14235, v14240, mm, hag, hI, r14234, r14239, hF, hm⟩
   subst hm; obtain ⟨ρ, rfl⟩ := hag.form; clear hag
   obtain _ | m3 := mm
   ·cases (show (none : Option (Int × List Int × List Int)) = some r from hF)
   replace hF : F80b3 lp0_1 N (F80l1 lp0_1 N y7226 m1) y7226 v13226 (F80l3 lp0_1 N (F80l1 lp0_1 N y7226 m1) y7226 v13226 m3) r_14230 hours_14235 v14240 = some r := hF; unfold F80b3 at hF
   refine wp_seq (rgn (by kernel_rfl) (ifE hF (fun h2163 hF => ?_) (fun h2163 hF => ?_)))
   ·
    refine seq_c (s_lss rfl rfl (fun _ => ?_) (fun h => absurd (a := v14240 < (lp0_1.length : Int)) h2163 h))
    refine seq_nil (wp_seq (wp_condT rfl (wp_skip (wp_cutO (fun ρ w => ∃ (g14333 : Option Nat) (c14334 : Nat) (cl14335 : List Value) (g14338 : Option Nat) (c14339 : Nat) (cl14340 : List Value) (r_14332 : List Int) (hours_14337 : List Int), Agree ρ [(1, .pointer (some ⟨b7217, 0, none⟩)), (2, .pointer (some ⟨b7218, 0, none⟩)), (4, .pointer (some ⟨b7232, 0, none⟩)), (5, slv g14338 hours_14337.length c14339), (6, iv v13226), (17, iv v13226), (21, .slice Ap0_1 lp0_1.length cp0_1), (22, iv (lp0_1.length : Int)), (23, iv v14240)] ∧ Inv [] w0 w [(some b7217, blk [iv p0_0, .slice Ap0_1 lp0_1.length cp0_1] 24), (some b7218, blk [iv 0, .slice none 0 0, .slice none 0 0] 93), (some b7232, blk [iv y7226.1, .slice Ap0_1 lp0_1.length cp0_1, slv g14333 r_14332.length c14334] 93), (g14333, blk cl14335 3), (g14338, blk cl14340 3)] ∧ (Row 1 g14333 (r_14332.length) c14334 cl14335 (flat eInt r_14332)) ∧ (Row 1 g14338 (hours_14337.length) c14339 cl14340 (flat eInt hours_14337)) ∧ F80j4 (F80l3 lp0_1 N (F80l1 lp0_1 N y7226 m1) y7226 v13226 m3) v14240 r_14332 hours_14337 = some r) ?_ ?_))))
    ·
     refine wp_block ?_
     refine wp_seq (rgn (by kernel_rfl) (pu (iv v14240) (by kernel_rfl) (gdE hF (fun h2179 hF => ?_))))
     refine bindE hF (fun x14342 hx14343 hF => ?_)
     obtain ⟨b14344, o14345, hA14346, hb14347, he14348⟩ := hCp0_1.at_ eCm_len (by decide) hx14343
     refine seq_c (s_indexA (v14240).toNat Try.underlying22 Try.sizeOf26 rfl hA14346 rfl (Int.toNat_of_nonneg h2179).symm (lt_n hx14343 rfl) ?_)
     refine seq_c (s_loadBK hI [iv x14342.fam, iv x14342.hrs, iv x14342.wants] Try.isAgg26 Try.sizeOf26 rfl rfl hb14347 (by simp) he14348 ?_)
     refine seq_c (s_allocI hI [iv 0, iv 0, iv 0] Try.zeroValue26 rfl ?_)
     intro b14349 w hI
     refine pu (iv v14240) (by kernel_rfl) (seq_c (s_store hI 0 3 [iv x14342.fam, iv x14342.hrs, iv x14342.wants] Try.sizeOf26 rfl rfl rfl rfl rfl (Nat.le_of_ble_eq_true rfl) ?_))
     intro w hI
     refine seq_nil (wp_seq (wp_cutO (fun ρ w => ∃ (g14366 : Option Nat) (c14367 : Nat) (cl14368 : List Value), Agree ρ [(1, .pointer (some ⟨b7217, 0, none⟩)), (2, .pointer (some ⟨b7218, 0, none⟩)), (4, .pointer (some ⟨b7232, 0, none⟩)), (5, slv g14366 hours_14235.length c14367), (6, iv v13226), (7, iv v14240), (17, iv v13226), (21, .slice Ap0_1 lp0_1.length cp0_1), (22, iv (lp0_1.length : Int)), (23, iv v14240), (39, .bool true)] ∧ Inv [] w0 w [(some b7217, blk [iv p0_0, .slice Ap0_1 lp0_1.length cp0_1] 24), (some b7218, blk [iv 0, .slice none 0 0, .slice none 0 0] 93), (some b7232, blk [iv y7226.1, .slice Ap0_1 lp0_1.length cp0_1, slv g14231 r_14230.length c14232] 93), (g14231, blk cl14233 3), (g14366, blk cl14368 3)] ∧ (Row 1 g14366 (hours_14235.length) c14367 cl14368 (flat eInt hours_14235)) ∧ F80j5 (F80l3 lp0_1 N (F80l1 lp0_1 N y7226 m1) y7226 v13226 m3) r_14230 hours_14235 v14240 = some r) ?_ ?_))
     ·
      refine rgn (by kernel_rfl) (pu (.pointer (some ⟨b14349, 2, none⟩)) (by kernel_rfl) (seq_c (s_load1 hI 0 (iv x14342.wants) Try.isAgg3 rfl rfl rfl ?_)))
      refine pu (iv v13226) (by kernel_rfl) (ifE hF (fun h2186 hF => ?_) (fun h2186 hF => ?_))
      ·
       refine seq_c (s_leq rfl rfl (fun _ => ?_) (fun h => absurd (a := x14342.wants ≤ v13226) h2186 h))
       refine pu (.bool true) (by kernel_rfl) (of_ (by kernel_rfl) (of_ (by kernel_rfl) (of_ (by kernel_rfl) (of_ (by kernel_rfl) (of_ (by kernel_rfl) (of_ (by kernel_rfl) (pu (.bool true) (by kernel_rfl) (seq_nil ?_))))))))
       exact .inl ⟨rfl, ⟨g14236, c14237, cl14238, ⟨rfl, rfl, rfl, rfl, rfl, rfl, rfl, rfl, rfl, rfl, rfl, trivial⟩, hI.pickL [1, 2, 3, 4, 5] (by decide) rfl, (r14239.to rfl rfl), hF⟩⟩
      ·
       refine seq_c (s_leq rfl rfl (fun h => absurd (a := x14342.wants ≤ v13226) h h2186) (fun _ => ?_))
       refine pu (.bool false) (by kernel_rfl) (puo (slv g14236 hours_14235.length c14237) ⟨(by kernel_rfl), (by kernel_rfl)⟩ (puo (iv v14240) ⟨(by kernel_rfl), (by kernel_rfl)⟩ (bindE hF (fun x14370 hx14371 hF => ?_))))
       obtain ⟨b14372, rfl, he14373⟩ := r14239.at_ eInt_len (by decide) hx14371
       refine seq_on (by kernel_rfl) (s_indexR (v14240).toNat Try.underlying49 Try.sizeOf3 rfl rfl (Int.toNat_of_nonneg h2179).symm (lt_n hx14371 rfl) ?_)
       refine seq_on (by kernel_rfl) (s_loadR1 hI 5 (iv x14370) Try.isAgg3 rfl rfl (he14373 0 _ rfl) ?_)
       refine puo (iv v13226) ⟨(by kernel_rfl), (by kernel_rfl)⟩ (ifE hF (fun h2187 hF => ?_) (fun h2187 hF => ?_))
       ·
        refine seq_on (by kernel_rfl) (s_lss rfl rfl (fun _ => ?_) (fun h => absurd (a := x14370 < v13226) h2187 h))
        refine pu (.bool true) (by kernel_rfl) (seq_nil ?_)
        exact .inl ⟨rfl, ⟨some b14372, c14237, cl14238, ⟨rfl, rfl, rfl, rfl, rfl, rfl, rfl, rfl, rfl, rfl, rfl, trivial⟩, hI.pickL [1, 2, 3, 4, 5] (by decide) rfl, (r14239.to rfl rfl), hF⟩⟩
       ·
        refine seq_on (by kernel_rfl) (s_lss rfl rfl (fun h => absurd (a := x14370 < v13226) h h2187) (fun _ => ?_))
        refine pu (.bool false) (by kernel_rfl) (seq_nil (.inr ?_))
        refine wp_condF rfl (wp_skip (wp_seq (rgn (by kernel_rfl) (pu (iv v14240) (by kernel_rfl) (seq_c (s_callI 105 [.pointer (some ⟨b7232, 0, none⟩), iv v14240] (by kernel_rfl) ?_))))))
        refine calls_of (n := 15) Try.func105 rfl Try.ntmps105 rfl ?_
        refine wp_seq (rgn (by kernel_rfl) (seq_c (s_boxI hI [.pointer (some ⟨b7232, 0, none⟩)] rfl ?_)))
        intro b14402 w hI
        refine pu (iv 0) (by kernel_rfl) (pu (.bool false) (by kernel_rfl) (seq_nil (wp_seq (rgn (by kernel_rfl) (seq_c (s_allocI hI [iv 0] Try.zeroValue3 rfl ?_))))))
        intro b14403 w hI
        refine seq_c (s_store hI 0 1 [iv 0] Try.sizeOf3 rfl rfl rfl rfl rfl (Nat.le_of_ble_eq_true rfl) ?_)
        intro w hI
        refine seq_nil (wp_seq (rgn (by kernel_rfl) (seq_c (s_allocI hI [.nilFunc] Try.zeroValue109 rfl ?_))))
        intro b14404 w hI
        refine seq_nil (wp_seq (rgn (by kernel_rfl) (pu (.func (.func 115) #[] #[.pointer (some ⟨b14402, 0, none⟩), .pointer (some ⟨b14403, 0, none⟩), .pointer (some ⟨b14404, 0, none⟩)]) (by kernel_rfl) (seq_c (s_store hI 0 1 [.func (.func 115) #[] #[.pointer (some ⟨b14402, 0, none⟩), .pointer (some ⟨b14403, 0, none⟩), .pointer (some ⟨b14404, 0, none⟩)]] Try.sizeOf109 rfl rfl rfl rfl rfl (Nat.le_of_ble_eq_true rfl) ?_)))))
        intro w hI
        refine seq_nil (wp_cutO (fun ρ w => ∃ (g14417 : Option Nat) (c14418 : Nat) (cl14419 : List Value) (asked_14414 : Int) (found_14415 : Bool) (found_14416 : List Int), Agree ρ [(6, .pointer (some ⟨b14403, 0, none⟩)), (8, .bool found_14415)] ∧ Inv [] w0 w [(some b14403, blk [iv asked_14414] 3), (some b7217, blk [iv p0_0, .slice Ap0_1 lp0_1.length cp0_1] 24), (some b7218, blk [iv 0, .slice none 0 0, .slice none 0 0] 93), (some b7232, blk [iv y7226.1, .slice Ap0_1 lp0_1.length cp0_1, slv g14417 found_14416.length c14418] 93), (g14417, blk cl14419 3), (some b14372, blk cl14238 3), (some b14349, blk [iv x14342.fam, iv x14342.hrs, iv x14342.wants] 26)] ∧ (Row 1 g14417 (found_14416.length) c14418 cl14419 (flat eInt found_14416)) ∧ F80j6 (F80l3 lp0_1 N (F80l1 lp0_1 N y7226 m1) y7226 v13226 m3) hours_14235 v14240 x14370 asked_14414 found_14415 found_14416 = some r) ?_ ?_)
        ·
         refine rgn (by kernel_rfl) (seq_c (s_load1 hI 0 (.func (.func 115) #[] #[.pointer (some ⟨b14402, 0, none⟩), .pointer (some ⟨b14403, 0, none⟩), .pointer (some ⟨b14404, 0, none⟩)]) Try.isAgg109 rfl rfl rfl ?_))
         refine pu (iv v14240) (by kernel_rfl) (ifE hF (fun h2192 hF => ?_) (fun h2192 hF => ?_))
         ·
          obtain ⟨b14424, rfl⟩ := r14234.some_ (len_ge rfl h2192)
          refine bindE hF (fun y14425 hy14426 hF => ?_)
          refine seq_c (s_call 115 [iv v14240, .pointer (some ⟨b14402, 0, none⟩), .pointer (some ⟨b14403, 0, none⟩), .pointer (some ⟨b14404, 0, none⟩)] (by kernel_rfl) (L115 N _ b14402 b14403 b14404 b7232 b14424 v14240 0 y7226.1 Ap0_1 cp0_1 lp0_1 r_14230.length c14232 cl14233 r_14230 (hI.lend [2, 1, 0, 6, 7] (by decide) rfl rfl) (hI.apartL0 [2, 1, 0, 6, 7] rfl rfl hCp0_1) hMp0_1 hKp0_1 r14234 _ hy14426) ?_)
          rintro v w ⟨cl14428, hv, hN, r14429⟩
          subst hv
          have hI := hI.backsL [2, 1, 0, 6, 7] [3, 4, 5, 8] (by decide) rfl rfl rfl hN; clear hN
          have hq : r_14230.length = y14425.2.2.length := r14429.n_eq eInt_len (by decide)
          rw [hq] at hI r14429; clear hq
          refine pu (.bool y14425.1) (by kernel_rfl) (seq_nil ?_)
          exact .inl ⟨rfl, ⟨some b14424, c14232, cl14428, y14425.2.1, y14425.1, y14425.2.2, ⟨rfl, rfl, trivial⟩, hI.pickL [1, 6, 7, 3, 4, 8, 5] (by decide) rfl, (r14429.to rfl rfl), hF⟩⟩
         ·
          refine bindE hF (fun y14430 hy14431 hF => ?_)
          refine seq_c (s_call 115 [iv v14240, .pointer (some ⟨b14402, 0, none⟩), .pointer (some ⟨b14403, 0, none⟩), .pointer (some ⟨b14404, 0, none⟩)] (by kernel_rfl) (L115n N _ b14402 b14403 b14404 b7232 v14240 0 y7226.1 Ap0_1 cp0_1 lp0_1 g14231 r_14230.length c14232 (hI.lend [2, 1, 0, 6] (by decide) rfl rfl) (hI.apartL0 [2, 1, 0, 6] rfl rfl hCp0_1) hMp0_1 hKp0_1 _ hy14431) ?_)
          rintro v w ⟨hv, hN⟩
          subst hv
          have hI := hI.backsL [2, 1, 0, 6] [3, 4, 5, 7, 8] (by decide) rfl rfl rfl hN; clear hN
          refine pu (.bool y14430.1) (by kernel_rfl) (seq_nil ?_)
          exact .inl ⟨rfl, ⟨g14231, c14232, cl14233, y14430.2, y14430.1, r_14230, ⟨rfl, rfl, trivial⟩, hI.pickL [1, 5, 6, 3, 7, 8, 4] (by decide) rfl, (r14234.to rfl rfl), hF⟩⟩
        ·intro ρ w hJ
         obtain ⟨g14417, c14418, cl14419, asked_14414, found_14415, found_14416, hag, hI, r14420, hF⟩ := hJ
         obtain ⟨ρ, rfl⟩ := hag.form; clear hag
         unfold F80j6 at hF
         refine wp_seq (rgn (by kernel_rfl) (seq_c (s_load1 hI 0 (iv asked_14414) Try.isAgg3 rfl rfl rfl ?_)))
         refine pu (.bool found_14415) (by kernel_rfl) (pu (iv asked_14414) (by kernel_rfl) (pu (.bool found_14415) (by kernel_rfl) (seq_nil (wp_ret (⟨.tuple #[iv asked_14414, .bool found_14415], Ret.r2 rfl rfl rfl, ?_⟩)))))
         refine pu (.tuple #[iv asked_14414, .bool found_14415]) (by kernel_rfl) (pu (iv asked_14414) (by kernel_rfl) (pu (.bool found_14415) (by kernel_rfl) (pu (iv asked_14414) (by kernel_rfl) (pu (.bool found_14415) (by kernel_rfl) (seq_nil (wp_seq ?_))))))
         have hG := hF; rcases Bool.eq_false_or_eq_true found_14415 with rfl | rfl
         ·
          have hF := hG; clear hG
          refine ifE hF (fun _ hF => ?_) (fun h => absurd rfl h)
          refine rgn (by kernel_rfl) (pu (.bool true) (by kernel_rfl) (seq_nil (wp_condT rfl (rgn (by kernel_rfl) (pu (slv (some b14372) hours_14235.length c14237) (by kernel_rfl) (pu (iv v14240) (by kernel_rfl) ?_))))))
          have he14421 := r14239.atS eInt_len (by decide) hx14371
          refine seq_c (s_indexR (v14240).toNat Try.underlying49 Try.sizeOf3 rfl rfl (Int.toNat_of_nonneg h2179).symm (lt_n hx14371 rfl) ?_)
          refine seq_c (s_loadR1 hI 5 (iv x14370) Try.isAgg3 rfl rfl (he14421 0 _ rfl) ?_)
          refine ckE hF (fun h2191 hF => ?_)
          refine seq_c (s_add rfl rfl h2191 ?_)
          refine seq_c (s_indexR (v14240).toNat Try.underlying49 Try.sizeOf3 rfl rfl (Int.toNat_of_nonneg h2179).symm (lt_n hx14371 rfl) ?_)
          have := lt_n hx14371 rfl
          refine seq_c (s_store hI 5 1 [iv (x14370 + 1)] Try.sizeOf3 rfl rfl rfl rfl rfl (r14239.room (by omega)) ?_)
          intro w hI
          have r14422 := r14239.put eInt_len (by decide) (v14240).toNat (x14370 + 1) (by omega)
          obtain ⟨cl14423, hcl⟩ : ∃ z, z = putCells cl14238 ((v14240).toNat * 1) (eInt (x14370 + 1)) := ⟨_, rfl⟩
          rw [← hcl] at r14422
          have hI : Inv [] w0 w [(some b14403, blk [iv asked_14414] 3), (some b7217, blk [iv p0_0, .slice Ap0_1 lp0_1.length cp0_1] 24), (some b7218, blk [iv 0, .slice none 0 0, .slice none 0 0] 93), (some b7232, blk [iv y7226.1, .slice Ap0_1 lp0_1.length cp0_1, slv g14417 found_14416.length c14418] 93), (g14417, blk cl14419 3), (some b14372, blk cl14423 3), (some b14349, blk [iv x14342.fam, iv x14342.hrs, iv x14342.wants] 26)] := by rw [hcl]; exact hI
          clear hcl
          refine seq_nil ?_
          exact .inl ⟨rfl, ⟨g14417, c14418, cl14419, some b14372, c14237, cl14423, found_14416, (hours_14235).set (v14240).toNat (x14370 + 1), ⟨rfl, rfl, rfl, (slv_n (set_len rfl)), rfl, rfl, rfl, rfl, rfl, trivial⟩, hI.pickL [1, 2, 3, 4, 5] (by decide) rfl, (r14420.to rfl rfl), (r14422.to rfl (set_len rfl)), hF⟩⟩
         ·
          have hF := hG; clear hG
          refine ifE hF (fun h => absurd h (by decide)) (fun _ hF => ?_)
          refine rgn (by kernel_rfl) (pu (.bool false) (by kernel_rfl) (seq_nil (wp_condF rfl (wp_skip ?_))))
          exact .inl ⟨rfl, ⟨g14417, c14418, cl14419, some b14372, c14237, cl14238, found_14416, hours_14235, ⟨rfl, rfl, rfl, rfl, rfl, rfl, rfl, rfl, rfl, trivial⟩, hI.pickL [1, 2, 3, 4, 5] (by decide) rfl, (r14420.to rfl rfl), (r14239.to rfl rfl), hF⟩⟩
     ·intro ρ w hJ
      obtain ⟨g14366, c14367, cl14368, hag, hI, r14369, hF⟩ := hJ
      obtain ⟨ρ, rfl⟩ := hag.form; clear hag
      unfold F80j5 at hF
      refine wp_condT rfl (wp_exit ?_)
      exact .inl ⟨rfl, ⟨g14231, c14232, cl14233, g14366, c14367, cl14368, r_14230, hours_14235, ⟨rfl, rfl, rfl, rfl, rfl, rfl, rfl, rfl, rfl, trivial⟩, hI.pickL [0, 1, 2, 3, 4] (by decide) rfl, (r14234.to rfl rfl), (r14369.to rfl rfl), hF⟩⟩
    ·intro ρ w hJ
     obtain ⟨g14333, c14334, cl14335, g14338, c14339, cl14340, r_14332, hours_14337, hag, hI, r14336, r14341, hF⟩ := hJ
     obtain ⟨ρ, rfl⟩ := hag.form; clear hag
     unfold F80j4 at hF
     refine rgn (by kernel_rfl) (ckE hF (fun h2178 hF => ?_))
     refine seq_c (s_add rfl rfl h2178 ?_)
     refine pu (iv (v14240 + 1)) (by kernel_rfl) (seq_nil ?_)
     exact ⟨rfl, m3, Nat.lt_succ_self _, ⟨g14333, c14334, cl14335, g14338, c14339, cl14340, r_14332, hours_14337, v14240 + 1, m3, ⟨rfl, rfl, rfl, rfl, rfl, rfl, rfl, rfl, rfl, trivial⟩, hI.pickL [0, 1, 2, 3, 4] (by decide) rfl, (r14336.to rfl rfl), (r14341.to rfl rfl), hF, rfl⟩⟩
   ·
    refine seq_c (s_lss rfl rfl (fun h => absurd (a := v14240 < (lp0_1.length : Int)) h h2163) (fun _ => ?_))
    refine seq_nil (wp_seq (wp_condF rfl (wp_exit ?_)))
    exact .inl ⟨rfl, ⟨g14231, c14232, cl14233, g14236, c14237, cl14238, r_14230, hours_14235, ⟨rfl, rfl, rfl, rfl, rfl, trivial⟩, hI.pickL [0, 1, 2, 3, 4] (by decide) rfl, (r14234.to rfl rfl), (r14239.to rfl rfl), hF⟩⟩
  ·intro ρ w hJ
   obtain ⟨g13826, c13827, cl13828, g13831, c13832, cl13833, r_13825, hours_13830, hag, hI, r13829, r13834, hF⟩ := hJ
   obtain ⟨ρ, rfl⟩ := hag.form; clear hag
   unfold F80j2 at hF
   refine rgn (by kernel_rfl) (ckE hF (fun h2102 hF => ?_))
   refine seq_c (s_add rfl rfl h2102 ?_)
   refine pu (iv (v13226 + 1)) (by kernel_rfl) (seq_nil ?_)
   exact ⟨rfl, m1, Nat.lt_succ_self _, ⟨g13826, c13827, cl13828, g13831, c13832, cl13833, r_13825, hours_13830, v13226 + 1, m1, ⟨rfl, rfl, rfl, rfl, rfl, trivial⟩, hI.pickL [0, 1, 2, 3, 4] (by decide) rfl, (r13829.to rfl rfl), (r13834.to rfl rfl), hF, rfl⟩⟩
 ·
  refine seq_c (s_lss rfl rfl (fun h => absurd (a := v13226 < 24) h h2011) (fun _ => ?_))
  refine seq_nil (wp_seq (wp_condF rfl (wp_exit ?_)))
  refine wp_seq (rgn (by kernel_rfl) (seq_c (s_loadK hI 2 3 [iv y7226.1, .slice Ap0_1 lp0_1.length cp0_1, slv g13217 r_13216.length c13218] Try.isAgg93 Try.sizeOf93 rfl rfl rfl rfl ?_)))
  refine pu (slv g13222 hours_13221.length c13223) (by kernel_rfl) (seq_c (s_store hI 1 3 [iv y7226.1, .slice Ap0_1 lp0_1.length cp0_1, slv g13217 r_13216.length c13218] Try.sizeOf93 rfl rfl rfl rfl rfl (Nat.le_of_ble_eq_true rfl) ?_))
  intro w hI
  refine pu (slv g13222 hours_13221.length c13223) (by kernel_rfl) (seq_nil (wp_ret ?_))
  replace hF := Option.some.inj hF; subst hF
  exact ⟨.tuple #[.agg #[iv y7226.1, .slice Ap0_1 lp0_1.length cp0_1, slv g13217 r_13216.length c13218], slv g13222 hours_13221.length c13223], Ret.ct rfl rfl (run_loadK hI 1 3 [iv y7226.1, .slice Ap0_1 lp0_1.length cp0_1, slv g13217 r_13216.length c13218] Try.isAgg93 Try.sizeOf93 rfl rfl rfl) rfl, ⟨g13217, c13218, cl13219, g13222, c13223, cl13224, rfl, hI.pickL [3, 4] (by decide) rfl, r13220.to rfl rfl, r13225.to rfl rfl⟩⟩


theorem L36 (w0 : World) (p0_0 : Int) (Ap0_1 : Option Addr) (cp0_1 : Nat) (lp0_1 : List Cm) (hCp0_1 : Cells w0 Ap0_1 (flat eCm lp0_1)) (hMp0_1 : lp0_1.length ≤ 9223372036854775807) (hKp0_1 : lp0_1.length ≤ cp0_1) (N : Nat) (r : (Int × Int)) (hF : F36 N p0_0 lp0_1 = some r) : Does Try.prog 36 [.agg #[.int .i64 p0_0, .slice Ap0_1 lp0_1.length cp0_1]] w0 fun v w => v = .tuple #[.int .i64 r.1, .int .i64 r.2] ∧ Below w0.heap.size w0 w := by
 refine calls_of (n := 43) Try.func36 rfl Try.ntmps36 rfl ?_
 have hI := Inv.start w0
 unfold F36 at hF
 refine wp_seq (rgn (by kernel_rfl) (seq_c (s_boxI hI [iv p0_0, .slice Ap0_1 lp0_1.length cp0_1] rfl ?_)))
 intro b375 w hI
 refine pu (iv 0) (by kernel_rfl) (pu (iv 0) (by kernel_rfl) (seq_nil (wp_seq (wp_seq (rgn (by kernel_rfl) (seq_c (s_loadK hI 0 2 [iv p0_0, .slice Ap0_1 lp0_1.length cp0_1] Try.isAgg24 Try.sizeOf24 rfl rfl rfl rfl ?_)))))))
 refine bindE hF (fun y382 hy383 hF => ?_)
 refine seq_c (s_callv hI 23 [.agg #[iv p0_0, .slice Ap0_1 lp0_1.length cp0_1]] (iv y382) (by kernel_rfl) (L23 _ p0_0 Ap0_1 cp0_1 lp0_1 (hCp0_1.inv0 hI) hMp0_1 hKp0_1 N _ hy383) ?_)
 intro w hI
 refine pu (iv y382) (by kernel_rfl) (seq_nil (wp_seq (rgn (by kernel_rfl) (pu (iv y382) (by kernel_rfl) (ifE hF (fun h56 hF => ?_) (fun h56 hF => ?_))))))
 ·
  refine seq_c (s_neq rfl rfl (fun h => absurd (a := y382 = 0) h56 h) (fun _ => ?_))
  refine seq_nil (wp_condF rfl (wp_skip (wp_seq (rgn (by kernel_rfl) (seq_c (s_loadK hI 0 2 [iv p0_0, .slice Ap0_1 lp0_1.length cp0_1] Try.isAgg24 Try.sizeOf24 rfl rfl rfl rfl ?_))))))
  refine bindE hF (fun y395 hy396 hF => ?_)
  refine seq_c (s_call 80 [.agg #[iv p0_0, .slice Ap0_1 lp0_1.length cp0_1]] (by kernel_rfl) (L80 _ p0_0 Ap0_1 cp0_1 lp0_1 (hCp0_1.inv0 hI) hMp0_1 hKp0_1 N _ hy396) ?_)
  rintro v w ⟨g397, c398, cl399, g400, c401, cl402, rfl, hN, r403, r404⟩
  have hI := hI.join hN; clear hN
  refine pu (.tuple #[.agg #[iv y395.1, .slice Ap0_1 lp0_1.length cp0_1, slv g397 y395.2.1.length c398], slv g400 y395.2.2.length c401]) (by kernel_rfl) (pu (.agg #[iv y395.1, .slice Ap0_1 lp0_1.length cp0_1, slv g397 y395.2.1.length c398]) (by kernel_rfl) (pu (slv g400 y395.2.2.length c401) (by kernel_rfl) (seq_c (s_allocI hI [iv 0, .slice none 0 0, .slice none 0 0] Try.zeroValue93 rfl ?_))))
  intro b405 w hI
  refine seq_c (s_store hI 0 3 [iv y395.1, .slice Ap0_1 lp0_1.length cp0_1, slv g397 y395.2.1.length c398] Try.sizeOf93 rfl rfl rfl rfl rfl (Nat.le_of_ble_eq_true rfl) ?_)
  intro w hI
  refine pu (slv g400 y395.2.2.length c401) (by kernel_rfl) (seq_nil (wp_seq (rgn (by kernel_rfl) (pu (iv 24) (by kernel_rfl) (seq_nil (wp_seq (wp_seq (rgn (by kernel_rfl) (pu (.pointer (some ⟨b375, 1, none⟩)) (by kernel_rfl) ?_)))))))))
  refine seq_c (s_load1 hI 3 (.slice Ap0_1 lp0_1.length cp0_1) Try.isAgg22 rfl rfl rfl ?_)
  refine pu (iv ((lp0_1.length : Nat) : Int)) (by kernel_rfl) (pu (iv 0) (by kernel_rfl) (seq_nil (wp_block ?_)))
  refine wp_loop (fun m ρ w => ∃ (g690 : Option Nat) (c691 : Nat) (cl692 : List Value) (level_694 : Int) (v695 : Int) (mm : Nat), Agree ρ [(6, slv g690 y395.2.2.length c691), (7, iv level_694), (21, .slice Ap0_1 lp0_1.length cp0_1), (22, iv (lp0_1.length : Int)), (23, iv v695)] ∧ Inv [] w0 w [(g690, blk cl692 3)] ∧ (Row 1 g690 (y395.2.2.length) c691 cl692 (flat eInt y395.2.2)) ∧ F36l1 lp0_1 y395 mm level_694 v695 = some r ∧ mm = m) (m := N) ⟨g400, c401, cl402, 24, 0, N, ⟨rfl, rfl, rfl, rfl, rfl, trivial⟩, hI.pickL [2] (by decide) rfl, (r404.to rfl rfl), hF, rfl⟩ ?_
  rintro m ρ w ⟨g690, c691, cl692, level_694, v695, mm, hag, hI, r693, hF, hm⟩
  subst hm; obtain ⟨ρ, rfl⟩ := hag.form; clear hag
  obtain _ | m1 := mm
  ·cases (show (none : Option (Int × Int)) = some r from hF)
  replace hF : F36b1 lp0_1 y395 (F36l1 lp0_1 y395 m1) level_694 v695 = some r := hF; unfold F36b1 at hF
  refine wp_seq (rgn (by kernel_rfl) (ifE hF (fun h97 hF => ?_) (fun h97 hF => ?_)))
  ·
   refine seq_c (s_lss rfl rfl (fun _ => ?_) (fun h => absurd (a := v695 < (lp0_1.length : Int)) h97 h))
   refine seq_nil (wp_seq (wp_condT rfl (wp_skip (wp_cutO (fun ρ w => ∃ (g720 : Option Nat) (c721 : Nat) (cl722 : List Value) (level_724 : Int), Agree ρ [(6, slv g720 y395.2.2.length c721), (7, iv level_724), (21, .slice Ap0_1 lp0_1.length cp0_1), (22, iv (lp0_1.length : Int)), (23, iv v695)] ∧ Inv [] w0 w [(g720, blk cl722 3)] ∧ (Row 1 g720 (y395.2.2.length) c721 cl722 (flat eInt y395.2.2)) ∧ F36j2 (F36l1 lp0_1 y395 m1) v695 level_724 = some r) ?_ ?_))))
   ·
    refine wp_block ?_
    refine wp_seq (rgn (by kernel_rfl) (pu (iv v695) (by kernel_rfl) (gdE hF (fun h102 hF => ?_))))
    refine bindE hF (fun x725 hx726 hF => ?_)
    obtain ⟨b727, o728, hA729, hb730, he731⟩ := hCp0_1.at_ eCm_len (by decide) hx726
    refine seq_c (s_indexA (v695).toNat Try.underlying22 Try.sizeOf26 rfl hA729 rfl (Int.toNat_of_nonneg h102).symm (lt_n hx726 rfl) ?_)
    refine seq_c (s_loadBK hI [iv x725.fam, iv x725.hrs, iv x725.wants] Try.isAgg26 Try.sizeOf26 rfl rfl hb730 (by simp) he731 ?_)
    refine seq_c (s_allocI hI [iv 0, iv 0, iv 0] Try.zeroValue26 rfl ?_)
    intro b732 w hI
    refine pu (iv v695) (by kernel_rfl) (seq_c (s_store hI 0 3 [iv x725.fam, iv x725.hrs, iv x725.wants] Try.sizeOf26 rfl rfl rfl rfl rfl (Nat.le_of_ble_eq_true rfl) ?_))
    intro w hI
    refine seq_nil (wp_seq (bindE hF (fun x741 hx742 hF => ?_)))
    refine ifE hF (fun h104 hF => ?_) (fun h104 hF => ?_)
    ·
     refine wp_drawn2 hI [0, 1] (by decide) rfl (by kernel_rfl) (by kernel_rfl) ?_
     intro hsub
     refine alp 0 (slv g690 y395.2.2.length c691) hsub rfl (by kernel_rfl) (fun _ => (by kernel_rfl)) ?_
     refine alp 1 (iv v695) hsub rfl (by kernel_rfl) (fun _ => (by kernel_rfl)) ?_
     obtain ⟨b745, rfl, he746⟩ := r693.at_ eInt_len (by decide) hx742
     refine al_light 2 (.pointer (some ⟨b745, (v695).toNat * 1, none⟩)) hsub rfl (by kernel_rfl) (fun w hI => s_indexR (v695).toNat Try.underlying49 Try.sizeOf3 rfl rfl (Int.toNat_of_nonneg h102).symm (lt_n hx742 rfl) ⟨rfl, Below.refl _ _⟩) ?_
     refine al_light 3 (iv x741) hsub rfl (by kernel_rfl) (fun w hI => s_loadR1 hI 1 (iv x741) Try.isAgg3 rfl rfl (he746 0 _ rfl) ⟨rfl, Below.refl _ _⟩) ?_
     refine alp 4 (.pointer (some ⟨b732, 2, none⟩)) hsub rfl (by kernel_rfl) (fun _ => (by kernel_rfl)) ?_
     refine al_light 5 (iv x725.wants) hsub rfl (by kernel_rfl) (fun w hI => s_load1 hI 0 (iv x725.wants) Try.isAgg3 rfl rfl rfl ⟨rfl, Below.refl _ _⟩) ?_
     refine al_light 6 (.bool true) hsub rfl (by kernel_rfl) (fun w hI => s_lss rfl rfl (fun _ => ⟨rfl, Below.refl _ _⟩) (fun h => absurd (a := x741 < x725.wants) h104 h)) ?_
     refine any_end (by kernel_rfl) (fun w hI => ?_)
     refine wp_condT rfl (rgn (by kernel_rfl) (pu (iv level_694) (by kernel_rfl) (pu (slv (some b745) y395.2.2.length c691) (by kernel_rfl) (pu (iv v695) (by kernel_rfl) (seq_c (s_indexR (v695).toNat Try.underlying49 Try.sizeOf3 rfl rfl (Int.toNat_of_nonneg h102).symm (lt_n hx742 rfl) ?_))))))
     refine seq_c (s_loadR1 hI 1 (iv x741) Try.isAgg3 rfl rfl (he746 0 _ rfl) ?_)
     refine pu (iv (if x741 < level_694 then x741 else level_694)) (by kernel_rfl) (pu (iv (if x741 < level_694 then x741 else level_694)) (by kernel_rfl) (seq_nil ?_))
     exact .inl ⟨rfl, ⟨some b745, c691, cl692, if x741 < level_694 then x741 else level_694, ⟨rfl, rfl, rfl, rfl, rfl, trivial⟩, hI.pickL [1] (by decide) rfl, (r693.to rfl rfl), hF⟩⟩
    ·
     refine wp_drawn2 hI [0, 1] (by decide) rfl (by kernel_rfl) (by kernel_rfl) ?_
     intro hsub
     refine alp 0 (slv g690 y395.2.2.length c691) hsub rfl (by kernel_rfl) (fun _ => (by kernel_rfl)) ?_
     refine alp 1 (iv v695) hsub rfl (by kernel_rfl) (fun _ => (by kernel_rfl)) ?_
     obtain ⟨b747, rfl, he748⟩ := r693.at_ eInt_len (by decide) hx742
     refine al_light 2 (.pointer (some ⟨b747, (v695).toNat * 1, none⟩)) hsub rfl (by kernel_rfl) (fun w hI => s_indexR (v695).toNat Try.underlying49 Try.sizeOf3 rfl rfl (Int.toNat_of_nonneg h102).symm (lt_n hx742 rfl) ⟨rfl, Below.refl _ _⟩) ?_
     refine al_light 3 (iv x741) hsub rfl (by kernel_rfl) (fun w hI => s_loadR1 hI 1 (iv x741) Try.isAgg3 rfl rfl (he748 0 _ rfl) ⟨rfl, Below.refl _ _⟩) ?_
     refine alp 4 (.pointer (some ⟨b732, 2, none⟩)) hsub rfl (by kernel_rfl) (fun _ => (by kernel_rfl)) ?_
     refine al_light 5 (iv x725.wants) hsub rfl (by kernel_rfl) (fun w hI => s_load1 hI 0 (iv x725.wants) Try.isAgg3 rfl rfl rfl ⟨rfl, Below.refl _ _⟩) ?_
     refine al_light 6 (.bool false) hsub rfl (by kernel_rfl) (fun w hI => s_lss rfl rfl (fun h => absurd (a := x741 < x725.wants) h h104) (fun _ => ⟨rfl, Below.refl _ _⟩)) ?_
     refine any_end (by kernel_rfl) (fun w hI => ?_)
     refine wp_condF rfl (wp_skip ?_)
     exact .inl ⟨rfl, ⟨some b747, c691, cl692, level_694, ⟨rfl, rfl, rfl, rfl, rfl, trivial⟩, hI.pickL [1] (by decide) rfl, (r693.to rfl rfl), hF⟩⟩
   ·intro ρ w hJ
    obtain ⟨g720, c721, cl722, level_724, hag, hI, r723, hF⟩ := hJ
    obtain ⟨ρ, rfl⟩ := hag.form; clear hag
    unfold F36j2 at hF
    refine rgn (by kernel_rfl) (ckE hF (fun h101 hF => ?_))
    refine seq_c (s_add rfl rfl h101 ?_)
    refine pu (iv (v695 + 1)) (by kernel_rfl) (seq_nil ?_)
    exact ⟨rfl, m1, Nat.lt_succ_self _, ⟨g720, c721, cl722, level_724, v695 + 1, m1, ⟨rfl, rfl, rfl, rfl, rfl, trivial⟩, hI.pickL [0] (by decide) rfl, (r723.to rfl rfl), hF, rfl⟩⟩
  ·
   refine seq_c (s_lss rfl rfl (fun h => absurd (a := v695 < (lp0_1.length : Int)) h h97) (fun _ => ?_))
   refine seq_nil (wp_seq (wp_condF rfl (wp_exit ?_)))
   refine wp_seq (rgn (by kernel_rfl) (pu (iv level_694) (by kernel_rfl) (pu (iv level_694) (by kernel_rfl) (pu (iv 0) (by kernel_rfl) (seq_nil (wp_ret ?_))))))
   replace hF := Option.some.inj hF; subst hF
   exact ⟨.tuple #[iv level_694, iv 0], Ret.r2 rfl rfl rfl, ⟨rfl, hI.below⟩⟩
 ·
  refine seq_c (s_neq rfl rfl (fun _ => ?_) (fun h => absurd (a := y382 = 0) h h56))
  refine seq_nil (wp_condT rfl (wp_seq (rgn (by kernel_rfl) (pu (iv y382) (by kernel_rfl) (pu (iv 0) (by kernel_rfl) (pu (iv y382) (by kernel_rfl) (seq_nil (wp_ret ?_))))))))
  replace hF := Option.some.inj hF; subst hF
  exact ⟨.tuple #[iv 0, iv y382], Ret.r2 rfl rfl rfl, ⟨rfl, hI.below⟩⟩


theorem L38 (w0 : World) (p0_0 : Int) (Ap0_1 : Option Addr) (cp0_1 : Nat) (lp0_1 : List Cm) (hCp0_1 : Cells w0 Ap0_1 (flat eCm lp0_1)) (hMp0_1 : lp0_1.length ≤ 9223372036854775807) (hKp0_1 : lp0_1.length ≤ cp0_1) (N : Nat) (r : (List Int × Int)) (hF : F38 N p0_0 lp0_1 = some r) : Does Try.prog 38 [.agg #[.int .i64 p0_0, .slice Ap0_1 lp0_1.length cp0_1]] w0 fun v w => ∃ (z0 : Option Nat) (z1 : Nat) (z2 : List Value), v = .tuple #[slv z0 r.1.length z1, .int .i64 r.2] ∧ Inv [] w0 w [(z0, blk z2 3)] ∧ Row 1 z0 r.1.length z1 z2 (flat eInt r.1) := by
 refine calls_of (n := 18) Try.func38 rfl Try.ntmps38 rfl ?_
 have hI := Inv.start w0
 unfold F38 at hF
 refine wp_seq (rgn (by kernel_rfl) (seq_c (s_boxI hI [iv p0_0, .slice Ap0_1 lp0_1.length cp0_1] rfl ?_)))
 intro b32 w hI
 refine pu (.slice none 0 0) (by kernel_rfl) (pu (iv 0) (by kernel_rfl) (seq_nil (wp_seq (wp_seq (rgn (by kernel_rfl) (seq_c (s_loadK hI 0 2 [iv p0_0, .slice Ap0_1 lp0_1.length cp0_1] Try.isAgg24 Try.sizeOf24 rfl rfl rfl rfl ?_)))))))
 refine bindE hF (fun y39 hy40 hF => ?_)
 refine seq_c (s_callv hI 23 [.agg #[iv p0_0, .slice Ap0_1 lp0_1.length cp0_1]] (iv y39) (by kernel_rfl) (L23 _ p0_0 Ap0_1 cp0_1 lp0_1 (hCp0_1.inv0 hI) hMp0_1 hKp0_1 N _ hy40) ?_)
 intro w hI
 refine pu (iv y39) (by kernel_rfl) (seq_nil (wp_seq (rgn (by kernel_rfl) (pu (iv y39) (by kernel_rfl) (ifE hF (fun h8 hF => ?_) (fun h8 hF => ?_))))))
 ·
  refine seq_c (s_neq rfl rfl (fun h => absurd (a := y39 = 0) h8 h) (fun _ => ?_))
  refine seq_nil (wp_condF rfl (wp_skip (wp_seq (rgn (by kernel_rfl) (seq_c (s_loadK hI 0 2 [iv p0_0, .slice Ap0_1 lp0_1.length cp0_1] Try.isAgg24 Try.sizeOf24 rfl rfl rfl rfl ?_))))))
  refine bindE hF (fun y52 hy53 hF => ?_)
  refine seq_c (s_call 80 [.agg #[iv p0_0, .slice Ap0_1 lp0_1.length cp0_1]] (by kernel_rfl) (L80 _ p0_0 Ap0_1 cp0_1 lp0_1 (hCp0_1.inv0 hI) hMp0_1 hKp0_1 N _ hy53) ?_)
  rintro v w ⟨g54, c55, cl56, g57, c58, cl59, rfl, hN, r60, r61⟩
  have hI := hI.join hN; clear hN
  refine pu (.tuple #[.agg #[iv y52.1, .slice Ap0_1 lp0_1.length cp0_1, slv g54 y52.2.1.length c55], slv g57 y52.2.2.length c58]) (by kernel_rfl) (pu (.agg #[iv y52.1, .slice Ap0_1 lp0_1.length cp0_1, slv g54 y52.2.1.length c55]) (by kernel_rfl) (pu (slv g57 y52.2.2.length c58) (by kernel_rfl) (seq_c (s_allocI hI [iv 0, .slice none 0 0, .slice none 0 0] Try.zeroValue93 rfl ?_))))
  intro b62 w hI
  refine seq_c (s_store hI 0 3 [iv y52.1, .slice Ap0_1 lp0_1.length cp0_1, slv g54 y52.2.1.length c55] Try.sizeOf93 rfl rfl rfl rfl rfl (Nat.le_of_ble_eq_true rfl) ?_)
  intro w hI
  refine pu (slv g57 y52.2.2.length c58) (by kernel_rfl) (seq_nil (wp_seq (rgn (by kernel_rfl) (pu (slv g57 y52.2.2.length c58) (by kernel_rfl) (pu (slv g57 y52.2.2.length c58) (by kernel_rfl) (pu (iv 0) (by kernel_rfl) (seq_nil (wp_ret ?_))))))))
  replace hF := Option.some.inj hF; subst hF
  exact ⟨.tuple #[slv g57 y52.2.2.length c58, iv 0], Ret.r2 rfl rfl rfl, ⟨g57, c58, cl59, rfl, hI.pickL [2] (by decide) rfl, r61.to rfl rfl⟩⟩
 ·
  refine seq_c (s_neq rfl rfl (fun _ => ?_) (fun h => absurd (a := y39 = 0) h h8))
  refine seq_nil (wp_condT rfl (wp_seq (rgn (by kernel_rfl) (pu (iv y39) (by kernel_rfl) (pu (.slice none 0 0) (by kernel_rfl) (pu (iv y39) (by kernel_rfl) (seq_nil (wp_ret ?_))))))))
  have hI := hI.nilRow 3
  replace hF := Option.some.inj hF; subst hF
  exact ⟨.tuple #[.slice none 0 0, iv y39], Ret.r2 rfl rfl rfl, ⟨none, 0, [], rfl, hI.pickL [0] (by decide) rfl, Row.nil_ 1⟩⟩


theorem L41 (w0 : World) (Ap0 : Option Addr) (cp0 : Nat) (lp0 : List Int) (Ap1 : Option Addr) (cp1 : Nat) (lp1 : List Int) (hCp0 : Cells w0 Ap0 (flat eInt lp0)) (hMp0 : lp0.length ≤ 9223372036854775807) (hKp0 : lp0.length ≤ cp0) (hCp1 : Cells w0 Ap1 (flat eInt lp1)) (hMp1 : lp1.length ≤ 9223372036854775807) (hKp1 : lp1.length ≤ cp1) (N : Nat) (r : Bool) (hF : F41 N lp0 lp1 = some r) : Does Try.prog 41 [.slice Ap0 lp0.length cp0, .slice Ap1 lp1.length cp1] w0 fun v w => v = .bool r ∧ Below w0.heap.size w0 w := by
 refine calls_of (n := 26) Try.func41 rfl Try.ntmps41 rfl ?_
 have hI := Inv.start w0
 unfold F41 at hF
 refine wp_seq (rgn (by kernel_rfl) (pu (.bool false) (by kernel_rfl) (seq_nil (wp_seq (wp_seq (rgn (by kernel_rfl) (pu (.slice Ap0 lp0.length cp0) (by kernel_rfl) (pu (iv ((lp0.length : Nat) : Int)) (by kernel_rfl) (pu (.slice Ap1 lp1.length cp1) (by kernel_rfl) ?_)))))))))
 refine pu (iv ((lp1.length : Nat) : Int)) (by kernel_rfl) (ifE hF (fun h76 hF => ?_) (fun h76 hF => ?_))
 ·
  refine seq_c (s_neq rfl rfl (fun h => absurd (a := (lp0.length : Int) = (lp1.length : Int)) h76 h) (fun _ => ?_))
  refine seq_nil (wp_condF rfl (wp_skip (wp_seq (wp_seq (rgn (by kernel_rfl) (pu (iv 0) (by kernel_rfl) (seq_nil (wp_block ?_))))))))
  refine wp_loop (fun m ρ w => ∃ (i_1504 : Int) (mm : Nat), Agree ρ [(0, .slice Ap0 lp0.length cp0), (1, .slice Ap1 lp1.length cp1), (5, iv i_1504)] ∧ Inv [] w0 w [] ∧ F41l1 lp0 lp1 mm i_1504 = some r ∧ mm = m) (m := N) ⟨0, N, ⟨rfl, rfl, rfl, trivial⟩, hI.pickL [] (by decide) rfl, hF, rfl⟩ ?_
  rintro m ρ w ⟨i_1504, mm, hag, hI, hF, hm⟩
  subst hm; obtain ⟨ρ, rfl⟩ := hag.form; clear hag
  obtain _ | m1 := mm
  ·cases (show (none : Option Bool) = some r from hF)
  replace hF : F41b1 lp0 lp1 (F41l1 lp0 lp1 m1) i_1504 = some r := hF; unfold F41b1 at hF
  refine wp_seq (wp_seq (rgn (by kernel_rfl) (pu (iv i_1504) (by kernel_rfl) (pu (.slice Ap0 lp0.length cp0) (by kernel_rfl) (pu (iv ((lp0.length : Nat) : Int)) (by kernel_rfl) (ifE hF (fun h135 hF => ?_) (fun h135 hF => ?_)))))))
  ·
   refine seq_c (s_lss rfl rfl (fun _ => ?_) (fun h => absurd (a := i_1504 < (lp0.length : Int)) h135 h))
   refine seq_nil (wp_condT rfl (wp_skip (wp_seq (wp_block ?_))))
   refine wp_seq (gdE hF (fun h142 hF => ?_))
   refine bindE hF (fun x1607 hx1608 hF => ?_)
   refine bindE hF (fun x1614 hx1615 hF => ?_)
   refine ifE hF (fun h143 hF => ?_) (fun h143 hF => ?_)
   ·
    refine wp_drawn2 hI [] (by decide) rfl (by kernel_rfl) (by kernel_rfl) ?_
    intro hsub
    refine alp 0 (.slice Ap0 lp0.length cp0) hsub rfl (by kernel_rfl) (fun _ => (by kernel_rfl)) ?_
    refine alp 1 (iv i_1504) hsub rfl (by kernel_rfl) (fun _ => (by kernel_rfl)) ?_
    obtain ⟨b1621, o1622, hA1623, hb1624, he1625⟩ := hCp0.at_ eInt_len (by decide) hx1608
    refine al_light 2 (.pointer (some ⟨b1621, o1622 + (i_1504).toNat * 1, none⟩)) hsub rfl (by kernel_rfl) (fun w hI => s_indexA (i_1504).toNat Try.underlying49 Try.sizeOf3 rfl hA1623 rfl (Int.toNat_of_nonneg h142).symm (lt_n hx1608 rfl) ⟨rfl, Below.refl _ _⟩) ?_
    refine al_light 3 (iv x1607) hsub rfl (by kernel_rfl) (fun w hI => s_loadB1 hI (iv x1607) Try.isAgg3 rfl hb1624 (by simp) (he1625 0 _ rfl) ⟨rfl, Below.refl _ _⟩) ?_
    refine alp 4 (.slice Ap1 lp1.length cp1) hsub rfl (by kernel_rfl) (fun _ => (by kernel_rfl)) ?_
    refine alp 5 (iv i_1504) hsub rfl (by kernel_rfl) (fun _ => (by kernel_rfl)) ?_
    obtain ⟨b1626, o1627, hA1628, hb1629, he1630⟩ := hCp1.at_ eInt_len (by decide) hx1615
    refine al_light 6 (.pointer (some ⟨b1626, o1627 + (i_1504).toNat * 1, none⟩)) hsub rfl (by kernel_rfl) (fun w hI => s_indexA (i_1504).toNat Try.underlying49 Try.sizeOf3 rfl hA1628 rfl (Int.toNat_of_nonneg h142).symm (lt_n hx1615 rfl) ⟨rfl, Below.refl _ _⟩) ?_
    refine al_light 7 (iv x1614) hsub rfl (by kernel_rfl) (fun w hI => s_loadB1 hI (iv x1614) Try.isAgg3 rfl hb1629 (by simp) (he1630 0 _ rfl) ⟨rfl, Below.refl _ _⟩) ?_
    refine al_light 8 (.bool false) hsub rfl (by kernel_rfl) (fun w hI => s_neq rfl rfl (fun h => absurd (a := x1607 = x1614) h143 h) (fun _ => ⟨rfl, Below.refl _ _⟩)) ?_
    refine any_end (by kernel_rfl) (fun w hI => ?_)
    refine wp_condF rfl (wp_skip (rgn (by kernel_rfl) (pu (iv i_1504) (by kernel_rfl) (ckE hF (fun h144 hF => ?_)))))
    refine seq_c (s_add rfl rfl h144 ?_)
    refine pu (iv (i_1504 + 1)) (by kernel_rfl) (seq_nil ?_)
    exact ⟨rfl, m1, Nat.lt_succ_self _, ⟨i_1504 + 1, m1, ⟨rfl, rfl, rfl, trivial⟩, hI.pickL [] (by decide) rfl, hF, rfl⟩⟩
   ·
    refine wp_drawn2 hI [] (by decide) rfl (by kernel_rfl) (by kernel_rfl) ?_
    intro hsub
    refine alp 0 (.slice Ap0 lp0.length cp0) hsub rfl (by kernel_rfl) (fun _ => (by kernel_rfl)) ?_
    refine alp 1 (iv i_1504) hsub rfl (by kernel_rfl) (fun _ => (by kernel_rfl)) ?_
    obtain ⟨b1631, o1632, hA1633, hb1634, he1635⟩ := hCp0.at_ eInt_len (by decide) hx1608
    refine al_light 2 (.pointer (some ⟨b1631, o1632 + (i_1504).toNat * 1, none⟩)) hsub rfl (by kernel_rfl) (fun w hI => s_indexA (i_1504).toNat Try.underlying49 Try.sizeOf3 rfl hA1633 rfl (Int.toNat_of_nonneg h142).symm (lt_n hx1608 rfl) ⟨rfl, Below.refl _ _⟩) ?_
    refine al_light 3 (iv x1607) hsub rfl (by kernel_rfl) (fun w hI => s_loadB1 hI (iv x1607) Try.isAgg3 rfl hb1634 (by simp) (he1635 0 _ rfl) ⟨rfl, Below.refl _ _⟩) ?_
    refine alp 4 (.slice Ap1 lp1.length cp1) hsub rfl (by kernel_rfl) (fun _ => (by kernel_rfl)) ?_
    refine alp 5 (iv i_1504) hsub rfl (by kernel_rfl) (fun _ => (by kernel_rfl)) ?_
    obtain ⟨b1636, o1637, hA1638, hb1639, he1640⟩ := hCp1.at_ eInt_len (by decide) hx1615
    refine al_light 6 (.pointer (some ⟨b1636, o1637 + (i_1504).toNat * 1, none⟩)) hsub rfl (by kernel_rfl) (fun w hI => s_indexA (i_1504).toNat Try.underlying49 Try.sizeOf3 rfl hA1638 rfl (Int.toNat_of_nonneg h142).symm (lt_n hx1615 rfl) ⟨rfl, Below.refl _ _⟩) ?_
    refine al_light 7 (iv x1614) hsub rfl (by kernel_rfl) (fun w hI => s_loadB1 hI (iv x1614) Try.isAgg3 rfl hb1639 (by simp) (he1640 0 _ rfl) ⟨rfl, Below.refl _ _⟩) ?_
    refine al_light 8 (.bool true) hsub rfl (by kernel_rfl) (fun w hI => s_neq rfl rfl (fun _ => ⟨rfl, Below.refl _ _⟩) (fun h => absurd (a := x1607 = x1614) h h143)) ?_
    refine any_end (by kernel_rfl) (fun w hI => ?_)
    refine wp_condT rfl (wp_seq (rgn (by kernel_rfl) (pu (.bool false) (by kernel_rfl) (seq_nil (wp_ret ?_)))))
    replace hF := Option.some.inj hF; subst hF
    exact ⟨.bool false, Ret.r1 rfl rfl, ⟨rfl, hI.below⟩⟩
  ·
   refine seq_c (s_lss rfl rfl (fun h => absurd (a := i_1504 < (lp0.length : Int)) h h135) (fun _ => ?_))
   refine seq_nil (wp_condF rfl (wp_exit ?_))
   refine wp_seq (rgn (by kernel_rfl) (pu (.bool true) (by kernel_rfl) (seq_nil (wp_ret ?_))))
   replace hF := Option.some.inj hF; subst hF
   exact ⟨.bool true, Ret.r1 rfl rfl, ⟨rfl, hI.below⟩⟩
 ·
  refine seq_c (s_neq rfl rfl (fun _ => ?_) (fun h => absurd (a := (lp0.length : Int) = (lp1.length : Int)) h h76))
  refine seq_nil (wp_condT rfl (wp_seq (rgn (by kernel_rfl) (pu (.bool false) (by kernel_rfl) (seq_nil (wp_ret ?_))))))
  replace hF := Option.some.inj hF; subst hF
  exact ⟨.bool false, Ret.r1 rfl rfl, ⟨rfl, hI.below⟩⟩


theorem L85 (w0 : World) (Ap0 : Option Addr) (cp0 : Nat) (lp0 : List Int) (Ap1 : Option Addr) (cp1 : Nat) (lp1 : List Int) (hCp0 : Cells w0 Ap0 (flat eInt lp0)) (hMp0 : lp0.length ≤ 9223372036854775807) (hKp0 : lp0.length ≤ cp0) (hCp1 : Cells w0 Ap1 (flat eInt lp1)) (hMp1 : lp1.length ≤ 9223372036854775807) (hKp1 : lp1.length ≤ cp1) (N : Nat) (r : Bool) (hF : F85 N lp0 lp1 = some r) : Does Try.prog 85 [.slice Ap0 lp0.length cp0, .slice Ap1 lp1.length cp1] w0 fun v w => v = .bool r ∧ Below w0.heap.size w0 w := by
 refine calls_of (n := 26) Try.func85 rfl Try.ntmps85 rfl ?_
 have hI := Inv.start w0
 unfold F85 at hF
 refine wp_seq (rgn (by kernel_rfl) (pu (.bool false) (by kernel_rfl) (seq_nil (wp_seq (wp_seq (rgn (by kernel_rfl) (pu (.slice Ap0 lp0.length cp0) (by kernel_rfl) (pu (iv ((lp0.length : Nat) : Int)) (by kernel_rfl) (pu (.slice Ap1 lp1.length cp1) (by kernel_rfl) ?_)))))))))
 refine pu (iv ((lp1.length : Nat) : Int)) (by kernel_rfl) (ifE hF (fun h64 hF => ?_) (fun h64 hF => ?_))
 ·
  refine seq_c (s_neq rfl rfl (fun h => absurd (a := (lp0.length : Int) = (lp1.length : Int)) h64 h) (fun _ => ?_))
  refine seq_nil (wp_condF rfl (wp_skip (wp_seq (wp_seq (rgn (by kernel_rfl) (pu (.slice Ap0 lp0.length cp0) (by kernel_rfl) (pu (iv ((lp0.length : Nat) : Int)) (by kernel_rfl) (pu (iv 0) (by kernel_rfl) (seq_nil ?_)))))))))
  refine wp_block ?_
  refine wp_loop (fun m ρ w => ∃ (v1504 : Int) (mm : Nat), Agree ρ [(0, .slice Ap0 lp0.length cp0), (1, .slice Ap1 lp1.length cp1), (12, iv (lp0.length : Int)), (13, iv v1504)] ∧ Inv [] w0 w [] ∧ F85l1 lp0 lp1 mm v1504 = some r ∧ mm = m) (m := N) ⟨0, N, ⟨rfl, rfl, rfl, rfl, trivial⟩, hI.pickL [] (by decide) rfl, hF, rfl⟩ ?_
  rintro m ρ w ⟨v1504, mm, hag, hI, hF, hm⟩
  subst hm; obtain ⟨ρ, rfl⟩ := hag.form; clear hag
  obtain _ | m1 := mm
  ·cases (show (none : Option Bool) = some r from hF)
  replace hF : F85b1 lp0 lp1 (F85l1 lp0 lp1 m1) v1504 = some r := hF; unfold F85b1 at hF
  refine wp_seq (rgn (by kernel_rfl) (ifE hF (fun h111 hF => ?_) (fun h111 hF => ?_)))
  ·
   refine seq_c (s_lss rfl rfl (fun _ => ?_) (fun h => absurd (a := v1504 < (lp0.length : Int)) h111 h))
   refine seq_nil (wp_seq (wp_condT rfl (wp_skip (wp_seq (wp_block ?_)))))
   refine wp_seq (rgn (by kernel_rfl) (pu (iv v1504) (by kernel_rfl) (pu (iv v1504) (by kernel_rfl) (seq_nil (wp_seq (gdE hF (fun h118 hF => ?_)))))))
   refine bindE hF (fun x1607 hx1608 hF => ?_)
   refine bindE hF (fun x1614 hx1615 hF => ?_)
   refine ifE hF (fun h119 hF => ?_) (fun h119 hF => ?_)
   ·
    refine wp_drawn2 hI [] (by decide) rfl (by kernel_rfl) (by kernel_rfl) ?_
    intro hsub
    refine alp 0 (.slice Ap0 lp0.length cp0) hsub rfl (by kernel_rfl) (fun _ => (by kernel_rfl)) ?_
    refine alp 1 (iv v1504) hsub rfl (by kernel_rfl) (fun _ => (by kernel_rfl)) ?_
    obtain ⟨b1621, o1622, hA1623, hb1624, he1625⟩ := hCp0.at_ eInt_len (by decide) hx1608
    refine al_light 2 (.pointer (some ⟨b1621, o1622 + (v1504).toNat * 1, none⟩)) hsub rfl (by kernel_rfl) (fun w hI => s_indexA (v1504).toNat Try.underlying49 Try.sizeOf3 rfl hA1623 rfl (Int.toNat_of_nonneg h118).symm (lt_n hx1608 rfl) ⟨rfl, Below.refl _ _⟩) ?_
    refine al_light 3 (iv x1607) hsub rfl (by kernel_rfl) (fun w hI => s_loadB1 hI (iv x1607) Try.isAgg3 rfl hb1624 (by simp) (he1625 0 _ rfl) ⟨rfl, Below.refl _ _⟩) ?_
    refine alp 4 (.slice Ap1 lp1.length cp1) hsub rfl (by kernel_rfl) (fun _ => (by kernel_rfl)) ?_
    refine alp 5 (iv v1504) hsub rfl (by kernel_rfl) (fun _ => (by kernel_rfl)) ?_
    obtain ⟨b1626, o1627, hA1628, hb1629, he1630⟩ := hCp1.at_ eInt_len (by decide) hx1615
    refine al_light 6 (.pointer (some ⟨b1626, o1627 + (v1504).toNat * 1, none⟩)) hsub rfl (by kernel_rfl) (fun w hI => s_indexA (v1504).toNat Try.underlying49 Try.sizeOf3 rfl hA1628 rfl (Int.toNat_of_nonneg h118).symm (lt_n hx1615 rfl) ⟨rfl, Below.refl _ _⟩) ?_
    refine al_light 7 (iv x1614) hsub rfl (by kernel_rfl) (fun w hI => s_loadB1 hI (iv x1614) Try.isAgg3 rfl hb1629 (by simp) (he1630 0 _ rfl) ⟨rfl, Below.refl _ _⟩) ?_
    refine al_light 8 (.bool false) hsub rfl (by kernel_rfl) (fun w hI => s_neq rfl rfl (fun h => absurd (a := x1607 = x1614) h119 h) (fun _ => ⟨rfl, Below.refl _ _⟩)) ?_
    refine any_end (by kernel_rfl) (fun w hI => ?_)
    refine wp_condF rfl (wp_skip (rgn (by kernel_rfl) (ckE hF (fun h120 hF => ?_))))
    refine seq_c (s_add rfl rfl h120 ?_)
    refine pu (iv (v1504 + 1)) (by kernel_rfl) (seq_nil ?_)
    exact ⟨rfl, m1, Nat.lt_succ_self _, ⟨v1504 + 1, m1, ⟨rfl, rfl, rfl, rfl, trivial⟩, hI.pickL [] (by decide) rfl, hF, rfl⟩⟩
   ·
    refine wp_drawn2 hI [] (by decide) rfl (by kernel_rfl) (by kernel_rfl) ?_
    intro hsub
    refine alp 0 (.slice Ap0 lp0.length cp0) hsub rfl (by kernel_rfl) (fun _ => (by kernel_rfl)) ?_
    refine alp 1 (iv v1504) hsub rfl (by kernel_rfl) (fun _ => (by kernel_rfl)) ?_
    obtain ⟨b1631, o1632, hA1633, hb1634, he1635⟩ := hCp0.at_ eInt_len (by decide) hx1608
    refine al_light 2 (.pointer (some ⟨b1631, o1632 + (v1504).toNat * 1, none⟩)) hsub rfl (by kernel_rfl) (fun w hI => s_indexA (v1504).toNat Try.underlying49 Try.sizeOf3 rfl hA1633 rfl (Int.toNat_of_nonneg h118).symm (lt_n hx1608 rfl) ⟨rfl, Below.refl _ _⟩) ?_
    refine al_light 3 (iv x1607) hsub rfl (by kernel_rfl) (fun w hI => s_loadB1 hI (iv x1607) Try.isAgg3 rfl hb1634 (by simp) (he1635 0 _ rfl) ⟨rfl, Below.refl _ _⟩) ?_
    refine alp 4 (.slice Ap1 lp1.length cp1) hsub rfl (by kernel_rfl) (fun _ => (by kernel_rfl)) ?_
    refine alp 5 (iv v1504) hsub rfl (by kernel_rfl) (fun _ => (by kernel_rfl)) ?_
    obtain ⟨b1636, o1637, hA1638, hb1639, he1640⟩ := hCp1.at_ eInt_len (by decide) hx1615
    refine al_light 6 (.pointer (some ⟨b1636, o1637 + (v1504).toNat * 1, none⟩)) hsub rfl (by kernel_rfl) (fun w hI => s_indexA (v1504).toNat Try.underlying49 Try.sizeOf3 rfl hA1638 rfl (Int.toNat_of_nonneg h118).symm (lt_n hx1615 rfl) ⟨rfl, Below.refl _ _⟩) ?_
    refine al_light 7 (iv x1614) hsub rfl (by kernel_rfl) (fun w hI => s_loadB1 hI (iv x1614) Try.isAgg3 rfl hb1639 (by simp) (he1640 0 _ rfl) ⟨rfl, Below.refl _ _⟩) ?_
    refine al_light 8 (.bool true) hsub rfl (by kernel_rfl) (fun w hI => s_neq rfl rfl (fun _ => ⟨rfl, Below.refl _ _⟩) (fun h => absurd (a := x1607 = x1614) h h119)) ?_
    refine any_end (by kernel_rfl) (fun w hI => ?_)
    refine wp_condT rfl (wp_seq (rgn (by kernel_rfl) (pu (.bool false) (by kernel_rfl) (seq_nil (wp_ret ?_)))))
    replace hF := Option.some.inj hF; subst hF
    exact ⟨.bool false, Ret.r1 rfl rfl, ⟨rfl, hI.below⟩⟩
  ·
   refine seq_c (s_lss rfl rfl (fun h => absurd (a := v1504 < (lp0.length : Int)) h h111) (fun _ => ?_))
   refine seq_nil (wp_seq (wp_condF rfl (wp_exit ?_)))
   refine wp_seq (rgn (by kernel_rfl) (pu (.bool true) (by kernel_rfl) (seq_nil (wp_ret ?_))))
   replace hF := Option.some.inj hF; subst hF
   exact ⟨.bool true, Ret.r1 rfl rfl, ⟨rfl, hI.below⟩⟩
 ·
  refine seq_c (s_neq rfl rfl (fun _ => ?_) (fun h => absurd (a := (lp0.length : Int) = (lp1.length : Int)) h h64))
  refine seq_nil (wp_condT rfl (wp_seq (rgn (by kernel_rfl) (pu (.bool false) (by kernel_rfl) (seq_nil (wp_ret ?_))))))
  replace hF := Option.some.inj hF; subst hF
  exact ⟨.bool false, Ret.r1 rfl rfl, ⟨rfl, hI.below⟩⟩


theorem L42 (w0 : World) (p0_0 : Int) (Ap0_1 : Option Addr) (cp0_1 : Nat) (lp0_1 : List Cm) (Ap1 : Option Addr) (cp1 : Nat) (lp1 : List Int) (hCp0_1 : Cells w0 Ap0_1 (flat eCm lp0_1)) (hMp0_1 : lp0_1.length ≤ 9223372036854775807) (hKp0_1 : lp0_1.length ≤ cp0_1) (hCp1 : Cells w0 Ap1 (flat eInt lp1)) (hMp1 : lp1.length ≤ 9223372036854775807) (hKp1 : lp1.length ≤ cp1) (N : Nat) (r : Int) (hF : F42 N p0_0 lp0_1 lp1 = some r) : Does Try.prog 42 [.agg #[.int .i64 p0_0, .slice Ap0_1 lp0_1.length cp0_1], .slice Ap1 lp1.length cp1] w0 fun v w => v = .int .i64 r ∧ Below w0.heap.size w0 w := by
 refine calls_of (n := 33) Try.func42 rfl Try.ntmps42 rfl ?_
 have hI := Inv.start w0
 unfold F42 at hF
 refine wp_seq (rgn (by kernel_rfl) (seq_c (s_boxI hI [iv p0_0, .slice Ap0_1 lp0_1.length cp0_1] rfl ?_)))
 intro b5528 w hI
 refine pu (iv 0) (by kernel_rfl) (seq_nil (wp_seq (wp_seq (rgn (by kernel_rfl) (seq_c (s_loadK hI 0 2 [iv p0_0, .slice Ap0_1 lp0_1.length cp0_1] Try.isAgg24 Try.sizeOf24 rfl rfl rfl rfl ?_))))))
 refine bindE hF (fun y5535 hy5536 hF => ?_)
 refine seq_c (s_callv hI 23 [.agg #[iv p0_0, .slice Ap0_1 lp0_1.length cp0_1]] (iv y5535) (by kernel_rfl) (L23 _ p0_0 Ap0_1 cp0_1 lp0_1 (hCp0_1.inv0 hI) hMp0_1 hKp0_1 N _ hy5536) ?_)
 intro w hI
 refine pu (iv y5535) (by kernel_rfl) (seq_nil (wp_seq (rgn (by kernel_rfl) (pu (iv y5535) (by kernel_rfl) (ifE hF (fun h2188 hF => ?_) (fun h2188 hF => ?_))))))
 ·
  refine seq_c (s_neq rfl rfl (fun h => absurd (a := y5535 = 0) h2188 h) (fun _ => ?_))
  refine seq_nil (wp_condF rfl (wp_skip (wp_seq (rgn (by kernel_rfl) (seq_c (s_loadK hI 0 2 [iv p0_0, .slice Ap0_1 lp0_1.length cp0_1] Try.isAgg24 Try.sizeOf24 rfl rfl rfl rfl ?_))))))
  refine bindE hF (fun y5548 hy5549 hF => ?_)
  refine seq_c (s_call 80 [.agg #[iv p0_0, .slice Ap0_1 lp0_1.length cp0_1]] (by kernel_rfl) (L80 _ p0_0 Ap0_1 cp0_1 lp0_1 (hCp0_1.inv0 hI) hMp0_1 hKp0_1 N _ hy5549) ?_)
  rintro v w ⟨g5550, c5551, cl5552, g5553, c5554, cl5555, rfl, hN, r5556, r5557⟩
  have hI := hI.join hN; clear hN
  refine pu (.tuple #[.agg #[iv y5548.1, .slice Ap0_1 lp0_1.length cp0_1, slv g5550 y5548.2.1.length c5551], slv g5553 y5548.2.2.length c5554]) (by kernel_rfl) (pu (.agg #[iv y5548.1, .slice Ap0_1 lp0_1.length cp0_1, slv g5550 y5548.2.1.length c5551]) (by kernel_rfl) (pu (slv g5553 y5548.2.2.length c5554) (by kernel_rfl) (seq_c (s_allocI hI [iv 0, .slice none 0 0, .slice none 0 0] Try.zeroValue93 rfl ?_))))
  intro b5558 w hI
  refine seq_c (s_store hI 0 3 [iv y5548.1, .slice Ap0_1 lp0_1.length cp0_1, slv g5550 y5548.2.1.length c5551] Try.sizeOf93 rfl rfl rfl rfl rfl (Nat.le_of_ble_eq_true rfl) ?_)
  intro w hI
  refine pu (slv g5553 y5548.2.2.length c5554) (by kernel_rfl) (seq_nil (wp_cutO (fun ρ w => ∃ (g8301 : Option Nat) (c8302 : Nat) (cl8303 : List Value) (given_8300 : List Int) (is_8305 : Bool), Agree ρ [(7, slv g5553 y5548.2.2.length c5554), (8, slv g8301 given_8300.length c8302), (9, .bool is_8305)] ∧ Inv [] w0 w [(g5553, blk cl5555 3), (g8301, blk cl8303 3)] ∧ (Row 1 g8301 (given_8300.length) c8302 cl8303 (flat eInt given_8300)) ∧ F42j1 N y5548 given_8300 is_8305 = some r) ?_ ?_))
  ·
   refine rgn (by kernel_rfl) (pu (.slice Ap1 lp1.length cp1) (by kernel_rfl) (seq_c (s_callI 84 [.pointer (some ⟨b5558, 0, none⟩), .slice Ap1 lp1.length cp1] (by kernel_rfl) ?_)))
   refine calls_of (n := 65) Try.func84 rfl Try.ntmps84 rfl ?_
   refine wp_seq (rgn (by kernel_rfl) (pu (.slice none 0 0) (by kernel_rfl) (pu (.bool false) (by kernel_rfl) (seq_nil (wp_scope ?_)))))
   refine wp_seq (wp_seq (rgn (by kernel_rfl) (pu (.slice Ap1 lp1.length cp1) (by kernel_rfl) (pu (iv ((lp1.length : Nat) : Int)) (by kernel_rfl) (pu (.pointer (some ⟨b5558, 0, none⟩)) (by kernel_rfl) (pu (.pointer (some ⟨b5558, 0, none⟩)) (by kernel_rfl) (pu (.pointer (some ⟨b5558, 0, none⟩)) (by kernel_rfl) (pu (.pointer (some ⟨b5558, 0, none⟩)) (by kernel_rfl) (seq_c (s_load1 hI 0 (iv y5548.1) Try.isAgg3 rfl rfl rfl ?_))))))))))
   refine ifE hF (fun h3284 hF => ?_) (fun h3284 hF => ?_)
   ·
    refine seq_c (s_neq rfl rfl (fun h => absurd (a := (lp1.length : Int) = y5548.1) h3284 h) (fun _ => ?_))
    refine seq_nil (wp_condF rfl (wp_skip (wp_seq (rgn (by kernel_rfl) (pu (.pointer (some ⟨b5558, 0, none⟩)) (by kernel_rfl) (pu (.pointer (some ⟨b5558, 0, none⟩)) (by kernel_rfl) (pu (.pointer (some ⟨b5558, 0, none⟩)) (by kernel_rfl) (pu (.pointer (some ⟨b5558, 1, none⟩)) (by kernel_rfl) (seq_c (s_load1 hI 0 (.slice Ap0_1 lp0_1.length cp0_1) Try.isAgg22 rfl rfl rfl ?_))))))))))
    refine pu (iv ((lp0_1.length : Nat) : Int)) (by kernel_rfl) (gdE hF (fun h3287 hF => ?_))
    refine gdE hF (fun h3288 hF => ?_)
    refine seq_c (s_makeRowN hI (enc := eInt) eInt_len (by decide) ((0 : Int)) Try.underlying49 (z := iv 0) (k := 1) (bytes := 8) (by kernel_rfl) rfl ((lp0_1.length : Int)).toNat (congrArg (Value.int .i64) (Int.toNat_of_nonneg h3287).symm) (congrArg (Value.int .i64) (Int.toNat_of_nonneg h3287).symm) (by omega) (by decide) ?_)
    intro b8317 cl8318 w hI r8319
    refine pu (slv (some b8317) ((List.replicate ((lp0_1.length : Int)).toNat (0 : Int)).length) (((lp0_1.length : Int)).toNat)) (by kernel_rfl) (seq_nil (wp_seq (wp_label ?_)))
    refine wp_cutO (fun ρ w => ∃ (g9686 : Option Nat) (c9687 : Nat) (cl9688 : List Value) (u9685 : List Int), Agree ρ [(6, slv g9686 u9685.length c9687)] ∧ Inv [] w0 w [(g9686, blk cl9688 3), (some b5528, blk [iv p0_0, .slice Ap0_1 lp0_1.length cp0_1] 24), (g5550, blk cl5552 3), (g5553, blk cl5555 3), (some b5558, blk [iv y5548.1, .slice Ap0_1 lp0_1.length cp0_1, slv g5550 y5548.2.1.length c5551] 93)] ∧ (Row 1 g9686 (u9685.length) c9687 cl9688 (flat eInt u9685)) ∧ F42j2 N y5548 u9685 = some r) ?_ ?_
    ·
     refine wp_seq (rgn (by kernel_rfl) (pu (.slice Ap1 lp1.length cp1) (by kernel_rfl) (pu (iv ((lp1.length : Nat) : Int)) (by kernel_rfl) (pu (iv 0) (by kernel_rfl) (seq_nil (wp_block ?_))))))
     refine wp_loop (fun m ρ w => ∃ (g10591 : Option Nat) (c10592 : Nat) (cl10593 : List Value) (u10590 : List Int) (v10595 : Int) (mm : Nat), Agree ρ [(0, .pointer (some ⟨b5558, 0, none⟩)), (6, slv g10591 u10590.length c10592), (26, .slice Ap1 lp1.length cp1), (27, iv (lp1.length : Int)), (28, iv v10595)] ∧ Inv [] w0 w [(some b5558, blk [iv y5548.1, .slice Ap0_1 lp0_1.length cp0_1, slv g5550 y5548.2.1.length c5551] 93), (g5550, blk cl5552 3), (g10591, blk cl10593 3), (some b5528, blk [iv p0_0, .slice Ap0_1 lp0_1.length cp0_1] 24), (g5553, blk cl5555 3)] ∧ (Row 1 g10591 (u10590.length) c10592 cl10593 (flat eInt u10590)) ∧ F42l3 lp0_1 lp1 N y5548 mm u10590 v10595 = some r ∧ mm = m) (m := N) ⟨some b8317, ((lp0_1.length : Int)).toNat, cl8318, List.replicate ((lp0_1.length : Int)).toNat (0 : Int), 0, N, ⟨rfl, rfl, rfl, rfl, rfl, trivial⟩, hI.pickL [1, 2, 0, 4, 3] (by decide) rfl, (r8319.to rfl rfl), hF, rfl⟩ ?_
     rintro m ρ w ⟨g10591, c10592, cl10593, u10590, v10595, mm, hag, hI, r10594, hF, hm⟩
     subst hm; obtain ⟨ρ, rfl⟩ := hag.form; clear hag
     obtain _ | m3 := mm
     ·cases (show (none : Option Int) = some r from hF)
     replace hF : F42b3 lp0_1 lp1 N y5548 (F42l3 lp0_1 lp1 N y5548 m3) u10590 v10595 = some r := hF; unfold F42b3 at hF
     refine wp_seq (rgn (by kernel_rfl) (ifE hF (fun h4189 hF => ?_) (fun h4189 hF => ?_)))
     ·
      refine seq_c (s_lss rfl rfl (fun _ => ?_) (fun h => absurd (a := v10595 < (lp1.length : Int)) h4189 h))
      refine seq_nil (wp_seq (wp_condT rfl (wp_skip (wp_cutO (fun ρ w => ∃ (g10824 : Option Nat) (c10825 : Nat) (cl10826 : List Value) (u10823 : List Int), Agree ρ [(0, .pointer (some ⟨b5558, 0, none⟩)), (6, slv g10824 u10823.length c10825), (26, .slice Ap1 lp1.length cp1), (27, iv (lp1.length : Int)), (28, iv v10595)] ∧ Inv [] w0 w [(some b5558, blk [iv y5548.1, .slice Ap0_1 lp0_1.length cp0_1, slv g5550 y5548.2.1.length c5551] 93), (g5550, blk cl5552 3), (g10824, blk cl10826 3), (some b5528, blk [iv p0_0, .slice Ap0_1 lp0_1.length cp0_1] 24), (g5553, blk cl5555 3)] ∧ (Row 1 g10824 (u10823.length) c10825 cl10826 (flat eInt u10823)) ∧ F42j4 (F42l3 lp0_1 lp1 N y5548 m3) v10595 u10823 = some r) ?_ ?_))))
      ·
       refine wp_block ?_
       refine wp_seq (rgn (by kernel_rfl) (pu (iv v10595) (by kernel_rfl) (gdE hF (fun h4280 hF => ?_))))
       refine bindE hF (fun x10828 hx10829 hF => ?_)
       obtain ⟨b10830, o10831, hA10832, hb10833, he10834⟩ := hCp1.at_ eInt_len (by decide) hx10829
       refine seq_c (s_indexA (v10595).toNat Try.underlying49 Try.sizeOf3 rfl hA10832 rfl (Int.toNat_of_nonneg h4280).symm (lt_n hx10829 rfl) ?_)
       refine seq_c (s_loadB1 hI (iv x10828) Try.isAgg3 rfl hb10833 (by simp) (he10834 0 _ rfl) ?_)
       refine pu (iv v10595) (by kernel_rfl) (pu (iv x10828) (by kernel_rfl) (seq_nil (wp_seq (wp_seq (rgn (by kernel_rfl) (pu (iv x10828) (by kernel_rfl) (ifE hF (fun h4284 hF => ?_) (fun h4284 hF => ?_))))))))
       ·
        refine seq_c (s_eql rfl rfl (fun _ => ?_) (fun h => absurd (a := x10828 = 0) h4284 h))
        refine seq_nil (wp_condT rfl (wp_exit ?_))
        exact .inl ⟨rfl, ⟨g10591, c10592, cl10593, u10590, ⟨rfl, rfl, rfl, rfl, rfl, trivial⟩, hI.pickL [0, 1, 2, 3, 4] (by decide) rfl, (r10594.to rfl rfl), hF⟩⟩
       ·
        refine seq_c (s_eql rfl rfl (fun h => absurd (a := x10828 = 0) h h4284) (fun _ => ?_))
        refine seq_nil (wp_condF rfl (wp_skip (wp_cutO (fun ρ w => Agree ρ [] ∧ Inv [] w0 w [(some b5528, blk [iv p0_0, .slice Ap0_1 lp0_1.length cp0_1] 24), (g5550, blk cl5552 3), (g5553, blk cl5555 3), (some b5558, blk [iv y5548.1, .slice Ap0_1 lp0_1.length cp0_1, slv g5550 y5548.2.1.length c5551] 93)] ∧ F42j5 N y5548 = some r) ?_ ?_)))
        ·
         refine wp_seq (rgn (by kernel_rfl) (pu (.pointer (some ⟨b5558, 0, none⟩)) (by kernel_rfl) (pu (.pointer (some ⟨b5558, 0, none⟩)) (by kernel_rfl) (pu (.pointer (some ⟨b5558, 0, none⟩)) (by kernel_rfl) (pu (.pointer (some ⟨b5558, 1, none⟩)) (by kernel_rfl) (seq_c (s_load1 hI 0 (.slice Ap0_1 lp0_1.length cp0_1) Try.isAgg22 rfl rfl rfl ?_)))))))
         refine pu (iv ((lp0_1.length : Nat) : Int)) (by kernel_rfl) (pu (iv 0) (by kernel_rfl) (seq_nil (wp_block ?_)))
         refine wp_loop (fun m ρ w => ∃ (v11018 : Int) (mm : Nat), Agree ρ [(0, .pointer (some ⟨b5558, 0, none⟩)), (6, slv g10591 u10590.length c10592), (7, iv v10595), (8, iv x10828), (26, .slice Ap1 lp1.length cp1), (27, iv (lp1.length : Int)), (28, iv v10595), (39, .slice Ap0_1 lp0_1.length cp0_1), (40, iv (lp0_1.length : Int)), (41, iv v11018)] ∧ Inv [] w0 w [(some b5558, blk [iv y5548.1, .slice Ap0_1 lp0_1.length cp0_1, slv g5550 y5548.2.1.length c5551] 93), (g5550, blk cl5552 3), (g10591, blk cl10593 3), (some b5528, blk [iv p0_0, .slice Ap0_1 lp0_1.length cp0_1] 24), (g5553, blk cl5555 3)] ∧ F42l6 lp0_1 N (F42l3 lp0_1 lp1 N y5548 m3) y5548 u10590 v10595 x10828 mm v11018 = some r ∧ mm = m) (m := N) ⟨0, N, ⟨rfl, rfl, rfl, rfl, rfl, rfl, rfl, rfl, rfl, rfl, trivial⟩, hI.pickL [0, 1, 2, 3, 4] (by decide) rfl, hF, rfl⟩ ?_
         rintro m ρ w ⟨v11018, mm, hag, hI, hF, hm⟩
         subst hm; obtain ⟨ρ, rfl⟩ := hag.form; clear hag
         obtain _ | m6 := mm
         ·cases (show (none : Option Int) = some r from hF)
         replace hF : F42b6 lp0_1 N (F42l3 lp0_1 lp1 N y5548 m3) y5548 u10590 v10595 x10828 (F42l6 lp0_1 N (F42l3 lp0_1 lp1 N y5548 m3) y5548 u10590 v10595 x10828 m6) v11018 = some r := hF; unfold F42b6 at hF
         refine wp_seq (rgn (by kernel_rfl) (ifE hF (fun h4355 hF => ?_) (fun h4355 hF => ?_)))
         ·
          refine seq_c (s_lss rfl rfl (fun _ => ?_) (fun h => absurd (a := v11018 < (lp0_1.length : Int)) h4355 h))
          refine seq_nil (wp_seq (wp_condT rfl (wp_skip (wp_seq (wp_block ?_)))))
          refine wp_seq (rgn (by kernel_rfl) (pu (iv v11018) (by kernel_rfl) (gdE hF (fun h4362 hF => ?_))))
          refine bindE hF (fun x11037 hx11038 hF => ?_)
          obtain ⟨b11039, o11040, hA11041, hb11042, he11043⟩ := hCp0_1.at_ eCm_len (by decide) hx11038
          refine seq_c (s_indexA (v11018).toNat Try.underlying22 Try.sizeOf26 rfl hA11041 rfl (Int.toNat_of_nonneg h4362).symm (lt_n hx11038 rfl) ?_)
          refine seq_c (s_loadBK hI [iv x11037.fam, iv x11037.hrs, iv x11037.wants] Try.isAgg26 Try.sizeOf26 rfl rfl hb11042 (by simp) he11043 ?_)
          refine seq_c (s_allocI hI [iv 0, iv 0, iv 0] Try.zeroValue26 rfl ?_)
          intro b11044 w hI
          refine pu (iv v11018) (by kernel_rfl) (seq_c (s_store hI 0 3 [iv x11037.fam, iv x11037.hrs, iv x11037.wants] Try.sizeOf26 rfl rfl rfl rfl rfl (Nat.le_of_ble_eq_true rfl) ?_))
          intro w hI
          refine seq_nil (wp_cutO (fun ρ w => Agree ρ [(0, .pointer (some ⟨b5558, 0, none⟩)), (6, slv g10591 u10590.length c10592), (7, iv v10595), (8, iv x10828), (9, iv v11018), (26, .slice Ap1 lp1.length cp1), (27, iv (lp1.length : Int)), (28, iv v10595), (39, .slice Ap0_1 lp0_1.length cp0_1), (40, iv (lp0_1.length : Int)), (41, iv v11018), (55, .bool false)] ∧ Inv [] w0 w [(some b5558, blk [iv y5548.1, .slice Ap0_1 lp0_1.length cp0_1, slv g5550 y5548.2.1.length c5551] 93), (g5550, blk cl5552 3), (g10591, blk cl10593 3), (some b5528, blk [iv p0_0, .slice Ap0_1 lp0_1.length cp0_1] 24), (g5553, blk cl5555 3)] ∧ F42j7 (F42l6 lp0_1 N (F42l3 lp0_1 lp1 N y5548 m3) y5548 u10590 v10595 x10828 m6) v11018 = some r) ?_ ?_)
          ·
           refine rgn (by kernel_rfl) (pu (.pointer (some ⟨b11044, 0, none⟩)) (by kernel_rfl) (seq_c (s_load1 hI 0 (iv x11037.fam) Try.isAgg3 rfl rfl rfl ?_)))
           refine pu (iv x10828) (by kernel_rfl) (ifE hF (fun h4366 hF => ?_) (fun h4366 hF => ?_))
           ·
            refine seq_c (s_eql rfl rfl (fun _ => ?_) (fun h => absurd (a := x11037.fam = x10828) h4366 h))
            refine pu (.bool true) (by kernel_rfl) (puo (iv v10595) ⟨(by kernel_rfl), (by kernel_rfl)⟩ (puo (.pointer (some ⟨b11044, 1, none⟩)) ⟨(by kernel_rfl), (by kernel_rfl)⟩ (seq_on (by kernel_rfl) (s_load1 hI 0 (iv x11037.hrs) Try.isAgg3 rfl rfl rfl ?_))))
            refine bindE hF (fun y11047 hy11048 hF => ?_)
            refine ifE hF (fun h4367 hF => ?_) (fun h4367 hF => ?_)
            ·
             refine seq_on (by kernel_rfl) (s_callv hI 92 [iv v10595, iv x11037.hrs] (.bool true) (by kernel_rfl) (Does.mono (L92 _ v10595 x11037.hrs _ hy11048) (fun v' w' h => ⟨h.1.trans (congrArg Value.bool h4367), h.2⟩)) ?_)
             intro w hI
             refine pu (.bool true) (by kernel_rfl) (seq_nil (.inr ?_))
             refine wp_condT rfl (wp_seq (rgn (by kernel_rfl) (pu (slv g10591 u10590.length c10592) (by kernel_rfl) (pu (iv v11018) (by kernel_rfl) (bindE hF (fun x11049 hx11050 hF => ?_))))))
             obtain ⟨b11051, rfl, he11052⟩ := r10594.at_ eInt_len (by decide) hx11050
             refine seq_c (s_indexR (v11018).toNat Try.underlying49 Try.sizeOf3 rfl rfl (Int.toNat_of_nonneg h4362).symm (lt_n hx11050 rfl) ?_)
             refine seq_c (s_loadR1 hI 3 (iv x11049) Try.isAgg3 rfl rfl (he11052 0 _ rfl) ?_)
             refine ckE hF (fun h4368 hF => ?_)
             refine seq_c (s_add rfl rfl h4368 ?_)
             refine seq_c (s_indexR (v11018).toNat Try.underlying49 Try.sizeOf3 rfl rfl (Int.toNat_of_nonneg h4362).symm (lt_n hx11050 rfl) ?_)
             have := lt_n hx11050 rfl
             refine seq_c (s_store hI 3 1 [iv (x11049 + 1)] Try.sizeOf3 rfl rfl rfl rfl rfl (r10594.room (by omega)) ?_)
             intro w hI
             have r11053 := r10594.put eInt_len (by decide) (v11018).toNat (x11049 + 1) (by omega)
             obtain ⟨cl11054, hcl⟩ : ∃ z, z = putCells cl10593 ((v11018).toNat * 1) (eInt (x11049 + 1)) := ⟨_, rfl⟩
             rw [← hcl] at r11053
             have hI : Inv [] w0 w [(some b11044, blk [iv x11037.fam, iv x11037.hrs, iv x11037.wants] 26), (some b5558, blk [iv y5548.1, .slice Ap0_1 lp0_1.length cp0_1, slv g5550 y5548.2.1.length c5551] 93), (g5550, blk cl5552 3), (some b11051, blk cl11054 3), (some b5528, blk [iv p0_0, .slice Ap0_1 lp0_1.length cp0_1] 24), (g5553, blk cl5555 3)] := by rw [hcl]; exact hI
             clear hcl
             refine seq_nil (wp_exit ?_)
             exact .inl ⟨rfl, ⟨some b11051, c10592, cl11054, (u10590).set (v11018).toNat (x11049 + 1), ⟨rfl, (slv_n (set_len rfl)), rfl, rfl, rfl, trivial⟩, hI.pickL [1, 2, 3, 4, 5] (by decide) rfl, (r11053.to rfl (set_len rfl)), hF⟩⟩
            ·
             refine seq_on (by kernel_rfl) (s_callv hI 92 [iv v10595, iv x11037.hrs] (.bool false) (by kernel_rfl) (Does.mono (L92 _ v10595 x11037.hrs _ hy11048) (fun v' w' h => ⟨h.1.trans (congrArg Value.bool (Bool.eq_false_iff.2 h4367)), h.2⟩)) ?_)
             intro w hI
             refine pu (.bool false) (by kernel_rfl) (seq_nil ?_)
             exact .inl ⟨rfl, ⟨⟨rfl, rfl, rfl, rfl, rfl, rfl, rfl, rfl, rfl, rfl, rfl, rfl, trivial⟩, hI.pickL [1, 2, 3, 4, 5] (by decide) rfl, hF⟩⟩
           ·
            refine seq_c (s_eql rfl rfl (fun h => absurd (a := x11037.fam = x10828) h h4366) (fun _ => ?_))
            refine pu (.bool false) (by kernel_rfl) (of_ (by kernel_rfl) (of_ (by kernel_rfl) (of_ (by kernel_rfl) (of_ (by kernel_rfl) (pu (.bool false) (by kernel_rfl) (seq_nil ?_))))))
            exact .inl ⟨rfl, ⟨⟨rfl, rfl, rfl, rfl, rfl, rfl, rfl, rfl, rfl, rfl, rfl, rfl, trivial⟩, hI.pickL [1, 2, 3, 4, 5] (by decide) rfl, hF⟩⟩
          ·intro ρ w hJ
           obtain ⟨hag, hI, hF⟩ := hJ
           obtain ⟨ρ, rfl⟩ := hag.form; clear hag
           unfold F42j7 at hF
           refine wp_condF rfl (wp_skip (rgn (by kernel_rfl) (ckE hF (fun h4365 hF => ?_))))
           refine seq_c (s_add rfl rfl h4365 ?_)
           refine pu (iv (v11018 + 1)) (by kernel_rfl) (seq_nil ?_)
           exact ⟨rfl, m6, Nat.lt_succ_self _, ⟨v11018 + 1, m6, ⟨rfl, rfl, rfl, rfl, rfl, rfl, rfl, rfl, rfl, rfl, trivial⟩, hI.pickL [0, 1, 2, 3, 4] (by decide) rfl, hF, rfl⟩⟩
         ·
          refine seq_c (s_lss rfl rfl (fun h => absurd (a := v11018 < (lp0_1.length : Int)) h h4355) (fun _ => ?_))
          refine seq_nil (wp_seq (wp_condF rfl (wp_exit ?_)))
          exact .inl ⟨rfl, ⟨trivial, hI.pickL [3, 1, 4, 0] (by decide) rfl, hF⟩⟩
        ·intro ρ w hJ
         obtain ⟨hag, hI, hF⟩ := hJ
         obtain ⟨ρ, rfl⟩ := hag.form; clear hag
         unfold F42j5 at hF
         refine wp_seq (rgn (by kernel_rfl) (pu (.slice none 0 0) (by kernel_rfl) (pu (.bool false) (by kernel_rfl) (seq_nil (wp_ret (⟨.tuple #[.slice none 0 0, .bool false], Ret.r2 rfl rfl rfl, ?_⟩))))))
         refine pu (.tuple #[.slice none 0 0, .bool false]) (by kernel_rfl) (pu (.slice none 0 0) (by kernel_rfl) (pu (.bool false) (by kernel_rfl) (pu (.slice none 0 0) (by kernel_rfl) (pu (.bool false) (by kernel_rfl) (seq_nil ?_)))))
         have hI := hI.nilRow 3
         exact .inl ⟨rfl, ⟨none, 0, [], [], false, ⟨rfl, rfl, rfl, trivial⟩, hI.pickL [3, 0] (by decide) rfl, (Row.nil_ 1), hF⟩⟩
      ·intro ρ w hJ
       obtain ⟨g10824, c10825, cl10826, u10823, hag, hI, r10827, hF⟩ := hJ
       obtain ⟨ρ, rfl⟩ := hag.form; clear hag
       unfold F42j4 at hF
       refine rgn (by kernel_rfl) (ckE hF (fun h4279 hF => ?_))
       refine seq_c (s_add rfl rfl h4279 ?_)
       refine pu (iv (v10595 + 1)) (by kernel_rfl) (seq_nil ?_)
       exact ⟨rfl, m3, Nat.lt_succ_self _, ⟨g10824, c10825, cl10826, u10823, v10595 + 1, m3, ⟨rfl, rfl, rfl, rfl, rfl, trivial⟩, hI.pickL [0, 1, 2, 3, 4] (by decide) rfl, (r10827.to rfl rfl), hF, rfl⟩⟩
     ·
      refine seq_c (s_lss rfl rfl (fun h => absurd (a := v10595 < (lp1.length : Int)) h h4189) (fun _ => ?_))
      refine seq_nil (wp_seq (wp_condF rfl (wp_exit ?_)))
      exact .inl ⟨rfl, ⟨g10591, c10592, cl10593, u10590, ⟨rfl, trivial⟩, hI.pickL [2, 3, 1, 4, 0] (by decide) rfl, (r10594.to rfl rfl), hF⟩⟩
    ·intro ρ w hJ
     obtain ⟨g9686, c9687, cl9688, u9685, hag, hI, r9689, hF⟩ := hJ
     obtain ⟨ρ, rfl⟩ := hag.form; clear hag
     unfold F42j2 at hF
     refine wp_seq (rgn (by kernel_rfl) (pu (slv g9686 u9685.length c9687) (by kernel_rfl) (pu (slv g9686 u9685.length c9687) (by kernel_rfl) (pu (.bool true) (by kernel_rfl) (seq_nil (wp_ret (⟨.tuple #[slv g9686 u9685.length c9687, .bool true], Ret.r2 rfl rfl rfl, ?_⟩)))))))
     refine pu (.tuple #[slv g9686 u9685.length c9687, .bool true]) (by kernel_rfl) (pu (slv g9686 u9685.length c9687) (by kernel_rfl) (pu (.bool true) (by kernel_rfl) (pu (slv g9686 u9685.length c9687) (by kernel_rfl) (pu (.bool true) (by kernel_rfl) (seq_nil ?_)))))
     exact .inl ⟨rfl, ⟨g9686, c9687, cl9688, u9685, true, ⟨rfl, rfl, rfl, trivial⟩, hI.pickL [3, 0] (by decide) rfl, (r9689.to rfl rfl), hF⟩⟩
   ·
    refine seq_c (s_neq rfl rfl (fun _ => ?_) (fun h => absurd (a := (lp1.length : Int) = y5548.1) h h3284))
    refine seq_nil (wp_condT rfl (wp_seq (rgn (by kernel_rfl) (pu (.slice none 0 0) (by kernel_rfl) (pu (.bool false) (by kernel_rfl) (seq_nil (wp_ret (⟨.tuple #[.slice none 0 0, .bool false], Ret.r2 rfl rfl rfl, ?_⟩))))))))
    refine pu (.tuple #[.slice none 0 0, .bool false]) (by kernel_rfl) (pu (.slice none 0 0) (by kernel_rfl) (pu (.bool false) (by kernel_rfl) (pu (.slice none 0 0) (by kernel_rfl) (pu (.bool false) (by kernel_rfl) (seq_nil ?_)))))
    have hI := hI.nilRow 3
    exact .inl ⟨rfl, ⟨none, 0, [], [], false, ⟨rfl, rfl, rfl, trivial⟩, hI.pickL [3, 0] (by decide) rfl, (Row.nil_ 1), hF⟩⟩
  ·intro ρ w hJ
   obtain ⟨g8301, c8302, cl8303, given_8300, is_8305, hag, hI, r8304, hF⟩ := hJ
   obtain ⟨ρ, rfl⟩ := hag.form; clear hag
   unfold F42j1 at hF
   refine wp_seq (wp_seq ?_)
   have hG := hF; rcases Bool.eq_false_or_eq_true is_8305 with rfl | rfl
   ·
    have hF := hG; clear hG
    refine ifE hF (fun _ hF => ?_) (fun h => absurd rfl h)
    refine rgn (by kernel_rfl) (pu (.bool true) (by kernel_rfl) (pu (.bool false) (by kernel_rfl) (pu (.bool false) (by kernel_rfl) (puo (slv g8301 given_8300.length c8302) ⟨(by kernel_rfl), (by kernel_rfl)⟩ (puo (slv g5553 y5548.2.2.length c5554) ⟨(by kernel_rfl), (by kernel_rfl)⟩ (bindE hF (fun y8312 hy8313 hF => ?_)))))))
    refine ifE hF (fun h3280 hF => ?_) (fun h3280 hF => ?_)
    ·
     refine seq_on (by kernel_rfl) (s_callv hI 85 [slv g8301 given_8300.length c8302, slv g5553 y5548.2.2.length c5554] (.bool true) (by kernel_rfl) (Does.mono (L85 _ (g8301.map fun b => ⟨b, 0, none⟩) c8302 given_8300 (g5553.map fun b => ⟨b, 0, none⟩) c5554 y5548.2.2 (hI.rowCells 1 rfl r8304) (len_le rfl r8304.big) (len_le rfl r8304.cap) (hI.rowCells 0 rfl r5557) (len_le rfl r5557.big) (len_le rfl r5557.cap) N _ hy8313) (fun v' w' h => ⟨h.1.trans (congrArg Value.bool h3280), h.2⟩)) ?_)
     intro w hI
     refine puo (.bool false) ⟨(by kernel_rfl), (by kernel_rfl)⟩ (pu (.bool false) (by kernel_rfl) (seq_nil (wp_condF rfl (wp_skip (wp_seq (rgn (by kernel_rfl) (pu (iv 0) (by kernel_rfl) (seq_nil (wp_ret ?_)))))))))
     replace hF := Option.some.inj hF; subst hF
     exact ⟨iv 0, Ret.r1 rfl rfl, ⟨rfl, hI.below⟩⟩
    ·
     refine seq_on (by kernel_rfl) (s_callv hI 85 [slv g8301 given_8300.length c8302, slv g5553 y5548.2.2.length c5554] (.bool false) (by kernel_rfl) (Does.mono (L85 _ (g8301.map fun b => ⟨b, 0, none⟩) c8302 given_8300 (g5553.map fun b => ⟨b, 0, none⟩) c5554 y5548.2.2 (hI.rowCells 1 rfl r8304) (len_le rfl r8304.big) (len_le rfl r8304.cap) (hI.rowCells 0 rfl r5557) (len_le rfl r5557.big) (len_le rfl r5557.cap) N _ hy8313) (fun v' w' h => ⟨h.1.trans (congrArg Value.bool (Bool.eq_false_iff.2 h3280)), h.2⟩)) ?_)
     intro w hI
     refine puo (.bool true) ⟨(by kernel_rfl), (by kernel_rfl)⟩ (pu (.bool true) (by kernel_rfl) (seq_nil (wp_condT rfl (wp_seq (rgn (by kernel_rfl) (pu (iv 53) (by kernel_rfl) (seq_nil (wp_ret ?_))))))))
     replace hF := Option.some.inj hF; subst hF
     exact ⟨iv 53, Ret.r1 rfl rfl, ⟨rfl, hI.below⟩⟩
   ·
    have hF := hG; clear hG
    refine ifE hF (fun h => absurd h (by decide)) (fun _ hF => ?_)
    refine rgn (by kernel_rfl) (pu (.bool false) (by kernel_rfl) (pu (.bool true) (by kernel_rfl) (pu (.bool true) (by kernel_rfl) (of_ (by kernel_rfl) (of_ (by kernel_rfl) (of_ (by kernel_rfl) (of_ (by kernel_rfl) (pu (.bool true) (by kernel_rfl) (seq_nil ?_)))))))))
    refine wp_condT rfl (wp_seq (rgn (by kernel_rfl) (pu (iv 53) (by kernel_rfl) (seq_nil (wp_ret ?_)))))
    replace hF := Option.some.inj hF; subst hF
    exact ⟨iv 53, Ret.r1 rfl rfl, ⟨rfl, hI.below⟩⟩
 ·
  refine seq_c (s_neq rfl rfl (fun _ => ?_) (fun h => absurd (a := y5535 = 0) h h2188))
  refine seq_nil (wp_condT rfl (wp_seq (rgn (by kernel_rfl) (pu (iv y5535) (by kernel_rfl) (pu (iv y5535) (by kernel_rfl) (seq_nil (wp_ret ?_)))))))
  replace hF := Option.some.inj hF; subst hF
  exact ⟨iv y5535, Ret.r1 rfl rfl, ⟨rfl, hI.below⟩⟩


theorem L86 (w0 : World) (p0_0 : Int) (Ap0_1 : Option Addr) (cp0_1 : Nat) (lp0_1 : List Cm) (Ap1 : Option Addr) (cp1 : Nat) (lp1 : List Int) (hCp0_1 : Cells w0 Ap0_1 (flat eCm lp0_1)) (hMp0_1 : lp0_1.length ≤ 9223372036854775807) (hKp0_1 : lp0_1.length ≤ cp0_1) (hCp1 : Cells w0 Ap1 (flat eInt lp1)) (hMp1 : lp1.length ≤ 9223372036854775807) (hKp1 : lp1.length ≤ cp1) (N : Nat) (r : Int) (hF : F86 N p0_0 lp0_1 lp1 = some r) : Does Try.prog 86 [.agg #[.int .i64 p0_0, .slice Ap0_1 lp0_1.length cp0_1], .slice Ap1 lp1.length cp1] w0 fun v w => v = .int .i64 r ∧ Below w0.heap.size w0 w := by
 refine calls_of (n := 29) Try.func86 rfl Try.ntmps86 rfl ?_
 have hI := Inv.start w0
 unfold F86 at hF
 refine wp_seq (rgn (by kernel_rfl) (seq_c (s_boxI hI [iv p0_0, .slice Ap0_1 lp0_1.length cp0_1] rfl ?_)))
 intro b146 w hI
 refine pu (iv 0) (by kernel_rfl) (seq_nil (wp_seq (wp_seq (rgn (by kernel_rfl) (seq_c (s_loadK hI 0 2 [iv p0_0, .slice Ap0_1 lp0_1.length cp0_1] Try.isAgg24 Try.sizeOf24 rfl rfl rfl rfl ?_))))))
 refine bindE hF (fun y153 hy154 hF => ?_)
 refine seq_c (s_callv hI 23 [.agg #[iv p0_0, .slice Ap0_1 lp0_1.length cp0_1]] (iv y153) (by kernel_rfl) (L23 _ p0_0 Ap0_1 cp0_1 lp0_1 (hCp0_1.inv0 hI) hMp0_1 hKp0_1 N _ hy154) ?_)
 intro w hI
 refine pu (iv y153) (by kernel_rfl) (seq_nil (wp_seq (rgn (by kernel_rfl) (pu (iv y153) (by kernel_rfl) (ifE hF (fun h60 hF => ?_) (fun h60 hF => ?_))))))
 ·
  refine seq_c (s_neq rfl rfl (fun h => absurd (a := y153 = 0) h60 h) (fun _ => ?_))
  refine seq_nil (wp_condF rfl (wp_skip (wp_seq (wp_seq (rgn (by kernel_rfl) (pu (.slice Ap1 lp1.length cp1) (by kernel_rfl) (pu (iv ((lp1.length : Nat) : Int)) (by kernel_rfl) (pu (.pointer (some ⟨b146, 1, none⟩)) (by kernel_rfl) (seq_c (s_load1 hI 0 (.slice Ap0_1 lp0_1.length cp0_1) Try.isAgg22 rfl rfl rfl ?_))))))))))
  refine pu (iv ((lp0_1.length : Nat) : Int)) (by kernel_rfl) (ifE hF (fun h64 hF => ?_) (fun h64 hF => ?_))
  ·
   refine seq_c (s_neq rfl rfl (fun h => absurd (a := (lp1.length : Int) = (lp0_1.length : Int)) h64 h) (fun _ => ?_))
   refine seq_nil (wp_condF rfl (wp_skip (wp_seq (wp_seq (rgn (by kernel_rfl) (pu (.slice Ap1 lp1.length cp1) (by kernel_rfl) (pu (iv ((lp1.length : Nat) : Int)) (by kernel_rfl) (pu (iv 0) (by kernel_rfl) (seq_nil ?_)))))))))
   refine wp_block ?_
   refine wp_loop (fun m ρ w => ∃ (v268 : Int) (mm : Nat), Agree ρ [(19, .slice Ap1 lp1.length cp1), (20, iv (lp1.length : Int)), (21, iv v268)] ∧ Inv [] w0 w [] ∧ F86l1 lp1 mm v268 = some r ∧ mm = m) (m := N) ⟨0, N, ⟨rfl, rfl, rfl, trivial⟩, hI.pickL [] (by decide) rfl, hF, rfl⟩ ?_
   rintro m ρ w ⟨v268, mm, hag, hI, hF, hm⟩
   subst hm; obtain ⟨ρ, rfl⟩ := hag.form; clear hag
   obtain _ | m1 := mm
   ·cases (show (none : Option Int) = some r from hF)
   replace hF : F86b1 lp1 (F86l1 lp1 m1) v268 = some r := hF; unfold F86b1 at hF
   refine wp_seq (rgn (by kernel_rfl) (ifE hF (fun h105 hF => ?_) (fun h105 hF => ?_)))
   ·
    refine seq_c (s_lss rfl rfl (fun _ => ?_) (fun h => absurd (a := v268 < (lp1.length : Int)) h105 h))
    refine seq_nil (wp_seq (wp_condT rfl (wp_skip (wp_seq (wp_block ?_)))))
    refine wp_seq (rgn (by kernel_rfl) (gdE hF (fun h109 hF => ?_)))
    refine bindE hF (fun x280 hx281 hF => ?_)
    obtain ⟨b282, o283, hA284, hb285, he286⟩ := hCp1.at_ eInt_len (by decide) hx281
    refine seq_c (s_indexA (v268).toNat Try.underlying49 Try.sizeOf3 rfl hA284 rfl (Int.toNat_of_nonneg h109).symm (lt_n hx281 rfl) ?_)
    refine seq_c (s_loadB1 hI (iv x280) Try.isAgg3 rfl hb285 (by simp) (he286 0 _ rfl) ?_)
    refine pu (iv x280) (by kernel_rfl) (seq_nil (wp_seq (rgn (by kernel_rfl) (pu (iv x280) (by kernel_rfl) (bindE hF (fun y289 hy290 hF => ?_))))))
    refine ifE hF (fun h111 hF => ?_) (fun h111 hF => ?_)
    ·
     refine seq_c (s_callv hI 70 [iv x280, iv 0, iv 24] (.bool true) (by kernel_rfl) (Does.mono (L70 _ x280 0 24 _ hy290) (fun v' w' h => ⟨h.1.trans (congrArg Value.bool h111), h.2⟩)) ?_)
     intro w hI
     refine pu (.bool false) (by kernel_rfl) (seq_nil (wp_condF rfl (wp_skip (rgn (by kernel_rfl) (ckE hF (fun h112 hF => ?_))))))
     refine seq_c (s_add rfl rfl h112 ?_)
     refine pu (iv (v268 + 1)) (by kernel_rfl) (seq_nil ?_)
     exact ⟨rfl, m1, Nat.lt_succ_self _, ⟨v268 + 1, m1, ⟨rfl, rfl, rfl, trivial⟩, hI.pickL [] (by decide) rfl, hF, rfl⟩⟩
    ·
     refine seq_c (s_callv hI 70 [iv x280, iv 0, iv 24] (.bool false) (by kernel_rfl) (Does.mono (L70 _ x280 0 24 _ hy290) (fun v' w' h => ⟨h.1.trans (congrArg Value.bool (Bool.eq_false_iff.2 h111)), h.2⟩)) ?_)
     intro w hI
     refine pu (.bool true) (by kernel_rfl) (seq_nil (wp_condT rfl (wp_seq (rgn (by kernel_rfl) (pu (iv 56) (by kernel_rfl) (seq_nil (wp_ret ?_)))))))
     replace hF := Option.some.inj hF; subst hF
     exact ⟨iv 56, Ret.r1 rfl rfl, ⟨rfl, hI.below⟩⟩
   ·
    refine seq_c (s_lss rfl rfl (fun h => absurd (a := v268 < (lp1.length : Int)) h h105) (fun _ => ?_))
    refine seq_nil (wp_seq (wp_condF rfl (wp_exit ?_)))
    refine wp_seq (rgn (by kernel_rfl) (pu (iv 0) (by kernel_rfl) (seq_nil (wp_ret ?_))))
    replace hF := Option.some.inj hF; subst hF
    exact ⟨iv 0, Ret.r1 rfl rfl, ⟨rfl, hI.below⟩⟩
  ·
   refine seq_c (s_neq rfl rfl (fun _ => ?_) (fun h => absurd (a := (lp1.length : Int) = (lp0_1.length : Int)) h h64))
   refine seq_nil (wp_condT rfl (wp_seq (rgn (by kernel_rfl) (pu (iv 56) (by kernel_rfl) (seq_nil (wp_ret ?_))))))
   replace hF := Option.some.inj hF; subst hF
   exact ⟨iv 56, Ret.r1 rfl rfl, ⟨rfl, hI.below⟩⟩
 ·
  refine seq_c (s_neq rfl rfl (fun _ => ?_) (fun h => absurd (a := y153 = 0) h h60))
  refine seq_nil (wp_condT rfl (wp_seq (rgn (by kernel_rfl) (pu (iv y153) (by kernel_rfl) (pu (iv y153) (by kernel_rfl) (seq_nil (wp_ret ?_)))))))
  replace hF := Option.some.inj hF; subst hF
  exact ⟨iv y153, Ret.r1 rfl rfl, ⟨rfl, hI.below⟩⟩


theorem L87 (w0 : World) (p0_0 : Int) (Ap0_1 : Option Addr) (cp0_1 : Nat) (lp0_1 : List Cm) (Ap1 : Option Addr) (cp1 : Nat) (lp1 : List Int) (hCp0_1 : Cells w0 Ap0_1 (flat eCm lp0_1)) (hMp0_1 : lp0_1.length ≤ 9223372036854775807) (hKp0_1 : lp0_1.length ≤ cp0_1) (hCp1 : Cells w0 Ap1 (flat eInt lp1)) (hMp1 : lp1.length ≤ 9223372036854775807) (hKp1 : lp1.length ≤ cp1) (N : Nat) (r : Bool) (hF : F87 N p0_0 lp0_1 lp1 = some r) : Does Try.prog 87 [.agg #[.int .i64 p0_0, .slice Ap0_1 lp0_1.length cp0_1], .slice Ap1 lp1.length cp1] w0 fun v w => v = .bool r ∧ Below w0.heap.size w0 w := by
 refine calls_of (n := 16) Try.func87 rfl Try.ntmps87 rfl ?_
 have hI := Inv.start w0
 unfold F87 at hF
 refine wp_seq (rgn (by kernel_rfl) (seq_c (s_boxI hI [iv p0_0, .slice Ap0_1 lp0_1.length cp0_1] rfl ?_)))
 intro b114735 w hI
 refine pu (.bool false) (by kernel_rfl) (seq_nil (wp_seq (rgn (by kernel_rfl) (seq_c (s_loadK hI 0 2 [iv p0_0, .slice Ap0_1 lp0_1.length cp0_1] Try.isAgg24 Try.sizeOf24 rfl rfl rfl rfl ?_)))))
 refine bindE hF (fun y114743 hy114744 hF => ?_)
 refine seq_c (s_call 104 [.agg #[iv p0_0, .slice Ap0_1 lp0_1.length cp0_1]] (by kernel_rfl) (L104 _ p0_0 Ap0_1 cp0_1 lp0_1 (hCp0_1.inv0 hI) hMp0_1 hKp0_1 N _ hy114744) ?_)
 rintro v w ⟨g114745, c114746, cl114747, rfl, hN, r114748⟩
 have hI := hI.join hN; clear hN
 refine seq_c (s_allocI hI [iv 0, .slice none 0 0, .slice none 0 0] Try.zeroValue93 rfl ?_)
 intro b114749 w hI
 refine seq_c (s_store hI 0 3 [iv y114743.1, .slice Ap0_1 lp0_1.length cp0_1, slv g114745 y114743.2.length c114746] Try.sizeOf93 rfl rfl rfl rfl rfl (Nat.le_of_ble_eq_true rfl) ?_)
 intro w hI
 refine seq_nil (wp_seq (rgn (by kernel_rfl) (pu (.slice Ap1 lp1.length cp1) (by kernel_rfl) (seq_c (s_callI 107 [.pointer (some ⟨b114749, 0, none⟩), .slice Ap1 lp1.length cp1] (by kernel_rfl) ?_)))))
 refine calls_of (n := 34) Try.func107 rfl Try.ntmps107 rfl ?_
 refine wp_seq (rgn (by kernel_rfl) (pu (.slice none 0 0) (by kernel_rfl) (pu (.bool false) (by kernel_rfl) (seq_nil (wp_seq (wp_seq (rgn (by kernel_rfl) (pu (.slice Ap1 lp1.length cp1) (by kernel_rfl) (pu (iv ((lp1.length : Nat) : Int)) (by kernel_rfl) ?_)))))))))
 refine pu (iv 0) (by kernel_rfl) (seq_nil (wp_block ?_))
 refine wp_loop (fun m ρ w => ∃ (g219461 : Option Nat) (c219462 : Nat) (cl219463 : List Value) (r_219460 : List Int) (v219465 : Int) (mm : Nat), Agree ρ [(0, .pointer (some ⟨b114749, 0, none⟩)), (1, .slice Ap1 lp1.length cp1), (10, .slice Ap1 lp1.length cp1), (11, iv (lp1.length : Int)), (12, iv v219465)] ∧ Inv [] w0 w [(some b114749, blk [iv y114743.1, .slice Ap0_1 lp0_1.length cp0_1, slv g219461 r_219460.length c219462] 93), (g219461, blk cl219463 3), (some b114735, blk [iv p0_0, .slice Ap0_1 lp0_1.length cp0_1] 24)] ∧ (Row 1 g219461 (r_219460.length) c219462 cl219463 (flat eInt r_219460)) ∧ F87l1 lp0_1 lp1 N y114743 mm r_219460 v219465 = some r ∧ mm = m) (m := N) ⟨g114745, c114746, cl114747, y114743.2, 0, N, ⟨rfl, rfl, rfl, rfl, rfl, trivial⟩, hI.pickL [0, 1, 2] (by decide) rfl, (r114748.to rfl rfl), hF, rfl⟩ ?_
 rintro m ρ w ⟨g219461, c219462, cl219463, r_219460, v219465, mm, hag, hI, r219464, hF, hm⟩
 subst hm; obtain ⟨ρ, rfl⟩ := hag.form; clear hag
 obtain _ | m1 := mm
 ·cases (show (none : Option Bool) = some r from hF)
 replace hF : F87b1 lp0_1 lp1 N y114743 (F87l1 lp0_1 lp1 N y114743 m1) r_219460 v219465 = some r := hF; unfold F87b1 at hF
 refine wp_seq (rgn (by kernel_rfl) (ifE hF (fun h101517 hF => ?_) (fun h101517 hF => ?_)))
 ·
  refine seq_c (s_lss rfl rfl (fun _ => ?_) (fun h => absurd (a := v219465 < (lp1.length : Int)) h101517 h))
  refine seq_nil (wp_seq (wp_condT rfl (wp_skip (wp_cutO (fun ρ w => ∃ (g224466 : Option Nat) (c224467 : Nat) (cl224468 : List Value) (r_224465 : List Int), Agree ρ [(0, .pointer (some ⟨b114749, 0, none⟩)), (1, .slice Ap1 lp1.length cp1), (10, .slice Ap1 lp1.length cp1), (11, iv (lp1.length : Int)), (12, iv v219465)] ∧ Inv [] w0 w [(some b114749, blk [iv y114743.1, .slice Ap0_1 lp0_1.length cp0_1, slv g224466 r_224465.length c224467] 93), (g224466, blk cl224468 3), (some b114735, blk [iv p0_0, .slice Ap0_1 lp0_1.length cp0_1] 24)] ∧ (Row 1 g224466 (r_224465.length) c224467 cl224468 (flat eInt r_224465)) ∧ F87j2 (F87l1 lp0_1 lp1 N y114743 m1) v219465 r_224465 = some r) ?_ ?_))))
  ·
   refine wp_block ?_
   refine wp_seq (rgn (by kernel_rfl) (pu (iv v219465) (by kernel_rfl) (gdE hF (fun h103736 hF => ?_))))
   refine bindE hF (fun x224470 hx224471 hF => ?_)
   obtain ⟨b224472, o224473, hA224474, hb224475, he224476⟩ := hCp1.at_ eInt_len (by decide) hx224471
   refine seq_c (s_indexA (v219465).toNat Try.underlying49 Try.sizeOf3 rfl hA224474 rfl (Int.toNat_of_nonneg h103736).symm (lt_n hx224471 rfl) ?_)
   refine seq_c (s_loadB1 hI (iv x224470) Try.isAgg3 rfl hb224475 (by simp) (he224476 0 _ rfl) ?_)
   refine pu (iv v219465) (by kernel_rfl) (pu (iv x224470) (by kernel_rfl) (seq_nil (wp_seq (rgn (by kernel_rfl) (pu (iv x224470) (by kernel_rfl) (pu (iv 0) (by kernel_rfl) (seq_nil (wp_block ?_))))))))
   refine wp_loop (fun m ρ w => ∃ (g227804 : Option Nat) (c227805 : Nat) (cl227806 : List Value) (r_227803 : List Int) (v227808 : Int) (mm : Nat), Agree ρ [(0, .pointer (some ⟨b114749, 0, none⟩)), (1, .slice Ap1 lp1.length cp1), (6, iv v219465), (10, .slice Ap1 lp1.length cp1), (11, iv (lp1.length : Int)), (12, iv v219465), (17, iv x224470), (18, iv v227808)] ∧ Inv [] w0 w [(some b114749, blk [iv y114743.1, .slice Ap0_1 lp0_1.length cp0_1, slv g227804 r_227803.length c227805] 93), (g227804, blk cl227806 3), (some b114735, blk [iv p0_0, .slice Ap0_1 lp0_1.length cp0_1] 24)] ∧ (Row 1 g227804 (r_227803.length) c227805 cl227806 (flat eInt r_227803)) ∧ F87l3 lp0_1 lp1 N (F87l1 lp0_1 lp1 N y114743 m1) y114743 v219465 x224470 mm r_227803 v227808 = some r ∧ mm = m) (m := N) ⟨g219461, c219462, cl219463, r_219460, 0, N, ⟨rfl, rfl, rfl, rfl, rfl, rfl, rfl, rfl, trivial⟩, hI.pickL [0, 1, 2] (by decide) rfl, (r219464.to rfl rfl), hF, rfl⟩ ?_
   rintro m ρ w ⟨g227804, c227805, cl227806, r_227803, v227808, mm, hag, hI, r227807, hF, hm⟩
   subst hm; obtain ⟨ρ, rfl⟩ := hag.form; clear hag
   obtain _ | m3 := mm
   ·cases (show (none : Option Bool) = some r from hF)
   replace hF : F87b3 lp0_1 lp1 N (F87l1 lp0_1 lp1 N y114743 m1) y114743 v219465 x224470 (F87l3 lp0_1 lp1 N (F87l1 lp0_1 lp1 N y114743 m1) y114743 v219465 x224470 m3) r_227803 v227808 = some r := hF; unfold F87b3 at hF
   refine wp_seq (rgn (by kernel_rfl) (ifE hF (fun h105215 hF => ?_) (fun h105215 hF => ?_)))
   ·
    refine seq_c (s_lss rfl rfl (fun _ => ?_) (fun h => absurd (a := v227808 < x224470) h105215 h))
    refine seq_nil (wp_seq (wp_condT rfl (wp_skip (wp_seq (wp_block ?_)))))
    refine wp_seq (rgn (by kernel_rfl) (pu (.pointer (some ⟨b114749, 0, none⟩)) (by kernel_rfl) (pu (iv v219465) (by kernel_rfl) (seq_c (s_callI 105 [.pointer (some ⟨b114749, 0, none⟩), iv v219465] (by kernel_rfl) ?_)))))
    refine calls_of (n := 15) Try.func105 rfl Try.ntmps105 rfl ?_
    refine wp_seq (rgn (by kernel_rfl) (seq_c (s_boxI hI [.pointer (some ⟨b114749, 0, none⟩)] rfl ?_)))
    intro b228667 w hI
    refine pu (iv 0) (by kernel_rfl) (pu (.bool false) (by kernel_rfl) (seq_nil (wp_seq (rgn (by kernel_rfl) (seq_c (s_allocI hI [iv 0] Try.zeroValue3 rfl ?_))))))
    intro b228668 w hI
    refine seq_c (s_store hI 0 1 [iv 0] Try.sizeOf3 rfl rfl rfl rfl rfl (Nat.le_of_ble_eq_true rfl) ?_)
    intro w hI
    refine seq_nil (wp_seq (rgn (by kernel_rfl) (seq_c (s_allocI hI [.nilFunc] Try.zeroValue109 rfl ?_))))
    intro b228669 w hI
    refine seq_nil (wp_seq (rgn (by kernel_rfl) (pu (.func (.func 115) #[] #[.pointer (some ⟨b228667, 0, none⟩), .pointer (some ⟨b228668, 0, none⟩), .pointer (some ⟨b228669, 0, none⟩)]) (by kernel_rfl) (seq_c (s_store hI 0 1 [.func (.func 115) #[] #[.pointer (some ⟨b228667, 0, none⟩), .pointer (some ⟨b228668, 0, none⟩), .pointer (some ⟨b228669, 0, none⟩)]] Try.sizeOf109 rfl rfl rfl rfl rfl (Nat.le_of_ble_eq_true rfl) ?_)))))
    intro w hI
    refine seq_nil (wp_cutO (fun ρ w => ∃ (g228682 : Option Nat) (c228683 : Nat) (cl228684 : List Value) (asked_228679 : Int) (found_228680 : Bool) (found_228681 : List Int), Agree ρ [(6, .pointer (some ⟨b228668, 0, none⟩)), (8, .bool found_228680)] ∧ Inv [] w0 w [(some b228668, blk [iv asked_228679] 3), (some b114735, blk [iv p0_0, .slice Ap0_1 lp0_1.length cp0_1] 24), (some b114749, blk [iv y114743.1, .slice Ap0_1 lp0_1.length cp0_1, slv g228682 found_228681.length c228683] 93), (g228682, blk cl228684 3)] ∧ (Row 1 g228682 (found_228681.length) c228683 cl228684 (flat eInt found_228681)) ∧ F87j4 lp0_1 lp1 N (F87l3 lp0_1 lp1 N (F87l1 lp0_1 lp1 N y114743 m1) y114743 v219465 x224470 m3) v227808 asked_228679 found_228680 found_228681 = some r) ?_ ?_)
    ·
     refine rgn (by kernel_rfl) (seq_c (s_load1 hI 0 (.func (.func 115) #[] #[.pointer (some ⟨b228667, 0, none⟩), .pointer (some ⟨b228668, 0, none⟩), .pointer (some ⟨b228669, 0, none⟩)]) Try.isAgg109 rfl rfl rfl ?_))
     refine pu (iv v219465) (by kernel_rfl) (ifE hF (fun h105952 hF => ?_) (fun h105952 hF => ?_))
     ·
      obtain ⟨b229460, rfl⟩ := r227807.some_ (len_ge rfl h105952)
      refine bindE hF (fun y229461 hy229462 hF => ?_)
      refine seq_c (s_call 115 [iv v219465, .pointer (some ⟨b228667, 0, none⟩), .pointer (some ⟨b228668, 0, none⟩), .pointer (some ⟨b228669, 0, none⟩)] (by kernel_rfl) (L115 N _ b228667 b228668 b228669 b114749 b229460 v219465 0 y114743.1 Ap0_1 cp0_1 lp0_1 r_227803.length c227805 cl227806 r_227803 (hI.lend [2, 1, 0, 3, 4] (by decide) rfl rfl) (hI.apartL0 [2, 1, 0, 3, 4] rfl rfl hCp0_1) hMp0_1 hKp0_1 r227807 _ hy229462) ?_)
      rintro v w ⟨cl229464, hv, hN, r229465⟩
      subst hv
      have hI := hI.backsL [2, 1, 0, 3, 4] [5] (by decide) rfl rfl rfl hN; clear hN
      have hq : r_227803.length = y229461.2.2.length := r229465.n_eq eInt_len (by decide)
      rw [hq] at hI r229465; clear hq
      refine pu (.bool y229461.1) (by kernel_rfl) (seq_nil ?_)
      exact .inl ⟨rfl, ⟨some b229460, c227805, cl229464, y229461.2.1, y229461.1, y229461.2.2, ⟨rfl, rfl, trivial⟩, hI.pickL [1, 5, 3, 4] (by decide) rfl, (r229465.to rfl rfl), hF⟩⟩
     ·
      refine bindE hF (fun y229466 hy229467 hF => ?_)
      refine seq_c (s_call 115 [iv v219465, .pointer (some ⟨b228667, 0, none⟩), .pointer (some ⟨b228668, 0, none⟩), .pointer (some ⟨b228669, 0, none⟩)] (by kernel_rfl) (L115n N _ b228667 b228668 b228669 b114749 v219465 0 y114743.1 Ap0_1 cp0_1 lp0_1 g227804 r_227803.length c227805 (hI.lend [2, 1, 0, 3] (by decide) rfl rfl) (hI.apartL0 [2, 1, 0, 3] rfl rfl hCp0_1) hMp0_1 hKp0_1 _ hy229467) ?_)
      rintro v w ⟨hv, hN⟩
      subst hv
      have hI := hI.backsL [2, 1, 0, 3] [4, 5] (by decide) rfl rfl rfl hN; clear hN
      refine pu (.bool y229466.1) (by kernel_rfl) (seq_nil ?_)
      exact .inl ⟨rfl, ⟨g227804, c227805, cl227806, y229466.2, y229466.1, r_227803, ⟨rfl, rfl, trivial⟩, hI.pickL [1, 5, 3, 4] (by decide) rfl, (r227807.to rfl rfl), hF⟩⟩
    ·intro ρ w hJ
     obtain ⟨g228682, c228683, cl228684, asked_228679, found_228680, found_228681, hag, hI, r228685, hF⟩ := hJ
     obtain ⟨ρ, rfl⟩ := hag.form; clear hag
     unfold F87j4 at hF
     refine wp_seq (rgn (by kernel_rfl) (seq_c (s_load1 hI 0 (iv asked_228679) Try.isAgg3 rfl rfl rfl ?_)))
     refine pu (.bool found_228680) (by kernel_rfl) (pu (iv asked_228679) (by kernel_rfl) (pu (.bool found_228680) (by kernel_rfl) (seq_nil (wp_ret (⟨.tuple #[iv asked_228679, .bool found_228680], Ret.r2 rfl rfl rfl, ?_⟩)))))
     refine pu (.tuple #[iv asked_228679, .bool found_228680]) (by kernel_rfl) (pu (iv asked_228679) (by kernel_rfl) (pu (.bool found_228680) (by kernel_rfl) (pu (iv asked_228679) (by kernel_rfl) (pu (.bool found_228680) (by kernel_rfl) (seq_nil (wp_seq ?_))))))
     have hG := hF; rcases Bool.eq_false_or_eq_true found_228680 with rfl | rfl
     ·
      have hF := hG; clear hG
      refine ifE hF (fun _ hF => ?_) (fun h => absurd rfl h)
      refine rgn (by kernel_rfl) (pu (.bool true) (by kernel_rfl) (pu (.bool false) (by kernel_rfl) (seq_nil (wp_condF rfl (wp_skip (rgn (by kernel_rfl) (ckE hF (fun h105587 hF => ?_))))))))
      refine seq_c (s_add rfl rfl h105587 ?_)
      refine pu (iv (v227808 + 1)) (by kernel_rfl) (seq_nil ?_)
      exact ⟨rfl, m3, Nat.lt_succ_self _, ⟨g228682, c228683, cl228684, found_228681, v227808 + 1, m3, ⟨rfl, rfl, rfl, rfl, rfl, rfl, rfl, rfl, trivial⟩, hI.pickL [2, 3, 1] (by decide) rfl, (r228685.to rfl rfl), hF, rfl⟩⟩
     ·
      have hF := hG; clear hG
      refine ifE hF (fun h => absurd h (by decide)) (fun _ hF => ?_)
      refine rgn (by kernel_rfl) (pu (.bool false) (by kernel_rfl) (pu (.bool true) (by kernel_rfl) (seq_nil (wp_condT rfl (wp_seq (rgn (by kernel_rfl) (pu (.pointer (some ⟨b114749, 0, none⟩)) (by kernel_rfl) (pu (iv asked_228679) (by kernel_rfl) (pu (.slice Ap1 lp1.length cp1) (by kernel_rfl) ?_)))))))))
      refine seq_c (s_callI 117 [.pointer (some ⟨b114749, 0, none⟩), iv asked_228679, .slice Ap1 lp1.length cp1] (by kernel_rfl) ?_)
      refine calls_of (n := 42) Try.func117 rfl Try.ntmps117 rfl ?_
      refine wp_seq (rgn (by kernel_rfl) (pu (.slice none 0 0) (by kernel_rfl) (seq_nil (wp_seq (rgn (by kernel_rfl) (pu (.slice none 0 0) (by kernel_rfl) (seq_nil (wp_cutO (fun ρ w => ∃ (g229263 : Option Nat) (c229264 : Nat) (cl229265 : List Value) (coming_229262 : List Int), Agree ρ [(7, slv g229263 coming_229262.length c229264)] ∧ Inv [] w0 w [(g229263, blk cl229265 3), (some b114735, blk [iv p0_0, .slice Ap0_1 lp0_1.length cp0_1] 24), (some b114749, blk [iv y114743.1, .slice Ap0_1 lp0_1.length cp0_1, slv g228682 found_228681.length c228683] 93), (g228682, blk cl228684 3)] ∧ (Row 1 g229263 (coming_229262.length) c229264 cl229265 (flat eInt coming_229262)) ∧ F87j5 coming_229262 = some r) ?_ ?_))))))))
      ·
       refine wp_seq (rgn (by kernel_rfl) (pu (.pointer (some ⟨b114749, 0, none⟩)) (by kernel_rfl) (pu (.pointer (some ⟨b114749, 0, none⟩)) (by kernel_rfl) (pu (.pointer (some ⟨b114749, 0, none⟩)) (by kernel_rfl) (pu (.pointer (some ⟨b114749, 1, none⟩)) (by kernel_rfl) (seq_c (s_load1 hI 2 (.slice Ap0_1 lp0_1.length cp0_1) Try.isAgg22 rfl rfl rfl ?_)))))))
       refine pu (iv ((lp0_1.length : Nat) : Int)) (by kernel_rfl) (pu (iv 0) (by kernel_rfl) (seq_nil (wp_block ?_)))
       have hI := hI.nilRow 3
       refine wp_loop (fun m ρ w => ∃ (g229396 : Option Nat) (c229397 : Nat) (cl229398 : List Value) (coming_229395 : List Int) (v229400 : Int) (mm : Nat), Agree ρ [(1, iv asked_228679), (2, .slice Ap1 lp1.length cp1), (7, slv g229396 coming_229395.length c229397), (14, .slice Ap0_1 lp0_1.length cp0_1), (15, iv (lp0_1.length : Int)), (16, iv v229400)] ∧ Inv [] w0 w [(g229396, blk cl229398 3), (some b114735, blk [iv p0_0, .slice Ap0_1 lp0_1.length cp0_1] 24), (some b114749, blk [iv y114743.1, .slice Ap0_1 lp0_1.length cp0_1, slv g228682 found_228681.length c228683] 93), (g228682, blk cl228684 3)] ∧ (Row 1 g229396 (coming_229395.length) c229397 cl229398 (flat eInt coming_229395)) ∧ F87l6 lp0_1 lp1 asked_228679 mm coming_229395 v229400 = some r ∧ mm = m) (m := N) ⟨none, 0, [], [], 0, N, ⟨rfl, rfl, rfl, rfl, rfl, rfl, trivial⟩, hI.pickL [0, 2, 3, 4] (by decide) rfl, (Row.nil_ 1), hF, rfl⟩ ?_
       rintro m ρ w ⟨g229396, c229397, cl229398, coming_229395, v229400, mm, hag, hI, r229399, hF, hm⟩
       subst hm; obtain ⟨ρ, rfl⟩ := hag.form; clear hag
       obtain _ | m6 := mm
       ·cases (show (none : Option Bool) = some r from hF)
       replace hF : F87b6 lp0_1 lp1 asked_228679 (F87l6 lp0_1 lp1 asked_228679 m6) coming_229395 v229400 = some r := hF; unfold F87b6 at hF
       refine wp_seq (rgn (by kernel_rfl) (ifE hF (fun h105922 hF => ?_) (fun h105922 hF => ?_)))
       ·
        refine seq_c (s_lss rfl rfl (fun _ => ?_) (fun h => absurd (a := v229400 < (lp0_1.length : Int)) h105922 h))
        refine seq_nil (wp_seq (wp_condT rfl (wp_skip (wp_cutO (fun ρ w => ∃ (g229429 : Option Nat) (c229430 : Nat) (cl229431 : List Value) (coming_229428 : List Int), Agree ρ [(1, iv asked_228679), (2, .slice Ap1 lp1.length cp1), (7, slv g229429 coming_229428.length c229430), (14, .slice Ap0_1 lp0_1.length cp0_1), (15, iv (lp0_1.length : Int)), (16, iv v229400)] ∧ Inv [] w0 w [(g229429, blk cl229431 3), (some b114735, blk [iv p0_0, .slice Ap0_1 lp0_1.length cp0_1] 24), (some b114749, blk [iv y114743.1, .slice Ap0_1 lp0_1.length cp0_1, slv g228682 found_228681.length c228683] 93), (g228682, blk cl228684 3)] ∧ (Row 1 g229429 (coming_229428.length) c229430 cl229431 (flat eInt coming_229428)) ∧ F87j7 (F87l6 lp0_1 lp1 asked_228679 m6) v229400 coming_229428 = some r) ?_ ?_))))
        ·
         refine wp_block ?_
         refine wp_seq (rgn (by kernel_rfl) (pu (iv v229400) (by kernel_rfl) (gdE hF (fun h105938 hF => ?_))))
         refine bindE hF (fun x229433 hx229434 hF => ?_)
         obtain ⟨b229435, o229436, hA229437, hb229438, he229439⟩ := hCp0_1.at_ eCm_len (by decide) hx229434
         refine seq_c (s_indexA (v229400).toNat Try.underlying22 Try.sizeOf26 rfl hA229437 rfl (Int.toNat_of_nonneg h105938).symm (lt_n hx229434 rfl) ?_)
         refine seq_c (s_loadBK hI [iv x229433.fam, iv x229433.hrs, iv x229433.wants] Try.isAgg26 Try.sizeOf26 rfl rfl hb229438 (by simp) he229439 ?_)
         refine seq_c (s_allocI hI [iv 0, iv 0, iv 0] Try.zeroValue26 rfl ?_)
         intro b229440 w hI
         refine pu (iv v229400) (by kernel_rfl) (seq_c (s_store hI 0 3 [iv x229433.fam, iv x229433.hrs, iv x229433.wants] Try.sizeOf26 rfl rfl rfl rfl rfl (Nat.le_of_ble_eq_true rfl) ?_))
         intro w hI
         refine seq_nil (wp_cutO (fun ρ w => Agree ρ [(1, iv asked_228679), (2, .slice Ap1 lp1.length cp1), (7, slv g229396 coming_229395.length c229397), (9, .pointer (some ⟨b229440, 0, none⟩)), (14, .slice Ap0_1 lp0_1.length cp0_1), (15, iv (lp0_1.length : Int)), (16, iv v229400), (32, .bool false)] ∧ Inv [] w0 w [(g229396, blk cl229398 3), (some b229440, blk [iv x229433.fam, iv x229433.hrs, iv x229433.wants] 26), (some b114735, blk [iv p0_0, .slice Ap0_1 lp0_1.length cp0_1] 24), (some b114749, blk [iv y114743.1, .slice Ap0_1 lp0_1.length cp0_1, slv g228682 found_228681.length c228683] 93), (g228682, blk cl228684 3)] ∧ F87j8 (F87l6 lp0_1 lp1 asked_228679 m6) coming_229395 v229400 = some r) ?_ ?_)
         ·
          refine rgn (by kernel_rfl) (pu (.slice Ap1 lp1.length cp1) (by kernel_rfl) (pu (iv v229400) (by kernel_rfl) (bindE hF (fun x229448 hx229449 hF => ?_))))
          obtain ⟨b229450, o229451, hA229452, hb229453, he229454⟩ := hCp1.at_ eInt_len (by decide) hx229449
          refine seq_c (s_indexA (v229400).toNat Try.underlying49 Try.sizeOf3 rfl hA229452 rfl (Int.toNat_of_nonneg h105938).symm (lt_n hx229449 rfl) ?_)
          refine seq_c (s_loadB1 hI (iv x229448) Try.isAgg3 rfl hb229453 (by simp) (he229454 0 _ rfl) ?_)
          refine ifE hF (fun h105945 hF => ?_) (fun h105945 hF => ?_)
          ·
           refine seq_c (s_gtr rfl rfl (fun _ => ?_) (fun h => absurd (a := 0 < x229448) h105945 h))
           refine pu (.bool true) (by kernel_rfl) (puo (.pointer (some ⟨b229440, 1, none⟩)) ⟨(by kernel_rfl), (by kernel_rfl)⟩ (seq_on (by kernel_rfl) (s_load1 hI 0 (iv x229433.hrs) Try.isAgg3 rfl rfl rfl ?_)))
           refine puo (iv asked_228679) ⟨(by kernel_rfl), (by kernel_rfl)⟩ (gdE hF (fun h105946 hF => ?_))
           refine gdE hF (fun h105947 hF => ?_)
           refine ckE hF (fun h105948 hF => ?_)
           refine ckE hF (fun h105949 hF => ?_)
           refine seq_on (by kernel_rfl) (s_andNot rfl rfl h105946 h105947 h105948 h105949 ?_)
           refine ifE hF (fun h105950 hF => ?_) (fun h105950 hF => ?_)
           ·
            refine seq_on (by kernel_rfl) (s_eql rfl rfl (fun _ => ?_) (fun h => absurd (a := (andNotI x229433.hrs asked_228679) = 0) h105950 h))
            refine pu (.bool true) (by kernel_rfl) (seq_nil (.inr ?_))
            refine wp_condT rfl (rgn (by kernel_rfl) (pu (slv g229396 coming_229395.length c229397) (by kernel_rfl) (pu (.pointer (some ⟨b229440, 0, none⟩)) (by kernel_rfl) (seq_c (s_load1 hI 0 (iv x229433.fam) Try.isAgg3 rfl rfl rfl ?_)))))
            refine seq_c (s_new hI [iv x229433.fam] 3 (fun b => slv (some b) 1 1) (by kernel_rfl) ?_)
            intro b229455 w hI
            refine gdE hF (fun h105951 hF => ?_)
            refine seq_c (s_appN hI Try.underlying49 (z := iv 0) (k := 1) (bytes := 8) (by kernel_rfl) rfl rfl 2 rfl rfl r229399 [iv x229433.fam] rfl rfl (hI.cells 0 (off := 0) rfl (fun j u h => by rw [Nat.zero_add]; exact h)) (by simp [Value.oneCell']) (by omega) (by omega) (n2 := (coming_229395 ++ [x229433.fam]).length) (app_len rfl rfl) ?_)
            intro g229456 c229457 cl229458 w hI r229459
            have r229459 : Row 1 g229456 ((coming_229395 ++ [x229433.fam]).length) c229457 cl229458 (flat eInt (coming_229395 ++ [x229433.fam])) := r229459.snoc _ rfl
            refine pu (slv g229456 ((coming_229395 ++ [x229433.fam]).length) c229457) (by kernel_rfl) (seq_nil ?_)
            exact .inl ⟨rfl, ⟨g229456, c229457, cl229458, coming_229395 ++ [x229433.fam], ⟨rfl, rfl, rfl, rfl, rfl, rfl, trivial⟩, hI.pickL [2, 3, 4, 5] (by decide) rfl, (r229459.to rfl rfl), hF⟩⟩
           ·
            refine seq_on (by kernel_rfl) (s_eql rfl rfl (fun h => absurd (a := (andNotI x229433.hrs asked_228679) = 0) h h105950) (fun _ => ?_))
            refine pu (.bool false) (by kernel_rfl) (seq_nil ?_)
            exact .inl ⟨rfl, ⟨⟨rfl, rfl, rfl, rfl, rfl, rfl, rfl, rfl, trivial⟩, hI.pickL [1, 0, 2, 3, 4] (by decide) rfl, hF⟩⟩
          ·
           refine seq_c (s_gtr rfl rfl (fun h => absurd (a := 0 < x229448) h h105945) (fun _ => ?_))
           refine pu (.bool false) (by kernel_rfl) (of_ (by kernel_rfl) (of_ (by kernel_rfl) (of_ (by kernel_rfl) (of_ (by kernel_rfl) (of_ (by kernel_rfl) (pu (.bool false) (by kernel_rfl) (seq_nil ?_)))))))
           exact .inl ⟨rfl, ⟨⟨rfl, rfl, rfl, rfl, rfl, rfl, rfl, rfl, trivial⟩, hI.pickL [1, 0, 2, 3, 4] (by decide) rfl, hF⟩⟩
         ·intro ρ w hJ
          obtain ⟨hag, hI, hF⟩ := hJ
          obtain ⟨ρ, rfl⟩ := hag.form; clear hag
          unfold F87j8 at hF
          refine wp_condF rfl (wp_skip ?_)
          exact .inl ⟨rfl, ⟨g229396, c229397, cl229398, coming_229395, ⟨rfl, rfl, rfl, rfl, rfl, rfl, trivial⟩, hI.pickL [0, 2, 3, 4] (by decide) rfl, (r229399.to rfl rfl), hF⟩⟩
        ·intro ρ w hJ
         obtain ⟨g229429, c229430, cl229431, coming_229428, hag, hI, r229432, hF⟩ := hJ
         obtain ⟨ρ, rfl⟩ := hag.form; clear hag
         unfold F87j7 at hF
         refine rgn (by kernel_rfl) (ckE hF (fun h105937 hF => ?_))
         refine seq_c (s_add rfl rfl h105937 ?_)
         refine pu (iv (v229400 + 1)) (by kernel_rfl) (seq_nil ?_)
         exact ⟨rfl, m6, Nat.lt_succ_self _, ⟨g229429, c229430, cl229431, coming_229428, v229400 + 1, m6, ⟨rfl, rfl, rfl, rfl, rfl, rfl, trivial⟩, hI.pickL [0, 1, 2, 3] (by decide) rfl, (r229432.to rfl rfl), hF, rfl⟩⟩
       ·
        refine seq_c (s_lss rfl rfl (fun h => absurd (a := v229400 < (lp0_1.length : Int)) h h105922) (fun _ => ?_))
        refine seq_nil (wp_seq (wp_condF rfl (wp_exit ?_)))
        exact .inl ⟨rfl, ⟨g229396, c229397, cl229398, coming_229395, ⟨rfl, trivial⟩, hI.pickL [0, 1, 2, 3] (by decide) rfl, (r229399.to rfl rfl), hF⟩⟩
      ·intro ρ w hJ
       obtain ⟨g229263, c229264, cl229265, coming_229262, hag, hI, r229266, hF⟩ := hJ
       obtain ⟨ρ, rfl⟩ := hag.form; clear hag
       unfold F87j5 at hF
       refine wp_seq (rgn (by kernel_rfl) (pu (slv g229263 coming_229262.length c229264) (by kernel_rfl) (gdE hF (fun h105861 hF => ?_))))
       refine seq_c (s_call 97 [slv g229263 coming_229262.length c229264] (by kernel_rfl) (sort_c hI 0 rfl r229266 h105861) ?_)
       rintro v w ⟨rfl, cl229269, hI, r229270⟩
       refine seq_nil (wp_seq (rgn (by kernel_rfl) (pu (slv g229263 coming_229262.length c229264) (by kernel_rfl) (pu (slv g229263 coming_229262.length c229264) (by kernel_rfl) (seq_nil (wp_ret (⟨slv g229263 coming_229262.length c229264, Ret.r1 rfl rfl, ?_⟩)))))))
       refine pu (slv g229263 coming_229262.length c229264) (by kernel_rfl) (pu (.bool false) (by kernel_rfl) (seq_nil (wp_ret (⟨.tuple #[slv g229263 coming_229262.length c229264, .bool false], Ret.r2 rfl rfl rfl, ?_⟩))))
       refine pu (.tuple #[slv g229263 coming_229262.length c229264, .bool false]) (by kernel_rfl) (pu (slv g229263 coming_229262.length c229264) (by kernel_rfl) (pu (.bool false) (by kernel_rfl) (pu (slv g229263 coming_229262.length c229264) (by kernel_rfl) (pu (.bool false) (by kernel_rfl) (seq_nil (wp_seq (rgn (by kernel_rfl) (pu (.bool false) (by kernel_rfl) (pu (.bool false) (by kernel_rfl) ?_)))))))))
       refine seq_nil (wp_ret ?_)
       replace hF := Option.some.inj hF; subst hF
       exact ⟨.bool false, Ret.r1 rfl rfl, ⟨rfl, hI.below⟩⟩
   ·
    refine seq_c (s_lss rfl rfl (fun h => absurd (a := v227808 < x224470) h h105215) (fun _ => ?_))
    refine seq_nil (wp_seq (wp_condF rfl (wp_exit ?_)))
    exact .inl ⟨rfl, ⟨g227804, c227805, cl227806, r_227803, ⟨rfl, rfl, rfl, rfl, rfl, trivial⟩, hI.pickL [0, 1, 2] (by decide) rfl, (r227807.to rfl rfl), hF⟩⟩
  ·intro ρ w hJ
   obtain ⟨g224466, c224467, cl224468, r_224465, hag, hI, r224469, hF⟩ := hJ
   obtain ⟨ρ, rfl⟩ := hag.form; clear hag
   unfold F87j2 at hF
   refine rgn (by kernel_rfl) (ckE hF (fun h103735 hF => ?_))
   refine seq_c (s_add rfl rfl h103735 ?_)
   refine pu (iv (v219465 + 1)) (by kernel_rfl) (seq_nil ?_)
   exact ⟨rfl, m1, Nat.lt_succ_self _, ⟨g224466, c224467, cl224468, r_224465, v219465 + 1, m1, ⟨rfl, rfl, rfl, rfl, rfl, trivial⟩, hI.pickL [0, 1, 2] (by decide) rfl, (r224469.to rfl rfl), hF, rfl⟩⟩
 ·
  refine seq_c (s_lss rfl rfl (fun h => absurd (a := v219465 < (lp1.length : Int)) h h101517) (fun _ => ?_))
  refine seq_nil (wp_seq (wp_condF rfl (wp_exit ?_)))
  refine wp_seq (rgn (by kernel_rfl) (pu (.slice none 0 0) (by kernel_rfl) (pu (.bool true) (by kernel_rfl) (seq_nil (wp_ret (⟨.tuple #[.slice none 0 0, .bool true], Ret.r2 rfl rfl rfl, ?_⟩))))))
  refine pu (.tuple #[.slice none 0 0, .bool true]) (by kernel_rfl) (pu (.slice none 0 0) (by kernel_rfl) (pu (.bool true) (by kernel_rfl) (pu (.slice none 0 0) (by kernel_rfl) (pu (.bool true) (by kernel_rfl) (seq_nil (wp_seq (rgn (by kernel_rfl) (pu (.bool true) (by kernel_rfl) (pu (.bool true) (by kernel_rfl) ?_)))))))))
  refine seq_nil (wp_ret ?_)
  replace hF := Option.some.inj hF; subst hF
  exact ⟨.bool true, Ret.r1 rfl rfl, ⟨rfl, hI.below⟩⟩


theorem L44 (w0 : World) (p0_0 : Int) (Ap0_1 : Option Addr) (cp0_1 : Nat) (lp0_1 : List Cm) (Ap1 : Option Addr) (cp1 : Nat) (lp1 : List Int) (hCp0_1 : Cells w0 Ap0_1 (flat eCm lp0_1)) (hMp0_1 : lp0_1.length ≤ 9223372036854775807) (hKp0_1 : lp0_1.length ≤ cp0_1) (hCp1 : Cells w0 Ap1 (flat eInt lp1)) (hMp1 : lp1.length ≤ 9223372036854775807) (hKp1 : lp1.length ≤ cp1) (N : Nat) (r : (Bool × Int)) (hF : F44 N p0_0 lp0_1 lp1 = some r) : Does Try.prog 44 [.agg #[.int .i64 p0_0, .slice Ap0_1 lp0_1.length cp0_1], .slice Ap1 lp1.length cp1] w0 fun v w => v = .tuple #[.bool r.1, .int .i64 r.2] ∧ Below w0.heap.size w0 w := by
 refine calls_of (n := 16) Try.func44 rfl Try.ntmps44 rfl ?_
 have hI := Inv.start w0
 unfold F44 at hF
 refine wp_seq (rgn (by kernel_rfl) (seq_c (s_boxI hI [iv p0_0, .slice Ap0_1 lp0_1.length cp0_1] rfl ?_)))
 intro b14 w hI
 refine pu (.bool false) (by kernel_rfl) (pu (iv 0) (by kernel_rfl) (seq_nil (wp_seq (wp_seq (rgn (by kernel_rfl) (seq_c (s_loadK hI 0 2 [iv p0_0, .slice Ap0_1 lp0_1.length cp0_1] Try.isAgg24 Try.sizeOf24 rfl rfl rfl rfl ?_)))))))
 refine pu (.slice Ap1 lp1.length cp1) (by kernel_rfl) (bindE hF (fun y21 hy22 hF => ?_))
 refine seq_c (s_callv hI 86 [.agg #[iv p0_0, .slice Ap0_1 lp0_1.length cp0_1], .slice Ap1 lp1.length cp1] (iv y21) (by kernel_rfl) (L86 _ p0_0 Ap0_1 cp0_1 lp0_1 Ap1 cp1 lp1 (hCp0_1.inv0 hI) hMp0_1 hKp0_1 (hCp1.inv0 hI) hMp1 hKp1 N _ hy22) ?_)
 intro w hI
 refine pu (iv y21) (by kernel_rfl) (seq_nil (wp_seq (rgn (by kernel_rfl) (pu (iv y21) (by kernel_rfl) (ifE hF (fun h8 hF => ?_) (fun h8 hF => ?_))))))
 ·
  refine seq_c (s_neq rfl rfl (fun h => absurd (a := y21 = 0) h8 h) (fun _ => ?_))
  refine seq_nil (wp_condF rfl (wp_skip (wp_seq (rgn (by kernel_rfl) (seq_c (s_loadK hI 0 2 [iv p0_0, .slice Ap0_1 lp0_1.length cp0_1] Try.isAgg24 Try.sizeOf24 rfl rfl rfl rfl ?_))))))
  refine pu (.slice Ap1 lp1.length cp1) (by kernel_rfl) (bindE hF (fun y25 hy26 hF => ?_))
  refine seq_c (s_callv hI 87 [.agg #[iv p0_0, .slice Ap0_1 lp0_1.length cp0_1], .slice Ap1 lp1.length cp1] (.bool y25) (by kernel_rfl) (L87 _ p0_0 Ap0_1 cp0_1 lp0_1 Ap1 cp1 lp1 (hCp0_1.inv0 hI) hMp0_1 hKp0_1 (hCp1.inv0 hI) hMp1 hKp1 N _ hy26) ?_)
  intro w hI
  refine pu (.bool y25) (by kernel_rfl) (pu (iv 0) (by kernel_rfl) (seq_nil (wp_ret ?_)))
  replace hF := Option.some.inj hF; subst hF
  exact ⟨.tuple #[.bool y25, iv 0], Ret.r2 rfl rfl rfl, ⟨rfl, hI.below⟩⟩
 ·
  refine seq_c (s_neq rfl rfl (fun _ => ?_) (fun h => absurd (a := y21 = 0) h h8))
  refine seq_nil (wp_condT rfl (wp_seq (rgn (by kernel_rfl) (pu (iv y21) (by kernel_rfl) (pu (.bool false) (by kernel_rfl) (pu (iv y21) (by kernel_rfl) (seq_nil (wp_ret ?_))))))))
  replace hF := Option.some.inj hF; subst hF
  exact ⟨.tuple #[.bool false, iv y21], Ret.r2 rfl rfl rfl, ⟨rfl, hI.below⟩⟩


theorem L118 (w0 : World) (Ap0 : Option Addr) (cp0 : Nat) (lp0 : List Int) (p1 : Int) (hCp0 : Cells w0 Ap0 (flat eInt lp0)) (hMp0 : lp0.length ≤ 9223372036854775807) (hKp0 : lp0.length ≤ cp0) (N : Nat) (r : Int) (hF : F118 N lp0 p1 = some r) : Does Try.prog 118 [.slice Ap0 lp0.length cp0, .int .i64 p1] w0 fun v w => v = .int .i64 r ∧ Below w0.heap.size w0 w := by
 refine calls_of (n := 19) Try.func118 rfl Try.ntmps118 rfl ?_
 have hI := Inv.start w0
 unfold F118 at hF
 refine wp_seq (rgn (by kernel_rfl) (pu (iv 0) (by kernel_rfl) (seq_nil (wp_seq (wp_seq (rgn (by kernel_rfl) (pu (.slice Ap0 lp0.length cp0) (by kernel_rfl) (pu (iv ((lp0.length : Nat) : Int)) (by kernel_rfl) (pu (iv 0) (by kernel_rfl) ?_)))))))))
 refine seq_nil (wp_block ?_)
 refine wp_loop (fun m ρ w => ∃ (v316 : Int) (mm : Nat), Agree ρ [(0, .slice Ap0 lp0.length cp0), (1, iv p1), (7, iv (lp0.length : Int)), (8, iv v316)] ∧ Inv [] w0 w [] ∧ F118l1 lp0 p1 mm v316 = some r ∧ mm = m) (m := N) ⟨0, N, ⟨rfl, rfl, rfl, rfl, trivial⟩, hI.pickL [] (by decide) rfl, hF, rfl⟩ ?_
 rintro m ρ w ⟨v316, mm, hag, hI, hF, hm⟩
 subst hm; obtain ⟨ρ, rfl⟩ := hag.form; clear hag
 obtain _ | m1 := mm
 ·cases (show (none : Option Int) = some r from hF)
 replace hF : F118b1 lp0 p1 (F118l1 lp0 p1 m1) v316 = some r := hF; unfold F118b1 at hF
 refine wp_seq (rgn (by kernel_rfl) (ifE hF (fun h103 hF => ?_) (fun h103 hF => ?_)))
 ·
  refine seq_c (s_lss rfl rfl (fun _ => ?_) (fun h => absurd (a := v316 < (lp0.length : Int)) h103 h))
  refine seq_nil (wp_seq (wp_condT rfl (wp_skip (wp_seq (wp_block ?_)))))
  refine wp_seq (rgn (by kernel_rfl) (pu (iv v316) (by kernel_rfl) (pu (iv v316) (by kernel_rfl) (seq_nil (wp_seq (rgn (by kernel_rfl) (pu (iv p1) (by kernel_rfl) (pu (.slice Ap0 lp0.length cp0) (by kernel_rfl) (pu (iv v316) (by kernel_rfl) ?_)))))))))
  refine gdE hF (fun h110 hF => ?_)
  refine bindE hF (fun x338 hx339 hF => ?_)
  obtain ⟨b340, o341, hA342, hb343, he344⟩ := hCp0.at_ eInt_len (by decide) hx339
  refine seq_c (s_indexA (v316).toNat Try.underlying49 Try.sizeOf3 rfl hA342 rfl (Int.toNat_of_nonneg h110).symm (lt_n hx339 rfl) ?_)
  refine seq_c (s_loadB1 hI (iv x338) Try.isAgg3 rfl hb343 (by simp) (he344 0 _ rfl) ?_)
  refine ifE hF (fun h111 hF => ?_) (fun h111 hF => ?_)
  ·
   refine seq_c (s_eql rfl rfl (fun _ => ?_) (fun h => absurd (a := p1 = x338) h111 h))
   refine seq_nil (wp_condT rfl (wp_seq (rgn (by kernel_rfl) (pu (iv v316) (by kernel_rfl) (pu (iv v316) (by kernel_rfl) (seq_nil (wp_ret ?_)))))))
   replace hF := Option.some.inj hF; subst hF
   exact ⟨iv v316, Ret.r1 rfl rfl, ⟨rfl, hI.below⟩⟩
  ·
   refine seq_c (s_eql rfl rfl (fun h => absurd (a := p1 = x338) h h111) (fun _ => ?_))
   refine seq_nil (wp_condF rfl (wp_skip (rgn (by kernel_rfl) (ckE hF (fun h112 hF => ?_)))))
   refine seq_c (s_add rfl rfl h112 ?_)
   refine pu (iv (v316 + 1)) (by kernel_rfl) (seq_nil ?_)
   exact ⟨rfl, m1, Nat.lt_succ_self _, ⟨v316 + 1, m1, ⟨rfl, rfl, rfl, rfl, trivial⟩, hI.pickL [] (by decide) rfl, hF, rfl⟩⟩
 ·
  refine seq_c (s_lss rfl rfl (fun h => absurd (a := v316 < (lp0.length : Int)) h h103) (fun _ => ?_))
  refine seq_nil (wp_seq (wp_condF rfl (wp_exit ?_)))
  refine wp_seq (rgn (by kernel_rfl) (pu (iv (-1)) (by kernel_rfl) (seq_nil (wp_ret ?_))))
  replace hF := Option.some.inj hF; subst hF
  exact ⟨iv (-1), Ret.r1 rfl rfl, ⟨rfl, hI.below⟩⟩


theorem L110 (w0 : World) (Ap0 : Option Addr) (cp0 : Nat) (lp0 : List Int) (p1 : Int) (hCp0 : Cells w0 Ap0 (flat eInt lp0)) (hMp0 : lp0.length ≤ 9223372036854775807) (hKp0 : lp0.length ≤ cp0) (N : Nat) (r : Bool) (hF : F110 N lp0 p1 = some r) : Does Try.prog 110 [.slice Ap0 lp0.length cp0, .int .i64 p1] w0 fun v w => v = .bool r ∧ Below w0.heap.size w0 w := by
 refine calls_of (n := 9) Try.func110 rfl Try.ntmps110 rfl ?_
 have hI := Inv.start w0
 unfold F110 at hF
 refine wp_seq (rgn (by kernel_rfl) (pu (.bool false) (by kernel_rfl) (seq_nil (wp_seq (rgn (by kernel_rfl) (pu (.slice Ap0 lp0.length cp0) (by kernel_rfl) (pu (iv p1) (by kernel_rfl) (bindE hF (fun y9 hy10 hF => ?_)))))))))
 refine seq_c (s_callv hI 118 [.slice Ap0 lp0.length cp0, iv p1] (iv y9) (by kernel_rfl) (L118 _ Ap0 cp0 lp0 p1 (hCp0.inv0 hI) hMp0 hKp0 N _ hy10) ?_)
 intro w hI
 refine ifE hF (fun h4 hF => ?_) (fun h4 hF => ?_)
 ·
  refine seq_c (s_geq rfl rfl (fun _ => ?_) (fun h => absurd (a := 0 ≤ y9) h4 h))
  refine pu (.bool true) (by kernel_rfl) (seq_nil (wp_ret ?_))
  replace hF := Option.some.inj hF; subst hF
  exact ⟨.bool true, Ret.r1 rfl rfl, ⟨rfl, hI.below⟩⟩
 ·
  refine seq_c (s_geq rfl rfl (fun h => absurd (a := 0 ≤ y9) h h4) (fun _ => ?_))
  refine pu (.bool false) (by kernel_rfl) (seq_nil (wp_ret ?_))
  replace hF := Option.some.inj hF; subst hF
  exact ⟨.bool false, Ret.r1 rfl rfl, ⟨rfl, hI.below⟩⟩


theorem L91 (w0 : World) (p0_0 : Int) (Ap0_1 : Option Addr) (cp0_1 : Nat) (lp0_1 : List Cm) (p1 : Int) (Ap2 : Option Addr) (cp2 : Nat) (lp2 : List Int) (hCp0_1 : Cells w0 Ap0_1 (flat eCm lp0_1)) (hMp0_1 : lp0_1.length ≤ 9223372036854775807) (hKp0_1 : lp0_1.length ≤ cp0_1) (hCp2 : Cells w0 Ap2 (flat eInt lp2)) (hMp2 : lp2.length ≤ 9223372036854775807) (hKp2 : lp2.length ≤ cp2) (N : Nat) (r : (Int × List Cm)) (hF : F91 N p0_0 lp0_1 p1 lp2 = some r) : Does Try.prog 91 [.agg #[.int .i64 p0_0, .slice Ap0_1 lp0_1.length cp0_1], .int .i64 p1, .slice Ap2 lp2.length cp2] w0 fun v w => ∃ (z0 : Option Nat) (z1 : Nat) (z2 : List Value), v = .agg #[.int .i64 r.1, slv z0 r.2.length z1] ∧ Inv [] w0 w [(z0, blk z2 26)] ∧ Row 3 z0 r.2.length z1 z2 (flat eCm r.2) := by
 refine calls_of (n := 39) Try.func91 rfl Try.ntmps91 rfl ?_
 have hI := Inv.start w0
 unfold F91 at hF
 refine wp_seq (rgn (by kernel_rfl) (seq_c (s_boxI hI [iv p0_0, .slice Ap0_1 lp0_1.length cp0_1] rfl ?_)))
 intro b230 w hI
 refine seq_c (s_allocI hI [iv 0, .slice none 0 0] Try.zeroValue24 rfl ?_)
 intro b231 w hI
 refine seq_nil (wp_seq (rgn (by kernel_rfl) (pu (.pointer (some ⟨b230, 1, none⟩)) (by kernel_rfl) (seq_c (s_load1 hI 1 (.slice Ap0_1 lp0_1.length cp0_1) Try.isAgg22 rfl rfl rfl ?_)))))
 refine bindE hF (fun y238 hy239 hF => ?_)
 refine seq_c (s_call 64 [.slice Ap0_1 lp0_1.length cp0_1] (by kernel_rfl) (L64 _ Ap0_1 cp0_1 lp0_1 (hCp0_1.inv0 hI) hMp0_1 hKp0_1 _ hy239) ?_)
 rintro v w ⟨g240, c241, cl242, rfl, hN, r243⟩
 have hI := hI.join hN; clear hN
 refine pu (slv g240 y238.length c241) (by kernel_rfl) (seq_nil (wp_seq (wp_seq (rgn (by kernel_rfl) (pu (slv g240 y238.length c241) (by kernel_rfl) (pu (iv ((y238.length : Nat) : Int)) (by kernel_rfl) (pu (iv 0) (by kernel_rfl) (seq_nil (wp_block ?_)))))))))
 refine wp_loop (fun m ρ w => ∃ (g423 : Option Nat) (c424 : Nat) (cl425 : List Value) (comers_422 : List Cm) (v427 : Int) (mm : Nat), Agree ρ [(1, iv p1), (2, .slice Ap2 lp2.length cp2), (3, .pointer (some ⟨b230, 0, none⟩)), (6, .pointer (some ⟨b231, 0, none⟩)), (7, slv g423 comers_422.length c424), (13, slv g423 comers_422.length c424), (14, iv (y238.length : Int)), (15, iv v427)] ∧ Inv [] w0 w [(some b230, blk [iv p0_0, .slice Ap0_1 lp0_1.length cp0_1] 24), (some b231, blk [iv 0, .slice none 0 0] 24), (g423, blk cl425 26)] ∧ (Row 3 g423 (comers_422.length) c424 cl425 (flat eCm comers_422)) ∧ F91l1 p0_0 p1 lp2 N y238 mm comers_422 v427 = some r ∧ mm = m) (m := N) ⟨g240, c241, cl242, y238, 0, N, ⟨rfl, rfl, rfl, rfl, rfl, rfl, rfl, rfl, trivial⟩, hI.pickL [2, 1, 0] (by decide) rfl, (r243.to rfl rfl), hF, rfl⟩ ?_
 rintro m ρ w ⟨g423, c424, cl425, comers_422, v427, mm, hag, hI, r426, hF, hm⟩
 subst hm; obtain ⟨ρ, rfl⟩ := hag.form; clear hag
 obtain _ | m1 := mm
 ·cases (show (none : Option (Int × List Cm)) = some r from hF)
 replace hF : F91b1 p0_0 p1 lp2 N y238 (F91l1 p0_0 p1 lp2 N y238 m1) comers_422 v427 = some r := hF; unfold F91b1 at hF
 refine wp_seq (rgn (by kernel_rfl) (ifE hF (fun h199 hF => ?_) (fun h199 hF => ?_)))
 ·
  refine seq_c (s_lss rfl rfl (fun _ => ?_) (fun h => absurd (a := v427 < (y238.length : Int)) h199 h))
  refine seq_nil (wp_seq (wp_condT rfl (wp_skip (wp_cutO (fun ρ w => ∃ (g442 : Option Nat) (c443 : Nat) (cl444 : List Value) (comers_441 : List Cm), Agree ρ [(1, iv p1), (2, .slice Ap2 lp2.length cp2), (3, .pointer (some ⟨b230, 0, none⟩)), (6, .pointer (some ⟨b231, 0, none⟩)), (7, slv g442 comers_441.length c443), (13, slv g442 comers_441.length c443), (14, iv (y238.length : Int)), (15, iv v427)] ∧ Inv [] w0 w [(some b230, blk [iv p0_0, .slice Ap0_1 lp0_1.length cp0_1] 24), (some b231, blk [iv 0, .slice none 0 0] 24), (g442, blk cl444 26)] ∧ (Row 3 g442 (comers_441.length) c443 cl444 (flat eCm comers_441)) ∧ F91j2 (F91l1 p0_0 p1 lp2 N y238 m1) v427 comers_441 = some r) ?_ ?_))))
  ·
   refine wp_block ?_
   refine wp_seq (rgn (by kernel_rfl) (pu (iv v427) (by kernel_rfl) (gdE hF (fun h209 hF => ?_))))
   refine bindE hF (fun x446 hx447 hF => ?_)
   obtain ⟨b448, rfl, he449⟩ := r426.at_ eCm_len (by decide) hx447
   refine seq_c (s_indexR (v427).toNat Try.underlying22 Try.sizeOf26 rfl rfl (Int.toNat_of_nonneg h209).symm (lt_n hx447 rfl) ?_)
   refine seq_c (s_loadRK hI 2 [iv x446.fam, iv x446.hrs, iv x446.wants] Try.isAgg26 Try.sizeOf26 rfl rfl rfl he449 ?_)
   refine seq_c (s_allocI hI [iv 0, iv 0, iv 0] Try.zeroValue26 rfl ?_)
   intro b450 w hI
   refine pu (iv v427) (by kernel_rfl) (seq_c (s_store hI 0 3 [iv x446.fam, iv x446.hrs, iv x446.wants] Try.sizeOf26 rfl rfl rfl rfl rfl (Nat.le_of_ble_eq_true rfl) ?_))
   intro w hI
   refine seq_nil (wp_seq (rgn (by kernel_rfl) (pu (.slice Ap2 lp2.length cp2) (by kernel_rfl) (pu (.pointer (some ⟨b450, 0, none⟩)) (by kernel_rfl) (seq_c (s_load1 hI 0 (iv x446.fam) Try.isAgg3 rfl rfl rfl ?_))))))
   refine bindE hF (fun y453 hy454 hF => ?_)
   refine ifE hF (fun h211 hF => ?_) (fun h211 hF => ?_)
   ·
    refine seq_c (s_callv hI 110 [.slice Ap2 lp2.length cp2, iv x446.fam] (.bool true) (by kernel_rfl) (Does.mono (L110 _ Ap2 cp2 lp2 x446.fam (hCp2.inv0 hI) hMp2 hKp2 N _ hy454) (fun v' w' h => ⟨h.1.trans (congrArg Value.bool h211), h.2⟩)) ?_)
    intro w hI
    refine seq_nil (wp_condT rfl (gdE hF (fun h212 hF => ?_)))
    refine ckE hF (fun h213 hF => ?_)
    refine gdE hF (fun h214 hF => ?_)
    refine gdE hF (fun h215 hF => ?_)
    refine ckE hF (fun h216 hF => ?_)
    replace hI := hI.pickL [0, 1, 2, 3] (by decide) rfl
    refine wp_drawn2 hI [0, 1, 2] (by decide) rfl (by kernel_rfl) (by kernel_rfl) ?_
    intro hsub
    refine alp 0 (slv (some b448) comers_422.length c424) hsub rfl (by kernel_rfl) (fun _ => (by kernel_rfl)) ?_
    refine alp 1 (iv v427) hsub rfl (by kernel_rfl) (fun _ => (by kernel_rfl)) ?_
    refine al_light 2 (.pointer (some ⟨b448, (v427).toNat * 3, none⟩)) hsub rfl (by kernel_rfl) (fun w hI => s_indexR (v427).toNat Try.underlying22 Try.sizeOf26 rfl rfl (Int.toNat_of_nonneg h209).symm (lt_n hx447 rfl) ⟨rfl, Below.refl _ _⟩) ?_
    refine alp 3 (.pointer (some ⟨b448, (v427).toNat * 3 + 1, none⟩)) hsub rfl (by kernel_rfl) (fun _ => (by kernel_rfl)) ?_
    refine alp 5 (iv p1) hsub rfl (by kernel_rfl) (fun _ => (by kernel_rfl)) ?_
    refine al_light 6 (iv ((1 : Int) * 2 ^ (p1 : Int).toNat)) hsub rfl (by kernel_rfl) (fun w hI => s_shl rfl rfl h212 h213 ⟨rfl, Below.refl _ _⟩) ?_
    refine any_heavy [4] (by kernel_rfl) rfl (each1 ?_)
    intro w hI
    refine ol_c rfl (s_loadR1 hI 3 (iv x446.hrs) Try.isAgg3 rfl rfl (he449 1 _ rfl) ?_)
    refine ⟨_, hI, subk (fun _ h => h.pickL [0, 1, 2] (by decide) rfl) ?_⟩
    intro hsub
    refine al_light 7 (iv (andNotI x446.hrs ((1 : Int) * 2 ^ (p1 : Int).toNat))) hsub rfl (by kernel_rfl) (fun w hI => s_andNot rfl rfl h214 h215 h216 h213 ⟨rfl, Below.refl _ _⟩) ?_
    refine al_light 8 (.pointer (some ⟨b448, (v427).toNat * 3, none⟩)) hsub rfl (by kernel_rfl) (fun w hI => s_indexR (v427).toNat Try.underlying22 Try.sizeOf26 rfl rfl (Int.toNat_of_nonneg h209).symm (lt_n hx447 rfl) ⟨rfl, Below.refl _ _⟩) ?_
    refine alp 9 (.pointer (some ⟨b448, (v427).toNat * 3 + 1, none⟩)) hsub rfl (by kernel_rfl) (fun _ => (by kernel_rfl)) ?_
    refine any_heavy [10] (by kernel_rfl) rfl (each1 ?_)
    intro w hI
    have := lt_n hx447 rfl
    refine ol_c rfl (s_store hI 3 1 [iv (andNotI x446.hrs ((1 : Int) * 2 ^ (p1 : Int).toNat))] Try.sizeOf3 rfl rfl rfl rfl rfl (r426.roomF (no := 1) (s := 1) (by omega) (by decide)) ?_)
    intro w hI
    refine ⟨_, hI, subk (fun _ h => h.pickL [0, 1, 2] (by decide) rfl) ?_⟩
    intro hsub
    have r457 := r426.putF eCm_len (by decide) (v427).toNat 1 (⟨x446.fam, andNotI x446.hrs ((1 : Int) * 2 ^ (p1 : Int).toNat), x446.wants⟩ : Cm) [iv (andNotI x446.hrs ((1 : Int) * 2 ^ (p1 : Int).toNat))] hx447 (Nat.le_of_ble_eq_true rfl) rfl (by omega)
    refine any_end (by kernel_rfl) (fun w hI => ?_)
    exact .inl ⟨rfl, ⟨some b448, c424, putCells cl425 ((v427).toNat * 3 + 1) [iv (andNotI x446.hrs ((1 : Int) * 2 ^ (p1 : Int).toNat))], (comers_422).set (v427).toNat (⟨x446.fam, andNotI x446.hrs ((1 : Int) * 2 ^ (p1 : Int).toNat), x446.wants⟩ : Cm), ⟨rfl, rfl, rfl, rfl, (slv_n (set_len rfl)), (slv_n (set_len rfl)), rfl, rfl, trivial⟩, hI.pickL [1, 2, 3] (by decide) rfl, (r457.to rfl (set_len rfl)), hF⟩⟩
   ·
    refine seq_c (s_callv hI 110 [.slice Ap2 lp2.length cp2, iv x446.fam] (.bool false) (by kernel_rfl) (Does.mono (L110 _ Ap2 cp2 lp2 x446.fam (hCp2.inv0 hI) hMp2 hKp2 N _ hy454) (fun v' w' h => ⟨h.1.trans (congrArg Value.bool (Bool.eq_false_iff.2 h211)), h.2⟩)) ?_)
    intro w hI
    refine seq_nil (wp_condF rfl (wp_skip ?_))
    exact .inl ⟨rfl, ⟨some b448, c424, cl425, comers_422, ⟨rfl, rfl, rfl, rfl, rfl, rfl, rfl, rfl, trivial⟩, hI.pickL [1, 2, 3] (by decide) rfl, (r426.to rfl rfl), hF⟩⟩
  ·intro ρ w hJ
   obtain ⟨g442, c443, cl444, comers_441, hag, hI, r445, hF⟩ := hJ
   obtain ⟨ρ, rfl⟩ := hag.form; clear hag
   unfold F91j2 at hF
   refine rgn (by kernel_rfl) (ckE hF (fun h208 hF => ?_))
   refine seq_c (s_add rfl rfl h208 ?_)
   refine pu (iv (v427 + 1)) (by kernel_rfl) (seq_nil ?_)
   exact ⟨rfl, m1, Nat.lt_succ_self _, ⟨g442, c443, cl444, comers_441, v427 + 1, m1, ⟨rfl, rfl, rfl, rfl, rfl, rfl, rfl, rfl, trivial⟩, hI.pickL [0, 1, 2] (by decide) rfl, (r445.to rfl rfl), hF, rfl⟩⟩
 ·
  refine seq_c (s_lss rfl rfl (fun h => absurd (a := v427 < (y238.length : Int)) h h199) (fun _ => ?_))
  refine seq_nil (wp_seq (wp_condF rfl (wp_exit ?_)))
  refine wp_seq (rgn (by kernel_rfl) (pu (.pointer (some ⟨b230, 0, none⟩)) (by kernel_rfl) (seq_c (s_load1 hI 0 (iv p0_0) Try.isAgg3 rfl rfl rfl ?_))))
  refine pu (slv g423 comers_422.length c424) (by kernel_rfl) (pu (.agg #[iv p0_0, slv g423 comers_422.length c424]) (by kernel_rfl) (seq_c (s_store hI 1 2 [iv p0_0, slv g423 comers_422.length c424] Try.sizeOf24 rfl rfl rfl rfl rfl (Nat.le_of_ble_eq_true rfl) ?_)))
  intro w hI
  refine seq_nil (wp_ret ?_)
  replace hF := Option.some.inj hF; subst hF
  exact ⟨.agg #[iv p0_0, slv g423 comers_422.length c424], Ret.c rfl rfl (run_loadK hI 1 2 [iv p0_0, slv g423 comers_422.length c424] Try.isAgg24 Try.sizeOf24 rfl rfl rfl), ⟨g423, c424, cl425, rfl, hI.pickL [2] (by decide) rfl, r426.to rfl rfl⟩⟩


theorem L93 (w0 : World) (p0_0 : Int) (Ap0_1 : Option Addr) (cp0_1 : Nat) (lp0_1 : List Cm) (hCp0_1 : Cells w0 Ap0_1 (flat eCm lp0_1)) (hMp0_1 : lp0_1.length ≤ 9223372036854775807) (hKp0_1 : lp0_1.length ≤ cp0_1) (N : Nat) (r : List Int) (hF : F93 N p0_0 lp0_1 = some r) : Does Try.prog 93 [.agg #[.int .i64 p0_0, .slice Ap0_1 lp0_1.length cp0_1]] w0 fun v w => ∃ (z0 : Option Nat) (z1 : Nat) (z2 : List Value), v = slv z0 r.length z1 ∧ Inv [] w0 w [(z0, blk z2 3)] ∧ Row 1 z0 r.length z1 z2 (flat eInt r) := by
 refine calls_of (n := 20) Try.func93 rfl Try.ntmps93 rfl ?_
 have hI := Inv.start w0
 unfold F93 at hF
 refine wp_seq (rgn (by kernel_rfl) (seq_c (s_boxI hI [iv p0_0, .slice Ap0_1 lp0_1.length cp0_1] rfl ?_)))
 intro b187 w hI
 refine pu (.slice none 0 0) (by kernel_rfl) (seq_nil (wp_seq (rgn (by kernel_rfl) (pu (.slice none 0 0) (by kernel_rfl) (seq_nil (wp_seq (wp_seq (rgn (by kernel_rfl) (pu (.pointer (some ⟨b187, 1, none⟩)) (by kernel_rfl) ?_)))))))))
 refine seq_c (s_load1 hI 0 (.slice Ap0_1 lp0_1.length cp0_1) Try.isAgg22 rfl rfl rfl ?_)
 refine pu (iv ((lp0_1.length : Nat) : Int)) (by kernel_rfl) (pu (iv 0) (by kernel_rfl) (seq_nil (wp_block ?_)))
 have hI := hI.nilRow 3
 refine wp_loop (fun m ρ w => ∃ (g342 : Option Nat) (c343 : Nat) (cl344 : List Value) (all_341 : List Int) (v346 : Int) (mm : Nat), Agree ρ [(3, slv g342 all_341.length c343), (7, .slice Ap0_1 lp0_1.length cp0_1), (8, iv (lp0_1.length : Int)), (9, iv v346)] ∧ Inv [] w0 w [(g342, blk cl344 3)] ∧ (Row 1 g342 (all_341.length) c343 cl344 (flat eInt all_341)) ∧ F93l1 lp0_1 mm all_341 v346 = some r ∧ mm = m) (m := N) ⟨none, 0, [], [], 0, N, ⟨rfl, rfl, rfl, rfl, trivial⟩, hI.pickL [0] (by decide) rfl, (Row.nil_ 1), hF, rfl⟩ ?_
 rintro m ρ w ⟨g342, c343, cl344, all_341, v346, mm, hag, hI, r345, hF, hm⟩
 subst hm; obtain ⟨ρ, rfl⟩ := hag.form; clear hag
 obtain _ | m1 := mm
 ·cases (show (none : Option (List Int)) = some r from hF)
 replace hF : F93b1 lp0_1 (F93l1 lp0_1 m1) all_341 v346 = some r := hF; unfold F93b1 at hF
 refine wp_seq (rgn (by kernel_rfl) (ifE hF (fun h67 hF => ?_) (fun h67 hF => ?_)))
 ·
  refine seq_c (s_lss rfl rfl (fun _ => ?_) (fun h => absurd (a := v346 < (lp0_1.length : Int)) h67 h))
  refine seq_nil (wp_seq (wp_condT rfl (wp_skip (wp_seq (wp_block ?_)))))
  refine wp_seq (rgn (by kernel_rfl) (gdE hF (fun h70 hF => ?_)))
  refine bindE hF (fun x360 hx361 hF => ?_)
  obtain ⟨b362, o363, hA364, hb365, he366⟩ := hCp0_1.at_ eCm_len (by decide) hx361
  refine seq_c (s_indexA (v346).toNat Try.underlying22 Try.sizeOf26 rfl hA364 rfl (Int.toNat_of_nonneg h70).symm (lt_n hx361 rfl) ?_)
  refine seq_c (s_loadBK hI [iv x360.fam, iv x360.hrs, iv x360.wants] Try.isAgg26 Try.sizeOf26 rfl rfl hb365 (by simp) he366 ?_)
  refine seq_c (s_allocI hI [iv 0, iv 0, iv 0] Try.zeroValue26 rfl ?_)
  intro b367 w hI
  refine seq_c (s_store hI 0 3 [iv x360.fam, iv x360.hrs, iv x360.wants] Try.sizeOf26 rfl rfl rfl rfl rfl (Nat.le_of_ble_eq_true rfl) ?_)
  intro w hI
  refine seq_nil (rgn (by kernel_rfl) (pu (slv g342 all_341.length c343) (by kernel_rfl) (pu (.pointer (some ⟨b367, 0, none⟩)) (by kernel_rfl) (seq_c (s_load1 hI 0 (iv x360.fam) Try.isAgg3 rfl rfl rfl ?_)))))
  refine seq_c (s_new hI [iv x360.fam] 3 (fun b => slv (some b) 1 1) (by kernel_rfl) ?_)
  intro b368 w hI
  refine gdE hF (fun h71 hF => ?_)
  refine seq_c (s_appN hI Try.underlying49 (z := iv 0) (k := 1) (bytes := 8) (by kernel_rfl) rfl rfl 2 rfl rfl r345 [iv x360.fam] rfl rfl (hI.cells 0 (off := 0) rfl (fun j u h => by rw [Nat.zero_add]; exact h)) (by simp [Value.oneCell']) (by omega) (by omega) (n2 := (all_341 ++ [x360.fam]).length) (app_len rfl rfl) ?_)
  intro g369 c370 cl371 w hI r372
  have r372 : Row 1 g369 ((all_341 ++ [x360.fam]).length) c370 cl371 (flat eInt (all_341 ++ [x360.fam])) := r372.snoc _ rfl
  refine pu (slv g369 ((all_341 ++ [x360.fam]).length) c370) (by kernel_rfl) (seq_nil (rgn (by kernel_rfl) (ckE hF (fun h72 hF => ?_))))
  refine seq_c (s_add rfl rfl h72 ?_)
  refine pu (iv (v346 + 1)) (by kernel_rfl) (seq_nil ?_)
  exact ⟨rfl, m1, Nat.lt_succ_self _, ⟨g369, c370, cl371, all_341 ++ [x360.fam], v346 + 1, m1, ⟨rfl, rfl, rfl, rfl, trivial⟩, hI.pickL [2] (by decide) rfl, (r372.to rfl rfl), hF, rfl⟩⟩
 ·
  refine seq_c (s_lss rfl rfl (fun h => absurd (a := v346 < (lp0_1.length : Int)) h h67) (fun _ => ?_))
  refine seq_nil (wp_seq (wp_condF rfl (wp_exit ?_)))
  refine wp_seq (rgn (by kernel_rfl) (pu (slv g342 all_341.length c343) (by kernel_rfl) (pu (slv g342 all_341.length c343) (by kernel_rfl) (seq_nil (wp_ret ?_)))))
  replace hF := Option.some.inj hF; subst hF
  exact ⟨slv g342 all_341.length c343, Ret.r1 rfl rfl, ⟨g342, c343, cl344, rfl, hI.pickL [0] (by decide) rfl, r345.to rfl rfl⟩⟩


theorem L53 (w0 : World) (p0_0 : Int) (Ap0_1 : Option Addr) (cp0_1 : Nat) (lp0_1 : List Cm) (p1 : Int) (p2 : Int) (hCp0_1 : Cells w0 Ap0_1 (flat eCm lp0_1)) (hMp0_1 : lp0_1.length ≤ 9223372036854775807) (hKp0_1 : lp0_1.length ≤ cp0_1) (N : Nat) (r : (Int × Int)) (hF : F53 N p0_0 lp0_1 p1 p2 = some r) : Does Try.prog 53 [.agg #[.int .i64 p0_0, .slice Ap0_1 lp0_1.length cp0_1], .int .i64 p1, .int .i64 p2] w0 fun v w => v = .tuple #[.int .i64 r.1, .int .i64 r.2] ∧ Below w0.heap.size w0 w := by
 refine calls_of (n := 70) Try.func53 rfl Try.ntmps53 rfl ?_
 have hI := Inv.start w0
 unfold F53 at hF
 refine wp_seq (rgn (by kernel_rfl) (seq_c (s_boxI hI [iv p0_0, .slice Ap0_1 lp0_1.length cp0_1] rfl ?_)))
 intro b254 w hI
 refine pu (iv 0) (by kernel_rfl) (pu (iv 0) (by kernel_rfl) (seq_nil (wp_seq (rgn (by kernel_rfl) (seq_c (s_loadK hI 0 2 [iv p0_0, .slice Ap0_1 lp0_1.length cp0_1] Try.isAgg24 Try.sizeOf24 rfl rfl rfl rfl ?_))))))
 refine pu (iv p1) (by kernel_rfl) (bindE hF (fun y257 hy258 hF => ?_))
 refine seq_c (s_callv hI 66 [.agg #[iv p0_0, .slice Ap0_1 lp0_1.length cp0_1], iv p1] (.tuple #[iv y257.1, iv y257.2]) (by kernel_rfl) (L66 _ p0_0 Ap0_1 cp0_1 lp0_1 p1 (hCp0_1.inv0 hI) hMp0_1 hKp0_1 N _ hy258) ?_)
 intro w hI
 refine pu (.tuple #[iv y257.1, iv y257.2]) (by kernel_rfl) (pu (iv y257.1) (by kernel_rfl) (pu (iv y257.2) (by kernel_rfl) (pu (iv y257.1) (by kernel_rfl) (pu (iv y257.2) (by kernel_rfl) (seq_nil (wp_seq (wp_seq (rgn (by kernel_rfl) (pu (iv y257.2) (by kernel_rfl) ?_)))))))))
 refine ifE hF (fun h37 hF => ?_) (fun h37 hF => ?_)
 ·
  refine seq_c (s_neq rfl rfl (fun h => absurd (a := y257.2 = 0) h37 h) (fun _ => ?_))
  refine seq_nil (wp_condF rfl (wp_skip (wp_seq (wp_seq (rgn (by kernel_rfl) (pu (iv p2) (by kernel_rfl) (pu (.pointer (some ⟨b254, 0, none⟩)) (by kernel_rfl) (seq_c (s_load1 hI 0 (iv p0_0) Try.isAgg3 rfl rfl rfl ?_)))))))))
  refine ckE hF (fun h44 hF => ?_)
  refine seq_c (s_sub rfl rfl h44 ?_)
  refine bindE hF (fun y265 hy266 hF => ?_)
  refine ifE hF (fun h45 hF => ?_) (fun h45 hF => ?_)
  ·
   refine seq_c (s_callv hI 70 [iv p2, iv 0, iv (p0_0 - 1)] (.bool true) (by kernel_rfl) (Does.mono (L70 _ p2 0 (p0_0 - 1) _ hy266) (fun v' w' h => ⟨h.1.trans (congrArg Value.bool h45), h.2⟩)) ?_)
   intro w hI
   refine pu (.bool false) (by kernel_rfl) (seq_nil (wp_condF rfl (wp_skip (wp_seq (rgn (by kernel_rfl) (seq_c (s_loadK hI 0 2 [iv p0_0, .slice Ap0_1 lp0_1.length cp0_1] Try.isAgg24 Try.sizeOf24 rfl rfl rfl rfl ?_)))))))
   refine bindE hF (fun y278 hy279 hF => ?_)
   refine seq_c (s_call 80 [.agg #[iv p0_0, .slice Ap0_1 lp0_1.length cp0_1]] (by kernel_rfl) (L80 _ p0_0 Ap0_1 cp0_1 lp0_1 (hCp0_1.inv0 hI) hMp0_1 hKp0_1 N _ hy279) ?_)
   rintro v w ⟨g280, c281, cl282, g283, c284, cl285, rfl, hN, r286, r287⟩
   have hI := hI.join hN; clear hN
   refine pu (.tuple #[.agg #[iv y278.1, .slice Ap0_1 lp0_1.length cp0_1, slv g280 y278.2.1.length c281], slv g283 y278.2.2.length c284]) (by kernel_rfl) (pu (.agg #[iv y278.1, .slice Ap0_1 lp0_1.length cp0_1, slv g280 y278.2.1.length c281]) (by kernel_rfl) (pu (slv g283 y278.2.2.length c284) (by kernel_rfl) (seq_c (s_allocI hI [iv 0, .slice none 0 0, .slice none 0 0] Try.zeroValue93 rfl ?_))))
   intro b288 w hI
   refine seq_c (s_store hI 0 3 [iv y278.1, .slice Ap0_1 lp0_1.length cp0_1, slv g280 y278.2.1.length c281] Try.sizeOf93 rfl rfl rfl rfl rfl (Nat.le_of_ble_eq_true rfl) ?_)
   intro w hI
   refine pu (slv g283 y278.2.2.length c284) (by kernel_rfl) (seq_nil (wp_seq (wp_seq (rgn (by kernel_rfl) (seq_c (s_loadK hI 3 2 [iv p0_0, .slice Ap0_1 lp0_1.length cp0_1] Try.isAgg24 Try.sizeOf24 rfl rfl rfl rfl ?_))))))
   refine pu (iv p2) (by kernel_rfl) (pu (iv p1) (by kernel_rfl) (seq_c (s_new hI [iv p1] 3 (fun b => slv (some b) 1 1) (by kernel_rfl) ?_)))
   intro b316 w hI
   refine bindE hF (fun y317 hy318 hF => ?_)
   refine seq_c (s_call 91 [.agg #[iv p0_0, .slice Ap0_1 lp0_1.length cp0_1], iv p2, .slice (some ⟨b316, 0, none⟩) 1 1] (by kernel_rfl) (L91 _ p0_0 Ap0_1 cp0_1 lp0_1 p2 (some ⟨b316, 0, none⟩) 1 [p1] (hCp0_1.inv0 hI) hMp0_1 hKp0_1 (hI.cells 0 (off := 0) rfl (fun j u h => by rw [Nat.zero_add]; exact h)) (Nat.le_of_ble_eq_true rfl) (Nat.le_refl _) N _ hy318) ?_)
   rintro v w ⟨g319, c320, cl321, rfl, hN, r322⟩
   have hI := hI.join hN; clear hN
   refine pu (slv g283 y278.2.2.length c284) (by kernel_rfl) (bindE hF (fun y323 hy324 hF => ?_))
   refine ifE hF (fun h49 hF => ?_) (fun h49 hF => ?_)
   ·
    refine seq_c (s_callv hI 87 [.agg #[iv y317.1, slv g319 y317.2.length c320], slv g283 y278.2.2.length c284] (.bool true) (by kernel_rfl) (Does.mono (L87 _ y317.1 (g319.map fun b => ⟨b, 0, none⟩) c320 y317.2 (g283.map fun b => ⟨b, 0, none⟩) c284 y278.2.2 (hI.rowCells 0 rfl r322) (len_le rfl r322.big) (len_le rfl r322.cap) (hI.rowCells 4 rfl r287) (len_le rfl r287.big) (len_le rfl r287.cap) N _ hy324) (fun v' w' h => ⟨h.1.trans (congrArg Value.bool h49), h.2⟩)) ?_)
    intro w hI
    refine pu (.bool false) (by kernel_rfl) (seq_nil (wp_condF rfl (wp_skip (wp_seq (wp_seq (rgn (by kernel_rfl) (pu (slv g283 y278.2.2.length c284) (by kernel_rfl) (pu (iv y257.1) (by kernel_rfl) (gdE hF (fun h59 hF => ?_))))))))))
    refine bindE hF (fun x372 hx373 hF => ?_)
    obtain ⟨b374, rfl, he375⟩ := r287.at_ eInt_len (by decide) hx373
    refine seq_c (s_indexR ((y257.1).toNat) Try.underlying49 Try.sizeOf3 rfl rfl (Int.toNat_of_nonneg h59).symm (lt_n hx373 rfl) ?_)
    refine seq_c (s_loadR1 hI 4 (iv x372) Try.isAgg3 rfl rfl (he375 0 _ rfl) ?_)
    refine ifE hF (fun h60 hF => ?_) (fun h60 hF => ?_)
    ·
     refine seq_c (s_eql rfl rfl (fun _ => ?_) (fun h => absurd (a := x372 = 0) h60 h))
     refine pu (.bool true) (by kernel_rfl) (of_ (by kernel_rfl) (of_ (by kernel_rfl) (of_ (by kernel_rfl) (of_ (by kernel_rfl) (of_ (by kernel_rfl) (of_ (by kernel_rfl) (of_ (by kernel_rfl) (of_ (by kernel_rfl) (of_ (by kernel_rfl) ?_)))))))))
     refine pu (.bool true) (by kernel_rfl) (seq_nil (wp_condT rfl (wp_seq (rgn (by kernel_rfl) (pu (iv 0) (by kernel_rfl) (pu (iv 0) (by kernel_rfl) (seq_nil (wp_ret ?_))))))))
     replace hF := Option.some.inj hF; subst hF
     exact ⟨.tuple #[iv 0, iv 0], Ret.r2 rfl rfl rfl, ⟨rfl, hI.below⟩⟩
    ·
     refine seq_c (s_eql rfl rfl (fun h => absurd (a := x372 = 0) h h60) (fun _ => ?_))
     refine pu (.bool false) (by kernel_rfl) (puo (iv p2) ⟨(by kernel_rfl), (by kernel_rfl)⟩ (puo (.pointer (some ⟨b254, 1, none⟩)) ⟨(by kernel_rfl), (by kernel_rfl)⟩ (seq_on (by kernel_rfl) (s_load1 hI 5 (.slice Ap0_1 lp0_1.length cp0_1) Try.isAgg22 rfl rfl rfl ?_))))
     refine puo (iv y257.1) ⟨(by kernel_rfl), (by kernel_rfl)⟩ (bindE hF (fun x376 hx377 hF => ?_))
     obtain ⟨b378, o379, hA380, hb381, he382⟩ := hCp0_1.at_ eCm_len (by decide) hx377
     refine seq_on (by kernel_rfl) (s_indexA ((y257.1).toNat) Try.underlying22 Try.sizeOf26 rfl hA380 rfl (Int.toNat_of_nonneg h59).symm (lt_n hx377 rfl) ?_)
     refine puo (.pointer (some ⟨b378, o379 + ((y257.1).toNat) * 3 + 1, none⟩)) ⟨(by kernel_rfl), (by kernel_rfl)⟩ (seq_on (by kernel_rfl) (s_loadB1 hI (iv x376.hrs) Try.isAgg3 rfl hb381 (by simp) (he382 1 _ rfl) ?_))
     refine bindE hF (fun y383 hy384 hF => ?_)
     refine ifE hF (fun h61 hF => ?_) (fun h61 hF => ?_)
     ·
      refine seq_on (by kernel_rfl) (s_callv hI 92 [iv p2, iv x376.hrs] (.bool true) (by kernel_rfl) (Does.mono (L92 _ p2 x376.hrs _ hy384) (fun v' w' h => ⟨h.1.trans (congrArg Value.bool h61), h.2⟩)) ?_)
      intro w hI
      refine puo (.bool false) ⟨(by kernel_rfl), (by kernel_rfl)⟩ (pu (.bool false) (by kernel_rfl) (seq_nil (wp_condF rfl (wp_skip (wp_seq (rgn (by kernel_rfl) (pu (slv (some b374) y278.2.2.length c284) (by kernel_rfl) (pu (iv y257.1) (by kernel_rfl) (seq_c (s_indexR ((y257.1).toNat) Try.underlying49 Try.sizeOf3 rfl rfl (Int.toNat_of_nonneg h59).symm (lt_n hx373 rfl) ?_))))))))))
      refine seq_c (s_loadR1 hI 4 (iv x372) Try.isAgg3 rfl rfl (he375 0 _ rfl) ?_)
      refine ckE hF (fun h62 hF => ?_)
      refine seq_c (s_sub rfl rfl h62 ?_)
      refine seq_c (s_indexR ((y257.1).toNat) Try.underlying49 Try.sizeOf3 rfl rfl (Int.toNat_of_nonneg h59).symm (lt_n hx373 rfl) ?_)
      have := lt_n hx373 rfl
      refine seq_c (s_store hI 4 1 [iv (x372 - 1)] Try.sizeOf3 rfl rfl rfl rfl rfl (r287.room (by omega)) ?_)
      intro w hI
      have r385 := r287.put eInt_len (by decide) ((y257.1).toNat) (x372 - 1) (by omega)
      obtain ⟨cl386, hcl⟩ : ∃ z, z = putCells cl285 (((y257.1).toNat) * 1) (eInt (x372 - 1)) := ⟨_, rfl⟩
      rw [← hcl] at r385
      have hI : Inv [] w0 w [(g319, blk cl321 26), (some b316, blk [iv p1] 3), (some b288, blk [iv y278.1, .slice Ap0_1 lp0_1.length cp0_1, slv g280 y278.2.1.length c281] 93), (g280, blk cl282 3), (some b374, blk cl386 3), (some b254, blk [iv p0_0, .slice Ap0_1 lp0_1.length cp0_1] 24)] := by rw [hcl]; exact hI
      clear hcl
      refine seq_nil (wp_seq (wp_seq (bindE hF (fun y477 hy478 hF => ?_))))
      refine bindE hF (fun y483 hy484 hF => ?_)
      refine bindE hF (fun y489 hy490 hF => ?_)
      refine ifE hF (fun h66 hF => ?_) (fun h66 hF => ?_)
      ·
       refine wp_drawn2 hI [0, 1, 2, 3, 4, 5] (by decide) rfl (by kernel_rfl) (by kernel_rfl) ?_
       intro hsub
       refine al_light 0 (.agg #[iv p0_0, .slice Ap0_1 lp0_1.length cp0_1]) hsub rfl (by kernel_rfl) (fun w hI => s_loadK hI 5 2 [iv p0_0, .slice Ap0_1 lp0_1.length cp0_1] Try.isAgg24 Try.sizeOf24 rfl rfl rfl rfl ⟨rfl, Below.refl _ _⟩) ?_
       refine alp 1 (iv p2) hsub rfl (by kernel_rfl) (fun _ => (by kernel_rfl)) ?_
       refine al_light 2 (.agg #[iv p0_0, .slice Ap0_1 lp0_1.length cp0_1]) hsub rfl (by kernel_rfl) (fun w hI => s_loadK hI 5 2 [iv p0_0, .slice Ap0_1 lp0_1.length cp0_1] Try.isAgg24 Try.sizeOf24 rfl rfl rfl rfl ⟨rfl, Below.refl _ _⟩) ?_
       refine alp 5 (slv (some b374) y278.2.2.length c284) hsub rfl (by kernel_rfl) (fun _ => (by kernel_rfl)) ?_
       refine any_heavy [3] (by kernel_rfl) rfl (each1 ?_)
       intro w hI
       refine ol_c rfl (s_call 93 [.agg #[iv p0_0, .slice Ap0_1 lp0_1.length cp0_1]] (by kernel_rfl) (L93 _ p0_0 Ap0_1 cp0_1 lp0_1 (hCp0_1.inv0 hI) hMp0_1 hKp0_1 N _ hy478) ?_)
       rintro v w ⟨g491, c492, cl493, rfl, hN, r494⟩
       have hI := hI.join hN; clear hN
       refine ⟨_, hI, subk (fun _ h => h.pickL [1, 2, 3, 4, 5, 6] (by decide) rfl) ?_⟩
       intro hsub
       refine any_heavy [4] (by kernel_rfl) rfl (each1 ?_)
       intro w hI
       refine ol_c rfl (s_call 91 [.agg #[iv p0_0, .slice Ap0_1 lp0_1.length cp0_1], iv p2, slv g491 y477.length c492] (by kernel_rfl) (L91 _ p0_0 Ap0_1 cp0_1 lp0_1 p2 (g491.map fun b => ⟨b, 0, none⟩) c492 y477 (hCp0_1.inv0 hI) hMp0_1 hKp0_1 (hI.rowCells 0 rfl r494) (len_le rfl r494.big) (len_le rfl r494.cap) N _ hy484) ?_)
       rintro v w ⟨g495, c496, cl497, rfl, hN, r498⟩
       have hI := hI.join hN; clear hN
       refine ⟨_, hI, subk (fun _ h => h.pickL [2, 3, 4, 5, 6, 7] (by decide) rfl) ?_⟩
       intro hsub
       refine any_heavy [6] (by kernel_rfl) rfl (each1 ?_)
       intro w hI
       refine ol_c rfl (s_callv hI 87 [.agg #[iv y483.1, slv g495 y483.2.length c496], slv (some b374) y278.2.2.length c284] (.bool true) (by kernel_rfl) (Does.mono (Does.cast (L87 _ y483.1 (g495.map fun b => ⟨b, 0, none⟩) c496 y483.2 ((some b374).map fun b => ⟨b, 0, none⟩) c284 ((y278.2.2).set ((y257.1).toNat) (x372 - 1)) (hI.rowCells 0 rfl r498) (len_le rfl r498.big) (len_le rfl r498.cap) (hI.rowCells 6 rfl r385) (len_le (set_len rfl) r385.big) (len_le (set_len rfl) r385.cap) N _ hy490) (by first | (simp only [List.length_set, sortI_len] <;> rfl) | rfl)) (fun v' w' h => ⟨h.1.trans (congrArg Value.bool h66), h.2⟩)) ?_)
       intro w hI
       refine ⟨_, hI, subk (fun _ h => h.pickL [2, 3, 4, 5, 6, 7] (by decide) rfl) ?_⟩
       intro hsub
       refine alp 7 (.bool false) hsub rfl (by kernel_rfl) (fun _ => (by kernel_rfl)) ?_
       refine any_end (by kernel_rfl) (fun w hI => ?_)
       refine wp_condF rfl (wp_skip (wp_seq (rgn (by kernel_rfl) (pu (iv 2) (by kernel_rfl) (pu (iv 0) (by kernel_rfl) (seq_nil (wp_ret ?_)))))))
       replace hF := Option.some.inj hF; subst hF
       exact ⟨.tuple #[iv 2, iv 0], Ret.r2 rfl rfl rfl, ⟨rfl, hI.below⟩⟩
      ·
       refine wp_drawn2 hI [0, 1, 2, 3, 4, 5] (by decide) rfl (by kernel_rfl) (by kernel_rfl) ?_
       intro hsub
       refine al_light 0 (.agg #[iv p0_0, .slice Ap0_1 lp0_1.length cp0_1]) hsub rfl (by kernel_rfl) (fun w hI => s_loadK hI 5 2 [iv p0_0, .slice Ap0_1 lp0_1.length cp0_1] Try.isAgg24 Try.sizeOf24 rfl rfl rfl rfl ⟨rfl, Below.refl _ _⟩) ?_
       refine alp 1 (iv p2) hsub rfl (by kernel_rfl) (fun _ => (by kernel_rfl)) ?_
       refine al_light 2 (.agg #[iv p0_0, .slice Ap0_1 lp0_1.length cp0_1]) hsub rfl (by kernel_rfl) (fun w hI => s_loadK hI 5 2 [iv p0_0, .slice Ap0_1 lp0_1.length cp0_1] Try.isAgg24 Try.sizeOf24 rfl rfl rfl rfl ⟨rfl, Below.refl _ _⟩) ?_
       refine alp 5 (slv (some b374) y278.2.2.length c284) hsub rfl (by kernel_rfl) (fun _ => (by kernel_rfl)) ?_
       refine any_heavy [3] (by kernel_rfl) rfl (each1 ?_)
       intro w hI
       refine ol_c rfl (s_call 93 [.agg #[iv p0_0, .slice Ap0_1 lp0_1.length cp0_1]] (by kernel_rfl) (L93 _ p0_0 Ap0_1 cp0_1 lp0_1 (hCp0_1.inv0 hI) hMp0_1 hKp0_1 N _ hy478) ?_)
       rintro v w ⟨g499, c500, cl501, rfl, hN, r502⟩
       have hI := hI.join hN; clear hN
       refine ⟨_, hI, subk (fun _ h => h.pickL [1, 2, 3, 4, 5, 6] (by decide) rfl) ?_⟩
       intro hsub
       refine any_heavy [4] (by kernel_rfl) rfl (each1 ?_)
       intro w hI
       refine ol_c rfl (s_call 91 [.agg #[iv p0_0, .slice Ap0_1 lp0_1.length cp0_1], iv p2, slv g499 y477.length c500] (by kernel_rfl) (L91 _ p0_0 Ap0_1 cp0_1 lp0_1 p2 (g499.map fun b => ⟨b, 0, none⟩) c500 y477 (hCp0_1.inv0 hI) hMp0_1 hKp0_1 (hI.rowCells 0 rfl r502) (len_le rfl r502.big) (len_le rfl r502.cap) N _ hy484) ?_)
       rintro v w ⟨g503, c504, cl505, rfl, hN, r506⟩
       have hI := hI.join hN; clear hN
       refine ⟨_, hI, subk (fun _ h => h.pickL [2, 3, 4, 5, 6, 7] (by decide) rfl) ?_⟩
       intro hsub
       refine any_heavy [6] (by kernel_rfl) rfl (each1 ?_)
       intro w hI
       refine ol_c rfl (s_callv hI 87 [.agg #[iv y483.1, slv g503 y483.2.length c504], slv (some b374) y278.2.2.length c284] (.bool false) (by kernel_rfl) (Does.mono (Does.cast (L87 _ y483.1 (g503.map fun b => ⟨b, 0, none⟩) c504 y483.2 ((some b374).map fun b => ⟨b, 0, none⟩) c284 ((y278.2.2).set ((y257.1).toNat) (x372 - 1)) (hI.rowCells 0 rfl r506) (len_le rfl r506.big) (len_le rfl r506.cap) (hI.rowCells 6 rfl r385) (len_le (set_len rfl) r385.big) (len_le (set_len rfl) r385.cap) N _ hy490) (by first | (simp only [List.length_set, sortI_len] <;> rfl) | rfl)) (fun v' w' h => ⟨h.1.trans (congrArg Value.bool (Bool.eq_false_iff.2 h66)), h.2⟩)) ?_)
       intro w hI
       refine ⟨_, hI, subk (fun _ h => h.pickL [2, 3, 4, 5, 6, 7] (by decide) rfl) ?_⟩
       intro hsub
       refine alp 7 (.bool true) hsub rfl (by kernel_rfl) (fun _ => (by kernel_rfl)) ?_
       refine any_end (by kernel_rfl) (fun w hI => ?_)
       refine wp_condT rfl (wp_seq (rgn (by kernel_rfl) (pu (iv 0) (by kernel_rfl) (pu (iv 0) (by kernel_rfl) (seq_nil (wp_ret ?_))))))
       replace hF := Option.some.inj hF; subst hF
       exact ⟨.tuple #[iv 0, iv 0], Ret.r2 rfl rfl rfl, ⟨rfl, hI.below⟩⟩
     ·
      refine seq_on (by kernel_rfl) (s_callv hI 92 [iv p2, iv x376.hrs] (.bool false) (by kernel_rfl) (Does.mono (L92 _ p2 x376.hrs _ hy384) (fun v' w' h => ⟨h.1.trans (congrArg Value.bool (Bool.eq_false_iff.2 h61)), h.2⟩)) ?_)
      intro w hI
      refine puo (.bool true) ⟨(by kernel_rfl), (by kernel_rfl)⟩ (pu (.bool true) (by kernel_rfl) (seq_nil (wp_condT rfl (wp_seq (rgn (by kernel_rfl) (pu (iv 0) (by kernel_rfl) (pu (iv 0) (by kernel_rfl) (seq_nil (wp_ret ?_)))))))))
      replace hF := Option.some.inj hF; subst hF
      exact ⟨.tuple #[iv 0, iv 0], Ret.r2 rfl rfl rfl, ⟨rfl, hI.below⟩⟩
   ·
    refine seq_c (s_callv hI 87 [.agg #[iv y317.1, slv g319 y317.2.length c320], slv g283 y278.2.2.length c284] (.bool false) (by kernel_rfl) (Does.mono (L87 _ y317.1 (g319.map fun b => ⟨b, 0, none⟩) c320 y317.2 (g283.map fun b => ⟨b, 0, none⟩) c284 y278.2.2 (hI.rowCells 0 rfl r322) (len_le rfl r322.big) (len_le rfl r322.cap) (hI.rowCells 4 rfl r287) (len_le rfl r287.big) (len_le rfl r287.cap) N _ hy324) (fun v' w' h => ⟨h.1.trans (congrArg Value.bool (Bool.eq_false_iff.2 h49)), h.2⟩)) ?_)
    intro w hI
    refine pu (.bool true) (by kernel_rfl) (seq_nil (wp_condT rfl (wp_seq (rgn (by kernel_rfl) (pu (iv 1) (by kernel_rfl) (pu (iv 0) (by kernel_rfl) (seq_nil (wp_ret ?_))))))))
    replace hF := Option.some.inj hF; subst hF
    exact ⟨.tuple #[iv 1, iv 0], Ret.r2 rfl rfl rfl, ⟨rfl, hI.below⟩⟩
  ·
   refine seq_c (s_callv hI 70 [iv p2, iv 0, iv (p0_0 - 1)] (.bool false) (by kernel_rfl) (Does.mono (L70 _ p2 0 (p0_0 - 1) _ hy266) (fun v' w' h => ⟨h.1.trans (congrArg Value.bool (Bool.eq_false_iff.2 h45)), h.2⟩)) ?_)
   intro w hI
   refine pu (.bool true) (by kernel_rfl) (seq_nil (wp_condT rfl (wp_seq (rgn (by kernel_rfl) (pu (iv 0) (by kernel_rfl) (pu (iv 7) (by kernel_rfl) (seq_nil (wp_ret ?_))))))))
   replace hF := Option.some.inj hF; subst hF
   exact ⟨.tuple #[iv 0, iv 7], Ret.r2 rfl rfl rfl, ⟨rfl, hI.below⟩⟩
 ·
  refine seq_c (s_neq rfl rfl (fun _ => ?_) (fun h => absurd (a := y257.2 = 0) h h37))
  refine seq_nil (wp_condT rfl (wp_seq (rgn (by kernel_rfl) (pu (iv y257.2) (by kernel_rfl) (pu (iv 0) (by kernel_rfl) (pu (iv y257.2) (by kernel_rfl) (seq_nil (wp_ret ?_))))))))
  replace hF := Option.some.inj hF; subst hF
  exact ⟨.tuple #[iv 0, iv y257.2], Ret.r2 rfl rfl rfl, ⟨rfl, hI.below⟩⟩


theorem L55 (w0 : World) (p0_0 : Int) (Ap0_1 : Option Addr) (cp0_1 : Nat) (lp0_1 : List Cm) (hCp0_1 : Cells w0 Ap0_1 (flat eCm lp0_1)) (hMp0_1 : lp0_1.length ≤ 9223372036854775807) (hKp0_1 : lp0_1.length ≤ cp0_1) (N : Nat) (r : (List Int × Int)) (hF : F55 N p0_0 lp0_1 = some r) : Does Try.prog 55 [.agg #[.int .i64 p0_0, .slice Ap0_1 lp0_1.length cp0_1]] w0 fun v w => ∃ (z0 : Option Nat) (z1 : Nat) (z2 : List Value), v = .tuple #[slv z0 r.1.length z1, .int .i64 r.2] ∧ Inv [] w0 w [(z0, blk z2 3)] ∧ Row 1 z0 r.1.length z1 z2 (flat eInt r.1) := by
 refine calls_of (n := 37) Try.func55 rfl Try.ntmps55 rfl ?_
 have hI := Inv.start w0
 unfold F55 at hF
 refine wp_seq (rgn (by kernel_rfl) (seq_c (s_boxI hI [iv p0_0, .slice Ap0_1 lp0_1.length cp0_1] rfl ?_)))
 intro b871 w hI
 refine pu (.slice none 0 0) (by kernel_rfl) (pu (iv 0) (by kernel_rfl) (seq_nil (wp_seq (wp_seq (rgn (by kernel_rfl) (seq_c (s_loadK hI 0 2 [iv p0_0, .slice Ap0_1 lp0_1.length cp0_1] Try.isAgg24 Try.sizeOf24 rfl rfl rfl rfl ?_)))))))
 refine bindE hF (fun y878 hy879 hF => ?_)
 refine seq_c (s_callv hI 23 [.agg #[iv p0_0, .slice Ap0_1 lp0_1.length cp0_1]] (iv y878) (by kernel_rfl) (L23 _ p0_0 Ap0_1 cp0_1 lp0_1 (hCp0_1.inv0 hI) hMp0_1 hKp0_1 N _ hy879) ?_)
 intro w hI
 refine pu (iv y878) (by kernel_rfl) (seq_nil (wp_seq (rgn (by kernel_rfl) (pu (iv y878) (by kernel_rfl) (ifE hF (fun h60 hF => ?_) (fun h60 hF => ?_))))))
 ·
  refine seq_c (s_neq rfl rfl (fun h => absurd (a := y878 = 0) h60 h) (fun _ => ?_))
  refine seq_nil (wp_condF rfl (wp_skip (wp_seq (rgn (by kernel_rfl) (seq_c (s_loadK hI 0 2 [iv p0_0, .slice Ap0_1 lp0_1.length cp0_1] Try.isAgg24 Try.sizeOf24 rfl rfl rfl rfl ?_))))))
  refine bindE hF (fun y891 hy892 hF => ?_)
  refine seq_c (s_call 80 [.agg #[iv p0_0, .slice Ap0_1 lp0_1.length cp0_1]] (by kernel_rfl) (L80 _ p0_0 Ap0_1 cp0_1 lp0_1 (hCp0_1.inv0 hI) hMp0_1 hKp0_1 N _ hy892) ?_)
  rintro v w ⟨g893, c894, cl895, g896, c897, cl898, rfl, hN, r899, r900⟩
  have hI := hI.join hN; clear hN
  refine pu (.tuple #[.agg #[iv y891.1, .slice Ap0_1 lp0_1.length cp0_1, slv g893 y891.2.1.length c894], slv g896 y891.2.2.length c897]) (by kernel_rfl) (pu (.agg #[iv y891.1, .slice Ap0_1 lp0_1.length cp0_1, slv g893 y891.2.1.length c894]) (by kernel_rfl) (pu (slv g896 y891.2.2.length c897) (by kernel_rfl) (seq_c (s_allocI hI [iv 0, .slice none 0 0, .slice none 0 0] Try.zeroValue93 rfl ?_))))
  intro b901 w hI
  refine seq_c (s_store hI 0 3 [iv y891.1, .slice Ap0_1 lp0_1.length cp0_1, slv g893 y891.2.1.length c894] Try.sizeOf93 rfl rfl rfl rfl rfl (Nat.le_of_ble_eq_true rfl) ?_)
  intro w hI
  refine pu (slv g896 y891.2.2.length c897) (by kernel_rfl) (seq_nil (wp_seq (rgn (by kernel_rfl) (pu (.slice none 0 0) (by kernel_rfl) (seq_nil (wp_seq (wp_seq (rgn (by kernel_rfl) (pu (.pointer (some ⟨b871, 0, none⟩)) (by kernel_rfl) ?_)))))))))
  refine seq_c (s_load1 hI 3 (iv p0_0) Try.isAgg3 rfl rfl rfl ?_)
  refine pu (iv 0) (by kernel_rfl) (seq_nil (wp_block ?_))
  have hI := hI.nilRow 3
  refine wp_loop (fun m ρ w => ∃ (g1601 : Option Nat) (c1602 : Nat) (cl1603 : List Value) (idle_1600 : List Int) (v1605 : Int) (mm : Nat), Agree ρ [(1, .pointer (some ⟨b871, 0, none⟩)), (6, slv g896 y891.2.2.length c897), (7, slv g1601 idle_1600.length c1602), (20, iv p0_0), (21, iv v1605)] ∧ Inv [] w0 w [(some b871, blk [iv p0_0, .slice Ap0_1 lp0_1.length cp0_1] 24), (g896, blk cl898 3), (g1601, blk cl1603 3)] ∧ (Row 1 g1601 (idle_1600.length) c1602 cl1603 (flat eInt idle_1600)) ∧ F55l1 p0_0 lp0_1 N y891 mm idle_1600 v1605 = some r ∧ mm = m) (m := N) ⟨none, 0, [], [], 0, N, ⟨rfl, rfl, rfl, rfl, rfl, trivial⟩, hI.pickL [4, 3, 0] (by decide) rfl, (Row.nil_ 1), hF, rfl⟩ ?_
  rintro m ρ w ⟨g1601, c1602, cl1603, idle_1600, v1605, mm, hag, hI, r1604, hF, hm⟩
  subst hm; obtain ⟨ρ, rfl⟩ := hag.form; clear hag
  obtain _ | m1 := mm
  ·cases (show (none : Option (List Int × Int)) = some r from hF)
  replace hF : F55b1 p0_0 lp0_1 N y891 (F55l1 p0_0 lp0_1 N y891 m1) idle_1600 v1605 = some r := hF; unfold F55b1 at hF
  refine wp_seq (rgn (by kernel_rfl) (ifE hF (fun h105 hF => ?_) (fun h105 hF => ?_)))
  ·
   refine seq_c (s_lss rfl rfl (fun _ => ?_) (fun h => absurd (a := v1605 < p0_0) h105 h))
   refine seq_nil (wp_seq (wp_condT rfl (wp_skip (wp_cutO (fun ρ w => ∃ (g1672 : Option Nat) (c1673 : Nat) (cl1674 : List Value) (idle_1671 : List Int), Agree ρ [(1, .pointer (some ⟨b871, 0, none⟩)), (6, slv g896 y891.2.2.length c897), (7, slv g1672 idle_1671.length c1673), (20, iv p0_0), (21, iv v1605)] ∧ Inv [] w0 w [(some b871, blk [iv p0_0, .slice Ap0_1 lp0_1.length cp0_1] 24), (g896, blk cl898 3), (g1672, blk cl1674 3)] ∧ (Row 1 g1672 (idle_1671.length) c1673 cl1674 (flat eInt idle_1671)) ∧ F55j2 (F55l1 p0_0 lp0_1 N y891 m1) v1605 idle_1671 = some r) ?_ ?_))))
   ·
    refine wp_block ?_
    refine wp_seq (rgn (by kernel_rfl) (pu (iv v1605) (by kernel_rfl) (pu (iv v1605) (by kernel_rfl) (seq_nil (wp_seq (bindE hF (fun y1706 hy1707 hF => ?_)))))))
    refine bindE hF (fun y1712 hy1713 hF => ?_)
    refine bindE hF (fun y1718 hy1719 hF => ?_)
    refine ifE hF (fun h111 hF => ?_) (fun h111 hF => ?_)
    ·
     refine wp_drawn2 hI [0, 1, 2] (by decide) rfl (by kernel_rfl) (by kernel_rfl) ?_
     intro hsub
     refine al_light 0 (.agg #[iv p0_0, .slice Ap0_1 lp0_1.length cp0_1]) hsub rfl (by kernel_rfl) (fun w hI => s_loadK hI 0 2 [iv p0_0, .slice Ap0_1 lp0_1.length cp0_1] Try.isAgg24 Try.sizeOf24 rfl rfl rfl rfl ⟨rfl, Below.refl _ _⟩) ?_
     refine alp 1 (iv v1605) hsub rfl (by kernel_rfl) (fun _ => (by kernel_rfl)) ?_
     refine al_light 2 (.agg #[iv p0_0, .slice Ap0_1 lp0_1.length cp0_1]) hsub rfl (by kernel_rfl) (fun w hI => s_loadK hI 0 2 [iv p0_0, .slice Ap0_1 lp0_1.length cp0_1] Try.isAgg24 Try.sizeOf24 rfl rfl rfl rfl ⟨rfl, Below.refl _ _⟩) ?_
     refine alp 5 (slv g896 y891.2.2.length c897) hsub rfl (by kernel_rfl) (fun _ => (by kernel_rfl)) ?_
     refine any_heavy [3] (by kernel_rfl) rfl (each1 ?_)
     intro w hI
     refine ol_c rfl (s_call 93 [.agg #[iv p0_0, .slice Ap0_1 lp0_1.length cp0_1]] (by kernel_rfl) (L93 _ p0_0 Ap0_1 cp0_1 lp0_1 (hCp0_1.inv0 hI) hMp0_1 hKp0_1 N _ hy1707) ?_)
     rintro v w ⟨g1720, c1721, cl1722, rfl, hN, r1723⟩
     have hI := hI.join hN; clear hN
     refine ⟨_, hI, subk (fun _ h => h.pickL [1, 2, 3] (by decide) rfl) ?_⟩
     intro hsub
     refine any_heavy [4] (by kernel_rfl) rfl (each1 ?_)
     intro w hI
     refine ol_c rfl (s_call 91 [.agg #[iv p0_0, .slice Ap0_1 lp0_1.length cp0_1], iv v1605, slv g1720 y1706.length c1721] (by kernel_rfl) (L91 _ p0_0 Ap0_1 cp0_1 lp0_1 v1605 (g1720.map fun b => ⟨b, 0, none⟩) c1721 y1706 (hCp0_1.inv0 hI) hMp0_1 hKp0_1 (hI.rowCells 0 rfl r1723) (len_le rfl r1723.big) (len_le rfl r1723.cap) N _ hy1713) ?_)
     rintro v w ⟨g1724, c1725, cl1726, rfl, hN, r1727⟩
     have hI := hI.join hN; clear hN
     refine ⟨_, hI, subk (fun _ h => h.pickL [2, 3, 4] (by decide) rfl) ?_⟩
     intro hsub
     refine any_heavy [6] (by kernel_rfl) rfl (each1 ?_)
     intro w hI
     refine ol_c rfl (s_callv hI 87 [.agg #[iv y1712.1, slv g1724 y1712.2.length c1725], slv g896 y891.2.2.length c897] (.bool true) (by kernel_rfl) (Does.mono (L87 _ y1712.1 (g1724.map fun b => ⟨b, 0, none⟩) c1725 y1712.2 (g896.map fun b => ⟨b, 0, none⟩) c897 y891.2.2 (hI.rowCells 0 rfl r1727) (len_le rfl r1727.big) (len_le rfl r1727.cap) (hI.rowCells 3 rfl r900) (len_le rfl r900.big) (len_le rfl r900.cap) N _ hy1719) (fun v' w' h => ⟨h.1.trans (congrArg Value.bool h111), h.2⟩)) ?_)
     intro w hI
     refine ⟨_, hI, subk (fun _ h => h.pickL [2, 3, 4] (by decide) rfl) ?_⟩
     intro hsub
     refine any_end (by kernel_rfl) (fun w hI => ?_)
     refine wp_condT rfl (rgn (by kernel_rfl) (pu (slv g1601 idle_1600.length c1602) (by kernel_rfl) (pu (iv v1605) (by kernel_rfl) (seq_c (s_new hI [iv v1605] 3 (fun b => slv (some b) 1 1) (by kernel_rfl) ?_)))))
     intro b1728 w hI
     refine gdE hF (fun h112 hF => ?_)
     refine seq_c (s_appN hI Try.underlying49 (z := iv 0) (k := 1) (bytes := 8) (by kernel_rfl) rfl rfl 5 rfl rfl r1604 [iv v1605] rfl rfl (hI.cells 0 (off := 0) rfl (fun j u h => by rw [Nat.zero_add]; exact h)) (by simp [Value.oneCell']) (by omega) (by omega) (n2 := (idle_1600 ++ [v1605]).length) (app_len rfl rfl) ?_)
     intro g1729 c1730 cl1731 w hI r1732
     have r1732 : Row 1 g1729 ((idle_1600 ++ [v1605]).length) c1730 cl1731 (flat eInt (idle_1600 ++ [v1605])) := r1732.snoc _ rfl
     refine pu (slv g1729 ((idle_1600 ++ [v1605]).length) c1730) (by kernel_rfl) (seq_nil ?_)
     exact .inl ⟨rfl, ⟨g1729, c1730, cl1731, idle_1600 ++ [v1605], ⟨rfl, rfl, rfl, rfl, rfl, trivial⟩, hI.pickL [3, 4, 5] (by decide) rfl, (r1732.to rfl rfl), hF⟩⟩
    ·
     refine wp_drawn2 hI [0, 1, 2] (by decide) rfl (by kernel_rfl) (by kernel_rfl) ?_
     intro hsub
     refine al_light 0 (.agg #[iv p0_0, .slice Ap0_1 lp0_1.length cp0_1]) hsub rfl (by kernel_rfl) (fun w hI => s_loadK hI 0 2 [iv p0_0, .slice Ap0_1 lp0_1.length cp0_1] Try.isAgg24 Try.sizeOf24 rfl rfl rfl rfl ⟨rfl, Below.refl _ _⟩) ?_
     refine alp 1 (iv v1605) hsub rfl (by kernel_rfl) (fun _ => (by kernel_rfl)) ?_
     refine al_light 2 (.agg #[iv p0_0, .slice Ap0_1 lp0_1.length cp0_1]) hsub rfl (by kernel_rfl) (fun w hI => s_loadK hI 0 2 [iv p0_0, .slice Ap0_1 lp0_1.length cp0_1] Try.isAgg24 Try.sizeOf24 rfl rfl rfl rfl ⟨rfl, Below.refl _ _⟩) ?_
     refine alp 5 (slv g896 y891.2.2.length c897) hsub rfl (by kernel_rfl) (fun _ => (by kernel_rfl)) ?_
     refine any_heavy [3] (by kernel_rfl) rfl (each1 ?_)
     intro w hI
     refine ol_c rfl (s_call 93 [.agg #[iv p0_0, .slice Ap0_1 lp0_1.length cp0_1]] (by kernel_rfl) (L93 _ p0_0 Ap0_1 cp0_1 lp0_1 (hCp0_1.inv0 hI) hMp0_1 hKp0_1 N _ hy1707) ?_)
     rintro v w ⟨g1733, c1734, cl1735, rfl, hN, r1736⟩
     have hI := hI.join hN; clear hN
     refine ⟨_, hI, subk (fun _ h => h.pickL [1, 2, 3] (by decide) rfl) ?_⟩
     intro hsub
     refine any_heavy [4] (by kernel_rfl) rfl (each1 ?_)
     intro w hI
     refine ol_c rfl (s_call 91 [.agg #[iv p0_0, .slice Ap0_1 lp0_1.length cp0_1], iv v1605, slv g1733 y1706.length c1734] (by kernel_rfl) (L91 _ p0_0 Ap0_1 cp0_1 lp0_1 v1605 (g1733.map fun b => ⟨b, 0, none⟩) c1734 y1706 (hCp0_1.inv0 hI) hMp0_1 hKp0_1 (hI.rowCells 0 rfl r1736) (len_le rfl r1736.big) (len_le rfl r1736.cap) N _ hy1713) ?_)
     rintro v w ⟨g1737, c1738, cl1739, rfl, hN, r1740⟩
     have hI := hI.join hN; clear hN
     refine ⟨_, hI, subk (fun _ h => h.pickL [2, 3, 4] (by decide) rfl) ?_⟩
     intro hsub
     refine any_heavy [6] (by kernel_rfl) rfl (each1 ?_)
     intro w hI
     refine ol_c rfl (s_callv hI 87 [.agg #[iv y1712.1, slv g1737 y1712.2.length c1738], slv g896 y891.2.2.length c897] (.bool false) (by kernel_rfl) (Does.mono (L87 _ y1712.1 (g1737.map fun b => ⟨b, 0, none⟩) c1738 y1712.2 (g896.map fun b => ⟨b, 0, none⟩) c897 y891.2.2 (hI.rowCells 0 rfl r1740) (len_le rfl r1740.big) (len_le rfl r1740.cap) (hI.rowCells 3 rfl r900) (len_le rfl r900.big) (len_le rfl r900.cap) N _ hy1719) (fun v' w' h => ⟨h.1.trans (congrArg Value.bool (Bool.eq_false_iff.2 h111)), h.2⟩)) ?_)
     intro w hI
     refine ⟨_, hI, subk (fun _ h => h.pickL [2, 3, 4] (by decide) rfl) ?_⟩
     intro hsub
     refine any_end (by kernel_rfl) (fun w hI => ?_)
     refine wp_condF rfl (wp_skip ?_)
     exact .inl ⟨rfl, ⟨g1601, c1602, cl1603, idle_1600, ⟨rfl, rfl, rfl, rfl, rfl, trivial⟩, hI.pickL [2, 3, 4] (by decide) rfl, (r1604.to rfl rfl), hF⟩⟩
   ·intro ρ w hJ
    obtain ⟨g1672, c1673, cl1674, idle_1671, hag, hI, r1675, hF⟩ := hJ
    obtain ⟨ρ, rfl⟩ := hag.form; clear hag
    unfold F55j2 at hF
    refine rgn (by kernel_rfl) (ckE hF (fun h109 hF => ?_))
    refine seq_c (s_add rfl rfl h109 ?_)
    refine pu (iv (v1605 + 1)) (by kernel_rfl) (seq_nil ?_)
    exact ⟨rfl, m1, Nat.lt_succ_self _, ⟨g1672, c1673, cl1674, idle_1671, v1605 + 1, m1, ⟨rfl, rfl, rfl, rfl, rfl, trivial⟩, hI.pickL [0, 1, 2] (by decide) rfl, (r1675.to rfl rfl), hF, rfl⟩⟩
  ·
   refine seq_c (s_lss rfl rfl (fun h => absurd (a := v1605 < p0_0) h h105) (fun _ => ?_))
   refine seq_nil (wp_seq (wp_condF rfl (wp_exit ?_)))
   refine wp_seq (rgn (by kernel_rfl) (pu (slv g1601 idle_1600.length c1602) (by kernel_rfl) (pu (slv g1601 idle_1600.length c1602) (by kernel_rfl) (pu (iv 0) (by kernel_rfl) (seq_nil (wp_ret ?_))))))
   replace hF := Option.some.inj hF; subst hF
   exact ⟨.tuple #[slv g1601 idle_1600.length c1602, iv 0], Ret.r2 rfl rfl rfl, ⟨g1601, c1602, cl1603, rfl, hI.pickL [2] (by decide) rfl, r1604.to rfl rfl⟩⟩
 ·
  refine seq_c (s_neq rfl rfl (fun _ => ?_) (fun h => absurd (a := y878 = 0) h h60))
  refine seq_nil (wp_condT rfl (wp_seq (rgn (by kernel_rfl) (pu (iv y878) (by kernel_rfl) (pu (.slice none 0 0) (by kernel_rfl) (pu (iv y878) (by kernel_rfl) (seq_nil (wp_ret ?_))))))))
  have hI := hI.nilRow 3
  replace hF := Option.some.inj hF; subst hF
  exact ⟨.tuple #[.slice none 0 0, iv y878], Ret.r2 rfl rfl rfl, ⟨none, 0, [], rfl, hI.pickL [0] (by decide) rfl, Row.nil_ 1⟩⟩


theorem L96 (w0 : World) (bp0 : Nat) (cp0 : Nat) (clp0 : List Value) (lp0 : List Int) (p1 : Int) (p2 : Int) (hgp0 : w0.heap[bp0]? = some (blk clp0 3)) (hrp0 : Row 1 (some bp0) lp0.length cp0 clp0 (flat eInt lp0)) (r : List Int) (hF : F96 lp0 p1 p2 = some r) : Does Try.prog 96 [slv (some bp0) lp0.length cp0, .int .i64 p1, .int .i64 p2] w0 fun v w => ∃ (z0 : Option Nat) (z1 : Nat) (z2 : List Value), v = slv z0 r.length z1 ∧ Inv [bp0] w0 w [(z0, blk z2 3)] ∧ Row 1 z0 r.length z1 z2 (flat eInt r) := by
 refine calls_of (n := 33) Try.func96 rfl Try.ntmps96 rfl ?_
 have hI := Inv.lent w0 (some bp0) (blk clp0 3) (fun b hb => by injection hb with hb; subst hb; exact hgp0)
 unfold F96 at hF
 refine wp_seq (rgn (by kernel_rfl) (pu (.slice none 0 0) (by kernel_rfl) (seq_nil (wp_seq (rgn (by kernel_rfl) (pu (slv (some bp0) lp0.length cp0) (by kernel_rfl) (pu (iv p1) (by kernel_rfl) (pu (iv p2) (by kernel_rfl) (pu (slv (some bp0) lp0.length cp0) (by kernel_rfl) ?_)))))))))
 refine pu (iv ((lp0.length : Nat) : Int)) (by kernel_rfl) (gdE hF (fun h24 hF => ?_))
 refine gdE hF (fun h25 hF => ?_)
 refine gdE hF (fun h26 hF => ?_)
 refine seq_c (s_slice3 (l := (p1).toNat) (h := (p2).toNat) (q := lp0.length) Try.underlying49 Try.sizeOf3 rfl (congrArg (Value.int .i64) (Int.toNat_of_nonneg h24).symm) (congrArg (Value.int .i64) (Int.toNat_of_nonneg h25).symm) (congrArg (Value.int .i64) rfl) ⟨h26.1, h26.2.1, Nat.le_trans h26.2.2 (len_le rfl hrp0.cap)⟩ ?_)
 refine seq_nil (wp_seq (wp_seq (rgn (by kernel_rfl) (pu (iv p1) (by kernel_rfl) (pu (iv p2) (by kernel_rfl) (ifE hF (fun h30 hF => ?_) (fun h30 hF => ?_)))))))
 ·
  refine seq_c (s_eql rfl rfl (fun _ => ?_) (fun h => absurd (a := p1 = p2) h30 h))
  refine seq_nil (wp_condT rfl (wp_seq (rgn (by kernel_rfl) (pu (slv (some bp0) lp0.length cp0) (by kernel_rfl) (pu (slv (some bp0) lp0.length cp0) (by kernel_rfl) (seq_nil (wp_ret ?_)))))))
  replace hF := Option.some.inj hF; subst hF
  exact ⟨slv (some bp0) lp0.length cp0, Ret.r1 rfl rfl, ⟨some bp0, cp0, clp0, rfl, hI.pickL [0] (by decide) rfl, hrp0.to rfl rfl⟩⟩
 ·
  refine seq_c (s_eql rfl rfl (fun h => absurd (a := p1 = p2) h h30) (fun _ => ?_))
  refine seq_nil (wp_condF rfl (wp_skip (wp_seq (rgn (by kernel_rfl) (pu (slv (some bp0) lp0.length cp0) (by kernel_rfl) (pu (iv ((lp0.length : Nat) : Int)) (by kernel_rfl) (pu (iv (lp0.length : Int)) (by kernel_rfl) (seq_nil (wp_seq ?_)))))))))
  refine gdE hF (fun h34 hF => ?_)
  refine gdE hF (fun h35 hF => ?_)
  refine gdE hF (fun h36 hF => ?_)
  replace hI := hI.pickL [0] (by decide) rfl
  refine wp_drawn2 hI [] (by decide) rfl (by kernel_rfl) (by kernel_rfl) ?_
  intro hsub
  refine alp 0 (slv (some bp0) lp0.length cp0) hsub rfl (by kernel_rfl) (fun _ => (by kernel_rfl)) ?_
  refine alp 1 (iv p1) hsub rfl (by kernel_rfl) (fun _ => (by kernel_rfl)) ?_
  have r40 : Row 1 (some bp0) (lp0.take (p1).toNat).length cp0 clp0 (flat eInt (lp0.take (p1).toNat)) := (hrp0.cut eInt_len (by decide) (p1).toNat (len_ge rfl h34)).to rfl (take_len2 h34)
  refine al_light 2 (slv (some bp0) ((lp0.take (p1).toNat).length) cp0) hsub rfl (by kernel_rfl) (fun w hI => s_sliceHiN Try.underlying49 Try.sizeOf3 rfl (congrArg (Value.int .i64) (Int.toNat_of_nonneg h24).symm) (take_len2 h34) (Nat.le_trans h34 (len_le rfl hrp0.cap)) ⟨rfl, Below.refl _ _⟩) ?_
  refine alp 3 (slv (some bp0) lp0.length cp0) hsub rfl (by kernel_rfl) (fun _ => (by kernel_rfl)) ?_
  refine alp 4 (iv p2) hsub rfl (by kernel_rfl) (fun _ => (by kernel_rfl)) ?_
  refine al_light 5 (.slice (K.sub (some (⟨bp0, 0, none⟩ : Addr)) cp0 (p2).toNat 1) ((lp0.drop (p2).toNat).length) (cp0 - (p2).toNat)) hsub rfl (by kernel_rfl) (fun w hI => s_sliceLoN Try.underlying49 Try.sizeOf3 rfl (congrArg (Value.int .i64) (Int.toNat_of_nonneg h25).symm) (len_ge rfl h35) (drop_len2 rfl h35) hrp0.cap ⟨rfl, Below.refl _ _⟩) ?_
  refine any_heavy [6] (by kernel_rfl) rfl (each1 ?_)
  intro w hI
  refine ol_c rfl (s_appRoomN hI Try.underlying49 (z := iv 0) (k := 1) (bytes := 8) (by kernel_rfl) 0 rfl rfl r40 (flat eInt (lp0.drop (p2).toNat)) rfl (flat_len eInt_len _) (Cells.fromRow eInt_len (hI.rowCells 0 rfl (hrp0.to rfl rfl)) h35 hrp0.cap rfl) (flat_cell eInt_cell _) (n2 := ((lp0.take (p1).toNat) ++ (lp0.drop (p2).toNat)).length) (app_len rfl rfl) (Nat.le_trans h36 (len_le rfl hrp0.cap)) ?_)
  intro cl43 w hI r44
  refine ⟨_, hI, subk (fun _ h => h.pickL [] (by decide) rfl) ?_⟩
  intro hsub
  have r44 : Row 1 (some bp0) (((lp0.take (p1).toNat) ++ (lp0.drop (p2).toNat)).length) cp0 cl43 (flat eInt ((lp0.take (p1).toNat) ++ (lp0.drop (p2).toNat))) := r44.more
  refine alp 7 (slv (some bp0) (((lp0.take (p1).toNat) ++ (lp0.drop (p2).toNat)).length) cp0) hsub rfl (by kernel_rfl) (fun _ => (by kernel_rfl)) ?_
  refine any_end (by kernel_rfl) (fun w hI => ?_)
  refine wp_seq (rgn (by kernel_rfl) (pu (slv (some bp0) (((lp0.take (p1).toNat) ++ (lp0.drop (p2).toNat)).length) cp0) (by kernel_rfl) (pu (slv (some bp0) (((lp0.take (p1).toNat) ++ (lp0.drop (p2).toNat)).length) cp0) (by kernel_rfl) (pu (iv ((((lp0.take (p1).toNat) ++ (lp0.drop (p2).toNat)).length : Nat) : Int)) (by kernel_rfl) (pu (iv (lp0.length : Int)) (by kernel_rfl) (gdE hF (fun h39 hF => ?_)))))))
  refine gdE hF (fun h40 hF => ?_)
  refine seq_c (s_slice Try.underlying49 Try.sizeOf3 rfl (.inl (congrArg some (congrArg (Value.int .i64) (Int.toNat_of_nonneg h39).symm))) (.inl (congrArg some (congrArg (Value.int .i64) rfl))) h40 (len_le rfl hrp0.cap) ?_)
  refine seq_c (s_clearTail hI 0 (n := lp0.length) Try.underlying49 Try.zeroValue3 rfl rfl rfl rfl h36 (len_le rfl hrp0.cap) r44.size ?_)
  intro cl47 w hI hl0 ht0
  have r48 := r44.same hl0 ht0
  refine seq_nil (wp_seq (rgn (by kernel_rfl) (pu (slv (some bp0) (((lp0.take (p1).toNat) ++ (lp0.drop (p2).toNat)).length) cp0) (by kernel_rfl) (pu (slv (some bp0) (((lp0.take (p1).toNat) ++ (lp0.drop (p2).toNat)).length) cp0) (by kernel_rfl) (seq_nil (wp_ret ?_))))))
  replace hF := Option.some.inj hF; subst hF
  exact ⟨slv (some bp0) (((lp0.take (p1).toNat) ++ (lp0.drop (p2).toNat)).length) cp0, Ret.r1 rfl rfl, ⟨some bp0, cp0, cl47, rfl, hI.pickL [0] (by decide) rfl, r48.to rfl rfl⟩⟩


end Go.K
