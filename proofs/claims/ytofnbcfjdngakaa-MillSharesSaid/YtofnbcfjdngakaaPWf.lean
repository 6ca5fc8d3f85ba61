/- That the functions do what the pure definitions say: walks, as tools/lift.py writes them. No condition. -/
import Derived.Test.YtofnbcfjdngakaaPWe
namespace Go.K
open Go.Proofs Go.RowKit
set_option linter.unusedVariables false
set_option linter.unusedSimpArgs false
set_option maxRecDepth 100000
attribute [local irreducible] Seq Step CallV AnyE opX
theorem L82 (w0 : World) (p0_0 : Int) (Ap0_1 : Option Addr) (cp0_1 : Nat) (lp0_1 : List Cm) (p1 : Int) (hCp0_1 : Cells w0 Ap0_1 (flat eCm lp0_1)) (hMp0_1 : lp0_1.length ≤ 9223372036854775807) (hKp0_1 : lp0_1.length ≤ cp0_1) (N : Nat) (r : List Int) (hF : F82 N p0_0 lp0_1 p1 = some r) : Does Try.prog 82 [.agg #[.int .i64 p0_0, .slice Ap0_1 lp0_1.length cp0_1], .int .i64 p1] w0 fun v w => ∃ (z0 : Option Nat) (z1 : Nat) (z2 : List Value), v = slv z0 r.length z1 ∧ Inv [] w0 w [(z0, blk z2 3)] ∧ Row 1 z0 r.length z1 z2 (flat eInt r) := by
 refine calls_of (n := 26) Try.func82 rfl Try.ntmps82 rfl ?_
 have hI := Inv.start w0
 unfold F82 at hF
 refine wp_seq (rgn (by kernel_rfl) (seq_c (s_boxI hI [iv p0_0, .slice Ap0_1 lp0_1.length cp0_1] rfl ?_)))
 intro b175 w hI
 refine pu (.slice none 0 0) (by kernel_rfl) (seq_nil (wp_seq (rgn (by kernel_rfl) (pu (.slice none 0 0) (by kernel_rfl) (seq_nil (wp_seq (wp_seq (rgn (by kernel_rfl) (pu (iv 0) (by kernel_rfl) ?_)))))))))
 refine seq_nil (wp_block ?_)
 have hI := hI.nilRow 3
 refine wp_loop (fun m ρ w => ∃ (g320 : Option Nat) (c321 : Nat) (cl322 : List Value) (out_319 : List Int) (i_324 : Int) (mm : Nat), Agree ρ [(1, iv p1), (2, .pointer (some ⟨b175, 0, none⟩)), (5, slv g320 out_319.length c321), (6, iv i_324)] ∧ Inv [] w0 w [(some b175, blk [iv p0_0, .slice Ap0_1 lp0_1.length cp0_1] 24), (g320, blk cl322 3)] ∧ (Row 1 g320 (out_319.length) c321 cl322 (flat eInt out_319)) ∧ F82l1 lp0_1 p1 mm out_319 i_324 = some r ∧ mm = m) (m := N) ⟨none, 0, [], [], 0, N, ⟨rfl, rfl, rfl, rfl, trivial⟩, hI.pickL [1, 0] (by decide) rfl, (Row.nil_ 1), hF, rfl⟩ ?_
 rintro m ρ w ⟨g320, c321, cl322, out_319, i_324, mm, hag, hI, r323, hF, hm⟩
 subst hm; obtain ⟨ρ, rfl⟩ := hag.form; clear hag
 obtain _ | m1 := mm
 ·cases (show (none : Option (List Int)) = some r from hF)
 replace hF : F82b1 lp0_1 p1 (F82l1 lp0_1 p1 m1) out_319 i_324 = some r := hF; unfold F82b1 at hF
 refine wp_seq (wp_seq (rgn (by kernel_rfl) (pu (iv i_324) (by kernel_rfl) (pu (.pointer (some ⟨b175, 1, none⟩)) (by kernel_rfl) (seq_c (s_load1 hI 0 (.slice Ap0_1 lp0_1.length cp0_1) Try.isAgg22 rfl rfl rfl ?_))))))
 refine pu (iv ((lp0_1.length : Nat) : Int)) (by kernel_rfl) (ifE hF (fun h91 hF => ?_) (fun h91 hF => ?_))
 ·
  refine seq_c (s_lss rfl rfl (fun _ => ?_) (fun h => absurd (a := i_324 < (lp0_1.length : Int)) h91 h))
  refine seq_nil (wp_condT rfl (wp_skip (wp_seq (wp_block ?_))))
  refine rgn (by kernel_rfl) (pu (slv g320 out_319.length c321) (by kernel_rfl) (pu (iv p1) (by kernel_rfl) (pu (.pointer (some ⟨b175, 1, none⟩)) (by kernel_rfl) (seq_c (s_load1 hI 0 (.slice Ap0_1 lp0_1.length cp0_1) Try.isAgg22 rfl rfl rfl ?_)))))
  refine pu (iv i_324) (by kernel_rfl) (gdE hF (fun h94 hF => ?_))
  refine bindE hF (fun x337 hx338 hF => ?_)
  obtain ⟨b339, o340, hA341, hb342, he343⟩ := hCp0_1.at_ eCm_len (by decide) hx338
  refine seq_c (s_indexA (i_324).toNat Try.underlying22 Try.sizeOf26 rfl hA341 rfl (Int.toNat_of_nonneg h94).symm (lt_n hx338 rfl) ?_)
  refine pu (.pointer (some ⟨b339, o340 + (i_324).toNat * 3 + 2, none⟩)) (by kernel_rfl) (seq_c (s_loadB1 hI (iv x337.wants) Try.isAgg3 rfl hb342 (by simp) (he343 2 _ rfl) ?_))
  refine pu (iv (if x337.wants < p1 then x337.wants else p1)) (by kernel_rfl) (seq_c (s_new hI [iv (if x337.wants < p1 then x337.wants else p1)] 3 (fun b => slv (some b) 1 1) (by kernel_rfl) ?_))
  intro b344 w hI
  refine gdE hF (fun h95 hF => ?_)
  refine seq_c (s_appN hI Try.underlying49 (z := iv 0) (k := 1) (bytes := 8) (by kernel_rfl) rfl rfl 2 rfl rfl r323 [iv (if x337.wants < p1 then x337.wants else p1)] rfl rfl (hI.cells 0 (off := 0) rfl (fun j u h => by rw [Nat.zero_add]; exact h)) (by simp [Value.oneCell']) (by omega) (by omega) (n2 := (out_319 ++ [if x337.wants < p1 then x337.wants else p1]).length) (app_len rfl rfl) ?_)
  intro g345 c346 cl347 w hI r348
  have r348 : Row 1 g345 ((out_319 ++ [if x337.wants < p1 then x337.wants else p1]).length) c346 cl347 (flat eInt (out_319 ++ [if x337.wants < p1 then x337.wants else p1])) := r348.snoc _ rfl
  refine pu (slv g345 ((out_319 ++ [if x337.wants < p1 then x337.wants else p1]).length) c346) (by kernel_rfl) (seq_nil (rgn (by kernel_rfl) (pu (iv i_324) (by kernel_rfl) (ckE hF (fun h96 hF => ?_)))))
  refine seq_c (s_add rfl rfl h96 ?_)
  refine pu (iv (i_324 + 1)) (by kernel_rfl) (seq_nil ?_)
  exact ⟨rfl, m1, Nat.lt_succ_self _, ⟨g345, c346, cl347, out_319 ++ [if x337.wants < p1 then x337.wants else p1], i_324 + 1, m1, ⟨rfl, rfl, rfl, rfl, trivial⟩, hI.pickL [1, 2] (by decide) rfl, (r348.to rfl rfl), hF, rfl⟩⟩
 ·
  refine seq_c (s_lss rfl rfl (fun h => absurd (a := i_324 < (lp0_1.length : Int)) h h91) (fun _ => ?_))
  refine seq_nil (wp_condF rfl (wp_exit ?_))
  refine wp_seq (rgn (by kernel_rfl) (pu (slv g320 out_319.length c321) (by kernel_rfl) (pu (slv g320 out_319.length c321) (by kernel_rfl) (seq_nil (wp_ret ?_)))))
  replace hF := Option.some.inj hF; subst hF
  exact ⟨slv g320 out_319.length c321, Ret.r1 rfl rfl, ⟨g320, c321, cl322, rfl, hI.pickL [1] (by decide) rfl, r323.to rfl rfl⟩⟩


theorem L106 (N : Nat) : ∀ (w0 : World) (bhgt : Nat) (gh : Int) (Agc : Option Addr) (cgc : Nat) (lgc : List Cm) (Agp : Option Addr) (cgp : Nat) (lgp : List Int) (gi : Int) (ngt : Nat) (chgt : Nat) (clhgt : List Value) (lgt : List Bool) (hL0 : Inv [bhgt] w0 w0 [(some bhgt, blk clhgt 4)]) (hCgc : CellsB [bhgt] w0 Agc (flat eCm lgc)) (hMgc : lgc.length ≤ 9223372036854775807) (hKgc : lgc.length ≤ cgc) (hCgp : CellsB [bhgt] w0 Agp (flat eInt lgp)) (hMgp : lgp.length ≤ 9223372036854775807) (hKgp : lgp.length ≤ cgp) (hrgt : Row 1 (some bhgt) ngt chgt clhgt (flat eBool lgt)) (r : (List Bool ⊕ (List Int × List Bool))) (hF : F106 N gh lgc lgp gi lgt = some r), Does Try.prog 106 [.agg #[.int .i64 gh, .slice Agc lgc.length cgc], .agg #[.slice Agp lgp.length cgp], .int .i64 gi, slv (some bhgt) ngt chgt] w0 fun v w => (match r with | .inl ra0 => ∃ q0 : List Value, v = .tuple #[.agg #[.slice Agp lgp.length cgp], .bool false] ∧ Inv [bhgt] w0 w [(some bhgt, blk q0 4)] ∧ Row 1 (some bhgt) ngt chgt q0 (flat eBool ra0) | .inr rb0 => ∃ (z0 : Option Nat) (z1 : Nat) (z2 : List Value), ∃ q0 : List Value, v = .tuple #[.agg #[slv z0 rb0.1.length z1], .bool true] ∧ Inv [bhgt] w0 w [(z0, blk z2 3), (some bhgt, blk q0 4)] ∧ Row 1 z0 rb0.1.length z1 z2 (flat eInt rb0.1) ∧ Row 1 (some bhgt) ngt chgt q0 (flat eBool rb0.2)) := by
  induction N with
  | zero => intro w0 bhgt gh Agc cgc lgc Agp cgp lgp gi ngt chgt clhgt lgt hL0 hCgc hMgc hKgc hCgp hMgp hKgp hrgt r hF; cases (show (none : Option (List Bool ⊕ (List Int × List Bool))) = some r from hF)
  | succ N ih =>
   intro w0 bhgt gh Agc cgc lgc Agp cgp lgp gi ngt chgt clhgt lgt hL0 hCgc hMgc hKgc hCgp hMgp hKgp hrgt r hF
   replace hF : F106b N (F106 N) gh lgc lgp gi lgt = some r := hF
   refine calls_of (n := 75) Try.func106 rfl Try.ntmps106 rfl ?_
   have hI : Inv [bhgt] w0 w0 [(some bhgt, blk clhgt 4)] := hL0
   unfold F106b at hF
   refine wp_seq (rgn (by kernel_rfl) (seq_c (s_boxI hI [iv gh, .slice Agc lgc.length cgc] rfl ?_)))
   intro b1 w hI
   refine seq_c (s_boxI hI [.slice Agp lgp.length cgp] rfl ?_)
   intro b2 w hI
   refine seq_c (s_allocI hI [.slice none 0 0] Try.zeroValue97 rfl ?_)
   intro b3 w hI
   refine pu (.bool false) (by kernel_rfl) (seq_nil (wp_seq (wp_seq (rgn (by kernel_rfl) (pu (iv 0) (by kernel_rfl) (seq_nil (wp_block ?_)))))))
   refine wp_loop (fun m ρ w => ∃ (cl1542 : List Value) (u1541 : List Bool) (v1544 : Int) (mm : Nat), Agree ρ [(2, iv gi), (3, slv (some bhgt) ngt chgt), (4, .pointer (some ⟨b1, 0, none⟩)), (5, .pointer (some ⟨b2, 0, none⟩)), (8, .pointer (some ⟨b3, 0, none⟩)), (10, iv v1544)] ∧ Inv [bhgt] w0 w [(some bhgt, blk cl1542 4), (some b1, blk [iv gh, .slice Agc lgc.length cgc] 24), (some b2, blk [.slice Agp lgp.length cgp] 97), (some b3, blk [.slice none 0 0] 97)] ∧ (Row 1 (some bhgt) (ngt) chgt cl1542 (flat eBool u1541)) ∧ F106l1 gh lgc lgp gi (F106 N) mm u1541 v1544 = some r ∧ mm = m) (m := N) ⟨clhgt, lgt, 0, N, ⟨rfl, rfl, rfl, rfl, rfl, rfl, trivial⟩, hI.pickL [3, 2, 1, 0] (by decide) rfl, hrgt, hF, rfl⟩ ?_
   rintro m ρ w ⟨cl1542, u1541, v1544, mm, hag, hI, r1543, hF, hm⟩
   subst hm; obtain ⟨ρ, rfl⟩ := hag.form; clear hag
   obtain _ | m1 := mm
   ·cases (show (none : Option (List Bool ⊕ (List Int × List Bool))) = some r from hF)
   replace hF : F106b1 gh lgc lgp gi (F106 N) (F106l1 gh lgc lgp gi (F106 N) m1) u1541 v1544 = some r := hF; unfold F106b1 at hF
   refine wp_seq (wp_seq (rgn (by kernel_rfl) (pu (iv v1544) (by kernel_rfl) (pu (.pointer (some ⟨b1, 0, none⟩)) (by kernel_rfl) (seq_c (s_load1 hI 1 (iv gh) Try.isAgg3 rfl rfl rfl ?_))))))
   refine ifE hF (fun h191 hF => ?_) (fun h191 hF => ?_)
   ·
    refine seq_c (s_lss rfl rfl (fun _ => ?_) (fun h => absurd (a := v1544 < gh) h191 h))
    refine seq_nil (wp_condT rfl (wp_skip (wp_cutO (fun ρ w => ∃ (cl1697 : List Value) (u1696 : List Bool), Agree ρ [(2, iv gi), (3, slv (some bhgt) ngt chgt), (4, .pointer (some ⟨b1, 0, none⟩)), (5, .pointer (some ⟨b2, 0, none⟩)), (8, .pointer (some ⟨b3, 0, none⟩)), (10, iv v1544)] ∧ Inv [bhgt] w0 w [(some bhgt, blk cl1697 4), (some b1, blk [iv gh, .slice Agc lgc.length cgc] 24), (some b2, blk [.slice Agp lgp.length cgp] 97), (some b3, blk [.slice none 0 0] 97)] ∧ (Row 1 (some bhgt) (ngt) chgt cl1697 (flat eBool u1696)) ∧ F106j2 (F106l1 gh lgc lgp gi (F106 N) m1) v1544 u1696 = some r) ?_ ?_)))
    ·
     refine wp_block ?_
     refine wp_seq (wp_cutO (fun ρ w => Agree ρ [(2, iv gi), (3, slv (some bhgt) ngt chgt), (4, .pointer (some ⟨b1, 0, none⟩)), (5, .pointer (some ⟨b2, 0, none⟩)), (8, .pointer (some ⟨b3, 0, none⟩)), (10, iv v1544), (39, .bool true)] ∧ Inv [bhgt] w0 w [(some bhgt, blk cl1542 4), (some b1, blk [iv gh, .slice Agc lgc.length cgc] 24), (some b2, blk [.slice Agp lgp.length cgp] 97), (some b3, blk [.slice none 0 0] 97)] ∧ F106j3 (F106l1 gh lgc lgp gi (F106 N) m1) u1541 v1544 = some r) ?_ ?_)
     ·
      refine rgn (by kernel_rfl) (seq_c (s_loadK hI 1 2 [iv gh, .slice Agc lgc.length cgc] Try.isAgg24 Try.sizeOf24 rfl rfl rfl rfl ?_))
      refine pu (iv gi) (by kernel_rfl) (pu (iv v1544) (by kernel_rfl) (bindE hF (fun y1738 hy1739 hF => ?_)))
      refine ifE hF (fun h220 hF => ?_) (fun h220 hF => ?_)
      ·
       refine seq_c (s_callv hI 94 [.agg #[iv gh, .slice Agc lgc.length cgc], iv gi, iv v1544] (.bool true) (by kernel_rfl) (Does.mono (L94 _ gh Agc cgc lgc gi v1544 (hCgc.inv hI).cells hMgc hKgc _ hy1739) (fun v' w' h => ⟨h.1.trans (congrArg Value.bool h220), h.2⟩)) ?_)
       intro w hI
       refine pu (.bool false) (by kernel_rfl) (pu (.bool false) (by kernel_rfl) (puo (slv (some bhgt) ngt chgt) ⟨(by kernel_rfl), (by kernel_rfl)⟩ (puo (iv v1544) ⟨(by kernel_rfl), (by kernel_rfl)⟩ (gdE hF (fun h221 hF => ?_)))))
       refine bindE hF (fun x1740 hx1741 hF => ?_)
       have he1742 := r1543.atS eBool_len (by decide) hx1741
       refine seq_on (by kernel_rfl) (s_indexR (v1544).toNat Try.underlying114 Try.sizeOf4 rfl rfl (Int.toNat_of_nonneg h221).symm (lt_n hx1741 (r1543.n_eq eBool_len (by decide))) ?_)
       have hG := hF; rcases Bool.eq_false_or_eq_true x1740 with rfl | rfl
       ·
        have hF := hG; clear hG
        refine ifE hF (fun _ hF => ?_) (fun h => absurd rfl h)
        refine seq_on (by kernel_rfl) (s_loadR1 hI 0 (.bool true) Try.isAgg4 rfl rfl (he1742 0 _ rfl) ?_)
        refine pu (.bool true) (by kernel_rfl) (pu (.bool true) (by kernel_rfl) (of_ (by kernel_rfl) (of_ (by kernel_rfl) (of_ (by kernel_rfl) (of_ (by kernel_rfl) (of_ (by kernel_rfl) (of_ (by kernel_rfl) (of_ (by kernel_rfl) (pu (.bool true) (by kernel_rfl) ?_)))))))))
        refine seq_nil ?_
        exact .inl ⟨rfl, ⟨⟨rfl, rfl, rfl, rfl, rfl, rfl, rfl, trivial⟩, hI.pickL [0, 1, 2, 3] (by decide) rfl, hF⟩⟩
       ·
        have hF := hG; clear hG
        refine ifE hF (fun h => absurd h (by decide)) (fun _ hF => ?_)
        refine seq_on (by kernel_rfl) (s_loadR1 hI 0 (.bool false) Try.isAgg4 rfl rfl (he1742 0 _ rfl) ?_)
        refine pu (.bool false) (by kernel_rfl) (pu (.bool false) (by kernel_rfl) (puo (.pointer (some ⟨b2, 0, none⟩)) ⟨(by kernel_rfl), (by kernel_rfl)⟩ (seq_on (by kernel_rfl) (s_load1 hI 2 (.slice Agp lgp.length cgp) Try.isAgg49 rfl rfl rfl ?_))))
        refine puo (iv v1544) ⟨(by kernel_rfl), (by kernel_rfl)⟩ (bindE hF (fun x1743 hx1744 hF => ?_))
        obtain ⟨b1745, o1746, hA1747, hb1748, hB1750, he1749⟩ := hCgp.at_ eInt_len (by decide) hx1744
        refine seq_on (by kernel_rfl) (s_indexA (v1544).toNat Try.underlying49 Try.sizeOf3 rfl hA1747 rfl (Int.toNat_of_nonneg h221).symm (lt_n hx1744 rfl) ?_)
        refine seq_on (by kernel_rfl) (s_loadB1 hI (iv x1743) Try.isAgg3 rfl hb1748 hB1750 (he1749 0 _ rfl) ?_)
        refine puo (iv gi) ⟨(by kernel_rfl), (by kernel_rfl)⟩ (ifE hF (fun h222 hF => ?_) (fun h222 hF => ?_))
        ·
         refine seq_on (by kernel_rfl) (s_eql rfl rfl (fun _ => ?_) (fun h => absurd (a := x1743 = gi) h222 h))
         refine pu (.bool true) (by kernel_rfl) (seq_nil ?_)
         exact .inl ⟨rfl, ⟨⟨rfl, rfl, rfl, rfl, rfl, rfl, rfl, trivial⟩, hI.pickL [0, 1, 2, 3] (by decide) rfl, hF⟩⟩
        ·
         refine seq_on (by kernel_rfl) (s_eql rfl rfl (fun h => absurd (a := x1743 = gi) h h222) (fun _ => ?_))
         refine pu (.bool false) (by kernel_rfl) (seq_nil (.inr ?_))
         refine wp_condF rfl (wp_skip (wp_seq (rgn (by kernel_rfl) (pu (slv (some bhgt) ngt chgt) (by kernel_rfl) (pu (iv v1544) (by kernel_rfl) (seq_c (s_indexR (v1544).toNat Try.underlying114 Try.sizeOf4 rfl rfl (Int.toNat_of_nonneg h221).symm (lt_n hx1741 (r1543.n_eq eBool_len (by decide))) ?_)))))))
         have := lt_n hx1741 (r1543.n_eq eBool_len (by decide))
         refine seq_c (s_store hI 0 1 [.bool true] Try.sizeOf4 rfl rfl rfl rfl rfl (r1543.room (by omega)) ?_)
         intro w hI
         have r1751 := r1543.put eBool_len (by decide) (v1544).toNat true (by omega)
         obtain ⟨cl1752, hcl⟩ : ∃ z, z = putCells cl1542 ((v1544).toNat * 1) (eBool true) := ⟨_, rfl⟩
         rw [← hcl] at r1751
         have hI : Inv [bhgt] w0 w [(some bhgt, blk cl1752 4), (some b1, blk [iv gh, .slice Agc lgc.length cgc] 24), (some b2, blk [.slice Agp lgp.length cgp] 97), (some b3, blk [.slice none 0 0] 97)] := by rw [hcl]; exact hI
         clear hcl
         refine seq_nil (wp_seq (rgn (by kernel_rfl) (seq_c (s_new hI [] 3 (fun b => slv (some b) 0 0) (by kernel_rfl) ?_))))
         intro b1759 w hI
         refine pu (.pointer (some ⟨b2, 0, none⟩)) (by kernel_rfl) (seq_c (s_load1 hI 3 (.slice Agp lgp.length cgp) Try.isAgg49 rfl rfl rfl ?_))
         refine gdE hF (fun h224 hF => ?_)
         refine seq_c (s_appN hI Try.underlying49 (z := iv 0) (k := 1) (bytes := 8) (by kernel_rfl) rfl rfl 0 rfl rfl (Row.zero_ 1 b1759) (flat eInt lgp) rfl (flat_len eInt_len _) (hCgp.inv hI).cells (flat_cell eInt_cell _) (by omega) (by omega) (n2 := lgp.length) (app_len0 rfl) ?_)
         intro g1760 c1761 cl1762 w hI r1763
         have r1763 : Row 1 g1760 lgp.length c1761 cl1762 (flat eInt lgp) := r1763
         refine pu (.agg #[slv g1760 lgp.length c1761]) (by kernel_rfl) (seq_c (s_allocI hI [.slice none 0 0] Try.zeroValue97 rfl ?_))
         intro b1764 w hI
         refine seq_c (s_store hI 0 1 [slv g1760 lgp.length c1761] Try.sizeOf97 rfl rfl rfl rfl rfl (Nat.le_of_ble_eq_true rfl) ?_)
         intro w hI
         refine seq_nil (wp_seq (rgn (by kernel_rfl) (pu (.pointer (some ⟨b1764, 0, none⟩)) (by kernel_rfl) (seq_c (s_load1 hI 0 (slv g1760 lgp.length c1761) Try.isAgg49 rfl rfl rfl ?_)))))
         refine pu (iv v1544) (by kernel_rfl) (pu (iv gi) (by kernel_rfl) ?_)
         obtain ⟨b1765, rfl, he1766⟩ := r1763.at_ eInt_len (by decide) hx1744
         refine seq_c (s_indexR (v1544).toNat Try.underlying49 Try.sizeOf3 rfl rfl (Int.toNat_of_nonneg h221).symm (lt_n hx1744 rfl) ?_)
         have := lt_n hx1744 rfl
         refine seq_c (s_store hI 1 1 [iv gi] Try.sizeOf3 rfl rfl rfl rfl rfl (r1763.room (by omega)) ?_)
         intro w hI
         have r1767 := r1763.put eInt_len (by decide) (v1544).toNat gi (by omega)
         obtain ⟨cl1768, hcl⟩ : ∃ z, z = putCells cl1762 ((v1544).toNat * 1) (eInt gi) := ⟨_, rfl⟩
         rw [← hcl] at r1767
         have hI : Inv [bhgt] w0 w [(some b1764, blk [slv (some b1765) lgp.length c1761] 97), (some b1765, blk cl1768 3), (some bhgt, blk cl1752 4), (some b1, blk [iv gh, .slice Agc lgc.length cgc] 24), (some b2, blk [.slice Agp lgp.length cgp] 97), (some b3, blk [.slice none 0 0] 97)] := by rw [hcl]; exact hI
         clear hcl
         refine seq_nil (wp_seq (wp_seq (rgn (by kernel_rfl) (pu (.pointer (some ⟨b2, 0, none⟩)) (by kernel_rfl) (seq_c (s_load1 hI 4 (.slice Agp lgp.length cgp) Try.isAgg49 rfl rfl rfl ?_))))))
         refine pu (iv v1544) (by kernel_rfl) (seq_c (s_indexA (v1544).toNat Try.underlying49 Try.sizeOf3 rfl hA1747 rfl (Int.toNat_of_nonneg h221).symm (lt_n hx1744 rfl) ?_))
         refine seq_c (s_loadB1 hI (iv x1743) Try.isAgg3 rfl hb1748 hB1750 (he1749 0 _ rfl) ?_)
         refine ifE hF (fun h228 hF => ?_) (fun h228 hF => ?_)
         ·
          refine seq_c (s_lss rfl rfl (fun _ => ?_) (fun h => absurd (a := x1743 < 0) h228 h))
          refine seq_nil (wp_condT rfl (wp_seq (rgn (by kernel_rfl) (seq_c (s_loadK hI 0 1 [slv (some b1765) lgp.length c1761] Try.isAgg97 Try.sizeOf97 rfl rfl rfl rfl ?_)))))
          refine seq_c (s_store hI 5 1 [slv (some b1765) lgp.length c1761] Try.sizeOf97 rfl rfl rfl rfl rfl (Nat.le_of_ble_eq_true rfl) ?_)
          intro w hI
          refine pu (.bool true) (by kernel_rfl) (seq_nil (wp_ret ?_))
          replace hF := Option.some.inj hF; subst hF
          exact ⟨.tuple #[.agg #[slv (some b1765) lgp.length c1761], .bool true], Ret.ct rfl rfl (run_loadK hI 5 1 [slv (some b1765) lgp.length c1761] Try.isAgg97 Try.sizeOf97 rfl rfl rfl) rfl, ⟨some b1765, c1761, cl1768, cl1752, (by first | (simp only [List.length_set, sortI_len] <;> rfl) | rfl), hI.pickL [1, 2] (by decide) rfl, r1767.to rfl (set_len rfl), r1751⟩⟩
         ·
          refine seq_c (s_lss rfl rfl (fun h => absurd (a := x1743 < 0) h h228) (fun _ => ?_))
          refine seq_nil (wp_condF rfl (wp_skip (wp_cutO (fun ρ w => ∃ (cl1804 : List Value) (b1806 : Nat) (u1803 : List Bool), Agree ρ [(2, iv gi), (3, slv (some bhgt) ngt chgt), (4, .pointer (some ⟨b1, 0, none⟩)), (5, .pointer (some ⟨b2, 0, none⟩)), (8, .pointer (some ⟨b3, 0, none⟩)), (10, iv v1544), (12, .pointer (some ⟨b1806, 0, none⟩)), (13, .bool false)] ∧ Inv [bhgt] w0 w [(some bhgt, blk cl1804 4), (some b1, blk [iv gh, .slice Agc lgc.length cgc] 24), (some b2, blk [.slice Agp lgp.length cgp] 97), (some b3, blk [.slice none 0 0] 97), (some b1806, blk [slv (some b1765) (((lgp).set (v1544).toNat gi).length) c1761] 97), (some b1765, blk cl1768 3)] ∧ (Row 1 (some bhgt) (ngt) chgt cl1804 (flat eBool u1803)) ∧ F106j4 (F106l1 gh lgc lgp gi (F106 N) m1) v1544 u1803 = some r) ?_ ?_)))
          ·
           refine bindSE hF (fun y1816 hy1817 hF => ?_) (fun y1818 hy1819 hF => ?_)
           ·
            replace hI := hI.pickL [0, 1, 3, 4, 5, 2] (by decide) rfl
            refine wp_drawn2 hI [0, 1, 2, 3, 4] (by decide) rfl (by kernel_rfl) (by kernel_rfl) ?_
            intro hsub
            refine al_light 0 (.agg #[iv gh, .slice Agc lgc.length cgc]) hsub rfl (by kernel_rfl) (fun w hI => s_loadK hI 2 2 [iv gh, .slice Agc lgc.length cgc] Try.isAgg24 Try.sizeOf24 rfl rfl rfl rfl ⟨rfl, Below.refl _ _⟩) ?_
            refine al_light 1 (.agg #[slv (some b1765) lgp.length c1761]) hsub rfl (by kernel_rfl) (fun w hI => s_loadK hI 0 1 [slv (some b1765) lgp.length c1761] Try.isAgg97 Try.sizeOf97 rfl rfl rfl rfl ⟨rfl, Below.refl _ _⟩) ?_
            refine alp 2 (.pointer (some ⟨b2, 0, none⟩)) hsub rfl (by kernel_rfl) (fun _ => (by kernel_rfl)) ?_
            refine al_light 3 (.slice Agp lgp.length cgp) hsub rfl (by kernel_rfl) (fun w hI => s_load1 hI 3 (.slice Agp lgp.length cgp) Try.isAgg49 rfl rfl rfl ⟨rfl, Below.refl _ _⟩) ?_
            refine alp 4 (iv v1544) hsub rfl (by kernel_rfl) (fun _ => (by kernel_rfl)) ?_
            refine al_light 5 (.pointer (some ⟨b1745, o1746 + (v1544).toNat * 1, none⟩)) hsub rfl (by kernel_rfl) (fun w hI => s_indexA (v1544).toNat Try.underlying49 Try.sizeOf3 rfl hA1747 rfl (Int.toNat_of_nonneg h221).symm (lt_n hx1744 rfl) ⟨rfl, Below.refl _ _⟩) ?_
            refine al_light 6 (iv x1743) hsub rfl (by kernel_rfl) (fun w hI => s_loadB1 hI (iv x1743) Try.isAgg3 rfl hb1748 hB1750 (he1749 0 _ rfl) ⟨rfl, Below.refl _ _⟩) ?_
            refine alp 7 (slv (some bhgt) ngt chgt) hsub rfl (by kernel_rfl) (fun _ => (by kernel_rfl)) ?_
            refine any_heavy [8, 12] (by kernel_rfl) rfl (each2 ?_ ?_)
            ·intro w hI
             refine ol_c rfl (s_call 106 [.agg #[iv gh, .slice Agc lgc.length cgc], .agg #[slv (some b1765) lgp.length c1761], iv x1743, slv (some bhgt) ngt chgt] (by kernel_rfl) (Does.cast (ih _ bhgt gh Agc cgc lgc ((some b1765).map fun b => ⟨b, 0, none⟩) c1761 ((lgp).set (v1544).toNat gi) x1743 ngt chgt cl1752 ((u1541).set (v1544).toNat true) (hI.lend [5] (by decide) rfl rfl) (hI.apartL [5] rfl rfl hCgc) hMgc hKgc (hI.apartRowL [5] rfl rfl (i := 1) (by decide) rfl r1767) (len_le (set_len rfl) r1767.big) (len_le (set_len rfl) r1767.cap) r1751 _ hy1817) (by first | (simp only [List.length_set, sortI_len] <;> rfl) | rfl)) ?_)
             rintro v w ⟨cl1823, hv, hN, r1824⟩
             subst hv
             have hI := hI.backsL [5] [0, 1, 2, 3, 4] (by decide) rfl rfl rfl hN; clear hN
             refine ⟨_, hI, subk (fun _ h => h.pickL [1, 2, 3, 4, 5] (by decide) rfl) ?_⟩
             intro hsub
             refine alp 9 (.tuple #[.agg #[slv (some b1765) (((lgp).set (v1544).toNat gi).length) c1761], .bool false]) hsub rfl (by kernel_rfl) (fun _ => (by kernel_rfl)) ?_
             refine alp 10 (.agg #[slv (some b1765) (((lgp).set (v1544).toNat gi).length) c1761]) hsub rfl (by kernel_rfl) (fun _ => (by kernel_rfl)) ?_
             refine alp 11 (.bool false) hsub rfl (by kernel_rfl) (fun _ => (by kernel_rfl)) ?_
             refine any_heavy [12] (by kernel_rfl) rfl (each1 ?_)
             intro w hI
             refine ol_c rfl (s_allocI hI [.slice none 0 0] Try.zeroValue97 rfl ?_)
             intro b1825 w hI
             refine ⟨_, hI, subk (fun _ h => h.pickL [2, 3, 4, 5, 6] (by decide) rfl) ?_⟩
             intro hsub
             refine any_heavy [13] (by kernel_rfl) rfl (each1 ?_)
             intro w hI
             refine ol_c rfl (s_store hI 0 1 [slv (some b1765) (((lgp).set (v1544).toNat gi).length) c1761] Try.sizeOf97 rfl rfl rfl rfl rfl (Nat.le_of_ble_eq_true rfl) ?_)
             intro w hI
             refine ⟨_, hI, subk (fun _ h => h.pickL [2, 3, 4, 5, 6] (by decide) rfl) ?_⟩
             intro hsub
             refine alp 14 (.bool false) hsub rfl (by kernel_rfl) (fun _ => (by kernel_rfl)) ?_
             refine any_end (by kernel_rfl) (fun w hI => ?_)
             exact .inl ⟨rfl, ⟨cl1823, b1825, y1816, ⟨rfl, rfl, rfl, rfl, rfl, rfl, rfl, rfl, trivial⟩, hI.pickL [1, 4, 5, 6, 0, 3] (by decide) rfl, r1824, hF⟩⟩
            ·intro w hI
             refine ol_c rfl (s_allocI hI [.slice none 0 0] Try.zeroValue97 rfl ?_)
             intro b1826 w hI
             refine ⟨_, hI, subk (fun _ h => h.pickL [1, 2, 3, 4, 5] (by decide) rfl) ?_⟩
             intro hsub
             refine any_heavy [8] (by kernel_rfl) rfl (each1 ?_)
             intro w hI
             refine ol_c rfl (s_call 106 [.agg #[iv gh, .slice Agc lgc.length cgc], .agg #[slv (some b1765) lgp.length c1761], iv x1743, slv (some bhgt) ngt chgt] (by kernel_rfl) (Does.cast (ih _ bhgt gh Agc cgc lgc ((some b1765).map fun b => ⟨b, 0, none⟩) c1761 ((lgp).set (v1544).toNat gi) x1743 ngt chgt cl1752 ((u1541).set (v1544).toNat true) (hI.lend [6] (by decide) rfl rfl) (hI.apartL [6] rfl rfl hCgc) hMgc hKgc (hI.apartRowL [6] rfl rfl (i := 2) (by decide) rfl r1767) (len_le (set_len rfl) r1767.big) (len_le (set_len rfl) r1767.cap) r1751 _ hy1817) (by first | (simp only [List.length_set, sortI_len] <;> rfl) | rfl)) ?_)
             rintro v w ⟨cl1827, hv, hN, r1828⟩
             subst hv
             have hI := hI.backsL [6] [0, 1, 2, 3, 4, 5] (by decide) rfl rfl rfl hN; clear hN
             refine ⟨_, hI, subk (fun _ h => h.pickL [2, 3, 4, 5, 6] (by decide) rfl) ?_⟩
             intro hsub
             refine alp 9 (.tuple #[.agg #[slv (some b1765) (((lgp).set (v1544).toNat gi).length) c1761], .bool false]) hsub rfl (by kernel_rfl) (fun _ => (by kernel_rfl)) ?_
             refine alp 10 (.agg #[slv (some b1765) (((lgp).set (v1544).toNat gi).length) c1761]) hsub rfl (by kernel_rfl) (fun _ => (by kernel_rfl)) ?_
             refine alp 11 (.bool false) hsub rfl (by kernel_rfl) (fun _ => (by kernel_rfl)) ?_
             refine any_heavy [13] (by kernel_rfl) rfl (each1 ?_)
             intro w hI
             refine ol_c rfl (s_store hI 1 1 [slv (some b1765) (((lgp).set (v1544).toNat gi).length) c1761] Try.sizeOf97 rfl rfl rfl rfl rfl (Nat.le_of_ble_eq_true rfl) ?_)
             intro w hI
             refine ⟨_, hI, subk (fun _ h => h.pickL [2, 3, 4, 5, 6] (by decide) rfl) ?_⟩
             intro hsub
             refine alp 14 (.bool false) hsub rfl (by kernel_rfl) (fun _ => (by kernel_rfl)) ?_
             refine any_end (by kernel_rfl) (fun w hI => ?_)
             exact .inl ⟨rfl, ⟨cl1827, b1826, y1816, ⟨rfl, rfl, rfl, rfl, rfl, rfl, rfl, rfl, trivial⟩, hI.pickL [0, 4, 5, 6, 1, 3] (by decide) rfl, r1828, hF⟩⟩
           ·
            replace hI := hI.pickL [0, 1, 3, 4, 5, 2] (by decide) rfl
            refine wp_drawn2 hI [0, 1, 2, 3, 4] (by decide) rfl (by kernel_rfl) (by kernel_rfl) ?_
            intro hsub
            refine al_light 0 (.agg #[iv gh, .slice Agc lgc.length cgc]) hsub rfl (by kernel_rfl) (fun w hI => s_loadK hI 2 2 [iv gh, .slice Agc lgc.length cgc] Try.isAgg24 Try.sizeOf24 rfl rfl rfl rfl ⟨rfl, Below.refl _ _⟩) ?_
            refine al_light 1 (.agg #[slv (some b1765) lgp.length c1761]) hsub rfl (by kernel_rfl) (fun w hI => s_loadK hI 0 1 [slv (some b1765) lgp.length c1761] Try.isAgg97 Try.sizeOf97 rfl rfl rfl rfl ⟨rfl, Below.refl _ _⟩) ?_
            refine alp 2 (.pointer (some ⟨b2, 0, none⟩)) hsub rfl (by kernel_rfl) (fun _ => (by kernel_rfl)) ?_
            refine al_light 3 (.slice Agp lgp.length cgp) hsub rfl (by kernel_rfl) (fun w hI => s_load1 hI 3 (.slice Agp lgp.length cgp) Try.isAgg49 rfl rfl rfl ⟨rfl, Below.refl _ _⟩) ?_
            refine alp 4 (iv v1544) hsub rfl (by kernel_rfl) (fun _ => (by kernel_rfl)) ?_
            refine al_light 5 (.pointer (some ⟨b1745, o1746 + (v1544).toNat * 1, none⟩)) hsub rfl (by kernel_rfl) (fun w hI => s_indexA (v1544).toNat Try.underlying49 Try.sizeOf3 rfl hA1747 rfl (Int.toNat_of_nonneg h221).symm (lt_n hx1744 rfl) ⟨rfl, Below.refl _ _⟩) ?_
            refine al_light 6 (iv x1743) hsub rfl (by kernel_rfl) (fun w hI => s_loadB1 hI (iv x1743) Try.isAgg3 rfl hb1748 hB1750 (he1749 0 _ rfl) ⟨rfl, Below.refl _ _⟩) ?_
            refine alp 7 (slv (some bhgt) ngt chgt) hsub rfl (by kernel_rfl) (fun _ => (by kernel_rfl)) ?_
            refine any_heavy [8, 12] (by kernel_rfl) rfl (each2 ?_ ?_)
            ·intro w hI
             refine ol_c rfl (s_call 106 [.agg #[iv gh, .slice Agc lgc.length cgc], .agg #[slv (some b1765) lgp.length c1761], iv x1743, slv (some bhgt) ngt chgt] (by kernel_rfl) (Does.cast (ih _ bhgt gh Agc cgc lgc ((some b1765).map fun b => ⟨b, 0, none⟩) c1761 ((lgp).set (v1544).toNat gi) x1743 ngt chgt cl1752 ((u1541).set (v1544).toNat true) (hI.lend [5] (by decide) rfl rfl) (hI.apartL [5] rfl rfl hCgc) hMgc hKgc (hI.apartRowL [5] rfl rfl (i := 1) (by decide) rfl r1767) (len_le (set_len rfl) r1767.big) (len_le (set_len rfl) r1767.cap) r1751 _ hy1819) (by first | (simp only [List.length_set, sortI_len] <;> rfl) | rfl)) ?_)
             rintro v w ⟨g1837, c1838, cl1839, cl1836, hv, hN, r1841, r1840⟩
             subst hv
             have hI := hI.backsL [5] [0, 1, 2, 3, 4] (by decide) rfl rfl rfl hN; clear hN
             refine ⟨_, hI, subk (fun _ h => h.pickL [2, 3, 4, 5, 6] (by decide) rfl) ?_⟩
             intro hsub
             refine alp 9 (.tuple #[.agg #[slv g1837 y1818.1.length c1838], .bool true]) hsub rfl (by kernel_rfl) (fun _ => (by kernel_rfl)) ?_
             refine alp 10 (.agg #[slv g1837 y1818.1.length c1838]) hsub rfl (by kernel_rfl) (fun _ => (by kernel_rfl)) ?_
             refine alp 11 (.bool true) hsub rfl (by kernel_rfl) (fun _ => (by kernel_rfl)) ?_
             refine any_heavy [12] (by kernel_rfl) rfl (each1 ?_)
             intro w hI
             refine ol_c rfl (s_allocI hI [.slice none 0 0] Try.zeroValue97 rfl ?_)
             intro b1842 w hI
             refine ⟨_, hI, subk (fun _ h => h.pickL [3, 4, 5, 6, 7] (by decide) rfl) ?_⟩
             intro hsub
             refine any_heavy [13] (by kernel_rfl) rfl (each1 ?_)
             intro w hI
             refine ol_c rfl (s_store hI 0 1 [slv g1837 y1818.1.length c1838] Try.sizeOf97 rfl rfl rfl rfl rfl (Nat.le_of_ble_eq_true rfl) ?_)
             intro w hI
             refine ⟨_, hI, subk (fun _ h => h.pickL [3, 4, 5, 6, 7] (by decide) rfl) ?_⟩
             intro hsub
             refine alp 14 (.bool true) hsub rfl (by kernel_rfl) (fun _ => (by kernel_rfl)) ?_
             refine any_end (by kernel_rfl) (fun w hI => ?_)
             refine .inr ?_
             refine wp_seq (rgn (by kernel_rfl) (pu (.bool true) (by kernel_rfl) (seq_nil (wp_condT rfl (wp_seq (rgn (by kernel_rfl) (seq_c (s_loadK hI 0 1 [slv g1837 y1818.1.length c1838] Try.isAgg97 Try.sizeOf97 rfl rfl rfl rfl ?_))))))))
             refine seq_c (s_store hI 7 1 [slv g1837 y1818.1.length c1838] Try.sizeOf97 rfl rfl rfl rfl rfl (Nat.le_of_ble_eq_true rfl) ?_)
             intro w hI
             refine pu (.bool true) (by kernel_rfl) (seq_nil (wp_ret ?_))
             replace hF := Option.some.inj hF; subst hF
             exact ⟨.tuple #[.agg #[slv g1837 y1818.1.length c1838], .bool true], Ret.ct rfl rfl (run_loadK hI 7 1 [slv g1837 y1818.1.length c1838] Try.isAgg97 Try.sizeOf97 rfl rfl rfl) rfl, ⟨g1837, c1838, cl1839, cl1836, rfl, hI.pickL [1, 2] (by decide) rfl, r1841.to rfl rfl, r1840⟩⟩
            ·intro w hI
             refine ol_c rfl (s_allocI hI [.slice none 0 0] Try.zeroValue97 rfl ?_)
             intro b1843 w hI
             refine ⟨_, hI, subk (fun _ h => h.pickL [1, 2, 3, 4, 5] (by decide) rfl) ?_⟩
             intro hsub
             refine any_heavy [8] (by kernel_rfl) rfl (each1 ?_)
             intro w hI
             refine ol_c rfl (s_call 106 [.agg #[iv gh, .slice Agc lgc.length cgc], .agg #[slv (some b1765) lgp.length c1761], iv x1743, slv (some bhgt) ngt chgt] (by kernel_rfl) (Does.cast (ih _ bhgt gh Agc cgc lgc ((some b1765).map fun b => ⟨b, 0, none⟩) c1761 ((lgp).set (v1544).toNat gi) x1743 ngt chgt cl1752 ((u1541).set (v1544).toNat true) (hI.lend [6] (by decide) rfl rfl) (hI.apartL [6] rfl rfl hCgc) hMgc hKgc (hI.apartRowL [6] rfl rfl (i := 2) (by decide) rfl r1767) (len_le (set_len rfl) r1767.big) (len_le (set_len rfl) r1767.cap) r1751 _ hy1819) (by first | (simp only [List.length_set, sortI_len] <;> rfl) | rfl)) ?_)
             rintro v w ⟨g1845, c1846, cl1847, cl1844, hv, hN, r1849, r1848⟩
             subst hv
             have hI := hI.backsL [6] [0, 1, 2, 3, 4, 5] (by decide) rfl rfl rfl hN; clear hN
             refine ⟨_, hI, subk (fun _ h => h.pickL [3, 4, 5, 6, 7] (by decide) rfl) ?_⟩
             intro hsub
             refine alp 9 (.tuple #[.agg #[slv g1845 y1818.1.length c1846], .bool true]) hsub rfl (by kernel_rfl) (fun _ => (by kernel_rfl)) ?_
             refine alp 10 (.agg #[slv g1845 y1818.1.length c1846]) hsub rfl (by kernel_rfl) (fun _ => (by kernel_rfl)) ?_
             refine alp 11 (.bool true) hsub rfl (by kernel_rfl) (fun _ => (by kernel_rfl)) ?_
             refine any_heavy [13] (by kernel_rfl) rfl (each1 ?_)
             intro w hI
             refine ol_c rfl (s_store hI 2 1 [slv g1845 y1818.1.length c1846] Try.sizeOf97 rfl rfl rfl rfl rfl (Nat.le_of_ble_eq_true rfl) ?_)
             intro w hI
             refine ⟨_, hI, subk (fun _ h => h.pickL [3, 4, 5, 6, 7] (by decide) rfl) ?_⟩
             intro hsub
             refine alp 14 (.bool true) hsub rfl (by kernel_rfl) (fun _ => (by kernel_rfl)) ?_
             refine any_end (by kernel_rfl) (fun w hI => ?_)
             refine .inr ?_
             refine wp_seq (rgn (by kernel_rfl) (pu (.bool true) (by kernel_rfl) (seq_nil (wp_condT rfl (wp_seq (rgn (by kernel_rfl) (seq_c (s_loadK hI 2 1 [slv g1845 y1818.1.length c1846] Try.isAgg97 Try.sizeOf97 rfl rfl rfl rfl ?_))))))))
             refine seq_c (s_store hI 7 1 [slv g1845 y1818.1.length c1846] Try.sizeOf97 rfl rfl rfl rfl rfl (Nat.le_of_ble_eq_true rfl) ?_)
             intro w hI
             refine pu (.bool true) (by kernel_rfl) (seq_nil (wp_ret ?_))
             replace hF := Option.some.inj hF; subst hF
             exact ⟨.tuple #[.agg #[slv g1845 y1818.1.length c1846], .bool true], Ret.ct rfl rfl (run_loadK hI 7 1 [slv g1845 y1818.1.length c1846] Try.isAgg97 Try.sizeOf97 rfl rfl rfl) rfl, ⟨g1845, c1846, cl1847, cl1844, rfl, hI.pickL [0, 1] (by decide) rfl, r1849.to rfl rfl, r1848⟩⟩
          ·intro ρ w hJ
           obtain ⟨cl1804, b1806, u1803, hag, hI, r1805, hF⟩ := hJ
           obtain ⟨ρ, rfl⟩ := hag.form; clear hag
           unfold F106j4 at hF
           refine wp_seq (rgn (by kernel_rfl) (pu (.bool false) (by kernel_rfl) (seq_nil (wp_condF rfl (wp_skip ?_)))))
           exact .inl ⟨rfl, ⟨cl1804, u1803, ⟨rfl, rfl, rfl, rfl, rfl, rfl, trivial⟩, hI.pickL [0, 1, 2, 3] (by decide) rfl, r1805, hF⟩⟩
      ·
       refine seq_c (s_callv hI 94 [.agg #[iv gh, .slice Agc lgc.length cgc], iv gi, iv v1544] (.bool false) (by kernel_rfl) (Does.mono (L94 _ gh Agc cgc lgc gi v1544 (hCgc.inv hI).cells hMgc hKgc _ hy1739) (fun v' w' h => ⟨h.1.trans (congrArg Value.bool (Bool.eq_false_iff.2 h220)), h.2⟩)) ?_)
       intro w hI
       refine pu (.bool true) (by kernel_rfl) (pu (.bool true) (by kernel_rfl) (of_ (by kernel_rfl) (of_ (by kernel_rfl) (of_ (by kernel_rfl) (of_ (by kernel_rfl) (pu (.bool true) (by kernel_rfl) (pu (.bool true) (by kernel_rfl) (of_ (by kernel_rfl) (of_ (by kernel_rfl) ?_)))))))))
       refine of_ (by kernel_rfl) (of_ (by kernel_rfl) (of_ (by kernel_rfl) (of_ (by kernel_rfl) (of_ (by kernel_rfl) (pu (.bool true) (by kernel_rfl) (seq_nil ?_))))))
       exact .inl ⟨rfl, ⟨⟨rfl, rfl, rfl, rfl, rfl, rfl, rfl, trivial⟩, hI.pickL [0, 1, 2, 3] (by decide) rfl, hF⟩⟩
     ·intro ρ w hJ
      obtain ⟨hag, hI, hF⟩ := hJ
      obtain ⟨ρ, rfl⟩ := hag.form; clear hag
      unfold F106j3 at hF
      refine wp_condT rfl (wp_exit ?_)
      exact .inl ⟨rfl, ⟨cl1542, u1541, ⟨rfl, rfl, rfl, rfl, rfl, rfl, trivial⟩, hI.pickL [0, 1, 2, 3] (by decide) rfl, r1543, hF⟩⟩
    ·intro ρ w hJ
     obtain ⟨cl1697, u1696, hag, hI, r1698, hF⟩ := hJ
     obtain ⟨ρ, rfl⟩ := hag.form; clear hag
     unfold F106j2 at hF
     refine rgn (by kernel_rfl) (pu (iv v1544) (by kernel_rfl) (ckE hF (fun h210 hF => ?_)))
     refine seq_c (s_add rfl rfl h210 ?_)
     refine pu (iv (v1544 + 1)) (by kernel_rfl) (seq_nil ?_)
     exact ⟨rfl, m1, Nat.lt_succ_self _, ⟨cl1697, u1696, v1544 + 1, m1, ⟨rfl, rfl, rfl, rfl, rfl, rfl, trivial⟩, hI.pickL [0, 1, 2, 3] (by decide) rfl, r1698, hF, rfl⟩⟩
   ·
    refine seq_c (s_lss rfl rfl (fun h => absurd (a := v1544 < gh) h h191) (fun _ => ?_))
    refine seq_nil (wp_condF rfl (wp_exit ?_))
    refine wp_seq (rgn (by kernel_rfl) (seq_c (s_loadK hI 2 1 [.slice Agp lgp.length cgp] Try.isAgg97 Try.sizeOf97 rfl rfl rfl rfl ?_)))
    refine seq_c (s_store hI 3 1 [.slice Agp lgp.length cgp] Try.sizeOf97 rfl rfl rfl rfl rfl (Nat.le_of_ble_eq_true rfl) ?_)
    intro w hI
    refine pu (.bool false) (by kernel_rfl) (seq_nil (wp_ret ?_))
    replace hF := Option.some.inj hF; subst hF
    exact ⟨.tuple #[.agg #[.slice Agp lgp.length cgp], .bool false], Ret.ct rfl rfl (run_loadK hI 3 1 [.slice Agp lgp.length cgp] Try.isAgg97 Try.sizeOf97 rfl rfl rfl) rfl, ⟨cl1542, rfl, hI.pickL [0] (by decide) rfl, r1543⟩⟩


theorem L81 (w0 : World) (p0_0 : Int) (Ap0_1 : Option Addr) (cp0_1 : Nat) (lp0_1 : List Cm) (Ap1 : Option Addr) (cp1 : Nat) (lp1 : List Int) (hCp0_1 : Cells w0 Ap0_1 (flat eCm lp0_1)) (hMp0_1 : lp0_1.length ≤ 9223372036854775807) (hKp0_1 : lp0_1.length ≤ cp0_1) (hCp1 : Cells w0 Ap1 (flat eInt lp1)) (hMp1 : lp1.length ≤ 9223372036854775807) (hKp1 : lp1.length ≤ cp1) (N : Nat) (r : (List Int × Bool)) (hF : F81 N p0_0 lp0_1 lp1 = some r) : Does Try.prog 81 [.agg #[.int .i64 p0_0, .slice Ap0_1 lp0_1.length cp0_1], .slice Ap1 lp1.length cp1] w0 fun v w => ∃ (z0 : Option Nat) (z1 : Nat) (z2 : List Value), v = .tuple #[.agg #[slv z0 r.1.length z1], .bool r.2] ∧ Inv [] w0 w [(z0, blk z2 3)] ∧ Row 1 z0 r.1.length z1 z2 (flat eInt r.1) := by
 refine calls_of (n := 51) Try.func81 rfl Try.ntmps81 rfl ?_
 have hI := Inv.start w0
 unfold F81 at hF
 refine wp_seq (rgn (by kernel_rfl) (seq_c (s_boxI hI [iv p0_0, .slice Ap0_1 lp0_1.length cp0_1] rfl ?_)))
 intro b10304 w hI
 refine seq_c (s_allocI hI [.slice none 0 0] Try.zeroValue97 rfl ?_)
 intro b10305 w hI
 refine pu (.bool false) (by kernel_rfl) (seq_nil (wp_seq (rgn (by kernel_rfl) (pu (.agg #[.slice none 0 0]) (by kernel_rfl) (seq_c (s_allocI hI [.slice none 0 0] Try.zeroValue97 rfl ?_))))))
 intro b10306 w hI
 refine seq_c (s_store hI 0 1 [.slice none 0 0] Try.sizeOf97 rfl rfl rfl rfl rfl (Nat.le_of_ble_eq_true rfl) ?_)
 intro w hI
 refine seq_nil (wp_cutO (fun ρ w => ∃ (g10350 : Option Nat) (c10351 : Nat) (cl10352 : List Value) (p_10349 : List Int), Agree ρ [(1, .slice Ap1 lp1.length cp1), (2, .pointer (some ⟨b10304, 0, none⟩)), (4, .pointer (some ⟨b10305, 0, none⟩)), (6, .pointer (some ⟨b10306, 0, none⟩))] ∧ Inv [] w0 w [(some b10304, blk [iv p0_0, .slice Ap0_1 lp0_1.length cp0_1] 24), (some b10305, blk [.slice none 0 0] 97), (some b10306, blk [slv g10350 p_10349.length c10351] 97), (g10350, blk cl10352 3)] ∧ (Row 1 g10350 (p_10349.length) c10351 cl10352 (flat eInt p_10349)) ∧ F81j1 p0_0 lp0_1 lp1 N p_10349 = some r) ?_ ?_)
 ·
  refine wp_seq (rgn (by kernel_rfl) (pu (iv 0) (by kernel_rfl) (seq_nil (wp_block ?_))))
  have hI := hI.nilRow 3
  refine wp_loop (fun m ρ w => ∃ (g20592 : Option Nat) (c20593 : Nat) (cl20594 : List Value) (p_20591 : List Int) (h_20596 : Int) (mm : Nat), Agree ρ [(1, .slice Ap1 lp1.length cp1), (2, .pointer (some ⟨b10304, 0, none⟩)), (4, .pointer (some ⟨b10305, 0, none⟩)), (6, .pointer (some ⟨b10306, 0, none⟩)), (7, iv h_20596)] ∧ Inv [] w0 w [(some b10304, blk [iv p0_0, .slice Ap0_1 lp0_1.length cp0_1] 24), (some b10305, blk [.slice none 0 0] 97), (some b10306, blk [slv g20592 p_20591.length c20593] 97), (g20592, blk cl20594 3)] ∧ (Row 1 g20592 (p_20591.length) c20593 cl20594 (flat eInt p_20591)) ∧ F81l6 p0_0 lp0_1 lp1 N mm p_20591 h_20596 = some r ∧ mm = m) (m := N) ⟨none, 0, [], [], 0, N, ⟨rfl, rfl, rfl, rfl, rfl, trivial⟩, hI.pickL [3, 2, 1, 0] (by decide) rfl, (Row.nil_ 1), hF, rfl⟩ ?_
  rintro m ρ w ⟨g20592, c20593, cl20594, p_20591, h_20596, mm, hag, hI, r20595, hF, hm⟩
  subst hm; obtain ⟨ρ, rfl⟩ := hag.form; clear hag
  obtain _ | m6 := mm
  ·cases (show (none : Option (List Int × Bool)) = some r from hF)
  replace hF : F81b6 p0_0 lp0_1 lp1 N (F81l6 p0_0 lp0_1 lp1 N m6) p_20591 h_20596 = some r := hF; unfold F81b6 at hF
  refine wp_seq (wp_seq (rgn (by kernel_rfl) (pu (iv h_20596) (by kernel_rfl) (pu (.pointer (some ⟨b10304, 0, none⟩)) (by kernel_rfl) (seq_c (s_load1 hI 0 (iv p0_0) Try.isAgg3 rfl rfl rfl ?_))))))
  refine ifE hF (fun h661 hF => ?_) (fun h661 hF => ?_)
  ·
   refine seq_c (s_lss rfl rfl (fun _ => ?_) (fun h => absurd (a := h_20596 < p0_0) h661 h))
   refine seq_nil (wp_condT rfl (wp_skip (wp_seq (wp_block ?_))))
   refine rgn (by kernel_rfl) (pu (.pointer (some ⟨b10306, 0, none⟩)) (by kernel_rfl) (seq_c (s_load1 hI 2 (slv g20592 p_20591.length c20593) Try.isAgg49 rfl rfl rfl ?_)))
   refine seq_c (s_new hI [iv (-1)] 3 (fun b => slv (some b) 1 1) (by kernel_rfl) ?_)
   intro b20602 w hI
   refine gdE hF (fun h663 hF => ?_)
   refine seq_c (s_appN hI Try.underlying49 (z := iv 0) (k := 1) (bytes := 8) (by kernel_rfl) rfl rfl 4 rfl rfl r20595 [iv (-1)] rfl rfl (hI.cells 0 (off := 0) rfl (fun j u h => by rw [Nat.zero_add]; exact h)) (by simp [Value.oneCell']) (by omega) (by omega) (n2 := (p_20591 ++ [(-1 : Int)]).length) (app_len rfl rfl) ?_)
   intro g20603 c20604 cl20605 w hI r20606
   have r20606 : Row 1 g20603 ((p_20591 ++ [(-1 : Int)]).length) c20604 cl20605 (flat eInt (p_20591 ++ [(-1 : Int)])) := r20606.snoc _ rfl
   refine pu (.pointer (some ⟨b10306, 0, none⟩)) (by kernel_rfl) (seq_c (s_store hI 3 1 [slv g20603 ((p_20591 ++ [(-1 : Int)]).length) c20604] Try.sizeOf49 rfl rfl rfl rfl rfl (Nat.le_of_ble_eq_true rfl) ?_))
   intro w hI
   refine seq_nil (rgn (by kernel_rfl) (pu (iv h_20596) (by kernel_rfl) (ckE hF (fun h664 hF => ?_))))
   refine seq_c (s_add rfl rfl h664 ?_)
   refine pu (iv (h_20596 + 1)) (by kernel_rfl) (seq_nil ?_)
   exact ⟨rfl, m6, Nat.lt_succ_self _, ⟨g20603, c20604, cl20605, p_20591 ++ [(-1 : Int)], h_20596 + 1, m6, ⟨rfl, rfl, rfl, rfl, rfl, trivial⟩, hI.pickL [1, 2, 3, 4] (by decide) rfl, (r20606.to rfl rfl), hF, rfl⟩⟩
  ·
   refine seq_c (s_lss rfl rfl (fun h => absurd (a := h_20596 < p0_0) h h661) (fun _ => ?_))
   refine seq_nil (wp_condF rfl (wp_exit ?_))
   exact .inl ⟨rfl, ⟨g20592, c20593, cl20594, p_20591, ⟨rfl, rfl, rfl, rfl, trivial⟩, hI.pickL [0, 1, 2, 3] (by decide) rfl, (r20595.to rfl rfl), hF⟩⟩
 ·intro ρ w hJ
  obtain ⟨g10350, c10351, cl10352, p_10349, hag, hI, r10353, hF⟩ := hJ
  obtain ⟨ρ, rfl⟩ := hag.form; clear hag
  unfold F81j1 at hF
  refine wp_seq (wp_seq (rgn (by kernel_rfl) (pu (iv 0) (by kernel_rfl) (seq_nil (wp_block ?_)))))
  refine wp_loop (fun m ρ w => ∃ (g18863 : Option Nat) (c18864 : Nat) (cl18865 : List Value) (p_18862 : List Int) (i_18867 : Int) (mm : Nat), Agree ρ [(1, .slice Ap1 lp1.length cp1), (2, .pointer (some ⟨b10304, 0, none⟩)), (4, .pointer (some ⟨b10305, 0, none⟩)), (6, .pointer (some ⟨b10306, 0, none⟩)), (8, iv i_18867)] ∧ Inv [] w0 w [(some b10304, blk [iv p0_0, .slice Ap0_1 lp0_1.length cp0_1] 24), (some b10305, blk [.slice none 0 0] 97), (some b10306, blk [slv g18863 p_18862.length c18864] 97), (g18863, blk cl18865 3)] ∧ (Row 1 g18863 (p_18862.length) c18864 cl18865 (flat eInt p_18862)) ∧ F81l2 p0_0 lp0_1 lp1 N mm p_18862 i_18867 = some r ∧ mm = m) (m := N) ⟨g10350, c10351, cl10352, p_10349, 0, N, ⟨rfl, rfl, rfl, rfl, rfl, trivial⟩, hI.pickL [0, 1, 2, 3] (by decide) rfl, (r10353.to rfl rfl), hF, rfl⟩ ?_
  rintro m ρ w ⟨g18863, c18864, cl18865, p_18862, i_18867, mm, hag, hI, r18866, hF, hm⟩
  subst hm; obtain ⟨ρ, rfl⟩ := hag.form; clear hag
  obtain _ | m2 := mm
  ·cases (show (none : Option (List Int × Bool)) = some r from hF)
  replace hF : F81b2 p0_0 lp0_1 lp1 N (F81l2 p0_0 lp0_1 lp1 N m2) p_18862 i_18867 = some r := hF; unfold F81b2 at hF
  refine wp_seq (wp_seq (rgn (by kernel_rfl) (pu (iv i_18867) (by kernel_rfl) (pu (.slice Ap1 lp1.length cp1) (by kernel_rfl) (pu (iv ((lp1.length : Nat) : Int)) (by kernel_rfl) (ifE hF (fun h591 hF => ?_) (fun h591 hF => ?_)))))))
  ·
   refine seq_c (s_lss rfl rfl (fun _ => ?_) (fun h => absurd (a := i_18867 < (lp1.length : Int)) h591 h))
   refine seq_nil (wp_condT rfl (wp_skip (wp_cutO (fun ρ w => ∃ (g19715 : Option Nat) (c19716 : Nat) (cl19717 : List Value) (p_19714 : List Int), Agree ρ [(1, .slice Ap1 lp1.length cp1), (2, .pointer (some ⟨b10304, 0, none⟩)), (4, .pointer (some ⟨b10305, 0, none⟩)), (6, .pointer (some ⟨b10306, 0, none⟩)), (8, iv i_18867)] ∧ Inv [] w0 w [(some b10304, blk [iv p0_0, .slice Ap0_1 lp0_1.length cp0_1] 24), (some b10305, blk [.slice none 0 0] 97), (some b10306, blk [slv g19715 p_19714.length c19716] 97), (g19715, blk cl19717 3)] ∧ (Row 1 g19715 (p_19714.length) c19716 cl19717 (flat eInt p_19714)) ∧ F81j3 (F81l2 p0_0 lp0_1 lp1 N m2) i_18867 p_19714 = some r) ?_ ?_)))
   ·
    refine wp_block ?_
    refine wp_seq (rgn (by kernel_rfl) (pu (iv 0) (by kernel_rfl) (seq_nil (wp_block ?_))))
    refine wp_loop (fun m ρ w => ∃ (g20282 : Option Nat) (c20283 : Nat) (cl20284 : List Value) (p_20281 : List Int) (k_20286 : Int) (mm : Nat), Agree ρ [(1, .slice Ap1 lp1.length cp1), (2, .pointer (some ⟨b10304, 0, none⟩)), (4, .pointer (some ⟨b10305, 0, none⟩)), (6, .pointer (some ⟨b10306, 0, none⟩)), (8, iv i_18867), (9, iv k_20286)] ∧ Inv [] w0 w [(some b10304, blk [iv p0_0, .slice Ap0_1 lp0_1.length cp0_1] 24), (some b10305, blk [.slice none 0 0] 97), (some b10306, blk [slv g20282 p_20281.length c20283] 97), (g20282, blk cl20284 3)] ∧ (Row 1 g20282 (p_20281.length) c20283 cl20284 (flat eInt p_20281)) ∧ F81l4 p0_0 lp0_1 lp1 N (F81l2 p0_0 lp0_1 lp1 N m2) i_18867 mm p_20281 k_20286 = some r ∧ mm = m) (m := N) ⟨g18863, c18864, cl18865, p_18862, 0, N, ⟨rfl, rfl, rfl, rfl, rfl, rfl, trivial⟩, hI.pickL [0, 1, 2, 3] (by decide) rfl, (r18866.to rfl rfl), hF, rfl⟩ ?_
    rintro m ρ w ⟨g20282, c20283, cl20284, p_20281, k_20286, mm, hag, hI, r20285, hF, hm⟩
    subst hm; obtain ⟨ρ, rfl⟩ := hag.form; clear hag
    obtain _ | m4 := mm
    ·cases (show (none : Option (List Int × Bool)) = some r from hF)
    replace hF : F81b4 p0_0 lp0_1 lp1 N (F81l2 p0_0 lp0_1 lp1 N m2) i_18867 (F81l4 p0_0 lp0_1 lp1 N (F81l2 p0_0 lp0_1 lp1 N m2) i_18867 m4) p_20281 k_20286 = some r := hF; unfold F81b4 at hF
    refine wp_seq (wp_seq (rgn (by kernel_rfl) (pu (iv k_20286) (by kernel_rfl) (pu (.slice Ap1 lp1.length cp1) (by kernel_rfl) (pu (iv i_18867) (by kernel_rfl) (gdE hF (fun h642 hF => ?_)))))))
    refine bindE hF (fun x20308 hx20309 hF => ?_)
    obtain ⟨b20310, o20311, hA20312, hb20313, he20314⟩ := hCp1.at_ eInt_len (by decide) hx20309
    refine seq_c (s_indexA (i_18867).toNat Try.underlying49 Try.sizeOf3 rfl hA20312 rfl (Int.toNat_of_nonneg h642).symm (lt_n hx20309 rfl) ?_)
    refine seq_c (s_loadB1 hI (iv x20308) Try.isAgg3 rfl hb20313 (by simp) (he20314 0 _ rfl) ?_)
    refine ifE hF (fun h643 hF => ?_) (fun h643 hF => ?_)
    ·
     refine seq_c (s_lss rfl rfl (fun _ => ?_) (fun h => absurd (a := k_20286 < x20308) h643 h))
     refine seq_nil (wp_condT rfl (wp_skip (wp_seq (wp_block ?_))))
     refine wp_cutO (fun ρ w => ∃ (b20500 : Nat) (g20502 : Option Nat) (c20503 : Nat) (cl20504 : List Value) (next_20501 : List Int), Agree ρ [(1, .slice Ap1 lp1.length cp1), (2, .pointer (some ⟨b10304, 0, none⟩)), (4, .pointer (some ⟨b10305, 0, none⟩)), (6, .pointer (some ⟨b10306, 0, none⟩)), (8, iv i_18867), (9, iv k_20286), (10, .pointer (some ⟨b20500, 0, none⟩)), (11, .bool true)] ∧ Inv [] w0 w [(some b10304, blk [iv p0_0, .slice Ap0_1 lp0_1.length cp0_1] 24), (some b10305, blk [.slice none 0 0] 97), (some b10306, blk [slv g20282 p_20281.length c20283] 97), (g20282, blk cl20284 3), (some b20500, blk [slv g20502 next_20501.length c20503] 97), (g20502, blk cl20504 3)] ∧ (Row 1 g20502 (next_20501.length) c20503 cl20504 (flat eInt next_20501)) ∧ F81j5 (F81l4 p0_0 lp0_1 lp1 N (F81l2 p0_0 lp0_1 lp1 N m2) i_18867 m4) k_20286 next_20501 = some r) ?_ ?_
     ·
      refine bindSE hF (fun y20509 hy20510 hF => ?_) (fun y20511 hy20512 hF => ?_)
      ·
       refine wp_drawn2 hI [0, 1, 2, 3] (by decide) rfl (by kernel_rfl) (by kernel_rfl) ?_
       intro hsub
       refine al_light 0 (.agg #[iv p0_0, .slice Ap0_1 lp0_1.length cp0_1]) hsub rfl (by kernel_rfl) (fun w hI => s_loadK hI 0 2 [iv p0_0, .slice Ap0_1 lp0_1.length cp0_1] Try.isAgg24 Try.sizeOf24 rfl rfl rfl rfl ⟨rfl, Below.refl _ _⟩) ?_
       refine al_light 1 (.agg #[slv g20282 p_20281.length c20283]) hsub rfl (by kernel_rfl) (fun w hI => s_loadK hI 2 1 [slv g20282 p_20281.length c20283] Try.isAgg97 Try.sizeOf97 rfl rfl rfl rfl ⟨rfl, Below.refl _ _⟩) ?_
       refine alp 2 (iv i_18867) hsub rfl (by kernel_rfl) (fun _ => (by kernel_rfl)) ?_
       refine any_heavy [3, 8] (by kernel_rfl) rfl (each2 ?_ ?_)
       ·intro w hI
        refine ol_c rfl (s_makeRowN hI (enc := eBool) eBool_len (by decide) (false) Try.underlying114 (z := .bool false) (k := 1) (bytes := 1) (by kernel_rfl) rfl 24 rfl rfl (by omega) (by decide) ?_)
        intro b20516 cl20517 w hI r20518
        refine ⟨_, hI, subk (fun _ h => h.pickL [1, 2, 3, 4] (by decide) rfl) ?_⟩
        intro hsub
        refine any_heavy [4, 8] (by kernel_rfl) rfl (each2 ?_ ?_)
        ·intro w hI
         refine ol_c rfl (s_call 106 [.agg #[iv p0_0, .slice Ap0_1 lp0_1.length cp0_1], .agg #[slv g20282 p_20281.length c20283], iv i_18867, slv (some b20516) ((List.replicate 24 false).length) 24] (by kernel_rfl) (L106 N _ b20516 p0_0 Ap0_1 cp0_1 lp0_1 (g20282.map fun b => ⟨b, 0, none⟩) c20283 p_20281 i_18867 ((List.replicate 24 false).length) 24 cl20517 (List.replicate 24 false) (hI.lend [0] (by decide) rfl rfl) (hI.apartL0 [0] rfl rfl hCp0_1) hMp0_1 hKp0_1 (hI.apartRowL [0] rfl rfl (i := 4) (by decide) rfl r20285) (len_le rfl r20285.big) (len_le rfl r20285.cap) r20518 _ hy20510) ?_)
         rintro v w ⟨cl20519, hv, hN, r20520⟩
         subst hv
         have hI := hI.backsL [0] [1, 2, 3, 4] (by decide) rfl rfl rfl hN; clear hN
         have hq : (List.replicate 24 false).length = y20509.length := r20520.n_eq eBool_len (by decide)
         rw [hq] at r20520; clear hq
         refine ⟨_, hI, subk (fun _ h => h.pickL [1, 2, 3, 4] (by decide) rfl) ?_⟩
         intro hsub
         refine alp 5 (.tuple #[.agg #[slv g20282 p_20281.length c20283], .bool false]) hsub rfl (by kernel_rfl) (fun _ => (by kernel_rfl)) ?_
         refine alp 6 (.agg #[slv g20282 p_20281.length c20283]) hsub rfl (by kernel_rfl) (fun _ => (by kernel_rfl)) ?_
         refine alp 7 (.bool false) hsub rfl (by kernel_rfl) (fun _ => (by kernel_rfl)) ?_
         refine any_heavy [8] (by kernel_rfl) rfl (each1 ?_)
         intro w hI
         refine ol_c rfl (s_allocI hI [.slice none 0 0] Try.zeroValue97 rfl ?_)
         intro b20521 w hI
         refine ⟨_, hI, subk (fun _ h => h.pickL [2, 3, 4, 5] (by decide) rfl) ?_⟩
         intro hsub
         refine any_heavy [9] (by kernel_rfl) rfl (each1 ?_)
         intro w hI
         refine ol_c rfl (s_store hI 0 1 [slv g20282 p_20281.length c20283] Try.sizeOf97 rfl rfl rfl rfl rfl (Nat.le_of_ble_eq_true rfl) ?_)
         intro w hI
         refine ⟨_, hI, subk (fun _ h => h.pickL [2, 3, 4, 5] (by decide) rfl) ?_⟩
         intro hsub
         refine alp 10 (.bool false) hsub rfl (by kernel_rfl) (fun _ => (by kernel_rfl)) ?_
         refine any_end (by kernel_rfl) (fun w hI => ?_)
         refine .inr ?_
         refine wp_seq (wp_seq (rgn (by kernel_rfl) (pu (.bool false) (by kernel_rfl) (pu (.bool true) (by kernel_rfl) (seq_nil (wp_condT rfl (wp_seq (rgn (by kernel_rfl) (seq_c (s_loadK hI 4 1 [slv g20282 p_20281.length c20283] Try.isAgg97 Try.sizeOf97 rfl rfl rfl rfl ?_))))))))))
         refine seq_c (s_store hI 3 1 [slv g20282 p_20281.length c20283] Try.sizeOf97 rfl rfl rfl rfl rfl (Nat.le_of_ble_eq_true rfl) ?_)
         intro w hI
         refine pu (.bool false) (by kernel_rfl) (seq_nil (wp_ret ?_))
         replace hF := Option.some.inj hF; subst hF
         exact ⟨.tuple #[.agg #[slv g20282 p_20281.length c20283], .bool false], Ret.ct rfl rfl (run_loadK hI 3 1 [slv g20282 p_20281.length c20283] Try.isAgg97 Try.sizeOf97 rfl rfl rfl) rfl, ⟨g20282, c20283, cl20284, rfl, hI.pickL [5] (by decide) rfl, r20285.to rfl rfl⟩⟩
        ·intro w hI
         refine ol_c rfl (s_allocI hI [.slice none 0 0] Try.zeroValue97 rfl ?_)
         intro b20522 w hI
         refine ⟨_, hI, subk (fun _ h => h.pickL [2, 3, 4, 5] (by decide) rfl) ?_⟩
         intro hsub
         refine any_heavy [4] (by kernel_rfl) rfl (each1 ?_)
         intro w hI
         refine ol_c rfl (s_call 106 [.agg #[iv p0_0, .slice Ap0_1 lp0_1.length cp0_1], .agg #[slv g20282 p_20281.length c20283], iv i_18867, slv (some b20516) ((List.replicate 24 false).length) 24] (by kernel_rfl) (L106 N _ b20516 p0_0 Ap0_1 cp0_1 lp0_1 (g20282.map fun b => ⟨b, 0, none⟩) c20283 p_20281 i_18867 ((List.replicate 24 false).length) 24 cl20517 (List.replicate 24 false) (hI.lend [1] (by decide) rfl rfl) (hI.apartL0 [1] rfl rfl hCp0_1) hMp0_1 hKp0_1 (hI.apartRowL [1] rfl rfl (i := 5) (by decide) rfl r20285) (len_le rfl r20285.big) (len_le rfl r20285.cap) r20518 _ hy20510) ?_)
         rintro v w ⟨cl20523, hv, hN, r20524⟩
         subst hv
         have hI := hI.backsL [1] [0, 2, 3, 4, 5] (by decide) rfl rfl rfl hN; clear hN
         have hq : (List.replicate 24 false).length = y20509.length := r20524.n_eq eBool_len (by decide)
         rw [hq] at r20524; clear hq
         refine ⟨_, hI, subk (fun _ h => h.pickL [2, 3, 4, 5] (by decide) rfl) ?_⟩
         intro hsub
         refine alp 5 (.tuple #[.agg #[slv g20282 p_20281.length c20283], .bool false]) hsub rfl (by kernel_rfl) (fun _ => (by kernel_rfl)) ?_
         refine alp 6 (.agg #[slv g20282 p_20281.length c20283]) hsub rfl (by kernel_rfl) (fun _ => (by kernel_rfl)) ?_
         refine alp 7 (.bool false) hsub rfl (by kernel_rfl) (fun _ => (by kernel_rfl)) ?_
         refine any_heavy [9] (by kernel_rfl) rfl (each1 ?_)
         intro w hI
         refine ol_c rfl (s_store hI 1 1 [slv g20282 p_20281.length c20283] Try.sizeOf97 rfl rfl rfl rfl rfl (Nat.le_of_ble_eq_true rfl) ?_)
         intro w hI
         refine ⟨_, hI, subk (fun _ h => h.pickL [2, 3, 4, 5] (by decide) rfl) ?_⟩
         intro hsub
         refine alp 10 (.bool false) hsub rfl (by kernel_rfl) (fun _ => (by kernel_rfl)) ?_
         refine any_end (by kernel_rfl) (fun w hI => ?_)
         refine .inr ?_
         refine wp_seq (wp_seq (rgn (by kernel_rfl) (pu (.bool false) (by kernel_rfl) (pu (.bool true) (by kernel_rfl) (seq_nil (wp_condT rfl (wp_seq (rgn (by kernel_rfl) (seq_c (s_loadK hI 4 1 [slv g20282 p_20281.length c20283] Try.isAgg97 Try.sizeOf97 rfl rfl rfl rfl ?_))))))))))
         refine seq_c (s_store hI 3 1 [slv g20282 p_20281.length c20283] Try.sizeOf97 rfl rfl rfl rfl rfl (Nat.le_of_ble_eq_true rfl) ?_)
         intro w hI
         refine pu (.bool false) (by kernel_rfl) (seq_nil (wp_ret ?_))
         replace hF := Option.some.inj hF; subst hF
         exact ⟨.tuple #[.agg #[slv g20282 p_20281.length c20283], .bool false], Ret.ct rfl rfl (run_loadK hI 3 1 [slv g20282 p_20281.length c20283] Try.isAgg97 Try.sizeOf97 rfl rfl rfl) rfl, ⟨g20282, c20283, cl20284, rfl, hI.pickL [5] (by decide) rfl, r20285.to rfl rfl⟩⟩
       ·intro w hI
        refine ol_c rfl (s_allocI hI [.slice none 0 0] Try.zeroValue97 rfl ?_)
        intro b20525 w hI
        refine ⟨_, hI, subk (fun _ h => h.pickL [1, 2, 3, 4] (by decide) rfl) ?_⟩
        intro hsub
        refine any_heavy [3] (by kernel_rfl) rfl (each1 ?_)
        intro w hI
        refine ol_c rfl (s_makeRowN hI (enc := eBool) eBool_len (by decide) (false) Try.underlying114 (z := .bool false) (k := 1) (bytes := 1) (by kernel_rfl) rfl 24 rfl rfl (by omega) (by decide) ?_)
        intro b20526 cl20527 w hI r20528
        refine ⟨_, hI, subk (fun _ h => h.pickL [2, 3, 4, 5] (by decide) rfl) ?_⟩
        intro hsub
        refine any_heavy [4] (by kernel_rfl) rfl (each1 ?_)
        intro w hI
        refine ol_c rfl (s_call 106 [.agg #[iv p0_0, .slice Ap0_1 lp0_1.length cp0_1], .agg #[slv g20282 p_20281.length c20283], iv i_18867, slv (some b20526) ((List.replicate 24 false).length) 24] (by kernel_rfl) (L106 N _ b20526 p0_0 Ap0_1 cp0_1 lp0_1 (g20282.map fun b => ⟨b, 0, none⟩) c20283 p_20281 i_18867 ((List.replicate 24 false).length) 24 cl20527 (List.replicate 24 false) (hI.lend [0] (by decide) rfl rfl) (hI.apartL0 [0] rfl rfl hCp0_1) hMp0_1 hKp0_1 (hI.apartRowL [0] rfl rfl (i := 5) (by decide) rfl r20285) (len_le rfl r20285.big) (len_le rfl r20285.cap) r20528 _ hy20510) ?_)
        rintro v w ⟨cl20529, hv, hN, r20530⟩
        subst hv
        have hI := hI.backsL [0] [1, 2, 3, 4, 5] (by decide) rfl rfl rfl hN; clear hN
        have hq : (List.replicate 24 false).length = y20509.length := r20530.n_eq eBool_len (by decide)
        rw [hq] at r20530; clear hq
        refine ⟨_, hI, subk (fun _ h => h.pickL [2, 3, 4, 5] (by decide) rfl) ?_⟩
        intro hsub
        refine alp 5 (.tuple #[.agg #[slv g20282 p_20281.length c20283], .bool false]) hsub rfl (by kernel_rfl) (fun _ => (by kernel_rfl)) ?_
        refine alp 6 (.agg #[slv g20282 p_20281.length c20283]) hsub rfl (by kernel_rfl) (fun _ => (by kernel_rfl)) ?_
        refine alp 7 (.bool false) hsub rfl (by kernel_rfl) (fun _ => (by kernel_rfl)) ?_
        refine any_heavy [9] (by kernel_rfl) rfl (each1 ?_)
        intro w hI
        refine ol_c rfl (s_store hI 1 1 [slv g20282 p_20281.length c20283] Try.sizeOf97 rfl rfl rfl rfl rfl (Nat.le_of_ble_eq_true rfl) ?_)
        intro w hI
        refine ⟨_, hI, subk (fun _ h => h.pickL [2, 3, 4, 5] (by decide) rfl) ?_⟩
        intro hsub
        refine alp 10 (.bool false) hsub rfl (by kernel_rfl) (fun _ => (by kernel_rfl)) ?_
        refine any_end (by kernel_rfl) (fun w hI => ?_)
        refine .inr ?_
        refine wp_seq (wp_seq (rgn (by kernel_rfl) (pu (.bool false) (by kernel_rfl) (pu (.bool true) (by kernel_rfl) (seq_nil (wp_condT rfl (wp_seq (rgn (by kernel_rfl) (seq_c (s_loadK hI 4 1 [slv g20282 p_20281.length c20283] Try.isAgg97 Try.sizeOf97 rfl rfl rfl rfl ?_))))))))))
        refine seq_c (s_store hI 3 1 [slv g20282 p_20281.length c20283] Try.sizeOf97 rfl rfl rfl rfl rfl (Nat.le_of_ble_eq_true rfl) ?_)
        intro w hI
        refine pu (.bool false) (by kernel_rfl) (seq_nil (wp_ret ?_))
        replace hF := Option.some.inj hF; subst hF
        exact ⟨.tuple #[.agg #[slv g20282 p_20281.length c20283], .bool false], Ret.ct rfl rfl (run_loadK hI 3 1 [slv g20282 p_20281.length c20283] Try.isAgg97 Try.sizeOf97 rfl rfl rfl) rfl, ⟨g20282, c20283, cl20284, rfl, hI.pickL [5] (by decide) rfl, r20285.to rfl rfl⟩⟩
      ·
       refine wp_drawn2 hI [0, 1, 2, 3] (by decide) rfl (by kernel_rfl) (by kernel_rfl) ?_
       intro hsub
       refine al_light 0 (.agg #[iv p0_0, .slice Ap0_1 lp0_1.length cp0_1]) hsub rfl (by kernel_rfl) (fun w hI => s_loadK hI 0 2 [iv p0_0, .slice Ap0_1 lp0_1.length cp0_1] Try.isAgg24 Try.sizeOf24 rfl rfl rfl rfl ⟨rfl, Below.refl _ _⟩) ?_
       refine al_light 1 (.agg #[slv g20282 p_20281.length c20283]) hsub rfl (by kernel_rfl) (fun w hI => s_loadK hI 2 1 [slv g20282 p_20281.length c20283] Try.isAgg97 Try.sizeOf97 rfl rfl rfl rfl ⟨rfl, Below.refl _ _⟩) ?_
       refine alp 2 (iv i_18867) hsub rfl (by kernel_rfl) (fun _ => (by kernel_rfl)) ?_
       refine any_heavy [3, 8] (by kernel_rfl) rfl (each2 ?_ ?_)
       ·intro w hI
        refine ol_c rfl (s_makeRowN hI (enc := eBool) eBool_len (by decide) (false) Try.underlying114 (z := .bool false) (k := 1) (bytes := 1) (by kernel_rfl) rfl 24 rfl rfl (by omega) (by decide) ?_)
        intro b20538 cl20539 w hI r20540
        refine ⟨_, hI, subk (fun _ h => h.pickL [1, 2, 3, 4] (by decide) rfl) ?_⟩
        intro hsub
        refine any_heavy [4, 8] (by kernel_rfl) rfl (each2 ?_ ?_)
        ·intro w hI
         refine ol_c rfl (s_call 106 [.agg #[iv p0_0, .slice Ap0_1 lp0_1.length cp0_1], .agg #[slv g20282 p_20281.length c20283], iv i_18867, slv (some b20538) ((List.replicate 24 false).length) 24] (by kernel_rfl) (L106 N _ b20538 p0_0 Ap0_1 cp0_1 lp0_1 (g20282.map fun b => ⟨b, 0, none⟩) c20283 p_20281 i_18867 ((List.replicate 24 false).length) 24 cl20539 (List.replicate 24 false) (hI.lend [0] (by decide) rfl rfl) (hI.apartL0 [0] rfl rfl hCp0_1) hMp0_1 hKp0_1 (hI.apartRowL [0] rfl rfl (i := 4) (by decide) rfl r20285) (len_le rfl r20285.big) (len_le rfl r20285.cap) r20540 _ hy20512) ?_)
         rintro v w ⟨g20542, c20543, cl20544, cl20541, hv, hN, r20546, r20545⟩
         subst hv
         have hI := hI.backsL [0] [1, 2, 3, 4] (by decide) rfl rfl rfl hN; clear hN
         have hq : (List.replicate 24 false).length = y20511.2.length := r20545.n_eq eBool_len (by decide)
         rw [hq] at r20545; clear hq
         refine ⟨_, hI, subk (fun _ h => h.pickL [2, 3, 4, 5] (by decide) rfl) ?_⟩
         intro hsub
         refine alp 5 (.tuple #[.agg #[slv g20542 y20511.1.length c20543], .bool true]) hsub rfl (by kernel_rfl) (fun _ => (by kernel_rfl)) ?_
         refine alp 6 (.agg #[slv g20542 y20511.1.length c20543]) hsub rfl (by kernel_rfl) (fun _ => (by kernel_rfl)) ?_
         refine alp 7 (.bool true) hsub rfl (by kernel_rfl) (fun _ => (by kernel_rfl)) ?_
         refine any_heavy [8] (by kernel_rfl) rfl (each1 ?_)
         intro w hI
         refine ol_c rfl (s_allocI hI [.slice none 0 0] Try.zeroValue97 rfl ?_)
         intro b20547 w hI
         refine ⟨_, hI, subk (fun _ h => h.pickL [3, 4, 5, 6] (by decide) rfl) ?_⟩
         intro hsub
         refine any_heavy [9] (by kernel_rfl) rfl (each1 ?_)
         intro w hI
         refine ol_c rfl (s_store hI 0 1 [slv g20542 y20511.1.length c20543] Try.sizeOf97 rfl rfl rfl rfl rfl (Nat.le_of_ble_eq_true rfl) ?_)
         intro w hI
         refine ⟨_, hI, subk (fun _ h => h.pickL [3, 4, 5, 6] (by decide) rfl) ?_⟩
         intro hsub
         refine alp 10 (.bool true) hsub rfl (by kernel_rfl) (fun _ => (by kernel_rfl)) ?_
         refine any_end (by kernel_rfl) (fun w hI => ?_)
         exact .inl ⟨rfl, ⟨b20547, g20542, c20543, cl20544, y20511.1, ⟨rfl, rfl, rfl, rfl, rfl, rfl, rfl, rfl, trivial⟩, hI.pickL [3, 4, 5, 6, 0, 1] (by decide) rfl, (r20546.to rfl rfl), hF⟩⟩
        ·intro w hI
         refine ol_c rfl (s_allocI hI [.slice none 0 0] Try.zeroValue97 rfl ?_)
         intro b20548 w hI
         refine ⟨_, hI, subk (fun _ h => h.pickL [2, 3, 4, 5] (by decide) rfl) ?_⟩
         intro hsub
         refine any_heavy [4] (by kernel_rfl) rfl (each1 ?_)
         intro w hI
         refine ol_c rfl (s_call 106 [.agg #[iv p0_0, .slice Ap0_1 lp0_1.length cp0_1], .agg #[slv g20282 p_20281.length c20283], iv i_18867, slv (some b20538) ((List.replicate 24 false).length) 24] (by kernel_rfl) (L106 N _ b20538 p0_0 Ap0_1 cp0_1 lp0_1 (g20282.map fun b => ⟨b, 0, none⟩) c20283 p_20281 i_18867 ((List.replicate 24 false).length) 24 cl20539 (List.replicate 24 false) (hI.lend [1] (by decide) rfl rfl) (hI.apartL0 [1] rfl rfl hCp0_1) hMp0_1 hKp0_1 (hI.apartRowL [1] rfl rfl (i := 5) (by decide) rfl r20285) (len_le rfl r20285.big) (len_le rfl r20285.cap) r20540 _ hy20512) ?_)
         rintro v w ⟨g20550, c20551, cl20552, cl20549, hv, hN, r20554, r20553⟩
         subst hv
         have hI := hI.backsL [1] [0, 2, 3, 4, 5] (by decide) rfl rfl rfl hN; clear hN
         have hq : (List.replicate 24 false).length = y20511.2.length := r20553.n_eq eBool_len (by decide)
         rw [hq] at r20553; clear hq
         refine ⟨_, hI, subk (fun _ h => h.pickL [3, 4, 5, 6] (by decide) rfl) ?_⟩
         intro hsub
         refine alp 5 (.tuple #[.agg #[slv g20550 y20511.1.length c20551], .bool true]) hsub rfl (by kernel_rfl) (fun _ => (by kernel_rfl)) ?_
         refine alp 6 (.agg #[slv g20550 y20511.1.length c20551]) hsub rfl (by kernel_rfl) (fun _ => (by kernel_rfl)) ?_
         refine alp 7 (.bool true) hsub rfl (by kernel_rfl) (fun _ => (by kernel_rfl)) ?_
         refine any_heavy [9] (by kernel_rfl) rfl (each1 ?_)
         intro w hI
         refine ol_c rfl (s_store hI 2 1 [slv g20550 y20511.1.length c20551] Try.sizeOf97 rfl rfl rfl rfl rfl (Nat.le_of_ble_eq_true rfl) ?_)
         intro w hI
         refine ⟨_, hI, subk (fun _ h => h.pickL [3, 4, 5, 6] (by decide) rfl) ?_⟩
         intro hsub
         refine alp 10 (.bool true) hsub rfl (by kernel_rfl) (fun _ => (by kernel_rfl)) ?_
         refine any_end (by kernel_rfl) (fun w hI => ?_)
         exact .inl ⟨rfl, ⟨b20548, g20550, c20551, cl20552, y20511.1, ⟨rfl, rfl, rfl, rfl, rfl, rfl, rfl, rfl, trivial⟩, hI.pickL [3, 4, 5, 6, 2, 0] (by decide) rfl, (r20554.to rfl rfl), hF⟩⟩
       ·intro w hI
        refine ol_c rfl (s_allocI hI [.slice none 0 0] Try.zeroValue97 rfl ?_)
        intro b20555 w hI
        refine ⟨_, hI, subk (fun _ h => h.pickL [1, 2, 3, 4] (by decide) rfl) ?_⟩
        intro hsub
        refine any_heavy [3] (by kernel_rfl) rfl (each1 ?_)
        intro w hI
        refine ol_c rfl (s_makeRowN hI (enc := eBool) eBool_len (by decide) (false) Try.underlying114 (z := .bool false) (k := 1) (bytes := 1) (by kernel_rfl) rfl 24 rfl rfl (by omega) (by decide) ?_)
        intro b20556 cl20557 w hI r20558
        refine ⟨_, hI, subk (fun _ h => h.pickL [2, 3, 4, 5] (by decide) rfl) ?_⟩
        intro hsub
        refine any_heavy [4] (by kernel_rfl) rfl (each1 ?_)
        intro w hI
        refine ol_c rfl (s_call 106 [.agg #[iv p0_0, .slice Ap0_1 lp0_1.length cp0_1], .agg #[slv g20282 p_20281.length c20283], iv i_18867, slv (some b20556) ((List.replicate 24 false).length) 24] (by kernel_rfl) (L106 N _ b20556 p0_0 Ap0_1 cp0_1 lp0_1 (g20282.map fun b => ⟨b, 0, none⟩) c20283 p_20281 i_18867 ((List.replicate 24 false).length) 24 cl20557 (List.replicate 24 false) (hI.lend [0] (by decide) rfl rfl) (hI.apartL0 [0] rfl rfl hCp0_1) hMp0_1 hKp0_1 (hI.apartRowL [0] rfl rfl (i := 5) (by decide) rfl r20285) (len_le rfl r20285.big) (len_le rfl r20285.cap) r20558 _ hy20512) ?_)
        rintro v w ⟨g20560, c20561, cl20562, cl20559, hv, hN, r20564, r20563⟩
        subst hv
        have hI := hI.backsL [0] [1, 2, 3, 4, 5] (by decide) rfl rfl rfl hN; clear hN
        have hq : (List.replicate 24 false).length = y20511.2.length := r20563.n_eq eBool_len (by decide)
        rw [hq] at r20563; clear hq
        refine ⟨_, hI, subk (fun _ h => h.pickL [3, 4, 5, 6] (by decide) rfl) ?_⟩
        intro hsub
        refine alp 5 (.tuple #[.agg #[slv g20560 y20511.1.length c20561], .bool true]) hsub rfl (by kernel_rfl) (fun _ => (by kernel_rfl)) ?_
        refine alp 6 (.agg #[slv g20560 y20511.1.length c20561]) hsub rfl (by kernel_rfl) (fun _ => (by kernel_rfl)) ?_
        refine alp 7 (.bool true) hsub rfl (by kernel_rfl) (fun _ => (by kernel_rfl)) ?_
        refine any_heavy [9] (by kernel_rfl) rfl (each1 ?_)
        intro w hI
        refine ol_c rfl (s_store hI 2 1 [slv g20560 y20511.1.length c20561] Try.sizeOf97 rfl rfl rfl rfl rfl (Nat.le_of_ble_eq_true rfl) ?_)
        intro w hI
        refine ⟨_, hI, subk (fun _ h => h.pickL [3, 4, 5, 6] (by decide) rfl) ?_⟩
        intro hsub
        refine alp 10 (.bool true) hsub rfl (by kernel_rfl) (fun _ => (by kernel_rfl)) ?_
        refine any_end (by kernel_rfl) (fun w hI => ?_)
        exact .inl ⟨rfl, ⟨b20555, g20560, c20561, cl20562, y20511.1, ⟨rfl, rfl, rfl, rfl, rfl, rfl, rfl, rfl, trivial⟩, hI.pickL [3, 4, 5, 6, 2, 0] (by decide) rfl, (r20564.to rfl rfl), hF⟩⟩
     ·intro ρ w hJ
      obtain ⟨b20500, g20502, c20503, cl20504, next_20501, hag, hI, r20505, hF⟩ := hJ
      obtain ⟨ρ, rfl⟩ := hag.form; clear hag
      unfold F81j5 at hF
      refine wp_seq (wp_seq (rgn (by kernel_rfl) (pu (.bool true) (by kernel_rfl) (pu (.bool false) (by kernel_rfl) (seq_nil (wp_condF rfl (wp_skip (rgn (by kernel_rfl) (seq_c (s_loadK hI 4 1 [slv g20502 next_20501.length c20503] Try.isAgg97 Try.sizeOf97 rfl rfl rfl rfl ?_))))))))))
      refine seq_c (s_store hI 2 1 [slv g20502 next_20501.length c20503] Try.sizeOf97 rfl rfl rfl rfl rfl (Nat.le_of_ble_eq_true rfl) ?_)
      intro w hI
      refine seq_nil (rgn (by kernel_rfl) (pu (iv k_20286) (by kernel_rfl) (ckE hF (fun h644 hF => ?_))))
      refine seq_c (s_add rfl rfl h644 ?_)
      refine pu (iv (k_20286 + 1)) (by kernel_rfl) (seq_nil ?_)
      exact ⟨rfl, m4, Nat.lt_succ_self _, ⟨g20502, c20503, cl20504, next_20501, k_20286 + 1, m4, ⟨rfl, rfl, rfl, rfl, rfl, rfl, trivial⟩, hI.pickL [0, 1, 2, 5] (by decide) rfl, (r20505.to rfl rfl), hF, rfl⟩⟩
    ·
     refine seq_c (s_lss rfl rfl (fun h => absurd (a := k_20286 < x20308) h h643) (fun _ => ?_))
     refine seq_nil (wp_condF rfl (wp_exit ?_))
     exact .inl ⟨rfl, ⟨g20282, c20283, cl20284, p_20281, ⟨rfl, rfl, rfl, rfl, rfl, trivial⟩, hI.pickL [0, 1, 2, 3] (by decide) rfl, (r20285.to rfl rfl), hF⟩⟩
   ·intro ρ w hJ
    obtain ⟨g19715, c19716, cl19717, p_19714, hag, hI, r19718, hF⟩ := hJ
    obtain ⟨ρ, rfl⟩ := hag.form; clear hag
    unfold F81j3 at hF
    refine rgn (by kernel_rfl) (pu (iv i_18867) (by kernel_rfl) (ckE hF (fun h618 hF => ?_)))
    refine seq_c (s_add rfl rfl h618 ?_)
    refine pu (iv (i_18867 + 1)) (by kernel_rfl) (seq_nil ?_)
    exact ⟨rfl, m2, Nat.lt_succ_self _, ⟨g19715, c19716, cl19717, p_19714, i_18867 + 1, m2, ⟨rfl, rfl, rfl, rfl, rfl, trivial⟩, hI.pickL [0, 1, 2, 3] (by decide) rfl, (r19718.to rfl rfl), hF, rfl⟩⟩
  ·
   refine seq_c (s_lss rfl rfl (fun h => absurd (a := i_18867 < (lp1.length : Int)) h h591) (fun _ => ?_))
   refine seq_nil (wp_condF rfl (wp_exit ?_))
   refine wp_seq (rgn (by kernel_rfl) (seq_c (s_loadK hI 2 1 [slv g18863 p_18862.length c18864] Try.isAgg97 Try.sizeOf97 rfl rfl rfl rfl ?_)))
   refine seq_c (s_store hI 1 1 [slv g18863 p_18862.length c18864] Try.sizeOf97 rfl rfl rfl rfl rfl (Nat.le_of_ble_eq_true rfl) ?_)
   intro w hI
   refine pu (.bool true) (by kernel_rfl) (seq_nil (wp_ret ?_))
   replace hF := Option.some.inj hF; subst hF
   exact ⟨.tuple #[.agg #[slv g18863 p_18862.length c18864], .bool true], Ret.ct rfl rfl (run_loadK hI 1 1 [slv g18863 p_18862.length c18864] Try.isAgg97 Try.sizeOf97 rfl rfl rfl) rfl, ⟨g18863, c18864, cl18865, rfl, hI.pickL [3] (by decide) rfl, r18866.to rfl rfl⟩⟩


theorem L37 (w0 : World) (p0_0 : Int) (Ap0_1 : Option Addr) (cp0_1 : Nat) (lp0_1 : List Cm) (hCp0_1 : Cells w0 Ap0_1 (flat eCm lp0_1)) (hMp0_1 : lp0_1.length ≤ 9223372036854775807) (hKp0_1 : lp0_1.length ≤ cp0_1) (N : Nat) (r : (Int × Int)) (hF : F37 N p0_0 lp0_1 = some r) : Does Try.prog 37 [.agg #[.int .i64 p0_0, .slice Ap0_1 lp0_1.length cp0_1]] w0 fun v w => v = .tuple #[.int .i64 r.1, .int .i64 r.2] ∧ Below w0.heap.size w0 w := by
 refine calls_of (n := 26) Try.func37 rfl Try.ntmps37 rfl ?_
 have hI := Inv.start w0
 unfold F37 at hF
 refine wp_seq (rgn (by kernel_rfl) (seq_c (s_boxI hI [iv p0_0, .slice Ap0_1 lp0_1.length cp0_1] rfl ?_)))
 intro b901 w hI
 refine pu (iv 0) (by kernel_rfl) (pu (iv 0) (by kernel_rfl) (seq_nil (wp_seq (wp_seq (rgn (by kernel_rfl) (seq_c (s_loadK hI 0 2 [iv p0_0, .slice Ap0_1 lp0_1.length cp0_1] Try.isAgg24 Try.sizeOf24 rfl rfl rfl rfl ?_)))))))
 refine bindE hF (fun y908 hy909 hF => ?_)
 refine seq_c (s_callv hI 24 [.agg #[iv p0_0, .slice Ap0_1 lp0_1.length cp0_1]] (iv y908) (by kernel_rfl) (L24 _ p0_0 Ap0_1 cp0_1 lp0_1 (hCp0_1.inv0 hI) hMp0_1 hKp0_1 N _ hy909) ?_)
 intro w hI
 refine ifE hF (fun h28 hF => ?_) (fun h28 hF => ?_)
 ·
  refine seq_c (s_neq rfl rfl (fun h => absurd (a := y908 = 0) h28 h) (fun _ => ?_))
  refine seq_nil (wp_condF rfl (wp_skip (wp_seq (rgn (by kernel_rfl) (pu (iv 0) (by kernel_rfl) (seq_nil (wp_seq (wp_seq (rgn (by kernel_rfl) ?_)))))))))
  refine pu (iv 1) (by kernel_rfl) (seq_nil (wp_block ?_))
  refine wp_loop (fun m ρ w => ∃ (best_1652 : Int) (k_1653 : Int) (mm : Nat), Agree ρ [(1, .pointer (some ⟨b901, 0, none⟩)), (4, iv best_1652), (5, iv k_1653)] ∧ Inv [] w0 w [(some b901, blk [iv p0_0, .slice Ap0_1 lp0_1.length cp0_1] 24)] ∧ F37l1 p0_0 lp0_1 N mm best_1652 k_1653 = some r ∧ mm = m) (m := N) ⟨0, 1, N, ⟨rfl, rfl, rfl, trivial⟩, hI.pickL [0] (by decide) rfl, hF, rfl⟩ ?_
  rintro m ρ w ⟨best_1652, k_1653, mm, hag, hI, hF, hm⟩
  subst hm; obtain ⟨ρ, rfl⟩ := hag.form; clear hag
  obtain _ | m1 := mm
  ·cases (show (none : Option (Int × Int)) = some r from hF)
  replace hF : F37b1 p0_0 lp0_1 N (F37l1 p0_0 lp0_1 N m1) best_1652 k_1653 = some r := hF; unfold F37b1 at hF
  refine wp_seq (wp_seq (rgn (by kernel_rfl) (pu (iv k_1653) (by kernel_rfl) (ifE hF (fun h47 hF => ?_) (fun h47 hF => ?_)))))
  ·
   refine seq_c (s_leq rfl rfl (fun _ => ?_) (fun h => absurd (a := k_1653 ≤ 24) h47 h))
   refine seq_nil (wp_condT rfl (wp_skip (wp_cutO (fun ρ w => ∃ (best_1727 : Int), Agree ρ [(1, .pointer (some ⟨b901, 0, none⟩)), (4, iv best_1727), (5, iv k_1653)] ∧ Inv [] w0 w [(some b901, blk [iv p0_0, .slice Ap0_1 lp0_1.length cp0_1] 24)] ∧ F37j2 (F37l1 p0_0 lp0_1 N m1) k_1653 best_1727 = some r) ?_ ?_)))
   ·
    refine wp_block ?_
    refine wp_cutO (fun ρ w => ∃ (is_1764 : Bool), Agree ρ [(1, .pointer (some ⟨b901, 0, none⟩)), (4, iv best_1652), (5, iv k_1653), (7, .bool is_1764)] ∧ Inv [] w0 w [(some b901, blk [iv p0_0, .slice Ap0_1 lp0_1.length cp0_1] 24)] ∧ F37j3 (F37l1 p0_0 lp0_1 N m1) best_1652 k_1653 is_1764 = some r) ?_ ?_
    ·
     refine bindE hF (fun y1765 hy1766 hF => ?_)
     refine bindE hF (fun y1771 hy1772 hF => ?_)
     refine wp_drawn2 hI [0] (by decide) rfl (by kernel_rfl) (by kernel_rfl) ?_
     intro hsub
     refine al_light 0 (.agg #[iv p0_0, .slice Ap0_1 lp0_1.length cp0_1]) hsub rfl (by kernel_rfl) (fun w hI => s_loadK hI 0 2 [iv p0_0, .slice Ap0_1 lp0_1.length cp0_1] Try.isAgg24 Try.sizeOf24 rfl rfl rfl rfl ⟨rfl, Below.refl _ _⟩) ?_
     refine al_light 1 (.agg #[iv p0_0, .slice Ap0_1 lp0_1.length cp0_1]) hsub rfl (by kernel_rfl) (fun w hI => s_loadK hI 0 2 [iv p0_0, .slice Ap0_1 lp0_1.length cp0_1] Try.isAgg24 Try.sizeOf24 rfl rfl rfl rfl ⟨rfl, Below.refl _ _⟩) ?_
     refine alp 2 (iv k_1653) hsub rfl (by kernel_rfl) (fun _ => (by kernel_rfl)) ?_
     refine any_heavy [3, 8] (by kernel_rfl) rfl (each2 ?_ ?_)
     ·intro w hI
      refine ol_c rfl (s_call 82 [.agg #[iv p0_0, .slice Ap0_1 lp0_1.length cp0_1], iv k_1653] (by kernel_rfl) (L82 _ p0_0 Ap0_1 cp0_1 lp0_1 k_1653 (hCp0_1.inv0 hI) hMp0_1 hKp0_1 N _ hy1766) ?_)
      rintro v w ⟨g1778, c1779, cl1780, rfl, hN, r1781⟩
      have hI := hI.join hN; clear hN
      refine ⟨_, hI, subk (fun _ h => h.pickL [1] (by decide) rfl) ?_⟩
      intro hsub
      refine any_heavy [4, 8] (by kernel_rfl) rfl (each2 ?_ ?_)
      ·intro w hI
       refine ol_c rfl (s_call 81 [.agg #[iv p0_0, .slice Ap0_1 lp0_1.length cp0_1], slv g1778 y1765.length c1779] (by kernel_rfl) (L81 _ p0_0 Ap0_1 cp0_1 lp0_1 (g1778.map fun b => ⟨b, 0, none⟩) c1779 y1765 (hCp0_1.inv0 hI) hMp0_1 hKp0_1 (hI.rowCells 0 rfl r1781) (len_le rfl r1781.big) (len_le rfl r1781.cap) N _ hy1772) ?_)
       rintro v w ⟨g1782, c1783, cl1784, rfl, hN, r1785⟩
       have hI := hI.join hN; clear hN
       refine ⟨_, hI, subk (fun _ h => h.pickL [2] (by decide) rfl) ?_⟩
       intro hsub
       refine alp 5 (.tuple #[.agg #[slv g1782 y1771.1.length c1783], .bool y1771.2]) hsub rfl (by kernel_rfl) (fun _ => (by kernel_rfl)) ?_
       refine alp 6 (.agg #[slv g1782 y1771.1.length c1783]) hsub rfl (by kernel_rfl) (fun _ => (by kernel_rfl)) ?_
       refine alp 7 (.bool y1771.2) hsub rfl (by kernel_rfl) (fun _ => (by kernel_rfl)) ?_
       refine any_heavy [8] (by kernel_rfl) rfl (each1 ?_)
       intro w hI
       refine ol_c rfl (s_allocI hI [.slice none 0 0] Try.zeroValue97 rfl ?_)
       intro b1786 w hI
       refine ⟨_, hI, subk (fun _ h => h.pickL [3] (by decide) rfl) ?_⟩
       intro hsub
       refine any_heavy [9] (by kernel_rfl) rfl (each1 ?_)
       intro w hI
       refine ol_c rfl (s_store hI 0 1 [slv g1782 y1771.1.length c1783] Try.sizeOf97 rfl rfl rfl rfl rfl (Nat.le_of_ble_eq_true rfl) ?_)
       intro w hI
       refine ⟨_, hI, subk (fun _ h => h.pickL [3] (by decide) rfl) ?_⟩
       intro hsub
       refine alp 10 (.bool y1771.2) hsub rfl (by kernel_rfl) (fun _ => (by kernel_rfl)) ?_
       refine any_end (by kernel_rfl) (fun w hI => ?_)
       exact .inl ⟨rfl, ⟨y1771.2, ⟨rfl, rfl, rfl, rfl, trivial⟩, hI.pickL [3] (by decide) rfl, hF⟩⟩
      ·intro w hI
       refine ol_c rfl (s_allocI hI [.slice none 0 0] Try.zeroValue97 rfl ?_)
       intro b1787 w hI
       refine ⟨_, hI, subk (fun _ h => h.pickL [2] (by decide) rfl) ?_⟩
       intro hsub
       refine any_heavy [4] (by kernel_rfl) rfl (each1 ?_)
       intro w hI
       refine ol_c rfl (s_call 81 [.agg #[iv p0_0, .slice Ap0_1 lp0_1.length cp0_1], slv g1778 y1765.length c1779] (by kernel_rfl) (L81 _ p0_0 Ap0_1 cp0_1 lp0_1 (g1778.map fun b => ⟨b, 0, none⟩) c1779 y1765 (hCp0_1.inv0 hI) hMp0_1 hKp0_1 (hI.rowCells 1 rfl r1781) (len_le rfl r1781.big) (len_le rfl r1781.cap) N _ hy1772) ?_)
       rintro v w ⟨g1788, c1789, cl1790, rfl, hN, r1791⟩
       have hI := hI.join hN; clear hN
       refine ⟨_, hI, subk (fun _ h => h.pickL [3] (by decide) rfl) ?_⟩
       intro hsub
       refine alp 5 (.tuple #[.agg #[slv g1788 y1771.1.length c1789], .bool y1771.2]) hsub rfl (by kernel_rfl) (fun _ => (by kernel_rfl)) ?_
       refine alp 6 (.agg #[slv g1788 y1771.1.length c1789]) hsub rfl (by kernel_rfl) (fun _ => (by kernel_rfl)) ?_
       refine alp 7 (.bool y1771.2) hsub rfl (by kernel_rfl) (fun _ => (by kernel_rfl)) ?_
       refine any_heavy [9] (by kernel_rfl) rfl (each1 ?_)
       intro w hI
       refine ol_c rfl (s_store hI 1 1 [slv g1788 y1771.1.length c1789] Try.sizeOf97 rfl rfl rfl rfl rfl (Nat.le_of_ble_eq_true rfl) ?_)
       intro w hI
       refine ⟨_, hI, subk (fun _ h => h.pickL [3] (by decide) rfl) ?_⟩
       intro hsub
       refine alp 10 (.bool y1771.2) hsub rfl (by kernel_rfl) (fun _ => (by kernel_rfl)) ?_
       refine any_end (by kernel_rfl) (fun w hI => ?_)
       exact .inl ⟨rfl, ⟨y1771.2, ⟨rfl, rfl, rfl, rfl, trivial⟩, hI.pickL [3] (by decide) rfl, hF⟩⟩
     ·intro w hI
      refine ol_c rfl (s_allocI hI [.slice none 0 0] Try.zeroValue97 rfl ?_)
      intro b1792 w hI
      refine ⟨_, hI, subk (fun _ h => h.pickL [1] (by decide) rfl) ?_⟩
      intro hsub
      refine any_heavy [3] (by kernel_rfl) rfl (each1 ?_)
      intro w hI
      refine ol_c rfl (s_call 82 [.agg #[iv p0_0, .slice Ap0_1 lp0_1.length cp0_1], iv k_1653] (by kernel_rfl) (L82 _ p0_0 Ap0_1 cp0_1 lp0_1 k_1653 (hCp0_1.inv0 hI) hMp0_1 hKp0_1 N _ hy1766) ?_)
      rintro v w ⟨g1793, c1794, cl1795, rfl, hN, r1796⟩
      have hI := hI.join hN; clear hN
      refine ⟨_, hI, subk (fun _ h => h.pickL [2] (by decide) rfl) ?_⟩
      intro hsub
      refine any_heavy [4] (by kernel_rfl) rfl (each1 ?_)
      intro w hI
      refine ol_c rfl (s_call 81 [.agg #[iv p0_0, .slice Ap0_1 lp0_1.length cp0_1], slv g1793 y1765.length c1794] (by kernel_rfl) (L81 _ p0_0 Ap0_1 cp0_1 lp0_1 (g1793.map fun b => ⟨b, 0, none⟩) c1794 y1765 (hCp0_1.inv0 hI) hMp0_1 hKp0_1 (hI.rowCells 0 rfl r1796) (len_le rfl r1796.big) (len_le rfl r1796.cap) N _ hy1772) ?_)
      rintro v w ⟨g1797, c1798, cl1799, rfl, hN, r1800⟩
      have hI := hI.join hN; clear hN
      refine ⟨_, hI, subk (fun _ h => h.pickL [3] (by decide) rfl) ?_⟩
      intro hsub
      refine alp 5 (.tuple #[.agg #[slv g1797 y1771.1.length c1798], .bool y1771.2]) hsub rfl (by kernel_rfl) (fun _ => (by kernel_rfl)) ?_
      refine alp 6 (.agg #[slv g1797 y1771.1.length c1798]) hsub rfl (by kernel_rfl) (fun _ => (by kernel_rfl)) ?_
      refine alp 7 (.bool y1771.2) hsub rfl (by kernel_rfl) (fun _ => (by kernel_rfl)) ?_
      refine any_heavy [9] (by kernel_rfl) rfl (each1 ?_)
      intro w hI
      refine ol_c rfl (s_store hI 2 1 [slv g1797 y1771.1.length c1798] Try.sizeOf97 rfl rfl rfl rfl rfl (Nat.le_of_ble_eq_true rfl) ?_)
      intro w hI
      refine ⟨_, hI, subk (fun _ h => h.pickL [3] (by decide) rfl) ?_⟩
      intro hsub
      refine alp 10 (.bool y1771.2) hsub rfl (by kernel_rfl) (fun _ => (by kernel_rfl)) ?_
      refine any_end (by kernel_rfl) (fun w hI => ?_)
      exact .inl ⟨rfl, ⟨y1771.2, ⟨rfl, rfl, rfl, rfl, trivial⟩, hI.pickL [3] (by decide) rfl, hF⟩⟩
    ·intro ρ w hJ
     obtain ⟨is_1764, hag, hI, hF⟩ := hJ
     obtain ⟨ρ, rfl⟩ := hag.form; clear hag
     unfold F37j3 at hF
     refine wp_seq ?_
     have hG := hF; rcases Bool.eq_false_or_eq_true is_1764 with rfl | rfl
     ·
      have hF := hG; clear hG
      refine ifE hF (fun _ hF => ?_) (fun h => absurd rfl h)
      refine rgn (by kernel_rfl) (pu (.bool true) (by kernel_rfl) (seq_nil (wp_condT rfl (rgn (by kernel_rfl) (pu (iv k_1653) (by kernel_rfl) (pu (iv k_1653) (by kernel_rfl) (seq_nil ?_)))))))
      exact .inl ⟨rfl, ⟨k_1653, ⟨rfl, rfl, rfl, trivial⟩, hI.pickL [0] (by decide) rfl, hF⟩⟩
     ·
      have hF := hG; clear hG
      refine ifE hF (fun h => absurd h (by decide)) (fun _ hF => ?_)
      refine rgn (by kernel_rfl) (pu (.bool false) (by kernel_rfl) (seq_nil (wp_condF rfl (wp_skip ?_))))
      exact .inl ⟨rfl, ⟨best_1652, ⟨rfl, rfl, rfl, trivial⟩, hI.pickL [0] (by decide) rfl, hF⟩⟩
   ·intro ρ w hJ
    obtain ⟨best_1727, hag, hI, hF⟩ := hJ
    obtain ⟨ρ, rfl⟩ := hag.form; clear hag
    unfold F37j2 at hF
    refine rgn (by kernel_rfl) (pu (iv k_1653) (by kernel_rfl) (ckE hF (fun h48 hF => ?_)))
    refine seq_c (s_add rfl rfl h48 ?_)
    refine pu (iv (k_1653 + 1)) (by kernel_rfl) (seq_nil ?_)
    exact ⟨rfl, m1, Nat.lt_succ_self _, ⟨best_1727, k_1653 + 1, m1, ⟨rfl, rfl, rfl, trivial⟩, hI.pickL [0] (by decide) rfl, hF, rfl⟩⟩
  ·
   refine seq_c (s_leq rfl rfl (fun h => absurd (a := k_1653 ≤ 24) h h47) (fun _ => ?_))
   refine seq_nil (wp_condF rfl (wp_exit ?_))
   refine wp_seq (rgn (by kernel_rfl) (pu (iv best_1652) (by kernel_rfl) (pu (iv best_1652) (by kernel_rfl) (pu (iv 0) (by kernel_rfl) (seq_nil (wp_ret ?_))))))
   replace hF := Option.some.inj hF; subst hF
   exact ⟨.tuple #[iv best_1652, iv 0], Ret.r2 rfl rfl rfl, ⟨rfl, hI.below⟩⟩
 ·
  refine seq_c (s_neq rfl rfl (fun _ => ?_) (fun h => absurd (a := y908 = 0) h h28))
  refine seq_nil (wp_condT rfl (wp_seq (rgn (by kernel_rfl) (pu (iv 0) (by kernel_rfl) (pu (iv 52) (by kernel_rfl) (seq_nil (wp_ret ?_)))))))
  replace hF := Option.some.inj hF; subst hF
  exact ⟨.tuple #[iv 0, iv 52], Ret.r2 rfl rfl rfl, ⟨rfl, hI.below⟩⟩


end Go.K
