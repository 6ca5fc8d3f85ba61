/- That the functions do what the pure definitions say: walks, as tools/lift.py writes them. No condition. -/
import Derived.Test.YtkmnjiejlgoglaaPWd
namespace Go.K
open Go.Proofs Go.RowKit
set_option linter.unusedVariables false
set_option maxRecDepth 100000
attribute [local irreducible] Seq Step CallV AnyE opX
theorem L56 (w0 : World) (p0 : Int) (p1 : Int) (r : Int) (hF : F56 p0 p1 = some r) : Does Try.prog 56 [.int .i64 p0, .int .i64 p1] w0 fun v w => v = .int .i64 r ∧ Below w0.heap.size w0 w := by
 refine calls_of (n := 12) Try.func56 rfl Try.ntmps56 rfl ?_
 have hI := Inv.start w0
 unfold F56 at hF
 refine wp_seq (rgn (by kernel_rfl) (pu (iv 0) (by kernel_rfl) (seq_nil (wp_seq (rgn (by kernel_rfl) (pu (iv p0) (by kernel_rfl) (pu (iv p1) (by kernel_rfl) (gdE hF (fun h3 hF => ?_)))))))))
 refine seq_c (s_rem rfl rfl h3 ?_)
 refine pu (iv p1) (by kernel_rfl) (ckE hF (fun h4 hF => ?_))
 refine seq_c (s_add rfl rfl h4 ?_)
 refine pu (iv p1) (by kernel_rfl) (seq_c (s_rem rfl rfl h3 ?_))
 refine pu (iv (((p0.tmod p1) + p1).tmod p1)) (by kernel_rfl) (seq_nil (wp_ret ?_))
 replace hF := Option.some.inj hF; subst hF
 exact ⟨iv (((p0.tmod p1) + p1).tmod p1), Ret.r1 rfl rfl, ⟨rfl, hI.below⟩⟩


theorem L54 (w0 : World) (Ap0_0 : Option Addr) (cp0_0 : Nat) (lp0_0 : List A2) (Ap0_1 : Option Addr) (cp0_1 : Nat) (lp0_1 : List A3) (Ap0_2 : Option Addr) (cp0_2 : Nat) (lp0_2 : List A3) (hCp0_0 : Cells w0 Ap0_0 (flat eA2 lp0_0)) (hMp0_0 : lp0_0.length ≤ 9223372036854775807) (hKp0_0 : lp0_0.length ≤ cp0_0) (hCp0_1 : Cells w0 Ap0_1 (flat eA3 lp0_1)) (hMp0_1 : lp0_1.length ≤ 9223372036854775807) (hKp0_1 : lp0_1.length ≤ cp0_1) (hCp0_2 : Cells w0 Ap0_2 (flat eA3 lp0_2)) (hMp0_2 : lp0_2.length ≤ 9223372036854775807) (hKp0_2 : lp0_2.length ≤ cp0_2) (N : Nat) (r : (List Ch × List Ce × List Cl)) (hF : F54 N lp0_0 lp0_1 lp0_2 = some r) : Does Try.prog 54 [.agg #[.slice Ap0_0 lp0_0.length cp0_0, .slice Ap0_1 lp0_1.length cp0_1, .slice Ap0_2 lp0_2.length cp0_2]] w0 fun v w => ∃ (z0 : Option Nat) (z1 : Nat) (z2 : List Value) (z3 : Option Nat) (z4 : Nat) (z5 : List Value) (z6 : Option Nat) (z7 : Nat) (z8 : List Value), v = .tuple #[.agg #[slv z0 r.1.length z1, slv z3 r.2.1.length z4], slv z6 r.2.2.length z7] ∧ Inv [] w0 w [(z0, blk z2 30), (z3, blk z5 32), (z6, blk z8 34)] ∧ Row 3 z0 r.1.length z1 z2 (flat eCh r.1) ∧ Row 3 z3 r.2.1.length z4 z5 (flat eCe r.2.1) ∧ Row 4 z6 r.2.2.length z7 z8 (flat eCl r.2.2) := by
 refine calls_of (n := 168) Try.func54 rfl Try.ntmps54 rfl ?_
 have hI := Inv.start w0
 unfold F54 at hF
 refine wp_seq (rgn (by kernel_rfl) (seq_c (s_boxI hI [.slice Ap0_0 lp0_0.length cp0_0, .slice Ap0_1 lp0_1.length cp0_1, .slice Ap0_2 lp0_2.length cp0_2] rfl ?_)))
 intro b1513 w hI
 refine seq_c (s_allocI hI [.slice none 0 0, .slice none 0 0] Try.zeroValue25 rfl ?_)
 intro b1514 w hI
 refine pu (.slice none 0 0) (by kernel_rfl) (seq_nil (wp_seq (rgn (by kernel_rfl) (seq_c (s_allocI hI [.slice none 0 0, .slice none 0 0] Try.zeroValue25 rfl ?_)))))
 intro b1515 w hI
 refine seq_nil (wp_cutO (fun ρ w => ∃ (g1721 : Option Nat) (c1722 : Nat) (cl1723 : List Value) (u1720 : List Ch), Agree ρ [(1, .pointer (some ⟨b1513, 0, none⟩)), (2, .pointer (some ⟨b1514, 0, none⟩)), (4, .pointer (some ⟨b1515, 0, none⟩))] ∧ Inv [] w0 w [(some b1513, blk [.slice Ap0_0 lp0_0.length cp0_0, .slice Ap0_1 lp0_1.length cp0_1, .slice Ap0_2 lp0_2.length cp0_2] 96), (some b1514, blk [.slice none 0 0, .slice none 0 0] 25), (some b1515, blk [slv g1721 u1720.length c1722, .slice none 0 0] 25), (g1721, blk cl1723 30)] ∧ (Row 3 g1721 (u1720.length) c1722 cl1723 (flat eCh u1720)) ∧ F54j1 lp0_1 lp0_2 N u1720 = some r) ?_ ?_)
 ·
  refine wp_seq (rgn (by kernel_rfl) (pu (iv 0) (by kernel_rfl) (seq_nil (wp_block ?_))))
  have hI := hI.nilRow 30
  refine wp_loop (fun m ρ w => ∃ (g2956 : Option Nat) (c2957 : Nat) (cl2958 : List Value) (u2955 : List Ch) (v2960 : Int) (mm : Nat), Agree ρ [(1, .pointer (some ⟨b1513, 0, none⟩)), (2, .pointer (some ⟨b1514, 0, none⟩)), (4, .pointer (some ⟨b1515, 0, none⟩)), (5, iv v2960)] ∧ Inv [] w0 w [(some b1513, blk [.slice Ap0_0 lp0_0.length cp0_0, .slice Ap0_1 lp0_1.length cp0_1, .slice Ap0_2 lp0_2.length cp0_2] 96), (some b1514, blk [.slice none 0 0, .slice none 0 0] 25), (some b1515, blk [slv g2956 u2955.length c2957, .slice none 0 0] 25), (g2956, blk cl2958 30)] ∧ (Row 3 g2956 (u2955.length) c2957 cl2958 (flat eCh u2955)) ∧ F54l12 lp0_0 lp0_1 lp0_2 N mm u2955 v2960 = some r ∧ mm = m) (m := N) ⟨none, 0, [], [], 0, N, ⟨rfl, rfl, rfl, rfl, trivial⟩, hI.pickL [3, 2, 1, 0] (by decide) rfl, (Row.nil_ 3), hF, rfl⟩ ?_
  rintro m ρ w ⟨g2956, c2957, cl2958, u2955, v2960, mm, hag, hI, r2959, hF, hm⟩
  subst hm; obtain ⟨ρ, rfl⟩ := hag.form; clear hag
  obtain _ | m12 := mm
  ·cases (show (none : Option (List Ch × List Ce × List Cl)) = some r from hF)
  replace hF : F54b12 lp0_0 lp0_1 lp0_2 N (F54l12 lp0_0 lp0_1 lp0_2 N m12) u2955 v2960 = some r := hF; unfold F54b12 at hF
  refine wp_seq (wp_cutO (fun ρ w => (Agree ρ [(1, .pointer (some ⟨b1513, 0, none⟩)), (2, .pointer (some ⟨b1514, 0, none⟩)), (4, .pointer (some ⟨b1515, 0, none⟩)), (5, iv v2960), (26, .bool true)] ∧ Inv [] w0 w [(some b1513, blk [.slice Ap0_0 lp0_0.length cp0_0, .slice Ap0_1 lp0_1.length cp0_1, .slice Ap0_2 lp0_2.length cp0_2] 96), (some b1514, blk [.slice none 0 0, .slice none 0 0] 25), (some b1515, blk [slv g2956 u2955.length c2957, .slice none 0 0] 25), (g2956, blk cl2958 30)] ∧ F54j13 lp0_0 (F54l12 lp0_0 lp0_1 lp0_2 N m12) u2955 v2960 = some r) ∨ (Agree ρ [(1, .pointer (some ⟨b1513, 0, none⟩)), (2, .pointer (some ⟨b1514, 0, none⟩)), (4, .pointer (some ⟨b1515, 0, none⟩)), (5, iv v2960), (26, .bool false)] ∧ Inv [] w0 w [(some b1513, blk [.slice Ap0_0 lp0_0.length cp0_0, .slice Ap0_1 lp0_1.length cp0_1, .slice Ap0_2 lp0_2.length cp0_2] 96), (some b1514, blk [.slice none 0 0, .slice none 0 0] 25), (some b1515, blk [slv g2956 u2955.length c2957, .slice none 0 0] 25), (g2956, blk cl2958 30)] ∧ F54j15 lp0_1 lp0_2 N u2955 = some r)) ?_ ?_)
  ·
   refine rgn (by kernel_rfl) (pu (iv v2960) (by kernel_rfl) (pu (.pointer (some ⟨b1513, 0, none⟩)) (by kernel_rfl) (seq_c (s_load1 hI 0 (.slice Ap0_0 lp0_0.length cp0_0) Try.isAgg93 rfl rfl rfl ?_))))
   refine pu (iv ((lp0_0.length : Nat) : Int)) (by kernel_rfl) (ifE hF (fun h1293 hF => ?_) (fun h1293 hF => ?_))
   ·
    refine seq_c (s_lss rfl rfl (fun _ => ?_) (fun h => absurd (a := v2960 < (lp0_0.length : Int)) h1293 h))
    refine pu (.bool true) (by kernel_rfl) (puo (iv v2960) ⟨(by kernel_rfl), (by kernel_rfl)⟩ (ifE hF (fun h1294 hF => ?_) (fun h1294 hF => ?_)))
    ·
     refine seq_on (by kernel_rfl) (s_lss rfl rfl (fun _ => ?_) (fun h => absurd (a := v2960 < 3) h1294 h))
     refine pu (.bool true) (by kernel_rfl) (pu (.bool true) (by kernel_rfl) (of_ (by kernel_rfl) (of_ (by kernel_rfl) (pu (.bool true) (by kernel_rfl) (seq_nil ?_)))))
     exact .inl ⟨rfl, .inl ⟨⟨rfl, rfl, rfl, rfl, rfl, trivial⟩, hI.pickL [0, 1, 2, 3] (by decide) rfl, hF⟩⟩
    ·
     refine seq_on (by kernel_rfl) (s_lss rfl rfl (fun h => absurd (a := v2960 < 3) h h1294) (fun _ => ?_))
     refine pu (.bool false) (by kernel_rfl) (pu (.bool false) (by kernel_rfl) (puo (iv v2960) ⟨(by kernel_rfl), (by kernel_rfl)⟩ (ifE hF (fun h1295 hF => ?_) (fun h1295 hF => ?_))))
     ·
      refine seq_on (by kernel_rfl) (s_eql rfl rfl (fun _ => ?_) (fun h => absurd (a := v2960 = 0) h1295 h))
      refine pu (.bool true) (by kernel_rfl) (seq_nil ?_)
      exact .inl ⟨rfl, .inl ⟨⟨rfl, rfl, rfl, rfl, rfl, trivial⟩, hI.pickL [0, 1, 2, 3] (by decide) rfl, hF⟩⟩
     ·
      refine seq_on (by kernel_rfl) (s_eql rfl rfl (fun h => absurd (a := v2960 = 0) h h1295) (fun _ => ?_))
      refine pu (.bool false) (by kernel_rfl) (seq_nil ?_)
      exact .inl ⟨rfl, .inr ⟨⟨rfl, rfl, rfl, rfl, rfl, trivial⟩, hI.pickL [0, 1, 2, 3] (by decide) rfl, hF⟩⟩
   ·
    refine seq_c (s_lss rfl rfl (fun h => absurd (a := v2960 < (lp0_0.length : Int)) h h1293) (fun _ => ?_))
    refine pu (.bool false) (by kernel_rfl) (of_ (by kernel_rfl) (of_ (by kernel_rfl) (pu (.bool false) (by kernel_rfl) (pu (.bool false) (by kernel_rfl) (puo (iv v2960) ⟨(by kernel_rfl), (by kernel_rfl)⟩ (ifE hF (fun h1296 hF => ?_) (fun h1296 hF => ?_)))))))
    ·
     refine seq_on (by kernel_rfl) (s_eql rfl rfl (fun _ => ?_) (fun h => absurd (a := v2960 = 0) h1296 h))
     refine pu (.bool true) (by kernel_rfl) (seq_nil ?_)
     exact .inl ⟨rfl, .inl ⟨⟨rfl, rfl, rfl, rfl, rfl, trivial⟩, hI.pickL [0, 1, 2, 3] (by decide) rfl, hF⟩⟩
    ·
     refine seq_on (by kernel_rfl) (s_eql rfl rfl (fun h => absurd (a := v2960 = 0) h h1296) (fun _ => ?_))
     refine pu (.bool false) (by kernel_rfl) (seq_nil ?_)
     exact .inl ⟨rfl, .inr ⟨⟨rfl, rfl, rfl, rfl, rfl, trivial⟩, hI.pickL [0, 1, 2, 3] (by decide) rfl, hF⟩⟩
  ·rintro ρ w (hJ | hJ)
   ·
    obtain ⟨hag, hI, hF⟩ := hJ
    obtain ⟨ρ, rfl⟩ := hag.form; clear hag
    unfold F54j13 at hF
    refine wp_condT rfl (wp_skip (wp_seq (wp_block ?_)))
    refine wp_seq (rgn (by kernel_rfl) (pu (.agg #[iv 0, iv 0]) (by kernel_rfl) (seq_c (s_allocI hI [iv 0, iv 0] Try.zeroValue101 rfl ?_))))
    intro b2993 w hI
    refine seq_c (s_store hI 0 2 [iv 0, iv 0] Try.sizeOf101 rfl rfl rfl rfl rfl (Nat.le_of_ble_eq_true rfl) ?_)
    intro w hI
    refine seq_nil (wp_cutO (fun ρ w => ∃ (v3001 : Int) (v3002 : Int), Agree ρ [(1, .pointer (some ⟨b1513, 0, none⟩)), (2, .pointer (some ⟨b1514, 0, none⟩)), (4, .pointer (some ⟨b1515, 0, none⟩)), (5, iv v2960), (6, .pointer (some ⟨b2993, 0, none⟩))] ∧ Inv [] w0 w [(some b1513, blk [.slice Ap0_0 lp0_0.length cp0_0, .slice Ap0_1 lp0_1.length cp0_1, .slice Ap0_2 lp0_2.length cp0_2] 96), (some b1514, blk [.slice none 0 0, .slice none 0 0] 25), (some b1515, blk [slv g2956 u2955.length c2957, .slice none 0 0] 25), (g2956, blk cl2958 30), (some b2993, blk [iv v3001, iv v3002] 101)] ∧ F54j14 (F54l12 lp0_0 lp0_1 lp0_2 N m12) u2955 v2960 v3001 v3002 = some r) ?_ ?_)
    ·
     refine wp_seq (rgn (by kernel_rfl) (pu (iv v2960) (by kernel_rfl) (pu (.pointer (some ⟨b1513, 0, none⟩)) (by kernel_rfl) (seq_c (s_load1 hI 1 (.slice Ap0_0 lp0_0.length cp0_0) Try.isAgg93 rfl rfl rfl ?_)))))
     refine pu (iv ((lp0_0.length : Nat) : Int)) (by kernel_rfl) (ifE hF (fun h1291 hF => ?_) (fun h1291 hF => ?_))
     ·
      refine seq_c (s_lss rfl rfl (fun _ => ?_) (fun h => absurd (a := v2960 < (lp0_0.length : Int)) h1291 h))
      refine seq_nil (wp_condT rfl (rgn (by kernel_rfl) (pu (.pointer (some ⟨b1513, 0, none⟩)) (by kernel_rfl) (seq_c (s_load1 hI 1 (.slice Ap0_0 lp0_0.length cp0_0) Try.isAgg93 rfl rfl rfl ?_)))))
      refine pu (iv v2960) (by kernel_rfl) (gdE hF (fun h1292 hF => ?_))
      refine bindE hF (fun x3018 hx3019 hF => ?_)
      obtain ⟨b3020, o3021, hA3022, hb3023, he3024⟩ := hCp0_0.at_ eA2_len (by decide) hx3019
      refine seq_c (s_indexA (v2960).toNat Try.underlying93 Try.sizeOf101 rfl hA3022 rfl (Int.toNat_of_nonneg h1292).symm (lt_n hx3019 rfl) ?_)
      refine seq_c (s_loadBK hI [iv x3018.a, iv x3018.b] Try.isAgg101 Try.sizeOf101 rfl rfl hb3023 (by simp) he3024 ?_)
      refine seq_c (s_store hI 0 2 [iv x3018.a, iv x3018.b] Try.sizeOf101 rfl rfl rfl rfl rfl (Nat.le_of_ble_eq_true rfl) ?_)
      intro w hI
      refine seq_nil ?_
      exact .inl ⟨rfl, ⟨x3018.a, x3018.b, ⟨rfl, rfl, rfl, rfl, rfl, trivial⟩, hI.pickL [1, 2, 3, 4, 0] (by decide) rfl, hF⟩⟩
     ·
      refine seq_c (s_lss rfl rfl (fun h => absurd (a := v2960 < (lp0_0.length : Int)) h h1291) (fun _ => ?_))
      refine seq_nil (wp_condF rfl (wp_skip ?_))
      exact .inl ⟨rfl, ⟨0, 0, ⟨rfl, rfl, rfl, rfl, rfl, trivial⟩, hI.pickL [1, 2, 3, 4, 0] (by decide) rfl, hF⟩⟩
    ·intro ρ w hJ
     obtain ⟨v3001, v3002, hag, hI, hF⟩ := hJ
     obtain ⟨ρ, rfl⟩ := hag.form; clear hag
     unfold F54j14 at hF
     refine wp_seq (rgn (by kernel_rfl) (pu (iv v2960) (by kernel_rfl) (ckE hF (fun h1284 hF => ?_))))
     refine seq_c (s_add rfl rfl h1284 ?_)
     refine pu (.pointer (some ⟨b2993, 0, none⟩)) (by kernel_rfl) (seq_c (s_load1 hI 4 (iv v3001) Try.isAgg3 rfl rfl rfl ?_))
     refine bindE hF (fun y3006 hy3007 hF => ?_)
     refine seq_c (s_callv hI 56 [iv v3001, iv 20] (iv y3006) (by kernel_rfl) (L56 _ v3001 20 _ hy3007) ?_)
     intro w hI
     refine ckE hF (fun h1285 hF => ?_)
     refine seq_c (s_add rfl rfl h1285 ?_)
     refine pu (.agg #[iv (90 + y3006), iv 0]) (by kernel_rfl) (pu (.agg #[iv (1 + v2960), iv (90 + y3006), iv 0]) (by kernel_rfl) (seq_c (s_allocI hI [iv 0, iv 0, iv 0] Try.zeroValue30 rfl ?_)))
     intro b3008 w hI
     refine seq_c (s_store hI 0 3 [iv (1 + v2960), iv (90 + y3006), iv 0] Try.sizeOf30 rfl rfl rfl rfl rfl (Nat.le_of_ble_eq_true rfl) ?_)
     intro w hI
     refine seq_nil (wp_seq (bindE hF (fun y3011 hy3012 hF => ?_)))
     refine ckE hF (fun h1287 hF => ?_)
     replace hI := hI.pickL [1, 2, 3, 4, 5, 0] (by decide) rfl
     refine wp_drawn2 hI [0, 1, 2, 3, 4] (by decide) rfl (by kernel_rfl) (by kernel_rfl) ?_
     intro hsub
     refine alp 0 (.pointer (some ⟨b3008, 1, none⟩)) hsub rfl (by kernel_rfl) (fun _ => (by kernel_rfl)) ?_
     refine alp 1 (.pointer (some ⟨b3008, 1, none⟩)) hsub rfl (by kernel_rfl) (fun _ => (by kernel_rfl)) ?_
     refine alp 3 (.pointer (some ⟨b2993, 1, none⟩)) hsub rfl (by kernel_rfl) (fun _ => (by kernel_rfl)) ?_
     refine al_light 4 (iv v3002) hsub rfl (by kernel_rfl) (fun w hI => s_load1 hI 4 (iv v3002) Try.isAgg3 rfl rfl rfl ⟨rfl, Below.refl _ _⟩) ?_
     refine al_light 5 (iv y3011) hsub rfl (by kernel_rfl) (fun w hI => s_call 56 [iv v3002, iv 12] (by kernel_rfl) (L56 _ v3002 12 _ hy3012) (fun v' w' h => h)) ?_
     refine any_heavy [2] (by kernel_rfl) rfl (each1 ?_)
     intro w hI
     refine ol_c rfl (s_load1 hI 5 (iv (90 + y3006)) Try.isAgg3 rfl rfl rfl ?_)
     refine ⟨_, hI, subk (fun _ h => h.pickL [0, 1, 2, 3, 4] (by decide) rfl) ?_⟩
     intro hsub
     refine al_light 6 (iv ((90 + y3006) + y3011)) hsub rfl (by kernel_rfl) (fun w hI => s_add rfl rfl h1287 ⟨rfl, Below.refl _ _⟩) ?_
     refine alp 7 (.pointer (some ⟨b3008, 1, none⟩)) hsub rfl (by kernel_rfl) (fun _ => (by kernel_rfl)) ?_
     refine alp 8 (.pointer (some ⟨b3008, 2, none⟩)) hsub rfl (by kernel_rfl) (fun _ => (by kernel_rfl)) ?_
     refine any_heavy [9] (by kernel_rfl) rfl (each1 ?_)
     intro w hI
     refine ol_c rfl (s_store hI 5 1 [iv ((90 + y3006) + y3011)] Try.sizeOf3 rfl rfl rfl rfl rfl (Nat.le_of_ble_eq_true rfl) ?_)
     intro w hI
     refine ⟨_, hI, subk (fun _ h => h.pickL [0, 1, 2, 3, 4] (by decide) rfl) ?_⟩
     intro hsub
     refine any_end (by kernel_rfl) (fun w hI => ?_)
     refine rgn (by kernel_rfl) (pu (.pointer (some ⟨b1515, 0, none⟩)) (by kernel_rfl) (seq_c (s_load1 hI 2 (slv g2956 u2955.length c2957) Try.isAgg22 rfl rfl rfl ?_)))
     refine seq_c (s_loadK hI 5 3 [iv (1 + v2960), iv (90 + y3006), iv ((90 + y3006) + y3011)] Try.isAgg30 Try.sizeOf30 rfl rfl rfl rfl ?_)
     refine seq_c (s_new hI [iv (1 + v2960), iv (90 + y3006), iv ((90 + y3006) + y3011)] 30 (fun b => slv (some b) 1 1) (by kernel_rfl) ?_)
     intro b3013 w hI
     refine gdE hF (fun h1288 hF => ?_)
     refine seq_c (s_appN hI Try.underlying22 (z := .agg #[iv 0, iv 0, iv 0]) (k := 3) (bytes := 24) (by kernel_rfl) rfl rfl 4 rfl rfl r2959 [iv (1 + v2960), iv (90 + y3006), iv ((90 + y3006) + y3011)] rfl rfl (hI.cells 0 (off := 0) rfl (fun j u h => by rw [Nat.zero_add]; exact h)) (by simp [Value.oneCell']) (by omega) (by omega) (n2 := (u2955 ++ [(⟨1 + v2960, 90 + y3006, (90 + y3006) + y3011⟩ : Ch)]).length) (app_len rfl rfl) ?_)
     intro g3014 c3015 cl3016 w hI r3017
     have r3017 : Row 3 g3014 ((u2955 ++ [(⟨1 + v2960, 90 + y3006, (90 + y3006) + y3011⟩ : Ch)]).length) c3015 cl3016 (flat eCh (u2955 ++ [(⟨1 + v2960, 90 + y3006, (90 + y3006) + y3011⟩ : Ch)])) := r3017.snoc _ rfl
     refine pu (.pointer (some ⟨b1515, 0, none⟩)) (by kernel_rfl) (seq_c (s_store hI 3 1 [slv g3014 ((u2955 ++ [(⟨1 + v2960, 90 + y3006, (90 + y3006) + y3011⟩ : Ch)]).length) c3015] Try.sizeOf22 rfl rfl rfl rfl rfl (Nat.le_of_ble_eq_true rfl) ?_))
     intro w hI
     refine seq_nil (rgn (by kernel_rfl) (pu (iv v2960) (by kernel_rfl) (ckE hF (fun h1289 hF => ?_))))
     refine seq_c (s_add rfl rfl h1289 ?_)
     refine pu (iv (v2960 + 1)) (by kernel_rfl) (seq_nil ?_)
     exact ⟨rfl, m12, Nat.lt_succ_self _, ⟨g3014, c3015, cl3016, u2955 ++ [(⟨1 + v2960, 90 + y3006, (90 + y3006) + y3011⟩ : Ch)], v2960 + 1, m12, ⟨rfl, rfl, rfl, rfl, trivial⟩, hI.pickL [1, 2, 3, 4] (by decide) rfl, (r3017.to rfl rfl), hF, rfl⟩⟩
   ·
    obtain ⟨hag, hI, hF⟩ := hJ
    obtain ⟨ρ, rfl⟩ := hag.form; clear hag
    unfold F54j15 at hF
    refine wp_condF rfl (wp_exit ?_)
    exact .inl ⟨rfl, ⟨g2956, c2957, cl2958, u2955, ⟨rfl, rfl, rfl, trivial⟩, hI.pickL [0, 1, 2, 3] (by decide) rfl, (r2959.to rfl rfl), hF⟩⟩
 ·intro ρ w hJ
  obtain ⟨g1721, c1722, cl1723, u1720, hag, hI, r1724, hF⟩ := hJ
  obtain ⟨ρ, rfl⟩ := hag.form; clear hag
  unfold F54j1 at hF
  refine wp_cutO (fun ρ w => ∃ (g2017 : Option Nat) (c2018 : Nat) (cl2019 : List Value) (u2016 : List Ce), Agree ρ [(1, .pointer (some ⟨b1513, 0, none⟩)), (2, .pointer (some ⟨b1514, 0, none⟩)), (4, .pointer (some ⟨b1515, 0, none⟩))] ∧ Inv [] w0 w [(some b1513, blk [.slice Ap0_0 lp0_0.length cp0_0, .slice Ap0_1 lp0_1.length cp0_1, .slice Ap0_2 lp0_2.length cp0_2] 96), (some b1514, blk [.slice none 0 0, .slice none 0 0] 25), (some b1515, blk [slv g1721 u1720.length c1722, slv g2017 u2016.length c2018] 25), (g1721, blk cl1723 30), (g2017, blk cl2019 32)] ∧ (Row 3 g2017 (u2016.length) c2018 cl2019 (flat eCe u2016)) ∧ F54j2 lp0_2 N u1720 u2016 = some r) ?_ ?_
  ·
   refine wp_seq (rgn (by kernel_rfl) (pu (iv 0) (by kernel_rfl) (seq_nil (wp_block ?_))))
   have hI := hI.nilRow 32
   refine wp_loop (fun m ρ w => ∃ (g2723 : Option Nat) (c2724 : Nat) (cl2725 : List Value) (u2722 : List Ce) (v2727 : Int) (mm : Nat), Agree ρ [(1, .pointer (some ⟨b1513, 0, none⟩)), (2, .pointer (some ⟨b1514, 0, none⟩)), (4, .pointer (some ⟨b1515, 0, none⟩)), (8, iv v2727)] ∧ Inv [] w0 w [(some b1513, blk [.slice Ap0_0 lp0_0.length cp0_0, .slice Ap0_1 lp0_1.length cp0_1, .slice Ap0_2 lp0_2.length cp0_2] 96), (some b1514, blk [.slice none 0 0, .slice none 0 0] 25), (some b1515, blk [slv g1721 u1720.length c1722, slv g2723 u2722.length c2724] 25), (g1721, blk cl1723 30), (g2723, blk cl2725 32)] ∧ (Row 3 g2723 (u2722.length) c2724 cl2725 (flat eCe u2722)) ∧ F54l7 lp0_1 lp0_2 N u1720 mm u2722 v2727 = some r ∧ mm = m) (m := N) ⟨none, 0, [], [], 0, N, ⟨rfl, rfl, rfl, rfl, trivial⟩, hI.pickL [1, 2, 3, 4, 0] (by decide) rfl, (Row.nil_ 3), hF, rfl⟩ ?_
   rintro m ρ w ⟨g2723, c2724, cl2725, u2722, v2727, mm, hag, hI, r2726, hF, hm⟩
   subst hm; obtain ⟨ρ, rfl⟩ := hag.form; clear hag
   obtain _ | m7 := mm
   ·cases (show (none : Option (List Ch × List Ce × List Cl)) = some r from hF)
   replace hF : F54b7 lp0_1 lp0_2 N u1720 (F54l7 lp0_1 lp0_2 N u1720 m7) u2722 v2727 = some r := hF; unfold F54b7 at hF
   refine wp_seq (wp_cutO (fun ρ w => (Agree ρ [(1, .pointer (some ⟨b1513, 0, none⟩)), (2, .pointer (some ⟨b1514, 0, none⟩)), (4, .pointer (some ⟨b1515, 0, none⟩)), (8, iv v2727), (75, .bool true)] ∧ Inv [] w0 w [(some b1513, blk [.slice Ap0_0 lp0_0.length cp0_0, .slice Ap0_1 lp0_1.length cp0_1, .slice Ap0_2 lp0_2.length cp0_2] 96), (some b1514, blk [.slice none 0 0, .slice none 0 0] 25), (some b1515, blk [slv g1721 u1720.length c1722, slv g2723 u2722.length c2724] 25), (g1721, blk cl1723 30), (g2723, blk cl2725 32)] ∧ F54j8 lp0_1 (F54l7 lp0_1 lp0_2 N u1720 m7) u1720 u2722 v2727 = some r) ∨ (Agree ρ [(1, .pointer (some ⟨b1513, 0, none⟩)), (2, .pointer (some ⟨b1514, 0, none⟩)), (4, .pointer (some ⟨b1515, 0, none⟩)), (8, iv v2727), (75, .bool false)] ∧ Inv [] w0 w [(some b1513, blk [.slice Ap0_0 lp0_0.length cp0_0, .slice Ap0_1 lp0_1.length cp0_1, .slice Ap0_2 lp0_2.length cp0_2] 96), (some b1514, blk [.slice none 0 0, .slice none 0 0] 25), (some b1515, blk [slv g1721 u1720.length c1722, slv g2723 u2722.length c2724] 25), (g1721, blk cl1723 30), (g2723, blk cl2725 32)] ∧ F54j11 lp0_2 N u1720 u2722 = some r)) ?_ ?_)
   ·
    refine rgn (by kernel_rfl) (pu (iv v2727) (by kernel_rfl) (pu (.pointer (some ⟨b1513, 1, none⟩)) (by kernel_rfl) (seq_c (s_load1 hI 0 (.slice Ap0_1 lp0_1.length cp0_1) Try.isAgg94 rfl rfl rfl ?_))))
    refine pu (iv ((lp0_1.length : Nat) : Int)) (by kernel_rfl) (ifE hF (fun h1185 hF => ?_) (fun h1185 hF => ?_))
    ·
     refine seq_c (s_lss rfl rfl (fun _ => ?_) (fun h => absurd (a := v2727 < (lp0_1.length : Int)) h1185 h))
     refine pu (.bool true) (by kernel_rfl) (puo (iv v2727) ⟨(by kernel_rfl), (by kernel_rfl)⟩ (ifE hF (fun h1186 hF => ?_) (fun h1186 hF => ?_)))
     ·
      refine seq_on (by kernel_rfl) (s_lss rfl rfl (fun _ => ?_) (fun h => absurd (a := v2727 < 10) h1186 h))
      refine pu (.bool true) (by kernel_rfl) (pu (.bool true) (by kernel_rfl) (of_ (by kernel_rfl) (of_ (by kernel_rfl) (pu (.bool true) (by kernel_rfl) (seq_nil ?_)))))
      exact .inl ⟨rfl, .inl ⟨⟨rfl, rfl, rfl, rfl, rfl, trivial⟩, hI.pickL [0, 1, 2, 3, 4] (by decide) rfl, hF⟩⟩
     ·
      refine seq_on (by kernel_rfl) (s_lss rfl rfl (fun h => absurd (a := v2727 < 10) h h1186) (fun _ => ?_))
      refine pu (.bool false) (by kernel_rfl) (pu (.bool false) (by kernel_rfl) (puo (iv v2727) ⟨(by kernel_rfl), (by kernel_rfl)⟩ (ifE hF (fun h1187 hF => ?_) (fun h1187 hF => ?_))))
      ·
       refine seq_on (by kernel_rfl) (s_eql rfl rfl (fun _ => ?_) (fun h => absurd (a := v2727 = 0) h1187 h))
       refine pu (.bool true) (by kernel_rfl) (seq_nil ?_)
       exact .inl ⟨rfl, .inl ⟨⟨rfl, rfl, rfl, rfl, rfl, trivial⟩, hI.pickL [0, 1, 2, 3, 4] (by decide) rfl, hF⟩⟩
      ·
       refine seq_on (by kernel_rfl) (s_eql rfl rfl (fun h => absurd (a := v2727 = 0) h h1187) (fun _ => ?_))
       refine pu (.bool false) (by kernel_rfl) (seq_nil ?_)
       exact .inl ⟨rfl, .inr ⟨⟨rfl, rfl, rfl, rfl, rfl, trivial⟩, hI.pickL [0, 1, 2, 3, 4] (by decide) rfl, hF⟩⟩
    ·
     refine seq_c (s_lss rfl rfl (fun h => absurd (a := v2727 < (lp0_1.length : Int)) h h1185) (fun _ => ?_))
     refine pu (.bool false) (by kernel_rfl) (of_ (by kernel_rfl) (of_ (by kernel_rfl) (pu (.bool false) (by kernel_rfl) (pu (.bool false) (by kernel_rfl) (puo (iv v2727) ⟨(by kernel_rfl), (by kernel_rfl)⟩ (ifE hF (fun h1188 hF => ?_) (fun h1188 hF => ?_)))))))
     ·
      refine seq_on (by kernel_rfl) (s_eql rfl rfl (fun _ => ?_) (fun h => absurd (a := v2727 = 0) h1188 h))
      refine pu (.bool true) (by kernel_rfl) (seq_nil ?_)
      exact .inl ⟨rfl, .inl ⟨⟨rfl, rfl, rfl, rfl, rfl, trivial⟩, hI.pickL [0, 1, 2, 3, 4] (by decide) rfl, hF⟩⟩
     ·
      refine seq_on (by kernel_rfl) (s_eql rfl rfl (fun h => absurd (a := v2727 = 0) h h1188) (fun _ => ?_))
      refine pu (.bool false) (by kernel_rfl) (seq_nil ?_)
      exact .inl ⟨rfl, .inr ⟨⟨rfl, rfl, rfl, rfl, rfl, trivial⟩, hI.pickL [0, 1, 2, 3, 4] (by decide) rfl, hF⟩⟩
   ·rintro ρ w (hJ | hJ)
    ·
     obtain ⟨hag, hI, hF⟩ := hJ
     obtain ⟨ρ, rfl⟩ := hag.form; clear hag
     unfold F54j8 at hF
     refine wp_condT rfl (wp_skip (wp_cutO (fun ρ w => ∃ (g2773 : Option Nat) (c2774 : Nat) (cl2775 : List Value) (u2772 : List Ce), Agree ρ [(1, .pointer (some ⟨b1513, 0, none⟩)), (2, .pointer (some ⟨b1514, 0, none⟩)), (4, .pointer (some ⟨b1515, 0, none⟩)), (8, iv v2727)] ∧ Inv [] w0 w [(some b1513, blk [.slice Ap0_0 lp0_0.length cp0_0, .slice Ap0_1 lp0_1.length cp0_1, .slice Ap0_2 lp0_2.length cp0_2] 96), (some b1514, blk [.slice none 0 0, .slice none 0 0] 25), (some b1515, blk [slv g1721 u1720.length c1722, slv g2773 u2772.length c2774] 25), (g1721, blk cl1723 30), (g2773, blk cl2775 32)] ∧ (Row 3 g2773 (u2772.length) c2774 cl2775 (flat eCe u2772)) ∧ F54j9 (F54l7 lp0_1 lp0_2 N u1720 m7) v2727 u2772 = some r) ?_ ?_))
     ·
      refine wp_block ?_
      refine wp_seq (rgn (by kernel_rfl) (pu (.agg #[iv 0, iv 0, iv 0]) (by kernel_rfl) (seq_c (s_allocI hI [iv 0, iv 0, iv 0] Try.zeroValue155 rfl ?_))))
      intro b2777 w hI
      refine seq_c (s_store hI 0 3 [iv 0, iv 0, iv 0] Try.sizeOf155 rfl rfl rfl rfl rfl (Nat.le_of_ble_eq_true rfl) ?_)
      intro w hI
      refine seq_nil (wp_cutO (fun ρ w => ∃ (v2785 : Int) (v2786 : Int) (v2787 : Int), Agree ρ [(1, .pointer (some ⟨b1513, 0, none⟩)), (2, .pointer (some ⟨b1514, 0, none⟩)), (4, .pointer (some ⟨b1515, 0, none⟩)), (8, iv v2727), (9, .pointer (some ⟨b2777, 0, none⟩))] ∧ Inv [] w0 w [(some b1513, blk [.slice Ap0_0 lp0_0.length cp0_0, .slice Ap0_1 lp0_1.length cp0_1, .slice Ap0_2 lp0_2.length cp0_2] 96), (some b1514, blk [.slice none 0 0, .slice none 0 0] 25), (some b1515, blk [slv g1721 u1720.length c1722, slv g2723 u2722.length c2724] 25), (g1721, blk cl1723 30), (g2723, blk cl2725 32), (some b2777, blk [iv v2785, iv v2786, iv v2787] 155)] ∧ F54j10 (F54l7 lp0_1 lp0_2 N u1720 m7) u1720 u2722 v2727 v2785 v2786 v2787 = some r) ?_ ?_)
      ·
       refine wp_seq (rgn (by kernel_rfl) (pu (iv v2727) (by kernel_rfl) (pu (.pointer (some ⟨b1513, 1, none⟩)) (by kernel_rfl) (seq_c (s_load1 hI 1 (.slice Ap0_1 lp0_1.length cp0_1) Try.isAgg94 rfl rfl rfl ?_)))))
       refine pu (iv ((lp0_1.length : Nat) : Int)) (by kernel_rfl) (ifE hF (fun h1183 hF => ?_) (fun h1183 hF => ?_))
       ·
        refine seq_c (s_lss rfl rfl (fun _ => ?_) (fun h => absurd (a := v2727 < (lp0_1.length : Int)) h1183 h))
        refine seq_nil (wp_condT rfl (rgn (by kernel_rfl) (pu (.pointer (some ⟨b1513, 1, none⟩)) (by kernel_rfl) (seq_c (s_load1 hI 1 (.slice Ap0_1 lp0_1.length cp0_1) Try.isAgg94 rfl rfl rfl ?_)))))
        refine pu (iv v2727) (by kernel_rfl) (gdE hF (fun h1184 hF => ?_))
        refine bindE hF (fun x2814 hx2815 hF => ?_)
        obtain ⟨b2816, o2817, hA2818, hb2819, he2820⟩ := hCp0_1.at_ eA3_len (by decide) hx2815
        refine seq_c (s_indexA (v2727).toNat Try.underlying94 Try.sizeOf155 rfl hA2818 rfl (Int.toNat_of_nonneg h1184).symm (lt_n hx2815 rfl) ?_)
        refine seq_c (s_loadBK hI [iv x2814.a, iv x2814.b, iv x2814.c] Try.isAgg155 Try.sizeOf155 rfl rfl hb2819 (by simp) he2820 ?_)
        refine seq_c (s_store hI 0 3 [iv x2814.a, iv x2814.b, iv x2814.c] Try.sizeOf155 rfl rfl rfl rfl rfl (Nat.le_of_ble_eq_true rfl) ?_)
        intro w hI
        refine seq_nil ?_
        exact .inl ⟨rfl, ⟨x2814.a, x2814.b, x2814.c, ⟨rfl, rfl, rfl, rfl, rfl, trivial⟩, hI.pickL [1, 2, 3, 4, 5, 0] (by decide) rfl, hF⟩⟩
       ·
        refine seq_c (s_lss rfl rfl (fun h => absurd (a := v2727 < (lp0_1.length : Int)) h h1183) (fun _ => ?_))
        refine seq_nil (wp_condF rfl (wp_skip ?_))
        exact .inl ⟨rfl, ⟨0, 0, 0, ⟨rfl, rfl, rfl, rfl, rfl, trivial⟩, hI.pickL [1, 2, 3, 4, 5, 0] (by decide) rfl, hF⟩⟩
      ·intro ρ w hJ
       obtain ⟨v2785, v2786, v2787, hag, hI, hF⟩ := hJ
       obtain ⟨ρ, rfl⟩ := hag.form; clear hag
       unfold F54j10 at hF
       refine bindE hF (fun y2788 hy2789 hF => ?_)
       refine ckE hF (fun h1179 hF => ?_)
       refine bindE hF (fun y2790 hy2791 hF => ?_)
       refine ckE hF (fun h1180 hF => ?_)
       refine bindE hF (fun y2792 hy2793 hF => ?_)
       refine gdE hF (fun h1181 hF => ?_)
       replace hI := hI.pickL [0, 1, 3, 5, 2, 4] (by decide) rfl
       refine wp_drawn2 hI [0, 1, 2, 3] (by decide) rfl (by kernel_rfl) (by kernel_rfl) ?_
       intro hsub
       refine alp 0 (.pointer (some ⟨b1515, 1, none⟩)) hsub rfl (by kernel_rfl) (fun _ => (by kernel_rfl)) ?_
       refine alp 2 (.pointer (some ⟨b2777, 0, none⟩)) hsub rfl (by kernel_rfl) (fun _ => (by kernel_rfl)) ?_
       refine al_light 3 (iv v2785) hsub rfl (by kernel_rfl) (fun w hI => s_load1 hI 3 (iv v2785) Try.isAgg3 rfl rfl rfl ⟨rfl, Below.refl _ _⟩) ?_
       refine alp 4 (.pointer (some ⟨b1515, 0, none⟩)) hsub rfl (by kernel_rfl) (fun _ => (by kernel_rfl)) ?_
       refine alp 9 (.pointer (some ⟨b2777, 1, none⟩)) hsub rfl (by kernel_rfl) (fun _ => (by kernel_rfl)) ?_
       refine al_light 10 (iv v2786) hsub rfl (by kernel_rfl) (fun w hI => s_load1 hI 3 (iv v2786) Try.isAgg3 rfl rfl rfl ⟨rfl, Below.refl _ _⟩) ?_
       refine alp 13 (.pointer (some ⟨b2777, 2, none⟩)) hsub rfl (by kernel_rfl) (fun _ => (by kernel_rfl)) ?_
       refine al_light 14 (iv v2787) hsub rfl (by kernel_rfl) (fun w hI => s_load1 hI 3 (iv v2787) Try.isAgg3 rfl rfl rfl ⟨rfl, Below.refl _ _⟩) ?_
       refine any_heavy [1, 5] (by kernel_rfl) rfl (each2 ?_ ?_)
       ·intro w hI
        refine ol_c rfl (s_load1 hI 4 (slv g2723 u2722.length c2724) Try.isAgg23 rfl rfl rfl ?_)
        refine ⟨_, hI, subk (fun _ h => h.pickL [0, 1, 2, 3] (by decide) rfl) ?_⟩
        intro hsub
        refine any_heavy [5] (by kernel_rfl) rfl (each1 ?_)
        intro w hI
        refine ol_c rfl (s_load1 hI 4 (slv g1721 u1720.length c1722) Try.isAgg22 rfl rfl rfl ?_)
        refine ⟨_, hI, subk (fun _ h => h.pickL [0, 1, 2, 3] (by decide) rfl) ?_⟩
        intro hsub
        refine al_light 6 (iv (u1720.length : Int)) hsub rfl (by kernel_rfl) (fun w hI => s_pure (iv ((u1720.length : Nat) : Int)) (by kernel_rfl) ⟨rfl, Below.refl _ _⟩) ?_
        refine al_light 7 (iv y2788) hsub rfl (by kernel_rfl) (fun w hI => s_call 56 [iv v2785, iv (u1720.length : Int)] (by kernel_rfl) (L56 _ v2785 (u1720.length : Int) _ hy2789) (fun v' w' h => h)) ?_
        refine al_light 8 (iv (1 + y2788)) hsub rfl (by kernel_rfl) (fun w hI => s_add rfl rfl h1179 ⟨rfl, Below.refl _ _⟩) ?_
        refine al_light 11 (iv y2790) hsub rfl (by kernel_rfl) (fun w hI => s_call 56 [iv v2786, iv 9] (by kernel_rfl) (L56 _ v2786 9 _ hy2791) (fun v' w' h => h)) ?_
        refine al_light 12 (iv (1 + y2790)) hsub rfl (by kernel_rfl) (fun w hI => s_add rfl rfl h1180 ⟨rfl, Below.refl _ _⟩) ?_
        refine al_light 15 (iv y2792) hsub rfl (by kernel_rfl) (fun w hI => s_call 56 [iv v2787, iv 12] (by kernel_rfl) (L56 _ v2787 12 _ hy2793) (fun v' w' h => h)) ?_
        refine alp 16 (.agg #[iv (1 + y2788), iv (1 + y2790), iv y2792]) hsub rfl (by kernel_rfl) (fun _ => (by kernel_rfl)) ?_
        refine any_heavy [17] (by kernel_rfl) rfl (each1 ?_)
        intro w hI
        refine ol_c rfl (s_new hI [iv (1 + y2788), iv (1 + y2790), iv y2792] 32 (fun b => slv (some b) 1 1) (by kernel_rfl) ?_)
        intro b2799 w hI
        refine ⟨_, hI, subk (fun _ h => h.pickL [1, 2, 3, 4] (by decide) rfl) ?_⟩
        intro hsub
        refine any_heavy [18] (by kernel_rfl) rfl (each1 ?_)
        intro w hI
        refine ol_c rfl (s_appN hI Try.underlying23 (z := .agg #[iv 0, iv 0, iv 0]) (k := 3) (bytes := 24) (by kernel_rfl) rfl rfl 6 rfl rfl r2726 [iv (1 + y2788), iv (1 + y2790), iv y2792] rfl rfl (hI.cells 0 (off := 0) rfl (fun j u h => by rw [Nat.zero_add]; exact h)) (by simp [Value.oneCell']) (by omega) (by omega) (n2 := (u2722 ++ [(⟨1 + y2788, 1 + y2790, y2792⟩ : Ce)]).length) (app_len rfl rfl) ?_)
        intro g2800 c2801 cl2802 w hI r2803
        refine ⟨_, hI, subk (fun _ h => h.pickL [1, 2, 3, 4] (by decide) rfl) ?_⟩
        intro hsub
        have r2803 : Row 3 g2800 ((u2722 ++ [(⟨1 + y2788, 1 + y2790, y2792⟩ : Ce)]).length) c2801 cl2802 (flat eCe (u2722 ++ [(⟨1 + y2788, 1 + y2790, y2792⟩ : Ce)])) := r2803.snoc _ rfl
        refine alp 19 (.pointer (some ⟨b1515, 1, none⟩)) hsub rfl (by kernel_rfl) (fun _ => (by kernel_rfl)) ?_
        refine any_heavy [20] (by kernel_rfl) rfl (each1 ?_)
        intro w hI
        refine ol_c rfl (s_store hI 5 1 [slv g2800 ((u2722 ++ [(⟨1 + y2788, 1 + y2790, y2792⟩ : Ce)]).length) c2801] Try.sizeOf23 rfl rfl rfl rfl rfl (Nat.le_of_ble_eq_true rfl) ?_)
        intro w hI
        refine ⟨_, hI, subk (fun _ h => h.pickL [1, 2, 3, 4] (by decide) rfl) ?_⟩
        intro hsub
        refine any_end (by kernel_rfl) (fun w hI => ?_)
        exact .inl ⟨rfl, ⟨g2800, c2801, cl2802, u2722 ++ [(⟨1 + y2788, 1 + y2790, y2792⟩ : Ce)], ⟨rfl, rfl, rfl, rfl, trivial⟩, hI.pickL [1, 2, 5, 3, 6] (by decide) rfl, (r2803.to rfl rfl), hF⟩⟩
       ·intro w hI
        refine ol_c rfl (s_load1 hI 4 (slv g1721 u1720.length c1722) Try.isAgg22 rfl rfl rfl ?_)
        refine ⟨_, hI, subk (fun _ h => h.pickL [0, 1, 2, 3] (by decide) rfl) ?_⟩
        intro hsub
        refine al_light 6 (iv (u1720.length : Int)) hsub rfl (by kernel_rfl) (fun w hI => s_pure (iv ((u1720.length : Nat) : Int)) (by kernel_rfl) ⟨rfl, Below.refl _ _⟩) ?_
        refine al_light 7 (iv y2788) hsub rfl (by kernel_rfl) (fun w hI => s_call 56 [iv v2785, iv (u1720.length : Int)] (by kernel_rfl) (L56 _ v2785 (u1720.length : Int) _ hy2789) (fun v' w' h => h)) ?_
        refine al_light 8 (iv (1 + y2788)) hsub rfl (by kernel_rfl) (fun w hI => s_add rfl rfl h1179 ⟨rfl, Below.refl _ _⟩) ?_
        refine al_light 11 (iv y2790) hsub rfl (by kernel_rfl) (fun w hI => s_call 56 [iv v2786, iv 9] (by kernel_rfl) (L56 _ v2786 9 _ hy2791) (fun v' w' h => h)) ?_
        refine al_light 12 (iv (1 + y2790)) hsub rfl (by kernel_rfl) (fun w hI => s_add rfl rfl h1180 ⟨rfl, Below.refl _ _⟩) ?_
        refine al_light 15 (iv y2792) hsub rfl (by kernel_rfl) (fun w hI => s_call 56 [iv v2787, iv 12] (by kernel_rfl) (L56 _ v2787 12 _ hy2793) (fun v' w' h => h)) ?_
        refine alp 16 (.agg #[iv (1 + y2788), iv (1 + y2790), iv y2792]) hsub rfl (by kernel_rfl) (fun _ => (by kernel_rfl)) ?_
        refine any_heavy [1, 17] (by kernel_rfl) rfl (each2 ?_ ?_)
        ·intro w hI
         refine ol_c rfl (s_load1 hI 4 (slv g2723 u2722.length c2724) Try.isAgg23 rfl rfl rfl ?_)
         refine ⟨_, hI, subk (fun _ h => h.pickL [0, 1, 2, 3] (by decide) rfl) ?_⟩
         intro hsub
         refine any_heavy [17] (by kernel_rfl) rfl (each1 ?_)
         intro w hI
         refine ol_c rfl (s_new hI [iv (1 + y2788), iv (1 + y2790), iv y2792] 32 (fun b => slv (some b) 1 1) (by kernel_rfl) ?_)
         intro b2804 w hI
         refine ⟨_, hI, subk (fun _ h => h.pickL [1, 2, 3, 4] (by decide) rfl) ?_⟩
         intro hsub
         refine any_heavy [18] (by kernel_rfl) rfl (each1 ?_)
         intro w hI
         refine ol_c rfl (s_appN hI Try.underlying23 (z := .agg #[iv 0, iv 0, iv 0]) (k := 3) (bytes := 24) (by kernel_rfl) rfl rfl 6 rfl rfl r2726 [iv (1 + y2788), iv (1 + y2790), iv y2792] rfl rfl (hI.cells 0 (off := 0) rfl (fun j u h => by rw [Nat.zero_add]; exact h)) (by simp [Value.oneCell']) (by omega) (by omega) (n2 := (u2722 ++ [(⟨1 + y2788, 1 + y2790, y2792⟩ : Ce)]).length) (app_len rfl rfl) ?_)
         intro g2805 c2806 cl2807 w hI r2808
         refine ⟨_, hI, subk (fun _ h => h.pickL [1, 2, 3, 4] (by decide) rfl) ?_⟩
         intro hsub
         have r2808 : Row 3 g2805 ((u2722 ++ [(⟨1 + y2788, 1 + y2790, y2792⟩ : Ce)]).length) c2806 cl2807 (flat eCe (u2722 ++ [(⟨1 + y2788, 1 + y2790, y2792⟩ : Ce)])) := r2808.snoc _ rfl
         refine alp 19 (.pointer (some ⟨b1515, 1, none⟩)) hsub rfl (by kernel_rfl) (fun _ => (by kernel_rfl)) ?_
         refine any_heavy [20] (by kernel_rfl) rfl (each1 ?_)
         intro w hI
         refine ol_c rfl (s_store hI 5 1 [slv g2805 ((u2722 ++ [(⟨1 + y2788, 1 + y2790, y2792⟩ : Ce)]).length) c2806] Try.sizeOf23 rfl rfl rfl rfl rfl (Nat.le_of_ble_eq_true rfl) ?_)
         intro w hI
         refine ⟨_, hI, subk (fun _ h => h.pickL [1, 2, 3, 4] (by decide) rfl) ?_⟩
         intro hsub
         refine any_end (by kernel_rfl) (fun w hI => ?_)
         exact .inl ⟨rfl, ⟨g2805, c2806, cl2807, u2722 ++ [(⟨1 + y2788, 1 + y2790, y2792⟩ : Ce)], ⟨rfl, rfl, rfl, rfl, trivial⟩, hI.pickL [1, 2, 5, 3, 6] (by decide) rfl, (r2808.to rfl rfl), hF⟩⟩
        ·intro w hI
         refine ol_c rfl (s_new hI [iv (1 + y2788), iv (1 + y2790), iv y2792] 32 (fun b => slv (some b) 1 1) (by kernel_rfl) ?_)
         intro b2809 w hI
         refine ⟨_, hI, subk (fun _ h => h.pickL [1, 2, 3, 4] (by decide) rfl) ?_⟩
         intro hsub
         refine any_heavy [1] (by kernel_rfl) rfl (each1 ?_)
         intro w hI
         refine ol_c rfl (s_load1 hI 5 (slv g2723 u2722.length c2724) Try.isAgg23 rfl rfl rfl ?_)
         refine ⟨_, hI, subk (fun _ h => h.pickL [1, 2, 3, 4] (by decide) rfl) ?_⟩
         intro hsub
         refine any_heavy [18] (by kernel_rfl) rfl (each1 ?_)
         intro w hI
         refine ol_c rfl (s_appN hI Try.underlying23 (z := .agg #[iv 0, iv 0, iv 0]) (k := 3) (bytes := 24) (by kernel_rfl) rfl rfl 6 rfl rfl r2726 [iv (1 + y2788), iv (1 + y2790), iv y2792] rfl rfl (hI.cells 0 (off := 0) rfl (fun j u h => by rw [Nat.zero_add]; exact h)) (by simp [Value.oneCell']) (by omega) (by omega) (n2 := (u2722 ++ [(⟨1 + y2788, 1 + y2790, y2792⟩ : Ce)]).length) (app_len rfl rfl) ?_)
         intro g2810 c2811 cl2812 w hI r2813
         refine ⟨_, hI, subk (fun _ h => h.pickL [1, 2, 3, 4] (by decide) rfl) ?_⟩
         intro hsub
         have r2813 : Row 3 g2810 ((u2722 ++ [(⟨1 + y2788, 1 + y2790, y2792⟩ : Ce)]).length) c2811 cl2812 (flat eCe (u2722 ++ [(⟨1 + y2788, 1 + y2790, y2792⟩ : Ce)])) := r2813.snoc _ rfl
         refine alp 19 (.pointer (some ⟨b1515, 1, none⟩)) hsub rfl (by kernel_rfl) (fun _ => (by kernel_rfl)) ?_
         refine any_heavy [20] (by kernel_rfl) rfl (each1 ?_)
         intro w hI
         refine ol_c rfl (s_store hI 5 1 [slv g2810 ((u2722 ++ [(⟨1 + y2788, 1 + y2790, y2792⟩ : Ce)]).length) c2811] Try.sizeOf23 rfl rfl rfl rfl rfl (Nat.le_of_ble_eq_true rfl) ?_)
         intro w hI
         refine ⟨_, hI, subk (fun _ h => h.pickL [1, 2, 3, 4] (by decide) rfl) ?_⟩
         intro hsub
         refine any_end (by kernel_rfl) (fun w hI => ?_)
         exact .inl ⟨rfl, ⟨g2810, c2811, cl2812, u2722 ++ [(⟨1 + y2788, 1 + y2790, y2792⟩ : Ce)], ⟨rfl, rfl, rfl, rfl, trivial⟩, hI.pickL [1, 2, 5, 3, 6] (by decide) rfl, (r2813.to rfl rfl), hF⟩⟩
     ·intro ρ w hJ
      obtain ⟨g2773, c2774, cl2775, u2772, hag, hI, r2776, hF⟩ := hJ
      obtain ⟨ρ, rfl⟩ := hag.form; clear hag
      unfold F54j9 at hF
      refine rgn (by kernel_rfl) (pu (iv v2727) (by kernel_rfl) (ckE hF (fun h1175 hF => ?_)))
      refine seq_c (s_add rfl rfl h1175 ?_)
      refine pu (iv (v2727 + 1)) (by kernel_rfl) (seq_nil ?_)
      exact ⟨rfl, m7, Nat.lt_succ_self _, ⟨g2773, c2774, cl2775, u2772, v2727 + 1, m7, ⟨rfl, rfl, rfl, rfl, trivial⟩, hI.pickL [0, 1, 2, 3, 4] (by decide) rfl, (r2776.to rfl rfl), hF, rfl⟩⟩
    ·
     obtain ⟨hag, hI, hF⟩ := hJ
     obtain ⟨ρ, rfl⟩ := hag.form; clear hag
     unfold F54j11 at hF
     refine wp_condF rfl (wp_exit ?_)
     exact .inl ⟨rfl, ⟨g2723, c2724, cl2725, u2722, ⟨rfl, rfl, rfl, trivial⟩, hI.pickL [0, 1, 2, 3, 4] (by decide) rfl, (r2726.to rfl rfl), hF⟩⟩
  ·intro ρ w hJ
   obtain ⟨g2017, c2018, cl2019, u2016, hag, hI, r2020, hF⟩ := hJ
   obtain ⟨ρ, rfl⟩ := hag.form; clear hag
   unfold F54j2 at hF
   refine wp_seq (rgn (by kernel_rfl) (pu (.slice none 0 0) (by kernel_rfl) (seq_nil (wp_seq (wp_seq (rgn (by kernel_rfl) (pu (iv 0) (by kernel_rfl) (seq_nil (wp_block ?_)))))))))
   have hI := hI.nilRow 34
   refine wp_loop (fun m ρ w => ∃ (g2445 : Option Nat) (c2446 : Nat) (cl2447 : List Value) (u2444 : List Cl) (v2449 : Int) (mm : Nat), Agree ρ [(1, .pointer (some ⟨b1513, 0, none⟩)), (2, .pointer (some ⟨b1514, 0, none⟩)), (4, .pointer (some ⟨b1515, 0, none⟩)), (10, slv g2445 u2444.length c2446), (11, iv v2449)] ∧ Inv [] w0 w [(some b1513, blk [.slice Ap0_0 lp0_0.length cp0_0, .slice Ap0_1 lp0_1.length cp0_1, .slice Ap0_2 lp0_2.length cp0_2] 96), (some b1514, blk [.slice none 0 0, .slice none 0 0] 25), (some b1515, blk [slv g1721 u1720.length c1722, slv g2017 u2016.length c2018] 25), (g1721, blk cl1723 30), (g2017, blk cl2019 32), (g2445, blk cl2447 34)] ∧ (Row 4 g2445 (u2444.length) c2446 cl2447 (flat eCl u2444)) ∧ F54l3 lp0_2 u1720 u2016 mm u2444 v2449 = some r ∧ mm = m) (m := N) ⟨none, 0, [], [], 0, N, ⟨rfl, rfl, rfl, rfl, rfl, trivial⟩, hI.pickL [1, 2, 3, 4, 5, 0] (by decide) rfl, (Row.nil_ 4), hF, rfl⟩ ?_
   rintro m ρ w ⟨g2445, c2446, cl2447, u2444, v2449, mm, hag, hI, r2448, hF, hm⟩
   subst hm; obtain ⟨ρ, rfl⟩ := hag.form; clear hag
   obtain _ | m3 := mm
   ·cases (show (none : Option (List Ch × List Ce × List Cl)) = some r from hF)
   replace hF : F54b3 lp0_2 u1720 u2016 (F54l3 lp0_2 u1720 u2016 m3) u2444 v2449 = some r := hF; unfold F54b3 at hF
   refine wp_seq (wp_cutO (fun ρ w => Agree ρ [(1, .pointer (some ⟨b1513, 0, none⟩)), (2, .pointer (some ⟨b1514, 0, none⟩)), (4, .pointer (some ⟨b1515, 0, none⟩)), (10, slv g2445 u2444.length c2446), (11, iv v2449), (121, .bool true)] ∧ Inv [] w0 w [(some b1513, blk [.slice Ap0_0 lp0_0.length cp0_0, .slice Ap0_1 lp0_1.length cp0_1, .slice Ap0_2 lp0_2.length cp0_2] 96), (some b1514, blk [.slice none 0 0, .slice none 0 0] 25), (some b1515, blk [slv g1721 u1720.length c1722, slv g2017 u2016.length c2018] 25), (g1721, blk cl1723 30), (g2017, blk cl2019 32), (g2445, blk cl2447 34)] ∧ F54j4 lp0_2 (F54l3 lp0_2 u1720 u2016 m3) u2016 u2444 v2449 = some r) ?_ ?_)
   ·
    refine rgn (by kernel_rfl) (pu (iv v2449) (by kernel_rfl) (pu (.pointer (some ⟨b1513, 2, none⟩)) (by kernel_rfl) (seq_c (s_load1 hI 0 (.slice Ap0_2 lp0_2.length cp0_2) Try.isAgg94 rfl rfl rfl ?_))))
    refine pu (iv ((lp0_2.length : Nat) : Int)) (by kernel_rfl) (ifE hF (fun h1097 hF => ?_) (fun h1097 hF => ?_))
    ·
     refine seq_c (s_lss rfl rfl (fun _ => ?_) (fun h => absurd (a := v2449 < (lp0_2.length : Int)) h1097 h))
     refine pu (.bool true) (by kernel_rfl) (puo (iv v2449) ⟨(by kernel_rfl), (by kernel_rfl)⟩ (ifE hF (fun h1098 hF => ?_) (fun h1098 hF => ?_)))
     ·
      refine seq_on (by kernel_rfl) (s_lss rfl rfl (fun _ => ?_) (fun h => absurd (a := v2449 < 6) h1098 h))
      refine pu (.bool true) (by kernel_rfl) (pu (.bool true) (by kernel_rfl) (of_ (by kernel_rfl) (of_ (by kernel_rfl) (pu (.bool true) (by kernel_rfl) (seq_nil ?_)))))
      exact .inl ⟨rfl, ⟨⟨rfl, rfl, rfl, rfl, rfl, rfl, trivial⟩, hI.pickL [0, 1, 2, 3, 4, 5] (by decide) rfl, hF⟩⟩
     ·
      refine seq_on (by kernel_rfl) (s_lss rfl rfl (fun h => absurd (a := v2449 < 6) h h1098) (fun _ => ?_))
      refine pu (.bool false) (by kernel_rfl) (pu (.bool false) (by kernel_rfl) (puo (iv v2449) ⟨(by kernel_rfl), (by kernel_rfl)⟩ (ifE hF (fun h1099 hF => ?_) (fun h1099 hF => ?_))))
      ·
       refine seq_on (by kernel_rfl) (s_eql rfl rfl (fun _ => ?_) (fun h => absurd (a := v2449 = 0) h1099 h))
       refine pu (.bool true) (by kernel_rfl) (seq_nil ?_)
       exact .inl ⟨rfl, ⟨⟨rfl, rfl, rfl, rfl, rfl, rfl, trivial⟩, hI.pickL [0, 1, 2, 3, 4, 5] (by decide) rfl, hF⟩⟩
      ·
       refine seq_on (by kernel_rfl) (s_eql rfl rfl (fun h => absurd (a := v2449 = 0) h h1099) (fun _ => ?_))
       refine pu (.bool false) (by kernel_rfl) (seq_nil (.inr ?_))
       refine wp_condF rfl (wp_exit ?_)
       refine wp_seq (rgn (by kernel_rfl) (seq_c (s_loadK hI 2 2 [slv g1721 u1720.length c1722, slv g2017 u2016.length c2018] Try.isAgg25 Try.sizeOf25 rfl rfl rfl rfl ?_)))
       refine pu (slv g2445 u2444.length c2446) (by kernel_rfl) (seq_c (s_store hI 1 2 [slv g1721 u1720.length c1722, slv g2017 u2016.length c2018] Try.sizeOf25 rfl rfl rfl rfl rfl (Nat.le_of_ble_eq_true rfl) ?_))
       intro w hI
       refine pu (slv g2445 u2444.length c2446) (by kernel_rfl) (seq_nil (wp_ret ?_))
       replace hF := Option.some.inj hF; subst hF
       exact ⟨.tuple #[.agg #[slv g1721 u1720.length c1722, slv g2017 u2016.length c2018], slv g2445 u2444.length c2446], Ret.ct rfl rfl (run_loadK hI 1 2 [slv g1721 u1720.length c1722, slv g2017 u2016.length c2018] Try.isAgg25 Try.sizeOf25 rfl rfl rfl) rfl, ⟨g1721, c1722, cl1723, g2017, c2018, cl2019, g2445, c2446, cl2447, rfl, hI.pickL [3, 4, 5] (by decide) rfl, r1724.to rfl rfl, r2020.to rfl rfl, r2448.to rfl rfl⟩⟩
    ·
     refine seq_c (s_lss rfl rfl (fun h => absurd (a := v2449 < (lp0_2.length : Int)) h h1097) (fun _ => ?_))
     refine pu (.bool false) (by kernel_rfl) (of_ (by kernel_rfl) (of_ (by kernel_rfl) (pu (.bool false) (by kernel_rfl) (pu (.bool false) (by kernel_rfl) (puo (iv v2449) ⟨(by kernel_rfl), (by kernel_rfl)⟩ (ifE hF (fun h1100 hF => ?_) (fun h1100 hF => ?_)))))))
     ·
      refine seq_on (by kernel_rfl) (s_eql rfl rfl (fun _ => ?_) (fun h => absurd (a := v2449 = 0) h1100 h))
      refine pu (.bool true) (by kernel_rfl) (seq_nil ?_)
      exact .inl ⟨rfl, ⟨⟨rfl, rfl, rfl, rfl, rfl, rfl, trivial⟩, hI.pickL [0, 1, 2, 3, 4, 5] (by decide) rfl, hF⟩⟩
     ·
      refine seq_on (by kernel_rfl) (s_eql rfl rfl (fun h => absurd (a := v2449 = 0) h h1100) (fun _ => ?_))
      refine pu (.bool false) (by kernel_rfl) (seq_nil (.inr ?_))
      refine wp_condF rfl (wp_exit ?_)
      refine wp_seq (rgn (by kernel_rfl) (seq_c (s_loadK hI 2 2 [slv g1721 u1720.length c1722, slv g2017 u2016.length c2018] Try.isAgg25 Try.sizeOf25 rfl rfl rfl rfl ?_)))
      refine pu (slv g2445 u2444.length c2446) (by kernel_rfl) (seq_c (s_store hI 1 2 [slv g1721 u1720.length c1722, slv g2017 u2016.length c2018] Try.sizeOf25 rfl rfl rfl rfl rfl (Nat.le_of_ble_eq_true rfl) ?_))
      intro w hI
      refine pu (slv g2445 u2444.length c2446) (by kernel_rfl) (seq_nil (wp_ret ?_))
      replace hF := Option.some.inj hF; subst hF
      exact ⟨.tuple #[.agg #[slv g1721 u1720.length c1722, slv g2017 u2016.length c2018], slv g2445 u2444.length c2446], Ret.ct rfl rfl (run_loadK hI 1 2 [slv g1721 u1720.length c1722, slv g2017 u2016.length c2018] Try.isAgg25 Try.sizeOf25 rfl rfl rfl) rfl, ⟨g1721, c1722, cl1723, g2017, c2018, cl2019, g2445, c2446, cl2447, rfl, hI.pickL [3, 4, 5] (by decide) rfl, r1724.to rfl rfl, r2020.to rfl rfl, r2448.to rfl rfl⟩⟩
   ·intro ρ w hJ
    obtain ⟨hag, hI, hF⟩ := hJ
    obtain ⟨ρ, rfl⟩ := hag.form; clear hag
    unfold F54j4 at hF
    refine wp_condT rfl (wp_skip (wp_seq (wp_block ?_)))
    refine wp_seq (rgn (by kernel_rfl) (pu (.agg #[iv 0, iv 0, iv 0]) (by kernel_rfl) (seq_c (s_allocI hI [iv 0, iv 0, iv 0] Try.zeroValue155 rfl ?_))))
    intro b2490 w hI
    refine seq_c (s_store hI 0 3 [iv 0, iv 0, iv 0] Try.sizeOf155 rfl rfl rfl rfl rfl (Nat.le_of_ble_eq_true rfl) ?_)
    intro w hI
    refine seq_nil (wp_cutO (fun ρ w => ∃ (v2498 : Int) (v2499 : Int) (v2500 : Int), Agree ρ [(1, .pointer (some ⟨b1513, 0, none⟩)), (2, .pointer (some ⟨b1514, 0, none⟩)), (4, .pointer (some ⟨b1515, 0, none⟩)), (10, slv g2445 u2444.length c2446), (11, iv v2449), (12, .pointer (some ⟨b2490, 0, none⟩))] ∧ Inv [] w0 w [(some b1513, blk [.slice Ap0_0 lp0_0.length cp0_0, .slice Ap0_1 lp0_1.length cp0_1, .slice Ap0_2 lp0_2.length cp0_2] 96), (some b1514, blk [.slice none 0 0, .slice none 0 0] 25), (some b1515, blk [slv g1721 u1720.length c1722, slv g2017 u2016.length c2018] 25), (g1721, blk cl1723 30), (g2017, blk cl2019 32), (g2445, blk cl2447 34), (some b2490, blk [iv v2498, iv v2499, iv v2500] 155)] ∧ F54j5 (F54l3 lp0_2 u1720 u2016 m3) u2016 u2444 v2449 v2498 v2499 v2500 = some r) ?_ ?_)
    ·
     refine wp_seq (rgn (by kernel_rfl) (pu (iv v2449) (by kernel_rfl) (pu (.pointer (some ⟨b1513, 2, none⟩)) (by kernel_rfl) (seq_c (s_load1 hI 1 (.slice Ap0_2 lp0_2.length cp0_2) Try.isAgg94 rfl rfl rfl ?_)))))
     refine pu (iv ((lp0_2.length : Nat) : Int)) (by kernel_rfl) (ifE hF (fun h1095 hF => ?_) (fun h1095 hF => ?_))
     ·
      refine seq_c (s_lss rfl rfl (fun _ => ?_) (fun h => absurd (a := v2449 < (lp0_2.length : Int)) h1095 h))
      refine seq_nil (wp_condT rfl (rgn (by kernel_rfl) (pu (.pointer (some ⟨b1513, 2, none⟩)) (by kernel_rfl) (seq_c (s_load1 hI 1 (.slice Ap0_2 lp0_2.length cp0_2) Try.isAgg94 rfl rfl rfl ?_)))))
      refine pu (iv v2449) (by kernel_rfl) (gdE hF (fun h1096 hF => ?_))
      refine bindE hF (fun x2523 hx2524 hF => ?_)
      obtain ⟨b2525, o2526, hA2527, hb2528, he2529⟩ := hCp0_2.at_ eA3_len (by decide) hx2524
      refine seq_c (s_indexA (v2449).toNat Try.underlying94 Try.sizeOf155 rfl hA2527 rfl (Int.toNat_of_nonneg h1096).symm (lt_n hx2524 rfl) ?_)
      refine seq_c (s_loadBK hI [iv x2523.a, iv x2523.b, iv x2523.c] Try.isAgg155 Try.sizeOf155 rfl rfl hb2528 (by simp) he2529 ?_)
      refine seq_c (s_store hI 0 3 [iv x2523.a, iv x2523.b, iv x2523.c] Try.sizeOf155 rfl rfl rfl rfl rfl (Nat.le_of_ble_eq_true rfl) ?_)
      intro w hI
      refine seq_nil ?_
      exact .inl ⟨rfl, ⟨x2523.a, x2523.b, x2523.c, ⟨rfl, rfl, rfl, rfl, rfl, rfl, trivial⟩, hI.pickL [1, 2, 3, 4, 5, 6, 0] (by decide) rfl, hF⟩⟩
     ·
      refine seq_c (s_lss rfl rfl (fun h => absurd (a := v2449 < (lp0_2.length : Int)) h h1095) (fun _ => ?_))
      refine seq_nil (wp_condF rfl (wp_skip ?_))
      exact .inl ⟨rfl, ⟨0, 0, 0, ⟨rfl, rfl, rfl, rfl, rfl, rfl, trivial⟩, hI.pickL [1, 2, 3, 4, 5, 6, 0] (by decide) rfl, hF⟩⟩
    ·intro ρ w hJ
     obtain ⟨v2498, v2499, v2500, hag, hI, hF⟩ := hJ
     obtain ⟨ρ, rfl⟩ := hag.form; clear hag
     unfold F54j5 at hF
     refine wp_seq (ckE hF (fun h1085 hF => ?_))
     refine ckE hF (fun h1086 hF => ?_)
     refine bindE hF (fun y2507 hy2508 hF => ?_)
     refine ckE hF (fun h1087 hF => ?_)
     refine bindE hF (fun y2509 hy2510 hF => ?_)
     refine wp_drawn2 hI [0, 1, 2, 3, 4, 5, 6] (by decide) rfl (by kernel_rfl) (by kernel_rfl) ?_
     intro hsub
     refine alp 0 (iv v2449) hsub rfl (by kernel_rfl) (fun _ => (by kernel_rfl)) ?_
     refine al_light 1 (iv (2 * v2449)) hsub rfl (by kernel_rfl) (fun w hI => s_mul rfl rfl h1085 ⟨rfl, Below.refl _ _⟩) ?_
     refine al_light 2 (iv (3 + (2 * v2449))) hsub rfl (by kernel_rfl) (fun w hI => s_add rfl rfl h1086 ⟨rfl, Below.refl _ _⟩) ?_
     refine alp 3 (.pointer (some ⟨b2490, 0, none⟩)) hsub rfl (by kernel_rfl) (fun _ => (by kernel_rfl)) ?_
     refine al_light 4 (iv v2498) hsub rfl (by kernel_rfl) (fun w hI => s_load1 hI 6 (iv v2498) Try.isAgg3 rfl rfl rfl ⟨rfl, Below.refl _ _⟩) ?_
     refine al_light 5 (iv y2507) hsub rfl (by kernel_rfl) (fun w hI => s_call 56 [iv v2498, iv 4] (by kernel_rfl) (L56 _ v2498 4 _ hy2508) (fun v' w' h => h)) ?_
     refine al_light 6 (iv (1 + y2507)) hsub rfl (by kernel_rfl) (fun w hI => s_add rfl rfl h1087 ⟨rfl, Below.refl _ _⟩) ?_
     refine alp 7 (.pointer (some ⟨b2490, 1, none⟩)) hsub rfl (by kernel_rfl) (fun _ => (by kernel_rfl)) ?_
     refine al_light 8 (iv v2499) hsub rfl (by kernel_rfl) (fun w hI => s_load1 hI 6 (iv v2499) Try.isAgg3 rfl rfl rfl ⟨rfl, Below.refl _ _⟩) ?_
     refine alp 9 (.pointer (some ⟨b1515, 1, none⟩)) hsub rfl (by kernel_rfl) (fun _ => (by kernel_rfl)) ?_
     refine al_light 10 (slv g2017 u2016.length c2018) hsub rfl (by kernel_rfl) (fun w hI => s_load1 hI 2 (slv g2017 u2016.length c2018) Try.isAgg23 rfl rfl rfl ⟨rfl, Below.refl _ _⟩) ?_
     refine al_light 11 (iv (u2016.length : Int)) hsub rfl (by kernel_rfl) (fun w hI => s_pure (iv ((u2016.length : Nat) : Int)) (by kernel_rfl) ⟨rfl, Below.refl _ _⟩) ?_
     refine al_light 12 (iv y2509) hsub rfl (by kernel_rfl) (fun w hI => s_call 56 [iv v2499, iv (u2016.length : Int)] (by kernel_rfl) (L56 _ v2499 (u2016.length : Int) _ hy2510) (fun v' w' h => h)) ?_
     refine alp 13 (.agg #[iv (3 + (2 * v2449)), iv (1 + y2507), iv y2509, iv 0]) hsub rfl (by kernel_rfl) (fun _ => (by kernel_rfl)) ?_
     refine any_heavy [14] (by kernel_rfl) rfl (each1 ?_)
     intro w hI
     refine ol_c rfl (s_allocI hI [iv 0, iv 0, iv 0, iv 0] Try.zeroValue34 rfl ?_)
     intro b2512 w hI
     refine ⟨_, hI, subk (fun _ h => h.pickL [1, 2, 3, 4, 5, 6, 7] (by decide) rfl) ?_⟩
     intro hsub
     refine any_heavy [15] (by kernel_rfl) rfl (each1 ?_)
     intro w hI
     refine ol_c rfl (s_store hI 0 4 [iv (3 + (2 * v2449)), iv (1 + y2507), iv y2509, iv 0] Try.sizeOf34 rfl rfl rfl rfl rfl (Nat.le_of_ble_eq_true rfl) ?_)
     intro w hI
     refine ⟨_, hI, subk (fun _ h => h.pickL [1, 2, 3, 4, 5, 6, 7] (by decide) rfl) ?_⟩
     intro hsub
     refine any_end (by kernel_rfl) (fun w hI => ?_)
     refine wp_cutO (fun ρ w => ∃ (v2515 : Int), Agree ρ [(1, .pointer (some ⟨b1513, 0, none⟩)), (2, .pointer (some ⟨b1514, 0, none⟩)), (4, .pointer (some ⟨b1515, 0, none⟩)), (10, slv g2445 u2444.length c2446), (11, iv v2449), (13, .pointer (some ⟨b2512, 0, none⟩))] ∧ Inv [] w0 w [(some b1513, blk [.slice Ap0_0 lp0_0.length cp0_0, .slice Ap0_1 lp0_1.length cp0_1, .slice Ap0_2 lp0_2.length cp0_2] 96), (some b1514, blk [.slice none 0 0, .slice none 0 0] 25), (some b1515, blk [slv g1721 u1720.length c1722, slv g2017 u2016.length c2018] 25), (g1721, blk cl1723 30), (g2017, blk cl2019 32), (g2445, blk cl2447 34), (some b2512, blk [iv (3 + (2 * v2449)), iv (1 + y2507), iv y2509, iv v2515] 34)] ∧ F54j6 (F54l3 lp0_2 u1720 u2016 m3) u2444 v2449 y2507 y2509 v2515 = some r) ?_ ?_
     ·
      refine ckE hF (fun h1092 hF => ?_)
      refine bindE hF (fun y2521 hy2522 hF => ?_)
      refine ckE hF (fun h1093 hF => ?_)
      replace hI := hI.pickL [1, 2, 3, 4, 5, 6, 7, 0] (by decide) rfl
      refine wp_drawn2 hI [0, 1, 2, 3, 4, 5, 6] (by decide) rfl (by kernel_rfl) (by kernel_rfl) ?_
      intro hsub
      refine alp 0 (.pointer (some ⟨b2512, 2, none⟩)) hsub rfl (by kernel_rfl) (fun _ => (by kernel_rfl)) ?_
      refine alp 2 (.pointer (some ⟨b2490, 2, none⟩)) hsub rfl (by kernel_rfl) (fun _ => (by kernel_rfl)) ?_
      refine al_light 3 (iv v2500) hsub rfl (by kernel_rfl) (fun w hI => s_load1 hI 6 (iv v2500) Try.isAgg3 rfl rfl rfl ⟨rfl, Below.refl _ _⟩) ?_
      refine alp 4 (.pointer (some ⟨b1515, 1, none⟩)) hsub rfl (by kernel_rfl) (fun _ => (by kernel_rfl)) ?_
      refine al_light 5 (slv g2017 u2016.length c2018) hsub rfl (by kernel_rfl) (fun w hI => s_load1 hI 2 (slv g2017 u2016.length c2018) Try.isAgg23 rfl rfl rfl ⟨rfl, Below.refl _ _⟩) ?_
      refine al_light 6 (iv (u2016.length : Int)) hsub rfl (by kernel_rfl) (fun w hI => s_pure (iv ((u2016.length : Nat) : Int)) (by kernel_rfl) ⟨rfl, Below.refl _ _⟩) ?_
      refine alp 7 (.pointer (some ⟨b2512, 2, none⟩)) hsub rfl (by kernel_rfl) (fun _ => (by kernel_rfl)) ?_
      refine any_heavy [1, 8] (by kernel_rfl) rfl (each2 ?_ ?_)
      ·intro w hI
       refine ol_c rfl (s_load1 hI 7 (iv y2509) Try.isAgg3 rfl rfl rfl ?_)
       refine ⟨_, hI, subk (fun _ h => h.pickL [0, 1, 2, 3, 4, 5, 6] (by decide) rfl) ?_⟩
       intro hsub
       refine any_heavy [8] (by kernel_rfl) rfl (each1 ?_)
       intro w hI
       refine ol_c rfl (s_load1 hI 7 (iv y2509) Try.isAgg3 rfl rfl rfl ?_)
       refine ⟨_, hI, subk (fun _ h => h.pickL [0, 1, 2, 3, 4, 5, 6] (by decide) rfl) ?_⟩
       intro hsub
       refine al_light 9 (iv ((u2016.length : Int) - y2509)) hsub rfl (by kernel_rfl) (fun w hI => s_sub rfl rfl h1092 ⟨rfl, Below.refl _ _⟩) ?_
       refine al_light 10 (iv y2521) hsub rfl (by kernel_rfl) (fun w hI => s_call 56 [iv v2500, iv ((u2016.length : Int) - y2509)] (by kernel_rfl) (L56 _ v2500 ((u2016.length : Int) - y2509) _ hy2522) (fun v' w' h => h)) ?_
       refine al_light 11 (iv (y2509 + y2521)) hsub rfl (by kernel_rfl) (fun w hI => s_add rfl rfl h1093 ⟨rfl, Below.refl _ _⟩) ?_
       refine alp 12 (.pointer (some ⟨b2512, 3, none⟩)) hsub rfl (by kernel_rfl) (fun _ => (by kernel_rfl)) ?_
       refine any_heavy [13] (by kernel_rfl) rfl (each1 ?_)
       intro w hI
       refine ol_c rfl (s_store hI 7 1 [iv (y2509 + y2521)] Try.sizeOf3 rfl rfl rfl rfl rfl (Nat.le_of_ble_eq_true rfl) ?_)
       intro w hI
       refine ⟨_, hI, subk (fun _ h => h.pickL [0, 1, 2, 3, 4, 5, 6] (by decide) rfl) ?_⟩
       intro hsub
       refine any_end (by kernel_rfl) (fun w hI => ?_)
       exact .inl ⟨rfl, ⟨y2509 + y2521, ⟨rfl, rfl, rfl, rfl, rfl, rfl, trivial⟩, hI.pickL [0, 1, 2, 3, 4, 5, 7] (by decide) rfl, hF⟩⟩
      ·intro w hI
       refine ol_c rfl (s_load1 hI 7 (iv y2509) Try.isAgg3 rfl rfl rfl ?_)
       refine ⟨_, hI, subk (fun _ h => h.pickL [0, 1, 2, 3, 4, 5, 6] (by decide) rfl) ?_⟩
       intro hsub
       refine al_light 9 (iv ((u2016.length : Int) - y2509)) hsub rfl (by kernel_rfl) (fun w hI => s_sub rfl rfl h1092 ⟨rfl, Below.refl _ _⟩) ?_
       refine al_light 10 (iv y2521) hsub rfl (by kernel_rfl) (fun w hI => s_call 56 [iv v2500, iv ((u2016.length : Int) - y2509)] (by kernel_rfl) (L56 _ v2500 ((u2016.length : Int) - y2509) _ hy2522) (fun v' w' h => h)) ?_
       refine any_heavy [1] (by kernel_rfl) rfl (each1 ?_)
       intro w hI
       refine ol_c rfl (s_load1 hI 7 (iv y2509) Try.isAgg3 rfl rfl rfl ?_)
       refine ⟨_, hI, subk (fun _ h => h.pickL [0, 1, 2, 3, 4, 5, 6] (by decide) rfl) ?_⟩
       intro hsub
       refine al_light 11 (iv (y2509 + y2521)) hsub rfl (by kernel_rfl) (fun w hI => s_add rfl rfl h1093 ⟨rfl, Below.refl _ _⟩) ?_
       refine alp 12 (.pointer (some ⟨b2512, 3, none⟩)) hsub rfl (by kernel_rfl) (fun _ => (by kernel_rfl)) ?_
       refine any_heavy [13] (by kernel_rfl) rfl (each1 ?_)
       intro w hI
       refine ol_c rfl (s_store hI 7 1 [iv (y2509 + y2521)] Try.sizeOf3 rfl rfl rfl rfl rfl (Nat.le_of_ble_eq_true rfl) ?_)
       intro w hI
       refine ⟨_, hI, subk (fun _ h => h.pickL [0, 1, 2, 3, 4, 5, 6] (by decide) rfl) ?_⟩
       intro hsub
       refine any_end (by kernel_rfl) (fun w hI => ?_)
       exact .inl ⟨rfl, ⟨y2509 + y2521, ⟨rfl, rfl, rfl, rfl, rfl, rfl, trivial⟩, hI.pickL [0, 1, 2, 3, 4, 5, 7] (by decide) rfl, hF⟩⟩
     ·intro ρ w hJ
      obtain ⟨v2515, hag, hI, hF⟩ := hJ
      obtain ⟨ρ, rfl⟩ := hag.form; clear hag
      unfold F54j6 at hF
      refine rgn (by kernel_rfl) (pu (slv g2445 u2444.length c2446) (by kernel_rfl) (seq_c (s_loadK hI 6 4 [iv (3 + (2 * v2449)), iv (1 + y2507), iv y2509, iv v2515] Try.isAgg34 Try.sizeOf34 rfl rfl rfl rfl ?_)))
      refine seq_c (s_new hI [iv (3 + (2 * v2449)), iv (1 + y2507), iv y2509, iv v2515] 34 (fun b => slv (some b) 1 1) (by kernel_rfl) ?_)
      intro b2516 w hI
      refine gdE hF (fun h1090 hF => ?_)
      refine seq_c (s_appN hI Try.underlying26 (z := .agg #[iv 0, iv 0, iv 0, iv 0]) (k := 4) (bytes := 32) (by kernel_rfl) rfl rfl 6 rfl rfl r2448 [iv (3 + (2 * v2449)), iv (1 + y2507), iv y2509, iv v2515] rfl rfl (hI.cells 0 (off := 0) rfl (fun j u h => by rw [Nat.zero_add]; exact h)) (by simp [Value.oneCell']) (by omega) (by omega) (n2 := (u2444 ++ [(⟨3 + (2 * v2449), 1 + y2507, y2509, v2515⟩ : Cl)]).length) (app_len rfl rfl) ?_)
      intro g2517 c2518 cl2519 w hI r2520
      have r2520 : Row 4 g2517 ((u2444 ++ [(⟨3 + (2 * v2449), 1 + y2507, y2509, v2515⟩ : Cl)]).length) c2518 cl2519 (flat eCl (u2444 ++ [(⟨3 + (2 * v2449), 1 + y2507, y2509, v2515⟩ : Cl)])) := r2520.snoc _ rfl
      refine pu (slv g2517 ((u2444 ++ [(⟨3 + (2 * v2449), 1 + y2507, y2509, v2515⟩ : Cl)]).length) c2518) (by kernel_rfl) (seq_nil (rgn (by kernel_rfl) (pu (iv v2449) (by kernel_rfl) (ckE hF (fun h1091 hF => ?_)))))
      refine seq_c (s_add rfl rfl h1091 ?_)
      refine pu (iv (v2449 + 1)) (by kernel_rfl) (seq_nil ?_)
      exact ⟨rfl, m3, Nat.lt_succ_self _, ⟨g2517, c2518, cl2519, u2444 ++ [(⟨3 + (2 * v2449), 1 + y2507, y2509, v2515⟩ : Cl)], v2449 + 1, m3, ⟨rfl, rfl, rfl, rfl, rfl, trivial⟩, hI.pickL [1, 2, 3, 4, 5, 6] (by decide) rfl, (r2520.to rfl rfl), hF, rfl⟩⟩


theorem L55 (w0 : World) (Ap0_0 : Option Addr) (cp0_0 : Nat) (lp0_0 : List Ch) (Ap0_1 : Option Addr) (cp0_1 : Nat) (lp0_1 : List Ce) (p1 : A2) (hCp0_0 : Cells w0 Ap0_0 (flat eCh lp0_0)) (hMp0_0 : lp0_0.length ≤ 9223372036854775807) (hKp0_0 : lp0_0.length ≤ cp0_0) (hCp0_1 : Cells w0 Ap0_1 (flat eCe lp0_1)) (hMp0_1 : lp0_1.length ≤ 9223372036854775807) (hKp0_1 : lp0_1.length ≤ cp0_1) (r : (Int × Int)) (hF : F55 lp0_0 lp0_1 p1 = some r) : Does Try.prog 55 [.agg #[.slice Ap0_0 lp0_0.length cp0_0, .slice Ap0_1 lp0_1.length cp0_1], .agg #[.int .i64 p1.a, .int .i64 p1.b]] w0 fun v w => v = .agg #[.int .i64 r.1, .int .i64 r.2] ∧ Below w0.heap.size w0 w := by
 refine calls_of (n := 27) Try.func55 rfl Try.ntmps55 rfl ?_
 have hI := Inv.start w0
 unfold F55 at hF
 refine wp_seq (rgn (by kernel_rfl) (seq_c (s_boxI hI [.slice Ap0_0 lp0_0.length cp0_0, .slice Ap0_1 lp0_1.length cp0_1] rfl ?_)))
 intro b15 w hI
 refine seq_c (s_boxI hI [iv p1.a, iv p1.b] rfl ?_)
 intro b16 w hI
 refine seq_c (s_allocI hI [iv 0, iv 0] Try.zeroValue49 rfl ?_)
 intro b17 w hI
 refine seq_nil (wp_seq (rgn (by kernel_rfl) (pu (.pointer (some ⟨b16, 0, none⟩)) (by kernel_rfl) (seq_c (s_load1 hI 1 (iv p1.a) Try.isAgg3 rfl rfl rfl ?_)))))
 refine pu (.pointer (some ⟨b15, 1, none⟩)) (by kernel_rfl) (seq_c (s_load1 hI 2 (.slice Ap0_1 lp0_1.length cp0_1) Try.isAgg23 rfl rfl rfl ?_))
 refine pu (iv ((lp0_1.length : Nat) : Int)) (by kernel_rfl) (bindE hF (fun y21 hy22 hF => ?_))
 refine seq_c (s_callv hI 56 [iv p1.a, iv (lp0_1.length : Int)] (iv y21) (by kernel_rfl) (L56 _ p1.a (lp0_1.length : Int) _ hy22) ?_)
 intro w hI
 refine pu (.agg #[iv y21, iv 0]) (by kernel_rfl) (seq_c (s_allocI hI [iv 0, iv 0] Try.zeroValue49 rfl ?_))
 intro b23 w hI
 refine seq_c (s_store hI 0 2 [iv y21, iv 0] Try.sizeOf49 rfl rfl rfl rfl rfl (Nat.le_of_ble_eq_true rfl) ?_)
 intro w hI
 refine seq_nil (wp_seq (ckE hF (fun h7 hF => ?_)))
 refine bindE hF (fun y27 hy28 hF => ?_)
 refine ckE hF (fun h8 hF => ?_)
 replace hI := hI.pickL [1, 2, 3, 0] (by decide) rfl
 refine wp_drawn2 hI [0, 1, 2] (by decide) rfl (by kernel_rfl) (by kernel_rfl) ?_
 intro hsub
 refine alp 0 (.pointer (some ⟨b23, 0, none⟩)) hsub rfl (by kernel_rfl) (fun _ => (by kernel_rfl)) ?_
 refine alp 2 (.pointer (some ⟨b16, 1, none⟩)) hsub rfl (by kernel_rfl) (fun _ => (by kernel_rfl)) ?_
 refine al_light 3 (iv p1.b) hsub rfl (by kernel_rfl) (fun w hI => s_load1 hI 1 (iv p1.b) Try.isAgg3 rfl rfl rfl ⟨rfl, Below.refl _ _⟩) ?_
 refine alp 4 (.pointer (some ⟨b15, 1, none⟩)) hsub rfl (by kernel_rfl) (fun _ => (by kernel_rfl)) ?_
 refine al_light 5 (.slice Ap0_1 lp0_1.length cp0_1) hsub rfl (by kernel_rfl) (fun w hI => s_load1 hI 2 (.slice Ap0_1 lp0_1.length cp0_1) Try.isAgg23 rfl rfl rfl ⟨rfl, Below.refl _ _⟩) ?_
 refine al_light 6 (iv (lp0_1.length : Int)) hsub rfl (by kernel_rfl) (fun w hI => s_pure (iv ((lp0_1.length : Nat) : Int)) (by kernel_rfl) ⟨rfl, Below.refl _ _⟩) ?_
 refine alp 7 (.pointer (some ⟨b23, 0, none⟩)) hsub rfl (by kernel_rfl) (fun _ => (by kernel_rfl)) ?_
 refine any_heavy [1, 8] (by kernel_rfl) rfl (each2 ?_ ?_)
 ·intro w hI
  refine ol_c rfl (s_load1 hI 3 (iv y21) Try.isAgg3 rfl rfl rfl ?_)
  refine ⟨_, hI, subk (fun _ h => h.pickL [0, 1, 2] (by decide) rfl) ?_⟩
  intro hsub
  refine any_heavy [8] (by kernel_rfl) rfl (each1 ?_)
  intro w hI
  refine ol_c rfl (s_load1 hI 3 (iv y21) Try.isAgg3 rfl rfl rfl ?_)
  refine ⟨_, hI, subk (fun _ h => h.pickL [0, 1, 2] (by decide) rfl) ?_⟩
  intro hsub
  refine al_light 9 (iv ((lp0_1.length : Int) - y21)) hsub rfl (by kernel_rfl) (fun w hI => s_sub rfl rfl h7 ⟨rfl, Below.refl _ _⟩) ?_
  refine al_light 10 (iv y27) hsub rfl (by kernel_rfl) (fun w hI => s_call 56 [iv p1.b, iv ((lp0_1.length : Int) - y21)] (by kernel_rfl) (L56 _ p1.b ((lp0_1.length : Int) - y21) _ hy28) (fun v' w' h => h)) ?_
  refine al_light 11 (iv (y21 + y27)) hsub rfl (by kernel_rfl) (fun w hI => s_add rfl rfl h8 ⟨rfl, Below.refl _ _⟩) ?_
  refine alp 12 (.pointer (some ⟨b23, 1, none⟩)) hsub rfl (by kernel_rfl) (fun _ => (by kernel_rfl)) ?_
  refine any_heavy [13] (by kernel_rfl) rfl (each1 ?_)
  intro w hI
  refine ol_c rfl (s_store hI 3 1 [iv (y21 + y27)] Try.sizeOf3 rfl rfl rfl rfl rfl (Nat.le_of_ble_eq_true rfl) ?_)
  intro w hI
  refine ⟨_, hI, subk (fun _ h => h.pickL [0, 1, 2] (by decide) rfl) ?_⟩
  intro hsub
  refine any_end (by kernel_rfl) (fun w hI => ?_)
  refine wp_seq (rgn (by kernel_rfl) (seq_c (s_loadK hI 3 2 [iv y21, iv (y21 + y27)] Try.isAgg49 Try.sizeOf49 rfl rfl rfl rfl ?_)))
  refine seq_c (s_store hI 0 2 [iv y21, iv (y21 + y27)] Try.sizeOf49 rfl rfl rfl rfl rfl (Nat.le_of_ble_eq_true rfl) ?_)
  intro w hI
  refine seq_nil (wp_ret ?_)
  replace hF := Option.some.inj hF; subst hF
  exact ⟨.agg #[iv y21, iv (y21 + y27)], Ret.c rfl rfl (run_loadK hI 0 2 [iv y21, iv (y21 + y27)] Try.isAgg49 Try.sizeOf49 rfl rfl rfl), ⟨rfl, hI.below⟩⟩
 ·intro w hI
  refine ol_c rfl (s_load1 hI 3 (iv y21) Try.isAgg3 rfl rfl rfl ?_)
  refine ⟨_, hI, subk (fun _ h => h.pickL [0, 1, 2] (by decide) rfl) ?_⟩
  intro hsub
  refine al_light 9 (iv ((lp0_1.length : Int) - y21)) hsub rfl (by kernel_rfl) (fun w hI => s_sub rfl rfl h7 ⟨rfl, Below.refl _ _⟩) ?_
  refine al_light 10 (iv y27) hsub rfl (by kernel_rfl) (fun w hI => s_call 56 [iv p1.b, iv ((lp0_1.length : Int) - y21)] (by kernel_rfl) (L56 _ p1.b ((lp0_1.length : Int) - y21) _ hy28) (fun v' w' h => h)) ?_
  refine any_heavy [1] (by kernel_rfl) rfl (each1 ?_)
  intro w hI
  refine ol_c rfl (s_load1 hI 3 (iv y21) Try.isAgg3 rfl rfl rfl ?_)
  refine ⟨_, hI, subk (fun _ h => h.pickL [0, 1, 2] (by decide) rfl) ?_⟩
  intro hsub
  refine al_light 11 (iv (y21 + y27)) hsub rfl (by kernel_rfl) (fun w hI => s_add rfl rfl h8 ⟨rfl, Below.refl _ _⟩) ?_
  refine alp 12 (.pointer (some ⟨b23, 1, none⟩)) hsub rfl (by kernel_rfl) (fun _ => (by kernel_rfl)) ?_
  refine any_heavy [13] (by kernel_rfl) rfl (each1 ?_)
  intro w hI
  refine ol_c rfl (s_store hI 3 1 [iv (y21 + y27)] Try.sizeOf3 rfl rfl rfl rfl rfl (Nat.le_of_ble_eq_true rfl) ?_)
  intro w hI
  refine ⟨_, hI, subk (fun _ h => h.pickL [0, 1, 2] (by decide) rfl) ?_⟩
  intro hsub
  refine any_end (by kernel_rfl) (fun w hI => ?_)
  refine wp_seq (rgn (by kernel_rfl) (seq_c (s_loadK hI 3 2 [iv y21, iv (y21 + y27)] Try.isAgg49 Try.sizeOf49 rfl rfl rfl rfl ?_)))
  refine seq_c (s_store hI 0 2 [iv y21, iv (y21 + y27)] Try.sizeOf49 rfl rfl rfl rfl rfl (Nat.le_of_ble_eq_true rfl) ?_)
  intro w hI
  refine seq_nil (wp_ret ?_)
  replace hF := Option.some.inj hF; subst hF
  exact ⟨.agg #[iv y21, iv (y21 + y27)], Ret.c rfl rfl (run_loadK hI 0 2 [iv y21, iv (y21 + y27)] Try.isAgg49 Try.sizeOf49 rfl rfl rfl), ⟨rfl, hI.below⟩⟩


theorem L6 (w0 : World) (Ap0_0 : Option Addr) (cp0_0 : Nat) (lp0_0 : List A2) (Ap0_1 : Option Addr) (cp0_1 : Nat) (lp0_1 : List A3) (Ap0_2 : Option Addr) (cp0_2 : Nat) (lp0_2 : List A3) (p1_0 : Int) (p1_1 : Int) (p1_2 : Int) (p1_3 : Int) (Ap2 : Option Addr) (cp2 : Nat) (lp2 : List Int) (hCp0_0 : Cells w0 Ap0_0 (flat eA2 lp0_0)) (hMp0_0 : lp0_0.length ≤ 9223372036854775807) (hKp0_0 : lp0_0.length ≤ cp0_0) (hCp0_1 : Cells w0 Ap0_1 (flat eA3 lp0_1)) (hMp0_1 : lp0_1.length ≤ 9223372036854775807) (hKp0_1 : lp0_1.length ≤ cp0_1) (hCp0_2 : Cells w0 Ap0_2 (flat eA3 lp0_2)) (hMp0_2 : lp0_2.length ≤ 9223372036854775807) (hKp0_2 : lp0_2.length ≤ cp0_2) (hCp2 : Cells w0 Ap2 (flat eInt lp2)) (hMp2 : lp2.length ≤ 9223372036854775807) (hKp2 : lp2.length ≤ cp2) (N : Nat) (r : Bool) (hF : F6 N lp0_0 lp0_1 lp0_2 p1_0 p1_1 p1_2 p1_3 lp2 = some r) : Does Try.prog 6 [.agg #[.slice Ap0_0 lp0_0.length cp0_0, .slice Ap0_1 lp0_1.length cp0_1, .slice Ap0_2 lp0_2.length cp0_2], .agg #[.int .i64 p1_0, .int .i64 p1_1, .int .i64 p1_2, .int .i64 p1_3], .slice Ap2 lp2.length cp2] w0 fun v w => v = .bool r ∧ Below w0.heap.size w0 w := by
 refine calls_of (n := 226) Try.func6 rfl Try.ntmps6 rfl ?_
 have hI := Inv.start w0
 unfold F6 at hF
 refine wp_seq (rgn (by kernel_rfl) (seq_c (s_boxI hI [.slice Ap0_0 lp0_0.length cp0_0, .slice Ap0_1 lp0_1.length cp0_1, .slice Ap0_2 lp0_2.length cp0_2] rfl ?_)))
 intro b6583 w hI
 refine seq_c (s_boxI hI [iv p1_0, iv p1_1, iv p1_2, iv p1_3] rfl ?_)
 intro b6584 w hI
 refine pu (.bool false) (by kernel_rfl) (seq_nil (wp_cutO (fun ρ w => ∃ (v6587 : Bool), Agree ρ [(2, .slice Ap2 lp2.length cp2), (3, .pointer (some ⟨b6583, 0, none⟩)), (4, .pointer (some ⟨b6584, 0, none⟩)), (7, .bool v6587)] ∧ Inv [] w0 w [(some b6583, blk [.slice Ap0_0 lp0_0.length cp0_0, .slice Ap0_1 lp0_1.length cp0_1, .slice Ap0_2 lp0_2.length cp0_2] 96), (some b6584, blk [iv p1_0, iv p1_1, iv p1_2, iv p1_3] 97)] ∧ F6j1 lp0_0 lp0_1 lp0_2 p1_0 p1_1 p1_2 p1_3 lp2 N v6587 = some r) ?_ ?_))
 ·
  refine rgn (by kernel_rfl) (bindE hF (fun y13163 hy13164 hF => ?_))
  refine ifE hF (fun h13188 hF => ?_) (fun h13188 hF => ?_)
  ·
   refine seq_c (s_callv hI 11 [] (.bool true) (by kernel_rfl) (Does.mono (L11 _ N _ hy13164) (fun v' w' h => ⟨h.1.trans (congrArg Value.bool h13188), h.2⟩)) ?_)
   intro w hI
   refine pu (.bool true) (by kernel_rfl) (seq_nil ?_)
   exact .inl ⟨rfl, ⟨true, ⟨rfl, rfl, rfl, rfl, trivial⟩, hI.pickL [1, 0] (by decide) rfl, hF⟩⟩
  ·
   refine seq_c (s_callv hI 11 [] (.bool false) (by kernel_rfl) (Does.mono (L11 _ N _ hy13164) (fun v' w' h => ⟨h.1.trans (congrArg Value.bool (Bool.eq_false_iff.2 h13188)), h.2⟩)) ?_)
   intro w hI
   refine pu (.bool false) (by kernel_rfl) (seq_nil ?_)
   exact .inl ⟨rfl, ⟨false, ⟨rfl, rfl, rfl, rfl, trivial⟩, hI.pickL [1, 0] (by decide) rfl, hF⟩⟩
 ·intro ρ w hJ
  obtain ⟨v6587, hag, hI, hF⟩ := hJ
  obtain ⟨ρ, rfl⟩ := hag.form; clear hag
  unfold F6j1 at hF
  refine wp_seq (rgn (by kernel_rfl) (seq_c (s_loadK hI 0 3 [.slice Ap0_0 lp0_0.length cp0_0, .slice Ap0_1 lp0_1.length cp0_1, .slice Ap0_2 lp0_2.length cp0_2] Try.isAgg96 Try.sizeOf96 rfl rfl rfl rfl ?_)))
  refine bindE hF (fun y6603 hy6604 hF => ?_)
  refine seq_c (s_call 54 [.agg #[.slice Ap0_0 lp0_0.length cp0_0, .slice Ap0_1 lp0_1.length cp0_1, .slice Ap0_2 lp0_2.length cp0_2]] (by kernel_rfl) (L54 _ Ap0_0 cp0_0 lp0_0 Ap0_1 cp0_1 lp0_1 Ap0_2 cp0_2 lp0_2 (hCp0_0.inv0 hI) hMp0_0 hKp0_0 (hCp0_1.inv0 hI) hMp0_1 hKp0_1 (hCp0_2.inv0 hI) hMp0_2 hKp0_2 N _ hy6604) ?_)
  rintro v w ⟨g6605, c6606, cl6607, g6608, c6609, cl6610, g6611, c6612, cl6613, rfl, hN, r6614, r6615, r6616⟩
  have hI := hI.join hN; clear hN
  refine pu (.tuple #[.agg #[slv g6605 y6603.1.length c6606, slv g6608 y6603.2.1.length c6609], slv g6611 y6603.2.2.length c6612]) (by kernel_rfl) (pu (.agg #[slv g6605 y6603.1.length c6606, slv g6608 y6603.2.1.length c6609]) (by kernel_rfl) (pu (slv g6611 y6603.2.2.length c6612) (by kernel_rfl) (seq_c (s_allocI hI [.slice none 0 0, .slice none 0 0] Try.zeroValue25 rfl ?_))))
  intro b6617 w hI
  refine seq_c (s_store hI 0 2 [slv g6605 y6603.1.length c6606, slv g6608 y6603.2.1.length c6609] Try.sizeOf25 rfl rfl rfl rfl rfl (Nat.le_of_ble_eq_true rfl) ?_)
  intro w hI
  refine pu (slv g6611 y6603.2.2.length c6612) (by kernel_rfl) (seq_nil (wp_seq (rgn (by kernel_rfl) (seq_c (s_loadK hI 0 2 [slv g6605 y6603.1.length c6606, slv g6608 y6603.2.1.length c6609] Try.isAgg25 Try.sizeOf25 rfl rfl rfl rfl ?_)))))
  refine pu (.pointer (some ⟨b6584, 0, none⟩)) (by kernel_rfl) (seq_c (s_load1 hI 5 (iv p1_0) Try.isAgg3 rfl rfl rfl ?_))
  refine pu (.pointer (some ⟨b6584, 1, none⟩)) (by kernel_rfl) (seq_c (s_load1 hI 5 (iv p1_1) Try.isAgg3 rfl rfl rfl ?_))
  refine pu (.agg #[iv p1_0, iv p1_1]) (by kernel_rfl) (bindE hF (fun y6621 hy6622 hF => ?_))
  refine seq_c (s_callv hI 55 [.agg #[slv g6605 y6603.1.length c6606, slv g6608 y6603.2.1.length c6609], .agg #[iv p1_0, iv p1_1]] (.agg #[iv y6621.1, iv y6621.2]) (by kernel_rfl) (L55 _ (g6605.map fun b => ⟨b, 0, none⟩) c6606 y6603.1 (g6608.map fun b => ⟨b, 0, none⟩) c6609 y6603.2.1 (⟨p1_0, p1_1⟩ : A2) (hI.rowCells 1 rfl r6614) (len_le rfl r6614.big) (len_le rfl r6614.cap) (hI.rowCells 2 rfl r6615) (len_le rfl r6615.big) (len_le rfl r6615.cap) _ hy6622) ?_)
  intro w hI
  refine seq_c (s_allocI hI [iv 0, iv 0] Try.zeroValue49 rfl ?_)
  intro b6623 w hI
  refine seq_c (s_store hI 0 2 [iv y6621.1, iv y6621.2] Try.sizeOf49 rfl rfl rfl rfl rfl (Nat.le_of_ble_eq_true rfl) ?_)
  intro w hI
  refine seq_nil (wp_seq (rgn (by kernel_rfl) (seq_c (s_loadK hI 1 2 [slv g6605 y6603.1.length c6606, slv g6608 y6603.2.1.length c6609] Try.isAgg25 Try.sizeOf25 rfl rfl rfl rfl ?_))))
  refine pu (.pointer (some ⟨b6584, 2, none⟩)) (by kernel_rfl) (seq_c (s_load1 hI 6 (iv p1_2) Try.isAgg3 rfl rfl rfl ?_))
  refine pu (.pointer (some ⟨b6584, 3, none⟩)) (by kernel_rfl) (seq_c (s_load1 hI 6 (iv p1_3) Try.isAgg3 rfl rfl rfl ?_))
  refine pu (.agg #[iv p1_2, iv p1_3]) (by kernel_rfl) (bindE hF (fun y6627 hy6628 hF => ?_))
  refine seq_c (s_callv hI 55 [.agg #[slv g6605 y6603.1.length c6606, slv g6608 y6603.2.1.length c6609], .agg #[iv p1_2, iv p1_3]] (.agg #[iv y6627.1, iv y6627.2]) (by kernel_rfl) (L55 _ (g6605.map fun b => ⟨b, 0, none⟩) c6606 y6603.1 (g6608.map fun b => ⟨b, 0, none⟩) c6609 y6603.2.1 (⟨p1_2, p1_3⟩ : A2) (hI.rowCells 2 rfl r6614) (len_le rfl r6614.big) (len_le rfl r6614.cap) (hI.rowCells 3 rfl r6615) (len_le rfl r6615.big) (len_le rfl r6615.cap) _ hy6628) ?_)
  intro w hI
  refine seq_c (s_allocI hI [iv 0, iv 0] Try.zeroValue49 rfl ?_)
  intro b6629 w hI
  refine seq_c (s_store hI 0 2 [iv y6627.1, iv y6627.2] Try.sizeOf49 rfl rfl rfl rfl rfl (Nat.le_of_ble_eq_true rfl) ?_)
  intro w hI
  refine seq_nil (wp_seq (rgn (by kernel_rfl) (seq_c (s_loadK hI 2 2 [slv g6605 y6603.1.length c6606, slv g6608 y6603.2.1.length c6609] Try.isAgg25 Try.sizeOf25 rfl rfl rfl rfl ?_))))
  refine seq_c (s_loadK hI 1 2 [iv y6621.1, iv y6621.2] Try.isAgg49 Try.sizeOf49 rfl rfl rfl rfl ?_)
  refine bindE hF (fun y6633 hy6634 hF => ?_)
  refine seq_c (s_callv hI 25 [.agg #[slv g6605 y6603.1.length c6606, slv g6608 y6603.2.1.length c6609], .agg #[iv y6621.1, iv y6621.2]] (.tuple #[.agg #[iv y6633.1, iv y6633.2.1], iv y6633.2.2]) (by kernel_rfl) (L25 _ (g6605.map fun b => ⟨b, 0, none⟩) c6606 y6603.1 (g6608.map fun b => ⟨b, 0, none⟩) c6609 y6603.2.1 (⟨y6621.1, y6621.2⟩ : Dr) (hI.rowCells 3 rfl r6614) (len_le rfl r6614.big) (len_le rfl r6614.cap) (hI.rowCells 4 rfl r6615) (len_le rfl r6615.big) (len_le rfl r6615.cap) N _ hy6634) ?_)
  intro w hI
  refine pu (.tuple #[.agg #[iv y6633.1, iv y6633.2.1], iv y6633.2.2]) (by kernel_rfl) (pu (.agg #[iv y6633.1, iv y6633.2.1]) (by kernel_rfl) (pu (iv y6633.2.2) (by kernel_rfl) (seq_c (s_allocI hI [iv 0, iv 0] Try.zeroValue28 rfl ?_))))
  intro b6635 w hI
  refine seq_c (s_store hI 0 2 [iv y6633.1, iv y6633.2.1] Try.sizeOf28 rfl rfl rfl rfl rfl (Nat.le_of_ble_eq_true rfl) ?_)
  intro w hI
  refine pu (iv y6633.2.2) (by kernel_rfl) (seq_nil (wp_seq (rgn (by kernel_rfl) (seq_c (s_loadK hI 3 2 [slv g6605 y6603.1.length c6606, slv g6608 y6603.2.1.length c6609] Try.isAgg25 Try.sizeOf25 rfl rfl rfl rfl ?_)))))
  refine seq_c (s_loadK hI 2 2 [iv y6621.1, iv y6621.2] Try.isAgg49 Try.sizeOf49 rfl rfl rfl rfl ?_)
  refine seq_c (s_loadK hI 1 2 [iv y6627.1, iv y6627.2] Try.isAgg49 Try.sizeOf49 rfl rfl rfl rfl ?_)
  refine bindE hF (fun y6638 hy6639 hF => ?_)
  refine seq_c (s_callv hI 27 [.agg #[slv g6605 y6603.1.length c6606, slv g6608 y6603.2.1.length c6609], .agg #[iv y6621.1, iv y6621.2], .agg #[iv y6627.1, iv y6627.2]] (.tuple #[iv y6638.1, iv y6638.2]) (by kernel_rfl) (L27 _ (g6605.map fun b => ⟨b, 0, none⟩) c6606 y6603.1 (g6608.map fun b => ⟨b, 0, none⟩) c6609 y6603.2.1 (⟨y6621.1, y6621.2⟩ : Dr) (⟨y6627.1, y6627.2⟩ : Dr) (hI.rowCells 4 rfl r6614) (len_le rfl r6614.big) (len_le rfl r6614.cap) (hI.rowCells 5 rfl r6615) (len_le rfl r6615.big) (len_le rfl r6615.cap) N _ hy6639) ?_)
  intro w hI
  refine pu (.tuple #[iv y6638.1, iv y6638.2]) (by kernel_rfl) (pu (iv y6638.1) (by kernel_rfl) (pu (iv y6638.2) (by kernel_rfl) (pu (iv y6638.1) (by kernel_rfl) (pu (iv y6638.2) (by kernel_rfl) (seq_nil (wp_seq (wp_seq ?_)))))))
  have hG := hF; rcases Bool.eq_false_or_eq_true v6587 with rfl | rfl
  ·
   have hF := hG; clear hG
   refine ifE hF (fun _ hF => ?_) (fun h => absurd rfl h)
   refine rgn (by kernel_rfl) (pu (.bool true) (by kernel_rfl) (pu (.bool false) (by kernel_rfl) (pu (.bool false) (by kernel_rfl) (puo (iv y6633.2.2) ⟨(by kernel_rfl), (by kernel_rfl)⟩ (ifE hF (fun h6602 hF => ?_) (fun h6602 hF => ?_))))))
   ·
    refine seq_on (by kernel_rfl) (s_neq rfl rfl (fun h => absurd (a := y6633.2.2 = 0) h6602 h) (fun _ => ?_))
    refine pu (.bool false) (by kernel_rfl) (pu (.bool false) (by kernel_rfl) (puo (iv y6638.2) ⟨(by kernel_rfl), (by kernel_rfl)⟩ (ifE hF (fun h6603 hF => ?_) (fun h6603 hF => ?_))))
    ·
     refine seq_on (by kernel_rfl) (s_neq rfl rfl (fun h => absurd (a := y6638.2 = 0) h6603 h) (fun _ => ?_))
     refine pu (.bool false) (by kernel_rfl) (seq_nil (wp_condF rfl (wp_skip (wp_seq (rgn (by kernel_rfl) (pu (.bool false) (by kernel_rfl) (seq_nil (wp_seq (rgn (by kernel_rfl) ?_)))))))))
     refine pu (.bool false) (by kernel_rfl) (seq_nil (wp_cutO (fun ρ w => ∃ (v9900 : Bool) (v9901 : Bool), Agree ρ [(14, iv y6638.1), (16, .bool v9900), (17, .bool v9901)] ∧ Inv [] w0 w [] ∧ F6j2 y6638 v9900 v9901 = some r) ?_ ?_))
     ·
      refine wp_seq (rgn (by kernel_rfl) (pu (iv 0) (by kernel_rfl) (seq_nil (wp_block ?_))))
      refine wp_loop (fun m ρ w => ∃ (g12074 : Option Nat) (c12075 : Nat) (cl12076 : List Value) (v12078 : Bool) (v12079 : Bool) (v12080 : Int) (mm : Nat), Agree ρ [(2, .slice Ap2 lp2.length cp2), (8, .pointer (some ⟨b6617, 0, none⟩)), (10, .pointer (some ⟨b6623, 0, none⟩)), (11, .pointer (some ⟨b6629, 0, none⟩)), (12, .pointer (some ⟨b6635, 0, none⟩)), (14, iv y6638.1), (16, .bool v12078), (17, .bool v12079), (18, iv v12080)] ∧ Inv [] w0 w [(some b6617, blk [slv g12074 y6603.1.length c12075, slv g6608 y6603.2.1.length c6609] 25), (g12074, blk cl12076 30), (g6608, blk cl6610 32), (some b6623, blk [iv y6621.1, iv y6621.2] 49), (some b6629, blk [iv y6627.1, iv y6627.2] 49), (some b6635, blk [iv y6633.1, iv y6633.2.1] 28)] ∧ (Row 3 g12074 (y6603.1.length) c12075 cl12076 (flat eCh y6603.1)) ∧ F6l3 lp2 N y6603 y6621 y6627 y6633 y6638 mm v12078 v12079 v12080 = some r ∧ mm = m) (m := N) ⟨g6605, c6606, cl6607, false, false, 0, N, ⟨rfl, rfl, rfl, rfl, rfl, rfl, rfl, rfl, rfl, trivial⟩, hI.pickL [3, 4, 5, 2, 1, 0] (by decide) rfl, (r6614.to rfl rfl), hF, rfl⟩ ?_
      rintro m ρ w ⟨g12074, c12075, cl12076, v12078, v12079, v12080, mm, hag, hI, r12077, hF, hm⟩
      subst hm; obtain ⟨ρ, rfl⟩ := hag.form; clear hag
      obtain _ | m3 := mm
      ·cases (show (none : Option Bool) = some r from hF)
      replace hF : F6b3 lp2 N y6603 y6621 y6627 y6633 y6638 (F6l3 lp2 N y6603 y6621 y6627 y6633 y6638 m3) v12078 v12079 v12080 = some r := hF; unfold F6b3 at hF
      refine wp_seq (wp_seq (rgn (by kernel_rfl) (pu (iv v12080) (by kernel_rfl) (pu (.pointer (some ⟨b6617, 0, none⟩)) (by kernel_rfl) (seq_c (s_load1 hI 0 (slv g12074 y6603.1.length c12075) Try.isAgg22 rfl rfl rfl ?_))))))
      refine pu (iv ((y6603.1.length : Nat) : Int)) (by kernel_rfl) (gdE hF (fun h12058 hF => ?_))
      refine ckE hF (fun h12059 hF => ?_)
      refine seq_c (s_shl rfl rfl h12058 h12059 ?_)
      refine ifE hF (fun h12060 hF => ?_) (fun h12060 hF => ?_)
      ·
       refine seq_c (s_leq rfl rfl (fun _ => ?_) (fun h => absurd (a := v12080 ≤ (1 * 2 ^ ((y6603.1.length : Int) : Int).toNat)) h12060 h))
       refine seq_nil (wp_condT rfl (wp_skip (wp_cutO (fun ρ w => ∃ (g12619 : Option Nat) (c12620 : Nat) (cl12621 : List Value) (v12623 : Bool) (v12624 : Bool), Agree ρ [(2, .slice Ap2 lp2.length cp2), (8, .pointer (some ⟨b6617, 0, none⟩)), (10, .pointer (some ⟨b6623, 0, none⟩)), (11, .pointer (some ⟨b6629, 0, none⟩)), (12, .pointer (some ⟨b6635, 0, none⟩)), (14, iv y6638.1), (16, .bool v12623), (17, .bool v12624), (18, iv v12080)] ∧ Inv [] w0 w [(some b6617, blk [slv g12619 y6603.1.length c12620, slv g6608 y6603.2.1.length c6609] 25), (g12619, blk cl12621 30), (g6608, blk cl6610 32), (some b6623, blk [iv y6621.1, iv y6621.2] 49), (some b6629, blk [iv y6627.1, iv y6627.2] 49), (some b6635, blk [iv y6633.1, iv y6633.2.1] 28)] ∧ (Row 3 g12619 (y6603.1.length) c12620 cl12621 (flat eCh y6603.1)) ∧ F6j4 (F6l3 lp2 N y6603 y6621 y6627 y6633 y6638 m3) v12080 v12623 v12624 = some r) ?_ ?_)))
       ·
        refine wp_block ?_
        refine wp_seq (rgn (by kernel_rfl) (pu (.slice none 0 0) (by kernel_rfl) (seq_nil (wp_cutO (fun ρ w => ∃ (g12885 : Option Nat) (c12886 : Nat) (cl12887 : List Value) (g12890 : Option Nat) (c12891 : Nat) (cl12892 : List Value) (u12889 : List Int), Agree ρ [(2, .slice Ap2 lp2.length cp2), (8, .pointer (some ⟨b6617, 0, none⟩)), (10, .pointer (some ⟨b6623, 0, none⟩)), (11, .pointer (some ⟨b6629, 0, none⟩)), (12, .pointer (some ⟨b6635, 0, none⟩)), (14, iv y6638.1), (16, .bool v12078), (17, .bool v12079), (18, iv v12080), (19, slv g12890 u12889.length c12891)] ∧ Inv [] w0 w [(some b6617, blk [slv g12885 y6603.1.length c12886, slv g6608 y6603.2.1.length c6609] 25), (g12885, blk cl12887 30), (g6608, blk cl6610 32), (some b6623, blk [iv y6621.1, iv y6621.2] 49), (some b6629, blk [iv y6627.1, iv y6627.2] 49), (some b6635, blk [iv y6633.1, iv y6633.2.1] 28), (g12890, blk cl12892 3)] ∧ (Row 3 g12885 (y6603.1.length) c12886 cl12887 (flat eCh y6603.1)) ∧ (Row 1 g12890 (u12889.length) c12891 cl12892 (flat eInt u12889)) ∧ F6j5 N (F6l3 lp2 N y6603 y6621 y6627 y6633 y6638 m3) y6603 y6621 y6627 y6633 y6638 v12078 v12079 v12080 u12889 = some r) ?_ ?_))))
        ·
         refine wp_seq (rgn (by kernel_rfl) (pu (iv 0) (by kernel_rfl) (seq_nil (wp_block ?_))))
         have hI := hI.nilRow 3
         refine wp_loop (fun m ρ w => ∃ (g13073 : Option Nat) (c13074 : Nat) (cl13075 : List Value) (g13078 : Option Nat) (c13079 : Nat) (cl13080 : List Value) (u13077 : List Int) (v13082 : Int) (mm : Nat), Agree ρ [(2, .slice Ap2 lp2.length cp2), (8, .pointer (some ⟨b6617, 0, none⟩)), (10, .pointer (some ⟨b6623, 0, none⟩)), (11, .pointer (some ⟨b6629, 0, none⟩)), (12, .pointer (some ⟨b6635, 0, none⟩)), (14, iv y6638.1), (16, .bool v12078), (17, .bool v12079), (18, iv v12080), (19, slv g13078 u13077.length c13079), (20, iv v13082)] ∧ Inv [] w0 w [(some b6617, blk [slv g13073 y6603.1.length c13074, slv g6608 y6603.2.1.length c6609] 25), (g13073, blk cl13075 30), (g6608, blk cl6610 32), (some b6623, blk [iv y6621.1, iv y6621.2] 49), (some b6629, blk [iv y6627.1, iv y6627.2] 49), (some b6635, blk [iv y6633.1, iv y6633.2.1] 28), (g13078, blk cl13080 3)] ∧ (Row 3 g13073 (y6603.1.length) c13074 cl13075 (flat eCh y6603.1)) ∧ (Row 1 g13078 (u13077.length) c13079 cl13080 (flat eInt u13077)) ∧ F6l8 lp2 N (F6l3 lp2 N y6603 y6621 y6627 y6633 y6638 m3) y6603 y6621 y6627 y6633 y6638 v12078 v12079 v12080 mm u13077 v13082 = some r ∧ mm = m) (m := N) ⟨g12074, c12075, cl12076, none, 0, [], [], 0, N, ⟨rfl, rfl, rfl, rfl, rfl, rfl, rfl, rfl, rfl, rfl, rfl, trivial⟩, hI.pickL [1, 2, 3, 4, 5, 6, 0] (by decide) rfl, (r12077.to rfl rfl), (Row.nil_ 1), hF, rfl⟩ ?_
         rintro m ρ w ⟨g13073, c13074, cl13075, g13078, c13079, cl13080, u13077, v13082, mm, hag, hI, r13076, r13081, hF, hm⟩
         subst hm; obtain ⟨ρ, rfl⟩ := hag.form; clear hag
         obtain _ | m8 := mm
         ·cases (show (none : Option Bool) = some r from hF)
         replace hF : F6b8 lp2 N (F6l3 lp2 N y6603 y6621 y6627 y6633 y6638 m3) y6603 y6621 y6627 y6633 y6638 v12078 v12079 v12080 (F6l8 lp2 N (F6l3 lp2 N y6603 y6621 y6627 y6633 y6638 m3) y6603 y6621 y6627 y6633 y6638 v12078 v12079 v12080 m8) u13077 v13082 = some r := hF; unfold F6b8 at hF
         refine wp_seq (wp_seq (rgn (by kernel_rfl) (pu (iv v13082) (by kernel_rfl) (pu (.pointer (some ⟨b6617, 0, none⟩)) (by kernel_rfl) (seq_c (s_load1 hI 0 (slv g13073 y6603.1.length c13074) Try.isAgg22 rfl rfl rfl ?_))))))
         refine pu (iv ((y6603.1.length : Nat) : Int)) (by kernel_rfl) (ifE hF (fun h13118 hF => ?_) (fun h13118 hF => ?_))
         ·
          refine seq_c (s_lss rfl rfl (fun _ => ?_) (fun h => absurd (a := v13082 < (y6603.1.length : Int)) h13118 h))
          refine seq_nil (wp_condT rfl (wp_skip (wp_seq (wp_block ?_))))
          refine wp_seq (rgn (by kernel_rfl) (pu (.pointer (some ⟨b6617, 0, none⟩)) (by kernel_rfl) (seq_c (s_load1 hI 0 (slv g13073 y6603.1.length c13074) Try.isAgg22 rfl rfl rfl ?_))))
          refine pu (iv v13082) (by kernel_rfl) (gdE hF (fun h13153 hF => ?_))
          refine bindE hF (fun x13123 hx13124 hF => ?_)
          obtain ⟨b13125, rfl, he13126⟩ := r13076.at_ eCh_len (by decide) hx13124
          refine seq_c (s_indexR (v13082).toNat Try.underlying22 Try.sizeOf30 rfl rfl (Int.toNat_of_nonneg h13153).symm (lt_n hx13124 rfl) ?_)
          refine pu (.pointer (some ⟨b13125, (v13082).toNat * 3 + 1, none⟩)) (by kernel_rfl) (seq_c (s_loadRK hI 1 [iv x13123.lo, iv x13123.hi] Try.isAgg28 Try.sizeOf28 rfl rfl rfl (fun j v h => by have := part_of he13126 1 2 rfl j v h; rwa [← Nat.add_assoc] at this) ?_))
          refine seq_c (s_allocI hI [iv 0, iv 0] Try.zeroValue28 rfl ?_)
          intro b13127 w hI
          refine seq_c (s_store hI 0 2 [iv x13123.lo, iv x13123.hi] Try.sizeOf28 rfl rfl rfl rfl rfl (Nat.le_of_ble_eq_true rfl) ?_)
          intro w hI
          refine seq_nil (wp_seq (rgn (by kernel_rfl) (pu (.pointer (some ⟨b13127, 0, none⟩)) (by kernel_rfl) (seq_c (s_load1 hI 0 (iv x13123.lo) Try.isAgg3 rfl rfl rfl ?_)))))
          refine pu (iv x13123.lo) (by kernel_rfl) (seq_nil (wp_cutO (fun ρ w => ∃ (v13128 : Int), Agree ρ [(2, .slice Ap2 lp2.length cp2), (8, .pointer (some ⟨b6617, 0, none⟩)), (10, .pointer (some ⟨b6623, 0, none⟩)), (11, .pointer (some ⟨b6629, 0, none⟩)), (12, .pointer (some ⟨b6635, 0, none⟩)), (14, iv y6638.1), (16, .bool v12078), (17, .bool v12079), (18, iv v12080), (19, slv g13078 u13077.length c13079), (20, iv v13082), (21, .pointer (some ⟨b13127, 0, none⟩)), (22, iv v13128)] ∧ Inv [] w0 w [(some b6617, blk [slv (some b13125) y6603.1.length c13074, slv g6608 y6603.2.1.length c6609] 25), (some b13125, blk cl13075 30), (g6608, blk cl6610 32), (some b6623, blk [iv y6621.1, iv y6621.2] 49), (some b6629, blk [iv y6627.1, iv y6627.2] 49), (some b6635, blk [iv y6633.1, iv y6633.2.1] 28), (g13078, blk cl13080 3), (some b13127, blk [iv x13123.lo, iv x13123.hi] 28)] ∧ F6j9 lp2 (F6l8 lp2 N (F6l3 lp2 N y6603 y6621 y6627 y6633 y6638 m3) y6603 y6621 y6627 y6633 y6638 v12078 v12079 v12080 m8) y6603 v12080 u13077 v13082 x13123 v13128 = some r) ?_ ?_))
          ·
           refine wp_seq (rgn (by kernel_rfl) (pu (iv v12080) (by kernel_rfl) (pu (iv v13082) (by kernel_rfl) (gdE hF (fun h13184 hF => ?_)))))
           refine seq_c (s_shr rfl rfl h13184 ?_)
           refine gdE hF (fun h13185 hF => ?_)
           refine ckE hF (fun h13186 hF => ?_)
           refine seq_c (s_and rfl rfl h13185 (by decide) h13186 (by decide) ?_)
           refine ifE hF (fun h13187 hF => ?_) (fun h13187 hF => ?_)
           ·
            refine seq_c (s_eql rfl rfl (fun _ => ?_) (fun h => absurd (a := (andI (v12080.fdiv (2 ^ (v13082 : Int).toNat)) 1) = 1) h13187 h))
            refine seq_nil (wp_condT rfl (rgn (by kernel_rfl) (pu (.pointer (some ⟨b13127, 1, none⟩)) (by kernel_rfl) (seq_c (s_load1 hI 0 (iv x13123.hi) Try.isAgg3 rfl rfl rfl ?_)))))
            refine pu (iv x13123.hi) (by kernel_rfl) (seq_nil ?_)
            exact .inl ⟨rfl, ⟨x13123.hi, ⟨rfl, rfl, rfl, rfl, rfl, rfl, rfl, rfl, rfl, rfl, rfl, rfl, rfl, trivial⟩, hI.pickL [1, 2, 3, 4, 5, 6, 7, 0] (by decide) rfl, hF⟩⟩
           ·
            refine seq_c (s_eql rfl rfl (fun h => absurd (a := (andI (v12080.fdiv (2 ^ (v13082 : Int).toNat)) 1) = 1) h h13187) (fun _ => ?_))
            refine seq_nil (wp_condF rfl (wp_skip ?_))
            exact .inl ⟨rfl, ⟨x13123.lo, ⟨rfl, rfl, rfl, rfl, rfl, rfl, rfl, rfl, rfl, rfl, rfl, rfl, rfl, trivial⟩, hI.pickL [1, 2, 3, 4, 5, 6, 7, 0] (by decide) rfl, hF⟩⟩
          ·intro ρ w hJ
           obtain ⟨v13128, hag, hI, hF⟩ := hJ
           obtain ⟨ρ, rfl⟩ := hag.form; clear hag
           unfold F6j9 at hF
           refine wp_cutO (fun ρ w => ∃ (v13143 : Int), Agree ρ [(2, .slice Ap2 lp2.length cp2), (8, .pointer (some ⟨b6617, 0, none⟩)), (10, .pointer (some ⟨b6623, 0, none⟩)), (11, .pointer (some ⟨b6629, 0, none⟩)), (12, .pointer (some ⟨b6635, 0, none⟩)), (14, iv y6638.1), (16, .bool v12078), (17, .bool v12079), (18, iv v12080), (19, slv g13078 u13077.length c13079), (20, iv v13082), (22, iv v13143)] ∧ Inv [] w0 w [(some b6617, blk [slv (some b13125) y6603.1.length c13074, slv g6608 y6603.2.1.length c6609] 25), (some b13125, blk cl13075 30), (g6608, blk cl6610 32), (some b6623, blk [iv y6621.1, iv y6621.2] 49), (some b6629, blk [iv y6627.1, iv y6627.2] 49), (some b6635, blk [iv y6633.1, iv y6633.2.1] 28), (g13078, blk cl13080 3)] ∧ F6j10 (F6l8 lp2 N (F6l3 lp2 N y6603 y6621 y6627 y6633 y6638 m3) y6603 y6621 y6627 y6633 y6638 v12078 v12079 v12080 m8) u13077 v13082 v13143 = some r) ?_ ?_
           ·
            refine wp_cutO (fun ρ w => Agree ρ [(2, .slice Ap2 lp2.length cp2), (8, .pointer (some ⟨b6617, 0, none⟩)), (10, .pointer (some ⟨b6623, 0, none⟩)), (11, .pointer (some ⟨b6629, 0, none⟩)), (12, .pointer (some ⟨b6635, 0, none⟩)), (14, iv y6638.1), (16, .bool v12078), (17, .bool v12079), (18, iv v12080), (19, slv g13078 u13077.length c13079), (20, iv v13082), (21, .pointer (some ⟨b13127, 0, none⟩)), (22, iv v13128), (110, .bool false)] ∧ Inv [] w0 w [(some b6617, blk [slv (some b13125) y6603.1.length c13074, slv g6608 y6603.2.1.length c6609] 25), (some b13125, blk cl13075 30), (g6608, blk cl6610 32), (some b6623, blk [iv y6621.1, iv y6621.2] 49), (some b6629, blk [iv y6627.1, iv y6627.2] 49), (some b6635, blk [iv y6633.1, iv y6633.2.1] 28), (g13078, blk cl13080 3), (some b13127, blk [iv x13123.lo, iv x13123.hi] 28)] ∧ F6j11 (F6l8 lp2 N (F6l3 lp2 N y6603 y6621 y6627 y6633 y6638 m3) y6603 y6621 y6627 y6633 y6638 v12078 v12079 v12080 m8) u13077 v13082 v13128 = some r) ?_ ?_
            ·
             refine rgn (by kernel_rfl) (pu (iv v12080) (by kernel_rfl) (pu (.pointer (some ⟨b6617, 0, none⟩)) (by kernel_rfl) (seq_c (s_load1 hI 0 (slv (some b13125) y6603.1.length c13074) Try.isAgg22 rfl rfl rfl ?_))))
             refine pu (iv ((y6603.1.length : Nat) : Int)) (by kernel_rfl) (seq_c (s_shl rfl rfl h12058 h12059 ?_))
             refine ifE hF (fun h13174 hF => ?_) (fun h13174 hF => ?_)
             ·
              refine seq_c (s_eql rfl rfl (fun _ => ?_) (fun h => absurd (a := v12080 = (1 * 2 ^ ((y6603.1.length : Int) : Int).toNat)) h13174 h))
              refine pu (.bool true) (by kernel_rfl) (puo (.slice Ap2 lp2.length cp2) ⟨(by kernel_rfl), (by kernel_rfl)⟩ (puo (iv ((lp2.length : Nat) : Int)) ⟨(by kernel_rfl), (by kernel_rfl)⟩ (ifE hF (fun h13175 hF => ?_) (fun h13175 hF => ?_))))
              ·
               refine seq_on (by kernel_rfl) (s_gtr rfl rfl (fun _ => ?_) (fun h => absurd (a := 0 < (lp2.length : Int)) h13175 h))
               refine pu (.bool true) (by kernel_rfl) (seq_nil (.inr ?_))
               refine wp_condT rfl (gdE hF (fun h13176 hF => ?_))
               refine bindE hF (fun x13149 hx13150 hF => ?_)
               refine ckE hF (fun h13177 hF => ?_)
               refine ckE hF (fun h13178 hF => ?_)
               refine bindE hF (fun y13156 hy13157 hF => ?_)
               refine ckE hF (fun h13179 hF => ?_)
               refine wp_drawn2 hI [0, 1, 2, 3, 4, 5, 6, 7] (by decide) rfl (by kernel_rfl) (by kernel_rfl) ?_
               intro hsub
               refine alp 0 (.pointer (some ⟨b13127, 0, none⟩)) hsub rfl (by kernel_rfl) (fun _ => (by kernel_rfl)) ?_
               refine al_light 1 (iv x13123.lo) hsub rfl (by kernel_rfl) (fun w hI => s_load1 hI 7 (iv x13123.lo) Try.isAgg3 rfl rfl rfl ⟨rfl, Below.refl _ _⟩) ?_
               refine alp 2 (.slice Ap2 lp2.length cp2) hsub rfl (by kernel_rfl) (fun _ => (by kernel_rfl)) ?_
               refine alp 3 (iv v13082) hsub rfl (by kernel_rfl) (fun _ => (by kernel_rfl)) ?_
               refine alp 4 (.slice Ap2 lp2.length cp2) hsub rfl (by kernel_rfl) (fun _ => (by kernel_rfl)) ?_
               refine al_light 5 (iv (lp2.length : Int)) hsub rfl (by kernel_rfl) (fun w hI => s_pure (iv ((lp2.length : Nat) : Int)) (by kernel_rfl) ⟨rfl, Below.refl _ _⟩) ?_
               refine al_light 6 (iv (v13082.tmod (lp2.length : Int))) hsub rfl (by kernel_rfl) (fun w hI => s_rem rfl rfl h13175 ⟨rfl, Below.refl _ _⟩) ?_
               obtain ⟨b13158, o13159, hA13160, hb13161, he13162⟩ := hCp2.at_ eInt_len (by decide) hx13150
               refine al_light 7 (.pointer (some ⟨b13158, o13159 + ((v13082.tmod (lp2.length : Int)).toNat) * 1, none⟩)) hsub rfl (by kernel_rfl) (fun w hI => s_indexA ((v13082.tmod (lp2.length : Int)).toNat) Try.underlying52 Try.sizeOf3 rfl hA13160 rfl (Int.toNat_of_nonneg h13176).symm (lt_n hx13150 rfl) ⟨rfl, Below.refl _ _⟩) ?_
               refine al_light 8 (iv x13149) hsub rfl (by kernel_rfl) (fun w hI => s_loadB1 hI (iv x13149) Try.isAgg3 rfl hb13161 (by simp) (he13162 0 _ rfl) ⟨rfl, Below.refl _ _⟩) ?_
               refine alp 9 (.pointer (some ⟨b13127, 1, none⟩)) hsub rfl (by kernel_rfl) (fun _ => (by kernel_rfl)) ?_
               refine al_light 10 (iv x13123.hi) hsub rfl (by kernel_rfl) (fun w hI => s_load1 hI 7 (iv x13123.hi) Try.isAgg3 rfl rfl rfl ⟨rfl, Below.refl _ _⟩) ?_
               refine alp 11 (.pointer (some ⟨b13127, 0, none⟩)) hsub rfl (by kernel_rfl) (fun _ => (by kernel_rfl)) ?_
               refine al_light 12 (iv x13123.lo) hsub rfl (by kernel_rfl) (fun w hI => s_load1 hI 7 (iv x13123.lo) Try.isAgg3 rfl rfl rfl ⟨rfl, Below.refl _ _⟩) ?_
               refine al_light 13 (iv (x13123.hi - x13123.lo)) hsub rfl (by kernel_rfl) (fun w hI => s_sub rfl rfl h13177 ⟨rfl, Below.refl _ _⟩) ?_
               refine al_light 14 (iv ((x13123.hi - x13123.lo) + 1)) hsub rfl (by kernel_rfl) (fun w hI => s_add rfl rfl h13178 ⟨rfl, Below.refl _ _⟩) ?_
               refine al_light 15 (iv y13156) hsub rfl (by kernel_rfl) (fun w hI => s_call 56 [iv x13149, iv ((x13123.hi - x13123.lo) + 1)] (by kernel_rfl) (L56 _ x13149 ((x13123.hi - x13123.lo) + 1) _ hy13157) (fun v' w' h => h)) ?_
               refine al_light 16 (iv (x13123.lo + y13156)) hsub rfl (by kernel_rfl) (fun w hI => s_add rfl rfl h13179 ⟨rfl, Below.refl _ _⟩) ?_
               refine alp 17 (iv (x13123.lo + y13156)) hsub rfl (by kernel_rfl) (fun _ => (by kernel_rfl)) ?_
               refine any_end (by kernel_rfl) (fun w hI => ?_)
               exact .inl ⟨rfl, ⟨x13123.lo + y13156, ⟨rfl, rfl, rfl, rfl, rfl, rfl, rfl, rfl, rfl, rfl, rfl, rfl, trivial⟩, hI.pickL [0, 1, 2, 3, 4, 5, 6] (by decide) rfl, hF⟩⟩
              ·
               refine seq_on (by kernel_rfl) (s_gtr rfl rfl (fun h => absurd (a := 0 < (lp2.length : Int)) h h13175) (fun _ => ?_))
               refine pu (.bool false) (by kernel_rfl) (seq_nil ?_)
               exact .inl ⟨rfl, ⟨⟨rfl, rfl, rfl, rfl, rfl, rfl, rfl, rfl, rfl, rfl, rfl, rfl, rfl, rfl, trivial⟩, hI.pickL [0, 1, 2, 3, 4, 5, 6, 7] (by decide) rfl, hF⟩⟩
             ·
              refine seq_c (s_eql rfl rfl (fun h => absurd (a := v12080 = (1 * 2 ^ ((y6603.1.length : Int) : Int).toNat)) h h13174) (fun _ => ?_))
              refine pu (.bool false) (by kernel_rfl) (of_ (by kernel_rfl) (of_ (by kernel_rfl) (of_ (by kernel_rfl) (pu (.bool false) (by kernel_rfl) (seq_nil ?_)))))
              exact .inl ⟨rfl, ⟨⟨rfl, rfl, rfl, rfl, rfl, rfl, rfl, rfl, rfl, rfl, rfl, rfl, rfl, rfl, trivial⟩, hI.pickL [0, 1, 2, 3, 4, 5, 6, 7] (by decide) rfl, hF⟩⟩
            ·intro ρ w hJ
             obtain ⟨hag, hI, hF⟩ := hJ
             obtain ⟨ρ, rfl⟩ := hag.form; clear hag
             unfold F6j11 at hF
             refine wp_condF rfl (wp_skip ?_)
             exact .inl ⟨rfl, ⟨v13128, ⟨rfl, rfl, rfl, rfl, rfl, rfl, rfl, rfl, rfl, rfl, rfl, rfl, trivial⟩, hI.pickL [0, 1, 2, 3, 4, 5, 6] (by decide) rfl, hF⟩⟩
           ·intro ρ w hJ
            obtain ⟨v13143, hag, hI, hF⟩ := hJ
            obtain ⟨ρ, rfl⟩ := hag.form; clear hag
            unfold F6j10 at hF
            refine rgn (by kernel_rfl) (pu (slv g13078 u13077.length c13079) (by kernel_rfl) (pu (iv v13143) (by kernel_rfl) (seq_c (s_new hI [iv v13143] 3 (fun b => slv (some b) 1 1) (by kernel_rfl) ?_))))
            intro b13144 w hI
            refine gdE hF (fun h13170 hF => ?_)
            refine seq_c (s_appN hI Try.underlying52 (z := iv 0) (k := 1) (bytes := 8) (by kernel_rfl) rfl rfl 7 rfl rfl r13081 [iv v13143] rfl rfl (hI.cells 0 (off := 0) rfl (fun j u h => by rw [Nat.zero_add]; exact h)) (by simp [Value.oneCell']) (by omega) (by omega) (n2 := (u13077 ++ [v13143]).length) (app_len rfl rfl) ?_)
            intro g13145 c13146 cl13147 w hI r13148
            have r13148 : Row 1 g13145 ((u13077 ++ [v13143]).length) c13146 cl13147 (flat eInt (u13077 ++ [v13143])) := r13148.snoc _ rfl
            refine pu (slv g13145 ((u13077 ++ [v13143]).length) c13146) (by kernel_rfl) (seq_nil (rgn (by kernel_rfl) (pu (iv v13082) (by kernel_rfl) (ckE hF (fun h13171 hF => ?_)))))
            refine seq_c (s_add rfl rfl h13171 ?_)
            refine pu (iv (v13082 + 1)) (by kernel_rfl) (seq_nil ?_)
            exact ⟨rfl, m8, Nat.lt_succ_self _, ⟨some b13125, c13074, cl13075, g13145, c13146, cl13147, u13077 ++ [v13143], v13082 + 1, m8, ⟨rfl, rfl, rfl, rfl, rfl, rfl, rfl, rfl, rfl, rfl, rfl, trivial⟩, hI.pickL [1, 2, 3, 4, 5, 6, 7] (by decide) rfl, (r13076.to rfl rfl), (r13148.to rfl rfl), hF, rfl⟩⟩
         ·
          refine seq_c (s_lss rfl rfl (fun h => absurd (a := v13082 < (y6603.1.length : Int)) h h13118) (fun _ => ?_))
          refine seq_nil (wp_condF rfl (wp_exit ?_))
          exact .inl ⟨rfl, ⟨g13073, c13074, cl13075, g13078, c13079, cl13080, u13077, ⟨rfl, rfl, rfl, rfl, rfl, rfl, rfl, rfl, rfl, rfl, trivial⟩, hI.pickL [0, 1, 2, 3, 4, 5, 6] (by decide) rfl, (r13076.to rfl rfl), (r13081.to rfl rfl), hF⟩⟩
        ·intro ρ w hJ
         obtain ⟨g12885, c12886, cl12887, g12890, c12891, cl12892, u12889, hag, hI, r12888, r12893, hF⟩ := hJ
         obtain ⟨ρ, rfl⟩ := hag.form; clear hag
         unfold F6j5 at hF
         refine wp_seq (rgn (by kernel_rfl) (seq_c (s_loadK hI 0 2 [slv g12885 y6603.1.length c12886, slv g6608 y6603.2.1.length c6609] Try.isAgg25 Try.sizeOf25 rfl rfl rfl rfl ?_)))
         refine pu (slv g12890 u12889.length c12891) (by kernel_rfl) (seq_c (s_loadK hI 3 2 [iv y6621.1, iv y6621.2] Try.isAgg49 Try.sizeOf49 rfl rfl rfl rfl ?_))
         refine bindE hF (fun y12896 hy12897 hF => ?_)
         refine seq_c (s_callv hI 29 [.agg #[slv g12885 y6603.1.length c12886, slv g6608 y6603.2.1.length c6609], slv g12890 u12889.length c12891, .agg #[iv y6621.1, iv y6621.2]] (.tuple #[iv y12896.1, iv y12896.2]) (by kernel_rfl) (L29 _ (g12885.map fun b => ⟨b, 0, none⟩) c12886 y6603.1 (g6608.map fun b => ⟨b, 0, none⟩) c6609 y6603.2.1 (g12890.map fun b => ⟨b, 0, none⟩) c12891 u12889 (⟨y6621.1, y6621.2⟩ : Dr) (hI.rowCells 1 rfl r12888) (len_le rfl r12888.big) (len_le rfl r12888.cap) (hI.rowCells 2 rfl r6615) (len_le rfl r6615.big) (len_le rfl r6615.cap) (hI.rowCells 6 rfl r12893) (len_le rfl r12893.big) (len_le rfl r12893.cap) N _ hy12897) ?_)
         intro w hI
         refine pu (.tuple #[iv y12896.1, iv y12896.2]) (by kernel_rfl) (pu (iv y12896.1) (by kernel_rfl) (pu (iv y12896.2) (by kernel_rfl) (pu (iv y12896.1) (by kernel_rfl) (pu (iv y12896.2) (by kernel_rfl) (seq_nil (wp_seq (rgn (by kernel_rfl) (seq_c (s_loadK hI 0 2 [slv g12885 y6603.1.length c12886, slv g6608 y6603.2.1.length c6609] Try.isAgg25 Try.sizeOf25 rfl rfl rfl rfl ?_)))))))))
         refine pu (slv g12890 u12889.length c12891) (by kernel_rfl) (seq_c (s_loadK hI 4 2 [iv y6627.1, iv y6627.2] Try.isAgg49 Try.sizeOf49 rfl rfl rfl rfl ?_))
         refine bindE hF (fun y12900 hy12901 hF => ?_)
         refine seq_c (s_callv hI 29 [.agg #[slv g12885 y6603.1.length c12886, slv g6608 y6603.2.1.length c6609], slv g12890 u12889.length c12891, .agg #[iv y6627.1, iv y6627.2]] (.tuple #[iv y12900.1, iv y12900.2]) (by kernel_rfl) (L29 _ (g12885.map fun b => ⟨b, 0, none⟩) c12886 y6603.1 (g6608.map fun b => ⟨b, 0, none⟩) c6609 y6603.2.1 (g12890.map fun b => ⟨b, 0, none⟩) c12891 u12889 (⟨y6627.1, y6627.2⟩ : Dr) (hI.rowCells 1 rfl r12888) (len_le rfl r12888.big) (len_le rfl r12888.cap) (hI.rowCells 2 rfl r6615) (len_le rfl r6615.big) (len_le rfl r6615.cap) (hI.rowCells 6 rfl r12893) (len_le rfl r12893.big) (len_le rfl r12893.cap) N _ hy12901) ?_)
         intro w hI
         refine pu (.tuple #[iv y12900.1, iv y12900.2]) (by kernel_rfl) (pu (iv y12900.1) (by kernel_rfl) (pu (iv y12900.2) (by kernel_rfl) (pu (iv y12900.1) (by kernel_rfl) (pu (iv y12900.2) (by kernel_rfl) (seq_nil (wp_seq (wp_cutO (fun ρ w => Agree ρ [(2, .slice Ap2 lp2.length cp2), (8, .pointer (some ⟨b6617, 0, none⟩)), (10, .pointer (some ⟨b6623, 0, none⟩)), (11, .pointer (some ⟨b6629, 0, none⟩)), (12, .pointer (some ⟨b6635, 0, none⟩)), (14, iv y6638.1), (16, .bool v12078), (17, .bool v12079), (18, iv v12080), (23, iv y12896.1), (25, iv y12900.1), (206, .bool false)] ∧ Inv [] w0 w [(some b6617, blk [slv g12885 y6603.1.length c12886, slv g6608 y6603.2.1.length c6609] 25), (g12885, blk cl12887 30), (g6608, blk cl6610 32), (some b6623, blk [iv y6621.1, iv y6621.2] 49), (some b6629, blk [iv y6627.1, iv y6627.2] 49), (some b6635, blk [iv y6633.1, iv y6633.2.1] 28)] ∧ F6j6 (F6l3 lp2 N y6603 y6621 y6627 y6633 y6638 m3) v12078 v12079 v12080 y12896 y12900 = some r) ?_ ?_)))))))
         ·
          refine rgn (by kernel_rfl) (pu (iv y12896.2) (by kernel_rfl) (ifE hF (fun h12944 hF => ?_) (fun h12944 hF => ?_)))
          ·
           refine seq_c (s_neq rfl rfl (fun h => absurd (a := y12896.2 = 0) h12944 h) (fun _ => ?_))
           refine pu (.bool false) (by kernel_rfl) (puo (iv y12900.2) ⟨(by kernel_rfl), (by kernel_rfl)⟩ (ifE hF (fun h12945 hF => ?_) (fun h12945 hF => ?_)))
           ·
            refine seq_on (by kernel_rfl) (s_neq rfl rfl (fun h => absurd (a := y12900.2 = 0) h12945 h) (fun _ => ?_))
            refine pu (.bool false) (by kernel_rfl) (pu (.bool false) (by kernel_rfl) (puo (iv y12896.1) ⟨(by kernel_rfl), (by kernel_rfl)⟩ (puo (.pointer (some ⟨b6635, 0, none⟩)) ⟨(by kernel_rfl), (by kernel_rfl)⟩ (seq_on (by kernel_rfl) (s_load1 hI 5 (iv y6633.1) Try.isAgg3 rfl rfl rfl ?_)))))
            refine ifE hF (fun h12946 hF => ?_) (fun h12946 hF => ?_)
            ·
             refine seq_on (by kernel_rfl) (s_lss rfl rfl (fun _ => ?_) (fun h => absurd (a := y12896.1 < y6633.1) h12946 h))
             refine pu (.bool true) (by kernel_rfl) (pu (.bool true) (by kernel_rfl) (of_ (by kernel_rfl) (of_ (by kernel_rfl) (of_ (by kernel_rfl) (of_ (by kernel_rfl) (pu (.bool true) (by kernel_rfl) (pu (.bool true) (by kernel_rfl) (of_ (by kernel_rfl) (of_ (by kernel_rfl) ?_)))))))))
             refine of_ (by kernel_rfl) (seq_offN (by kernel_rfl) ?_)
             refine seq_offN (by kernel_rfl) ?_
             refine seq_offN (by kernel_rfl) ?_
             refine seq_offN (by kernel_rfl) ?_
             refine of_ (by kernel_rfl) (pu (.bool true) (by kernel_rfl) (pu (.bool true) (by kernel_rfl) (of_ (by kernel_rfl) (of_ (by kernel_rfl) (of_ (by kernel_rfl) (of_ (by kernel_rfl) (of_ (by kernel_rfl) (of_ (by kernel_rfl) (of_ (by kernel_rfl) ?_)))))))))
             refine of_ (by kernel_rfl) (seq_offN (by kernel_rfl) ?_)
             refine seq_offN (by kernel_rfl) ?_
             refine seq_offN (by kernel_rfl) ?_
             refine seq_offN (by kernel_rfl) ?_
             refine of_ (by kernel_rfl) (pu (.bool true) (by kernel_rfl) (pu (.bool true) (by kernel_rfl) (of_ (by kernel_rfl) (of_ (by kernel_rfl) (of_ (by kernel_rfl) (seq_offN (by kernel_rfl) ?_))))))
             refine seq_offN (by kernel_rfl) ?_
             refine seq_offN (by kernel_rfl) ?_
             refine of_ (by kernel_rfl) (pu (.bool true) (by kernel_rfl) (pu (.bool true) (by kernel_rfl) (of_ (by kernel_rfl) (of_ (by kernel_rfl) (of_ (by kernel_rfl) (seq_offN (by kernel_rfl) ?_))))))
             refine seq_offN (by kernel_rfl) ?_
             refine seq_offN (by kernel_rfl) ?_
             refine of_ (by kernel_rfl) (pu (.bool true) (by kernel_rfl) (seq_nil (.inr ?_)))
             refine wp_condT rfl (wp_seq (rgn (by kernel_rfl) (pu (.bool false) (by kernel_rfl) (seq_nil (wp_ret ?_)))))
             replace hF := Option.some.inj hF; subst hF
             exact ⟨.bool false, Ret.r1 rfl rfl, ⟨rfl, hI.below⟩⟩
            ·
             refine seq_on (by kernel_rfl) (s_lss rfl rfl (fun h => absurd (a := y12896.1 < y6633.1) h h12946) (fun _ => ?_))
             refine pu (.bool false) (by kernel_rfl) (pu (.bool false) (by kernel_rfl) (puo (iv y12896.1) ⟨(by kernel_rfl), (by kernel_rfl)⟩ (puo (.pointer (some ⟨b6635, 1, none⟩)) ⟨(by kernel_rfl), (by kernel_rfl)⟩ (seq_on (by kernel_rfl) (s_load1 hI 5 (iv y6633.2.1) Try.isAgg3 rfl rfl rfl ?_)))))
             refine ifE hF (fun h12947 hF => ?_) (fun h12947 hF => ?_)
             ·
              refine seq_on (by kernel_rfl) (s_gtr rfl rfl (fun _ => ?_) (fun h => absurd (a := y6633.2.1 < y12896.1) h12947 h))
              refine pu (.bool true) (by kernel_rfl) (pu (.bool true) (by kernel_rfl) (of_ (by kernel_rfl) (of_ (by kernel_rfl) (of_ (by kernel_rfl) (seq_offN (by kernel_rfl) ?_)))))
              refine seq_offN (by kernel_rfl) ?_
              refine seq_offN (by kernel_rfl) ?_
              refine seq_offN (by kernel_rfl) ?_
              refine of_ (by kernel_rfl) (pu (.bool true) (by kernel_rfl) (pu (.bool true) (by kernel_rfl) (of_ (by kernel_rfl) (of_ (by kernel_rfl) (of_ (by kernel_rfl) (of_ (by kernel_rfl) (of_ (by kernel_rfl) (of_ (by kernel_rfl) (of_ (by kernel_rfl) ?_)))))))))
              refine of_ (by kernel_rfl) (seq_offN (by kernel_rfl) ?_)
              refine seq_offN (by kernel_rfl) ?_
              refine seq_offN (by kernel_rfl) ?_
              refine seq_offN (by kernel_rfl) ?_
              refine of_ (by kernel_rfl) (pu (.bool true) (by kernel_rfl) (pu (.bool true) (by kernel_rfl) (of_ (by kernel_rfl) (of_ (by kernel_rfl) (of_ (by kernel_rfl) (seq_offN (by kernel_rfl) ?_))))))
              refine seq_offN (by kernel_rfl) ?_
              refine seq_offN (by kernel_rfl) ?_
              refine of_ (by kernel_rfl) (pu (.bool true) (by kernel_rfl) (pu (.bool true) (by kernel_rfl) (of_ (by kernel_rfl) (of_ (by kernel_rfl) (of_ (by kernel_rfl) (seq_offN (by kernel_rfl) ?_))))))
              refine seq_offN (by kernel_rfl) ?_
              refine seq_offN (by kernel_rfl) ?_
              refine of_ (by kernel_rfl) (pu (.bool true) (by kernel_rfl) (seq_nil (.inr ?_)))
              refine wp_condT rfl (wp_seq (rgn (by kernel_rfl) (pu (.bool false) (by kernel_rfl) (seq_nil (wp_ret ?_)))))
              replace hF := Option.some.inj hF; subst hF
              exact ⟨.bool false, Ret.r1 rfl rfl, ⟨rfl, hI.below⟩⟩
             ·
              refine seq_on (by kernel_rfl) (s_gtr rfl rfl (fun h => absurd (a := y6633.2.1 < y12896.1) h h12947) (fun _ => ?_))
              refine pu (.bool false) (by kernel_rfl) (pu (.bool false) (by kernel_rfl) (puo (iv v12080) ⟨(by kernel_rfl), (by kernel_rfl)⟩ (ifE hF (fun h12948 hF => ?_) (fun h12948 hF => ?_))))
              ·
               refine seq_on (by kernel_rfl) (s_eql rfl rfl (fun _ => ?_) (fun h => absurd (a := v12080 = 0) h12948 h))
               refine puo (.bool true) ⟨(by kernel_rfl), (by kernel_rfl)⟩ (puo (iv y12896.1) ⟨(by kernel_rfl), (by kernel_rfl)⟩ (puo (.pointer (some ⟨b6635, 0, none⟩)) ⟨(by kernel_rfl), (by kernel_rfl)⟩ (seq_on (by kernel_rfl) (s_load1 hI 5 (iv y6633.1) Try.isAgg3 rfl rfl rfl ?_))))
               refine ifE hF (fun h12949 hF => ?_) (fun h12949 hF => ?_)
               ·
                refine seq_on (by kernel_rfl) (s_neq rfl rfl (fun h => absurd (a := y12896.1 = y6633.1) h12949 h) (fun _ => ?_))
                refine puo (.bool false) ⟨(by kernel_rfl), (by kernel_rfl)⟩ (pu (.bool false) (by kernel_rfl) (pu (.bool false) (by kernel_rfl) (puo (iv v12080) ⟨(by kernel_rfl), (by kernel_rfl)⟩ (puo (.pointer (some ⟨b6617, 0, none⟩)) ⟨(by kernel_rfl), (by kernel_rfl)⟩ (seq_on (by kernel_rfl) (s_load1 hI 0 (slv g12885 y6603.1.length c12886) Try.isAgg22 rfl rfl rfl ?_))))))
                refine puo (iv ((y6603.1.length : Nat) : Int)) ⟨(by kernel_rfl), (by kernel_rfl)⟩ (seq_on (by kernel_rfl) (s_shl rfl rfl h12058 h12059 ?_))
                refine ckE hF (fun h12950 hF => ?_)
                refine seq_on (by kernel_rfl) (s_sub rfl rfl h12950 ?_)
                refine ifE hF (fun h12951 hF => ?_) (fun h12951 hF => ?_)
                ·
                 refine seq_on (by kernel_rfl) (s_eql rfl rfl (fun _ => ?_) (fun h => absurd (a := v12080 = ((1 * 2 ^ ((y6603.1.length : Int) : Int).toNat) - 1)) h12951 h))
                 refine puo (.bool true) ⟨(by kernel_rfl), (by kernel_rfl)⟩ (puo (iv y12896.1) ⟨(by kernel_rfl), (by kernel_rfl)⟩ (puo (.pointer (some ⟨b6635, 1, none⟩)) ⟨(by kernel_rfl), (by kernel_rfl)⟩ (seq_on (by kernel_rfl) (s_load1 hI 5 (iv y6633.2.1) Try.isAgg3 rfl rfl rfl ?_))))
                 refine ifE hF (fun h12952 hF => ?_) (fun h12952 hF => ?_)
                 ·
                  refine seq_on (by kernel_rfl) (s_neq rfl rfl (fun h => absurd (a := y12896.1 = y6633.2.1) h12952 h) (fun _ => ?_))
                  refine puo (.bool false) ⟨(by kernel_rfl), (by kernel_rfl)⟩ (pu (.bool false) (by kernel_rfl) (pu (.bool false) (by kernel_rfl) (puo (iv y6638.1) ⟨(by kernel_rfl), (by kernel_rfl)⟩ (ifE hF (fun h12953 hF => ?_) (fun h12953 hF => ?_)))))
                  ·
                   refine seq_on (by kernel_rfl) (s_eql rfl rfl (fun _ => ?_) (fun h => absurd (a := y6638.1 = 1) h12953 h))
                   refine puo (.bool true) ⟨(by kernel_rfl), (by kernel_rfl)⟩ (puo (iv y12896.1) ⟨(by kernel_rfl), (by kernel_rfl)⟩ (puo (iv y12900.1) ⟨(by kernel_rfl), (by kernel_rfl)⟩ (ifE hF (fun h12954 hF => ?_) (fun h12954 hF => ?_))))
                   ·
                    refine seq_on (by kernel_rfl) (s_leq rfl rfl (fun _ => ?_) (fun h => absurd (a := y12896.1 ≤ y12900.1) h12954 h))
                    refine puo (.bool true) ⟨(by kernel_rfl), (by kernel_rfl)⟩ (pu (.bool true) (by kernel_rfl) (pu (.bool true) (by kernel_rfl) (of_ (by kernel_rfl) (of_ (by kernel_rfl) (of_ (by kernel_rfl) (seq_offN (by kernel_rfl) ?_))))))
                    refine seq_offN (by kernel_rfl) ?_
                    refine seq_offN (by kernel_rfl) ?_
                    refine of_ (by kernel_rfl) (pu (.bool true) (by kernel_rfl) (seq_nil (.inr ?_)))
                    refine wp_condT rfl (wp_seq (rgn (by kernel_rfl) (pu (.bool false) (by kernel_rfl) (seq_nil (wp_ret ?_)))))
                    replace hF := Option.some.inj hF; subst hF
                    exact ⟨.bool false, Ret.r1 rfl rfl, ⟨rfl, hI.below⟩⟩
                   ·
                    refine seq_on (by kernel_rfl) (s_leq rfl rfl (fun h => absurd (a := y12896.1 ≤ y12900.1) h h12954) (fun _ => ?_))
                    refine puo (.bool false) ⟨(by kernel_rfl), (by kernel_rfl)⟩ (pu (.bool false) (by kernel_rfl) (pu (.bool false) (by kernel_rfl) (puo (iv y6638.1) ⟨(by kernel_rfl), (by kernel_rfl)⟩ (ifE hF (fun h12955 hF => ?_) (fun h12955 hF => ?_)))))
                    ·
                     refine seq_on (by kernel_rfl) (s_eql rfl rfl (fun _ => ?_) (fun h => absurd (a := y6638.1 = 0) h12955 h))
                     refine puo (.bool true) ⟨(by kernel_rfl), (by kernel_rfl)⟩ (puo (iv y12896.1) ⟨(by kernel_rfl), (by kernel_rfl)⟩ (puo (iv y12900.1) ⟨(by kernel_rfl), (by kernel_rfl)⟩ (ifE hF (fun h12956 hF => ?_) (fun h12956 hF => ?_))))
                     ·
                      refine seq_on (by kernel_rfl) (s_gtr rfl rfl (fun _ => ?_) (fun h => absurd (a := y12900.1 < y12896.1) h12956 h))
                      refine puo (.bool true) ⟨(by kernel_rfl), (by kernel_rfl)⟩ (pu (.bool true) (by kernel_rfl) (seq_nil (.inr ?_)))
                      refine wp_condT rfl (wp_seq (rgn (by kernel_rfl) (pu (.bool false) (by kernel_rfl) (seq_nil (wp_ret ?_)))))
                      replace hF := Option.some.inj hF; subst hF
                      exact ⟨.bool false, Ret.r1 rfl rfl, ⟨rfl, hI.below⟩⟩
                     ·
                      refine seq_on (by kernel_rfl) (s_gtr rfl rfl (fun h => absurd (a := y12900.1 < y12896.1) h h12956) (fun _ => ?_))
                      refine puo (.bool false) ⟨(by kernel_rfl), (by kernel_rfl)⟩ (pu (.bool false) (by kernel_rfl) (seq_nil ?_))
                      exact .inl ⟨rfl, ⟨⟨rfl, rfl, rfl, rfl, rfl, rfl, rfl, rfl, rfl, rfl, rfl, rfl, trivial⟩, hI.pickL [0, 1, 2, 3, 4, 5] (by decide) rfl, hF⟩⟩
                    ·
                     refine seq_on (by kernel_rfl) (s_eql rfl rfl (fun h => absurd (a := y6638.1 = 0) h h12955) (fun _ => ?_))
                     refine puo (.bool false) ⟨(by kernel_rfl), (by kernel_rfl)⟩ (of_ (by kernel_rfl) (of_ (by kernel_rfl) (of_ (by kernel_rfl) (puo (.bool false) ⟨(by kernel_rfl), (by kernel_rfl)⟩ (pu (.bool false) (by kernel_rfl) (seq_nil ?_))))))
                     exact .inl ⟨rfl, ⟨⟨rfl, rfl, rfl, rfl, rfl, rfl, rfl, rfl, rfl, rfl, rfl, rfl, trivial⟩, hI.pickL [0, 1, 2, 3, 4, 5] (by decide) rfl, hF⟩⟩
                  ·
                   refine seq_on (by kernel_rfl) (s_eql rfl rfl (fun h => absurd (a := y6638.1 = 1) h h12953) (fun _ => ?_))
                   refine puo (.bool false) ⟨(by kernel_rfl), (by kernel_rfl)⟩ (of_ (by kernel_rfl) (of_ (by kernel_rfl) (of_ (by kernel_rfl) (puo (.bool false) ⟨(by kernel_rfl), (by kernel_rfl)⟩ (pu (.bool false) (by kernel_rfl) (pu (.bool false) (by kernel_rfl) (puo (iv y6638.1) ⟨(by kernel_rfl), (by kernel_rfl)⟩ (ifE hF (fun h12957 hF => ?_) (fun h12957 hF => ?_)))))))))
                   ·
                    refine seq_on (by kernel_rfl) (s_eql rfl rfl (fun _ => ?_) (fun h => absurd (a := y6638.1 = 0) h12957 h))
                    refine puo (.bool true) ⟨(by kernel_rfl), (by kernel_rfl)⟩ (puo (iv y12896.1) ⟨(by kernel_rfl), (by kernel_rfl)⟩ (puo (iv y12900.1) ⟨(by kernel_rfl), (by kernel_rfl)⟩ (ifE hF (fun h12958 hF => ?_) (fun h12958 hF => ?_))))
                    ·
                     refine seq_on (by kernel_rfl) (s_gtr rfl rfl (fun _ => ?_) (fun h => absurd (a := y12900.1 < y12896.1) h12958 h))
                     refine puo (.bool true) ⟨(by kernel_rfl), (by kernel_rfl)⟩ (pu (.bool true) (by kernel_rfl) (seq_nil (.inr ?_)))
                     refine wp_condT rfl (wp_seq (rgn (by kernel_rfl) (pu (.bool false) (by kernel_rfl) (seq_nil (wp_ret ?_)))))
                     replace hF := Option.some.inj hF; subst hF
                     exact ⟨.bool false, Ret.r1 rfl rfl, ⟨rfl, hI.below⟩⟩
                    ·
                     refine seq_on (by kernel_rfl) (s_gtr rfl rfl (fun h => absurd (a := y12900.1 < y12896.1) h h12958) (fun _ => ?_))
                     refine puo (.bool false) ⟨(by kernel_rfl), (by kernel_rfl)⟩ (pu (.bool false) (by kernel_rfl) (seq_nil ?_))
                     exact .inl ⟨rfl, ⟨⟨rfl, rfl, rfl, rfl, rfl, rfl, rfl, rfl, rfl, rfl, rfl, rfl, trivial⟩, hI.pickL [0, 1, 2, 3, 4, 5] (by decide) rfl, hF⟩⟩
                   ·
                    refine seq_on (by kernel_rfl) (s_eql rfl rfl (fun h => absurd (a := y6638.1 = 0) h h12957) (fun _ => ?_))
                    refine puo (.bool false) ⟨(by kernel_rfl), (by kernel_rfl)⟩ (of_ (by kernel_rfl) (of_ (by kernel_rfl) (of_ (by kernel_rfl) (puo (.bool false) ⟨(by kernel_rfl), (by kernel_rfl)⟩ (pu (.bool false) (by kernel_rfl) (seq_nil ?_))))))
                    exact .inl ⟨rfl, ⟨⟨rfl, rfl, rfl, rfl, rfl, rfl, rfl, rfl, rfl, rfl, rfl, rfl, trivial⟩, hI.pickL [0, 1, 2, 3, 4, 5] (by decide) rfl, hF⟩⟩
                 ·
                  refine seq_on (by kernel_rfl) (s_neq rfl rfl (fun _ => ?_) (fun h => absurd (a := y12896.1 = y6633.2.1) h h12952))
                  refine puo (.bool true) ⟨(by kernel_rfl), (by kernel_rfl)⟩ (pu (.bool true) (by kernel_rfl) (pu (.bool true) (by kernel_rfl) (of_ (by kernel_rfl) (of_ (by kernel_rfl) (of_ (by kernel_rfl) (seq_offN (by kernel_rfl) ?_))))))
                  refine seq_offN (by kernel_rfl) ?_
                  refine seq_offN (by kernel_rfl) ?_
                  refine of_ (by kernel_rfl) (pu (.bool true) (by kernel_rfl) (pu (.bool true) (by kernel_rfl) (of_ (by kernel_rfl) (of_ (by kernel_rfl) (of_ (by kernel_rfl) (seq_offN (by kernel_rfl) ?_))))))
                  refine seq_offN (by kernel_rfl) ?_
                  refine seq_offN (by kernel_rfl) ?_
                  refine of_ (by kernel_rfl) (pu (.bool true) (by kernel_rfl) (seq_nil (.inr ?_)))
                  refine wp_condT rfl (wp_seq (rgn (by kernel_rfl) (pu (.bool false) (by kernel_rfl) (seq_nil (wp_ret ?_)))))
                  replace hF := Option.some.inj hF; subst hF
                  exact ⟨.bool false, Ret.r1 rfl rfl, ⟨rfl, hI.below⟩⟩
                ·
                 refine seq_on (by kernel_rfl) (s_eql rfl rfl (fun h => absurd (a := v12080 = ((1 * 2 ^ ((y6603.1.length : Int) : Int).toNat) - 1)) h h12951) (fun _ => ?_))
                 refine puo (.bool false) ⟨(by kernel_rfl), (by kernel_rfl)⟩ (of_ (by kernel_rfl) (of_ (by kernel_rfl) (of_ (by kernel_rfl) (of_ (by kernel_rfl) (puo (.bool false) ⟨(by kernel_rfl), (by kernel_rfl)⟩ (pu (.bool false) (by kernel_rfl) (pu (.bool false) (by kernel_rfl) (puo (iv y6638.1) ⟨(by kernel_rfl), (by kernel_rfl)⟩ (ifE hF (fun h12959 hF => ?_) (fun h12959 hF => ?_))))))))))
                 ·
                  refine seq_on (by kernel_rfl) (s_eql rfl rfl (fun _ => ?_) (fun h => absurd (a := y6638.1 = 1) h12959 h))
                  refine puo (.bool true) ⟨(by kernel_rfl), (by kernel_rfl)⟩ (puo (iv y12896.1) ⟨(by kernel_rfl), (by kernel_rfl)⟩ (puo (iv y12900.1) ⟨(by kernel_rfl), (by kernel_rfl)⟩ (ifE hF (fun h12960 hF => ?_) (fun h12960 hF => ?_))))
                  ·
                   refine seq_on (by kernel_rfl) (s_leq rfl rfl (fun _ => ?_) (fun h => absurd (a := y12896.1 ≤ y12900.1) h12960 h))
                   refine puo (.bool true) ⟨(by kernel_rfl), (by kernel_rfl)⟩ (pu (.bool true) (by kernel_rfl) (pu (.bool true) (by kernel_rfl) (of_ (by kernel_rfl) (of_ (by kernel_rfl) (of_ (by kernel_rfl) (seq_offN (by kernel_rfl) ?_))))))
                   refine seq_offN (by kernel_rfl) ?_
                   refine seq_offN (by kernel_rfl) ?_
                   refine of_ (by kernel_rfl) (pu (.bool true) (by kernel_rfl) (seq_nil (.inr ?_)))
                   refine wp_condT rfl (wp_seq (rgn (by kernel_rfl) (pu (.bool false) (by kernel_rfl) (seq_nil (wp_ret ?_)))))
                   replace hF := Option.some.inj hF; subst hF
                   exact ⟨.bool false, Ret.r1 rfl rfl, ⟨rfl, hI.below⟩⟩
                  ·
                   refine seq_on (by kernel_rfl) (s_leq rfl rfl (fun h => absurd (a := y12896.1 ≤ y12900.1) h h12960) (fun _ => ?_))
                   refine puo (.bool false) ⟨(by kernel_rfl), (by kernel_rfl)⟩ (pu (.bool false) (by kernel_rfl) (pu (.bool false) (by kernel_rfl) (puo (iv y6638.1) ⟨(by kernel_rfl), (by kernel_rfl)⟩ (ifE hF (fun h12961 hF => ?_) (fun h12961 hF => ?_)))))
                   ·
                    refine seq_on (by kernel_rfl) (s_eql rfl rfl (fun _ => ?_) (fun h => absurd (a := y6638.1 = 0) h12961 h))
                    refine puo (.bool true) ⟨(by kernel_rfl), (by kernel_rfl)⟩ (puo (iv y12896.1) ⟨(by kernel_rfl), (by kernel_rfl)⟩ (puo (iv y12900.1) ⟨(by kernel_rfl), (by kernel_rfl)⟩ (ifE hF (fun h12962 hF => ?_) (fun h12962 hF => ?_))))
                    ·
                     refine seq_on (by kernel_rfl) (s_gtr rfl rfl (fun _ => ?_) (fun h => absurd (a := y12900.1 < y12896.1) h12962 h))
                     refine puo (.bool true) ⟨(by kernel_rfl), (by kernel_rfl)⟩ (pu (.bool true) (by kernel_rfl) (seq_nil (.inr ?_)))
                     refine wp_condT rfl (wp_seq (rgn (by kernel_rfl) (pu (.bool false) (by kernel_rfl) (seq_nil (wp_ret ?_)))))
                     replace hF := Option.some.inj hF; subst hF
                     exact ⟨.bool false, Ret.r1 rfl rfl, ⟨rfl, hI.below⟩⟩
                    ·
                     refine seq_on (by kernel_rfl) (s_gtr rfl rfl (fun h => absurd (a := y12900.1 < y12896.1) h h12962) (fun _ => ?_))
                     refine puo (.bool false) ⟨(by kernel_rfl), (by kernel_rfl)⟩ (pu (.bool false) (by kernel_rfl) (seq_nil ?_))
                     exact .inl ⟨rfl, ⟨⟨rfl, rfl, rfl, rfl, rfl, rfl, rfl, rfl, rfl, rfl, rfl, rfl, trivial⟩, hI.pickL [0, 1, 2, 3, 4, 5] (by decide) rfl, hF⟩⟩
                   ·
                    refine seq_on (by kernel_rfl) (s_eql rfl rfl (fun h => absurd (a := y6638.1 = 0) h h12961) (fun _ => ?_))
                    refine puo (.bool false) ⟨(by kernel_rfl), (by kernel_rfl)⟩ (of_ (by kernel_rfl) (of_ (by kernel_rfl) (of_ (by kernel_rfl) (puo (.bool false) ⟨(by kernel_rfl), (by kernel_rfl)⟩ (pu (.bool false) (by kernel_rfl) (seq_nil ?_))))))
                    exact .inl ⟨rfl, ⟨⟨rfl, rfl, rfl, rfl, rfl, rfl, rfl, rfl, rfl, rfl, rfl, rfl, trivial⟩, hI.pickL [0, 1, 2, 3, 4, 5] (by decide) rfl, hF⟩⟩
                 ·
                  refine seq_on (by kernel_rfl) (s_eql rfl rfl (fun h => absurd (a := y6638.1 = 1) h h12959) (fun _ => ?_))
                  refine puo (.bool false) ⟨(by kernel_rfl), (by kernel_rfl)⟩ (of_ (by kernel_rfl) (of_ (by kernel_rfl) (of_ (by kernel_rfl) (puo (.bool false) ⟨(by kernel_rfl), (by kernel_rfl)⟩ (pu (.bool false) (by kernel_rfl) (pu (.bool false) (by kernel_rfl) (puo (iv y6638.1) ⟨(by kernel_rfl), (by kernel_rfl)⟩ (ifE hF (fun h12963 hF => ?_) (fun h12963 hF => ?_)))))))))
                  ·
                   refine seq_on (by kernel_rfl) (s_eql rfl rfl (fun _ => ?_) (fun h => absurd (a := y6638.1 = 0) h12963 h))
                   refine puo (.bool true) ⟨(by kernel_rfl), (by kernel_rfl)⟩ (puo (iv y12896.1) ⟨(by kernel_rfl), (by kernel_rfl)⟩ (puo (iv y12900.1) ⟨(by kernel_rfl), (by kernel_rfl)⟩ (ifE hF (fun h12964 hF => ?_) (fun h12964 hF => ?_))))
                   ·
                    refine seq_on (by kernel_rfl) (s_gtr rfl rfl (fun _ => ?_) (fun h => absurd (a := y12900.1 < y12896.1) h12964 h))
                    refine puo (.bool true) ⟨(by kernel_rfl), (by kernel_rfl)⟩ (pu (.bool true) (by kernel_rfl) (seq_nil (.inr ?_)))
                    refine wp_condT rfl (wp_seq (rgn (by kernel_rfl) (pu (.bool false) (by kernel_rfl) (seq_nil (wp_ret ?_)))))
                    replace hF := Option.some.inj hF; subst hF
                    exact ⟨.bool false, Ret.r1 rfl rfl, ⟨rfl, hI.below⟩⟩
                   ·
                    refine seq_on (by kernel_rfl) (s_gtr rfl rfl (fun h => absurd (a := y12900.1 < y12896.1) h h12964) (fun _ => ?_))
                    refine puo (.bool false) ⟨(by kernel_rfl), (by kernel_rfl)⟩ (pu (.bool false) (by kernel_rfl) (seq_nil ?_))
                    exact .inl ⟨rfl, ⟨⟨rfl, rfl, rfl, rfl, rfl, rfl, rfl, rfl, rfl, rfl, rfl, rfl, trivial⟩, hI.pickL [0, 1, 2, 3, 4, 5] (by decide) rfl, hF⟩⟩
                  ·
                   refine seq_on (by kernel_rfl) (s_eql rfl rfl (fun h => absurd (a := y6638.1 = 0) h h12963) (fun _ => ?_))
                   refine puo (.bool false) ⟨(by kernel_rfl), (by kernel_rfl)⟩ (of_ (by kernel_rfl) (of_ (by kernel_rfl) (of_ (by kernel_rfl) (puo (.bool false) ⟨(by kernel_rfl), (by kernel_rfl)⟩ (pu (.bool false) (by kernel_rfl) (seq_nil ?_))))))
                   exact .inl ⟨rfl, ⟨⟨rfl, rfl, rfl, rfl, rfl, rfl, rfl, rfl, rfl, rfl, rfl, rfl, trivial⟩, hI.pickL [0, 1, 2, 3, 4, 5] (by decide) rfl, hF⟩⟩
               ·
                refine seq_on (by kernel_rfl) (s_neq rfl rfl (fun _ => ?_) (fun h => absurd (a := y12896.1 = y6633.1) h h12949))
                refine puo (.bool true) ⟨(by kernel_rfl), (by kernel_rfl)⟩ (pu (.bool true) (by kernel_rfl) (pu (.bool true) (by kernel_rfl) (of_ (by kernel_rfl) (of_ (by kernel_rfl) (of_ (by kernel_rfl) (of_ (by kernel_rfl) (of_ (by kernel_rfl) (of_ (by kernel_rfl) (of_ (by kernel_rfl) ?_)))))))))
                refine of_ (by kernel_rfl) (seq_offN (by kernel_rfl) ?_)
                refine seq_offN (by kernel_rfl) ?_
                refine seq_offN (by kernel_rfl) ?_
                refine seq_offN (by kernel_rfl) ?_
                refine of_ (by kernel_rfl) (pu (.bool true) (by kernel_rfl) (pu (.bool true) (by kernel_rfl) (of_ (by kernel_rfl) (of_ (by kernel_rfl) (of_ (by kernel_rfl) (seq_offN (by kernel_rfl) ?_))))))
                refine seq_offN (by kernel_rfl) ?_
                refine seq_offN (by kernel_rfl) ?_
                refine of_ (by kernel_rfl) (pu (.bool true) (by kernel_rfl) (pu (.bool true) (by kernel_rfl) (of_ (by kernel_rfl) (of_ (by kernel_rfl) (of_ (by kernel_rfl) (seq_offN (by kernel_rfl) ?_))))))
                refine seq_offN (by kernel_rfl) ?_
                refine seq_offN (by kernel_rfl) ?_
                refine of_ (by kernel_rfl) (pu (.bool true) (by kernel_rfl) (seq_nil (.inr ?_)))
                refine wp_condT rfl (wp_seq (rgn (by kernel_rfl) (pu (.bool false) (by kernel_rfl) (seq_nil (wp_ret ?_)))))
                replace hF := Option.some.inj hF; subst hF
                exact ⟨.bool false, Ret.r1 rfl rfl, ⟨rfl, hI.below⟩⟩
              ·
               refine seq_on (by kernel_rfl) (s_eql rfl rfl (fun h => absurd (a := v12080 = 0) h h12948) (fun _ => ?_))
               refine puo (.bool false) ⟨(by kernel_rfl), (by kernel_rfl)⟩ (of_ (by kernel_rfl) (of_ (by kernel_rfl) (of_ (by kernel_rfl) (of_ (by kernel_rfl) (puo (.bool false) ⟨(by kernel_rfl), (by kernel_rfl)⟩ (pu (.bool false) (by kernel_rfl) (pu (.bool false) (by kernel_rfl) (puo (iv v12080) ⟨(by kernel_rfl), (by kernel_rfl)⟩ (puo (.pointer (some ⟨b6617, 0, none⟩)) ⟨(by kernel_rfl), (by kernel_rfl)⟩ ?_)))))))))
               refine seq_on (by kernel_rfl) (s_load1 hI 0 (slv g12885 y6603.1.length c12886) Try.isAgg22 rfl rfl rfl ?_)
               refine puo (iv ((y6603.1.length : Nat) : Int)) ⟨(by kernel_rfl), (by kernel_rfl)⟩ (seq_on (by kernel_rfl) (s_shl rfl rfl h12058 h12059 ?_))
               refine ckE hF (fun h12965 hF => ?_)
               refine seq_on (by kernel_rfl) (s_sub rfl rfl h12965 ?_)
               refine ifE hF (fun h12966 hF => ?_) (fun h12966 hF => ?_)
               ·
                refine seq_on (by kernel_rfl) (s_eql rfl rfl (fun _ => ?_) (fun h => absurd (a := v12080 = ((1 * 2 ^ ((y6603.1.length : Int) : Int).toNat) - 1)) h12966 h))
                refine puo (.bool true) ⟨(by kernel_rfl), (by kernel_rfl)⟩ (puo (iv y12896.1) ⟨(by kernel_rfl), (by kernel_rfl)⟩ (puo (.pointer (some ⟨b6635, 1, none⟩)) ⟨(by kernel_rfl), (by kernel_rfl)⟩ (seq_on (by kernel_rfl) (s_load1 hI 5 (iv y6633.2.1) Try.isAgg3 rfl rfl rfl ?_))))
                refine ifE hF (fun h12967 hF => ?_) (fun h12967 hF => ?_)
                ·
                 refine seq_on (by kernel_rfl) (s_neq rfl rfl (fun h => absurd (a := y12896.1 = y6633.2.1) h12967 h) (fun _ => ?_))
                 refine puo (.bool false) ⟨(by kernel_rfl), (by kernel_rfl)⟩ (pu (.bool false) (by kernel_rfl) (pu (.bool false) (by kernel_rfl) (puo (iv y6638.1) ⟨(by kernel_rfl), (by kernel_rfl)⟩ (ifE hF (fun h12968 hF => ?_) (fun h12968 hF => ?_)))))
                 ·
                  refine seq_on (by kernel_rfl) (s_eql rfl rfl (fun _ => ?_) (fun h => absurd (a := y6638.1 = 1) h12968 h))
                  refine puo (.bool true) ⟨(by kernel_rfl), (by kernel_rfl)⟩ (puo (iv y12896.1) ⟨(by kernel_rfl), (by kernel_rfl)⟩ (puo (iv y12900.1) ⟨(by kernel_rfl), (by kernel_rfl)⟩ (ifE hF (fun h12969 hF => ?_) (fun h12969 hF => ?_))))
                  ·
                   refine seq_on (by kernel_rfl) (s_leq rfl rfl (fun _ => ?_) (fun h => absurd (a := y12896.1 ≤ y12900.1) h12969 h))
                   refine puo (.bool true) ⟨(by kernel_rfl), (by kernel_rfl)⟩ (pu (.bool true) (by kernel_rfl) (pu (.bool true) (by kernel_rfl) (of_ (by kernel_rfl) (of_ (by kernel_rfl) (of_ (by kernel_rfl) (seq_offN (by kernel_rfl) ?_))))))
                   refine seq_offN (by kernel_rfl) ?_
                   refine seq_offN (by kernel_rfl) ?_
                   refine of_ (by kernel_rfl) (pu (.bool true) (by kernel_rfl) (seq_nil (.inr ?_)))
                   refine wp_condT rfl (wp_seq (rgn (by kernel_rfl) (pu (.bool false) (by kernel_rfl) (seq_nil (wp_ret ?_)))))
                   replace hF := Option.some.inj hF; subst hF
                   exact ⟨.bool false, Ret.r1 rfl rfl, ⟨rfl, hI.below⟩⟩
                  ·
                   refine seq_on (by kernel_rfl) (s_leq rfl rfl (fun h => absurd (a := y12896.1 ≤ y12900.1) h h12969) (fun _ => ?_))
                   refine puo (.bool false) ⟨(by kernel_rfl), (by kernel_rfl)⟩ (pu (.bool false) (by kernel_rfl) (pu (.bool false) (by kernel_rfl) (puo (iv y6638.1) ⟨(by kernel_rfl), (by kernel_rfl)⟩ (ifE hF (fun h12970 hF => ?_) (fun h12970 hF => ?_)))))
                   ·
                    refine seq_on (by kernel_rfl) (s_eql rfl rfl (fun _ => ?_) (fun h => absurd (a := y6638.1 = 0) h12970 h))
                    refine puo (.bool true) ⟨(by kernel_rfl), (by kernel_rfl)⟩ (puo (iv y12896.1) ⟨(by kernel_rfl), (by kernel_rfl)⟩ (puo (iv y12900.1) ⟨(by kernel_rfl), (by kernel_rfl)⟩ (ifE hF (fun h12971 hF => ?_) (fun h12971 hF => ?_))))
                    ·
                     refine seq_on (by kernel_rfl) (s_gtr rfl rfl (fun _ => ?_) (fun h => absurd (a := y12900.1 < y12896.1) h12971 h))
                     refine puo (.bool true) ⟨(by kernel_rfl), (by kernel_rfl)⟩ (pu (.bool true) (by kernel_rfl) (seq_nil (.inr ?_)))
                     refine wp_condT rfl (wp_seq (rgn (by kernel_rfl) (pu (.bool false) (by kernel_rfl) (seq_nil (wp_ret ?_)))))
                     replace hF := Option.some.inj hF; subst hF
                     exact ⟨.bool false, Ret.r1 rfl rfl, ⟨rfl, hI.below⟩⟩
                    ·
                     refine seq_on (by kernel_rfl) (s_gtr rfl rfl (fun h => absurd (a := y12900.1 < y12896.1) h h12971) (fun _ => ?_))
                     refine puo (.bool false) ⟨(by kernel_rfl), (by kernel_rfl)⟩ (pu (.bool false) (by kernel_rfl) (seq_nil ?_))
                     exact .inl ⟨rfl, ⟨⟨rfl, rfl, rfl, rfl, rfl, rfl, rfl, rfl, rfl, rfl, rfl, rfl, trivial⟩, hI.pickL [0, 1, 2, 3, 4, 5] (by decide) rfl, hF⟩⟩
                   ·
                    refine seq_on (by kernel_rfl) (s_eql rfl rfl (fun h => absurd (a := y6638.1 = 0) h h12970) (fun _ => ?_))
                    refine puo (.bool false) ⟨(by kernel_rfl), (by kernel_rfl)⟩ (of_ (by kernel_rfl) (of_ (by kernel_rfl) (of_ (by kernel_rfl) (puo (.bool false) ⟨(by kernel_rfl), (by kernel_rfl)⟩ (pu (.bool false) (by kernel_rfl) (seq_nil ?_))))))
                    exact .inl ⟨rfl, ⟨⟨rfl, rfl, rfl, rfl, rfl, rfl, rfl, rfl, rfl, rfl, rfl, rfl, trivial⟩, hI.pickL [0, 1, 2, 3, 4, 5] (by decide) rfl, hF⟩⟩
                 ·
                  refine seq_on (by kernel_rfl) (s_eql rfl rfl (fun h => absurd (a := y6638.1 = 1) h h12968) (fun _ => ?_))
                  refine puo (.bool false) ⟨(by kernel_rfl), (by kernel_rfl)⟩ (of_ (by kernel_rfl) (of_ (by kernel_rfl) (of_ (by kernel_rfl) (puo (.bool false) ⟨(by kernel_rfl), (by kernel_rfl)⟩ (pu (.bool false) (by kernel_rfl) (pu (.bool false) (by kernel_rfl) (puo (iv y6638.1) ⟨(by kernel_rfl), (by kernel_rfl)⟩ (ifE hF (fun h12972 hF => ?_) (fun h12972 hF => ?_)))))))))
                  ·
                   refine seq_on (by kernel_rfl) (s_eql rfl rfl (fun _ => ?_) (fun h => absurd (a := y6638.1 = 0) h12972 h))
                   refine puo (.bool true) ⟨(by kernel_rfl), (by kernel_rfl)⟩ (puo (iv y12896.1) ⟨(by kernel_rfl), (by kernel_rfl)⟩ (puo (iv y12900.1) ⟨(by kernel_rfl), (by kernel_rfl)⟩ (ifE hF (fun h12973 hF => ?_) (fun h12973 hF => ?_))))
                   ·
                    refine seq_on (by kernel_rfl) (s_gtr rfl rfl (fun _ => ?_) (fun h => absurd (a := y12900.1 < y12896.1) h12973 h))
                    refine puo (.bool true) ⟨(by kernel_rfl), (by kernel_rfl)⟩ (pu (.bool true) (by kernel_rfl) (seq_nil (.inr ?_)))
                    refine wp_condT rfl (wp_seq (rgn (by kernel_rfl) (pu (.bool false) (by kernel_rfl) (seq_nil (wp_ret ?_)))))
                    replace hF := Option.some.inj hF; subst hF
                    exact ⟨.bool false, Ret.r1 rfl rfl, ⟨rfl, hI.below⟩⟩
                   ·
                    refine seq_on (by kernel_rfl) (s_gtr rfl rfl (fun h => absurd (a := y12900.1 < y12896.1) h h12973) (fun _ => ?_))
                    refine puo (.bool false) ⟨(by kernel_rfl), (by kernel_rfl)⟩ (pu (.bool false) (by kernel_rfl) (seq_nil ?_))
                    exact .inl ⟨rfl, ⟨⟨rfl, rfl, rfl, rfl, rfl, rfl, rfl, rfl, rfl, rfl, rfl, rfl, trivial⟩, hI.pickL [0, 1, 2, 3, 4, 5] (by decide) rfl, hF⟩⟩
                  ·
                   refine seq_on (by kernel_rfl) (s_eql rfl rfl (fun h => absurd (a := y6638.1 = 0) h h12972) (fun _ => ?_))
                   refine puo (.bool false) ⟨(by kernel_rfl), (by kernel_rfl)⟩ (of_ (by kernel_rfl) (of_ (by kernel_rfl) (of_ (by kernel_rfl) (puo (.bool false) ⟨(by kernel_rfl), (by kernel_rfl)⟩ (pu (.bool false) (by kernel_rfl) (seq_nil ?_))))))
                   exact .inl ⟨rfl, ⟨⟨rfl, rfl, rfl, rfl, rfl, rfl, rfl, rfl, rfl, rfl, rfl, rfl, trivial⟩, hI.pickL [0, 1, 2, 3, 4, 5] (by decide) rfl, hF⟩⟩
                ·
                 refine seq_on (by kernel_rfl) (s_neq rfl rfl (fun _ => ?_) (fun h => absurd (a := y12896.1 = y6633.2.1) h h12967))
                 refine puo (.bool true) ⟨(by kernel_rfl), (by kernel_rfl)⟩ (pu (.bool true) (by kernel_rfl) (pu (.bool true) (by kernel_rfl) (of_ (by kernel_rfl) (of_ (by kernel_rfl) (of_ (by kernel_rfl) (seq_offN (by kernel_rfl) ?_))))))
                 refine seq_offN (by kernel_rfl) ?_
                 refine seq_offN (by kernel_rfl) ?_
                 refine of_ (by kernel_rfl) (pu (.bool true) (by kernel_rfl) (pu (.bool true) (by kernel_rfl) (of_ (by kernel_rfl) (of_ (by kernel_rfl) (of_ (by kernel_rfl) (seq_offN (by kernel_rfl) ?_))))))
                 refine seq_offN (by kernel_rfl) ?_
                 refine seq_offN (by kernel_rfl) ?_
                 refine of_ (by kernel_rfl) (pu (.bool true) (by kernel_rfl) (seq_nil (.inr ?_)))
                 refine wp_condT rfl (wp_seq (rgn (by kernel_rfl) (pu (.bool false) (by kernel_rfl) (seq_nil (wp_ret ?_)))))
                 replace hF := Option.some.inj hF; subst hF
                 exact ⟨.bool false, Ret.r1 rfl rfl, ⟨rfl, hI.below⟩⟩
               ·
                refine seq_on (by kernel_rfl) (s_eql rfl rfl (fun h => absurd (a := v12080 = ((1 * 2 ^ ((y6603.1.length : Int) : Int).toNat) - 1)) h h12966) (fun _ => ?_))
                refine puo (.bool false) ⟨(by kernel_rfl), (by kernel_rfl)⟩ (of_ (by kernel_rfl) (of_ (by kernel_rfl) (of_ (by kernel_rfl) (of_ (by kernel_rfl) (puo (.bool false) ⟨(by kernel_rfl), (by kernel_rfl)⟩ (pu (.bool false) (by kernel_rfl) (pu (.bool false) (by kernel_rfl) (puo (iv y6638.1) ⟨(by kernel_rfl), (by kernel_rfl)⟩ (ifE hF (fun h12974 hF => ?_) (fun h12974 hF => ?_))))))))))
                ·
                 refine seq_on (by kernel_rfl) (s_eql rfl rfl (fun _ => ?_) (fun h => absurd (a := y6638.1 = 1) h12974 h))
                 refine puo (.bool true) ⟨(by kernel_rfl), (by kernel_rfl)⟩ (puo (iv y12896.1) ⟨(by kernel_rfl), (by kernel_rfl)⟩ (puo (iv y12900.1) ⟨(by kernel_rfl), (by kernel_rfl)⟩ (ifE hF (fun h12975 hF => ?_) (fun h12975 hF => ?_))))
                 ·
                  refine seq_on (by kernel_rfl) (s_leq rfl rfl (fun _ => ?_) (fun h => absurd (a := y12896.1 ≤ y12900.1) h12975 h))
                  refine puo (.bool true) ⟨(by kernel_rfl), (by kernel_rfl)⟩ (pu (.bool true) (by kernel_rfl) (pu (.bool true) (by kernel_rfl) (of_ (by kernel_rfl) (of_ (by kernel_rfl) (of_ (by kernel_rfl) (seq_offN (by kernel_rfl) ?_))))))
                  refine seq_offN (by kernel_rfl) ?_
                  refine seq_offN (by kernel_rfl) ?_
                  refine of_ (by kernel_rfl) (pu (.bool true) (by kernel_rfl) (seq_nil (.inr ?_)))
                  refine wp_condT rfl (wp_seq (rgn (by kernel_rfl) (pu (.bool false) (by kernel_rfl) (seq_nil (wp_ret ?_)))))
                  replace hF := Option.some.inj hF; subst hF
                  exact ⟨.bool false, Ret.r1 rfl rfl, ⟨rfl, hI.below⟩⟩
                 ·
                  refine seq_on (by kernel_rfl) (s_leq rfl rfl (fun h => absurd (a := y12896.1 ≤ y12900.1) h h12975) (fun _ => ?_))
                  refine puo (.bool false) ⟨(by kernel_rfl), (by kernel_rfl)⟩ (pu (.bool false) (by kernel_rfl) (pu (.bool false) (by kernel_rfl) (puo (iv y6638.1) ⟨(by kernel_rfl), (by kernel_rfl)⟩ (ifE hF (fun h12976 hF => ?_) (fun h12976 hF => ?_)))))
                  ·
                   refine seq_on (by kernel_rfl) (s_eql rfl rfl (fun _ => ?_) (fun h => absurd (a := y6638.1 = 0) h12976 h))
                   refine puo (.bool true) ⟨(by kernel_rfl), (by kernel_rfl)⟩ (puo (iv y12896.1) ⟨(by kernel_rfl), (by kernel_rfl)⟩ (puo (iv y12900.1) ⟨(by kernel_rfl), (by kernel_rfl)⟩ (ifE hF (fun h12977 hF => ?_) (fun h12977 hF => ?_))))
                   ·
                    refine seq_on (by kernel_rfl) (s_gtr rfl rfl (fun _ => ?_) (fun h => absurd (a := y12900.1 < y12896.1) h12977 h))
                    refine puo (.bool true) ⟨(by kernel_rfl), (by kernel_rfl)⟩ (pu (.bool true) (by kernel_rfl) (seq_nil (.inr ?_)))
                    refine wp_condT rfl (wp_seq (rgn (by kernel_rfl) (pu (.bool false) (by kernel_rfl) (seq_nil (wp_ret ?_)))))
                    replace hF := Option.some.inj hF; subst hF
                    exact ⟨.bool false, Ret.r1 rfl rfl, ⟨rfl, hI.below⟩⟩
                   ·
                    refine seq_on (by kernel_rfl) (s_gtr rfl rfl (fun h => absurd (a := y12900.1 < y12896.1) h h12977) (fun _ => ?_))
                    refine puo (.bool false) ⟨(by kernel_rfl), (by kernel_rfl)⟩ (pu (.bool false) (by kernel_rfl) (seq_nil ?_))
                    exact .inl ⟨rfl, ⟨⟨rfl, rfl, rfl, rfl, rfl, rfl, rfl, rfl, rfl, rfl, rfl, rfl, trivial⟩, hI.pickL [0, 1, 2, 3, 4, 5] (by decide) rfl, hF⟩⟩
                  ·
                   refine seq_on (by kernel_rfl) (s_eql rfl rfl (fun h => absurd (a := y6638.1 = 0) h h12976) (fun _ => ?_))
                   refine puo (.bool false) ⟨(by kernel_rfl), (by kernel_rfl)⟩ (of_ (by kernel_rfl) (of_ (by kernel_rfl) (of_ (by kernel_rfl) (puo (.bool false) ⟨(by kernel_rfl), (by kernel_rfl)⟩ (pu (.bool false) (by kernel_rfl) (seq_nil ?_))))))
                   exact .inl ⟨rfl, ⟨⟨rfl, rfl, rfl, rfl, rfl, rfl, rfl, rfl, rfl, rfl, rfl, rfl, trivial⟩, hI.pickL [0, 1, 2, 3, 4, 5] (by decide) rfl, hF⟩⟩
                ·
                 refine seq_on (by kernel_rfl) (s_eql rfl rfl (fun h => absurd (a := y6638.1 = 1) h h12974) (fun _ => ?_))
                 refine puo (.bool false) ⟨(by kernel_rfl), (by kernel_rfl)⟩ (of_ (by kernel_rfl) (of_ (by kernel_rfl) (of_ (by kernel_rfl) (puo (.bool false) ⟨(by kernel_rfl), (by kernel_rfl)⟩ (pu (.bool false) (by kernel_rfl) (pu (.bool false) (by kernel_rfl) (puo (iv y6638.1) ⟨(by kernel_rfl), (by kernel_rfl)⟩ (ifE hF (fun h12978 hF => ?_) (fun h12978 hF => ?_)))))))))
                 ·
                  refine seq_on (by kernel_rfl) (s_eql rfl rfl (fun _ => ?_) (fun h => absurd (a := y6638.1 = 0) h12978 h))
                  refine puo (.bool true) ⟨(by kernel_rfl), (by kernel_rfl)⟩ (puo (iv y12896.1) ⟨(by kernel_rfl), (by kernel_rfl)⟩ (puo (iv y12900.1) ⟨(by kernel_rfl), (by kernel_rfl)⟩ (ifE hF (fun h12979 hF => ?_) (fun h12979 hF => ?_))))
                  ·
                   refine seq_on (by kernel_rfl) (s_gtr rfl rfl (fun _ => ?_) (fun h => absurd (a := y12900.1 < y12896.1) h12979 h))
                   refine puo (.bool true) ⟨(by kernel_rfl), (by kernel_rfl)⟩ (pu (.bool true) (by kernel_rfl) (seq_nil (.inr ?_)))
                   refine wp_condT rfl (wp_seq (rgn (by kernel_rfl) (pu (.bool false) (by kernel_rfl) (seq_nil (wp_ret ?_)))))
                   replace hF := Option.some.inj hF; subst hF
                   exact ⟨.bool false, Ret.r1 rfl rfl, ⟨rfl, hI.below⟩⟩
                  ·
                   refine seq_on (by kernel_rfl) (s_gtr rfl rfl (fun h => absurd (a := y12900.1 < y12896.1) h h12979) (fun _ => ?_))
                   refine puo (.bool false) ⟨(by kernel_rfl), (by kernel_rfl)⟩ (pu (.bool false) (by kernel_rfl) (seq_nil ?_))
                   exact .inl ⟨rfl, ⟨⟨rfl, rfl, rfl, rfl, rfl, rfl, rfl, rfl, rfl, rfl, rfl, rfl, trivial⟩, hI.pickL [0, 1, 2, 3, 4, 5] (by decide) rfl, hF⟩⟩
                 ·
                  refine seq_on (by kernel_rfl) (s_eql rfl rfl (fun h => absurd (a := y6638.1 = 0) h h12978) (fun _ => ?_))
                  refine puo (.bool false) ⟨(by kernel_rfl), (by kernel_rfl)⟩ (of_ (by kernel_rfl) (of_ (by kernel_rfl) (of_ (by kernel_rfl) (puo (.bool false) ⟨(by kernel_rfl), (by kernel_rfl)⟩ (pu (.bool false) (by kernel_rfl) (seq_nil ?_))))))
                  exact .inl ⟨rfl, ⟨⟨rfl, rfl, rfl, rfl, rfl, rfl, rfl, rfl, rfl, rfl, rfl, rfl, trivial⟩, hI.pickL [0, 1, 2, 3, 4, 5] (by decide) rfl, hF⟩⟩
           ·
            refine seq_on (by kernel_rfl) (s_neq rfl rfl (fun _ => ?_) (fun h => absurd (a := y12900.2 = 0) h h12945))
            refine pu (.bool true) (by kernel_rfl) (pu (.bool true) (by kernel_rfl) (of_ (by kernel_rfl) (of_ (by kernel_rfl) (of_ (by kernel_rfl) (of_ (by kernel_rfl) (pu (.bool true) (by kernel_rfl) (pu (.bool true) (by kernel_rfl) (of_ (by kernel_rfl) (of_ (by kernel_rfl) ?_)))))))))
            refine of_ (by kernel_rfl) (of_ (by kernel_rfl) (pu (.bool true) (by kernel_rfl) (pu (.bool true) (by kernel_rfl) (of_ (by kernel_rfl) (of_ (by kernel_rfl) (of_ (by kernel_rfl) (seq_offN (by kernel_rfl) ?_)))))))
            refine seq_offN (by kernel_rfl) ?_
            refine seq_offN (by kernel_rfl) ?_
            refine seq_offN (by kernel_rfl) ?_
            refine of_ (by kernel_rfl) (pu (.bool true) (by kernel_rfl) (pu (.bool true) (by kernel_rfl) (of_ (by kernel_rfl) (of_ (by kernel_rfl) (of_ (by kernel_rfl) (of_ (by kernel_rfl) (of_ (by kernel_rfl) (of_ (by kernel_rfl) (of_ (by kernel_rfl) ?_)))))))))
            refine of_ (by kernel_rfl) (seq_offN (by kernel_rfl) ?_)
            refine seq_offN (by kernel_rfl) ?_
            refine seq_offN (by kernel_rfl) ?_
            refine seq_offN (by kernel_rfl) ?_
            refine of_ (by kernel_rfl) (pu (.bool true) (by kernel_rfl) (pu (.bool true) (by kernel_rfl) (of_ (by kernel_rfl) (of_ (by kernel_rfl) (of_ (by kernel_rfl) (seq_offN (by kernel_rfl) ?_))))))
            refine seq_offN (by kernel_rfl) ?_
            refine seq_offN (by kernel_rfl) ?_
            refine of_ (by kernel_rfl) (pu (.bool true) (by kernel_rfl) (pu (.bool true) (by kernel_rfl) (of_ (by kernel_rfl) (of_ (by kernel_rfl) (of_ (by kernel_rfl) (seq_offN (by kernel_rfl) ?_))))))
            refine seq_offN (by kernel_rfl) ?_
            refine seq_offN (by kernel_rfl) ?_
            refine of_ (by kernel_rfl) (pu (.bool true) (by kernel_rfl) (seq_nil (.inr ?_)))
            refine wp_condT rfl (wp_seq (rgn (by kernel_rfl) (pu (.bool false) (by kernel_rfl) (seq_nil (wp_ret ?_)))))
            replace hF := Option.some.inj hF; subst hF
            exact ⟨.bool false, Ret.r1 rfl rfl, ⟨rfl, hI.below⟩⟩
          ·
           refine seq_c (s_neq rfl rfl (fun _ => ?_) (fun h => absurd (a := y12896.2 = 0) h h12944))
           refine pu (.bool true) (by kernel_rfl) (of_ (by kernel_rfl) (of_ (by kernel_rfl) (pu (.bool true) (by kernel_rfl) (pu (.bool true) (by kernel_rfl) (of_ (by kernel_rfl) (of_ (by kernel_rfl) (of_ (by kernel_rfl) (of_ (by kernel_rfl) (pu (.bool true) (by kernel_rfl) ?_)))))))))
           refine pu (.bool true) (by kernel_rfl) (of_ (by kernel_rfl) (of_ (by kernel_rfl) (of_ (by kernel_rfl) (of_ (by kernel_rfl) (pu (.bool true) (by kernel_rfl) (pu (.bool true) (by kernel_rfl) (of_ (by kernel_rfl) (of_ (by kernel_rfl) (of_ (by kernel_rfl) ?_)))))))))
           refine seq_offN (by kernel_rfl) ?_
           refine seq_offN (by kernel_rfl) ?_
           refine seq_offN (by kernel_rfl) ?_
           refine seq_offN (by kernel_rfl) ?_
           refine of_ (by kernel_rfl) (pu (.bool true) (by kernel_rfl) (pu (.bool true) (by kernel_rfl) (of_ (by kernel_rfl) (of_ (by kernel_rfl) (of_ (by kernel_rfl) (of_ (by kernel_rfl) (of_ (by kernel_rfl) (of_ (by kernel_rfl) (of_ (by kernel_rfl) ?_)))))))))
           refine of_ (by kernel_rfl) (seq_offN (by kernel_rfl) ?_)
           refine seq_offN (by kernel_rfl) ?_
           refine seq_offN (by kernel_rfl) ?_
           refine seq_offN (by kernel_rfl) ?_
           refine of_ (by kernel_rfl) (pu (.bool true) (by kernel_rfl) (pu (.bool true) (by kernel_rfl) (of_ (by kernel_rfl) (of_ (by kernel_rfl) (of_ (by kernel_rfl) (seq_offN (by kernel_rfl) ?_))))))
           refine seq_offN (by kernel_rfl) ?_
           refine seq_offN (by kernel_rfl) ?_
           refine of_ (by kernel_rfl) (pu (.bool true) (by kernel_rfl) (pu (.bool true) (by kernel_rfl) (of_ (by kernel_rfl) (of_ (by kernel_rfl) (of_ (by kernel_rfl) (seq_offN (by kernel_rfl) ?_))))))
           refine seq_offN (by kernel_rfl) ?_
           refine seq_offN (by kernel_rfl) ?_
           refine of_ (by kernel_rfl) (pu (.bool true) (by kernel_rfl) (seq_nil (.inr ?_)))
           refine wp_condT rfl (wp_seq (rgn (by kernel_rfl) (pu (.bool false) (by kernel_rfl) (seq_nil (wp_ret ?_)))))
           replace hF := Option.some.inj hF; subst hF
           exact ⟨.bool false, Ret.r1 rfl rfl, ⟨rfl, hI.below⟩⟩
         ·intro ρ w hJ
          obtain ⟨hag, hI, hF⟩ := hJ
          obtain ⟨ρ, rfl⟩ := hag.form; clear hag
          unfold F6j6 at hF
          refine wp_condF rfl (wp_skip (wp_cutO (fun ρ w => ∃ (v12902 : Bool), Agree ρ [(2, .slice Ap2 lp2.length cp2), (8, .pointer (some ⟨b6617, 0, none⟩)), (10, .pointer (some ⟨b6623, 0, none⟩)), (11, .pointer (some ⟨b6629, 0, none⟩)), (12, .pointer (some ⟨b6635, 0, none⟩)), (14, iv y6638.1), (16, .bool v12902), (17, .bool v12079), (18, iv v12080), (23, iv y12896.1), (25, iv y12900.1)] ∧ Inv [] w0 w [(some b6617, blk [slv g12885 y6603.1.length c12886, slv g6608 y6603.2.1.length c6609] 25), (g12885, blk cl12887 30), (g6608, blk cl6610 32), (some b6623, blk [iv y6621.1, iv y6621.2] 49), (some b6629, blk [iv y6627.1, iv y6627.2] 49), (some b6635, blk [iv y6633.1, iv y6633.2.1] 28)] ∧ F6j7 (F6l3 lp2 N y6603 y6621 y6627 y6633 y6638 m3) v12079 v12080 y12896 y12900 v12902 = some r) ?_ ?_))
          ·
           have hG := hF; rcases Bool.eq_false_or_eq_true v12078 with rfl | rfl
           ·
            have hF := hG; clear hG
            refine ifE hF (fun _ hF => ?_) (fun h => absurd rfl h)
            refine rgn (by kernel_rfl) (pu (.bool true) (by kernel_rfl) (pu (.bool true) (by kernel_rfl) (of_ (by kernel_rfl) (of_ (by kernel_rfl) (of_ (by kernel_rfl) (pu (.bool true) (by kernel_rfl) (pu (.bool true) (by kernel_rfl) (seq_nil ?_))))))))
            exact .inl ⟨rfl, ⟨true, ⟨rfl, rfl, rfl, rfl, rfl, rfl, rfl, rfl, rfl, rfl, rfl, trivial⟩, hI.pickL [0, 1, 2, 3, 4, 5] (by decide) rfl, hF⟩⟩
           ·
            have hF := hG; clear hG
            refine ifE hF (fun h => absurd h (by decide)) (fun _ hF => ?_)
            refine rgn (by kernel_rfl) (pu (.bool false) (by kernel_rfl) (pu (.bool false) (by kernel_rfl) (puo (iv y12896.1) ⟨(by kernel_rfl), (by kernel_rfl)⟩ (puo (iv y12900.1) ⟨(by kernel_rfl), (by kernel_rfl)⟩ (ifE hF (fun h12943 hF => ?_) (fun h12943 hF => ?_))))))
            ·
             refine seq_on (by kernel_rfl) (s_gtr rfl rfl (fun _ => ?_) (fun h => absurd (a := y12900.1 < y12896.1) h12943 h))
             refine pu (.bool true) (by kernel_rfl) (pu (.bool true) (by kernel_rfl) (seq_nil ?_))
             exact .inl ⟨rfl, ⟨true, ⟨rfl, rfl, rfl, rfl, rfl, rfl, rfl, rfl, rfl, rfl, rfl, trivial⟩, hI.pickL [0, 1, 2, 3, 4, 5] (by decide) rfl, hF⟩⟩
            ·
             refine seq_on (by kernel_rfl) (s_gtr rfl rfl (fun h => absurd (a := y12900.1 < y12896.1) h h12943) (fun _ => ?_))
             refine pu (.bool false) (by kernel_rfl) (pu (.bool false) (by kernel_rfl) (seq_nil ?_))
             exact .inl ⟨rfl, ⟨false, ⟨rfl, rfl, rfl, rfl, rfl, rfl, rfl, rfl, rfl, rfl, rfl, trivial⟩, hI.pickL [0, 1, 2, 3, 4, 5] (by decide) rfl, hF⟩⟩
          ·intro ρ w hJ
           obtain ⟨v12902, hag, hI, hF⟩ := hJ
           obtain ⟨ρ, rfl⟩ := hag.form; clear hag
           unfold F6j7 at hF
           have hG := hF; rcases Bool.eq_false_or_eq_true v12079 with rfl | rfl
           ·
            have hF := hG; clear hG
            refine ifE hF (fun _ hF => ?_) (fun h => absurd rfl h)
            refine rgn (by kernel_rfl) (pu (.bool true) (by kernel_rfl) (pu (.bool true) (by kernel_rfl) (of_ (by kernel_rfl) (of_ (by kernel_rfl) (of_ (by kernel_rfl) (pu (.bool true) (by kernel_rfl) (pu (.bool true) (by kernel_rfl) (seq_nil ?_))))))))
            exact .inl ⟨rfl, ⟨g12885, c12886, cl12887, v12902, true, ⟨rfl, rfl, rfl, rfl, rfl, rfl, rfl, rfl, rfl, trivial⟩, hI.pickL [0, 1, 2, 3, 4, 5] (by decide) rfl, (r12888.to rfl rfl), hF⟩⟩
           ·
            have hF := hG; clear hG
            refine ifE hF (fun h => absurd h (by decide)) (fun _ hF => ?_)
            refine rgn (by kernel_rfl) (pu (.bool false) (by kernel_rfl) (pu (.bool false) (by kernel_rfl) (puo (iv y12896.1) ⟨(by kernel_rfl), (by kernel_rfl)⟩ (puo (iv y12900.1) ⟨(by kernel_rfl), (by kernel_rfl)⟩ (ifE hF (fun h12942 hF => ?_) (fun h12942 hF => ?_))))))
            ·
             refine seq_on (by kernel_rfl) (s_leq rfl rfl (fun _ => ?_) (fun h => absurd (a := y12896.1 ≤ y12900.1) h12942 h))
             refine pu (.bool true) (by kernel_rfl) (pu (.bool true) (by kernel_rfl) (seq_nil ?_))
             exact .inl ⟨rfl, ⟨g12885, c12886, cl12887, v12902, true, ⟨rfl, rfl, rfl, rfl, rfl, rfl, rfl, rfl, rfl, trivial⟩, hI.pickL [0, 1, 2, 3, 4, 5] (by decide) rfl, (r12888.to rfl rfl), hF⟩⟩
            ·
             refine seq_on (by kernel_rfl) (s_leq rfl rfl (fun h => absurd (a := y12896.1 ≤ y12900.1) h h12942) (fun _ => ?_))
             refine pu (.bool false) (by kernel_rfl) (pu (.bool false) (by kernel_rfl) (seq_nil ?_))
             exact .inl ⟨rfl, ⟨g12885, c12886, cl12887, v12902, false, ⟨rfl, rfl, rfl, rfl, rfl, rfl, rfl, rfl, rfl, trivial⟩, hI.pickL [0, 1, 2, 3, 4, 5] (by decide) rfl, (r12888.to rfl rfl), hF⟩⟩
       ·intro ρ w hJ
        obtain ⟨g12619, c12620, cl12621, v12623, v12624, hag, hI, r12622, hF⟩ := hJ
        obtain ⟨ρ, rfl⟩ := hag.form; clear hag
        unfold F6j4 at hF
        refine rgn (by kernel_rfl) (pu (iv v12080) (by kernel_rfl) (ckE hF (fun h12624 hF => ?_)))
        refine seq_c (s_add rfl rfl h12624 ?_)
        refine pu (iv (v12080 + 1)) (by kernel_rfl) (seq_nil ?_)
        exact ⟨rfl, m3, Nat.lt_succ_self _, ⟨g12619, c12620, cl12621, v12623, v12624, v12080 + 1, m3, ⟨rfl, rfl, rfl, rfl, rfl, rfl, rfl, rfl, rfl, trivial⟩, hI.pickL [0, 1, 2, 3, 4, 5] (by decide) rfl, (r12622.to rfl rfl), hF, rfl⟩⟩
      ·
       refine seq_c (s_leq rfl rfl (fun h => absurd (a := v12080 ≤ (1 * 2 ^ ((y6603.1.length : Int) : Int).toNat)) h h12060) (fun _ => ?_))
       refine seq_nil (wp_condF rfl (wp_exit ?_))
       exact .inl ⟨rfl, ⟨v12078, v12079, ⟨rfl, rfl, rfl, trivial⟩, hI.pickL [] (by decide) rfl, hF⟩⟩
     ·intro ρ w hJ
      obtain ⟨v9900, v9901, hag, hI, hF⟩ := hJ
      obtain ⟨ρ, rfl⟩ := hag.form; clear hag
      unfold F6j2 at hF
      refine wp_seq ?_
      have hG := hF; rcases Bool.eq_false_or_eq_true v9900 with rfl | rfl
      ·
       have hF := hG; clear hG
       refine ifE hF (fun _ hF => ?_) (fun h => absurd rfl h)
       have hG := hF; rcases Bool.eq_false_or_eq_true v9901 with rfl | rfl
       ·
        have hF := hG; clear hG
        refine ifE hF (fun _ hF => ?_) (fun h => absurd rfl h)
        refine rgn (by kernel_rfl) (pu (iv y6638.1) (by kernel_rfl) (ifE hF (fun h9896 hF => ?_) (fun h9896 hF => ?_)))
        ·
         refine seq_c (s_eql rfl rfl (fun _ => ?_) (fun h => absurd (a := y6638.1 = 2) h9896 h))
         refine pu (.bool true) (by kernel_rfl) (pu (.bool true) (by kernel_rfl) (puo (.bool true) ⟨(by kernel_rfl), (by kernel_rfl)⟩ (pu (.bool true) (by kernel_rfl) (pu (.bool true) (by kernel_rfl) (pu (.bool true) (by kernel_rfl) (seq_nil (wp_ret ?_)))))))
         replace hF := Option.some.inj hF; subst hF
         exact ⟨.bool true, Ret.r1 rfl rfl, ⟨rfl, hI.below⟩⟩
        ·
         refine seq_c (s_eql rfl rfl (fun h => absurd (a := y6638.1 = 2) h h9896) (fun _ => ?_))
         refine pu (.bool true) (by kernel_rfl) (pu (.bool true) (by kernel_rfl) (puo (.bool true) ⟨(by kernel_rfl), (by kernel_rfl)⟩ (pu (.bool true) (by kernel_rfl) (pu (.bool false) (by kernel_rfl) (pu (.bool false) (by kernel_rfl) (seq_nil (wp_ret ?_)))))))
         replace hF := Option.some.inj hF; subst hF
         exact ⟨.bool false, Ret.r1 rfl rfl, ⟨rfl, hI.below⟩⟩
       ·
        have hF := hG; clear hG
        refine ifE hF (fun h => absurd h (by decide)) (fun _ hF => ?_)
        refine rgn (by kernel_rfl) (pu (iv y6638.1) (by kernel_rfl) (ifE hF (fun h9897 hF => ?_) (fun h9897 hF => ?_)))
        ·
         refine seq_c (s_eql rfl rfl (fun _ => ?_) (fun h => absurd (a := y6638.1 = 2) h9897 h))
         refine pu (.bool true) (by kernel_rfl) (pu (.bool true) (by kernel_rfl) (puo (.bool false) ⟨(by kernel_rfl), (by kernel_rfl)⟩ (pu (.bool false) (by kernel_rfl) (pu (.bool false) (by kernel_rfl) (pu (.bool false) (by kernel_rfl) (seq_nil (wp_ret ?_)))))))
         replace hF := Option.some.inj hF; subst hF
         exact ⟨.bool false, Ret.r1 rfl rfl, ⟨rfl, hI.below⟩⟩
        ·
         refine seq_c (s_eql rfl rfl (fun h => absurd (a := y6638.1 = 2) h h9897) (fun _ => ?_))
         refine pu (.bool true) (by kernel_rfl) (pu (.bool true) (by kernel_rfl) (puo (.bool false) ⟨(by kernel_rfl), (by kernel_rfl)⟩ (pu (.bool false) (by kernel_rfl) (pu (.bool true) (by kernel_rfl) (pu (.bool true) (by kernel_rfl) (seq_nil (wp_ret ?_)))))))
         replace hF := Option.some.inj hF; subst hF
         exact ⟨.bool true, Ret.r1 rfl rfl, ⟨rfl, hI.below⟩⟩
      ·
       have hF := hG; clear hG
       refine ifE hF (fun h => absurd h (by decide)) (fun _ hF => ?_)
       have hG := hF; rcases Bool.eq_false_or_eq_true v9901 with rfl | rfl
       ·
        have hF := hG; clear hG
        refine ifE hF (fun _ hF => ?_) (fun h => absurd rfl h)
        refine rgn (by kernel_rfl) (pu (iv y6638.1) (by kernel_rfl) (ifE hF (fun h9898 hF => ?_) (fun h9898 hF => ?_)))
        ·
         refine seq_c (s_eql rfl rfl (fun _ => ?_) (fun h => absurd (a := y6638.1 = 2) h9898 h))
         refine pu (.bool false) (by kernel_rfl) (pu (.bool false) (by kernel_rfl) (of_ (by kernel_rfl) (pu (.bool false) (by kernel_rfl) (pu (.bool false) (by kernel_rfl) (pu (.bool false) (by kernel_rfl) (seq_nil (wp_ret ?_)))))))
         replace hF := Option.some.inj hF; subst hF
         exact ⟨.bool false, Ret.r1 rfl rfl, ⟨rfl, hI.below⟩⟩
        ·
         refine seq_c (s_eql rfl rfl (fun h => absurd (a := y6638.1 = 2) h h9898) (fun _ => ?_))
         refine pu (.bool false) (by kernel_rfl) (pu (.bool false) (by kernel_rfl) (of_ (by kernel_rfl) (pu (.bool false) (by kernel_rfl) (pu (.bool true) (by kernel_rfl) (pu (.bool true) (by kernel_rfl) (seq_nil (wp_ret ?_)))))))
         replace hF := Option.some.inj hF; subst hF
         exact ⟨.bool true, Ret.r1 rfl rfl, ⟨rfl, hI.below⟩⟩
       ·
        have hF := hG; clear hG
        refine ifE hF (fun h => absurd h (by decide)) (fun _ hF => ?_)
        refine rgn (by kernel_rfl) (pu (iv y6638.1) (by kernel_rfl) (ifE hF (fun h9899 hF => ?_) (fun h9899 hF => ?_)))
        ·
         refine seq_c (s_eql rfl rfl (fun _ => ?_) (fun h => absurd (a := y6638.1 = 2) h9899 h))
         refine pu (.bool false) (by kernel_rfl) (pu (.bool false) (by kernel_rfl) (of_ (by kernel_rfl) (pu (.bool false) (by kernel_rfl) (pu (.bool false) (by kernel_rfl) (pu (.bool false) (by kernel_rfl) (seq_nil (wp_ret ?_)))))))
         replace hF := Option.some.inj hF; subst hF
         exact ⟨.bool false, Ret.r1 rfl rfl, ⟨rfl, hI.below⟩⟩
        ·
         refine seq_c (s_eql rfl rfl (fun h => absurd (a := y6638.1 = 2) h h9899) (fun _ => ?_))
         refine pu (.bool false) (by kernel_rfl) (pu (.bool false) (by kernel_rfl) (of_ (by kernel_rfl) (pu (.bool false) (by kernel_rfl) (pu (.bool true) (by kernel_rfl) (pu (.bool true) (by kernel_rfl) (seq_nil (wp_ret ?_)))))))
         replace hF := Option.some.inj hF; subst hF
         exact ⟨.bool true, Ret.r1 rfl rfl, ⟨rfl, hI.below⟩⟩
    ·
     refine seq_on (by kernel_rfl) (s_neq rfl rfl (fun _ => ?_) (fun h => absurd (a := y6638.2 = 0) h h6603))
     refine pu (.bool true) (by kernel_rfl) (seq_nil (wp_condT rfl (wp_seq (rgn (by kernel_rfl) (pu (.bool false) (by kernel_rfl) (seq_nil (wp_ret ?_)))))))
     replace hF := Option.some.inj hF; subst hF
     exact ⟨.bool false, Ret.r1 rfl rfl, ⟨rfl, hI.below⟩⟩
   ·
    refine seq_on (by kernel_rfl) (s_neq rfl rfl (fun _ => ?_) (fun h => absurd (a := y6633.2.2 = 0) h h6602))
    refine pu (.bool true) (by kernel_rfl) (pu (.bool true) (by kernel_rfl) (of_ (by kernel_rfl) (of_ (by kernel_rfl) (pu (.bool true) (by kernel_rfl) (seq_nil (wp_condT rfl (wp_seq (rgn (by kernel_rfl) (pu (.bool false) (by kernel_rfl) ?_)))))))))
    refine seq_nil (wp_ret ?_)
    replace hF := Option.some.inj hF; subst hF
    exact ⟨.bool false, Ret.r1 rfl rfl, ⟨rfl, hI.below⟩⟩
  ·
   have hF := hG; clear hG
   refine ifE hF (fun h => absurd h (by decide)) (fun _ hF => ?_)
   refine rgn (by kernel_rfl) (pu (.bool false) (by kernel_rfl) (pu (.bool true) (by kernel_rfl) (pu (.bool true) (by kernel_rfl) (of_ (by kernel_rfl) (of_ (by kernel_rfl) (pu (.bool true) (by kernel_rfl) (pu (.bool true) (by kernel_rfl) (of_ (by kernel_rfl) (of_ (by kernel_rfl) ?_)))))))))
   refine pu (.bool true) (by kernel_rfl) (seq_nil (wp_condT rfl (wp_seq (rgn (by kernel_rfl) (pu (.bool false) (by kernel_rfl) (seq_nil (wp_ret ?_)))))))
   replace hF := Option.some.inj hF; subst hF
   exact ⟨.bool false, Ret.r1 rfl rfl, ⟨rfl, hI.below⟩⟩


end Go.K
