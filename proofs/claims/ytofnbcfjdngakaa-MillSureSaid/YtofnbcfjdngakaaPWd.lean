/- That the functions do what the pure definitions say: walks, as tools/lift.py writes them. No condition. -/
import Derived.Test.YtofnbcfjdngakaaPWc
namespace Go.K
open Go.Proofs Go.RowKit
set_option linter.unusedVariables false
set_option linter.unusedSimpArgs false
set_option maxRecDepth 100000
attribute [local irreducible] Seq Step CallV AnyE opX
theorem L59 (w0 : World) (p0 : Int) (p1 : Int) (r : Int) (hF : F59 p0 p1 = some r) : Does Try.prog 59 [.int .i64 p0, .int .i64 p1] w0 fun v w => v = .int .i64 r ∧ Below w0.heap.size w0 w := by
 refine calls_of (n := 12) Try.func59 rfl Try.ntmps59 rfl ?_
 have hI := Inv.start w0
 unfold F59 at hF
 refine wp_seq (rgn (by kernel_rfl) (pu (iv 0) (by kernel_rfl) (seq_nil (wp_seq (rgn (by kernel_rfl) (pu (iv p0) (by kernel_rfl) (pu (iv p1) (by kernel_rfl) (gdE hF (fun h3 hF => ?_)))))))))
 refine seq_c (s_rem rfl rfl h3 ?_)
 refine pu (iv p1) (by kernel_rfl) (ckE hF (fun h4 hF => ?_))
 refine seq_c (s_add rfl rfl h4 ?_)
 refine pu (iv p1) (by kernel_rfl) (seq_c (s_rem rfl rfl h3 ?_))
 refine pu (iv (((p0.tmod p1) + p1).tmod p1)) (by kernel_rfl) (seq_nil (wp_ret ?_))
 replace hF := Option.some.inj hF; subst hF
 exact ⟨iv (((p0.tmod p1) + p1).tmod p1), Ret.r1 rfl rfl, ⟨rfl, hI.below⟩⟩


theorem L60 (w0 : World) (p0 : Int) (Ap1 : Option Addr) (cp1 : Nat) (lp1 : List A2) (hCp1 : Cells w0 Ap1 (flat eA2 lp1)) (hMp1 : lp1.length ≤ 9223372036854775807) (hKp1 : lp1.length ≤ cp1) (N : Nat) (r : (Int × List Cm)) (hF : F60 N p0 lp1 = some r) : Does Try.prog 60 [.int .i64 p0, .slice Ap1 lp1.length cp1] w0 fun v w => ∃ (z0 : Option Nat) (z1 : Nat) (z2 : List Value), v = .agg #[.int .i64 r.1, slv z0 r.2.length z1] ∧ Inv [] w0 w [(z0, blk z2 26)] ∧ Row 3 z0 r.2.length z1 z2 (flat eCm r.2) := by
 refine calls_of (n := 47) Try.func60 rfl Try.ntmps60 rfl ?_
 have hI := Inv.start w0
 unfold F60 at hF
 refine wp_seq (rgn (by kernel_rfl) (seq_c (s_allocI hI [iv 0, .slice none 0 0] Try.zeroValue24 rfl ?_)))
 intro b523 w hI
 refine seq_nil (wp_seq (rgn (by kernel_rfl) (pu (iv p0) (by kernel_rfl) (bindE hF (fun y527 hy528 hF => ?_)))))
 refine seq_c (s_callv hI 59 [iv p0, iv 11] (iv y527) (by kernel_rfl) (L59 _ p0 11 _ hy528) ?_)
 intro w hI
 refine pu (.agg #[iv y527, .slice none 0 0]) (by kernel_rfl) (seq_c (s_allocI hI [iv 0, .slice none 0 0] Try.zeroValue24 rfl ?_))
 intro b529 w hI
 refine seq_c (s_store hI 0 2 [iv y527, .slice none 0 0] Try.sizeOf24 rfl rfl rfl rfl rfl (Nat.le_of_ble_eq_true rfl) ?_)
 intro w hI
 refine seq_nil (wp_seq (wp_seq (rgn (by kernel_rfl) (pu (iv 0) (by kernel_rfl) (seq_nil (wp_block ?_))))))
 have hI := hI.nilRow 26
 refine wp_loop (fun m ρ w => ∃ (g959 : Option Nat) (c960 : Nat) (cl961 : List Value) (m_958 : List Cm) (i_963 : Int) (mm : Nat), Agree ρ [(1, .slice Ap1 lp1.length cp1), (4, .pointer (some ⟨b523, 0, none⟩)), (5, .pointer (some ⟨b529, 0, none⟩)), (6, iv i_963)] ∧ Inv [] w0 w [(some b523, blk [iv 0, .slice none 0 0] 24), (some b529, blk [iv y527, slv g959 m_958.length c960] 24), (g959, blk cl961 26)] ∧ (Row 3 g959 (m_958.length) c960 cl961 (flat eCm m_958)) ∧ F60l1 lp1 y527 mm m_958 i_963 = some r ∧ mm = m) (m := N) ⟨none, 0, [], [], 0, N, ⟨rfl, rfl, rfl, rfl, trivial⟩, hI.pickL [2, 1, 0] (by decide) rfl, (Row.nil_ 3), hF, rfl⟩ ?_
 rintro m ρ w ⟨g959, c960, cl961, m_958, i_963, mm, hag, hI, r962, hF, hm⟩
 subst hm; obtain ⟨ρ, rfl⟩ := hag.form; clear hag
 obtain _ | m1 := mm
 ·cases (show (none : Option (Int × List Cm)) = some r from hF)
 replace hF : F60b1 lp1 y527 (F60l1 lp1 y527 m1) m_958 i_963 = some r := hF; unfold F60b1 at hF
 refine wp_seq (wp_seq (rgn (by kernel_rfl) (pu (iv i_963) (by kernel_rfl) (pu (.slice Ap1 lp1.length cp1) (by kernel_rfl) (pu (iv ((lp1.length : Nat) : Int)) (by kernel_rfl) (ifE hF (fun h216 hF => ?_) (fun h216 hF => ?_)))))))
 ·
  refine seq_c (s_lss rfl rfl (fun _ => ?_) (fun h => absurd (a := i_963 < (lp1.length : Int)) h216 h))
  refine pu (.bool true) (by kernel_rfl) (puo (iv i_963) ⟨(by kernel_rfl), (by kernel_rfl)⟩ (ifE hF (fun h217 hF => ?_) (fun h217 hF => ?_)))
  ·
   refine seq_on (by kernel_rfl) (s_lss rfl rfl (fun _ => ?_) (fun h => absurd (a := i_963 < 6) h217 h))
   refine pu (.bool true) (by kernel_rfl) (seq_nil (wp_condT rfl (wp_skip (wp_cutO (fun ρ w => ∃ (g1003 : Option Nat) (c1004 : Nat) (cl1005 : List Value) (m_1002 : List Cm), Agree ρ [(1, .slice Ap1 lp1.length cp1), (4, .pointer (some ⟨b523, 0, none⟩)), (5, .pointer (some ⟨b529, 0, none⟩)), (6, iv i_963)] ∧ Inv [] w0 w [(some b523, blk [iv 0, .slice none 0 0] 24), (some b529, blk [iv y527, slv g1003 m_1002.length c1004] 24), (g1003, blk cl1005 26)] ∧ (Row 3 g1003 (m_1002.length) c1004 cl1005 (flat eCm m_1002)) ∧ F60j2 (F60l1 lp1 y527 m1) i_963 m_1002 = some r) ?_ ?_))))
   ·
    refine wp_block ?_
    refine ckE hF (fun h226 hF => ?_)
    refine ckE hF (fun h227 hF => ?_)
    refine bindE hF (fun y1007 hy1008 hF => ?_)
    refine ckE hF (fun h228 hF => ?_)
    refine gdE hF (fun h229 hF => ?_)
    refine bindE hF (fun x1009 hx1010 hF => ?_)
    refine gdE hF (fun h230 hF => ?_)
    refine ckE hF (fun h231 hF => ?_)
    refine bindE hF (fun y1016 hy1017 hF => ?_)
    refine bindE hF (fun y1018 hy1019 hF => ?_)
    refine gdE hF (fun h232 hF => ?_)
    replace hI := hI.pickL [0, 1, 2] (by decide) rfl
    refine wp_drawn2 hI [0] (by decide) rfl (by kernel_rfl) (by kernel_rfl) ?_
    intro hsub
    refine alp 0 (.pointer (some ⟨b529, 1, none⟩)) hsub rfl (by kernel_rfl) (fun _ => (by kernel_rfl)) ?_
    refine alp 2 (iv i_963) hsub rfl (by kernel_rfl) (fun _ => (by kernel_rfl)) ?_
    refine al_light 3 (iv (7 * i_963)) hsub rfl (by kernel_rfl) (fun w hI => s_mul rfl rfl h226 ⟨rfl, Below.refl _ _⟩) ?_
    refine al_light 4 (iv ((7 * i_963) + 5)) hsub rfl (by kernel_rfl) (fun w hI => s_add rfl rfl h227 ⟨rfl, Below.refl _ _⟩) ?_
    refine al_light 5 (iv y1007) hsub rfl (by kernel_rfl) (fun w hI => s_call 59 [iv ((7 * i_963) + 5), iv 9] (by kernel_rfl) (L59 _ ((7 * i_963) + 5) 9 _ hy1008) (fun v' w' h => h)) ?_
    refine al_light 6 (iv (1 + y1007)) hsub rfl (by kernel_rfl) (fun w hI => s_add rfl rfl h228 ⟨rfl, Below.refl _ _⟩) ?_
    refine alp 7 (.slice Ap1 lp1.length cp1) hsub rfl (by kernel_rfl) (fun _ => (by kernel_rfl)) ?_
    refine alp 8 (iv i_963) hsub rfl (by kernel_rfl) (fun _ => (by kernel_rfl)) ?_
    obtain ⟨b1025, o1026, hA1027, hb1028, he1029⟩ := hCp1.at_ eA2_len (by decide) hx1010
    refine al_light 9 (.pointer (some ⟨b1025, o1026 + (i_963).toNat * 2, none⟩)) hsub rfl (by kernel_rfl) (fun w hI => s_indexA (i_963).toNat Try.underlying68 Try.sizeOf77 rfl hA1027 rfl (Int.toNat_of_nonneg h229).symm (lt_n hx1010 rfl) ⟨rfl, Below.refl _ _⟩) ?_
    refine alp 10 (.pointer (some ⟨b1025, o1026 + (i_963).toNat * 2, none⟩)) hsub rfl (by kernel_rfl) (fun _ => (by kernel_rfl)) ?_
    refine al_light 11 (iv x1009.a) hsub rfl (by kernel_rfl) (fun w hI => s_loadB1 hI (iv x1009.a) Try.isAgg3 rfl hb1028 (by simp) (he1029 0 _ rfl) ⟨rfl, Below.refl _ _⟩) ?_
    refine alp 12 (.pointer (some ⟨b529, 0, none⟩)) hsub rfl (by kernel_rfl) (fun _ => (by kernel_rfl)) ?_
    refine alp 16 (.slice Ap1 lp1.length cp1) hsub rfl (by kernel_rfl) (fun _ => (by kernel_rfl)) ?_
    refine alp 17 (iv i_963) hsub rfl (by kernel_rfl) (fun _ => (by kernel_rfl)) ?_
    refine al_light 18 (.pointer (some ⟨b1025, o1026 + (i_963).toNat * 2, none⟩)) hsub rfl (by kernel_rfl) (fun w hI => s_indexA (i_963).toNat Try.underlying68 Try.sizeOf77 rfl hA1027 rfl (Int.toNat_of_nonneg h229).symm (lt_n hx1010 rfl) ⟨rfl, Below.refl _ _⟩) ?_
    refine alp 19 (.pointer (some ⟨b1025, o1026 + (i_963).toNat * 2 + 1, none⟩)) hsub rfl (by kernel_rfl) (fun _ => (by kernel_rfl)) ?_
    refine al_light 20 (iv x1009.b) hsub rfl (by kernel_rfl) (fun w hI => s_loadB1 hI (iv x1009.b) Try.isAgg3 rfl hb1028 (by simp) (he1029 1 _ rfl) ⟨rfl, Below.refl _ _⟩) ?_
    refine any_heavy [1, 13] (by kernel_rfl) rfl (each2 ?_ ?_)
    ·intro w hI
     refine ol_c rfl (s_load1 hI 1 (slv g959 m_958.length c960) Try.isAgg22 rfl rfl rfl ?_)
     refine ⟨_, hI, subk (fun _ h => h.pickL [0] (by decide) rfl) ?_⟩
     intro hsub
     refine any_heavy [13] (by kernel_rfl) rfl (each1 ?_)
     intro w hI
     refine ol_c rfl (s_load1 hI 1 (iv y527) Try.isAgg3 rfl rfl rfl ?_)
     refine ⟨_, hI, subk (fun _ h => h.pickL [0] (by decide) rfl) ?_⟩
     intro hsub
     refine al_light 14 (iv ((1 : Int) * 2 ^ (y527 : Int).toNat)) hsub rfl (by kernel_rfl) (fun w hI => s_shl rfl rfl h230 h231 ⟨rfl, Below.refl _ _⟩) ?_
     refine al_light 15 (iv y1016) hsub rfl (by kernel_rfl) (fun w hI => s_call 59 [iv x1009.a, iv ((1 : Int) * 2 ^ (y527 : Int).toNat)] (by kernel_rfl) (L59 _ x1009.a ((1 : Int) * 2 ^ (y527 : Int).toNat) _ hy1017) (fun v' w' h => h)) ?_
     refine al_light 21 (iv y1018) hsub rfl (by kernel_rfl) (fun w hI => s_call 59 [iv x1009.b, iv 7] (by kernel_rfl) (L59 _ x1009.b 7 _ hy1019) (fun v' w' h => h)) ?_
     refine alp 22 (.agg #[iv (1 + y1007), iv y1016, iv y1018]) hsub rfl (by kernel_rfl) (fun _ => (by kernel_rfl)) ?_
     refine any_heavy [23] (by kernel_rfl) rfl (each1 ?_)
     intro w hI
     refine ol_c rfl (s_new hI [iv (1 + y1007), iv y1016, iv y1018] 26 (fun b => slv (some b) 1 1) (by kernel_rfl) ?_)
     intro b1030 w hI
     refine ⟨_, hI, subk (fun _ h => h.pickL [1] (by decide) rfl) ?_⟩
     intro hsub
     refine any_heavy [24] (by kernel_rfl) rfl (each1 ?_)
     intro w hI
     refine ol_c rfl (s_appN hI Try.underlying22 (z := .agg #[iv 0, iv 0, iv 0]) (k := 3) (bytes := 24) (by kernel_rfl) rfl rfl 3 rfl rfl r962 [iv (1 + y1007), iv y1016, iv y1018] rfl rfl (hI.cells 0 (off := 0) rfl (fun j u h => by rw [Nat.zero_add]; exact h)) (by simp [Value.oneCell']) (by omega) (by omega) (n2 := (m_958 ++ [(⟨1 + y1007, y1016, y1018⟩ : Cm)]).length) (app_len rfl rfl) ?_)
     intro g1031 c1032 cl1033 w hI r1034
     refine ⟨_, hI, subk (fun _ h => h.pickL [1] (by decide) rfl) ?_⟩
     intro hsub
     have r1034 : Row 3 g1031 ((m_958 ++ [(⟨1 + y1007, y1016, y1018⟩ : Cm)]).length) c1032 cl1033 (flat eCm (m_958 ++ [(⟨1 + y1007, y1016, y1018⟩ : Cm)])) := r1034.snoc _ rfl
     refine alp 25 (.pointer (some ⟨b529, 1, none⟩)) hsub rfl (by kernel_rfl) (fun _ => (by kernel_rfl)) ?_
     refine any_heavy [26] (by kernel_rfl) rfl (each1 ?_)
     intro w hI
     refine ol_c rfl (s_store hI 2 1 [slv g1031 ((m_958 ++ [(⟨1 + y1007, y1016, y1018⟩ : Cm)]).length) c1032] Try.sizeOf22 rfl rfl rfl rfl rfl (Nat.le_of_ble_eq_true rfl) ?_)
     intro w hI
     refine ⟨_, hI, subk (fun _ h => h.pickL [1] (by decide) rfl) ?_⟩
     intro hsub
     refine any_end (by kernel_rfl) (fun w hI => ?_)
     exact .inl ⟨rfl, ⟨g1031, c1032, cl1033, m_958 ++ [(⟨1 + y1007, y1016, y1018⟩ : Cm)], ⟨rfl, rfl, rfl, rfl, trivial⟩, hI.pickL [1, 2, 3] (by decide) rfl, (r1034.to rfl rfl), hF⟩⟩
    ·intro w hI
     refine ol_c rfl (s_load1 hI 1 (iv y527) Try.isAgg3 rfl rfl rfl ?_)
     refine ⟨_, hI, subk (fun _ h => h.pickL [0] (by decide) rfl) ?_⟩
     intro hsub
     refine al_light 14 (iv ((1 : Int) * 2 ^ (y527 : Int).toNat)) hsub rfl (by kernel_rfl) (fun w hI => s_shl rfl rfl h230 h231 ⟨rfl, Below.refl _ _⟩) ?_
     refine al_light 15 (iv y1016) hsub rfl (by kernel_rfl) (fun w hI => s_call 59 [iv x1009.a, iv ((1 : Int) * 2 ^ (y527 : Int).toNat)] (by kernel_rfl) (L59 _ x1009.a ((1 : Int) * 2 ^ (y527 : Int).toNat) _ hy1017) (fun v' w' h => h)) ?_
     refine al_light 21 (iv y1018) hsub rfl (by kernel_rfl) (fun w hI => s_call 59 [iv x1009.b, iv 7] (by kernel_rfl) (L59 _ x1009.b 7 _ hy1019) (fun v' w' h => h)) ?_
     refine alp 22 (.agg #[iv (1 + y1007), iv y1016, iv y1018]) hsub rfl (by kernel_rfl) (fun _ => (by kernel_rfl)) ?_
     refine any_heavy [1, 23] (by kernel_rfl) rfl (each2 ?_ ?_)
     ·intro w hI
      refine ol_c rfl (s_load1 hI 1 (slv g959 m_958.length c960) Try.isAgg22 rfl rfl rfl ?_)
      refine ⟨_, hI, subk (fun _ h => h.pickL [0] (by decide) rfl) ?_⟩
      intro hsub
      refine any_heavy [23] (by kernel_rfl) rfl (each1 ?_)
      intro w hI
      refine ol_c rfl (s_new hI [iv (1 + y1007), iv y1016, iv y1018] 26 (fun b => slv (some b) 1 1) (by kernel_rfl) ?_)
      intro b1035 w hI
      refine ⟨_, hI, subk (fun _ h => h.pickL [1] (by decide) rfl) ?_⟩
      intro hsub
      refine any_heavy [24] (by kernel_rfl) rfl (each1 ?_)
      intro w hI
      refine ol_c rfl (s_appN hI Try.underlying22 (z := .agg #[iv 0, iv 0, iv 0]) (k := 3) (bytes := 24) (by kernel_rfl) rfl rfl 3 rfl rfl r962 [iv (1 + y1007), iv y1016, iv y1018] rfl rfl (hI.cells 0 (off := 0) rfl (fun j u h => by rw [Nat.zero_add]; exact h)) (by simp [Value.oneCell']) (by omega) (by omega) (n2 := (m_958 ++ [(⟨1 + y1007, y1016, y1018⟩ : Cm)]).length) (app_len rfl rfl) ?_)
      intro g1036 c1037 cl1038 w hI r1039
      refine ⟨_, hI, subk (fun _ h => h.pickL [1] (by decide) rfl) ?_⟩
      intro hsub
      have r1039 : Row 3 g1036 ((m_958 ++ [(⟨1 + y1007, y1016, y1018⟩ : Cm)]).length) c1037 cl1038 (flat eCm (m_958 ++ [(⟨1 + y1007, y1016, y1018⟩ : Cm)])) := r1039.snoc _ rfl
      refine alp 25 (.pointer (some ⟨b529, 1, none⟩)) hsub rfl (by kernel_rfl) (fun _ => (by kernel_rfl)) ?_
      refine any_heavy [26] (by kernel_rfl) rfl (each1 ?_)
      intro w hI
      refine ol_c rfl (s_store hI 2 1 [slv g1036 ((m_958 ++ [(⟨1 + y1007, y1016, y1018⟩ : Cm)]).length) c1037] Try.sizeOf22 rfl rfl rfl rfl rfl (Nat.le_of_ble_eq_true rfl) ?_)
      intro w hI
      refine ⟨_, hI, subk (fun _ h => h.pickL [1] (by decide) rfl) ?_⟩
      intro hsub
      refine any_end (by kernel_rfl) (fun w hI => ?_)
      exact .inl ⟨rfl, ⟨g1036, c1037, cl1038, m_958 ++ [(⟨1 + y1007, y1016, y1018⟩ : Cm)], ⟨rfl, rfl, rfl, rfl, trivial⟩, hI.pickL [1, 2, 3] (by decide) rfl, (r1039.to rfl rfl), hF⟩⟩
     ·intro w hI
      refine ol_c rfl (s_new hI [iv (1 + y1007), iv y1016, iv y1018] 26 (fun b => slv (some b) 1 1) (by kernel_rfl) ?_)
      intro b1040 w hI
      refine ⟨_, hI, subk (fun _ h => h.pickL [1] (by decide) rfl) ?_⟩
      intro hsub
      refine any_heavy [1] (by kernel_rfl) rfl (each1 ?_)
      intro w hI
      refine ol_c rfl (s_load1 hI 2 (slv g959 m_958.length c960) Try.isAgg22 rfl rfl rfl ?_)
      refine ⟨_, hI, subk (fun _ h => h.pickL [1] (by decide) rfl) ?_⟩
      intro hsub
      refine any_heavy [24] (by kernel_rfl) rfl (each1 ?_)
      intro w hI
      refine ol_c rfl (s_appN hI Try.underlying22 (z := .agg #[iv 0, iv 0, iv 0]) (k := 3) (bytes := 24) (by kernel_rfl) rfl rfl 3 rfl rfl r962 [iv (1 + y1007), iv y1016, iv y1018] rfl rfl (hI.cells 0 (off := 0) rfl (fun j u h => by rw [Nat.zero_add]; exact h)) (by simp [Value.oneCell']) (by omega) (by omega) (n2 := (m_958 ++ [(⟨1 + y1007, y1016, y1018⟩ : Cm)]).length) (app_len rfl rfl) ?_)
      intro g1041 c1042 cl1043 w hI r1044
      refine ⟨_, hI, subk (fun _ h => h.pickL [1] (by decide) rfl) ?_⟩
      intro hsub
      have r1044 : Row 3 g1041 ((m_958 ++ [(⟨1 + y1007, y1016, y1018⟩ : Cm)]).length) c1042 cl1043 (flat eCm (m_958 ++ [(⟨1 + y1007, y1016, y1018⟩ : Cm)])) := r1044.snoc _ rfl
      refine alp 25 (.pointer (some ⟨b529, 1, none⟩)) hsub rfl (by kernel_rfl) (fun _ => (by kernel_rfl)) ?_
      refine any_heavy [26] (by kernel_rfl) rfl (each1 ?_)
      intro w hI
      refine ol_c rfl (s_store hI 2 1 [slv g1041 ((m_958 ++ [(⟨1 + y1007, y1016, y1018⟩ : Cm)]).length) c1042] Try.sizeOf22 rfl rfl rfl rfl rfl (Nat.le_of_ble_eq_true rfl) ?_)
      intro w hI
      refine ⟨_, hI, subk (fun _ h => h.pickL [1] (by decide) rfl) ?_⟩
      intro hsub
      refine any_end (by kernel_rfl) (fun w hI => ?_)
      exact .inl ⟨rfl, ⟨g1041, c1042, cl1043, m_958 ++ [(⟨1 + y1007, y1016, y1018⟩ : Cm)], ⟨rfl, rfl, rfl, rfl, trivial⟩, hI.pickL [1, 2, 3] (by decide) rfl, (r1044.to rfl rfl), hF⟩⟩
   ·intro ρ w hJ
    obtain ⟨g1003, c1004, cl1005, m_1002, hag, hI, r1006, hF⟩ := hJ
    obtain ⟨ρ, rfl⟩ := hag.form; clear hag
    unfold F60j2 at hF
    refine rgn (by kernel_rfl) (pu (iv i_963) (by kernel_rfl) (ckE hF (fun h225 hF => ?_)))
    refine seq_c (s_add rfl rfl h225 ?_)
    refine pu (iv (i_963 + 1)) (by kernel_rfl) (seq_nil ?_)
    exact ⟨rfl, m1, Nat.lt_succ_self _, ⟨g1003, c1004, cl1005, m_1002, i_963 + 1, m1, ⟨rfl, rfl, rfl, rfl, trivial⟩, hI.pickL [0, 1, 2] (by decide) rfl, (r1006.to rfl rfl), hF, rfl⟩⟩
  ·
   refine seq_on (by kernel_rfl) (s_lss rfl rfl (fun h => absurd (a := i_963 < 6) h h217) (fun _ => ?_))
   refine pu (.bool false) (by kernel_rfl) (seq_nil (wp_condF rfl (wp_exit ?_)))
   refine wp_seq (rgn (by kernel_rfl) (seq_c (s_loadK hI 1 2 [iv y527, slv g959 m_958.length c960] Try.isAgg24 Try.sizeOf24 rfl rfl rfl rfl ?_)))
   refine seq_c (s_store hI 0 2 [iv y527, slv g959 m_958.length c960] Try.sizeOf24 rfl rfl rfl rfl rfl (Nat.le_of_ble_eq_true rfl) ?_)
   intro w hI
   refine seq_nil (wp_ret ?_)
   replace hF := Option.some.inj hF; subst hF
   exact ⟨.agg #[iv y527, slv g959 m_958.length c960], Ret.c rfl rfl (run_loadK hI 0 2 [iv y527, slv g959 m_958.length c960] Try.isAgg24 Try.sizeOf24 rfl rfl rfl), ⟨g959, c960, cl961, rfl, hI.pickL [2] (by decide) rfl, r962.to rfl rfl⟩⟩
 ·
  refine seq_c (s_lss rfl rfl (fun h => absurd (a := i_963 < (lp1.length : Int)) h h216) (fun _ => ?_))
  refine pu (.bool false) (by kernel_rfl) (of_ (by kernel_rfl) (of_ (by kernel_rfl) (pu (.bool false) (by kernel_rfl) (seq_nil (wp_condF rfl (wp_exit ?_))))))
  refine wp_seq (rgn (by kernel_rfl) (seq_c (s_loadK hI 1 2 [iv y527, slv g959 m_958.length c960] Try.isAgg24 Try.sizeOf24 rfl rfl rfl rfl ?_)))
  refine seq_c (s_store hI 0 2 [iv y527, slv g959 m_958.length c960] Try.sizeOf24 rfl rfl rfl rfl rfl (Nat.le_of_ble_eq_true rfl) ?_)
  intro w hI
  refine seq_nil (wp_ret ?_)
  replace hF := Option.some.inj hF; subst hF
  exact ⟨.agg #[iv y527, slv g959 m_958.length c960], Ret.c rfl rfl (run_loadK hI 0 2 [iv y527, slv g959 m_958.length c960] Try.isAgg24 Try.sizeOf24 rfl rfl rfl), ⟨g959, c960, cl961, rfl, hI.pickL [2] (by decide) rfl, r962.to rfl rfl⟩⟩


end Go.K
