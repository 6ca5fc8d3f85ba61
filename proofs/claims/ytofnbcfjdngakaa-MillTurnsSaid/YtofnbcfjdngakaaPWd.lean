/- That the functions do what the pure definitions say: walks, as tools/lift.py writes them. No condition. -/
import Derived.Test.YtofnbcfjdngakaaPWc
namespace Go.K
open Go.Proofs Go.RowKit
set_option linter.unusedVariables false
set_option linter.unusedSimpArgs false
set_option maxRecDepth 100000
attribute [local irreducible] Seq Step CallV AnyE opX
theorem L59 (w0 : World) (p0 : Int) (p1 : Int) (r : Int) (hF : F59 p0 p1 = some r) : Does Try.prog 59 [.int .i64 p0, .int .i64 p1] w0 fun v w => v = .int .i64 r ∧ Below w0.heap.size w0 w := by
 refine calls_of (n := 12) Try.func59 rfl Try.ntmps59 rfl ?_
 have hI := Inv.start w0
 unfold F59 at hF
 refine wp_seq (rgn (by kernel_rfl) (pu (iv 0) (by kernel_rfl) (seq_nil (wp_seq (rgn (by kernel_rfl) (pu (iv p0) (by kernel_rfl) (pu (iv p1) (by kernel_rfl) (gdE hF (fun h3 hF => ?_)))))))))
 refine seq_c (s_rem rfl rfl h3 ?_)
 refine pu (iv p1) (by kernel_rfl) (ckE hF (fun h4 hF => ?_))
 refine seq_c (s_add rfl rfl h4 ?_)
 refine pu (iv p1) (by kernel_rfl) (seq_c (s_rem rfl rfl h3 ?_))
 refine pu (iv (((p0.tmod p1) + p1).tmod p1)) (by kernel_rfl) (seq_nil (wp_ret ?_))
 replace hF := Option.some.inj hF; subst hF
 exact ⟨iv (((p0.tmod p1) + p1).tmod p1), Ret.r1 rfl rfl, ⟨rfl, hI.below⟩⟩


theorem L60 (w0 : World) (p0 : Int) (Ap1 : Option Addr) (cp1 : Nat) (lp1 : List A2) (hCp1 : Cells w0 Ap1 (flat eA2 lp1)) (hMp1 : lp1.length ≤ 9223372036854775807) (hKp1 : lp1.length ≤ cp1) (N : Nat) (r : (Int × List Cm)) (hF : F60 N p0 lp1 = some r) : Does Try.prog 60 [.int .i64 p0, .slice Ap1 lp1.length cp1] w0 fun v w => ∃ (z0 : Option Nat) (z1 : Nat) (z2 : List Value), v = .agg #[.int .i64 r.1, slv z0 r.2.length z1] ∧ Inv [] w0 w [(z0, blk z2 26)] ∧ Row 3 z0 r.2.length z1 z2 (flat eCm r.2) := by
 refine calls_of (n := 47) Try.func60 rfl Try.ntmps60 rfl ?_
 have hI := Inv.start w0
 unfold F60 at hF
 refine wp_seq (rgn (by kernel_rfl) (seq_c (s_allocI hI [iv 0, .slice none 0 0] Try.zeroValue24 rfl ?_)))
 intro b523 w hI
 refine seq_nil (wp_seq (rgn (by kernel_rfl) (pu (iv p0) (by kernel_rfl) (bindE hF (fun y527 hy528 hF => ?_)))))
 refine seq_c (s_callv hI 59 [iv p0, iv 11] (iv y527) (by kernel_rfl) (L59 _ p0 11 _ hy528) ?_)
 intro w hI
 refine pu (.agg #[iv y527, .slice none 0 0]) (by kernel_rfl) (seq_c (s_allocI hI [iv 0, .slice none 0 0] Try.zeroValue24 rfl ?_))
 intro b529 w hI
 refine seq_c (s_store hI 0 2 [iv y527, .slice none 0 0] Try.sizeOf24 rfl rfl rfl rfl rfl (Nat.le_of_ble_eq_true rfl) ?_)
 intro w hI
 refine seq_nil (wp_seq (wp_seq (rgn (by kernel_rfl) (pu (iv 0) (by kernel_rfl) (seq_nil (wp_block ?_))))))
 have hI := hI.nilRow 26
 refine wp_loop (fun m ρ w => ∃ (g959 : Option Nat) (c960 : Nat) (cl961 : List Value) (m_958 : List Cm) (i_963 : Int) (mm : Nat), Agree ρ [(1, .slice Ap1 lp1.length cp1), (4, .pointer (some ⟨b523, 0, none⟩)), (5, .pointer (some ⟨b529, 0, none⟩)), (6, iv i_963)] ∧ Inv [] w0 w [(some b523, blk [iv 0, .slice none 0 0] 24), (some b529, blk [iv y527, slv g959 m_958.length c960] 24), (g959, blk cl961 26)] ∧ (Row 3 g959 (m_958.length) c960 cl961 (flat eCm m_958)) ∧ F60l1 lp1 y527 mm m_958 i_963 = some r ∧ mm = m) (m := N) ⟨none, 0, [], [], 0, N, ⟨rfl, rfl, rfl, rfl, trivial⟩, hI.pickL [2, 1, 0] (by decide) rfl, (Row.nil_ 3), hF, rfl⟩ ?_
 rintro m ρ w ⟨g959, c960, cl961, m_958, i_963, mm, hag, hI, r962, hF, hm⟩
 subst hm; obtain ⟨ρ, rfl⟩ := hag.form; clear hag
 obtain _ | m1 := mm
 ·cases (show (none : Option (Int × List Cm)) = some r from hF)
 replace hF : F60b1 lp1 y527 (F60l1 lp1 y527 m1) m_958 i_963 = some r := hF; unfold F60b1 at hF
 refine wp_seq (wp_seq (rgn (by kernel_rfl) (pu (iv i_963) (by kernel_rfl) (pu (.slice Ap1 lp1.length cp1) (by kernel_rfl) (pu (iv ((lp1.length : Nat) : Int)) (by kernel_rfl) (ifE hF (fun h216 hF => ?_) (fun h216 hF => ?_)))))))
 ·
  refine seq_c (s_lss rfl rfl (fun _ => ?_) (fun h => absurd (a := i_963 < (lp1.length : Int)) h216 h))
  refine pu (.bool true) (by kernel_rfl) (puo (iv i_963) ⟨(by kernel_rfl), (by kernel_rfl)⟩ (ifE hF (fun h217 hF => ?_) (fun h217 hF => ?_)))
  ·
   refine seq_on (by kernel_rfl) (s_lss rfl rfl (fun _ => ?_) (fun h => absurd (a := i_963 < 6) h217 h))
   refine pu (.bool true) (by kernel_rfl) (seq_nil (wp_condT rfl (wp_skip (wp_cutO (fun ρ w => ∃ (g1003 : Option Nat) (c1004 : Nat) (cl1005 : List Value) (m_1002 : List Cm), Agree ρ [(1, .slice Ap1 lp1.length cp1), (4, .pointer (some ⟨b523, 0, none⟩)), (5, .pointer (some ⟨b529, 0, none⟩)), (6, iv i_963)] ∧ Inv [] w0 w [(some b523, blk [iv 0, .slice none 0 0] 24), (some b529, blk [iv y527, slv g1003 m_1002.length c1004] 24), (g1003, blk cl1005 26)] ∧ (Row 3 g1003 (m_1002.length) c1004 cl1005 (flat eCm m_1002)) ∧ F60j2 (F60l1 lp1 y527 m1) i_963 m_1002 = some r) ?_ ?_))))
   ·
    refine wp_block ?_
    refine ckE hF (fun h226 hF => ?_)
    refine ckE hF (fun h227 hF => ?_)
    refine bindE hF (fun y1007 hy1008 hF => ?_)
    refine ckE hF (fun h228 hF => ?_)
    refine gdE hF (fun h229 hF => ?_)
    refine bindE hF (fun x1009 hx1010 hF => ?_)
    refine gdE hF (fun h230 hF => ?_)
    refine ckE hF (fun h231 hF => ?_)
    refine bindE hF (fun y1016 hy1017 hF => ?_)
    refine bindE hF (fun y1018 hy1019 hF => ?_)
    refine gdE hF (fun h232 hF => ?_)
    replace hI := hI.pickL [0, 1, 2] (by decide) rfl
    refine wp_drawn2 hI [0] (by decide) rfl (by kernel_rfl) (by kernel_rfl) ?_
    intro hsub
    refine alp 0 (.pointer (some ⟨b529, 1, none⟩)) hsub rfl (by kernel_rfl) (fun _ => (by kernel_rfl)) ?_
    refine alp 2 (iv i_963) hsub rfl (by kernel_rfl) (fun _ => (by kernel_rfl)) ?_
    refine al_light 3 (iv (7 * i_963)) hsub rfl (by kernel_rfl) (fun w hI => s_mul rfl rfl h226 ⟨rfl, Below.refl _ _⟩) ?_
    refine al_light 4 (iv ((7 * i_963) + 5)) hsub rfl (by kernel_rfl) (fun w hI => s_add rfl rfl h227 ⟨rfl, Below.refl _ _⟩) ?_
    refine al_light 5 (iv y1007) hsub rfl (by kernel_rfl) (fun w hI => s_call 59 [iv ((7 * i_963) + 5), iv 9] (by kernel_rfl) (L59 _ ((7 * i_963) + 5) 9 _ hy1008) (fun v' w' h => h)) ?_
    refine al_light 6 (iv (1 + y1007)) hsub rfl (by kernel_rfl) (fun w hI => s_add rfl rfl h228 ⟨rfl, Below.refl _ _⟩) ?_
    refine alp 7 (.slice Ap1 lp1.length cp1) hsub rfl (by kernel_rfl) (fun _ => (by kernel_rfl)) ?_
    refine alp 8 (iv i_963) hsub rfl (by kernel_rfl) (fun _ => (by kernel_rfl)) ?_
    obtain ⟨b1025, o1026, hA1027, hb1028, he1029⟩ := hCp1.at_ eA2_len (by decide) hx1010
    refine al_light 9 (.pointer (some ⟨b1025, o1026 + (i_963).toNat * 2, none⟩)) hsub rfl (by kernel_rfl) (fun w hI => s_indexA (i_963).toNat Try.underlying68 Try.sizeOf77 rfl hA1027 rfl (Int.toNat_of_nonneg h229).symm (lt_n hx1010 rfl) ⟨rfl, Below.refl _ _⟩) ?_
    refine alp 10 (.pointer (some ⟨b1025, o1026 + (i_963).toNat * 2, none⟩)) hsub rfl (by kernel_rfl) (fun _ => (by kernel_rfl)) ?_
    refine al_light 11 (iv x1009.a) hsub rfl (by kernel_rfl) (fun w hI => s_loadB1 hI (iv x1009.a) Try.isAgg3 rfl hb1028 (by simp) (he1029 0 _ rfl) ⟨rfl, Below.refl _ _⟩) ?_
    refine alp 12 (.pointer (some ⟨b529, 0, none⟩)) hsub rfl (by kernel_rfl) (fun _ => (by kernel_rfl)) ?_
    refine alp 16 (.slice Ap1 lp1.length cp1) hsub rfl (by kernel_rfl) (fun _ => (by kernel_rfl)) ?_
    refine alp 17 (iv i_963) hsub rfl (by kernel_rfl) (fun _ => (by kernel_rfl)) ?_
    refine al_light 18 (.pointer (some ⟨b1025, o1026 + (i_963).toNat * 2, none⟩)) hsub rfl (by kernel_rfl) (fun w hI => s_indexA (i_963).toNat Try.underlying68 Try.sizeOf77 rfl hA1027 rfl (Int.toNat_of_nonneg h229).symm (lt_n hx1010 rfl) ⟨rfl, Below.refl _ _⟩) ?_
    refine alp 19 (.pointer (some ⟨b1025, o1026 + (i_963).toNat * 2 + 1, none⟩)) hsub rfl (by kernel_rfl) (fun _ => (by kernel_rfl)) ?_
    refine al_light 20 (iv x1009.b) hsub rfl (by kernel_rfl) (fun w hI => s_loadB1 hI (iv x1009.b) Try.isAgg3 rfl hb1028 (by simp) (he1029 1 _ rfl) ⟨rfl, Below.refl _ _⟩) ?_
    refine any_heavy [1, 13] (by kernel_rfl) rfl (each2 ?_ ?_)
    ·intro w hI
     refine ol_c rfl (s_load1 hI 1 (slv g959 m_958.length c960) Try.isAgg22 rfl rfl rfl ?_)
     refine ⟨_, hI, subk (fun _ h => h.pickL [0] (by decide) rfl) ?_⟩
     intro hsub
     refine any_heavy [13] (by kernel_rfl) rfl (each1 ?_)
     intro w hI
     refine ol_c rfl (s_load1 hI 1 (iv y527) Try.isAgg3 rfl rfl rfl ?_)
     refine ⟨_, hI, subk (fun _ h => h.pickL [0] (by decide) rfl) ?_⟩
     intro hsub
     refine al_light 14 (iv ((1 : Int) * 2 ^ (y527 : Int).toNat)) hsub rfl (by kernel_rfl) (fun w hI => s_shl rfl rfl h230 h231 ⟨rfl, Below.refl _ _⟩) ?_
     refine al_light 15 (iv y1016) hsub rfl (by kernel_rfl) (fun w hI => s_call 59 [iv x1009.a, iv ((1 : Int) * 2 ^ (y527 : Int).toNat)] (by kernel_rfl) (L59 _ x1009.a ((1 : Int) * 2 ^ (y527 : Int).toNat) _ hy1017) (fun v' w' h => h)) ?_
     refine al_light 21 (iv y1018) hsub rfl (by kernel_rfl) (fun w hI => s_call 59 [iv x1009.b, iv 7] (by kernel_rfl) (L59 _ x1009.b 7 _ hy1019) (fun v' w' h => h)) ?_
     refine alp 22 (.agg #[iv (1 + y1007), iv y1016, iv y1018]) hsub rfl (by kernel_rfl) (fun _ => (by kernel_rfl)) ?_
     refine any_heavy [23] (by kernel_rfl) rfl (each1 ?_)
     intro w hI
     refine ol_c rfl (s_new hI [iv (1 + y1007), iv y1016, iv y1018] 26 (fun b => slv (some b) 1 1) (by kernel_rfl) ?_)
     intro b1030 w hI
     refine ⟨_, hI, subk (fun _ h => h.pickL [1] (by decide) rfl) ?_⟩
     intro hsub
     refine any_heavy [24] (by kernel_rfl) rfl (each1 ?_)
     intro w hI
     refine ol_c rfl (s_appN hI Try.underlying22 (z := .agg #[iv 0, iv 0, iv 0]) (k := 3) (bytes := 24) (by kernel_rfl) rfl rfl 3 rfl rfl r962 [iv (1 + y1007), iv y1016, iv y1018] rfl rfl (hI.cells 0 (off := 0) rfl (fun j u h => by rw [Nat.zero_add]; exact h)) (by simp [Value.oneCell']) (by omega) (by omega) (n2 := (m_958 ++ [(⟨1 + y1007, y1016, y1018⟩ : Cm)]).length) (app_len rfl rfl) ?_)
     intro g1031 c1032 cl1033 w hI r1034
     refine ⟨_, hI, subk (fun _ h => h.pickL [1] (by decide) rfl) ?_⟩
     intro hsub
     have r1034 : Row 3 g1031 ((m_958 ++ [(⟨1 + y1007, y1016, y1018⟩ : Cm)]).length) c1032 cl1033 (flat eCm (m_958 ++ [(⟨1 + y1007, y1016, y1018⟩ : Cm)])) := r1034.snoc _ rfl
     refine alp 25 (.pointer (some ⟨b529, 1, none⟩)) hsub rfl (by kernel_rfl) (fun _ => (by kernel_rfl)) ?_
     refine any_heavy [26] (by kernel_rfl) rfl (each1 ?_)
     intro w hI
     refine ol_c rfl (s_store hI 2 1 [slv g1031 ((m_958 ++ [(⟨1 + y1007, y1016, y1018⟩ : Cm)]).length) c1032] Try.sizeOf22 rfl rfl rfl rfl rfl (Nat.le_of_ble_eq_true rfl) ?_)
     intro w hI
     refine ⟨_, hI, subk (fun _ h => h.pickL [1] (by decide) rfl) ?_⟩
     intro hsub
     refine any_end (by kernel_rfl) (fun w hI => ?_)
     exact .inl ⟨rfl, ⟨g1031, c1032, cl1033, m_958 ++ [(⟨1 + y1007, y1016, y1018⟩ : Cm)], ⟨rfl, rfl, rfl, rfl, trivial⟩, hI.pickL [1, 2, 3] (by decide) rfl, (r1034.to rfl rfl), hF⟩⟩
    ·intro w hI
     refine ol_c rfl (s_load1 hI 1 (iv y527) Try.isAgg3 rfl rfl rfl ?_)
     refine ⟨_, hI, subk (fun _ h => h.pickL [0] (by decide) rfl) ?_⟩
     intro hsub
     refine al_light 14 (iv ((1 : Int) * 2 ^ (y527 : Int).toNat)) hsub rfl (by kernel_rfl) (fun w hI => s_shl rfl rfl h230 h231 ⟨rfl, Below.refl _ _⟩) ?_
     refine al_light 15 (iv y1016) hsub rfl (by kernel_rfl) (fun w hI => s_call 59 [iv x1009.a, iv ((1 : Int) * 2 ^ (y527 : Int).toNat)] (by kernel_rfl) (L59 _ x1009.a ((1 : Int) * 2 ^ (y527 : Int).toNat) _ hy1017) (fun v' w' h => h)) ?_
     refine al_light 21 (iv y1018) hsub rfl (by kernel_rfl) (fun w hI => s_call 59 [iv x1009.b, iv 7] (by kernel_rfl) (L59 _ x1009.b 7 _ hy1019) (fun v' w' h => h)) ?_
     refine alp 22 (.agg #[iv (1 + y1007), iv y1016, iv y1018]) hsub rfl (by kernel_rfl) (fun _ => (by kernel_rfl)) ?_
     refine any_heavy [1, 23] (by kernel_rfl) rfl (each2 ?_ ?_)
     ·intro w hI
      refine ol_c rfl (s_load1 hI 1 (slv g959 m_958.length c960) Try.isAgg22 rfl rfl rfl ?_)
      refine ⟨_, hI, subk (fun _ h => h.pickL [0] (by decide) rfl) ?_⟩
      intro hsub
      refine any_heavy [23] (by kernel_rfl) rfl (each1 ?_)
      intro w hI
      refine ol_c rfl (s_new hI [iv (1 + y1007), iv y1016, iv y1018] 26 (fun b => slv (some b) 1 1) (by kernel_rfl) ?_)
      intro b1035 w hI
      refine ⟨_, hI, subk (fun _ h => h.pickL [1] (by decide) rfl) ?_⟩
      intro hsub
      refine any_heavy [24] (by kernel_rfl) rfl (each1 ?_)
      intro w hI
      refine ol_c rfl (s_appN hI Try.underlying22 (z := .agg #[iv 0, iv 0, iv 0]) (k := 3) (bytes := 24) (by kernel_rfl) rfl rfl 3 rfl rfl r962 [iv (1 + y1007), iv y1016, iv y1018] rfl rfl (hI.cells 0 (off := 0) rfl (fun j u h => by rw [Nat.zero_add]; exact h)) (by simp [Value.oneCell']) (by omega) (by omega) (n2 := (m_958 ++ [(⟨1 + y1007, y1016, y1018⟩ : Cm)]).length) (app_len rfl rfl) ?_)
      intro g1036 c1037 cl1038 w hI r1039
      refine ⟨_, hI, subk (fun _ h => h.pickL [1] (by decide) rfl) ?_⟩
      intro hsub
      have r1039 : Row 3 g1036 ((m_958 ++ [(⟨1 + y1007, y1016, y1018⟩ : Cm)]).length) c1037 cl1038 (flat eCm (m_958 ++ [(⟨1 + y1007, y1016, y1018⟩ : Cm)])) := r1039.snoc _ rfl
      refine alp 25 (.pointer (some ⟨b529, 1, none⟩)) hsub rfl (by kernel_rfl) (fun _ => (by kernel_rfl)) ?_
      refine any_heavy [26] (by kernel_rfl) rfl (each1 ?_)
      intro w hI
      refine ol_c rfl (s_store hI 2 1 [slv g1036 ((m_958 ++ [(⟨1 + y1007, y1016, y1018⟩ : Cm)]).length) c1037] Try.sizeOf22 rfl rfl rfl rfl rfl (Nat.le_of_ble_eq_true rfl) ?_)
      intro w hI
      refine ⟨_, hI, subk (fun _ h => h.pickL [1] (by decide) rfl) ?_⟩
      intro hsub
      refine any_end (by kernel_rfl) (fun w hI => ?_)
      exact .inl ⟨rfl, ⟨g1036, c1037, cl1038, m_958 ++ [(⟨1 + y1007, y1016, y1018⟩ : Cm)], ⟨rfl, rfl, rfl, rfl, trivial⟩, hI.pickL [1, 2, 3] (by decide) rfl, (r1039.to rfl rfl), hF⟩⟩
     ·intro w hI
      refine ol_c rfl (s_new hI [iv (1 + y1007), iv y1016, iv y1018] 26 (fun b => slv (some b) 1 1) (by kernel_rfl) ?_)
      intro b1040 w hI
      refine ⟨_, hI, subk (fun _ h => h.pickL [1] (by decide) rfl) ?_⟩
      intro hsub
      refine any_heavy [1] (by kernel_rfl) rfl (each1 ?_)
      intro w hI
      refine ol_c rfl (s_load1 hI 2 (slv g959 m_958.length c960) Try.isAgg22 rfl rfl rfl ?_)
      refine ⟨_, hI, subk (fun _ h => h.pickL [1] (by decide) rfl) ?_⟩
      intro hsub
      refine any_heavy [24] (by kernel_rfl) rfl (each1 ?_)
      intro w hI
      refine ol_c rfl (s_appN hI Try.underlying22 (z := .agg #[iv 0, iv 0, iv 0]) (k := 3) (bytes := 24) (by kernel_rfl) rfl rfl 3 rfl rfl r962 [iv (1 + y1007), iv y1016, iv y1018] rfl rfl (hI.cells 0 (off := 0) rfl (fun j u h => by rw [Nat.zero_add]; exact h)) (by simp [Value.oneCell']) (by omega) (by omega) (n2 := (m_958 ++ [(⟨1 + y1007, y1016, y1018⟩ : Cm)]).length) (app_len rfl rfl) ?_)
      intro g1041 c1042 cl1043 w hI r1044
      refine ⟨_, hI, subk (fun _ h => h.pickL [1] (by decide) rfl) ?_⟩
      intro hsub
      have r1044 : Row 3 g1041 ((m_958 ++ [(⟨1 + y1007, y1016, y1018⟩ : Cm)]).length) c1042 cl1043 (flat eCm (m_958 ++ [(⟨1 + y1007, y1016, y1018⟩ : Cm)])) := r1044.snoc _ rfl
      refine alp 25 (.pointer (some ⟨b529, 1, none⟩)) hsub rfl (by kernel_rfl) (fun _ => (by kernel_rfl)) ?_
      refine any_heavy [26] (by kernel_rfl) rfl (each1 ?_)
      intro w hI
      refine ol_c rfl (s_store hI 2 1 [slv g1041 ((m_958 ++ [(⟨1 + y1007, y1016, y1018⟩ : Cm)]).length) c1042] Try.sizeOf22 rfl rfl rfl rfl rfl (Nat.le_of_ble_eq_true rfl) ?_)
      intro w hI
      refine ⟨_, hI, subk (fun _ h => h.pickL [1] (by decide) rfl) ?_⟩
      intro hsub
      refine any_end (by kernel_rfl) (fun w hI => ?_)
      exact .inl ⟨rfl, ⟨g1041, c1042, cl1043, m_958 ++ [(⟨1 + y1007, y1016, y1018⟩ : Cm)], ⟨rfl, rfl, rfl, rfl, trivial⟩, hI.pickL [1, 2, 3] (by decide) rfl, (r1044.to rfl rfl), hF⟩⟩
   ·intro ρ w hJ
    obtain ⟨g1003, c1004, cl1005, m_1002, hag, hI, r1006, hF⟩ := hJ
    obtain ⟨ρ, rfl⟩ := hag.form; clear hag
    unfold F60j2 at hF
    refine rgn (by kernel_rfl) (pu (iv i_963) (by kernel_rfl) (ckE hF (fun h225 hF => ?_)))
    refine seq_c (s_add rfl rfl h225 ?_)
    refine pu (iv (i_963 + 1)) (by kernel_rfl) (seq_nil ?_)
    exact ⟨rfl, m1, Nat.lt_succ_self _, ⟨g1003, c1004, cl1005, m_1002, i_963 + 1, m1, ⟨rfl, rfl, rfl, rfl, trivial⟩, hI.pickL [0, 1, 2] (by decide) rfl, (r1006.to rfl rfl), hF, rfl⟩⟩
  ·
   refine seq_on (by kernel_rfl) (s_lss rfl rfl (fun h => absurd (a := i_963 < 6) h h217) (fun _ => ?_))
   refine pu (.bool false) (by kernel_rfl) (seq_nil (wp_condF rfl (wp_exit ?_)))
   refine wp_seq (rgn (by kernel_rfl) (seq_c (s_loadK hI 1 2 [iv y527, slv g959 m_958.length c960] Try.isAgg24 Try.sizeOf24 rfl rfl rfl rfl ?_)))
   refine seq_c (s_store hI 0 2 [iv y527, slv g959 m_958.length c960] Try.sizeOf24 rfl rfl rfl rfl rfl (Nat.le_of_ble_eq_true rfl) ?_)
   intro w hI
   refine seq_nil (wp_ret ?_)
   replace hF := Option.some.inj hF; subst hF
   exact ⟨.agg #[iv y527, slv g959 m_958.length c960], Ret.c rfl rfl (run_loadK hI 0 2 [iv y527, slv g959 m_958.length c960] Try.isAgg24 Try.sizeOf24 rfl rfl rfl), ⟨g959, c960, cl961, rfl, hI.pickL [2] (by decide) rfl, r962.to rfl rfl⟩⟩
 ·
  refine seq_c (s_lss rfl rfl (fun h => absurd (a := i_963 < (lp1.length : Int)) h h216) (fun _ => ?_))
  refine pu (.bool false) (by kernel_rfl) (of_ (by kernel_rfl) (of_ (by kernel_rfl) (pu (.bool false) (by kernel_rfl) (seq_nil (wp_condF rfl (wp_exit ?_))))))
  refine wp_seq (rgn (by kernel_rfl) (seq_c (s_loadK hI 1 2 [iv y527, slv g959 m_958.length c960] Try.isAgg24 Try.sizeOf24 rfl rfl rfl rfl ?_)))
  refine seq_c (s_store hI 0 2 [iv y527, slv g959 m_958.length c960] Try.sizeOf24 rfl rfl rfl rfl rfl (Nat.le_of_ble_eq_true rfl) ?_)
  intro w hI
  refine seq_nil (wp_ret ?_)
  replace hF := Option.some.inj hF; subst hF
  exact ⟨.agg #[iv y527, slv g959 m_958.length c960], Ret.c rfl rfl (run_loadK hI 0 2 [iv y527, slv g959 m_958.length c960] Try.isAgg24 Try.sizeOf24 rfl rfl rfl), ⟨g959, c960, cl961, rfl, hI.pickL [2] (by decide) rfl, r962.to rfl rfl⟩⟩


theorem L11 (w0 : World) (p0 : Int) (Ap1 : Option Addr) (cp1 : Nat) (lp1 : List A2) (p2 : Int) (hCp1 : Cells w0 Ap1 (flat eA2 lp1)) (hMp1 : lp1.length ≤ 9223372036854775807) (hKp1 : lp1.length ≤ cp1) (N : Nat) (r : Bool) (hF : F11 N p0 lp1 p2 = some r) : Does Try.prog 11 [.int .i64 p0, .slice Ap1 lp1.length cp1, .int .i64 p2] w0 fun v w => v = .bool r ∧ Below w0.heap.size w0 w := by
 refine calls_of (n := 128) Try.func11 rfl Try.ntmps11 rfl ?_
 have hI := Inv.start w0
 unfold F11 at hF
 refine wp_seq (rgn (by kernel_rfl) (pu (.bool false) (by kernel_rfl) (seq_nil (wp_seq (rgn (by kernel_rfl) (pu (iv p0) (by kernel_rfl) (pu (.slice Ap1 lp1.length cp1) (by kernel_rfl) (bindE hF (fun y3577 hy3578 hF => ?_)))))))))
 refine seq_c (s_call 60 [iv p0, .slice Ap1 lp1.length cp1] (by kernel_rfl) (L60 _ p0 Ap1 cp1 lp1 (hCp1.inv0 hI) hMp1 hKp1 N _ hy3578) ?_)
 rintro v w ⟨g3579, c3580, cl3581, rfl, hN, r3582⟩
 have hI := hI.join hN; clear hN
 refine seq_c (s_allocI hI [iv 0, .slice none 0 0] Try.zeroValue24 rfl ?_)
 intro b3583 w hI
 refine seq_c (s_store hI 0 2 [iv y3577.1, slv g3579 y3577.2.length c3580] Try.sizeOf24 rfl rfl rfl rfl rfl (Nat.le_of_ble_eq_true rfl) ?_)
 intro w hI
 refine seq_nil (wp_seq (wp_seq (rgn (by kernel_rfl) (pu (.pointer (some ⟨b3583, 1, none⟩)) (by kernel_rfl) (seq_c (s_load1 hI 0 (slv g3579 y3577.2.length c3580) Try.isAgg22 rfl rfl rfl ?_))))))
 refine pu (iv ((y3577.2.length : Nat) : Int)) (by kernel_rfl) (ifE hF (fun h2389 hF => ?_) (fun h2389 hF => ?_))
 ·
  refine seq_c (s_eql rfl rfl (fun _ => ?_) (fun h => absurd (a := (y3577.2.length : Int) = 0) h2389 h))
  refine seq_nil (wp_condT rfl (wp_seq (rgn (by kernel_rfl) (bindE hF (fun y3590 hy3591 hF => ?_)))))
  refine seq_c (s_callv hI 25 [] (.bool y3590) (by kernel_rfl) (L25 _ N _ hy3591) ?_)
  intro w hI
  refine pu (.bool y3590) (by kernel_rfl) (seq_nil (wp_ret ?_))
  replace hF := Option.some.inj hF; subst hF
  exact ⟨.bool y3590, Ret.r1 rfl rfl, ⟨rfl, hI.below⟩⟩
 ·
  refine seq_c (s_eql rfl rfl (fun h => absurd (a := (y3577.2.length : Int) = 0) h h2389) (fun _ => ?_))
  refine seq_nil (wp_condF rfl (wp_skip (wp_seq (rgn (by kernel_rfl) (pu (iv p2) (by kernel_rfl) (pu (.pointer (some ⟨b3583, 1, none⟩)) (by kernel_rfl) (seq_c (s_load1 hI 0 (slv g3579 y3577.2.length c3580) Try.isAgg22 rfl rfl rfl ?_))))))))
  refine pu (iv ((y3577.2.length : Nat) : Int)) (by kernel_rfl) (bindE hF (fun y3594 hy3595 hF => ?_))
  refine seq_c (s_callv hI 59 [iv p2, iv (y3577.2.length : Int)] (iv y3594) (by kernel_rfl) (L59 _ p2 (y3577.2.length : Int) _ hy3595) ?_)
  intro w hI
  refine pu (iv y3594) (by kernel_rfl) (seq_nil (wp_seq (rgn (by kernel_rfl) (pu (.pointer (some ⟨b3583, 1, none⟩)) (by kernel_rfl) (seq_c (s_load1 hI 0 (slv g3579 y3577.2.length c3580) Try.isAgg22 rfl rfl rfl ?_))))))
  refine pu (iv y3594) (by kernel_rfl) (gdE hF (fun h2390 hF => ?_))
  refine bindE hF (fun x3596 hx3597 hF => ?_)
  obtain ⟨b3598, rfl, he3599⟩ := r3582.at_ eCm_len (by decide) hx3597
  refine seq_c (s_indexR (y3594).toNat Try.underlying22 Try.sizeOf26 rfl rfl (Int.toNat_of_nonneg h2390).symm (lt_n hx3597 rfl) ?_)
  refine seq_c (s_loadRK hI 1 [iv x3596.fam, iv x3596.hrs, iv x3596.wants] Try.isAgg26 Try.sizeOf26 rfl rfl rfl he3599 ?_)
  refine seq_c (s_allocI hI [iv 0, iv 0, iv 0] Try.zeroValue26 rfl ?_)
  intro b3600 w hI
  refine seq_c (s_store hI 0 3 [iv x3596.fam, iv x3596.hrs, iv x3596.wants] Try.sizeOf26 rfl rfl rfl rfl rfl (Nat.le_of_ble_eq_true rfl) ?_)
  intro w hI
  refine seq_nil (wp_seq (rgn (by kernel_rfl) (pu (.pointer (some ⟨b3600, 0, none⟩)) (by kernel_rfl) (seq_c (s_store hI 0 1 [iv 50] Try.sizeOf3 rfl rfl rfl rfl rfl (Nat.le_of_ble_eq_true rfl) ?_)))))
  intro w hI
  refine seq_nil (wp_seq (rgn (by kernel_rfl) (seq_c (s_loadK hI 1 2 [iv y3577.1, slv (some b3598) y3577.2.length c3580] Try.isAgg24 Try.sizeOf24 rfl rfl rfl rfl ?_))))
  refine seq_c (s_loadK hI 0 3 [iv 50, iv x3596.hrs, iv x3596.wants] Try.isAgg26 Try.sizeOf26 rfl rfl rfl rfl ?_)
  refine bindE hF (fun y3608 hy3609 hF => ?_)
  refine seq_c (s_call 14 [.agg #[iv y3577.1, slv (some b3598) y3577.2.length c3580], .agg #[iv 50, iv x3596.hrs, iv x3596.wants]] (by kernel_rfl) (L14 _ y3577.1 ((some b3598).map fun b => ⟨b, 0, none⟩) c3580 y3577.2 (⟨50, x3596.hrs, x3596.wants⟩ : Cm) (hI.rowCells 2 rfl r3582) (len_le rfl r3582.big) (len_le rfl r3582.cap) N _ hy3609) ?_)
  rintro v w ⟨g3610, c3611, cl3612, rfl, hN, r3613⟩
  have hI := hI.join hN; clear hN
  refine pu (.tuple #[.agg #[iv y3608.1, slv g3610 y3608.2.1.length c3611], iv y3608.2.2]) (by kernel_rfl) (pu (.agg #[iv y3608.1, slv g3610 y3608.2.1.length c3611]) (by kernel_rfl) (pu (iv y3608.2.2) (by kernel_rfl) (seq_c (s_allocI hI [iv 0, .slice none 0 0] Try.zeroValue24 rfl ?_))))
  intro b3614 w hI
  refine seq_c (s_store hI 0 2 [iv y3608.1, slv g3610 y3608.2.1.length c3611] Try.sizeOf24 rfl rfl rfl rfl rfl (Nat.le_of_ble_eq_true rfl) ?_)
  intro w hI
  refine pu (iv y3608.2.2) (by kernel_rfl) (seq_nil (wp_seq (rgn (by kernel_rfl) (seq_c (s_loadK hI 0 2 [iv y3608.1, slv g3610 y3608.2.1.length c3611] Try.isAgg24 Try.sizeOf24 rfl rfl rfl rfl ?_)))))
  refine bindE hF (fun y3621 hy3622 hF => ?_)
  refine seq_c (s_call 38 [.agg #[iv y3608.1, slv g3610 y3608.2.1.length c3611]] (by kernel_rfl) (L38 _ y3608.1 (g3610.map fun b => ⟨b, 0, none⟩) c3611 y3608.2.1 (hI.rowCells 1 rfl r3613) (len_le rfl r3613.big) (len_le rfl r3613.cap) N _ hy3622) ?_)
  rintro v w ⟨g3623, c3624, cl3625, rfl, hN, r3626⟩
  have hI := hI.join hN; clear hN
  refine pu (.tuple #[slv g3623 y3621.1.length c3624, iv y3621.2]) (by kernel_rfl) (pu (slv g3623 y3621.1.length c3624) (by kernel_rfl) (pu (iv y3621.2) (by kernel_rfl) (pu (slv g3623 y3621.1.length c3624) (by kernel_rfl) (pu (iv y3621.2) (by kernel_rfl) (seq_nil (wp_seq (wp_seq (rgn (by kernel_rfl) (pu (iv y3608.2.2) (by kernel_rfl) ?_)))))))))
  refine ifE hF (fun h2403 hF => ?_) (fun h2403 hF => ?_)
  ·
   refine seq_c (s_neq rfl rfl (fun h => absurd (a := y3608.2.2 = 0) h2403 h) (fun _ => ?_))
   refine pu (.bool false) (by kernel_rfl) (puo (iv y3621.2) ⟨(by kernel_rfl), (by kernel_rfl)⟩ (ifE hF (fun h2404 hF => ?_) (fun h2404 hF => ?_)))
   ·
    refine seq_on (by kernel_rfl) (s_neq rfl rfl (fun h => absurd (a := y3621.2 = 0) h2404 h) (fun _ => ?_))
    refine pu (.bool false) (by kernel_rfl) (pu (.bool false) (by kernel_rfl) (puo (slv g3623 y3621.1.length c3624) ⟨(by kernel_rfl), (by kernel_rfl)⟩ (puo (iv ((y3621.1.length : Nat) : Int)) ⟨(by kernel_rfl), (by kernel_rfl)⟩ (puo (.pointer (some ⟨b3583, 1, none⟩)) ⟨(by kernel_rfl), (by kernel_rfl)⟩ (seq_on (by kernel_rfl) (s_load1 hI 4 (slv (some b3598) y3577.2.length c3580) Try.isAgg22 rfl rfl rfl ?_))))))
    refine puo (iv ((y3577.2.length : Nat) : Int)) ⟨(by kernel_rfl), (by kernel_rfl)⟩ (ckE hF (fun h2405 hF => ?_))
    refine seq_on (by kernel_rfl) (s_add rfl rfl h2405 ?_)
    refine ifE hF (fun h2406 hF => ?_) (fun h2406 hF => ?_)
    ·
     refine seq_on (by kernel_rfl) (s_neq rfl rfl (fun h => absurd (a := (y3621.1.length : Int) = ((y3577.2.length : Int) + 1)) h2406 h) (fun _ => ?_))
     refine pu (.bool false) (by kernel_rfl) (seq_nil (wp_condF rfl (wp_skip (wp_seq (rgn (by kernel_rfl) (pu (slv g3623 y3621.1.length c3624) (by kernel_rfl) (pu (slv g3623 y3621.1.length c3624) (by kernel_rfl) (pu (iv ((y3621.1.length : Nat) : Int)) (by kernel_rfl) (ckE hF (fun h2409 hF => ?_))))))))))
     refine seq_c (s_sub rfl rfl h2409 ?_)
     refine gdE hF (fun h2410 hF => ?_)
     refine bindE hF (fun x3631 hx3632 hF => ?_)
     obtain ⟨b3633, rfl, he3634⟩ := r3626.at_ eInt_len (by decide) hx3632
     refine seq_c (s_indexR (((y3621.1.length : Int) - 1).toNat) Try.underlying49 Try.sizeOf3 rfl rfl (Int.toNat_of_nonneg h2410).symm (lt_n hx3632 rfl) ?_)
     refine seq_c (s_loadR1 hI 0 (iv x3631) Try.isAgg3 rfl rfl (he3634 0 _ rfl) ?_)
     refine pu (iv x3631) (by kernel_rfl) (seq_nil (wp_seq (wp_seq (rgn (by kernel_rfl) (pu (slv (some b3633) y3621.1.length c3624) (by kernel_rfl) (pu (iv y3594) (by kernel_rfl) (bindE hF (fun x3644 hx3645 hF => ?_))))))))
     have he3646 := r3626.atS eInt_len (by decide) hx3645
     refine seq_c (s_indexR (y3594).toNat Try.underlying49 Try.sizeOf3 rfl rfl (Int.toNat_of_nonneg h2390).symm (lt_n hx3645 rfl) ?_)
     refine seq_c (s_loadR1 hI 0 (iv x3644) Try.isAgg3 rfl rfl (he3646 0 _ rfl) ?_)
     refine pu (iv x3631) (by kernel_rfl) (ifE hF (fun h2420 hF => ?_) (fun h2420 hF => ?_))
     ·
      refine seq_c (s_lss rfl rfl (fun _ => ?_) (fun h => absurd (a := x3644 < x3631) h2420 h))
      refine pu (.bool true) (by kernel_rfl) (of_ (by kernel_rfl) (of_ (by kernel_rfl) (of_ (by kernel_rfl) (of_ (by kernel_rfl) (of_ (by kernel_rfl) (of_ (by kernel_rfl) (of_ (by kernel_rfl) (pu (.bool true) (by kernel_rfl) (seq_nil ?_)))))))))
      refine wp_condT rfl (wp_seq (rgn (by kernel_rfl) (pu (.bool false) (by kernel_rfl) (seq_nil (wp_ret ?_)))))
      replace hF := Option.some.inj hF; subst hF
      exact ⟨.bool false, Ret.r1 rfl rfl, ⟨rfl, hI.below⟩⟩
     ·
      refine seq_c (s_lss rfl rfl (fun h => absurd (a := x3644 < x3631) h h2420) (fun _ => ?_))
      refine pu (.bool false) (by kernel_rfl) (puo (slv (some b3633) y3621.1.length c3624) ⟨(by kernel_rfl), (by kernel_rfl)⟩ (puo (iv y3594) ⟨(by kernel_rfl), (by kernel_rfl)⟩ (seq_on (by kernel_rfl) (s_indexR (y3594).toNat Try.underlying49 Try.sizeOf3 rfl rfl (Int.toNat_of_nonneg h2390).symm (lt_n hx3645 rfl) ?_))))
      refine seq_on (by kernel_rfl) (s_loadR1 hI 0 (iv x3644) Try.isAgg3 rfl rfl (he3646 0 _ rfl) ?_)
      refine puo (iv x3631) ⟨(by kernel_rfl), (by kernel_rfl)⟩ (ckE hF (fun h2421 hF => ?_))
      refine seq_on (by kernel_rfl) (s_add rfl rfl h2421 ?_)
      refine ifE hF (fun h2422 hF => ?_) (fun h2422 hF => ?_)
      ·
       refine seq_on (by kernel_rfl) (s_gtr rfl rfl (fun _ => ?_) (fun h => absurd (a := (x3631 + 1) < x3644) h2422 h))
       refine pu (.bool true) (by kernel_rfl) (seq_nil (wp_condT rfl (wp_seq (rgn (by kernel_rfl) (pu (.bool false) (by kernel_rfl) (seq_nil (wp_ret ?_)))))))
       replace hF := Option.some.inj hF; subst hF
       exact ⟨.bool false, Ret.r1 rfl rfl, ⟨rfl, hI.below⟩⟩
      ·
       refine seq_on (by kernel_rfl) (s_gtr rfl rfl (fun h => absurd (a := (x3631 + 1) < x3644) h h2422) (fun _ => ?_))
       refine pu (.bool false) (by kernel_rfl) (seq_nil (wp_condF rfl (wp_skip (wp_cutO (fun ρ w => Agree ρ [] ∧ Inv [] w0 w [] ∧ F11j1 N = some r) ?_ ?_))))
       ·
        refine wp_seq (rgn (by kernel_rfl) (pu (iv 0) (by kernel_rfl) (seq_nil (wp_block ?_))))
        refine wp_loop (fun m ρ w => ∃ (g6556 : Option Nat) (c6557 : Nat) (cl6558 : List Value) (v6560 : Int) (mm : Nat), Agree ρ [(10, .pointer (some ⟨b3614, 0, none⟩)), (12, slv (some b3633) y3621.1.length c3624), (15, iv v6560)] ∧ Inv [] w0 w [(some b3614, blk [iv y3608.1, slv g6556 y3608.2.1.length c6557] 24), (g6556, blk cl6558 26), (some b3633, blk cl3625 3)] ∧ (Row 3 g6556 (y3608.2.1.length) c6557 cl6558 (flat eCm y3608.2.1)) ∧ F11l2 N y3608 y3621 mm v6560 = some r ∧ mm = m) (m := N) ⟨g3610, c3611, cl3612, 0, N, ⟨rfl, rfl, rfl, trivial⟩, hI.pickL [1, 2, 0] (by decide) rfl, (r3613.to rfl rfl), hF, rfl⟩ ?_
        rintro m ρ w ⟨g6556, c6557, cl6558, v6560, mm, hag, hI, r6559, hF, hm⟩
        subst hm; obtain ⟨ρ, rfl⟩ := hag.form; clear hag
        obtain _ | m2 := mm
        ·cases (show (none : Option Bool) = some r from hF)
        replace hF : F11b2 N y3608 y3621 (F11l2 N y3608 y3621 m2) v6560 = some r := hF; unfold F11b2 at hF
        refine wp_seq (wp_seq (rgn (by kernel_rfl) (pu (iv v6560) (by kernel_rfl) (pu (slv (some b3633) y3621.1.length c3624) (by kernel_rfl) (pu (iv ((y3621.1.length : Nat) : Int)) (by kernel_rfl) (ifE hF (fun h4365 hF => ?_) (fun h4365 hF => ?_)))))))
        ·
         refine seq_c (s_lss rfl rfl (fun _ => ?_) (fun h => absurd (a := v6560 < (y3621.1.length : Int)) h4365 h))
         refine seq_nil (wp_condT rfl (wp_skip (wp_cutO (fun ρ w => ∃ (g6848 : Option Nat) (c6849 : Nat) (cl6850 : List Value), Agree ρ [(10, .pointer (some ⟨b3614, 0, none⟩)), (12, slv (some b3633) y3621.1.length c3624), (15, iv v6560)] ∧ Inv [] w0 w [(some b3614, blk [iv y3608.1, slv g6848 y3608.2.1.length c6849] 24), (g6848, blk cl6850 26), (some b3633, blk cl3625 3)] ∧ (Row 3 g6848 (y3608.2.1.length) c6849 cl6850 (flat eCm y3608.2.1)) ∧ F11j3 (F11l2 N y3608 y3621 m2) v6560 = some r) ?_ ?_)))
         ·
          refine wp_block ?_
          refine wp_seq (rgn (by kernel_rfl) (pu (iv 0) (by kernel_rfl) (seq_nil (wp_cutO (fun ρ w => ∃ (g6975 : Option Nat) (c6976 : Nat) (cl6977 : List Value) (v6979 : Int), Agree ρ [(10, .pointer (some ⟨b3614, 0, none⟩)), (12, slv (some b3633) y3621.1.length c3624), (15, iv v6560), (16, iv v6979)] ∧ Inv [] w0 w [(some b3614, blk [iv y3608.1, slv g6975 y3608.2.1.length c6976] 24), (g6975, blk cl6977 26), (some b3633, blk cl3625 3)] ∧ (Row 3 g6975 (y3608.2.1.length) c6976 cl6977 (flat eCm y3608.2.1)) ∧ F11j4 (F11l2 N y3608 y3621 m2) y3608 y3621 v6560 v6979 = some r) ?_ ?_))))
          ·
           refine wp_seq (rgn (by kernel_rfl) (pu (iv 0) (by kernel_rfl) (seq_nil (wp_block ?_))))
           refine wp_loop (fun m ρ w => ∃ (g7096 : Option Nat) (c7097 : Nat) (cl7098 : List Value) (v7100 : Int) (v7101 : Int) (mm : Nat), Agree ρ [(10, .pointer (some ⟨b3614, 0, none⟩)), (12, slv (some b3633) y3621.1.length c3624), (15, iv v6560), (16, iv v7100), (17, iv v7101)] ∧ Inv [] w0 w [(some b3614, blk [iv y3608.1, slv g7096 y3608.2.1.length c7097] 24), (g7096, blk cl7098 26), (some b3633, blk cl3625 3)] ∧ (Row 3 g7096 (y3608.2.1.length) c7097 cl7098 (flat eCm y3608.2.1)) ∧ F11l5 (F11l2 N y3608 y3621 m2) y3608 y3621 v6560 mm v7100 v7101 = some r ∧ mm = m) (m := N) ⟨g6556, c6557, cl6558, 0, 0, N, ⟨rfl, rfl, rfl, rfl, rfl, trivial⟩, hI.pickL [0, 1, 2] (by decide) rfl, (r6559.to rfl rfl), hF, rfl⟩ ?_
           rintro m ρ w ⟨g7096, c7097, cl7098, v7100, v7101, mm, hag, hI, r7099, hF, hm⟩
           subst hm; obtain ⟨ρ, rfl⟩ := hag.form; clear hag
           obtain _ | m5 := mm
           ·cases (show (none : Option Bool) = some r from hF)
           replace hF : F11b5 (F11l2 N y3608 y3621 m2) y3608 y3621 v6560 (F11l5 (F11l2 N y3608 y3621 m2) y3608 y3621 v6560 m5) v7100 v7101 = some r := hF; unfold F11b5 at hF
           refine wp_seq (wp_seq (rgn (by kernel_rfl) (pu (iv v7101) (by kernel_rfl) (pu (.pointer (some ⟨b3614, 0, none⟩)) (by kernel_rfl) (seq_c (s_load1 hI 0 (iv y3608.1) Try.isAgg3 rfl rfl rfl ?_))))))
           refine ifE hF (fun h4739 hF => ?_) (fun h4739 hF => ?_)
           ·
            refine seq_c (s_lss rfl rfl (fun _ => ?_) (fun h => absurd (a := v7101 < y3608.1) h4739 h))
            refine seq_nil (wp_condT rfl (wp_skip (wp_cutO (fun ρ w => ∃ (g7118 : Option Nat) (c7119 : Nat) (cl7120 : List Value) (v7122 : Int), Agree ρ [(10, .pointer (some ⟨b3614, 0, none⟩)), (12, slv (some b3633) y3621.1.length c3624), (15, iv v6560), (16, iv v7122), (17, iv v7101)] ∧ Inv [] w0 w [(some b3614, blk [iv y3608.1, slv g7118 y3608.2.1.length c7119] 24), (g7118, blk cl7120 26), (some b3633, blk cl3625 3)] ∧ (Row 3 g7118 (y3608.2.1.length) c7119 cl7120 (flat eCm y3608.2.1)) ∧ F11j6 (F11l5 (F11l2 N y3608 y3621 m2) y3608 y3621 v6560 m5) v7101 v7122 = some r) ?_ ?_)))
            ·
             refine wp_block ?_
             refine wp_seq (gdE hF (fun h4763 hF => ?_))
             refine bindE hF (fun x7131 hx7132 hF => ?_)
             refine gdE hF (fun h4764 hF => ?_)
             refine ckE hF (fun h4765 hF => ?_)
             refine gdE hF (fun h4766 hF => ?_)
             refine gdE hF (fun h4767 hF => ?_)
             refine ckE hF (fun h4768 hF => ?_)
             refine ifE hF (fun h4769 hF => ?_) (fun h4769 hF => ?_)
             ·
              refine wp_drawn2 hI [0, 1, 2] (by decide) rfl (by kernel_rfl) (by kernel_rfl) ?_
              intro hsub
              refine alp 0 (.pointer (some ⟨b3614, 1, none⟩)) hsub rfl (by kernel_rfl) (fun _ => (by kernel_rfl)) ?_
              refine al_light 1 (slv g7096 y3608.2.1.length c7097) hsub rfl (by kernel_rfl) (fun w hI => s_load1 hI 0 (slv g7096 y3608.2.1.length c7097) Try.isAgg22 rfl rfl rfl ⟨rfl, Below.refl _ _⟩) ?_
              refine alp 2 (iv v6560) hsub rfl (by kernel_rfl) (fun _ => (by kernel_rfl)) ?_
              obtain ⟨b7135, rfl, he7136⟩ := r7099.at_ eCm_len (by decide) hx7132
              refine al_light 3 (.pointer (some ⟨b7135, (v6560).toNat * 3, none⟩)) hsub rfl (by kernel_rfl) (fun w hI => s_indexR (v6560).toNat Try.underlying22 Try.sizeOf26 rfl rfl (Int.toNat_of_nonneg h4763).symm (lt_n hx7132 rfl) ⟨rfl, Below.refl _ _⟩) ?_
              refine alp 4 (.pointer (some ⟨b7135, (v6560).toNat * 3 + 1, none⟩)) hsub rfl (by kernel_rfl) (fun _ => (by kernel_rfl)) ?_
              refine al_light 5 (iv x7131.hrs) hsub rfl (by kernel_rfl) (fun w hI => s_loadR1 hI 1 (iv x7131.hrs) Try.isAgg3 rfl rfl (he7136 1 _ rfl) ⟨rfl, Below.refl _ _⟩) ?_
              refine alp 6 (iv v7101) hsub rfl (by kernel_rfl) (fun _ => (by kernel_rfl)) ?_
              refine al_light 7 (iv ((1 : Int) * 2 ^ (v7101 : Int).toNat)) hsub rfl (by kernel_rfl) (fun w hI => s_shl rfl rfl h4764 h4765 ⟨rfl, Below.refl _ _⟩) ?_
              refine al_light 8 (iv (andI x7131.hrs ((1 : Int) * 2 ^ (v7101 : Int).toNat))) hsub rfl (by kernel_rfl) (fun w hI => s_and rfl rfl h4766 h4767 h4768 h4765 ⟨rfl, Below.refl _ _⟩) ?_
              refine al_light 9 (.bool false) hsub rfl (by kernel_rfl) (fun w hI => s_neq rfl rfl (fun h => absurd (a := (andI x7131.hrs ((1 : Int) * 2 ^ (v7101 : Int).toNat)) = 0) h4769 h) (fun _ => ⟨rfl, Below.refl _ _⟩)) ?_
              refine any_end (by kernel_rfl) (fun w hI => ?_)
              refine wp_condF rfl (wp_skip ?_)
              exact .inl ⟨rfl, ⟨some b7135, c7097, cl7098, v7100, ⟨rfl, rfl, rfl, rfl, rfl, trivial⟩, hI.pickL [0, 1, 2] (by decide) rfl, (r7099.to rfl rfl), hF⟩⟩
             ·
              refine wp_drawn2 hI [0, 1, 2] (by decide) rfl (by kernel_rfl) (by kernel_rfl) ?_
              intro hsub
              refine alp 0 (.pointer (some ⟨b3614, 1, none⟩)) hsub rfl (by kernel_rfl) (fun _ => (by kernel_rfl)) ?_
              refine al_light 1 (slv g7096 y3608.2.1.length c7097) hsub rfl (by kernel_rfl) (fun w hI => s_load1 hI 0 (slv g7096 y3608.2.1.length c7097) Try.isAgg22 rfl rfl rfl ⟨rfl, Below.refl _ _⟩) ?_
              refine alp 2 (iv v6560) hsub rfl (by kernel_rfl) (fun _ => (by kernel_rfl)) ?_
              obtain ⟨b7137, rfl, he7138⟩ := r7099.at_ eCm_len (by decide) hx7132
              refine al_light 3 (.pointer (some ⟨b7137, (v6560).toNat * 3, none⟩)) hsub rfl (by kernel_rfl) (fun w hI => s_indexR (v6560).toNat Try.underlying22 Try.sizeOf26 rfl rfl (Int.toNat_of_nonneg h4763).symm (lt_n hx7132 rfl) ⟨rfl, Below.refl _ _⟩) ?_
              refine alp 4 (.pointer (some ⟨b7137, (v6560).toNat * 3 + 1, none⟩)) hsub rfl (by kernel_rfl) (fun _ => (by kernel_rfl)) ?_
              refine al_light 5 (iv x7131.hrs) hsub rfl (by kernel_rfl) (fun w hI => s_loadR1 hI 1 (iv x7131.hrs) Try.isAgg3 rfl rfl (he7138 1 _ rfl) ⟨rfl, Below.refl _ _⟩) ?_
              refine alp 6 (iv v7101) hsub rfl (by kernel_rfl) (fun _ => (by kernel_rfl)) ?_
              refine al_light 7 (iv ((1 : Int) * 2 ^ (v7101 : Int).toNat)) hsub rfl (by kernel_rfl) (fun w hI => s_shl rfl rfl h4764 h4765 ⟨rfl, Below.refl _ _⟩) ?_
              refine al_light 8 (iv (andI x7131.hrs ((1 : Int) * 2 ^ (v7101 : Int).toNat))) hsub rfl (by kernel_rfl) (fun w hI => s_and rfl rfl h4766 h4767 h4768 h4765 ⟨rfl, Below.refl _ _⟩) ?_
              refine al_light 9 (.bool true) hsub rfl (by kernel_rfl) (fun w hI => s_neq rfl rfl (fun _ => ⟨rfl, Below.refl _ _⟩) (fun h => absurd (a := (andI x7131.hrs ((1 : Int) * 2 ^ (v7101 : Int).toNat)) = 0) h h4769)) ?_
              refine any_end (by kernel_rfl) (fun w hI => ?_)
              refine wp_condT rfl (rgn (by kernel_rfl) (pu (iv v7100) (by kernel_rfl) (ckE hF (fun h4770 hF => ?_))))
              refine seq_c (s_add rfl rfl h4770 ?_)
              refine pu (iv (v7100 + 1)) (by kernel_rfl) (seq_nil ?_)
              exact .inl ⟨rfl, ⟨some b7137, c7097, cl7098, v7100 + 1, ⟨rfl, rfl, rfl, rfl, rfl, trivial⟩, hI.pickL [0, 1, 2] (by decide) rfl, (r7099.to rfl rfl), hF⟩⟩
            ·intro ρ w hJ
             obtain ⟨g7118, c7119, cl7120, v7122, hag, hI, r7121, hF⟩ := hJ
             obtain ⟨ρ, rfl⟩ := hag.form; clear hag
             unfold F11j6 at hF
             refine rgn (by kernel_rfl) (pu (iv v7101) (by kernel_rfl) (ckE hF (fun h4755 hF => ?_)))
             refine seq_c (s_add rfl rfl h4755 ?_)
             refine pu (iv (v7101 + 1)) (by kernel_rfl) (seq_nil ?_)
             exact ⟨rfl, m5, Nat.lt_succ_self _, ⟨g7118, c7119, cl7120, v7122, v7101 + 1, m5, ⟨rfl, rfl, rfl, rfl, rfl, trivial⟩, hI.pickL [0, 1, 2] (by decide) rfl, (r7121.to rfl rfl), hF, rfl⟩⟩
           ·
            refine seq_c (s_lss rfl rfl (fun h => absurd (a := v7101 < y3608.1) h h4739) (fun _ => ?_))
            refine seq_nil (wp_condF rfl (wp_exit ?_))
            exact .inl ⟨rfl, ⟨g7096, c7097, cl7098, v7100, ⟨rfl, rfl, rfl, rfl, trivial⟩, hI.pickL [0, 1, 2] (by decide) rfl, (r7099.to rfl rfl), hF⟩⟩
          ·intro ρ w hJ
           obtain ⟨g6975, c6976, cl6977, v6979, hag, hI, r6978, hF⟩ := hJ
           obtain ⟨ρ, rfl⟩ := hag.form; clear hag
           unfold F11j4 at hF
           refine wp_seq (gdE hF (fun h4670 hF => ?_))
           refine bindE hF (fun x7000 hx7001 hF => ?_)
           refine bindE hF (fun x7003 hx7004 hF => ?_)
           refine ifE hF (fun h4671 hF => ?_) (fun h4671 hF => ?_)
           ·
            refine wp_drawn2 hI [0, 1, 2] (by decide) rfl (by kernel_rfl) (by kernel_rfl) ?_
            intro hsub
            refine alp 0 (slv (some b3633) y3621.1.length c3624) hsub rfl (by kernel_rfl) (fun _ => (by kernel_rfl)) ?_
            refine alp 1 (iv v6560) hsub rfl (by kernel_rfl) (fun _ => (by kernel_rfl)) ?_
            have he7007 := r3626.atS eInt_len (by decide) hx7001
            refine al_light 2 (.pointer (some ⟨b3633, (v6560).toNat * 1, none⟩)) hsub rfl (by kernel_rfl) (fun w hI => s_indexR (v6560).toNat Try.underlying49 Try.sizeOf3 rfl rfl (Int.toNat_of_nonneg h4670).symm (lt_n hx7001 rfl) ⟨rfl, Below.refl _ _⟩) ?_
            refine al_light 3 (iv x7000) hsub rfl (by kernel_rfl) (fun w hI => s_loadR1 hI 2 (iv x7000) Try.isAgg3 rfl rfl (he7007 0 _ rfl) ⟨rfl, Below.refl _ _⟩) ?_
            refine alp 4 (.pointer (some ⟨b3614, 1, none⟩)) hsub rfl (by kernel_rfl) (fun _ => (by kernel_rfl)) ?_
            refine al_light 5 (slv g6975 y3608.2.1.length c6976) hsub rfl (by kernel_rfl) (fun w hI => s_load1 hI 0 (slv g6975 y3608.2.1.length c6976) Try.isAgg22 rfl rfl rfl ⟨rfl, Below.refl _ _⟩) ?_
            refine alp 6 (iv v6560) hsub rfl (by kernel_rfl) (fun _ => (by kernel_rfl)) ?_
            obtain ⟨b7008, rfl, he7009⟩ := r6978.at_ eCm_len (by decide) hx7004
            refine al_light 7 (.pointer (some ⟨b7008, (v6560).toNat * 3, none⟩)) hsub rfl (by kernel_rfl) (fun w hI => s_indexR (v6560).toNat Try.underlying22 Try.sizeOf26 rfl rfl (Int.toNat_of_nonneg h4670).symm (lt_n hx7004 rfl) ⟨rfl, Below.refl _ _⟩) ?_
            refine alp 8 (.pointer (some ⟨b7008, (v6560).toNat * 3 + 2, none⟩)) hsub rfl (by kernel_rfl) (fun _ => (by kernel_rfl)) ?_
            refine al_light 9 (iv x7003.wants) hsub rfl (by kernel_rfl) (fun w hI => s_loadR1 hI 1 (iv x7003.wants) Try.isAgg3 rfl rfl (he7009 2 _ rfl) ⟨rfl, Below.refl _ _⟩) ?_
            refine al_light 10 (.bool true) hsub rfl (by kernel_rfl) (fun w hI => s_gtr rfl rfl (fun _ => ⟨rfl, Below.refl _ _⟩) (fun h => absurd (a := x7003.wants < x7000) h4671 h)) ?_
            refine alp 11 (.bool true) hsub rfl (by kernel_rfl) (fun _ => (by kernel_rfl)) ?_
            refine al_off 12 hsub rfl (by kernel_rfl) (by kernel_rfl) ?_
            refine al_off 13 hsub rfl (by kernel_rfl) (by kernel_rfl) ?_
            refine al_off 14 hsub rfl (by kernel_rfl) (by kernel_rfl) ?_
            refine al_off 15 hsub rfl (by kernel_rfl) (by kernel_rfl) ?_
            refine al_off 16 hsub rfl (by kernel_rfl) (by kernel_rfl) ?_
            refine al_off 17 hsub rfl (by kernel_rfl) (by kernel_rfl) ?_
            refine alp 18 (.bool true) hsub rfl (by kernel_rfl) (fun _ => (by kernel_rfl)) ?_
            refine any_end (by kernel_rfl) (fun w hI => ?_)
            refine wp_condT rfl (wp_seq (rgn (by kernel_rfl) (pu (.bool false) (by kernel_rfl) (seq_nil (wp_ret ?_)))))
            replace hF := Option.some.inj hF; subst hF
            exact ⟨.bool false, Ret.r1 rfl rfl, ⟨rfl, hI.below⟩⟩
           ·
            refine ifE hF (fun h4672 hF => ?_) (fun h4672 hF => ?_)
            ·
             refine wp_drawn2 hI [0, 1, 2] (by decide) rfl (by kernel_rfl) (by kernel_rfl) ?_
             intro hsub
             refine alp 0 (slv (some b3633) y3621.1.length c3624) hsub rfl (by kernel_rfl) (fun _ => (by kernel_rfl)) ?_
             refine alp 1 (iv v6560) hsub rfl (by kernel_rfl) (fun _ => (by kernel_rfl)) ?_
             have he7010 := r3626.atS eInt_len (by decide) hx7001
             refine al_light 2 (.pointer (some ⟨b3633, (v6560).toNat * 1, none⟩)) hsub rfl (by kernel_rfl) (fun w hI => s_indexR (v6560).toNat Try.underlying49 Try.sizeOf3 rfl rfl (Int.toNat_of_nonneg h4670).symm (lt_n hx7001 rfl) ⟨rfl, Below.refl _ _⟩) ?_
             refine al_light 3 (iv x7000) hsub rfl (by kernel_rfl) (fun w hI => s_loadR1 hI 2 (iv x7000) Try.isAgg3 rfl rfl (he7010 0 _ rfl) ⟨rfl, Below.refl _ _⟩) ?_
             refine alp 4 (.pointer (some ⟨b3614, 1, none⟩)) hsub rfl (by kernel_rfl) (fun _ => (by kernel_rfl)) ?_
             refine al_light 5 (slv g6975 y3608.2.1.length c6976) hsub rfl (by kernel_rfl) (fun w hI => s_load1 hI 0 (slv g6975 y3608.2.1.length c6976) Try.isAgg22 rfl rfl rfl ⟨rfl, Below.refl _ _⟩) ?_
             refine alp 6 (iv v6560) hsub rfl (by kernel_rfl) (fun _ => (by kernel_rfl)) ?_
             obtain ⟨b7011, rfl, he7012⟩ := r6978.at_ eCm_len (by decide) hx7004
             refine al_light 7 (.pointer (some ⟨b7011, (v6560).toNat * 3, none⟩)) hsub rfl (by kernel_rfl) (fun w hI => s_indexR (v6560).toNat Try.underlying22 Try.sizeOf26 rfl rfl (Int.toNat_of_nonneg h4670).symm (lt_n hx7004 rfl) ⟨rfl, Below.refl _ _⟩) ?_
             refine alp 8 (.pointer (some ⟨b7011, (v6560).toNat * 3 + 2, none⟩)) hsub rfl (by kernel_rfl) (fun _ => (by kernel_rfl)) ?_
             refine al_light 9 (iv x7003.wants) hsub rfl (by kernel_rfl) (fun w hI => s_loadR1 hI 1 (iv x7003.wants) Try.isAgg3 rfl rfl (he7012 2 _ rfl) ⟨rfl, Below.refl _ _⟩) ?_
             refine al_light 10 (.bool false) hsub rfl (by kernel_rfl) (fun w hI => s_gtr rfl rfl (fun h => absurd (a := x7003.wants < x7000) h h4671) (fun _ => ⟨rfl, Below.refl _ _⟩)) ?_
             refine alp 11 (.bool false) hsub rfl (by kernel_rfl) (fun _ => (by kernel_rfl)) ?_
             refine al_on 12 (slv (some b3633) y3621.1.length c3624) hsub rfl (by kernel_rfl) (by kernel_rfl) (fun w hI => s_pure (slv (some b3633) y3621.1.length c3624) (by kernel_rfl) ⟨rfl, Below.refl _ _⟩) ?_
             refine al_on 13 (iv v6560) hsub rfl (by kernel_rfl) (by kernel_rfl) (fun w hI => s_pure (iv v6560) (by kernel_rfl) ⟨rfl, Below.refl _ _⟩) ?_
             refine al_on 14 (.pointer (some ⟨b3633, (v6560).toNat * 1, none⟩)) hsub rfl (by kernel_rfl) (by kernel_rfl) (fun w hI => s_indexR (v6560).toNat Try.underlying49 Try.sizeOf3 rfl rfl (Int.toNat_of_nonneg h4670).symm (lt_n hx7001 rfl) ⟨rfl, Below.refl _ _⟩) ?_
             refine al_on 15 (iv x7000) hsub rfl (by kernel_rfl) (by kernel_rfl) (fun w hI => s_loadR1 hI 2 (iv x7000) Try.isAgg3 rfl rfl (he7010 0 _ rfl) ⟨rfl, Below.refl _ _⟩) ?_
             refine al_on 16 (iv v6979) hsub rfl (by kernel_rfl) (by kernel_rfl) (fun w hI => s_pure (iv v6979) (by kernel_rfl) ⟨rfl, Below.refl _ _⟩) ?_
             refine al_on 17 (.bool true) hsub rfl (by kernel_rfl) (by kernel_rfl) (fun w hI => s_gtr rfl rfl (fun _ => ⟨rfl, Below.refl _ _⟩) (fun h => absurd (a := v6979 < x7000) h4672 h)) ?_
             refine alp 18 (.bool true) hsub rfl (by kernel_rfl) (fun _ => (by kernel_rfl)) ?_
             refine any_end (by kernel_rfl) (fun w hI => ?_)
             refine wp_condT rfl (wp_seq (rgn (by kernel_rfl) (pu (.bool false) (by kernel_rfl) (seq_nil (wp_ret ?_)))))
             replace hF := Option.some.inj hF; subst hF
             exact ⟨.bool false, Ret.r1 rfl rfl, ⟨rfl, hI.below⟩⟩
            ·
             refine wp_drawn2 hI [0, 1, 2] (by decide) rfl (by kernel_rfl) (by kernel_rfl) ?_
             intro hsub
             refine alp 0 (slv (some b3633) y3621.1.length c3624) hsub rfl (by kernel_rfl) (fun _ => (by kernel_rfl)) ?_
             refine alp 1 (iv v6560) hsub rfl (by kernel_rfl) (fun _ => (by kernel_rfl)) ?_
             have he7013 := r3626.atS eInt_len (by decide) hx7001
             refine al_light 2 (.pointer (some ⟨b3633, (v6560).toNat * 1, none⟩)) hsub rfl (by kernel_rfl) (fun w hI => s_indexR (v6560).toNat Try.underlying49 Try.sizeOf3 rfl rfl (Int.toNat_of_nonneg h4670).symm (lt_n hx7001 rfl) ⟨rfl, Below.refl _ _⟩) ?_
             refine al_light 3 (iv x7000) hsub rfl (by kernel_rfl) (fun w hI => s_loadR1 hI 2 (iv x7000) Try.isAgg3 rfl rfl (he7013 0 _ rfl) ⟨rfl, Below.refl _ _⟩) ?_
             refine alp 4 (.pointer (some ⟨b3614, 1, none⟩)) hsub rfl (by kernel_rfl) (fun _ => (by kernel_rfl)) ?_
             refine al_light 5 (slv g6975 y3608.2.1.length c6976) hsub rfl (by kernel_rfl) (fun w hI => s_load1 hI 0 (slv g6975 y3608.2.1.length c6976) Try.isAgg22 rfl rfl rfl ⟨rfl, Below.refl _ _⟩) ?_
             refine alp 6 (iv v6560) hsub rfl (by kernel_rfl) (fun _ => (by kernel_rfl)) ?_
             obtain ⟨b7014, rfl, he7015⟩ := r6978.at_ eCm_len (by decide) hx7004
             refine al_light 7 (.pointer (some ⟨b7014, (v6560).toNat * 3, none⟩)) hsub rfl (by kernel_rfl) (fun w hI => s_indexR (v6560).toNat Try.underlying22 Try.sizeOf26 rfl rfl (Int.toNat_of_nonneg h4670).symm (lt_n hx7004 rfl) ⟨rfl, Below.refl _ _⟩) ?_
             refine alp 8 (.pointer (some ⟨b7014, (v6560).toNat * 3 + 2, none⟩)) hsub rfl (by kernel_rfl) (fun _ => (by kernel_rfl)) ?_
             refine al_light 9 (iv x7003.wants) hsub rfl (by kernel_rfl) (fun w hI => s_loadR1 hI 1 (iv x7003.wants) Try.isAgg3 rfl rfl (he7015 2 _ rfl) ⟨rfl, Below.refl _ _⟩) ?_
             refine al_light 10 (.bool false) hsub rfl (by kernel_rfl) (fun w hI => s_gtr rfl rfl (fun h => absurd (a := x7003.wants < x7000) h h4671) (fun _ => ⟨rfl, Below.refl _ _⟩)) ?_
             refine alp 11 (.bool false) hsub rfl (by kernel_rfl) (fun _ => (by kernel_rfl)) ?_
             refine al_on 12 (slv (some b3633) y3621.1.length c3624) hsub rfl (by kernel_rfl) (by kernel_rfl) (fun w hI => s_pure (slv (some b3633) y3621.1.length c3624) (by kernel_rfl) ⟨rfl, Below.refl _ _⟩) ?_
             refine al_on 13 (iv v6560) hsub rfl (by kernel_rfl) (by kernel_rfl) (fun w hI => s_pure (iv v6560) (by kernel_rfl) ⟨rfl, Below.refl _ _⟩) ?_
             refine al_on 14 (.pointer (some ⟨b3633, (v6560).toNat * 1, none⟩)) hsub rfl (by kernel_rfl) (by kernel_rfl) (fun w hI => s_indexR (v6560).toNat Try.underlying49 Try.sizeOf3 rfl rfl (Int.toNat_of_nonneg h4670).symm (lt_n hx7001 rfl) ⟨rfl, Below.refl _ _⟩) ?_
             refine al_on 15 (iv x7000) hsub rfl (by kernel_rfl) (by kernel_rfl) (fun w hI => s_loadR1 hI 2 (iv x7000) Try.isAgg3 rfl rfl (he7013 0 _ rfl) ⟨rfl, Below.refl _ _⟩) ?_
             refine al_on 16 (iv v6979) hsub rfl (by kernel_rfl) (by kernel_rfl) (fun w hI => s_pure (iv v6979) (by kernel_rfl) ⟨rfl, Below.refl _ _⟩) ?_
             refine al_on 17 (.bool false) hsub rfl (by kernel_rfl) (by kernel_rfl) (fun w hI => s_gtr rfl rfl (fun h => absurd (a := v6979 < x7000) h h4672) (fun _ => ⟨rfl, Below.refl _ _⟩)) ?_
             refine alp 18 (.bool false) hsub rfl (by kernel_rfl) (fun _ => (by kernel_rfl)) ?_
             refine any_end (by kernel_rfl) (fun w hI => ?_)
             refine wp_condF rfl (wp_skip ?_)
             exact .inl ⟨rfl, ⟨some b7014, c6976, cl6977, ⟨rfl, rfl, rfl, trivial⟩, hI.pickL [0, 1, 2] (by decide) rfl, (r6978.to rfl rfl), hF⟩⟩
         ·intro ρ w hJ
          obtain ⟨g6848, c6849, cl6850, hag, hI, r6851, hF⟩ := hJ
          obtain ⟨ρ, rfl⟩ := hag.form; clear hag
          unfold F11j3 at hF
          refine rgn (by kernel_rfl) (pu (iv v6560) (by kernel_rfl) (ckE hF (fun h4568 hF => ?_)))
          refine seq_c (s_add rfl rfl h4568 ?_)
          refine pu (iv (v6560 + 1)) (by kernel_rfl) (seq_nil ?_)
          exact ⟨rfl, m2, Nat.lt_succ_self _, ⟨g6848, c6849, cl6850, v6560 + 1, m2, ⟨rfl, rfl, rfl, trivial⟩, hI.pickL [0, 1, 2] (by decide) rfl, (r6851.to rfl rfl), hF, rfl⟩⟩
        ·
         refine seq_c (s_lss rfl rfl (fun h => absurd (a := v6560 < (y3621.1.length : Int)) h h4365) (fun _ => ?_))
         refine seq_nil (wp_condF rfl (wp_exit ?_))
         exact .inl ⟨rfl, ⟨trivial, hI.pickL [] (by decide) rfl, hF⟩⟩
       ·intro ρ w hJ
        obtain ⟨hag, hI, hF⟩ := hJ
        obtain ⟨ρ, rfl⟩ := hag.form; clear hag
        unfold F11j1 at hF
        refine wp_seq (rgn (by kernel_rfl) (bindE hF (fun y5393 hy5394 hF => ?_)))
        refine seq_c (s_callv hI 25 [] (.bool y5393) (by kernel_rfl) (L25 _ N _ hy5394) ?_)
        intro w hI
        refine pu (.bool y5393) (by kernel_rfl) (seq_nil (wp_ret ?_))
        replace hF := Option.some.inj hF; subst hF
        exact ⟨.bool y5393, Ret.r1 rfl rfl, ⟨rfl, hI.below⟩⟩
    ·
     refine seq_on (by kernel_rfl) (s_neq rfl rfl (fun _ => ?_) (fun h => absurd (a := (y3621.1.length : Int) = ((y3577.2.length : Int) + 1)) h h2406))
     refine pu (.bool true) (by kernel_rfl) (seq_nil (wp_condT rfl (wp_seq (rgn (by kernel_rfl) (pu (.bool false) (by kernel_rfl) (seq_nil (wp_ret ?_)))))))
     replace hF := Option.some.inj hF; subst hF
     exact ⟨.bool false, Ret.r1 rfl rfl, ⟨rfl, hI.below⟩⟩
   ·
    refine seq_on (by kernel_rfl) (s_neq rfl rfl (fun _ => ?_) (fun h => absurd (a := y3621.2 = 0) h h2404))
    refine pu (.bool true) (by kernel_rfl) (pu (.bool true) (by kernel_rfl) (of_ (by kernel_rfl) (of_ (by kernel_rfl) (of_ (by kernel_rfl) (of_ (by kernel_rfl) (of_ (by kernel_rfl) (of_ (by kernel_rfl) (of_ (by kernel_rfl) (pu (.bool true) (by kernel_rfl) ?_)))))))))
    refine seq_nil (wp_condT rfl (wp_seq (rgn (by kernel_rfl) (pu (.bool false) (by kernel_rfl) (seq_nil (wp_ret ?_))))))
    replace hF := Option.some.inj hF; subst hF
    exact ⟨.bool false, Ret.r1 rfl rfl, ⟨rfl, hI.below⟩⟩
  ·
   refine seq_c (s_neq rfl rfl (fun _ => ?_) (fun h => absurd (a := y3608.2.2 = 0) h h2403))
   refine pu (.bool true) (by kernel_rfl) (of_ (by kernel_rfl) (of_ (by kernel_rfl) (pu (.bool true) (by kernel_rfl) (pu (.bool true) (by kernel_rfl) (of_ (by kernel_rfl) (of_ (by kernel_rfl) (of_ (by kernel_rfl) (of_ (by kernel_rfl) (of_ (by kernel_rfl) ?_)))))))))
   refine of_ (by kernel_rfl) (of_ (by kernel_rfl) (pu (.bool true) (by kernel_rfl) (seq_nil (wp_condT rfl (wp_seq (rgn (by kernel_rfl) (pu (.bool false) (by kernel_rfl) (seq_nil (wp_ret ?_)))))))))
   replace hF := Option.some.inj hF; subst hF
   exact ⟨.bool false, Ret.r1 rfl rfl, ⟨rfl, hI.below⟩⟩


end Go.K
