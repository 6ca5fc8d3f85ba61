/- That the functions do what the pure definitions say: walks, as tools/lift.py writes them. No condition. -/
import Derived.Test.YtkmnjiejlgoglaaPWb
namespace Go.K
open Go.Proofs Go.RowKit
set_option linter.unusedVariables false
set_option maxRecDepth 100000
attribute [local irreducible] Seq Step CallV AnyE opX
theorem L16 (w0 : World) (Ap0_0 : Option Addr) (cp0_0 : Nat) (lp0_0 : List Ch) (Ap0_1 : Option Addr) (cp0_1 : Nat) (lp0_1 : List Ce) (hCp0_0 : Cells w0 Ap0_0 (flat eCh lp0_0)) (hMp0_0 : lp0_0.length ≤ 9223372036854775807) (hKp0_0 : lp0_0.length ≤ cp0_0) (hCp0_1 : Cells w0 Ap0_1 (flat eCe lp0_1)) (hMp0_1 : lp0_1.length ≤ 9223372036854775807) (hKp0_1 : lp0_1.length ≤ cp0_1) (N : Nat) (r : Int) (hF : F16 N lp0_0 lp0_1 = some r) : Does Try.prog 16 [.agg #[.slice Ap0_0 lp0_0.length cp0_0, .slice Ap0_1 lp0_1.length cp0_1]] w0 fun v w => v = .int .i64 r ∧ Below w0.heap.size w0 w := by
 refine calls_of (n := 76) Try.func16 rfl Try.ntmps16 rfl ?_
 have hI := Inv.start w0
 unfold F16 at hF
 refine wp_seq (rgn (by kernel_rfl) (seq_c (s_boxI hI [.slice Ap0_0 lp0_0.length cp0_0, .slice Ap0_1 lp0_1.length cp0_1] rfl ?_)))
 intro b1538 w hI
 refine pu (iv 0) (by kernel_rfl) (seq_nil (wp_seq (wp_seq (rgn (by kernel_rfl) (pu (.pointer (some ⟨b1538, 0, none⟩)) (by kernel_rfl) (seq_c (s_load1 hI 0 (.slice Ap0_0 lp0_0.length cp0_0) Try.isAgg22 rfl rfl rfl ?_)))))))
 refine pu (iv ((lp0_0.length : Nat) : Int)) (by kernel_rfl) (bindE hF (fun y1551 hy1552 hF => ?_))
 refine ifE hF (fun h239 hF => ?_) (fun h239 hF => ?_)
 ·
  refine seq_c (s_callv hI 61 [iv (lp0_0.length : Int), iv 1, iv 6] (.bool true) (by kernel_rfl) (Does.mono (L61 _ (lp0_0.length : Int) 1 6 _ hy1552) (fun v' w' h => ⟨h.1.trans (congrArg Value.bool h239), h.2⟩)) ?_)
  intro w hI
  refine pu (.bool false) (by kernel_rfl) (pu (.bool false) (by kernel_rfl) (puo (.pointer (some ⟨b1538, 1, none⟩)) ⟨(by kernel_rfl), (by kernel_rfl)⟩ (seq_on (by kernel_rfl) (s_load1 hI 0 (.slice Ap0_1 lp0_1.length cp0_1) Try.isAgg23 rfl rfl rfl ?_))))
  refine puo (iv ((lp0_1.length : Nat) : Int)) ⟨(by kernel_rfl), (by kernel_rfl)⟩ (bindE hF (fun y1553 hy1554 hF => ?_))
  refine ifE hF (fun h240 hF => ?_) (fun h240 hF => ?_)
  ·
   refine seq_on (by kernel_rfl) (s_callv hI 61 [iv (lp0_1.length : Int), iv 1, iv 24] (.bool true) (by kernel_rfl) (Does.mono (L61 _ (lp0_1.length : Int) 1 24 _ hy1554) (fun v' w' h => ⟨h.1.trans (congrArg Value.bool h240), h.2⟩)) ?_)
   intro w hI
   refine puo (.bool false) ⟨(by kernel_rfl), (by kernel_rfl)⟩ (pu (.bool false) (by kernel_rfl) (seq_nil (wp_condF rfl (wp_skip (wp_cutO (fun ρ w => Agree ρ [(1, .pointer (some ⟨b1538, 0, none⟩))] ∧ Inv [] w0 w [(some b1538, blk [.slice Ap0_0 lp0_0.length cp0_0, .slice Ap0_1 lp0_1.length cp0_1] 25)] ∧ F16j1 lp0_0 lp0_1 N = some r) ?_ ?_)))))
   ·
    refine wp_seq (rgn (by kernel_rfl) (pu (iv 0) (by kernel_rfl) (seq_nil (wp_block ?_))))
    refine wp_loop (fun m ρ w => ∃ (v2890 : Int) (mm : Nat), Agree ρ [(1, .pointer (some ⟨b1538, 0, none⟩)), (3, iv v2890)] ∧ Inv [] w0 w [(some b1538, blk [.slice Ap0_0 lp0_0.length cp0_0, .slice Ap0_1 lp0_1.length cp0_1] 25)] ∧ F16l3 lp0_0 lp0_1 N mm v2890 = some r ∧ mm = m) (m := N) ⟨0, N, ⟨rfl, rfl, trivial⟩, hI.pickL [0] (by decide) rfl, hF, rfl⟩ ?_
    rintro m ρ w ⟨v2890, mm, hag, hI, hF, hm⟩
    subst hm; obtain ⟨ρ, rfl⟩ := hag.form; clear hag
    obtain _ | m3 := mm
    ·cases (show (none : Option Int) = some r from hF)
    replace hF : F16b3 lp0_0 lp0_1 N (F16l3 lp0_0 lp0_1 N m3) v2890 = some r := hF; unfold F16b3 at hF
    refine wp_seq (wp_seq (rgn (by kernel_rfl) (pu (iv v2890) (by kernel_rfl) (pu (.pointer (some ⟨b1538, 0, none⟩)) (by kernel_rfl) (seq_c (s_load1 hI 0 (.slice Ap0_0 lp0_0.length cp0_0) Try.isAgg22 rfl rfl rfl ?_))))))
    refine pu (iv ((lp0_0.length : Nat) : Int)) (by kernel_rfl) (ifE hF (fun h439 hF => ?_) (fun h439 hF => ?_))
    ·
     refine seq_c (s_lss rfl rfl (fun _ => ?_) (fun h => absurd (a := v2890 < (lp0_0.length : Int)) h439 h))
     refine seq_nil (wp_condT rfl (wp_skip (wp_seq (wp_block ?_))))
     refine wp_cutO (fun ρ w => Agree ρ [(1, .pointer (some ⟨b1538, 0, none⟩)), (3, iv v2890), (50, .bool false)] ∧ Inv [] w0 w [(some b1538, blk [.slice Ap0_0 lp0_0.length cp0_0, .slice Ap0_1 lp0_1.length cp0_1] 25)] ∧ F16j4 (F16l3 lp0_0 lp0_1 N m3) v2890 = some r) ?_ ?_
     ·
      refine gdE hF (fun h459 hF => ?_)
      refine bindE hF (fun x3029 hx3030 hF => ?_)
      refine bindE hF (fun y3036 hy3037 hF => ?_)
      refine ifE hF (fun h460 hF => ?_) (fun h460 hF => ?_)
      ·
       refine ifE hF (fun h461 hF => ?_) (fun h461 hF => ?_)
       ·
        refine ckE hF (fun h462 hF => ?_)
        refine gdE hF (fun h463 hF => ?_)
        refine bindE hF (fun x3038 hx3039 hF => ?_)
        refine ifE hF (fun h464 hF => ?_) (fun h464 hF => ?_)
        ·
         refine wp_drawn2 hI [0] (by decide) rfl (by kernel_rfl) (by kernel_rfl) ?_
         intro hsub
         refine alp 0 (.pointer (some ⟨b1538, 0, none⟩)) hsub rfl (by kernel_rfl) (fun _ => (by kernel_rfl)) ?_
         refine al_light 1 (.slice Ap0_0 lp0_0.length cp0_0) hsub rfl (by kernel_rfl) (fun w hI => s_load1 hI 0 (.slice Ap0_0 lp0_0.length cp0_0) Try.isAgg22 rfl rfl rfl ⟨rfl, Below.refl _ _⟩) ?_
         refine alp 2 (iv v2890) hsub rfl (by kernel_rfl) (fun _ => (by kernel_rfl)) ?_
         obtain ⟨b3045, o3046, hA3047, hb3048, he3049⟩ := hCp0_0.at_ eCh_len (by decide) hx3030
         refine al_light 3 (.pointer (some ⟨b3045, o3046 + (v2890).toNat * 3, none⟩)) hsub rfl (by kernel_rfl) (fun w hI => s_indexA (v2890).toNat Try.underlying22 Try.sizeOf30 rfl hA3047 rfl (Int.toNat_of_nonneg h459).symm (lt_n hx3030 rfl) ⟨rfl, Below.refl _ _⟩) ?_
         refine al_light 4 (.agg #[iv x3029.id, iv x3029.lo, iv x3029.hi]) hsub rfl (by kernel_rfl) (fun w hI => s_loadBK hI [iv x3029.id, iv x3029.lo, iv x3029.hi] Try.isAgg30 Try.sizeOf30 rfl rfl hb3048 (by simp) he3049 ⟨rfl, Below.refl _ _⟩) ?_
         refine al_light 5 (iv y3036) hsub rfl (by kernel_rfl) (fun w hI => s_call 20 [.agg #[iv x3029.id, iv x3029.lo, iv x3029.hi]] (by kernel_rfl) (L20 _ x3029 _ hy3037) (fun v' w' h => h)) ?_
         refine al_light 6 (.bool false) hsub rfl (by kernel_rfl) (fun w hI => s_neq rfl rfl (fun h => absurd (a := y3036 = 0) h460 h) (fun _ => ⟨rfl, Below.refl _ _⟩)) ?_
         refine alp 7 (.bool false) hsub rfl (by kernel_rfl) (fun _ => (by kernel_rfl)) ?_
         refine al_on 8 (iv v2890) hsub rfl (by kernel_rfl) (by kernel_rfl) (fun w hI => s_pure (iv v2890) (by kernel_rfl) ⟨rfl, Below.refl _ _⟩) ?_
         refine al_on 9 (.bool true) hsub rfl (by kernel_rfl) (by kernel_rfl) (fun w hI => s_gtr rfl rfl (fun _ => ⟨rfl, Below.refl _ _⟩) (fun h => absurd (a := 0 < v2890) h461 h)) ?_
         refine al_on 10 (.bool true) hsub rfl (by kernel_rfl) (by kernel_rfl) (fun w hI => s_pure (.bool true) (by kernel_rfl) ⟨rfl, Below.refl _ _⟩) ?_
         refine al_on 11 (.pointer (some ⟨b1538, 0, none⟩)) hsub rfl (by kernel_rfl) (by kernel_rfl) (fun w hI => s_pure (.pointer (some ⟨b1538, 0, none⟩)) (by kernel_rfl) ⟨rfl, Below.refl _ _⟩) ?_
         refine al_on 12 (.slice Ap0_0 lp0_0.length cp0_0) hsub rfl (by kernel_rfl) (by kernel_rfl) (fun w hI => s_load1 hI 0 (.slice Ap0_0 lp0_0.length cp0_0) Try.isAgg22 rfl rfl rfl ⟨rfl, Below.refl _ _⟩) ?_
         refine al_on 13 (iv v2890) hsub rfl (by kernel_rfl) (by kernel_rfl) (fun w hI => s_pure (iv v2890) (by kernel_rfl) ⟨rfl, Below.refl _ _⟩) ?_
         refine al_on 14 (iv (v2890 - 1)) hsub rfl (by kernel_rfl) (by kernel_rfl) (fun w hI => s_sub rfl rfl h462 ⟨rfl, Below.refl _ _⟩) ?_
         obtain ⟨b3050, o3051, hA3052, hb3053, he3054⟩ := hCp0_0.at_ eCh_len (by decide) hx3039
         refine al_on 15 (.pointer (some ⟨b3050, o3051 + ((v2890 - 1).toNat) * 3, none⟩)) hsub rfl (by kernel_rfl) (by kernel_rfl) (fun w hI => s_indexA ((v2890 - 1).toNat) Try.underlying22 Try.sizeOf30 rfl hA3052 rfl (Int.toNat_of_nonneg h463).symm (lt_n hx3039 rfl) ⟨rfl, Below.refl _ _⟩) ?_
         refine al_on 16 (.pointer (some ⟨b3050, o3051 + ((v2890 - 1).toNat) * 3, none⟩)) hsub rfl (by kernel_rfl) (by kernel_rfl) (fun w hI => s_pure (.pointer (some ⟨b3050, o3051 + ((v2890 - 1).toNat) * 3, none⟩)) (by kernel_rfl) ⟨rfl, Below.refl _ _⟩) ?_
         refine al_on 17 (iv x3038.id) hsub rfl (by kernel_rfl) (by kernel_rfl) (fun w hI => s_loadB1 hI (iv x3038.id) Try.isAgg3 rfl hb3053 (by simp) (he3054 0 _ rfl) ⟨rfl, Below.refl _ _⟩) ?_
         refine al_on 18 (.pointer (some ⟨b1538, 0, none⟩)) hsub rfl (by kernel_rfl) (by kernel_rfl) (fun w hI => s_pure (.pointer (some ⟨b1538, 0, none⟩)) (by kernel_rfl) ⟨rfl, Below.refl _ _⟩) ?_
         refine al_on 19 (.slice Ap0_0 lp0_0.length cp0_0) hsub rfl (by kernel_rfl) (by kernel_rfl) (fun w hI => s_load1 hI 0 (.slice Ap0_0 lp0_0.length cp0_0) Try.isAgg22 rfl rfl rfl ⟨rfl, Below.refl _ _⟩) ?_
         refine al_on 20 (iv v2890) hsub rfl (by kernel_rfl) (by kernel_rfl) (fun w hI => s_pure (iv v2890) (by kernel_rfl) ⟨rfl, Below.refl _ _⟩) ?_
         refine al_on 21 (.pointer (some ⟨b3045, o3046 + (v2890).toNat * 3, none⟩)) hsub rfl (by kernel_rfl) (by kernel_rfl) (fun w hI => s_indexA (v2890).toNat Try.underlying22 Try.sizeOf30 rfl hA3047 rfl (Int.toNat_of_nonneg h459).symm (lt_n hx3030 rfl) ⟨rfl, Below.refl _ _⟩) ?_
         refine al_on 22 (.pointer (some ⟨b3045, o3046 + (v2890).toNat * 3, none⟩)) hsub rfl (by kernel_rfl) (by kernel_rfl) (fun w hI => s_pure (.pointer (some ⟨b3045, o3046 + (v2890).toNat * 3, none⟩)) (by kernel_rfl) ⟨rfl, Below.refl _ _⟩) ?_
         refine al_on 23 (iv x3029.id) hsub rfl (by kernel_rfl) (by kernel_rfl) (fun w hI => s_loadB1 hI (iv x3029.id) Try.isAgg3 rfl hb3048 (by simp) (he3049 0 _ rfl) ⟨rfl, Below.refl _ _⟩) ?_
         refine al_on 24 (.bool true) hsub rfl (by kernel_rfl) (by kernel_rfl) (fun w hI => s_geq rfl rfl (fun _ => ⟨rfl, Below.refl _ _⟩) (fun h => absurd (a := x3029.id ≤ x3038.id) h464 h)) ?_
         refine al_on 25 (.bool true) hsub rfl (by kernel_rfl) (by kernel_rfl) (fun w hI => s_pure (.bool true) (by kernel_rfl) ⟨rfl, Below.refl _ _⟩) ?_
         refine alp 26 (.bool true) hsub rfl (by kernel_rfl) (fun _ => (by kernel_rfl)) ?_
         refine any_end (by kernel_rfl) (fun w hI => ?_)
         refine .inr ?_
         refine wp_condT rfl (wp_seq (rgn (by kernel_rfl) (pu (iv 42) (by kernel_rfl) (seq_nil (wp_ret ?_)))))
         replace hF := Option.some.inj hF; subst hF
         exact ⟨iv 42, Ret.r1 rfl rfl, ⟨rfl, hI.below⟩⟩
        ·
         refine wp_drawn2 hI [0] (by decide) rfl (by kernel_rfl) (by kernel_rfl) ?_
         intro hsub
         refine alp 0 (.pointer (some ⟨b1538, 0, none⟩)) hsub rfl (by kernel_rfl) (fun _ => (by kernel_rfl)) ?_
         refine al_light 1 (.slice Ap0_0 lp0_0.length cp0_0) hsub rfl (by kernel_rfl) (fun w hI => s_load1 hI 0 (.slice Ap0_0 lp0_0.length cp0_0) Try.isAgg22 rfl rfl rfl ⟨rfl, Below.refl _ _⟩) ?_
         refine alp 2 (iv v2890) hsub rfl (by kernel_rfl) (fun _ => (by kernel_rfl)) ?_
         obtain ⟨b3055, o3056, hA3057, hb3058, he3059⟩ := hCp0_0.at_ eCh_len (by decide) hx3030
         refine al_light 3 (.pointer (some ⟨b3055, o3056 + (v2890).toNat * 3, none⟩)) hsub rfl (by kernel_rfl) (fun w hI => s_indexA (v2890).toNat Try.underlying22 Try.sizeOf30 rfl hA3057 rfl (Int.toNat_of_nonneg h459).symm (lt_n hx3030 rfl) ⟨rfl, Below.refl _ _⟩) ?_
         refine al_light 4 (.agg #[iv x3029.id, iv x3029.lo, iv x3029.hi]) hsub rfl (by kernel_rfl) (fun w hI => s_loadBK hI [iv x3029.id, iv x3029.lo, iv x3029.hi] Try.isAgg30 Try.sizeOf30 rfl rfl hb3058 (by simp) he3059 ⟨rfl, Below.refl _ _⟩) ?_
         refine al_light 5 (iv y3036) hsub rfl (by kernel_rfl) (fun w hI => s_call 20 [.agg #[iv x3029.id, iv x3029.lo, iv x3029.hi]] (by kernel_rfl) (L20 _ x3029 _ hy3037) (fun v' w' h => h)) ?_
         refine al_light 6 (.bool false) hsub rfl (by kernel_rfl) (fun w hI => s_neq rfl rfl (fun h => absurd (a := y3036 = 0) h460 h) (fun _ => ⟨rfl, Below.refl _ _⟩)) ?_
         refine alp 7 (.bool false) hsub rfl (by kernel_rfl) (fun _ => (by kernel_rfl)) ?_
         refine al_on 8 (iv v2890) hsub rfl (by kernel_rfl) (by kernel_rfl) (fun w hI => s_pure (iv v2890) (by kernel_rfl) ⟨rfl, Below.refl _ _⟩) ?_
         refine al_on 9 (.bool true) hsub rfl (by kernel_rfl) (by kernel_rfl) (fun w hI => s_gtr rfl rfl (fun _ => ⟨rfl, Below.refl _ _⟩) (fun h => absurd (a := 0 < v2890) h461 h)) ?_
         refine al_on 10 (.bool true) hsub rfl (by kernel_rfl) (by kernel_rfl) (fun w hI => s_pure (.bool true) (by kernel_rfl) ⟨rfl, Below.refl _ _⟩) ?_
         refine al_on 11 (.pointer (some ⟨b1538, 0, none⟩)) hsub rfl (by kernel_rfl) (by kernel_rfl) (fun w hI => s_pure (.pointer (some ⟨b1538, 0, none⟩)) (by kernel_rfl) ⟨rfl, Below.refl _ _⟩) ?_
         refine al_on 12 (.slice Ap0_0 lp0_0.length cp0_0) hsub rfl (by kernel_rfl) (by kernel_rfl) (fun w hI => s_load1 hI 0 (.slice Ap0_0 lp0_0.length cp0_0) Try.isAgg22 rfl rfl rfl ⟨rfl, Below.refl _ _⟩) ?_
         refine al_on 13 (iv v2890) hsub rfl (by kernel_rfl) (by kernel_rfl) (fun w hI => s_pure (iv v2890) (by kernel_rfl) ⟨rfl, Below.refl _ _⟩) ?_
         refine al_on 14 (iv (v2890 - 1)) hsub rfl (by kernel_rfl) (by kernel_rfl) (fun w hI => s_sub rfl rfl h462 ⟨rfl, Below.refl _ _⟩) ?_
         obtain ⟨b3060, o3061, hA3062, hb3063, he3064⟩ := hCp0_0.at_ eCh_len (by decide) hx3039
         refine al_on 15 (.pointer (some ⟨b3060, o3061 + ((v2890 - 1).toNat) * 3, none⟩)) hsub rfl (by kernel_rfl) (by kernel_rfl) (fun w hI => s_indexA ((v2890 - 1).toNat) Try.underlying22 Try.sizeOf30 rfl hA3062 rfl (Int.toNat_of_nonneg h463).symm (lt_n hx3039 rfl) ⟨rfl, Below.refl _ _⟩) ?_
         refine al_on 16 (.pointer (some ⟨b3060, o3061 + ((v2890 - 1).toNat) * 3, none⟩)) hsub rfl (by kernel_rfl) (by kernel_rfl) (fun w hI => s_pure (.pointer (some ⟨b3060, o3061 + ((v2890 - 1).toNat) * 3, none⟩)) (by kernel_rfl) ⟨rfl, Below.refl _ _⟩) ?_
         refine al_on 17 (iv x3038.id) hsub rfl (by kernel_rfl) (by kernel_rfl) (fun w hI => s_loadB1 hI (iv x3038.id) Try.isAgg3 rfl hb3063 (by simp) (he3064 0 _ rfl) ⟨rfl, Below.refl _ _⟩) ?_
         refine al_on 18 (.pointer (some ⟨b1538, 0, none⟩)) hsub rfl (by kernel_rfl) (by kernel_rfl) (fun w hI => s_pure (.pointer (some ⟨b1538, 0, none⟩)) (by kernel_rfl) ⟨rfl, Below.refl _ _⟩) ?_
         refine al_on 19 (.slice Ap0_0 lp0_0.length cp0_0) hsub rfl (by kernel_rfl) (by kernel_rfl) (fun w hI => s_load1 hI 0 (.slice Ap0_0 lp0_0.length cp0_0) Try.isAgg22 rfl rfl rfl ⟨rfl, Below.refl _ _⟩) ?_
         refine al_on 20 (iv v2890) hsub rfl (by kernel_rfl) (by kernel_rfl) (fun w hI => s_pure (iv v2890) (by kernel_rfl) ⟨rfl, Below.refl _ _⟩) ?_
         refine al_on 21 (.pointer (some ⟨b3055, o3056 + (v2890).toNat * 3, none⟩)) hsub rfl (by kernel_rfl) (by kernel_rfl) (fun w hI => s_indexA (v2890).toNat Try.underlying22 Try.sizeOf30 rfl hA3057 rfl (Int.toNat_of_nonneg h459).symm (lt_n hx3030 rfl) ⟨rfl, Below.refl _ _⟩) ?_
         refine al_on 22 (.pointer (some ⟨b3055, o3056 + (v2890).toNat * 3, none⟩)) hsub rfl (by kernel_rfl) (by kernel_rfl) (fun w hI => s_pure (.pointer (some ⟨b3055, o3056 + (v2890).toNat * 3, none⟩)) (by kernel_rfl) ⟨rfl, Below.refl _ _⟩) ?_
         refine al_on 23 (iv x3029.id) hsub rfl (by kernel_rfl) (by kernel_rfl) (fun w hI => s_loadB1 hI (iv x3029.id) Try.isAgg3 rfl hb3058 (by simp) (he3059 0 _ rfl) ⟨rfl, Below.refl _ _⟩) ?_
         refine al_on 24 (.bool false) hsub rfl (by kernel_rfl) (by kernel_rfl) (fun w hI => s_geq rfl rfl (fun h => absurd (a := x3029.id ≤ x3038.id) h h464) (fun _ => ⟨rfl, Below.refl _ _⟩)) ?_
         refine al_on 25 (.bool false) hsub rfl (by kernel_rfl) (by kernel_rfl) (fun w hI => s_pure (.bool false) (by kernel_rfl) ⟨rfl, Below.refl _ _⟩) ?_
         refine alp 26 (.bool false) hsub rfl (by kernel_rfl) (fun _ => (by kernel_rfl)) ?_
         refine any_end (by kernel_rfl) (fun w hI => ?_)
         exact .inl ⟨rfl, ⟨⟨rfl, rfl, rfl, trivial⟩, hI.pickL [0] (by decide) rfl, hF⟩⟩
       ·
        refine wp_drawn2 hI [0] (by decide) rfl (by kernel_rfl) (by kernel_rfl) ?_
        intro hsub
        refine alp 0 (.pointer (some ⟨b1538, 0, none⟩)) hsub rfl (by kernel_rfl) (fun _ => (by kernel_rfl)) ?_
        refine al_light 1 (.slice Ap0_0 lp0_0.length cp0_0) hsub rfl (by kernel_rfl) (fun w hI => s_load1 hI 0 (.slice Ap0_0 lp0_0.length cp0_0) Try.isAgg22 rfl rfl rfl ⟨rfl, Below.refl _ _⟩) ?_
        refine alp 2 (iv v2890) hsub rfl (by kernel_rfl) (fun _ => (by kernel_rfl)) ?_
        obtain ⟨b3065, o3066, hA3067, hb3068, he3069⟩ := hCp0_0.at_ eCh_len (by decide) hx3030
        refine al_light 3 (.pointer (some ⟨b3065, o3066 + (v2890).toNat * 3, none⟩)) hsub rfl (by kernel_rfl) (fun w hI => s_indexA (v2890).toNat Try.underlying22 Try.sizeOf30 rfl hA3067 rfl (Int.toNat_of_nonneg h459).symm (lt_n hx3030 rfl) ⟨rfl, Below.refl _ _⟩) ?_
        refine al_light 4 (.agg #[iv x3029.id, iv x3029.lo, iv x3029.hi]) hsub rfl (by kernel_rfl) (fun w hI => s_loadBK hI [iv x3029.id, iv x3029.lo, iv x3029.hi] Try.isAgg30 Try.sizeOf30 rfl rfl hb3068 (by simp) he3069 ⟨rfl, Below.refl _ _⟩) ?_
        refine al_light 5 (iv y3036) hsub rfl (by kernel_rfl) (fun w hI => s_call 20 [.agg #[iv x3029.id, iv x3029.lo, iv x3029.hi]] (by kernel_rfl) (L20 _ x3029 _ hy3037) (fun v' w' h => h)) ?_
        refine al_light 6 (.bool false) hsub rfl (by kernel_rfl) (fun w hI => s_neq rfl rfl (fun h => absurd (a := y3036 = 0) h460 h) (fun _ => ⟨rfl, Below.refl _ _⟩)) ?_
        refine alp 7 (.bool false) hsub rfl (by kernel_rfl) (fun _ => (by kernel_rfl)) ?_
        refine al_on 8 (iv v2890) hsub rfl (by kernel_rfl) (by kernel_rfl) (fun w hI => s_pure (iv v2890) (by kernel_rfl) ⟨rfl, Below.refl _ _⟩) ?_
        refine al_on 9 (.bool false) hsub rfl (by kernel_rfl) (by kernel_rfl) (fun w hI => s_gtr rfl rfl (fun h => absurd (a := 0 < v2890) h h461) (fun _ => ⟨rfl, Below.refl _ _⟩)) ?_
        refine al_on 10 (.bool false) hsub rfl (by kernel_rfl) (by kernel_rfl) (fun w hI => s_pure (.bool false) (by kernel_rfl) ⟨rfl, Below.refl _ _⟩) ?_
        refine al_off 11 hsub rfl (by kernel_rfl) (by kernel_rfl) ?_
        refine al_off 12 hsub rfl (by kernel_rfl) (by kernel_rfl) ?_
        refine al_off 13 hsub rfl (by kernel_rfl) (by kernel_rfl) ?_
        refine al_off 14 hsub rfl (by kernel_rfl) (by kernel_rfl) ?_
        refine al_off 15 hsub rfl (by kernel_rfl) (by kernel_rfl) ?_
        refine al_off 16 hsub rfl (by kernel_rfl) (by kernel_rfl) ?_
        refine al_off 17 hsub rfl (by kernel_rfl) (by kernel_rfl) ?_
        refine al_off 18 hsub rfl (by kernel_rfl) (by kernel_rfl) ?_
        refine al_off 19 hsub rfl (by kernel_rfl) (by kernel_rfl) ?_
        refine al_off 20 hsub rfl (by kernel_rfl) (by kernel_rfl) ?_
        refine al_off 21 hsub rfl (by kernel_rfl) (by kernel_rfl) ?_
        refine al_off 22 hsub rfl (by kernel_rfl) (by kernel_rfl) ?_
        refine al_off 23 hsub rfl (by kernel_rfl) (by kernel_rfl) ?_
        refine al_off 24 hsub rfl (by kernel_rfl) (by kernel_rfl) ?_
        refine al_on 25 (.bool false) hsub rfl (by kernel_rfl) (by kernel_rfl) (fun w hI => s_pure (.bool false) (by kernel_rfl) ⟨rfl, Below.refl _ _⟩) ?_
        refine alp 26 (.bool false) hsub rfl (by kernel_rfl) (fun _ => (by kernel_rfl)) ?_
        refine any_end (by kernel_rfl) (fun w hI => ?_)
        exact .inl ⟨rfl, ⟨⟨rfl, rfl, rfl, trivial⟩, hI.pickL [0] (by decide) rfl, hF⟩⟩
      ·
       refine wp_drawn2 hI [0] (by decide) rfl (by kernel_rfl) (by kernel_rfl) ?_
       intro hsub
       refine alp 0 (.pointer (some ⟨b1538, 0, none⟩)) hsub rfl (by kernel_rfl) (fun _ => (by kernel_rfl)) ?_
       refine al_light 1 (.slice Ap0_0 lp0_0.length cp0_0) hsub rfl (by kernel_rfl) (fun w hI => s_load1 hI 0 (.slice Ap0_0 lp0_0.length cp0_0) Try.isAgg22 rfl rfl rfl ⟨rfl, Below.refl _ _⟩) ?_
       refine alp 2 (iv v2890) hsub rfl (by kernel_rfl) (fun _ => (by kernel_rfl)) ?_
       obtain ⟨b3070, o3071, hA3072, hb3073, he3074⟩ := hCp0_0.at_ eCh_len (by decide) hx3030
       refine al_light 3 (.pointer (some ⟨b3070, o3071 + (v2890).toNat * 3, none⟩)) hsub rfl (by kernel_rfl) (fun w hI => s_indexA (v2890).toNat Try.underlying22 Try.sizeOf30 rfl hA3072 rfl (Int.toNat_of_nonneg h459).symm (lt_n hx3030 rfl) ⟨rfl, Below.refl _ _⟩) ?_
       refine al_light 4 (.agg #[iv x3029.id, iv x3029.lo, iv x3029.hi]) hsub rfl (by kernel_rfl) (fun w hI => s_loadBK hI [iv x3029.id, iv x3029.lo, iv x3029.hi] Try.isAgg30 Try.sizeOf30 rfl rfl hb3073 (by simp) he3074 ⟨rfl, Below.refl _ _⟩) ?_
       refine al_light 5 (iv y3036) hsub rfl (by kernel_rfl) (fun w hI => s_call 20 [.agg #[iv x3029.id, iv x3029.lo, iv x3029.hi]] (by kernel_rfl) (L20 _ x3029 _ hy3037) (fun v' w' h => h)) ?_
       refine al_light 6 (.bool true) hsub rfl (by kernel_rfl) (fun w hI => s_neq rfl rfl (fun _ => ⟨rfl, Below.refl _ _⟩) (fun h => absurd (a := y3036 = 0) h h460)) ?_
       refine alp 7 (.bool true) hsub rfl (by kernel_rfl) (fun _ => (by kernel_rfl)) ?_
       refine al_off 8 hsub rfl (by kernel_rfl) (by kernel_rfl) ?_
       refine al_off 9 hsub rfl (by kernel_rfl) (by kernel_rfl) ?_
       refine al_off 10 hsub rfl (by kernel_rfl) (by kernel_rfl) ?_
       refine al_off 11 hsub rfl (by kernel_rfl) (by kernel_rfl) ?_
       refine al_off 12 hsub rfl (by kernel_rfl) (by kernel_rfl) ?_
       refine al_off 13 hsub rfl (by kernel_rfl) (by kernel_rfl) ?_
       refine al_off 14 hsub rfl (by kernel_rfl) (by kernel_rfl) ?_
       refine al_off 15 hsub rfl (by kernel_rfl) (by kernel_rfl) ?_
       refine al_off 16 hsub rfl (by kernel_rfl) (by kernel_rfl) ?_
       refine al_off 17 hsub rfl (by kernel_rfl) (by kernel_rfl) ?_
       refine al_off 18 hsub rfl (by kernel_rfl) (by kernel_rfl) ?_
       refine al_off 19 hsub rfl (by kernel_rfl) (by kernel_rfl) ?_
       refine al_off 20 hsub rfl (by kernel_rfl) (by kernel_rfl) ?_
       refine al_off 21 hsub rfl (by kernel_rfl) (by kernel_rfl) ?_
       refine al_off 22 hsub rfl (by kernel_rfl) (by kernel_rfl) ?_
       refine al_off 23 hsub rfl (by kernel_rfl) (by kernel_rfl) ?_
       refine al_off 24 hsub rfl (by kernel_rfl) (by kernel_rfl) ?_
       refine al_off 25 hsub rfl (by kernel_rfl) (by kernel_rfl) ?_
       refine alp 26 (.bool true) hsub rfl (by kernel_rfl) (fun _ => (by kernel_rfl)) ?_
       refine any_end (by kernel_rfl) (fun w hI => ?_)
       refine .inr ?_
       refine wp_condT rfl (wp_seq (rgn (by kernel_rfl) (pu (iv 42) (by kernel_rfl) (seq_nil (wp_ret ?_)))))
       replace hF := Option.some.inj hF; subst hF
       exact ⟨iv 42, Ret.r1 rfl rfl, ⟨rfl, hI.below⟩⟩
     ·intro ρ w hJ
      obtain ⟨hag, hI, hF⟩ := hJ
      obtain ⟨ρ, rfl⟩ := hag.form; clear hag
      unfold F16j4 at hF
      refine wp_condF rfl (wp_skip (rgn (by kernel_rfl) (pu (iv v2890) (by kernel_rfl) (ckE hF (fun h458 hF => ?_)))))
      refine seq_c (s_add rfl rfl h458 ?_)
      refine pu (iv (v2890 + 1)) (by kernel_rfl) (seq_nil ?_)
      exact ⟨rfl, m3, Nat.lt_succ_self _, ⟨v2890 + 1, m3, ⟨rfl, rfl, trivial⟩, hI.pickL [0] (by decide) rfl, hF, rfl⟩⟩
    ·
     refine seq_c (s_lss rfl rfl (fun h => absurd (a := v2890 < (lp0_0.length : Int)) h h439) (fun _ => ?_))
     refine seq_nil (wp_condF rfl (wp_exit ?_))
     exact .inl ⟨rfl, ⟨⟨rfl, trivial⟩, hI.pickL [0] (by decide) rfl, hF⟩⟩
   ·intro ρ w hJ
    obtain ⟨hag, hI, hF⟩ := hJ
    obtain ⟨ρ, rfl⟩ := hag.form; clear hag
    unfold F16j1 at hF
    refine wp_seq (wp_seq (rgn (by kernel_rfl) (pu (iv 0) (by kernel_rfl) (seq_nil (wp_block ?_)))))
    refine wp_loop (fun m ρ w => ∃ (v2524 : Int) (mm : Nat), Agree ρ [(1, .pointer (some ⟨b1538, 0, none⟩)), (4, iv v2524)] ∧ Inv [] w0 w [(some b1538, blk [.slice Ap0_0 lp0_0.length cp0_0, .slice Ap0_1 lp0_1.length cp0_1] 25)] ∧ F16l2 lp0_0 lp0_1 N mm v2524 = some r ∧ mm = m) (m := N) ⟨0, N, ⟨rfl, rfl, trivial⟩, hI.pickL [0] (by decide) rfl, hF, rfl⟩ ?_
    rintro m ρ w ⟨v2524, mm, hag, hI, hF, hm⟩
    subst hm; obtain ⟨ρ, rfl⟩ := hag.form; clear hag
    obtain _ | m2 := mm
    ·cases (show (none : Option Int) = some r from hF)
    replace hF : F16b2 lp0_0 lp0_1 N (F16l2 lp0_0 lp0_1 N m2) v2524 = some r := hF; unfold F16b2 at hF
    refine wp_seq (wp_seq (rgn (by kernel_rfl) (pu (iv v2524) (by kernel_rfl) (pu (.pointer (some ⟨b1538, 1, none⟩)) (by kernel_rfl) (seq_c (s_load1 hI 0 (.slice Ap0_1 lp0_1.length cp0_1) Try.isAgg23 rfl rfl rfl ?_))))))
    refine pu (iv ((lp0_1.length : Nat) : Int)) (by kernel_rfl) (ifE hF (fun h385 hF => ?_) (fun h385 hF => ?_))
    ·
     refine seq_c (s_lss rfl rfl (fun _ => ?_) (fun h => absurd (a := v2524 < (lp0_1.length : Int)) h385 h))
     refine seq_nil (wp_condT rfl (wp_skip (wp_seq (wp_block ?_))))
     refine wp_seq (gdE hF (fun h395 hF => ?_))
     refine bindE hF (fun x2603 hx2604 hF => ?_)
     refine bindE hF (fun y2610 hy2611 hF => ?_)
     refine ifE hF (fun h396 hF => ?_) (fun h396 hF => ?_)
     ·
      refine bindE hF (fun y2612 hy2613 hF => ?_)
      refine ifE hF (fun h397 hF => ?_) (fun h397 hF => ?_)
      ·
       refine wp_drawn2 hI [0] (by decide) rfl (by kernel_rfl) (by kernel_rfl) ?_
       intro hsub
       refine alp 0 (.pointer (some ⟨b1538, 1, none⟩)) hsub rfl (by kernel_rfl) (fun _ => (by kernel_rfl)) ?_
       refine al_light 1 (.slice Ap0_1 lp0_1.length cp0_1) hsub rfl (by kernel_rfl) (fun w hI => s_load1 hI 0 (.slice Ap0_1 lp0_1.length cp0_1) Try.isAgg23 rfl rfl rfl ⟨rfl, Below.refl _ _⟩) ?_
       refine alp 2 (iv v2524) hsub rfl (by kernel_rfl) (fun _ => (by kernel_rfl)) ?_
       obtain ⟨b2614, o2615, hA2616, hb2617, he2618⟩ := hCp0_1.at_ eCe_len (by decide) hx2604
       refine al_light 3 (.pointer (some ⟨b2614, o2615 + (v2524).toNat * 3, none⟩)) hsub rfl (by kernel_rfl) (fun w hI => s_indexA (v2524).toNat Try.underlying23 Try.sizeOf32 rfl hA2616 rfl (Int.toNat_of_nonneg h395).symm (lt_n hx2604 rfl) ⟨rfl, Below.refl _ _⟩) ?_
       refine al_light 4 (.agg #[iv x2603.ch, iv x2603.ln, iv x2603.wo]) hsub rfl (by kernel_rfl) (fun w hI => s_loadBK hI [iv x2603.ch, iv x2603.ln, iv x2603.wo] Try.isAgg32 Try.sizeOf32 rfl rfl hb2617 (by simp) he2618 ⟨rfl, Below.refl _ _⟩) ?_
       refine al_light 5 (iv y2610) hsub rfl (by kernel_rfl) (fun w hI => s_call 22 [.agg #[iv x2603.ch, iv x2603.ln, iv x2603.wo]] (by kernel_rfl) (L22 _ x2603 _ hy2611) (fun v' w' h => h)) ?_
       refine al_light 6 (.bool false) hsub rfl (by kernel_rfl) (fun w hI => s_neq rfl rfl (fun h => absurd (a := y2610 = 0) h396 h) (fun _ => ⟨rfl, Below.refl _ _⟩)) ?_
       refine alp 7 (.bool false) hsub rfl (by kernel_rfl) (fun _ => (by kernel_rfl)) ?_
       refine al_on 8 (.agg #[.slice Ap0_0 lp0_0.length cp0_0, .slice Ap0_1 lp0_1.length cp0_1]) hsub rfl (by kernel_rfl) (by kernel_rfl) (fun w hI => s_loadK hI 0 2 [.slice Ap0_0 lp0_0.length cp0_0, .slice Ap0_1 lp0_1.length cp0_1] Try.isAgg25 Try.sizeOf25 rfl rfl rfl rfl ⟨rfl, Below.refl _ _⟩) ?_
       refine al_on 9 (.pointer (some ⟨b1538, 1, none⟩)) hsub rfl (by kernel_rfl) (by kernel_rfl) (fun w hI => s_pure (.pointer (some ⟨b1538, 1, none⟩)) (by kernel_rfl) ⟨rfl, Below.refl _ _⟩) ?_
       refine al_on 10 (.slice Ap0_1 lp0_1.length cp0_1) hsub rfl (by kernel_rfl) (by kernel_rfl) (fun w hI => s_load1 hI 0 (.slice Ap0_1 lp0_1.length cp0_1) Try.isAgg23 rfl rfl rfl ⟨rfl, Below.refl _ _⟩) ?_
       refine al_on 11 (iv v2524) hsub rfl (by kernel_rfl) (by kernel_rfl) (fun w hI => s_pure (iv v2524) (by kernel_rfl) ⟨rfl, Below.refl _ _⟩) ?_
       refine al_on 12 (.pointer (some ⟨b2614, o2615 + (v2524).toNat * 3, none⟩)) hsub rfl (by kernel_rfl) (by kernel_rfl) (fun w hI => s_indexA (v2524).toNat Try.underlying23 Try.sizeOf32 rfl hA2616 rfl (Int.toNat_of_nonneg h395).symm (lt_n hx2604 rfl) ⟨rfl, Below.refl _ _⟩) ?_
       refine al_on 13 (.pointer (some ⟨b2614, o2615 + (v2524).toNat * 3, none⟩)) hsub rfl (by kernel_rfl) (by kernel_rfl) (fun w hI => s_pure (.pointer (some ⟨b2614, o2615 + (v2524).toNat * 3, none⟩)) (by kernel_rfl) ⟨rfl, Below.refl _ _⟩) ?_
       refine al_on 14 (iv x2603.ch) hsub rfl (by kernel_rfl) (by kernel_rfl) (fun w hI => s_loadB1 hI (iv x2603.ch) Try.isAgg3 rfl hb2617 (by simp) (he2618 0 _ rfl) ⟨rfl, Below.refl _ _⟩) ?_
       refine al_on 15 (iv y2612) hsub rfl (by kernel_rfl) (by kernel_rfl) (fun w hI => s_call 63 [.agg #[.slice Ap0_0 lp0_0.length cp0_0, .slice Ap0_1 lp0_1.length cp0_1], iv x2603.ch] (by kernel_rfl) (L63 _ Ap0_0 cp0_0 lp0_0 Ap0_1 cp0_1 lp0_1 x2603.ch (hCp0_0.inv0 hI) hMp0_0 hKp0_0 (hCp0_1.inv0 hI) hMp0_1 hKp0_1 N _ hy2613) (fun v' w' h => h)) ?_
       refine al_on 16 (.bool true) hsub rfl (by kernel_rfl) (by kernel_rfl) (fun w hI => s_lss rfl rfl (fun _ => ⟨rfl, Below.refl _ _⟩) (fun h => absurd (a := y2612 < 0) h397 h)) ?_
       refine alp 17 (.bool true) hsub rfl (by kernel_rfl) (fun _ => (by kernel_rfl)) ?_
       refine any_end (by kernel_rfl) (fun w hI => ?_)
       refine wp_condT rfl (wp_seq (rgn (by kernel_rfl) (pu (iv 42) (by kernel_rfl) (seq_nil (wp_ret ?_)))))
       replace hF := Option.some.inj hF; subst hF
       exact ⟨iv 42, Ret.r1 rfl rfl, ⟨rfl, hI.below⟩⟩
      ·
       refine wp_drawn2 hI [0] (by decide) rfl (by kernel_rfl) (by kernel_rfl) ?_
       intro hsub
       refine alp 0 (.pointer (some ⟨b1538, 1, none⟩)) hsub rfl (by kernel_rfl) (fun _ => (by kernel_rfl)) ?_
       refine al_light 1 (.slice Ap0_1 lp0_1.length cp0_1) hsub rfl (by kernel_rfl) (fun w hI => s_load1 hI 0 (.slice Ap0_1 lp0_1.length cp0_1) Try.isAgg23 rfl rfl rfl ⟨rfl, Below.refl _ _⟩) ?_
       refine alp 2 (iv v2524) hsub rfl (by kernel_rfl) (fun _ => (by kernel_rfl)) ?_
       obtain ⟨b2619, o2620, hA2621, hb2622, he2623⟩ := hCp0_1.at_ eCe_len (by decide) hx2604
       refine al_light 3 (.pointer (some ⟨b2619, o2620 + (v2524).toNat * 3, none⟩)) hsub rfl (by kernel_rfl) (fun w hI => s_indexA (v2524).toNat Try.underlying23 Try.sizeOf32 rfl hA2621 rfl (Int.toNat_of_nonneg h395).symm (lt_n hx2604 rfl) ⟨rfl, Below.refl _ _⟩) ?_
       refine al_light 4 (.agg #[iv x2603.ch, iv x2603.ln, iv x2603.wo]) hsub rfl (by kernel_rfl) (fun w hI => s_loadBK hI [iv x2603.ch, iv x2603.ln, iv x2603.wo] Try.isAgg32 Try.sizeOf32 rfl rfl hb2622 (by simp) he2623 ⟨rfl, Below.refl _ _⟩) ?_
       refine al_light 5 (iv y2610) hsub rfl (by kernel_rfl) (fun w hI => s_call 22 [.agg #[iv x2603.ch, iv x2603.ln, iv x2603.wo]] (by kernel_rfl) (L22 _ x2603 _ hy2611) (fun v' w' h => h)) ?_
       refine al_light 6 (.bool false) hsub rfl (by kernel_rfl) (fun w hI => s_neq rfl rfl (fun h => absurd (a := y2610 = 0) h396 h) (fun _ => ⟨rfl, Below.refl _ _⟩)) ?_
       refine alp 7 (.bool false) hsub rfl (by kernel_rfl) (fun _ => (by kernel_rfl)) ?_
       refine al_on 8 (.agg #[.slice Ap0_0 lp0_0.length cp0_0, .slice Ap0_1 lp0_1.length cp0_1]) hsub rfl (by kernel_rfl) (by kernel_rfl) (fun w hI => s_loadK hI 0 2 [.slice Ap0_0 lp0_0.length cp0_0, .slice Ap0_1 lp0_1.length cp0_1] Try.isAgg25 Try.sizeOf25 rfl rfl rfl rfl ⟨rfl, Below.refl _ _⟩) ?_
       refine al_on 9 (.pointer (some ⟨b1538, 1, none⟩)) hsub rfl (by kernel_rfl) (by kernel_rfl) (fun w hI => s_pure (.pointer (some ⟨b1538, 1, none⟩)) (by kernel_rfl) ⟨rfl, Below.refl _ _⟩) ?_
       refine al_on 10 (.slice Ap0_1 lp0_1.length cp0_1) hsub rfl (by kernel_rfl) (by kernel_rfl) (fun w hI => s_load1 hI 0 (.slice Ap0_1 lp0_1.length cp0_1) Try.isAgg23 rfl rfl rfl ⟨rfl, Below.refl _ _⟩) ?_
       refine al_on 11 (iv v2524) hsub rfl (by kernel_rfl) (by kernel_rfl) (fun w hI => s_pure (iv v2524) (by kernel_rfl) ⟨rfl, Below.refl _ _⟩) ?_
       refine al_on 12 (.pointer (some ⟨b2619, o2620 + (v2524).toNat * 3, none⟩)) hsub rfl (by kernel_rfl) (by kernel_rfl) (fun w hI => s_indexA (v2524).toNat Try.underlying23 Try.sizeOf32 rfl hA2621 rfl (Int.toNat_of_nonneg h395).symm (lt_n hx2604 rfl) ⟨rfl, Below.refl _ _⟩) ?_
       refine al_on 13 (.pointer (some ⟨b2619, o2620 + (v2524).toNat * 3, none⟩)) hsub rfl (by kernel_rfl) (by kernel_rfl) (fun w hI => s_pure (.pointer (some ⟨b2619, o2620 + (v2524).toNat * 3, none⟩)) (by kernel_rfl) ⟨rfl, Below.refl _ _⟩) ?_
       refine al_on 14 (iv x2603.ch) hsub rfl (by kernel_rfl) (by kernel_rfl) (fun w hI => s_loadB1 hI (iv x2603.ch) Try.isAgg3 rfl hb2622 (by simp) (he2623 0 _ rfl) ⟨rfl, Below.refl _ _⟩) ?_
       refine al_on 15 (iv y2612) hsub rfl (by kernel_rfl) (by kernel_rfl) (fun w hI => s_call 63 [.agg #[.slice Ap0_0 lp0_0.length cp0_0, .slice Ap0_1 lp0_1.length cp0_1], iv x2603.ch] (by kernel_rfl) (L63 _ Ap0_0 cp0_0 lp0_0 Ap0_1 cp0_1 lp0_1 x2603.ch (hCp0_0.inv0 hI) hMp0_0 hKp0_0 (hCp0_1.inv0 hI) hMp0_1 hKp0_1 N _ hy2613) (fun v' w' h => h)) ?_
       refine al_on 16 (.bool false) hsub rfl (by kernel_rfl) (by kernel_rfl) (fun w hI => s_lss rfl rfl (fun h => absurd (a := y2612 < 0) h h397) (fun _ => ⟨rfl, Below.refl _ _⟩)) ?_
       refine alp 17 (.bool false) hsub rfl (by kernel_rfl) (fun _ => (by kernel_rfl)) ?_
       refine any_end (by kernel_rfl) (fun w hI => ?_)
       refine wp_condF rfl (wp_skip (rgn (by kernel_rfl) (pu (iv v2524) (by kernel_rfl) (ckE hF (fun h398 hF => ?_)))))
       refine seq_c (s_add rfl rfl h398 ?_)
       refine pu (iv (v2524 + 1)) (by kernel_rfl) (seq_nil ?_)
       exact ⟨rfl, m2, Nat.lt_succ_self _, ⟨v2524 + 1, m2, ⟨rfl, rfl, trivial⟩, hI.pickL [0] (by decide) rfl, hF, rfl⟩⟩
     ·
      refine wp_drawn2 hI [0] (by decide) rfl (by kernel_rfl) (by kernel_rfl) ?_
      intro hsub
      refine alp 0 (.pointer (some ⟨b1538, 1, none⟩)) hsub rfl (by kernel_rfl) (fun _ => (by kernel_rfl)) ?_
      refine al_light 1 (.slice Ap0_1 lp0_1.length cp0_1) hsub rfl (by kernel_rfl) (fun w hI => s_load1 hI 0 (.slice Ap0_1 lp0_1.length cp0_1) Try.isAgg23 rfl rfl rfl ⟨rfl, Below.refl _ _⟩) ?_
      refine alp 2 (iv v2524) hsub rfl (by kernel_rfl) (fun _ => (by kernel_rfl)) ?_
      obtain ⟨b2624, o2625, hA2626, hb2627, he2628⟩ := hCp0_1.at_ eCe_len (by decide) hx2604
      refine al_light 3 (.pointer (some ⟨b2624, o2625 + (v2524).toNat * 3, none⟩)) hsub rfl (by kernel_rfl) (fun w hI => s_indexA (v2524).toNat Try.underlying23 Try.sizeOf32 rfl hA2626 rfl (Int.toNat_of_nonneg h395).symm (lt_n hx2604 rfl) ⟨rfl, Below.refl _ _⟩) ?_
      refine al_light 4 (.agg #[iv x2603.ch, iv x2603.ln, iv x2603.wo]) hsub rfl (by kernel_rfl) (fun w hI => s_loadBK hI [iv x2603.ch, iv x2603.ln, iv x2603.wo] Try.isAgg32 Try.sizeOf32 rfl rfl hb2627 (by simp) he2628 ⟨rfl, Below.refl _ _⟩) ?_
      refine al_light 5 (iv y2610) hsub rfl (by kernel_rfl) (fun w hI => s_call 22 [.agg #[iv x2603.ch, iv x2603.ln, iv x2603.wo]] (by kernel_rfl) (L22 _ x2603 _ hy2611) (fun v' w' h => h)) ?_
      refine al_light 6 (.bool true) hsub rfl (by kernel_rfl) (fun w hI => s_neq rfl rfl (fun _ => ⟨rfl, Below.refl _ _⟩) (fun h => absurd (a := y2610 = 0) h h396)) ?_
      refine alp 7 (.bool true) hsub rfl (by kernel_rfl) (fun _ => (by kernel_rfl)) ?_
      refine al_off 8 hsub rfl (by kernel_rfl) (by kernel_rfl) ?_
      refine al_off 9 hsub rfl (by kernel_rfl) (by kernel_rfl) ?_
      refine al_off 10 hsub rfl (by kernel_rfl) (by kernel_rfl) ?_
      refine al_off 11 hsub rfl (by kernel_rfl) (by kernel_rfl) ?_
      refine al_off 12 hsub rfl (by kernel_rfl) (by kernel_rfl) ?_
      refine al_off 13 hsub rfl (by kernel_rfl) (by kernel_rfl) ?_
      refine al_off 14 hsub rfl (by kernel_rfl) (by kernel_rfl) ?_
      refine al_off 15 hsub rfl (by kernel_rfl) (by kernel_rfl) ?_
      refine al_off 16 hsub rfl (by kernel_rfl) (by kernel_rfl) ?_
      refine alp 17 (.bool true) hsub rfl (by kernel_rfl) (fun _ => (by kernel_rfl)) ?_
      refine any_end (by kernel_rfl) (fun w hI => ?_)
      refine wp_condT rfl (wp_seq (rgn (by kernel_rfl) (pu (iv 42) (by kernel_rfl) (seq_nil (wp_ret ?_)))))
      replace hF := Option.some.inj hF; subst hF
      exact ⟨iv 42, Ret.r1 rfl rfl, ⟨rfl, hI.below⟩⟩
    ·
     refine seq_c (s_lss rfl rfl (fun h => absurd (a := v2524 < (lp0_1.length : Int)) h h385) (fun _ => ?_))
     refine seq_nil (wp_condF rfl (wp_exit ?_))
     refine wp_seq (rgn (by kernel_rfl) (pu (iv 0) (by kernel_rfl) (seq_nil (wp_ret ?_))))
     replace hF := Option.some.inj hF; subst hF
     exact ⟨iv 0, Ret.r1 rfl rfl, ⟨rfl, hI.below⟩⟩
  ·
   refine seq_on (by kernel_rfl) (s_callv hI 61 [iv (lp0_1.length : Int), iv 1, iv 24] (.bool false) (by kernel_rfl) (Does.mono (L61 _ (lp0_1.length : Int) 1 24 _ hy1554) (fun v' w' h => ⟨h.1.trans (congrArg Value.bool (Bool.eq_false_iff.2 h240)), h.2⟩)) ?_)
   intro w hI
   refine puo (.bool true) ⟨(by kernel_rfl), (by kernel_rfl)⟩ (pu (.bool true) (by kernel_rfl) (seq_nil (wp_condT rfl (wp_seq (rgn (by kernel_rfl) (pu (iv 42) (by kernel_rfl) (seq_nil (wp_ret ?_))))))))
   replace hF := Option.some.inj hF; subst hF
   exact ⟨iv 42, Ret.r1 rfl rfl, ⟨rfl, hI.below⟩⟩
 ·
  refine seq_c (s_callv hI 61 [iv (lp0_0.length : Int), iv 1, iv 6] (.bool false) (by kernel_rfl) (Does.mono (L61 _ (lp0_0.length : Int) 1 6 _ hy1552) (fun v' w' h => ⟨h.1.trans (congrArg Value.bool (Bool.eq_false_iff.2 h239)), h.2⟩)) ?_)
  intro w hI
  refine pu (.bool true) (by kernel_rfl) (pu (.bool true) (by kernel_rfl) (of_ (by kernel_rfl) (of_ (by kernel_rfl) (of_ (by kernel_rfl) (of_ (by kernel_rfl) (of_ (by kernel_rfl) (pu (.bool true) (by kernel_rfl) (seq_nil (wp_condT rfl ?_)))))))))
  refine wp_seq (rgn (by kernel_rfl) (pu (iv 42) (by kernel_rfl) (seq_nil (wp_ret ?_))))
  replace hF := Option.some.inj hF; subst hF
  exact ⟨iv 42, Ret.r1 rfl rfl, ⟨rfl, hI.below⟩⟩


theorem L24 (w0 : World) (p0 : Cl) (r : Int) (hF : F24 p0 = some r) : Does Try.prog 24 [.agg #[.int .i64 p0.fam, .int .i64 p0.hd, .int .i64 p0.fr, .int .i64 p0.to]] w0 fun v w => v = .int .i64 r ∧ Below w0.heap.size w0 w := by
 refine calls_of (n := 26) Try.func24 rfl Try.ntmps24 rfl ?_
 have hI := Inv.start w0
 unfold F24 at hF
 refine wp_seq (rgn (by kernel_rfl) (seq_c (s_boxI hI [iv p0.fam, iv p0.hd, iv p0.fr, iv p0.to] rfl ?_)))
 intro b26 w hI
 refine pu (iv 0) (by kernel_rfl) (seq_nil (wp_seq (wp_seq (rgn (by kernel_rfl) (pu (.pointer (some ⟨b26, 0, none⟩)) (by kernel_rfl) (seq_c (s_load1 hI 0 (iv p0.fam) Try.isAgg3 rfl rfl rfl ?_)))))))
 refine bindE hF (fun y45 hy46 hF => ?_)
 refine ifE hF (fun h29 hF => ?_) (fun h29 hF => ?_)
 ·
  refine seq_c (s_callv hI 61 [iv p0.fam, iv 1, iv 99] (.bool true) (by kernel_rfl) (Does.mono (L61 _ p0.fam 1 99 _ hy46) (fun v' w' h => ⟨h.1.trans (congrArg Value.bool h29), h.2⟩)) ?_)
  intro w hI
  refine pu (.bool false) (by kernel_rfl) (pu (.bool false) (by kernel_rfl) (puo (.pointer (some ⟨b26, 1, none⟩)) ⟨(by kernel_rfl), (by kernel_rfl)⟩ (seq_on (by kernel_rfl) (s_load1 hI 0 (iv p0.hd) Try.isAgg3 rfl rfl rfl ?_))))
  refine bindE hF (fun y47 hy48 hF => ?_)
  refine ifE hF (fun h30 hF => ?_) (fun h30 hF => ?_)
  ·
   refine seq_on (by kernel_rfl) (s_callv hI 61 [iv p0.hd, iv 1, iv 20] (.bool true) (by kernel_rfl) (Does.mono (L61 _ p0.hd 1 20 _ hy48) (fun v' w' h => ⟨h.1.trans (congrArg Value.bool h30), h.2⟩)) ?_)
   intro w hI
   refine puo (.bool false) ⟨(by kernel_rfl), (by kernel_rfl)⟩ (pu (.bool false) (by kernel_rfl) (pu (.bool false) (by kernel_rfl) (puo (.pointer (some ⟨b26, 2, none⟩)) ⟨(by kernel_rfl), (by kernel_rfl)⟩ (seq_on (by kernel_rfl) (s_load1 hI 0 (iv p0.fr) Try.isAgg3 rfl rfl rfl ?_)))))
   refine puo (.pointer (some ⟨b26, 3, none⟩)) ⟨(by kernel_rfl), (by kernel_rfl)⟩ (seq_on (by kernel_rfl) (s_load1 hI 0 (iv p0.to) Try.isAgg3 rfl rfl rfl ?_))
   refine bindE hF (fun y49 hy50 hF => ?_)
   refine ifE hF (fun h31 hF => ?_) (fun h31 hF => ?_)
   ·
    refine seq_on (by kernel_rfl) (s_callv hI 61 [iv p0.fr, iv 0, iv p0.to] (.bool true) (by kernel_rfl) (Does.mono (L61 _ p0.fr 0 p0.to _ hy50) (fun v' w' h => ⟨h.1.trans (congrArg Value.bool h31), h.2⟩)) ?_)
    intro w hI
    refine puo (.bool false) ⟨(by kernel_rfl), (by kernel_rfl)⟩ (pu (.bool false) (by kernel_rfl) (pu (.bool false) (by kernel_rfl) (puo (.pointer (some ⟨b26, 3, none⟩)) ⟨(by kernel_rfl), (by kernel_rfl)⟩ (seq_on (by kernel_rfl) (s_load1 hI 0 (iv p0.to) Try.isAgg3 rfl rfl rfl ?_)))))
    refine ifE hF (fun h32 hF => ?_) (fun h32 hF => ?_)
    ·
     refine seq_on (by kernel_rfl) (s_geq rfl rfl (fun _ => ?_) (fun h => absurd (a := 24 ≤ p0.to) h32 h))
     refine pu (.bool true) (by kernel_rfl) (seq_nil (wp_condT rfl (wp_seq (rgn (by kernel_rfl) (pu (iv 43) (by kernel_rfl) (seq_nil (wp_ret ?_)))))))
     replace hF := Option.some.inj hF; subst hF
     exact ⟨iv 43, Ret.r1 rfl rfl, ⟨rfl, hI.below⟩⟩
    ·
     refine seq_on (by kernel_rfl) (s_geq rfl rfl (fun h => absurd (a := 24 ≤ p0.to) h h32) (fun _ => ?_))
     refine pu (.bool false) (by kernel_rfl) (seq_nil (wp_condF rfl (wp_skip (wp_seq (rgn (by kernel_rfl) (pu (iv 0) (by kernel_rfl) (seq_nil (wp_ret ?_))))))))
     replace hF := Option.some.inj hF; subst hF
     exact ⟨iv 0, Ret.r1 rfl rfl, ⟨rfl, hI.below⟩⟩
   ·
    refine seq_on (by kernel_rfl) (s_callv hI 61 [iv p0.fr, iv 0, iv p0.to] (.bool false) (by kernel_rfl) (Does.mono (L61 _ p0.fr 0 p0.to _ hy50) (fun v' w' h => ⟨h.1.trans (congrArg Value.bool (Bool.eq_false_iff.2 h31)), h.2⟩)) ?_)
    intro w hI
    refine puo (.bool true) ⟨(by kernel_rfl), (by kernel_rfl)⟩ (pu (.bool true) (by kernel_rfl) (pu (.bool true) (by kernel_rfl) (of_ (by kernel_rfl) (of_ (by kernel_rfl) (of_ (by kernel_rfl) (pu (.bool true) (by kernel_rfl) (seq_nil (wp_condT rfl (wp_seq ?_)))))))))
    refine rgn (by kernel_rfl) (pu (iv 43) (by kernel_rfl) (seq_nil (wp_ret ?_)))
    replace hF := Option.some.inj hF; subst hF
    exact ⟨iv 43, Ret.r1 rfl rfl, ⟨rfl, hI.below⟩⟩
  ·
   refine seq_on (by kernel_rfl) (s_callv hI 61 [iv p0.hd, iv 1, iv 20] (.bool false) (by kernel_rfl) (Does.mono (L61 _ p0.hd 1 20 _ hy48) (fun v' w' h => ⟨h.1.trans (congrArg Value.bool (Bool.eq_false_iff.2 h30)), h.2⟩)) ?_)
   intro w hI
   refine puo (.bool true) ⟨(by kernel_rfl), (by kernel_rfl)⟩ (pu (.bool true) (by kernel_rfl) (pu (.bool true) (by kernel_rfl) (of_ (by kernel_rfl) (of_ (by kernel_rfl) (of_ (by kernel_rfl) (of_ (by kernel_rfl) (of_ (by kernel_rfl) (of_ (by kernel_rfl) (pu (.bool true) (by kernel_rfl) ?_)))))))))
   refine pu (.bool true) (by kernel_rfl) (of_ (by kernel_rfl) (of_ (by kernel_rfl) (of_ (by kernel_rfl) (pu (.bool true) (by kernel_rfl) (seq_nil (wp_condT rfl (wp_seq (rgn (by kernel_rfl) (pu (iv 43) (by kernel_rfl) ?_)))))))))
   refine seq_nil (wp_ret ?_)
   replace hF := Option.some.inj hF; subst hF
   exact ⟨iv 43, Ret.r1 rfl rfl, ⟨rfl, hI.below⟩⟩
 ·
  refine seq_c (s_callv hI 61 [iv p0.fam, iv 1, iv 99] (.bool false) (by kernel_rfl) (Does.mono (L61 _ p0.fam 1 99 _ hy46) (fun v' w' h => ⟨h.1.trans (congrArg Value.bool (Bool.eq_false_iff.2 h29)), h.2⟩)) ?_)
  intro w hI
  refine pu (.bool true) (by kernel_rfl) (pu (.bool true) (by kernel_rfl) (of_ (by kernel_rfl) (of_ (by kernel_rfl) (of_ (by kernel_rfl) (of_ (by kernel_rfl) (pu (.bool true) (by kernel_rfl) (pu (.bool true) (by kernel_rfl) (of_ (by kernel_rfl) (of_ (by kernel_rfl) ?_)))))))))
  refine of_ (by kernel_rfl) (of_ (by kernel_rfl) (of_ (by kernel_rfl) (of_ (by kernel_rfl) (pu (.bool true) (by kernel_rfl) (pu (.bool true) (by kernel_rfl) (of_ (by kernel_rfl) (of_ (by kernel_rfl) (of_ (by kernel_rfl) (pu (.bool true) (by kernel_rfl) ?_)))))))))
  refine seq_nil (wp_condT rfl (wp_seq (rgn (by kernel_rfl) (pu (iv 43) (by kernel_rfl) (seq_nil (wp_ret ?_))))))
  replace hF := Option.some.inj hF; subst hF
  exact ⟨iv 43, Ret.r1 rfl rfl, ⟨rfl, hI.below⟩⟩


theorem L65 (w0 : World) (Ap0_0 : Option Addr) (cp0_0 : Nat) (lp0_0 : List Ch) (Ap0_1 : Option Addr) (cp0_1 : Nat) (lp0_1 : List Ce) (Ap1 : Option Addr) (cp1 : Nat) (lp1 : List Cl) (hCp0_0 : Cells w0 Ap0_0 (flat eCh lp0_0)) (hMp0_0 : lp0_0.length ≤ 9223372036854775807) (hKp0_0 : lp0_0.length ≤ cp0_0) (hCp0_1 : Cells w0 Ap0_1 (flat eCe lp0_1)) (hMp0_1 : lp0_1.length ≤ 9223372036854775807) (hKp0_1 : lp0_1.length ≤ cp0_1) (hCp1 : Cells w0 Ap1 (flat eCl lp1)) (hMp1 : lp1.length ≤ 9223372036854775807) (hKp1 : lp1.length ≤ cp1) (N : Nat) (r : Bool) (hF : F65 N lp0_0 lp0_1 lp1 = some r) : Does Try.prog 65 [.agg #[.slice Ap0_0 lp0_0.length cp0_0, .slice Ap0_1 lp0_1.length cp0_1], .slice Ap1 lp1.length cp1] w0 fun v w => v = .bool r ∧ Below w0.heap.size w0 w := by
 refine calls_of (n := 49) Try.func65 rfl Try.ntmps65 rfl ?_
 have hI := Inv.start w0
 unfold F65 at hF
 refine wp_seq (rgn (by kernel_rfl) (seq_c (s_boxI hI [.slice Ap0_0 lp0_0.length cp0_0, .slice Ap0_1 lp0_1.length cp0_1] rfl ?_)))
 intro b2810 w hI
 refine pu (.bool false) (by kernel_rfl) (seq_nil (wp_cutO (fun ρ w => Agree ρ [(1, .slice Ap1 lp1.length cp1)] ∧ Inv [] w0 w [] ∧ F65j1 lp1 = some r) ?_ ?_))
 ·
  refine wp_seq (rgn (by kernel_rfl) (pu (iv 0) (by kernel_rfl) (seq_nil (wp_block ?_))))
  refine wp_loop (fun m ρ w => ∃ (i_5014 : Int) (mm : Nat), Agree ρ [(1, .slice Ap1 lp1.length cp1), (2, .pointer (some ⟨b2810, 0, none⟩)), (5, iv i_5014)] ∧ Inv [] w0 w [(some b2810, blk [.slice Ap0_0 lp0_0.length cp0_0, .slice Ap0_1 lp0_1.length cp0_1] 25)] ∧ F65l2 lp0_1 lp1 N mm i_5014 = some r ∧ mm = m) (m := N) ⟨0, N, ⟨rfl, rfl, rfl, trivial⟩, hI.pickL [0] (by decide) rfl, hF, rfl⟩ ?_
  rintro m ρ w ⟨i_5014, mm, hag, hI, hF, hm⟩
  subst hm; obtain ⟨ρ, rfl⟩ := hag.form; clear hag
  obtain _ | m2 := mm
  ·cases (show (none : Option Bool) = some r from hF)
  replace hF : F65b2 lp0_1 lp1 N (F65l2 lp0_1 lp1 N m2) i_5014 = some r := hF; unfold F65b2 at hF
  refine wp_seq (wp_seq (rgn (by kernel_rfl) (pu (iv i_5014) (by kernel_rfl) (pu (.slice Ap1 lp1.length cp1) (by kernel_rfl) (pu (iv ((lp1.length : Nat) : Int)) (by kernel_rfl) (ifE hF (fun h763 hF => ?_) (fun h763 hF => ?_)))))))
  ·
   refine seq_c (s_lss rfl rfl (fun _ => ?_) (fun h => absurd (a := i_5014 < (lp1.length : Int)) h763 h))
   refine seq_nil (wp_condT rfl (wp_skip (wp_cutO (fun ρ w => Agree ρ [(1, .slice Ap1 lp1.length cp1), (2, .pointer (some ⟨b2810, 0, none⟩)), (5, iv i_5014)] ∧ Inv [] w0 w [(some b2810, blk [.slice Ap0_0 lp0_0.length cp0_0, .slice Ap0_1 lp0_1.length cp0_1] 25)] ∧ F65j3 (F65l2 lp0_1 lp1 N m2) i_5014 = some r) ?_ ?_)))
   ·
    refine wp_block ?_
    refine wp_seq (wp_seq (gdE hF (fun h820 hF => ?_)))
    refine bindE hF (fun x5389 hx5390 hF => ?_)
    refine bindE hF (fun y5396 hy5397 hF => ?_)
    refine ifE hF (fun h821 hF => ?_) (fun h821 hF => ?_)
    ·
     refine ifE hF (fun h822 hF => ?_) (fun h822 hF => ?_)
     ·
      refine wp_drawn2 hI [0] (by decide) rfl (by kernel_rfl) (by kernel_rfl) ?_
      intro hsub
      refine alp 0 (.slice Ap1 lp1.length cp1) hsub rfl (by kernel_rfl) (fun _ => (by kernel_rfl)) ?_
      refine alp 1 (iv i_5014) hsub rfl (by kernel_rfl) (fun _ => (by kernel_rfl)) ?_
      obtain ⟨b5398, o5399, hA5400, hb5401, he5402⟩ := hCp1.at_ eCl_len (by decide) hx5390
      refine al_light 2 (.pointer (some ⟨b5398, o5399 + (i_5014).toNat * 4, none⟩)) hsub rfl (by kernel_rfl) (fun w hI => s_indexA (i_5014).toNat Try.underlying26 Try.sizeOf34 rfl hA5400 rfl (Int.toNat_of_nonneg h820).symm (lt_n hx5390 rfl) ⟨rfl, Below.refl _ _⟩) ?_
      refine al_light 3 (.agg #[iv x5389.fam, iv x5389.hd, iv x5389.fr, iv x5389.to]) hsub rfl (by kernel_rfl) (fun w hI => s_loadBK hI [iv x5389.fam, iv x5389.hd, iv x5389.fr, iv x5389.to] Try.isAgg34 Try.sizeOf34 rfl rfl hb5401 (by simp) he5402 ⟨rfl, Below.refl _ _⟩) ?_
      refine al_light 4 (iv y5396) hsub rfl (by kernel_rfl) (fun w hI => s_call 24 [.agg #[iv x5389.fam, iv x5389.hd, iv x5389.fr, iv x5389.to]] (by kernel_rfl) (L24 _ x5389 _ hy5397) (fun v' w' h => h)) ?_
      refine al_light 5 (.bool false) hsub rfl (by kernel_rfl) (fun w hI => s_neq rfl rfl (fun h => absurd (a := y5396 = 0) h821 h) (fun _ => ⟨rfl, Below.refl _ _⟩)) ?_
      refine alp 6 (.bool false) hsub rfl (by kernel_rfl) (fun _ => (by kernel_rfl)) ?_
      refine al_on 7 (.slice Ap1 lp1.length cp1) hsub rfl (by kernel_rfl) (by kernel_rfl) (fun w hI => s_pure (.slice Ap1 lp1.length cp1) (by kernel_rfl) ⟨rfl, Below.refl _ _⟩) ?_
      refine al_on 8 (iv i_5014) hsub rfl (by kernel_rfl) (by kernel_rfl) (fun w hI => s_pure (iv i_5014) (by kernel_rfl) ⟨rfl, Below.refl _ _⟩) ?_
      refine al_on 9 (.pointer (some ⟨b5398, o5399 + (i_5014).toNat * 4, none⟩)) hsub rfl (by kernel_rfl) (by kernel_rfl) (fun w hI => s_indexA (i_5014).toNat Try.underlying26 Try.sizeOf34 rfl hA5400 rfl (Int.toNat_of_nonneg h820).symm (lt_n hx5390 rfl) ⟨rfl, Below.refl _ _⟩) ?_
      refine al_on 10 (.pointer (some ⟨b5398, o5399 + (i_5014).toNat * 4 + 3, none⟩)) hsub rfl (by kernel_rfl) (by kernel_rfl) (fun w hI => s_pure (.pointer (some ⟨b5398, o5399 + (i_5014).toNat * 4 + 3, none⟩)) (by kernel_rfl) ⟨rfl, Below.refl _ _⟩) ?_
      refine al_on 11 (iv x5389.to) hsub rfl (by kernel_rfl) (by kernel_rfl) (fun w hI => s_loadB1 hI (iv x5389.to) Try.isAgg3 rfl hb5401 (by simp) (he5402 3 _ rfl) ⟨rfl, Below.refl _ _⟩) ?_
      refine al_on 12 (.pointer (some ⟨b2810, 1, none⟩)) hsub rfl (by kernel_rfl) (by kernel_rfl) (fun w hI => s_pure (.pointer (some ⟨b2810, 1, none⟩)) (by kernel_rfl) ⟨rfl, Below.refl _ _⟩) ?_
      refine al_on 13 (.slice Ap0_1 lp0_1.length cp0_1) hsub rfl (by kernel_rfl) (by kernel_rfl) (fun w hI => s_load1 hI 0 (.slice Ap0_1 lp0_1.length cp0_1) Try.isAgg23 rfl rfl rfl ⟨rfl, Below.refl _ _⟩) ?_
      refine al_on 14 (iv (lp0_1.length : Int)) hsub rfl (by kernel_rfl) (by kernel_rfl) (fun w hI => s_pure (iv ((lp0_1.length : Nat) : Int)) (by kernel_rfl) ⟨rfl, Below.refl _ _⟩) ?_
      refine al_on 15 (.bool true) hsub rfl (by kernel_rfl) (by kernel_rfl) (fun w hI => s_geq rfl rfl (fun _ => ⟨rfl, Below.refl _ _⟩) (fun h => absurd (a := (lp0_1.length : Int) ≤ x5389.to) h822 h)) ?_
      refine alp 16 (.bool true) hsub rfl (by kernel_rfl) (fun _ => (by kernel_rfl)) ?_
      refine any_end (by kernel_rfl) (fun w hI => ?_)
      refine wp_condT rfl (wp_seq (rgn (by kernel_rfl) (pu (.bool false) (by kernel_rfl) (seq_nil (wp_ret ?_)))))
      replace hF := Option.some.inj hF; subst hF
      exact ⟨.bool false, Ret.r1 rfl rfl, ⟨rfl, hI.below⟩⟩
     ·
      refine wp_drawn2 hI [0] (by decide) rfl (by kernel_rfl) (by kernel_rfl) ?_
      intro hsub
      refine alp 0 (.slice Ap1 lp1.length cp1) hsub rfl (by kernel_rfl) (fun _ => (by kernel_rfl)) ?_
      refine alp 1 (iv i_5014) hsub rfl (by kernel_rfl) (fun _ => (by kernel_rfl)) ?_
      obtain ⟨b5403, o5404, hA5405, hb5406, he5407⟩ := hCp1.at_ eCl_len (by decide) hx5390
      refine al_light 2 (.pointer (some ⟨b5403, o5404 + (i_5014).toNat * 4, none⟩)) hsub rfl (by kernel_rfl) (fun w hI => s_indexA (i_5014).toNat Try.underlying26 Try.sizeOf34 rfl hA5405 rfl (Int.toNat_of_nonneg h820).symm (lt_n hx5390 rfl) ⟨rfl, Below.refl _ _⟩) ?_
      refine al_light 3 (.agg #[iv x5389.fam, iv x5389.hd, iv x5389.fr, iv x5389.to]) hsub rfl (by kernel_rfl) (fun w hI => s_loadBK hI [iv x5389.fam, iv x5389.hd, iv x5389.fr, iv x5389.to] Try.isAgg34 Try.sizeOf34 rfl rfl hb5406 (by simp) he5407 ⟨rfl, Below.refl _ _⟩) ?_
      refine al_light 4 (iv y5396) hsub rfl (by kernel_rfl) (fun w hI => s_call 24 [.agg #[iv x5389.fam, iv x5389.hd, iv x5389.fr, iv x5389.to]] (by kernel_rfl) (L24 _ x5389 _ hy5397) (fun v' w' h => h)) ?_
      refine al_light 5 (.bool false) hsub rfl (by kernel_rfl) (fun w hI => s_neq rfl rfl (fun h => absurd (a := y5396 = 0) h821 h) (fun _ => ⟨rfl, Below.refl _ _⟩)) ?_
      refine alp 6 (.bool false) hsub rfl (by kernel_rfl) (fun _ => (by kernel_rfl)) ?_
      refine al_on 7 (.slice Ap1 lp1.length cp1) hsub rfl (by kernel_rfl) (by kernel_rfl) (fun w hI => s_pure (.slice Ap1 lp1.length cp1) (by kernel_rfl) ⟨rfl, Below.refl _ _⟩) ?_
      refine al_on 8 (iv i_5014) hsub rfl (by kernel_rfl) (by kernel_rfl) (fun w hI => s_pure (iv i_5014) (by kernel_rfl) ⟨rfl, Below.refl _ _⟩) ?_
      refine al_on 9 (.pointer (some ⟨b5403, o5404 + (i_5014).toNat * 4, none⟩)) hsub rfl (by kernel_rfl) (by kernel_rfl) (fun w hI => s_indexA (i_5014).toNat Try.underlying26 Try.sizeOf34 rfl hA5405 rfl (Int.toNat_of_nonneg h820).symm (lt_n hx5390 rfl) ⟨rfl, Below.refl _ _⟩) ?_
      refine al_on 10 (.pointer (some ⟨b5403, o5404 + (i_5014).toNat * 4 + 3, none⟩)) hsub rfl (by kernel_rfl) (by kernel_rfl) (fun w hI => s_pure (.pointer (some ⟨b5403, o5404 + (i_5014).toNat * 4 + 3, none⟩)) (by kernel_rfl) ⟨rfl, Below.refl _ _⟩) ?_
      refine al_on 11 (iv x5389.to) hsub rfl (by kernel_rfl) (by kernel_rfl) (fun w hI => s_loadB1 hI (iv x5389.to) Try.isAgg3 rfl hb5406 (by simp) (he5407 3 _ rfl) ⟨rfl, Below.refl _ _⟩) ?_
      refine al_on 12 (.pointer (some ⟨b2810, 1, none⟩)) hsub rfl (by kernel_rfl) (by kernel_rfl) (fun w hI => s_pure (.pointer (some ⟨b2810, 1, none⟩)) (by kernel_rfl) ⟨rfl, Below.refl _ _⟩) ?_
      refine al_on 13 (.slice Ap0_1 lp0_1.length cp0_1) hsub rfl (by kernel_rfl) (by kernel_rfl) (fun w hI => s_load1 hI 0 (.slice Ap0_1 lp0_1.length cp0_1) Try.isAgg23 rfl rfl rfl ⟨rfl, Below.refl _ _⟩) ?_
      refine al_on 14 (iv (lp0_1.length : Int)) hsub rfl (by kernel_rfl) (by kernel_rfl) (fun w hI => s_pure (iv ((lp0_1.length : Nat) : Int)) (by kernel_rfl) ⟨rfl, Below.refl _ _⟩) ?_
      refine al_on 15 (.bool false) hsub rfl (by kernel_rfl) (by kernel_rfl) (fun w hI => s_geq rfl rfl (fun h => absurd (a := (lp0_1.length : Int) ≤ x5389.to) h h822) (fun _ => ⟨rfl, Below.refl _ _⟩)) ?_
      refine alp 16 (.bool false) hsub rfl (by kernel_rfl) (fun _ => (by kernel_rfl)) ?_
      refine any_end (by kernel_rfl) (fun w hI => ?_)
      refine wp_condF rfl (wp_skip (wp_seq (rgn (by kernel_rfl) (pu (iv 0) (by kernel_rfl) (seq_nil (wp_block ?_))))))
      refine wp_loop (fun m ρ w => ∃ (k_5545 : Int) (mm : Nat), Agree ρ [(1, .slice Ap1 lp1.length cp1), (2, .pointer (some ⟨b2810, 0, none⟩)), (5, iv i_5014), (6, iv k_5545)] ∧ Inv [] w0 w [(some b2810, blk [.slice Ap0_0 lp0_0.length cp0_0, .slice Ap0_1 lp0_1.length cp0_1] 25)] ∧ F65l4 lp1 (F65l2 lp0_1 lp1 N m2) i_5014 x5389 mm k_5545 = some r ∧ mm = m) (m := N) ⟨0, N, ⟨rfl, rfl, rfl, rfl, trivial⟩, hI.pickL [0] (by decide) rfl, hF, rfl⟩ ?_
      rintro m ρ w ⟨k_5545, mm, hag, hI, hF, hm⟩
      subst hm; obtain ⟨ρ, rfl⟩ := hag.form; clear hag
      obtain _ | m4 := mm
      ·cases (show (none : Option Bool) = some r from hF)
      replace hF : F65b4 lp1 (F65l2 lp0_1 lp1 N m2) i_5014 x5389 (F65l4 lp1 (F65l2 lp0_1 lp1 N m2) i_5014 x5389 m4) k_5545 = some r := hF; unfold F65b4 at hF
      refine wp_seq (wp_seq (rgn (by kernel_rfl) (pu (iv k_5545) (by kernel_rfl) (pu (iv i_5014) (by kernel_rfl) (ifE hF (fun h847 hF => ?_) (fun h847 hF => ?_))))))
      ·
       refine seq_c (s_lss rfl rfl (fun _ => ?_) (fun h => absurd (a := k_5545 < i_5014) h847 h))
       refine seq_nil (wp_condT rfl (wp_skip (wp_seq (wp_block ?_))))
       refine wp_seq (gdE hF (fun h854 hF => ?_))
       refine bindE hF (fun x5597 hx5598 hF => ?_)
       refine ifE hF (fun h855 hF => ?_) (fun h855 hF => ?_)
       ·
        refine wp_drawn2 hI [0] (by decide) rfl (by kernel_rfl) (by kernel_rfl) ?_
        intro hsub
        refine alp 0 (.slice Ap1 lp1.length cp1) hsub rfl (by kernel_rfl) (fun _ => (by kernel_rfl)) ?_
        refine alp 1 (iv k_5545) hsub rfl (by kernel_rfl) (fun _ => (by kernel_rfl)) ?_
        obtain ⟨b5604, o5605, hA5606, hb5607, he5608⟩ := hCp1.at_ eCl_len (by decide) hx5598
        refine al_light 2 (.pointer (some ⟨b5604, o5605 + (k_5545).toNat * 4, none⟩)) hsub rfl (by kernel_rfl) (fun w hI => s_indexA (k_5545).toNat Try.underlying26 Try.sizeOf34 rfl hA5606 rfl (Int.toNat_of_nonneg h854).symm (lt_n hx5598 rfl) ⟨rfl, Below.refl _ _⟩) ?_
        refine alp 3 (.pointer (some ⟨b5604, o5605 + (k_5545).toNat * 4, none⟩)) hsub rfl (by kernel_rfl) (fun _ => (by kernel_rfl)) ?_
        refine al_light 4 (iv x5597.fam) hsub rfl (by kernel_rfl) (fun w hI => s_loadB1 hI (iv x5597.fam) Try.isAgg3 rfl hb5607 (by simp) (he5608 0 _ rfl) ⟨rfl, Below.refl _ _⟩) ?_
        refine alp 5 (.slice Ap1 lp1.length cp1) hsub rfl (by kernel_rfl) (fun _ => (by kernel_rfl)) ?_
        refine alp 6 (iv i_5014) hsub rfl (by kernel_rfl) (fun _ => (by kernel_rfl)) ?_
        refine al_light 7 (.pointer (some ⟨b5403, o5404 + (i_5014).toNat * 4, none⟩)) hsub rfl (by kernel_rfl) (fun w hI => s_indexA (i_5014).toNat Try.underlying26 Try.sizeOf34 rfl hA5405 rfl (Int.toNat_of_nonneg h820).symm (lt_n hx5390 rfl) ⟨rfl, Below.refl _ _⟩) ?_
        refine alp 8 (.pointer (some ⟨b5403, o5404 + (i_5014).toNat * 4, none⟩)) hsub rfl (by kernel_rfl) (fun _ => (by kernel_rfl)) ?_
        refine al_light 9 (iv x5389.fam) hsub rfl (by kernel_rfl) (fun w hI => s_loadB1 hI (iv x5389.fam) Try.isAgg3 rfl hb5406 (by simp) (he5407 0 _ rfl) ⟨rfl, Below.refl _ _⟩) ?_
        refine al_light 10 (.bool true) hsub rfl (by kernel_rfl) (fun w hI => s_eql rfl rfl (fun _ => ⟨rfl, Below.refl _ _⟩) (fun h => absurd (a := x5597.fam = x5389.fam) h855 h)) ?_
        refine any_end (by kernel_rfl) (fun w hI => ?_)
        refine wp_condT rfl (wp_seq (rgn (by kernel_rfl) (pu (.bool false) (by kernel_rfl) (seq_nil (wp_ret ?_)))))
        replace hF := Option.some.inj hF; subst hF
        exact ⟨.bool false, Ret.r1 rfl rfl, ⟨rfl, hI.below⟩⟩
       ·
        refine wp_drawn2 hI [0] (by decide) rfl (by kernel_rfl) (by kernel_rfl) ?_
        intro hsub
        refine alp 0 (.slice Ap1 lp1.length cp1) hsub rfl (by kernel_rfl) (fun _ => (by kernel_rfl)) ?_
        refine alp 1 (iv k_5545) hsub rfl (by kernel_rfl) (fun _ => (by kernel_rfl)) ?_
        obtain ⟨b5609, o5610, hA5611, hb5612, he5613⟩ := hCp1.at_ eCl_len (by decide) hx5598
        refine al_light 2 (.pointer (some ⟨b5609, o5610 + (k_5545).toNat * 4, none⟩)) hsub rfl (by kernel_rfl) (fun w hI => s_indexA (k_5545).toNat Try.underlying26 Try.sizeOf34 rfl hA5611 rfl (Int.toNat_of_nonneg h854).symm (lt_n hx5598 rfl) ⟨rfl, Below.refl _ _⟩) ?_
        refine alp 3 (.pointer (some ⟨b5609, o5610 + (k_5545).toNat * 4, none⟩)) hsub rfl (by kernel_rfl) (fun _ => (by kernel_rfl)) ?_
        refine al_light 4 (iv x5597.fam) hsub rfl (by kernel_rfl) (fun w hI => s_loadB1 hI (iv x5597.fam) Try.isAgg3 rfl hb5612 (by simp) (he5613 0 _ rfl) ⟨rfl, Below.refl _ _⟩) ?_
        refine alp 5 (.slice Ap1 lp1.length cp1) hsub rfl (by kernel_rfl) (fun _ => (by kernel_rfl)) ?_
        refine alp 6 (iv i_5014) hsub rfl (by kernel_rfl) (fun _ => (by kernel_rfl)) ?_
        refine al_light 7 (.pointer (some ⟨b5403, o5404 + (i_5014).toNat * 4, none⟩)) hsub rfl (by kernel_rfl) (fun w hI => s_indexA (i_5014).toNat Try.underlying26 Try.sizeOf34 rfl hA5405 rfl (Int.toNat_of_nonneg h820).symm (lt_n hx5390 rfl) ⟨rfl, Below.refl _ _⟩) ?_
        refine alp 8 (.pointer (some ⟨b5403, o5404 + (i_5014).toNat * 4, none⟩)) hsub rfl (by kernel_rfl) (fun _ => (by kernel_rfl)) ?_
        refine al_light 9 (iv x5389.fam) hsub rfl (by kernel_rfl) (fun w hI => s_loadB1 hI (iv x5389.fam) Try.isAgg3 rfl hb5406 (by simp) (he5407 0 _ rfl) ⟨rfl, Below.refl _ _⟩) ?_
        refine al_light 10 (.bool false) hsub rfl (by kernel_rfl) (fun w hI => s_eql rfl rfl (fun h => absurd (a := x5597.fam = x5389.fam) h h855) (fun _ => ⟨rfl, Below.refl _ _⟩)) ?_
        refine any_end (by kernel_rfl) (fun w hI => ?_)
        refine wp_condF rfl (wp_skip (rgn (by kernel_rfl) (pu (iv k_5545) (by kernel_rfl) (ckE hF (fun h856 hF => ?_)))))
        refine seq_c (s_add rfl rfl h856 ?_)
        refine pu (iv (k_5545 + 1)) (by kernel_rfl) (seq_nil ?_)
        exact ⟨rfl, m4, Nat.lt_succ_self _, ⟨k_5545 + 1, m4, ⟨rfl, rfl, rfl, rfl, trivial⟩, hI.pickL [0] (by decide) rfl, hF, rfl⟩⟩
      ·
       refine seq_c (s_lss rfl rfl (fun h => absurd (a := k_5545 < i_5014) h h847) (fun _ => ?_))
       refine seq_nil (wp_condF rfl (wp_exit ?_))
       exact .inl ⟨rfl, ⟨⟨rfl, rfl, rfl, trivial⟩, hI.pickL [0] (by decide) rfl, hF⟩⟩
    ·
     refine wp_drawn2 hI [0] (by decide) rfl (by kernel_rfl) (by kernel_rfl) ?_
     intro hsub
     refine alp 0 (.slice Ap1 lp1.length cp1) hsub rfl (by kernel_rfl) (fun _ => (by kernel_rfl)) ?_
     refine alp 1 (iv i_5014) hsub rfl (by kernel_rfl) (fun _ => (by kernel_rfl)) ?_
     obtain ⟨b5614, o5615, hA5616, hb5617, he5618⟩ := hCp1.at_ eCl_len (by decide) hx5390
     refine al_light 2 (.pointer (some ⟨b5614, o5615 + (i_5014).toNat * 4, none⟩)) hsub rfl (by kernel_rfl) (fun w hI => s_indexA (i_5014).toNat Try.underlying26 Try.sizeOf34 rfl hA5616 rfl (Int.toNat_of_nonneg h820).symm (lt_n hx5390 rfl) ⟨rfl, Below.refl _ _⟩) ?_
     refine al_light 3 (.agg #[iv x5389.fam, iv x5389.hd, iv x5389.fr, iv x5389.to]) hsub rfl (by kernel_rfl) (fun w hI => s_loadBK hI [iv x5389.fam, iv x5389.hd, iv x5389.fr, iv x5389.to] Try.isAgg34 Try.sizeOf34 rfl rfl hb5617 (by simp) he5618 ⟨rfl, Below.refl _ _⟩) ?_
     refine al_light 4 (iv y5396) hsub rfl (by kernel_rfl) (fun w hI => s_call 24 [.agg #[iv x5389.fam, iv x5389.hd, iv x5389.fr, iv x5389.to]] (by kernel_rfl) (L24 _ x5389 _ hy5397) (fun v' w' h => h)) ?_
     refine al_light 5 (.bool true) hsub rfl (by kernel_rfl) (fun w hI => s_neq rfl rfl (fun _ => ⟨rfl, Below.refl _ _⟩) (fun h => absurd (a := y5396 = 0) h h821)) ?_
     refine alp 6 (.bool true) hsub rfl (by kernel_rfl) (fun _ => (by kernel_rfl)) ?_
     refine al_off 7 hsub rfl (by kernel_rfl) (by kernel_rfl) ?_
     refine al_off 8 hsub rfl (by kernel_rfl) (by kernel_rfl) ?_
     refine al_off 9 hsub rfl (by kernel_rfl) (by kernel_rfl) ?_
     refine al_off 10 hsub rfl (by kernel_rfl) (by kernel_rfl) ?_
     refine al_off 11 hsub rfl (by kernel_rfl) (by kernel_rfl) ?_
     refine al_off 12 hsub rfl (by kernel_rfl) (by kernel_rfl) ?_
     refine al_off 13 hsub rfl (by kernel_rfl) (by kernel_rfl) ?_
     refine al_off 14 hsub rfl (by kernel_rfl) (by kernel_rfl) ?_
     refine al_off 15 hsub rfl (by kernel_rfl) (by kernel_rfl) ?_
     refine alp 16 (.bool true) hsub rfl (by kernel_rfl) (fun _ => (by kernel_rfl)) ?_
     refine any_end (by kernel_rfl) (fun w hI => ?_)
     refine wp_condT rfl (wp_seq (rgn (by kernel_rfl) (pu (.bool false) (by kernel_rfl) (seq_nil (wp_ret ?_)))))
     replace hF := Option.some.inj hF; subst hF
     exact ⟨.bool false, Ret.r1 rfl rfl, ⟨rfl, hI.below⟩⟩
   ·intro ρ w hJ
    obtain ⟨hag, hI, hF⟩ := hJ
    obtain ⟨ρ, rfl⟩ := hag.form; clear hag
    unfold F65j3 at hF
    refine rgn (by kernel_rfl) (pu (iv i_5014) (by kernel_rfl) (ckE hF (fun h810 hF => ?_)))
    refine seq_c (s_add rfl rfl h810 ?_)
    refine pu (iv (i_5014 + 1)) (by kernel_rfl) (seq_nil ?_)
    exact ⟨rfl, m2, Nat.lt_succ_self _, ⟨i_5014 + 1, m2, ⟨rfl, rfl, rfl, trivial⟩, hI.pickL [0] (by decide) rfl, hF, rfl⟩⟩
  ·
   refine seq_c (s_lss rfl rfl (fun h => absurd (a := i_5014 < (lp1.length : Int)) h h763) (fun _ => ?_))
   refine seq_nil (wp_condF rfl (wp_exit ?_))
   exact .inl ⟨rfl, ⟨⟨rfl, trivial⟩, hI.pickL [] (by decide) rfl, hF⟩⟩
 ·intro ρ w hJ
  obtain ⟨hag, hI, hF⟩ := hJ
  obtain ⟨ρ, rfl⟩ := hag.form; clear hag
  unfold F65j1 at hF
  refine wp_seq (rgn (by kernel_rfl) (pu (.slice Ap1 lp1.length cp1) (by kernel_rfl) (pu (iv ((lp1.length : Nat) : Int)) (by kernel_rfl) (bindE hF (fun y4215 hy4216 hF => ?_)))))
  refine seq_c (s_callv hI 61 [iv (lp1.length : Int), iv 1, iv 12] (.bool y4215) (by kernel_rfl) (L61 _ (lp1.length : Int) 1 12 _ hy4216) ?_)
  intro w hI
  refine pu (.bool y4215) (by kernel_rfl) (seq_nil (wp_ret ?_))
  replace hF := Option.some.inj hF; subst hF
  exact ⟨.bool y4215, Ret.r1 rfl rfl, ⟨rfl, hI.below⟩⟩


theorem L18 (w0 : World) (Ap0_0 : Option Addr) (cp0_0 : Nat) (lp0_0 : List Ch) (Ap0_1 : Option Addr) (cp0_1 : Nat) (lp0_1 : List Ce) (Ap1 : Option Addr) (cp1 : Nat) (lp1 : List Cl) (hCp0_0 : Cells w0 Ap0_0 (flat eCh lp0_0)) (hMp0_0 : lp0_0.length ≤ 9223372036854775807) (hKp0_0 : lp0_0.length ≤ cp0_0) (hCp0_1 : Cells w0 Ap0_1 (flat eCe lp0_1)) (hMp0_1 : lp0_1.length ≤ 9223372036854775807) (hKp0_1 : lp0_1.length ≤ cp0_1) (hCp1 : Cells w0 Ap1 (flat eCl lp1)) (hMp1 : lp1.length ≤ 9223372036854775807) (hKp1 : lp1.length ≤ cp1) (N : Nat) (r : Int) (hF : F18 N lp0_0 lp0_1 lp1 = some r) : Does Try.prog 18 [.agg #[.slice Ap0_0 lp0_0.length cp0_0, .slice Ap0_1 lp0_1.length cp0_1], .slice Ap1 lp1.length cp1] w0 fun v w => v = .int .i64 r ∧ Below w0.heap.size w0 w := by
 refine calls_of (n := 12) Try.func18 rfl Try.ntmps18 rfl ?_
 have hI := Inv.start w0
 unfold F18 at hF
 refine wp_seq (rgn (by kernel_rfl) (seq_c (s_boxI hI [.slice Ap0_0 lp0_0.length cp0_0, .slice Ap0_1 lp0_1.length cp0_1] rfl ?_)))
 intro b18 w hI
 refine pu (iv 0) (by kernel_rfl) (seq_nil (wp_seq (wp_seq (rgn (by kernel_rfl) (seq_c (s_loadK hI 0 2 [.slice Ap0_0 lp0_0.length cp0_0, .slice Ap0_1 lp0_1.length cp0_1] Try.isAgg25 Try.sizeOf25 rfl rfl rfl rfl ?_))))))
 refine bindE hF (fun y25 hy26 hF => ?_)
 refine seq_c (s_callv hI 16 [.agg #[.slice Ap0_0 lp0_0.length cp0_0, .slice Ap0_1 lp0_1.length cp0_1]] (iv y25) (by kernel_rfl) (L16 _ Ap0_0 cp0_0 lp0_0 Ap0_1 cp0_1 lp0_1 (hCp0_0.inv0 hI) hMp0_0 hKp0_0 (hCp0_1.inv0 hI) hMp0_1 hKp0_1 N _ hy26) ?_)
 intro w hI
 refine ifE hF (fun h12 hF => ?_) (fun h12 hF => ?_)
 ·
  refine seq_c (s_neq rfl rfl (fun h => absurd (a := y25 = 0) h12 h) (fun _ => ?_))
  refine seq_nil (wp_condF rfl (wp_skip (wp_seq (wp_seq (rgn (by kernel_rfl) (seq_c (s_loadK hI 0 2 [.slice Ap0_0 lp0_0.length cp0_0, .slice Ap0_1 lp0_1.length cp0_1] Try.isAgg25 Try.sizeOf25 rfl rfl rfl rfl ?_)))))))
  refine pu (.slice Ap1 lp1.length cp1) (by kernel_rfl) (bindE hF (fun y33 hy34 hF => ?_))
  refine ifE hF (fun h16 hF => ?_) (fun h16 hF => ?_)
  ·
   refine seq_c (s_callv hI 65 [.agg #[.slice Ap0_0 lp0_0.length cp0_0, .slice Ap0_1 lp0_1.length cp0_1], .slice Ap1 lp1.length cp1] (.bool true) (by kernel_rfl) (Does.mono (L65 _ Ap0_0 cp0_0 lp0_0 Ap0_1 cp0_1 lp0_1 Ap1 cp1 lp1 (hCp0_0.inv0 hI) hMp0_0 hKp0_0 (hCp0_1.inv0 hI) hMp0_1 hKp0_1 (hCp1.inv0 hI) hMp1 hKp1 N _ hy34) (fun v' w' h => ⟨h.1.trans (congrArg Value.bool h16), h.2⟩)) ?_)
   intro w hI
   refine pu (.bool false) (by kernel_rfl) (seq_nil (wp_condF rfl (wp_skip (wp_seq (rgn (by kernel_rfl) (pu (iv 0) (by kernel_rfl) (seq_nil (wp_ret ?_))))))))
   replace hF := Option.some.inj hF; subst hF
   exact ⟨iv 0, Ret.r1 rfl rfl, ⟨rfl, hI.below⟩⟩
  ·
   refine seq_c (s_callv hI 65 [.agg #[.slice Ap0_0 lp0_0.length cp0_0, .slice Ap0_1 lp0_1.length cp0_1], .slice Ap1 lp1.length cp1] (.bool false) (by kernel_rfl) (Does.mono (L65 _ Ap0_0 cp0_0 lp0_0 Ap0_1 cp0_1 lp0_1 Ap1 cp1 lp1 (hCp0_0.inv0 hI) hMp0_0 hKp0_0 (hCp0_1.inv0 hI) hMp0_1 hKp0_1 (hCp1.inv0 hI) hMp1 hKp1 N _ hy34) (fun v' w' h => ⟨h.1.trans (congrArg Value.bool (Bool.eq_false_iff.2 h16)), h.2⟩)) ?_)
   intro w hI
   refine pu (.bool true) (by kernel_rfl) (seq_nil (wp_condT rfl (wp_seq (rgn (by kernel_rfl) (pu (iv 44) (by kernel_rfl) (seq_nil (wp_ret ?_)))))))
   replace hF := Option.some.inj hF; subst hF
   exact ⟨iv 44, Ret.r1 rfl rfl, ⟨rfl, hI.below⟩⟩
 ·
  refine seq_c (s_neq rfl rfl (fun _ => ?_) (fun h => absurd (a := y25 = 0) h h12))
  refine seq_nil (wp_condT rfl (wp_seq (rgn (by kernel_rfl) (pu (iv 42) (by kernel_rfl) (seq_nil (wp_ret ?_))))))
  replace hF := Option.some.inj hF; subst hF
  exact ⟨iv 42, Ret.r1 rfl rfl, ⟨rfl, hI.below⟩⟩


theorem L13 (w0 : World) (Ap0_0 : Option Addr) (cp0_0 : Nat) (lp0_0 : List Ch) (Ap0_1 : Option Addr) (cp0_1 : Nat) (lp0_1 : List Ce) (Ap1 : Option Addr) (cp1 : Nat) (lp1 : List Cl) (p2 : Int) (hCp0_0 : Cells w0 Ap0_0 (flat eCh lp0_0)) (hMp0_0 : lp0_0.length ≤ 9223372036854775807) (hKp0_0 : lp0_0.length ≤ cp0_0) (hCp0_1 : Cells w0 Ap0_1 (flat eCe lp0_1)) (hMp0_1 : lp0_1.length ≤ 9223372036854775807) (hKp0_1 : lp0_1.length ≤ cp0_1) (hCp1 : Cells w0 Ap1 (flat eCl lp1)) (hMp1 : lp1.length ≤ 9223372036854775807) (hKp1 : lp1.length ≤ cp1) (N : Nat) (r : (List Cl × Int)) (hF : F13 N lp0_0 lp0_1 lp1 p2 = some r) : Does Try.prog 13 [.agg #[.slice Ap0_0 lp0_0.length cp0_0, .slice Ap0_1 lp0_1.length cp0_1], .slice Ap1 lp1.length cp1, .int .i64 p2] w0 fun v w => ∃ (z0 : Option Nat) (z1 : Nat) (z2 : List Value), v = .tuple #[slv z0 r.1.length z1, .int .i64 r.2] ∧ Inv [] w0 w [(z0, blk z2 34)] ∧ Row 4 z0 r.1.length z1 z2 (flat eCl r.1) := by
 refine calls_of (n := 32) Try.func13 rfl Try.ntmps13 rfl ?_
 have hI := Inv.start w0
 unfold F13 at hF
 refine wp_seq (rgn (by kernel_rfl) (seq_c (s_boxI hI [.slice Ap0_0 lp0_0.length cp0_0, .slice Ap0_1 lp0_1.length cp0_1] rfl ?_)))
 intro b66 w hI
 refine pu (.slice none 0 0) (by kernel_rfl) (pu (iv 0) (by kernel_rfl) (seq_nil (wp_seq (rgn (by kernel_rfl) (seq_c (s_loadK hI 0 2 [.slice Ap0_0 lp0_0.length cp0_0, .slice Ap0_1 lp0_1.length cp0_1] Try.isAgg25 Try.sizeOf25 rfl rfl rfl rfl ?_))))))
 refine pu (.slice Ap1 lp1.length cp1) (by kernel_rfl) (bindE hF (fun y69 hy70 hF => ?_))
 refine seq_c (s_callv hI 18 [.agg #[.slice Ap0_0 lp0_0.length cp0_0, .slice Ap0_1 lp0_1.length cp0_1], .slice Ap1 lp1.length cp1] (iv y69) (by kernel_rfl) (L18 _ Ap0_0 cp0_0 lp0_0 Ap0_1 cp0_1 lp0_1 Ap1 cp1 lp1 (hCp0_0.inv0 hI) hMp0_0 hKp0_0 (hCp0_1.inv0 hI) hMp0_1 hKp0_1 (hCp1.inv0 hI) hMp1 hKp1 N _ hy70) ?_)
 intro w hI
 refine pu (iv y69) (by kernel_rfl) (seq_nil (wp_seq (wp_seq (rgn (by kernel_rfl) (pu (iv y69) (by kernel_rfl) (ifE hF (fun h24 hF => ?_) (fun h24 hF => ?_)))))))
 ·
  refine seq_c (s_neq rfl rfl (fun h => absurd (a := y69 = 0) h24 h) (fun _ => ?_))
  refine seq_nil (wp_condF rfl (wp_skip (wp_seq (wp_seq (rgn (by kernel_rfl) (pu (iv p2) (by kernel_rfl) (bindE hF (fun y77 hy78 hF => ?_))))))))
  refine ifE hF (fun h28 hF => ?_) (fun h28 hF => ?_)
  ·
   refine seq_c (s_callv hI 61 [iv p2, iv 0, iv 4166] (.bool true) (by kernel_rfl) (Does.mono (L61 _ p2 0 4166 _ hy78) (fun v' w' h => ⟨h.1.trans (congrArg Value.bool h28), h.2⟩)) ?_)
   intro w hI
   refine pu (.bool false) (by kernel_rfl) (seq_nil (wp_condF rfl (wp_skip (wp_seq (rgn (by kernel_rfl) (pu (iv p2) (by kernel_rfl) (pu (.slice Ap1 lp1.length cp1) (by kernel_rfl) (pu (iv ((lp1.length : Nat) : Int)) (by kernel_rfl) (gdE hF (fun h30 hF => ?_))))))))))
   refine seq_c (s_rem rfl rfl h30 ?_)
   refine pu (iv (p2.tmod (lp1.length : Int))) (by kernel_rfl) (seq_nil (wp_seq (gdE hF (fun h36 hF => ?_))))
   refine gdE hF (fun h37 hF => ?_)
   refine gdE hF (fun h38 hF => ?_)
   refine gdE hF (fun h39 hF => ?_)
   refine gdE hF (fun h40 hF => ?_)
   refine wp_drawn2 hI [0] (by decide) rfl (by kernel_rfl) (by kernel_rfl) ?_
   intro hsub
   refine alp 1 (.slice Ap1 lp1.length cp1) hsub rfl (by kernel_rfl) (fun _ => (by kernel_rfl)) ?_
   refine alp 2 (iv (p2.tmod (lp1.length : Int))) hsub rfl (by kernel_rfl) (fun _ => (by kernel_rfl)) ?_
   obtain ⟨A118, hC119, hA118⟩ := cutA (enc := eCl) (l := lp1) (lo := (p2.tmod (lp1.length : Int)).toNat) (hi := lp1.length) (c := cp1) (k := 4) eCl_len hCp1 h37 hKp1
   refine al_light 3 (.slice A118 (((lp1.drop ((p2.tmod (lp1.length : Int)).toNat)).take (lp1.length - ((p2.tmod (lp1.length : Int)).toNat))).length) (cp1 - ((p2.tmod (lp1.length : Int)).toNat))) hsub rfl (by kernel_rfl) (fun w hI => hA118 Try.underlying26 Try.sizeOf34 rfl (.inl (congrArg (fun z => some (Value.int .i64 z)) (Int.toNat_of_nonneg h36).symm)) (.inr ⟨rfl, rfl⟩) ⟨rfl, Below.refl _ _⟩) ?_
   refine alp 5 (.slice Ap1 lp1.length cp1) hsub rfl (by kernel_rfl) (fun _ => (by kernel_rfl)) ?_
   refine alp 6 (iv (p2.tmod (lp1.length : Int))) hsub rfl (by kernel_rfl) (fun _ => (by kernel_rfl)) ?_
   obtain ⟨A120, hC121, hA120⟩ := cutA (enc := eCl) (l := lp1) (lo := 0) (hi := (p2.tmod (lp1.length : Int)).toNat) (c := cp1) (k := 4) eCl_len hCp1 h39 hKp1
   refine al_light 7 (.slice A120 (((lp1.drop 0).take ((p2.tmod (lp1.length : Int)).toNat - 0)).length) (cp1 - 0)) hsub rfl (by kernel_rfl) (fun w hI => hA120 Try.underlying26 Try.sizeOf34 rfl (.inr ⟨rfl, rfl⟩) (.inl (congrArg (fun z => some (Value.int .i64 z)) (Int.toNat_of_nonneg h36).symm)) ⟨rfl, Below.refl _ _⟩) ?_
   refine any_heavy [0] (by kernel_rfl) rfl (each1 ?_)
   intro w hI
   refine ol_c rfl (s_new hI [] 34 (fun b => slv (some b) 0 0) (by kernel_rfl) ?_)
   intro b122 w hI
   refine ⟨_, hI, subk (fun _ h => h.pickL [1] (by decide) rfl) ?_⟩
   intro hsub
   refine any_heavy [4] (by kernel_rfl) rfl (each1 ?_)
   intro w hI
   refine ol_c rfl (s_appN hI Try.underlying26 (z := .agg #[iv 0, iv 0, iv 0, iv 0]) (k := 4) (bytes := 32) (by kernel_rfl) rfl rfl 0 rfl rfl (Row.zero_ 4 b122) (flat eCl ((lp1.drop ((p2.tmod (lp1.length : Int)).toNat)).take (lp1.length - ((p2.tmod (lp1.length : Int)).toNat)))) rfl (flat_len eCl_len _) (hC119.inv0 hI) (flat_cell eCl_cell _) (by omega) (by omega) (n2 := ((lp1.drop ((p2.tmod (lp1.length : Int)).toNat)).take (lp1.length - ((p2.tmod (lp1.length : Int)).toNat))).length) (app_len0 rfl) ?_)
   intro g123 c124 cl125 w hI r126
   refine ⟨_, hI, subk (fun _ h => h.pickL [1] (by decide) rfl) ?_⟩
   intro hsub
   have r126 : Row 4 g123 (((lp1.drop ((p2.tmod (lp1.length : Int)).toNat)).take (lp1.length - ((p2.tmod (lp1.length : Int)).toNat))).length) c124 cl125 (flat eCl ((lp1.drop ((p2.tmod (lp1.length : Int)).toNat)).take (lp1.length - ((p2.tmod (lp1.length : Int)).toNat)))) := r126
   refine any_heavy [8] (by kernel_rfl) rfl (each1 ?_)
   intro w hI
   refine ol_c rfl (s_appN hI Try.underlying26 (z := .agg #[iv 0, iv 0, iv 0, iv 0]) (k := 4) (bytes := 32) (by kernel_rfl) rfl rfl 0 rfl rfl r126 (flat eCl ((lp1.drop 0).take ((p2.tmod (lp1.length : Int)).toNat - 0))) rfl (flat_len eCl_len _) (hC121.inv0 hI) (flat_cell eCl_cell _) (by omega) (by omega) (n2 := (((lp1.drop ((p2.tmod (lp1.length : Int)).toNat)).take (lp1.length - ((p2.tmod (lp1.length : Int)).toNat))) ++ ((lp1.drop 0).take ((p2.tmod (lp1.length : Int)).toNat - 0))).length) (app_len rfl rfl) ?_)
   intro g127 c128 cl129 w hI r130
   refine ⟨_, hI, subk (fun _ h => h.pickL [1] (by decide) rfl) ?_⟩
   intro hsub
   have r130 : Row 4 g127 ((((lp1.drop ((p2.tmod (lp1.length : Int)).toNat)).take (lp1.length - ((p2.tmod (lp1.length : Int)).toNat))) ++ ((lp1.drop 0).take ((p2.tmod (lp1.length : Int)).toNat - 0))).length) c128 cl129 (flat eCl (((lp1.drop ((p2.tmod (lp1.length : Int)).toNat)).take (lp1.length - ((p2.tmod (lp1.length : Int)).toNat))) ++ ((lp1.drop 0).take ((p2.tmod (lp1.length : Int)).toNat - 0)))) := r130.more
   refine alp 9 (slv g127 ((((lp1.drop ((p2.tmod (lp1.length : Int)).toNat)).take (lp1.length - ((p2.tmod (lp1.length : Int)).toNat))) ++ ((lp1.drop 0).take ((p2.tmod (lp1.length : Int)).toNat - 0))).length) c128) hsub rfl (by kernel_rfl) (fun _ => (by kernel_rfl)) ?_
   refine alp 10 (iv 0) hsub rfl (by kernel_rfl) (fun _ => (by kernel_rfl)) ?_
   refine any_end (by kernel_rfl) (fun w hI => ?_)
   refine wp_ret ?_
   replace hF := Option.some.inj hF; subst hF
   exact ⟨.tuple #[slv g127 ((((lp1.drop ((p2.tmod (lp1.length : Int)).toNat)).take (lp1.length - ((p2.tmod (lp1.length : Int)).toNat))) ++ ((lp1.drop 0).take ((p2.tmod (lp1.length : Int)).toNat - 0))).length) c128, iv 0], Ret.r2 rfl rfl rfl, ⟨g127, c128, cl129, rfl, hI.pickL [0] (by decide) rfl, r130.to rfl rfl⟩⟩
  ·
   refine seq_c (s_callv hI 61 [iv p2, iv 0, iv 4166] (.bool false) (by kernel_rfl) (Does.mono (L61 _ p2 0 4166 _ hy78) (fun v' w' h => ⟨h.1.trans (congrArg Value.bool (Bool.eq_false_iff.2 h28)), h.2⟩)) ?_)
   intro w hI
   refine pu (.bool true) (by kernel_rfl) (seq_nil (wp_condT rfl (wp_seq (rgn (by kernel_rfl) (pu (.slice none 0 0) (by kernel_rfl) (pu (iv 6) (by kernel_rfl) (seq_nil (wp_ret ?_))))))))
   have hI := hI.nilRow 34
   replace hF := Option.some.inj hF; subst hF
   exact ⟨.tuple #[.slice none 0 0, iv 6], Ret.r2 rfl rfl rfl, ⟨none, 0, [], rfl, hI.pickL [0] (by decide) rfl, Row.nil_ 4⟩⟩
 ·
  refine seq_c (s_neq rfl rfl (fun _ => ?_) (fun h => absurd (a := y69 = 0) h h24))
  refine seq_nil (wp_condT rfl (wp_seq (rgn (by kernel_rfl) (pu (iv y69) (by kernel_rfl) (pu (.slice none 0 0) (by kernel_rfl) (pu (iv y69) (by kernel_rfl) (seq_nil (wp_ret ?_))))))))
  have hI := hI.nilRow 34
  replace hF := Option.some.inj hF; subst hF
  exact ⟨.tuple #[.slice none 0 0, iv y69], Ret.r2 rfl rfl rfl, ⟨none, 0, [], rfl, hI.pickL [0] (by decide) rfl, Row.nil_ 4⟩⟩


theorem L14 (w0 : World) (Ap0 : Option Addr) (cp0 : Nat) (lp0 : List Cl) (Ap1 : Option Addr) (cp1 : Nat) (lp1 : List Cl) (hCp0 : Cells w0 Ap0 (flat eCl lp0)) (hMp0 : lp0.length ≤ 9223372036854775807) (hKp0 : lp0.length ≤ cp0) (hCp1 : Cells w0 Ap1 (flat eCl lp1)) (hMp1 : lp1.length ≤ 9223372036854775807) (hKp1 : lp1.length ≤ cp1) (N : Nat) (r : Bool) (hF : F14 N lp0 lp1 = some r) : Does Try.prog 14 [.slice Ap0 lp0.length cp0, .slice Ap1 lp1.length cp1] w0 fun v w => v = .bool r ∧ Below w0.heap.size w0 w := by
 refine calls_of (n := 31) Try.func14 rfl Try.ntmps14 rfl ?_
 have hI := Inv.start w0
 unfold F14 at hF
 refine wp_seq (rgn (by kernel_rfl) (pu (.bool false) (by kernel_rfl) (seq_nil (wp_cutO (fun ρ w => ∃ (same_437 : Bool), Agree ρ [(0, .slice Ap0 lp0.length cp0), (1, .slice Ap1 lp1.length cp1), (5, .bool same_437)] ∧ Inv [] w0 w [] ∧ F14j1 lp0 lp1 N same_437 = some r) ?_ ?_))))
 ·
  refine rgn (by kernel_rfl) (pu (.slice Ap0 lp0.length cp0) (by kernel_rfl) (pu (iv ((lp0.length : Nat) : Int)) (by kernel_rfl) (pu (.slice Ap1 lp1.length cp1) (by kernel_rfl) (pu (iv ((lp1.length : Nat) : Int)) (by kernel_rfl) (ifE hF (fun h148 hF => ?_) (fun h148 hF => ?_))))))
  ·
   refine seq_c (s_eql rfl rfl (fun _ => ?_) (fun h => absurd (a := (lp0.length : Int) = (lp1.length : Int)) h148 h))
   refine pu (.bool true) (by kernel_rfl) (seq_nil ?_)
   exact .inl ⟨rfl, ⟨true, ⟨rfl, rfl, rfl, trivial⟩, hI.pickL [] (by decide) rfl, hF⟩⟩
  ·
   refine seq_c (s_eql rfl rfl (fun h => absurd (a := (lp0.length : Int) = (lp1.length : Int)) h h148) (fun _ => ?_))
   refine pu (.bool false) (by kernel_rfl) (seq_nil ?_)
   exact .inl ⟨rfl, ⟨false, ⟨rfl, rfl, rfl, trivial⟩, hI.pickL [] (by decide) rfl, hF⟩⟩
 ·intro ρ w hJ
  obtain ⟨same_437, hag, hI, hF⟩ := hJ
  obtain ⟨ρ, rfl⟩ := hag.form; clear hag
  unfold F14j1 at hF
  refine wp_cutO (fun ρ w => ∃ (same_655 : Bool), Agree ρ [(5, .bool same_655)] ∧ Inv [] w0 w [] ∧ F14j2 same_655 = some r) ?_ ?_
  ·
   refine wp_seq (rgn (by kernel_rfl) (pu (iv 0) (by kernel_rfl) (seq_nil (wp_block ?_))))
   refine wp_loop (fun m ρ w => ∃ (same_800 : Bool) (i_801 : Int) (mm : Nat), Agree ρ [(0, .slice Ap0 lp0.length cp0), (1, .slice Ap1 lp1.length cp1), (5, .bool same_800), (6, iv i_801)] ∧ Inv [] w0 w [] ∧ F14l3 lp0 lp1 mm same_800 i_801 = some r ∧ mm = m) (m := N) ⟨same_437, 0, N, ⟨rfl, rfl, rfl, rfl, trivial⟩, hI.pickL [] (by decide) rfl, hF, rfl⟩ ?_
   rintro m ρ w ⟨same_800, i_801, mm, hag, hI, hF, hm⟩
   subst hm; obtain ⟨ρ, rfl⟩ := hag.form; clear hag
   obtain _ | m3 := mm
   ·cases (show (none : Option Bool) = some r from hF)
   replace hF : F14b3 lp0 lp1 (F14l3 lp0 lp1 m3) same_800 i_801 = some r := hF; unfold F14b3 at hF
   refine wp_seq (wp_cutO (fun ρ w => ∃ (same_803 : Bool), Agree ρ [(0, .slice Ap0 lp0.length cp0), (1, .slice Ap1 lp1.length cp1), (5, .bool same_803), (6, iv i_801), (18, .bool false)] ∧ Inv [] w0 w [] ∧ F14j4 same_803 = some r) ?_ ?_)
   ·
    have hG := hF; rcases Bool.eq_false_or_eq_true same_800 with rfl | rfl
    ·
     have hF := hG; clear hG
     refine ifE hF (fun _ hF => ?_) (fun h => absurd rfl h)
     refine rgn (by kernel_rfl) (pu (iv i_801) (by kernel_rfl) (pu (.slice Ap0 lp0.length cp0) (by kernel_rfl) (pu (iv ((lp0.length : Nat) : Int)) (by kernel_rfl) (ifE hF (fun h141 hF => ?_) (fun h141 hF => ?_)))))
     ·
      refine seq_c (s_lss rfl rfl (fun _ => ?_) (fun h => absurd (a := i_801 < (lp0.length : Int)) h141 h))
      refine pu (.bool true) (by kernel_rfl) (puo (.bool true) ⟨(by kernel_rfl), (by kernel_rfl)⟩ (pu (.bool true) (by kernel_rfl) (seq_nil (.inr ?_))))
      refine wp_condT rfl (wp_skip (wp_cutO (fun ρ w => ∃ (same_838 : Bool), Agree ρ [(0, .slice Ap0 lp0.length cp0), (1, .slice Ap1 lp1.length cp1), (5, .bool same_838), (6, iv i_801)] ∧ Inv [] w0 w [] ∧ F14j5 (F14l3 lp0 lp1 m3) i_801 same_838 = some r) ?_ ?_))
      ·
       refine wp_block ?_
       refine gdE hF (fun h145 hF => ?_)
       refine bindE hF (fun x839 hx840 hF => ?_)
       refine bindE hF (fun x846 hx847 hF => ?_)
       refine ifE hF (fun h146 hF => ?_) (fun h146 hF => ?_)
       ·
        refine wp_drawn2 hI [] (by decide) rfl (by kernel_rfl) (by kernel_rfl) ?_
        intro hsub
        refine alp 0 (.slice Ap0 lp0.length cp0) hsub rfl (by kernel_rfl) (fun _ => (by kernel_rfl)) ?_
        refine alp 1 (iv i_801) hsub rfl (by kernel_rfl) (fun _ => (by kernel_rfl)) ?_
        obtain ⟨b853, o854, hA855, hb856, he857⟩ := hCp0.at_ eCl_len (by decide) hx840
        refine al_light 2 (.pointer (some ⟨b853, o854 + (i_801).toNat * 4, none⟩)) hsub rfl (by kernel_rfl) (fun w hI => s_indexA (i_801).toNat Try.underlying26 Try.sizeOf34 rfl hA855 rfl (Int.toNat_of_nonneg h145).symm (lt_n hx840 rfl) ⟨rfl, Below.refl _ _⟩) ?_
        refine al_light 3 (.agg #[iv x839.fam, iv x839.hd, iv x839.fr, iv x839.to]) hsub rfl (by kernel_rfl) (fun w hI => s_loadBK hI [iv x839.fam, iv x839.hd, iv x839.fr, iv x839.to] Try.isAgg34 Try.sizeOf34 rfl rfl hb856 (by simp) he857 ⟨rfl, Below.refl _ _⟩) ?_
        refine alp 4 (.slice Ap1 lp1.length cp1) hsub rfl (by kernel_rfl) (fun _ => (by kernel_rfl)) ?_
        refine alp 5 (iv i_801) hsub rfl (by kernel_rfl) (fun _ => (by kernel_rfl)) ?_
        obtain ⟨b858, o859, hA860, hb861, he862⟩ := hCp1.at_ eCl_len (by decide) hx847
        refine al_light 6 (.pointer (some ⟨b858, o859 + (i_801).toNat * 4, none⟩)) hsub rfl (by kernel_rfl) (fun w hI => s_indexA (i_801).toNat Try.underlying26 Try.sizeOf34 rfl hA860 rfl (Int.toNat_of_nonneg h145).symm (lt_n hx847 rfl) ⟨rfl, Below.refl _ _⟩) ?_
        refine al_light 7 (.agg #[iv x846.fam, iv x846.hd, iv x846.fr, iv x846.to]) hsub rfl (by kernel_rfl) (fun w hI => s_loadBK hI [iv x846.fam, iv x846.hd, iv x846.fr, iv x846.to] Try.isAgg34 Try.sizeOf34 rfl rfl hb861 (by simp) he862 ⟨rfl, Below.refl _ _⟩) ?_
        refine al_light 8 (.bool true) hsub rfl (by kernel_rfl) (fun w hI => s_eqlA (b := decide (x839.fam = x846.fam) && decide (x839.hd = x846.hd) && decide (x839.fr = x846.fr) && decide (x839.to = x846.to)) rfl rfl (by kernel_rfl) (fun w => eq34 _ x839.fam x839.hd x839.fr x839.to x846.fam x846.hd x846.fr x846.to w) (fun _ => ⟨rfl, Below.refl _ _⟩) (fun h => absurd (a := (decide (x839.fam = x846.fam) && decide (x839.hd = x846.hd) && decide (x839.fr = x846.fr) && decide (x839.to = x846.to)) = true) h146 h)) ?_
        refine alp 9 (.bool true) hsub rfl (by kernel_rfl) (fun _ => (by kernel_rfl)) ?_
        refine any_end (by kernel_rfl) (fun w hI => ?_)
        exact .inl ⟨rfl, ⟨true, ⟨rfl, rfl, rfl, rfl, trivial⟩, hI.pickL [] (by decide) rfl, hF⟩⟩
       ·
        refine wp_drawn2 hI [] (by decide) rfl (by kernel_rfl) (by kernel_rfl) ?_
        intro hsub
        refine alp 0 (.slice Ap0 lp0.length cp0) hsub rfl (by kernel_rfl) (fun _ => (by kernel_rfl)) ?_
        refine alp 1 (iv i_801) hsub rfl (by kernel_rfl) (fun _ => (by kernel_rfl)) ?_
        obtain ⟨b863, o864, hA865, hb866, he867⟩ := hCp0.at_ eCl_len (by decide) hx840
        refine al_light 2 (.pointer (some ⟨b863, o864 + (i_801).toNat * 4, none⟩)) hsub rfl (by kernel_rfl) (fun w hI => s_indexA (i_801).toNat Try.underlying26 Try.sizeOf34 rfl hA865 rfl (Int.toNat_of_nonneg h145).symm (lt_n hx840 rfl) ⟨rfl, Below.refl _ _⟩) ?_
        refine al_light 3 (.agg #[iv x839.fam, iv x839.hd, iv x839.fr, iv x839.to]) hsub rfl (by kernel_rfl) (fun w hI => s_loadBK hI [iv x839.fam, iv x839.hd, iv x839.fr, iv x839.to] Try.isAgg34 Try.sizeOf34 rfl rfl hb866 (by simp) he867 ⟨rfl, Below.refl _ _⟩) ?_
        refine alp 4 (.slice Ap1 lp1.length cp1) hsub rfl (by kernel_rfl) (fun _ => (by kernel_rfl)) ?_
        refine alp 5 (iv i_801) hsub rfl (by kernel_rfl) (fun _ => (by kernel_rfl)) ?_
        obtain ⟨b868, o869, hA870, hb871, he872⟩ := hCp1.at_ eCl_len (by decide) hx847
        refine al_light 6 (.pointer (some ⟨b868, o869 + (i_801).toNat * 4, none⟩)) hsub rfl (by kernel_rfl) (fun w hI => s_indexA (i_801).toNat Try.underlying26 Try.sizeOf34 rfl hA870 rfl (Int.toNat_of_nonneg h145).symm (lt_n hx847 rfl) ⟨rfl, Below.refl _ _⟩) ?_
        refine al_light 7 (.agg #[iv x846.fam, iv x846.hd, iv x846.fr, iv x846.to]) hsub rfl (by kernel_rfl) (fun w hI => s_loadBK hI [iv x846.fam, iv x846.hd, iv x846.fr, iv x846.to] Try.isAgg34 Try.sizeOf34 rfl rfl hb871 (by simp) he872 ⟨rfl, Below.refl _ _⟩) ?_
        refine al_light 8 (.bool false) hsub rfl (by kernel_rfl) (fun w hI => s_eqlA (b := decide (x839.fam = x846.fam) && decide (x839.hd = x846.hd) && decide (x839.fr = x846.fr) && decide (x839.to = x846.to)) rfl rfl (by kernel_rfl) (fun w => eq34 _ x839.fam x839.hd x839.fr x839.to x846.fam x846.hd x846.fr x846.to w) (fun h => absurd (a := (decide (x839.fam = x846.fam) && decide (x839.hd = x846.hd) && decide (x839.fr = x846.fr) && decide (x839.to = x846.to)) = true) h h146) (fun _ => ⟨rfl, Below.refl _ _⟩)) ?_
        refine alp 9 (.bool false) hsub rfl (by kernel_rfl) (fun _ => (by kernel_rfl)) ?_
        refine any_end (by kernel_rfl) (fun w hI => ?_)
        exact .inl ⟨rfl, ⟨false, ⟨rfl, rfl, rfl, rfl, trivial⟩, hI.pickL [] (by decide) rfl, hF⟩⟩
      ·intro ρ w hJ
       obtain ⟨same_838, hag, hI, hF⟩ := hJ
       obtain ⟨ρ, rfl⟩ := hag.form; clear hag
       unfold F14j5 at hF
       refine rgn (by kernel_rfl) (pu (iv i_801) (by kernel_rfl) (ckE hF (fun h144 hF => ?_)))
       refine seq_c (s_add rfl rfl h144 ?_)
       refine pu (iv (i_801 + 1)) (by kernel_rfl) (seq_nil ?_)
       exact ⟨rfl, m3, Nat.lt_succ_self _, ⟨same_838, i_801 + 1, m3, ⟨rfl, rfl, rfl, rfl, trivial⟩, hI.pickL [] (by decide) rfl, hF, rfl⟩⟩
     ·
      refine seq_c (s_lss rfl rfl (fun h => absurd (a := i_801 < (lp0.length : Int)) h h141) (fun _ => ?_))
      refine pu (.bool false) (by kernel_rfl) (of_ (by kernel_rfl) (pu (.bool false) (by kernel_rfl) (seq_nil ?_)))
      exact .inl ⟨rfl, ⟨true, ⟨rfl, rfl, rfl, rfl, rfl, trivial⟩, hI.pickL [] (by decide) rfl, hF⟩⟩
    ·
     have hF := hG; clear hG
     refine ifE hF (fun h => absurd h (by decide)) (fun _ hF => ?_)
     refine rgn (by kernel_rfl) (pu (iv i_801) (by kernel_rfl) (pu (.slice Ap0 lp0.length cp0) (by kernel_rfl) (pu (iv ((lp0.length : Nat) : Int)) (by kernel_rfl) (ifE hF (fun h147 hF => ?_) (fun h147 hF => ?_)))))
     ·
      refine seq_c (s_lss rfl rfl (fun _ => ?_) (fun h => absurd (a := i_801 < (lp0.length : Int)) h147 h))
      refine pu (.bool true) (by kernel_rfl) (puo (.bool false) ⟨(by kernel_rfl), (by kernel_rfl)⟩ (pu (.bool false) (by kernel_rfl) (seq_nil ?_)))
      exact .inl ⟨rfl, ⟨false, ⟨rfl, rfl, rfl, rfl, rfl, trivial⟩, hI.pickL [] (by decide) rfl, hF⟩⟩
     ·
      refine seq_c (s_lss rfl rfl (fun h => absurd (a := i_801 < (lp0.length : Int)) h h147) (fun _ => ?_))
      refine pu (.bool false) (by kernel_rfl) (of_ (by kernel_rfl) (pu (.bool false) (by kernel_rfl) (seq_nil ?_)))
      exact .inl ⟨rfl, ⟨false, ⟨rfl, rfl, rfl, rfl, rfl, trivial⟩, hI.pickL [] (by decide) rfl, hF⟩⟩
   ·intro ρ w hJ
    obtain ⟨same_803, hag, hI, hF⟩ := hJ
    obtain ⟨ρ, rfl⟩ := hag.form; clear hag
    unfold F14j4 at hF
    refine wp_condF rfl (wp_exit ?_)
    exact .inl ⟨rfl, ⟨same_803, ⟨rfl, trivial⟩, hI.pickL [] (by decide) rfl, hF⟩⟩
  ·intro ρ w hJ
   obtain ⟨same_655, hag, hI, hF⟩ := hJ
   obtain ⟨ρ, rfl⟩ := hag.form; clear hag
   unfold F14j2 at hF
   refine wp_seq ?_
   have hG := hF; rcases Bool.eq_false_or_eq_true same_655 with rfl | rfl
   ·
    have hF := hG; clear hG
    refine ifE hF (fun _ hF => ?_) (fun h => absurd rfl h)
    refine rgn (by kernel_rfl) (pu (.bool true) (by kernel_rfl) (pu (.bool true) (by kernel_rfl) (seq_nil (wp_ret ?_))))
    replace hF := Option.some.inj hF; subst hF
    exact ⟨.bool true, Ret.r1 rfl rfl, ⟨rfl, hI.below⟩⟩
   ·
    have hF := hG; clear hG
    refine ifE hF (fun h => absurd h (by decide)) (fun _ hF => ?_)
    refine rgn (by kernel_rfl) (pu (.bool false) (by kernel_rfl) (pu (.bool false) (by kernel_rfl) (seq_nil (wp_ret ?_))))
    replace hF := Option.some.inj hF; subst hF
    exact ⟨.bool false, Ret.r1 rfl rfl, ⟨rfl, hI.below⟩⟩


theorem L15 (w0 : World) (Ap0_0 : Option Addr) (cp0_0 : Nat) (lp0_0 : List Ch) (Ap0_1 : Option Addr) (cp0_1 : Nat) (lp0_1 : List Ce) (hCp0_0 : Cells w0 Ap0_0 (flat eCh lp0_0)) (hMp0_0 : lp0_0.length ≤ 9223372036854775807) (hKp0_0 : lp0_0.length ≤ cp0_0) (hCp0_1 : Cells w0 Ap0_1 (flat eCe lp0_1)) (hMp0_1 : lp0_1.length ≤ 9223372036854775807) (hKp0_1 : lp0_1.length ≤ cp0_1) (N : Nat) (r : Int) (hF : F15 N lp0_0 lp0_1 = some r) : Does Try.prog 15 [.agg #[.slice Ap0_0 lp0_0.length cp0_0, .slice Ap0_1 lp0_1.length cp0_1]] w0 fun v w => v = .int .i64 r ∧ Below w0.heap.size w0 w := by
 refine calls_of (n := 11) Try.func15 rfl Try.ntmps15 rfl ?_
 have hI := Inv.start w0
 unfold F15 at hF
 refine wp_seq (rgn (by kernel_rfl) (seq_c (s_boxI hI [.slice Ap0_0 lp0_0.length cp0_0, .slice Ap0_1 lp0_1.length cp0_1] rfl ?_)))
 intro b25 w hI
 refine pu (iv 0) (by kernel_rfl) (seq_nil (wp_seq (rgn (by kernel_rfl) (seq_c (s_loadK hI 0 2 [.slice Ap0_0 lp0_0.length cp0_0, .slice Ap0_1 lp0_1.length cp0_1] Try.isAgg25 Try.sizeOf25 rfl rfl rfl rfl ?_)))))
 refine bindSE hF (fun y38 hy39 hF => ?_) (fun y40 hy41 hF => ?_)
 ·
  refine seq_c (s_callv hI 62 [.agg #[.slice Ap0_0 lp0_0.length cp0_0, .slice Ap0_1 lp0_1.length cp0_1]] (.tuple #[.agg #[.slice none 0 0, .slice none 0 0, .map none], iv 42]) (by kernel_rfl) (L62 _ Ap0_0 cp0_0 lp0_0 Ap0_1 cp0_1 lp0_1 (hCp0_0.inv0 hI) hMp0_0 hKp0_0 (hCp0_1.inv0 hI) hMp0_1 hKp0_1 N _ hy39) ?_)
  intro w hI
  refine pu (.tuple #[.agg #[.slice none 0 0, .slice none 0 0, .map none], iv 42]) (by kernel_rfl) (pu (.agg #[.slice none 0 0, .slice none 0 0, .map none]) (by kernel_rfl) (pu (iv 42) (by kernel_rfl) (seq_c (s_allocI hI [.slice none 0 0, .slice none 0 0, .map none] Try.zeroValue115 rfl ?_))))
  intro b42 w hI
  refine seq_c (s_store hI 0 3 [.slice none 0 0, .slice none 0 0, .map none] Try.sizeOf115 rfl rfl rfl rfl rfl (Nat.le_of_ble_eq_true rfl) ?_)
  intro w hI
  refine pu (iv 42) (by kernel_rfl) (seq_nil (wp_seq (rgn (by kernel_rfl) (pu (iv 42) (by kernel_rfl) (pu (iv 42) (by kernel_rfl) (seq_nil (wp_ret ?_)))))))
  replace hF := Option.some.inj hF; subst hF
  exact ⟨iv 42, Ret.r1 rfl rfl, ⟨rfl, hI.below⟩⟩
 ·
  refine seq_c (s_call 62 [.agg #[.slice Ap0_0 lp0_0.length cp0_0, .slice Ap0_1 lp0_1.length cp0_1]] (by kernel_rfl) (L62 _ Ap0_0 cp0_0 lp0_0 Ap0_1 cp0_1 lp0_1 (hCp0_0.inv0 hI) hMp0_0 hKp0_0 (hCp0_1.inv0 hI) hMp0_1 hKp0_1 N _ hy41) ?_)
  rintro v w ⟨b43, es44, ck45, rfl, hN, ho46, hM47⟩
  have hI := hI.join hN; clear hN
  refine pu (.tuple #[.agg #[.slice Ap0_0 lp0_0.length cp0_0, .slice Ap0_1 lp0_1.length cp0_1, .map (some b43)], iv 0]) (by kernel_rfl) (pu (.agg #[.slice Ap0_0 lp0_0.length cp0_0, .slice Ap0_1 lp0_1.length cp0_1, .map (some b43)]) (by kernel_rfl) (pu (iv 0) (by kernel_rfl) (seq_c (s_allocI hI [.slice none 0 0, .slice none 0 0, .map none] Try.zeroValue115 rfl ?_))))
  intro b48 w hI
  refine seq_c (s_store hI 0 3 [.slice Ap0_0 lp0_0.length cp0_0, .slice Ap0_1 lp0_1.length cp0_1, .map (some b43)] Try.sizeOf115 rfl rfl rfl rfl rfl (Nat.le_of_ble_eq_true rfl) ?_)
  intro w hI
  refine pu (iv 0) (by kernel_rfl) (seq_nil (wp_seq (rgn (by kernel_rfl) (pu (iv 0) (by kernel_rfl) (pu (iv 0) (by kernel_rfl) (seq_nil (wp_ret ?_)))))))
  replace hF := Option.some.inj hF; subst hF
  exact ⟨iv 0, Ret.r1 rfl rfl, ⟨rfl, hI.below⟩⟩


theorem L3 (w0 : World) (Ap0_0 : Option Addr) (cp0_0 : Nat) (lp0_0 : List Ch) (Ap0_1 : Option Addr) (cp0_1 : Nat) (lp0_1 : List Ce) (Ap1 : Option Addr) (cp1 : Nat) (lp1 : List Cl) (p2_0 : Int) (p2_1 : Int) (p2_2 : Int) (p2_3 : Int) (p2_4 : Int) (p2_5 : Int) (p2_6 : Int) (p2_7 : Int) (p2_8 : Int) (p2_9 : Int) (p2_10 : Int) (hCp0_0 : Cells w0 Ap0_0 (flat eCh lp0_0)) (hMp0_0 : lp0_0.length ≤ 9223372036854775807) (hKp0_0 : lp0_0.length ≤ cp0_0) (hCp0_1 : Cells w0 Ap0_1 (flat eCe lp0_1)) (hMp0_1 : lp0_1.length ≤ 9223372036854775807) (hKp0_1 : lp0_1.length ≤ cp0_1) (hCp1 : Cells w0 Ap1 (flat eCl lp1)) (hMp1 : lp1.length ≤ 9223372036854775807) (hKp1 : lp1.length ≤ cp1) (N : Nat) (r : Bool) (hF : F3 N lp0_0 lp0_1 lp1 p2_0 p2_1 p2_2 p2_3 p2_4 p2_5 p2_6 p2_7 p2_8 p2_9 p2_10 = some r) : Does Try.prog 3 [.agg #[.slice Ap0_0 lp0_0.length cp0_0, .slice Ap0_1 lp0_1.length cp0_1], .slice Ap1 lp1.length cp1, .agg #[.int .i64 p2_0, .int .i64 p2_1, .int .i64 p2_2, .int .i64 p2_3, .int .i64 p2_4, .int .i64 p2_5, .int .i64 p2_6, .int .i64 p2_7, .int .i64 p2_8, .int .i64 p2_9, .int .i64 p2_10]] w0 fun v w => v = .bool r ∧ Below w0.heap.size w0 w := by
 refine calls_of (n := 85) Try.func3 rfl Try.ntmps3 rfl ?_
 have hI := Inv.start w0
 unfold F3 at hF
 refine wp_seq (rgn (by kernel_rfl) (seq_c (s_boxI hI [.slice Ap0_0 lp0_0.length cp0_0, .slice Ap0_1 lp0_1.length cp0_1] rfl ?_)))
 intro b94 w hI
 refine seq_c (s_boxI hI [iv p2_0, iv p2_1, iv p2_2, iv p2_3, iv p2_4, iv p2_5, iv p2_6, iv p2_7, iv p2_8, iv p2_9, iv p2_10] rfl ?_)
 intro b95 w hI
 refine pu (.bool false) (by kernel_rfl) (seq_nil (wp_cutO (fun ρ w => ∃ (v98 : Bool), Agree ρ [(1, .slice Ap1 lp1.length cp1), (3, .pointer (some ⟨b94, 0, none⟩)), (5, .pointer (some ⟨b95, 0, none⟩)), (7, .bool v98)] ∧ Inv [] w0 w [(some b94, blk [.slice Ap0_0 lp0_0.length cp0_0, .slice Ap0_1 lp0_1.length cp0_1] 25), (some b95, blk [iv p2_0, iv p2_1, iv p2_2, iv p2_3, iv p2_4, iv p2_5, iv p2_6, iv p2_7, iv p2_8, iv p2_9, iv p2_10] 36)] ∧ F3j1 lp0_0 lp0_1 lp1 p2_0 p2_1 p2_2 p2_3 p2_4 p2_5 p2_6 p2_7 p2_8 p2_9 p2_10 N v98 = some r) ?_ ?_))
 ·
  refine rgn (by kernel_rfl) (bindE hF (fun y185 hy186 hF => ?_))
  refine ifE hF (fun h44 hF => ?_) (fun h44 hF => ?_)
  ·
   refine seq_c (s_callv hI 11 [] (.bool true) (by kernel_rfl) (Does.mono (L11 _ N _ hy186) (fun v' w' h => ⟨h.1.trans (congrArg Value.bool h44), h.2⟩)) ?_)
   intro w hI
   refine pu (.bool true) (by kernel_rfl) (seq_nil ?_)
   exact .inl ⟨rfl, ⟨true, ⟨rfl, rfl, rfl, rfl, trivial⟩, hI.pickL [1, 0] (by decide) rfl, hF⟩⟩
  ·
   refine seq_c (s_callv hI 11 [] (.bool false) (by kernel_rfl) (Does.mono (L11 _ N _ hy186) (fun v' w' h => ⟨h.1.trans (congrArg Value.bool (Bool.eq_false_iff.2 h44)), h.2⟩)) ?_)
   intro w hI
   refine pu (.bool false) (by kernel_rfl) (seq_nil ?_)
   exact .inl ⟨rfl, ⟨false, ⟨rfl, rfl, rfl, rfl, trivial⟩, hI.pickL [1, 0] (by decide) rfl, hF⟩⟩
 ·intro ρ w hJ
  obtain ⟨v98, hag, hI, hF⟩ := hJ
  obtain ⟨ρ, rfl⟩ := hag.form; clear hag
  unfold F3j1 at hF
  refine wp_seq (rgn (by kernel_rfl) (seq_c (s_loadK hI 0 2 [.slice Ap0_0 lp0_0.length cp0_0, .slice Ap0_1 lp0_1.length cp0_1] Try.isAgg25 Try.sizeOf25 rfl rfl rfl rfl ?_)))
  refine pu (.slice Ap1 lp1.length cp1) (by kernel_rfl) (pu (.pointer (some ⟨b95, 10, none⟩)) (by kernel_rfl) (seq_c (s_load1 hI 1 (iv p2_10) Try.isAgg3 rfl rfl rfl ?_)))
  refine bindE hF (fun y105 hy106 hF => ?_)
  refine seq_c (s_call 12 [.agg #[.slice Ap0_0 lp0_0.length cp0_0, .slice Ap0_1 lp0_1.length cp0_1], .slice Ap1 lp1.length cp1, iv p2_10] (by kernel_rfl) (L12 _ Ap0_0 cp0_0 lp0_0 Ap0_1 cp0_1 lp0_1 Ap1 cp1 lp1 p2_10 (hCp0_0.inv0 hI) hMp0_0 hKp0_0 (hCp0_1.inv0 hI) hMp0_1 hKp0_1 (hCp1.inv0 hI) hMp1 hKp1 N _ hy106) ?_)
  rintro v w ⟨g107, c108, cl109, rfl, hN, r110⟩
  have hI := hI.join hN; clear hN
  refine pu (.tuple #[slv g107 y105.1.length c108, iv y105.2]) (by kernel_rfl) (pu (slv g107 y105.1.length c108) (by kernel_rfl) (pu (iv y105.2) (by kernel_rfl) (pu (slv g107 y105.1.length c108) (by kernel_rfl) (pu (iv y105.2) (by kernel_rfl) (seq_nil (wp_seq (rgn (by kernel_rfl) (seq_c (s_loadK hI 1 2 [.slice Ap0_0 lp0_0.length cp0_0, .slice Ap0_1 lp0_1.length cp0_1] Try.isAgg25 Try.sizeOf25 rfl rfl rfl rfl ?_)))))))))
  refine pu (.slice Ap1 lp1.length cp1) (by kernel_rfl) (pu (.pointer (some ⟨b95, 10, none⟩)) (by kernel_rfl) (seq_c (s_load1 hI 2 (iv p2_10) Try.isAgg3 rfl rfl rfl ?_)))
  refine bindE hF (fun y117 hy118 hF => ?_)
  refine seq_c (s_call 13 [.agg #[.slice Ap0_0 lp0_0.length cp0_0, .slice Ap0_1 lp0_1.length cp0_1], .slice Ap1 lp1.length cp1, iv p2_10] (by kernel_rfl) (L13 _ Ap0_0 cp0_0 lp0_0 Ap0_1 cp0_1 lp0_1 Ap1 cp1 lp1 p2_10 (hCp0_0.inv0 hI) hMp0_0 hKp0_0 (hCp0_1.inv0 hI) hMp0_1 hKp0_1 (hCp1.inv0 hI) hMp1 hKp1 N _ hy118) ?_)
  rintro v w ⟨g119, c120, cl121, rfl, hN, r122⟩
  have hI := hI.join hN; clear hN
  refine pu (.tuple #[slv g119 y117.1.length c120, iv y117.2]) (by kernel_rfl) (pu (slv g119 y117.1.length c120) (by kernel_rfl) (pu (iv y117.2) (by kernel_rfl) (pu (slv g119 y117.1.length c120) (by kernel_rfl) (pu (iv y117.2) (by kernel_rfl) (seq_nil (wp_cutO (fun ρ w => ∃ (v125 : Bool), Agree ρ [(1, .slice Ap1 lp1.length cp1), (3, .pointer (some ⟨b94, 0, none⟩)), (5, .pointer (some ⟨b95, 0, none⟩)), (7, .bool v98), (9, iv y105.2), (11, iv y117.2), (12, .bool v125)] ∧ Inv [] w0 w [(some b94, blk [.slice Ap0_0 lp0_0.length cp0_0, .slice Ap0_1 lp0_1.length cp0_1] 25), (some b95, blk [iv p2_0, iv p2_1, iv p2_2, iv p2_3, iv p2_4, iv p2_5, iv p2_6, iv p2_7, iv p2_8, iv p2_9, iv p2_10] 36)] ∧ F3j2 lp0_0 lp0_1 lp1 p2_0 p2_1 p2_2 p2_3 p2_4 p2_5 p2_6 p2_7 p2_8 p2_9 N v98 y105 y117 v125 = some r) ?_ ?_))))))
  ·
   refine rgn (by kernel_rfl) (pu (slv g107 y105.1.length c108) (by kernel_rfl) (pu (slv g119 y117.1.length c120) (by kernel_rfl) (bindE hF (fun y183 hy184 hF => ?_))))
   refine ifE hF (fun h43 hF => ?_) (fun h43 hF => ?_)
   ·
    refine seq_c (s_callv hI 14 [slv g107 y105.1.length c108, slv g119 y117.1.length c120] (.bool true) (by kernel_rfl) (Does.mono (L14 _ (g107.map fun b => ⟨b, 0, none⟩) c108 y105.1 (g119.map fun b => ⟨b, 0, none⟩) c120 y117.1 (hI.rowCells 1 rfl r110) (len_le rfl r110.big) (len_le rfl r110.cap) (hI.rowCells 0 rfl r122) (len_le rfl r122.big) (len_le rfl r122.cap) N _ hy184) (fun v' w' h => ⟨h.1.trans (congrArg Value.bool h43), h.2⟩)) ?_)
    intro w hI
    refine pu (.bool true) (by kernel_rfl) (seq_nil ?_)
    exact .inl ⟨rfl, ⟨true, ⟨rfl, rfl, rfl, rfl, rfl, rfl, rfl, trivial⟩, hI.pickL [2, 3] (by decide) rfl, hF⟩⟩
   ·
    refine seq_c (s_callv hI 14 [slv g107 y105.1.length c108, slv g119 y117.1.length c120] (.bool false) (by kernel_rfl) (Does.mono (L14 _ (g107.map fun b => ⟨b, 0, none⟩) c108 y105.1 (g119.map fun b => ⟨b, 0, none⟩) c120 y117.1 (hI.rowCells 1 rfl r110) (len_le rfl r110.big) (len_le rfl r110.cap) (hI.rowCells 0 rfl r122) (len_le rfl r122.big) (len_le rfl r122.cap) N _ hy184) (fun v' w' h => ⟨h.1.trans (congrArg Value.bool (Bool.eq_false_iff.2 h43)), h.2⟩)) ?_)
    intro w hI
    refine pu (.bool false) (by kernel_rfl) (seq_nil ?_)
    exact .inl ⟨rfl, ⟨false, ⟨rfl, rfl, rfl, rfl, rfl, rfl, rfl, trivial⟩, hI.pickL [2, 3] (by decide) rfl, hF⟩⟩
  ·intro ρ w hJ
   obtain ⟨v125, hag, hI, hF⟩ := hJ
   obtain ⟨ρ, rfl⟩ := hag.form; clear hag
   unfold F3j2 at hF
   refine wp_seq (wp_seq ?_)
   have hG := hF; rcases Bool.eq_false_or_eq_true v98 with rfl | rfl
   ·
    have hF := hG; clear hG
    refine ifE hF (fun _ hF => ?_) (fun h => absurd rfl h)
    have hG := hF; rcases Bool.eq_false_or_eq_true v125 with rfl | rfl
    ·
     have hF := hG; clear hG
     refine ifE hF (fun _ hF => ?_) (fun h => absurd rfl h)
     refine ifE hF (fun h34 hF => ?_) (fun h34 hF => ?_)
     ·
      refine bindE hF (fun y150 hy151 hF => ?_)
      refine bindE hF (fun y152 hy153 hF => ?_)
      refine ifE hF (fun h35 hF => ?_) (fun h35 hF => ?_)
      ·
       refine bindE hF (fun y154 hy155 hF => ?_)
       refine bindE hF (fun y156 hy157 hF => ?_)
       refine ifE hF (fun h36 hF => ?_) (fun h36 hF => ?_)
       ·
        refine wp_drawn2 hI [0, 1] (by decide) rfl (by kernel_rfl) (by kernel_rfl) ?_
        intro hsub
        refine alp 0 (.bool true) hsub rfl (by kernel_rfl) (fun _ => (by kernel_rfl)) ?_
        refine alp 1 (.bool false) hsub rfl (by kernel_rfl) (fun _ => (by kernel_rfl)) ?_
        refine alp 2 (.bool false) hsub rfl (by kernel_rfl) (fun _ => (by kernel_rfl)) ?_
        refine al_on 3 (.bool true) hsub rfl (by kernel_rfl) (by kernel_rfl) (fun w hI => s_pure (.bool true) (by kernel_rfl) ⟨rfl, Below.refl _ _⟩) ?_
        refine al_on 4 (.bool false) hsub rfl (by kernel_rfl) (by kernel_rfl) (fun w hI => s_pure (.bool false) (by kernel_rfl) ⟨rfl, Below.refl _ _⟩) ?_
        refine alp 5 (.bool false) hsub rfl (by kernel_rfl) (fun _ => (by kernel_rfl)) ?_
        refine alp 6 (.bool false) hsub rfl (by kernel_rfl) (fun _ => (by kernel_rfl)) ?_
        refine al_on 7 (iv y105.2) hsub rfl (by kernel_rfl) (by kernel_rfl) (fun w hI => s_pure (iv y105.2) (by kernel_rfl) ⟨rfl, Below.refl _ _⟩) ?_
        refine al_on 8 (iv y117.2) hsub rfl (by kernel_rfl) (by kernel_rfl) (fun w hI => s_pure (iv y117.2) (by kernel_rfl) ⟨rfl, Below.refl _ _⟩) ?_
        refine al_on 9 (.bool false) hsub rfl (by kernel_rfl) (by kernel_rfl) (fun w hI => s_neq rfl rfl (fun h => absurd (a := y105.2 = y117.2) h34 h) (fun _ => ⟨rfl, Below.refl _ _⟩)) ?_
        refine alp 10 (.bool false) hsub rfl (by kernel_rfl) (fun _ => (by kernel_rfl)) ?_
        refine alp 11 (.bool false) hsub rfl (by kernel_rfl) (fun _ => (by kernel_rfl)) ?_
        refine al_on 12 (.agg #[.slice Ap0_0 lp0_0.length cp0_0, .slice Ap0_1 lp0_1.length cp0_1]) hsub rfl (by kernel_rfl) (by kernel_rfl) (fun w hI => s_loadK hI 0 2 [.slice Ap0_0 lp0_0.length cp0_0, .slice Ap0_1 lp0_1.length cp0_1] Try.isAgg25 Try.sizeOf25 rfl rfl rfl rfl ⟨rfl, Below.refl _ _⟩) ?_
        refine al_on 13 (iv y150) hsub rfl (by kernel_rfl) (by kernel_rfl) (fun w hI => s_call 15 [.agg #[.slice Ap0_0 lp0_0.length cp0_0, .slice Ap0_1 lp0_1.length cp0_1]] (by kernel_rfl) (L15 _ Ap0_0 cp0_0 lp0_0 Ap0_1 cp0_1 lp0_1 (hCp0_0.inv0 hI) hMp0_0 hKp0_0 (hCp0_1.inv0 hI) hMp0_1 hKp0_1 N _ hy151) (fun v' w' h => h)) ?_
        refine al_on 14 (.agg #[.slice Ap0_0 lp0_0.length cp0_0, .slice Ap0_1 lp0_1.length cp0_1]) hsub rfl (by kernel_rfl) (by kernel_rfl) (fun w hI => s_loadK hI 0 2 [.slice Ap0_0 lp0_0.length cp0_0, .slice Ap0_1 lp0_1.length cp0_1] Try.isAgg25 Try.sizeOf25 rfl rfl rfl rfl ⟨rfl, Below.refl _ _⟩) ?_
        refine al_on 15 (iv y152) hsub rfl (by kernel_rfl) (by kernel_rfl) (fun w hI => s_call 16 [.agg #[.slice Ap0_0 lp0_0.length cp0_0, .slice Ap0_1 lp0_1.length cp0_1]] (by kernel_rfl) (L16 _ Ap0_0 cp0_0 lp0_0 Ap0_1 cp0_1 lp0_1 (hCp0_0.inv0 hI) hMp0_0 hKp0_0 (hCp0_1.inv0 hI) hMp0_1 hKp0_1 N _ hy153) (fun v' w' h => h)) ?_
        refine al_on 16 (.bool false) hsub rfl (by kernel_rfl) (by kernel_rfl) (fun w hI => s_neq rfl rfl (fun h => absurd (a := y150 = y152) h35 h) (fun _ => ⟨rfl, Below.refl _ _⟩)) ?_
        refine alp 17 (.bool false) hsub rfl (by kernel_rfl) (fun _ => (by kernel_rfl)) ?_
        refine alp 18 (.bool false) hsub rfl (by kernel_rfl) (fun _ => (by kernel_rfl)) ?_
        refine al_on 19 (.agg #[.slice Ap0_0 lp0_0.length cp0_0, .slice Ap0_1 lp0_1.length cp0_1]) hsub rfl (by kernel_rfl) (by kernel_rfl) (fun w hI => s_loadK hI 0 2 [.slice Ap0_0 lp0_0.length cp0_0, .slice Ap0_1 lp0_1.length cp0_1] Try.isAgg25 Try.sizeOf25 rfl rfl rfl rfl ⟨rfl, Below.refl _ _⟩) ?_
        refine al_on 20 (.slice Ap1 lp1.length cp1) hsub rfl (by kernel_rfl) (by kernel_rfl) (fun w hI => s_pure (.slice Ap1 lp1.length cp1) (by kernel_rfl) ⟨rfl, Below.refl _ _⟩) ?_
        refine al_on 21 (iv y154) hsub rfl (by kernel_rfl) (by kernel_rfl) (fun w hI => s_call 17 [.agg #[.slice Ap0_0 lp0_0.length cp0_0, .slice Ap0_1 lp0_1.length cp0_1], .slice Ap1 lp1.length cp1] (by kernel_rfl) (L17 _ Ap0_0 cp0_0 lp0_0 Ap0_1 cp0_1 lp0_1 Ap1 cp1 lp1 (hCp0_0.inv0 hI) hMp0_0 hKp0_0 (hCp0_1.inv0 hI) hMp0_1 hKp0_1 (hCp1.inv0 hI) hMp1 hKp1 N _ hy155) (fun v' w' h => h)) ?_
        refine al_on 22 (.agg #[.slice Ap0_0 lp0_0.length cp0_0, .slice Ap0_1 lp0_1.length cp0_1]) hsub rfl (by kernel_rfl) (by kernel_rfl) (fun w hI => s_loadK hI 0 2 [.slice Ap0_0 lp0_0.length cp0_0, .slice Ap0_1 lp0_1.length cp0_1] Try.isAgg25 Try.sizeOf25 rfl rfl rfl rfl ⟨rfl, Below.refl _ _⟩) ?_
        refine al_on 23 (.slice Ap1 lp1.length cp1) hsub rfl (by kernel_rfl) (by kernel_rfl) (fun w hI => s_pure (.slice Ap1 lp1.length cp1) (by kernel_rfl) ⟨rfl, Below.refl _ _⟩) ?_
        refine al_on 24 (iv y156) hsub rfl (by kernel_rfl) (by kernel_rfl) (fun w hI => s_call 18 [.agg #[.slice Ap0_0 lp0_0.length cp0_0, .slice Ap0_1 lp0_1.length cp0_1], .slice Ap1 lp1.length cp1] (by kernel_rfl) (L18 _ Ap0_0 cp0_0 lp0_0 Ap0_1 cp0_1 lp0_1 Ap1 cp1 lp1 (hCp0_0.inv0 hI) hMp0_0 hKp0_0 (hCp0_1.inv0 hI) hMp0_1 hKp0_1 (hCp1.inv0 hI) hMp1 hKp1 N _ hy157) (fun v' w' h => h)) ?_
        refine al_on 25 (.bool false) hsub rfl (by kernel_rfl) (by kernel_rfl) (fun w hI => s_neq rfl rfl (fun h => absurd (a := y154 = y156) h36 h) (fun _ => ⟨rfl, Below.refl _ _⟩)) ?_
        refine alp 26 (.bool false) hsub rfl (by kernel_rfl) (fun _ => (by kernel_rfl)) ?_
        refine any_end (by kernel_rfl) (fun w hI => ?_)
        refine wp_condF rfl (wp_skip (wp_seq (bindE hF (fun y171 hy172 hF => ?_))))
        refine bindE hF (fun y173 hy174 hF => ?_)
        refine ifE hF (fun h40 hF => ?_) (fun h40 hF => ?_)
        ·
         refine bindE hF (fun y175 hy176 hF => ?_)
         refine bindE hF (fun y177 hy178 hF => ?_)
         refine ifE hF (fun h41 hF => ?_) (fun h41 hF => ?_)
         ·
          refine bindE hF (fun y179 hy180 hF => ?_)
          refine bindE hF (fun y181 hy182 hF => ?_)
          refine ifE hF (fun h42 hF => ?_) (fun h42 hF => ?_)
          ·
           refine wp_drawn2 hI [0, 1] (by decide) rfl (by kernel_rfl) (by kernel_rfl) ?_
           intro hsub
           refine alp 0 (.pointer (some ⟨b95, 0, none⟩)) hsub rfl (by kernel_rfl) (fun _ => (by kernel_rfl)) ?_
           refine al_light 1 (.agg #[iv p2_0, iv p2_1, iv p2_2]) hsub rfl (by kernel_rfl) (fun w hI => s_loadK hI 1 3 [iv p2_0, iv p2_1, iv p2_2] Try.isAgg30 Try.sizeOf30 rfl rfl rfl rfl ⟨rfl, Below.refl _ _⟩) ?_
           refine al_light 2 (iv y171) hsub rfl (by kernel_rfl) (fun w hI => s_call 19 [.agg #[iv p2_0, iv p2_1, iv p2_2]] (by kernel_rfl) (L19 _ (⟨p2_0, p2_1, p2_2⟩ : Ch) _ hy172) (fun v' w' h => h)) ?_
           refine alp 3 (.pointer (some ⟨b95, 0, none⟩)) hsub rfl (by kernel_rfl) (fun _ => (by kernel_rfl)) ?_
           refine al_light 4 (.agg #[iv p2_0, iv p2_1, iv p2_2]) hsub rfl (by kernel_rfl) (fun w hI => s_loadK hI 1 3 [iv p2_0, iv p2_1, iv p2_2] Try.isAgg30 Try.sizeOf30 rfl rfl rfl rfl ⟨rfl, Below.refl _ _⟩) ?_
           refine al_light 5 (iv y173) hsub rfl (by kernel_rfl) (fun w hI => s_call 20 [.agg #[iv p2_0, iv p2_1, iv p2_2]] (by kernel_rfl) (L20 _ (⟨p2_0, p2_1, p2_2⟩ : Ch) _ hy174) (fun v' w' h => h)) ?_
           refine al_light 6 (.bool true) hsub rfl (by kernel_rfl) (fun w hI => s_eql rfl rfl (fun _ => ⟨rfl, Below.refl _ _⟩) (fun h => absurd (a := y171 = y173) h40 h)) ?_
           refine alp 7 (.bool true) hsub rfl (by kernel_rfl) (fun _ => (by kernel_rfl)) ?_
           refine al_on 8 (.pointer (some ⟨b95, 3, none⟩)) hsub rfl (by kernel_rfl) (by kernel_rfl) (fun w hI => s_pure (.pointer (some ⟨b95, 3, none⟩)) (by kernel_rfl) ⟨rfl, Below.refl _ _⟩) ?_
           refine al_on 9 (.agg #[iv p2_3, iv p2_4, iv p2_5]) hsub rfl (by kernel_rfl) (by kernel_rfl) (fun w hI => s_loadK hI 1 3 [iv p2_3, iv p2_4, iv p2_5] Try.isAgg32 Try.sizeOf32 rfl rfl rfl rfl ⟨rfl, Below.refl _ _⟩) ?_
           refine al_on 10 (iv y175) hsub rfl (by kernel_rfl) (by kernel_rfl) (fun w hI => s_call 21 [.agg #[iv p2_3, iv p2_4, iv p2_5]] (by kernel_rfl) (L21 _ (⟨p2_3, p2_4, p2_5⟩ : Ce) _ hy176) (fun v' w' h => h)) ?_
           refine al_on 11 (.pointer (some ⟨b95, 3, none⟩)) hsub rfl (by kernel_rfl) (by kernel_rfl) (fun w hI => s_pure (.pointer (some ⟨b95, 3, none⟩)) (by kernel_rfl) ⟨rfl, Below.refl _ _⟩) ?_
           refine al_on 12 (.agg #[iv p2_3, iv p2_4, iv p2_5]) hsub rfl (by kernel_rfl) (by kernel_rfl) (fun w hI => s_loadK hI 1 3 [iv p2_3, iv p2_4, iv p2_5] Try.isAgg32 Try.sizeOf32 rfl rfl rfl rfl ⟨rfl, Below.refl _ _⟩) ?_
           refine al_on 13 (iv y177) hsub rfl (by kernel_rfl) (by kernel_rfl) (fun w hI => s_call 22 [.agg #[iv p2_3, iv p2_4, iv p2_5]] (by kernel_rfl) (L22 _ (⟨p2_3, p2_4, p2_5⟩ : Ce) _ hy178) (fun v' w' h => h)) ?_
           refine al_on 14 (.bool true) hsub rfl (by kernel_rfl) (by kernel_rfl) (fun w hI => s_eql rfl rfl (fun _ => ⟨rfl, Below.refl _ _⟩) (fun h => absurd (a := y175 = y177) h41 h)) ?_
           refine alp 15 (.bool true) hsub rfl (by kernel_rfl) (fun _ => (by kernel_rfl)) ?_
           refine alp 16 (.bool true) hsub rfl (by kernel_rfl) (fun _ => (by kernel_rfl)) ?_
           refine al_on 17 (.pointer (some ⟨b95, 6, none⟩)) hsub rfl (by kernel_rfl) (by kernel_rfl) (fun w hI => s_pure (.pointer (some ⟨b95, 6, none⟩)) (by kernel_rfl) ⟨rfl, Below.refl _ _⟩) ?_
           refine al_on 18 (.agg #[iv p2_6, iv p2_7, iv p2_8, iv p2_9]) hsub rfl (by kernel_rfl) (by kernel_rfl) (fun w hI => s_loadK hI 1 4 [iv p2_6, iv p2_7, iv p2_8, iv p2_9] Try.isAgg34 Try.sizeOf34 rfl rfl rfl rfl ⟨rfl, Below.refl _ _⟩) ?_
           refine al_on 19 (iv y179) hsub rfl (by kernel_rfl) (by kernel_rfl) (fun w hI => s_call 23 [.agg #[iv p2_6, iv p2_7, iv p2_8, iv p2_9]] (by kernel_rfl) (L23 _ (⟨p2_6, p2_7, p2_8, p2_9⟩ : Cl) _ hy180) (fun v' w' h => h)) ?_
           refine al_on 20 (.pointer (some ⟨b95, 6, none⟩)) hsub rfl (by kernel_rfl) (by kernel_rfl) (fun w hI => s_pure (.pointer (some ⟨b95, 6, none⟩)) (by kernel_rfl) ⟨rfl, Below.refl _ _⟩) ?_
           refine al_on 21 (.agg #[iv p2_6, iv p2_7, iv p2_8, iv p2_9]) hsub rfl (by kernel_rfl) (by kernel_rfl) (fun w hI => s_loadK hI 1 4 [iv p2_6, iv p2_7, iv p2_8, iv p2_9] Try.isAgg34 Try.sizeOf34 rfl rfl rfl rfl ⟨rfl, Below.refl _ _⟩) ?_
           refine al_on 22 (iv y181) hsub rfl (by kernel_rfl) (by kernel_rfl) (fun w hI => s_call 24 [.agg #[iv p2_6, iv p2_7, iv p2_8, iv p2_9]] (by kernel_rfl) (L24 _ (⟨p2_6, p2_7, p2_8, p2_9⟩ : Cl) _ hy182) (fun v' w' h => h)) ?_
           refine al_on 23 (.bool true) hsub rfl (by kernel_rfl) (by kernel_rfl) (fun w hI => s_eql rfl rfl (fun _ => ⟨rfl, Below.refl _ _⟩) (fun h => absurd (a := y179 = y181) h42 h)) ?_
           refine alp 24 (.bool true) hsub rfl (by kernel_rfl) (fun _ => (by kernel_rfl)) ?_
           refine alp 25 (.bool true) hsub rfl (by kernel_rfl) (fun _ => (by kernel_rfl)) ?_
           refine any_end (by kernel_rfl) (fun w hI => ?_)
           refine wp_ret ?_
           replace hF := Option.some.inj hF; subst hF
           exact ⟨.bool true, Ret.r1 rfl rfl, ⟨rfl, hI.below⟩⟩
          ·
           refine wp_drawn2 hI [0, 1] (by decide) rfl (by kernel_rfl) (by kernel_rfl) ?_
           intro hsub
           refine alp 0 (.pointer (some ⟨b95, 0, none⟩)) hsub rfl (by kernel_rfl) (fun _ => (by kernel_rfl)) ?_
           refine al_light 1 (.agg #[iv p2_0, iv p2_1, iv p2_2]) hsub rfl (by kernel_rfl) (fun w hI => s_loadK hI 1 3 [iv p2_0, iv p2_1, iv p2_2] Try.isAgg30 Try.sizeOf30 rfl rfl rfl rfl ⟨rfl, Below.refl _ _⟩) ?_
           refine al_light 2 (iv y171) hsub rfl (by kernel_rfl) (fun w hI => s_call 19 [.agg #[iv p2_0, iv p2_1, iv p2_2]] (by kernel_rfl) (L19 _ (⟨p2_0, p2_1, p2_2⟩ : Ch) _ hy172) (fun v' w' h => h)) ?_
           refine alp 3 (.pointer (some ⟨b95, 0, none⟩)) hsub rfl (by kernel_rfl) (fun _ => (by kernel_rfl)) ?_
           refine al_light 4 (.agg #[iv p2_0, iv p2_1, iv p2_2]) hsub rfl (by kernel_rfl) (fun w hI => s_loadK hI 1 3 [iv p2_0, iv p2_1, iv p2_2] Try.isAgg30 Try.sizeOf30 rfl rfl rfl rfl ⟨rfl, Below.refl _ _⟩) ?_
           refine al_light 5 (iv y173) hsub rfl (by kernel_rfl) (fun w hI => s_call 20 [.agg #[iv p2_0, iv p2_1, iv p2_2]] (by kernel_rfl) (L20 _ (⟨p2_0, p2_1, p2_2⟩ : Ch) _ hy174) (fun v' w' h => h)) ?_
           refine al_light 6 (.bool true) hsub rfl (by kernel_rfl) (fun w hI => s_eql rfl rfl (fun _ => ⟨rfl, Below.refl _ _⟩) (fun h => absurd (a := y171 = y173) h40 h)) ?_
           refine alp 7 (.bool true) hsub rfl (by kernel_rfl) (fun _ => (by kernel_rfl)) ?_
           refine al_on 8 (.pointer (some ⟨b95, 3, none⟩)) hsub rfl (by kernel_rfl) (by kernel_rfl) (fun w hI => s_pure (.pointer (some ⟨b95, 3, none⟩)) (by kernel_rfl) ⟨rfl, Below.refl _ _⟩) ?_
           refine al_on 9 (.agg #[iv p2_3, iv p2_4, iv p2_5]) hsub rfl (by kernel_rfl) (by kernel_rfl) (fun w hI => s_loadK hI 1 3 [iv p2_3, iv p2_4, iv p2_5] Try.isAgg32 Try.sizeOf32 rfl rfl rfl rfl ⟨rfl, Below.refl _ _⟩) ?_
           refine al_on 10 (iv y175) hsub rfl (by kernel_rfl) (by kernel_rfl) (fun w hI => s_call 21 [.agg #[iv p2_3, iv p2_4, iv p2_5]] (by kernel_rfl) (L21 _ (⟨p2_3, p2_4, p2_5⟩ : Ce) _ hy176) (fun v' w' h => h)) ?_
           refine al_on 11 (.pointer (some ⟨b95, 3, none⟩)) hsub rfl (by kernel_rfl) (by kernel_rfl) (fun w hI => s_pure (.pointer (some ⟨b95, 3, none⟩)) (by kernel_rfl) ⟨rfl, Below.refl _ _⟩) ?_
           refine al_on 12 (.agg #[iv p2_3, iv p2_4, iv p2_5]) hsub rfl (by kernel_rfl) (by kernel_rfl) (fun w hI => s_loadK hI 1 3 [iv p2_3, iv p2_4, iv p2_5] Try.isAgg32 Try.sizeOf32 rfl rfl rfl rfl ⟨rfl, Below.refl _ _⟩) ?_
           refine al_on 13 (iv y177) hsub rfl (by kernel_rfl) (by kernel_rfl) (fun w hI => s_call 22 [.agg #[iv p2_3, iv p2_4, iv p2_5]] (by kernel_rfl) (L22 _ (⟨p2_3, p2_4, p2_5⟩ : Ce) _ hy178) (fun v' w' h => h)) ?_
           refine al_on 14 (.bool true) hsub rfl (by kernel_rfl) (by kernel_rfl) (fun w hI => s_eql rfl rfl (fun _ => ⟨rfl, Below.refl _ _⟩) (fun h => absurd (a := y175 = y177) h41 h)) ?_
           refine alp 15 (.bool true) hsub rfl (by kernel_rfl) (fun _ => (by kernel_rfl)) ?_
           refine alp 16 (.bool true) hsub rfl (by kernel_rfl) (fun _ => (by kernel_rfl)) ?_
           refine al_on 17 (.pointer (some ⟨b95, 6, none⟩)) hsub rfl (by kernel_rfl) (by kernel_rfl) (fun w hI => s_pure (.pointer (some ⟨b95, 6, none⟩)) (by kernel_rfl) ⟨rfl, Below.refl _ _⟩) ?_
           refine al_on 18 (.agg #[iv p2_6, iv p2_7, iv p2_8, iv p2_9]) hsub rfl (by kernel_rfl) (by kernel_rfl) (fun w hI => s_loadK hI 1 4 [iv p2_6, iv p2_7, iv p2_8, iv p2_9] Try.isAgg34 Try.sizeOf34 rfl rfl rfl rfl ⟨rfl, Below.refl _ _⟩) ?_
           refine al_on 19 (iv y179) hsub rfl (by kernel_rfl) (by kernel_rfl) (fun w hI => s_call 23 [.agg #[iv p2_6, iv p2_7, iv p2_8, iv p2_9]] (by kernel_rfl) (L23 _ (⟨p2_6, p2_7, p2_8, p2_9⟩ : Cl) _ hy180) (fun v' w' h => h)) ?_
           refine al_on 20 (.pointer (some ⟨b95, 6, none⟩)) hsub rfl (by kernel_rfl) (by kernel_rfl) (fun w hI => s_pure (.pointer (some ⟨b95, 6, none⟩)) (by kernel_rfl) ⟨rfl, Below.refl _ _⟩) ?_
           refine al_on 21 (.agg #[iv p2_6, iv p2_7, iv p2_8, iv p2_9]) hsub rfl (by kernel_rfl) (by kernel_rfl) (fun w hI => s_loadK hI 1 4 [iv p2_6, iv p2_7, iv p2_8, iv p2_9] Try.isAgg34 Try.sizeOf34 rfl rfl rfl rfl ⟨rfl, Below.refl _ _⟩) ?_
           refine al_on 22 (iv y181) hsub rfl (by kernel_rfl) (by kernel_rfl) (fun w hI => s_call 24 [.agg #[iv p2_6, iv p2_7, iv p2_8, iv p2_9]] (by kernel_rfl) (L24 _ (⟨p2_6, p2_7, p2_8, p2_9⟩ : Cl) _ hy182) (fun v' w' h => h)) ?_
           refine al_on 23 (.bool false) hsub rfl (by kernel_rfl) (by kernel_rfl) (fun w hI => s_eql rfl rfl (fun h => absurd (a := y179 = y181) h h42) (fun _ => ⟨rfl, Below.refl _ _⟩)) ?_
           refine alp 24 (.bool false) hsub rfl (by kernel_rfl) (fun _ => (by kernel_rfl)) ?_
           refine alp 25 (.bool false) hsub rfl (by kernel_rfl) (fun _ => (by kernel_rfl)) ?_
           refine any_end (by kernel_rfl) (fun w hI => ?_)
           refine wp_ret ?_
           replace hF := Option.some.inj hF; subst hF
           exact ⟨.bool false, Ret.r1 rfl rfl, ⟨rfl, hI.below⟩⟩
         ·
          refine wp_drawn2 hI [0, 1] (by decide) rfl (by kernel_rfl) (by kernel_rfl) ?_
          intro hsub
          refine alp 0 (.pointer (some ⟨b95, 0, none⟩)) hsub rfl (by kernel_rfl) (fun _ => (by kernel_rfl)) ?_
          refine al_light 1 (.agg #[iv p2_0, iv p2_1, iv p2_2]) hsub rfl (by kernel_rfl) (fun w hI => s_loadK hI 1 3 [iv p2_0, iv p2_1, iv p2_2] Try.isAgg30 Try.sizeOf30 rfl rfl rfl rfl ⟨rfl, Below.refl _ _⟩) ?_
          refine al_light 2 (iv y171) hsub rfl (by kernel_rfl) (fun w hI => s_call 19 [.agg #[iv p2_0, iv p2_1, iv p2_2]] (by kernel_rfl) (L19 _ (⟨p2_0, p2_1, p2_2⟩ : Ch) _ hy172) (fun v' w' h => h)) ?_
          refine alp 3 (.pointer (some ⟨b95, 0, none⟩)) hsub rfl (by kernel_rfl) (fun _ => (by kernel_rfl)) ?_
          refine al_light 4 (.agg #[iv p2_0, iv p2_1, iv p2_2]) hsub rfl (by kernel_rfl) (fun w hI => s_loadK hI 1 3 [iv p2_0, iv p2_1, iv p2_2] Try.isAgg30 Try.sizeOf30 rfl rfl rfl rfl ⟨rfl, Below.refl _ _⟩) ?_
          refine al_light 5 (iv y173) hsub rfl (by kernel_rfl) (fun w hI => s_call 20 [.agg #[iv p2_0, iv p2_1, iv p2_2]] (by kernel_rfl) (L20 _ (⟨p2_0, p2_1, p2_2⟩ : Ch) _ hy174) (fun v' w' h => h)) ?_
          refine al_light 6 (.bool true) hsub rfl (by kernel_rfl) (fun w hI => s_eql rfl rfl (fun _ => ⟨rfl, Below.refl _ _⟩) (fun h => absurd (a := y171 = y173) h40 h)) ?_
          refine alp 7 (.bool true) hsub rfl (by kernel_rfl) (fun _ => (by kernel_rfl)) ?_
          refine al_on 8 (.pointer (some ⟨b95, 3, none⟩)) hsub rfl (by kernel_rfl) (by kernel_rfl) (fun w hI => s_pure (.pointer (some ⟨b95, 3, none⟩)) (by kernel_rfl) ⟨rfl, Below.refl _ _⟩) ?_
          refine al_on 9 (.agg #[iv p2_3, iv p2_4, iv p2_5]) hsub rfl (by kernel_rfl) (by kernel_rfl) (fun w hI => s_loadK hI 1 3 [iv p2_3, iv p2_4, iv p2_5] Try.isAgg32 Try.sizeOf32 rfl rfl rfl rfl ⟨rfl, Below.refl _ _⟩) ?_
          refine al_on 10 (iv y175) hsub rfl (by kernel_rfl) (by kernel_rfl) (fun w hI => s_call 21 [.agg #[iv p2_3, iv p2_4, iv p2_5]] (by kernel_rfl) (L21 _ (⟨p2_3, p2_4, p2_5⟩ : Ce) _ hy176) (fun v' w' h => h)) ?_
          refine al_on 11 (.pointer (some ⟨b95, 3, none⟩)) hsub rfl (by kernel_rfl) (by kernel_rfl) (fun w hI => s_pure (.pointer (some ⟨b95, 3, none⟩)) (by kernel_rfl) ⟨rfl, Below.refl _ _⟩) ?_
          refine al_on 12 (.agg #[iv p2_3, iv p2_4, iv p2_5]) hsub rfl (by kernel_rfl) (by kernel_rfl) (fun w hI => s_loadK hI 1 3 [iv p2_3, iv p2_4, iv p2_5] Try.isAgg32 Try.sizeOf32 rfl rfl rfl rfl ⟨rfl, Below.refl _ _⟩) ?_
          refine al_on 13 (iv y177) hsub rfl (by kernel_rfl) (by kernel_rfl) (fun w hI => s_call 22 [.agg #[iv p2_3, iv p2_4, iv p2_5]] (by kernel_rfl) (L22 _ (⟨p2_3, p2_4, p2_5⟩ : Ce) _ hy178) (fun v' w' h => h)) ?_
          refine al_on 14 (.bool false) hsub rfl (by kernel_rfl) (by kernel_rfl) (fun w hI => s_eql rfl rfl (fun h => absurd (a := y175 = y177) h h41) (fun _ => ⟨rfl, Below.refl _ _⟩)) ?_
          refine alp 15 (.bool false) hsub rfl (by kernel_rfl) (fun _ => (by kernel_rfl)) ?_
          refine alp 16 (.bool false) hsub rfl (by kernel_rfl) (fun _ => (by kernel_rfl)) ?_
          refine al_off 17 hsub rfl (by kernel_rfl) (by kernel_rfl) ?_
          refine al_off 18 hsub rfl (by kernel_rfl) (by kernel_rfl) ?_
          refine al_off 19 hsub rfl (by kernel_rfl) (by kernel_rfl) ?_
          refine al_off 20 hsub rfl (by kernel_rfl) (by kernel_rfl) ?_
          refine al_off 21 hsub rfl (by kernel_rfl) (by kernel_rfl) ?_
          refine al_off 22 hsub rfl (by kernel_rfl) (by kernel_rfl) ?_
          refine al_off 23 hsub rfl (by kernel_rfl) (by kernel_rfl) ?_
          refine alp 24 (.bool false) hsub rfl (by kernel_rfl) (fun _ => (by kernel_rfl)) ?_
          refine alp 25 (.bool false) hsub rfl (by kernel_rfl) (fun _ => (by kernel_rfl)) ?_
          refine any_end (by kernel_rfl) (fun w hI => ?_)
          refine wp_ret ?_
          replace hF := Option.some.inj hF; subst hF
          exact ⟨.bool false, Ret.r1 rfl rfl, ⟨rfl, hI.below⟩⟩
        ·
         refine wp_drawn2 hI [0, 1] (by decide) rfl (by kernel_rfl) (by kernel_rfl) ?_
         intro hsub
         refine alp 0 (.pointer (some ⟨b95, 0, none⟩)) hsub rfl (by kernel_rfl) (fun _ => (by kernel_rfl)) ?_
         refine al_light 1 (.agg #[iv p2_0, iv p2_1, iv p2_2]) hsub rfl (by kernel_rfl) (fun w hI => s_loadK hI 1 3 [iv p2_0, iv p2_1, iv p2_2] Try.isAgg30 Try.sizeOf30 rfl rfl rfl rfl ⟨rfl, Below.refl _ _⟩) ?_
         refine al_light 2 (iv y171) hsub rfl (by kernel_rfl) (fun w hI => s_call 19 [.agg #[iv p2_0, iv p2_1, iv p2_2]] (by kernel_rfl) (L19 _ (⟨p2_0, p2_1, p2_2⟩ : Ch) _ hy172) (fun v' w' h => h)) ?_
         refine alp 3 (.pointer (some ⟨b95, 0, none⟩)) hsub rfl (by kernel_rfl) (fun _ => (by kernel_rfl)) ?_
         refine al_light 4 (.agg #[iv p2_0, iv p2_1, iv p2_2]) hsub rfl (by kernel_rfl) (fun w hI => s_loadK hI 1 3 [iv p2_0, iv p2_1, iv p2_2] Try.isAgg30 Try.sizeOf30 rfl rfl rfl rfl ⟨rfl, Below.refl _ _⟩) ?_
         refine al_light 5 (iv y173) hsub rfl (by kernel_rfl) (fun w hI => s_call 20 [.agg #[iv p2_0, iv p2_1, iv p2_2]] (by kernel_rfl) (L20 _ (⟨p2_0, p2_1, p2_2⟩ : Ch) _ hy174) (fun v' w' h => h)) ?_
         refine al_light 6 (.bool false) hsub rfl (by kernel_rfl) (fun w hI => s_eql rfl rfl (fun h => absurd (a := y171 = y173) h h40) (fun _ => ⟨rfl, Below.refl _ _⟩)) ?_
         refine alp 7 (.bool false) hsub rfl (by kernel_rfl) (fun _ => (by kernel_rfl)) ?_
         refine al_off 8 hsub rfl (by kernel_rfl) (by kernel_rfl) ?_
         refine al_off 9 hsub rfl (by kernel_rfl) (by kernel_rfl) ?_
         refine al_off 10 hsub rfl (by kernel_rfl) (by kernel_rfl) ?_
         refine al_off 11 hsub rfl (by kernel_rfl) (by kernel_rfl) ?_
         refine al_off 12 hsub rfl (by kernel_rfl) (by kernel_rfl) ?_
         refine al_off 13 hsub rfl (by kernel_rfl) (by kernel_rfl) ?_
         refine al_off 14 hsub rfl (by kernel_rfl) (by kernel_rfl) ?_
         refine alp 15 (.bool false) hsub rfl (by kernel_rfl) (fun _ => (by kernel_rfl)) ?_
         refine alp 16 (.bool false) hsub rfl (by kernel_rfl) (fun _ => (by kernel_rfl)) ?_
         refine al_off 17 hsub rfl (by kernel_rfl) (by kernel_rfl) ?_
         refine al_off 18 hsub rfl (by kernel_rfl) (by kernel_rfl) ?_
         refine al_off 19 hsub rfl (by kernel_rfl) (by kernel_rfl) ?_
         refine al_off 20 hsub rfl (by kernel_rfl) (by kernel_rfl) ?_
         refine al_off 21 hsub rfl (by kernel_rfl) (by kernel_rfl) ?_
         refine al_off 22 hsub rfl (by kernel_rfl) (by kernel_rfl) ?_
         refine al_off 23 hsub rfl (by kernel_rfl) (by kernel_rfl) ?_
         refine alp 24 (.bool false) hsub rfl (by kernel_rfl) (fun _ => (by kernel_rfl)) ?_
         refine alp 25 (.bool false) hsub rfl (by kernel_rfl) (fun _ => (by kernel_rfl)) ?_
         refine any_end (by kernel_rfl) (fun w hI => ?_)
         refine wp_ret ?_
         replace hF := Option.some.inj hF; subst hF
         exact ⟨.bool false, Ret.r1 rfl rfl, ⟨rfl, hI.below⟩⟩
       ·
        refine wp_drawn2 hI [0, 1] (by decide) rfl (by kernel_rfl) (by kernel_rfl) ?_
        intro hsub
        refine alp 0 (.bool true) hsub rfl (by kernel_rfl) (fun _ => (by kernel_rfl)) ?_
        refine alp 1 (.bool false) hsub rfl (by kernel_rfl) (fun _ => (by kernel_rfl)) ?_
        refine alp 2 (.bool false) hsub rfl (by kernel_rfl) (fun _ => (by kernel_rfl)) ?_
        refine al_on 3 (.bool true) hsub rfl (by kernel_rfl) (by kernel_rfl) (fun w hI => s_pure (.bool true) (by kernel_rfl) ⟨rfl, Below.refl _ _⟩) ?_
        refine al_on 4 (.bool false) hsub rfl (by kernel_rfl) (by kernel_rfl) (fun w hI => s_pure (.bool false) (by kernel_rfl) ⟨rfl, Below.refl _ _⟩) ?_
        refine alp 5 (.bool false) hsub rfl (by kernel_rfl) (fun _ => (by kernel_rfl)) ?_
        refine alp 6 (.bool false) hsub rfl (by kernel_rfl) (fun _ => (by kernel_rfl)) ?_
        refine al_on 7 (iv y105.2) hsub rfl (by kernel_rfl) (by kernel_rfl) (fun w hI => s_pure (iv y105.2) (by kernel_rfl) ⟨rfl, Below.refl _ _⟩) ?_
        refine al_on 8 (iv y117.2) hsub rfl (by kernel_rfl) (by kernel_rfl) (fun w hI => s_pure (iv y117.2) (by kernel_rfl) ⟨rfl, Below.refl _ _⟩) ?_
        refine al_on 9 (.bool false) hsub rfl (by kernel_rfl) (by kernel_rfl) (fun w hI => s_neq rfl rfl (fun h => absurd (a := y105.2 = y117.2) h34 h) (fun _ => ⟨rfl, Below.refl _ _⟩)) ?_
        refine alp 10 (.bool false) hsub rfl (by kernel_rfl) (fun _ => (by kernel_rfl)) ?_
        refine alp 11 (.bool false) hsub rfl (by kernel_rfl) (fun _ => (by kernel_rfl)) ?_
        refine al_on 12 (.agg #[.slice Ap0_0 lp0_0.length cp0_0, .slice Ap0_1 lp0_1.length cp0_1]) hsub rfl (by kernel_rfl) (by kernel_rfl) (fun w hI => s_loadK hI 0 2 [.slice Ap0_0 lp0_0.length cp0_0, .slice Ap0_1 lp0_1.length cp0_1] Try.isAgg25 Try.sizeOf25 rfl rfl rfl rfl ⟨rfl, Below.refl _ _⟩) ?_
        refine al_on 13 (iv y150) hsub rfl (by kernel_rfl) (by kernel_rfl) (fun w hI => s_call 15 [.agg #[.slice Ap0_0 lp0_0.length cp0_0, .slice Ap0_1 lp0_1.length cp0_1]] (by kernel_rfl) (L15 _ Ap0_0 cp0_0 lp0_0 Ap0_1 cp0_1 lp0_1 (hCp0_0.inv0 hI) hMp0_0 hKp0_0 (hCp0_1.inv0 hI) hMp0_1 hKp0_1 N _ hy151) (fun v' w' h => h)) ?_
        refine al_on 14 (.agg #[.slice Ap0_0 lp0_0.length cp0_0, .slice Ap0_1 lp0_1.length cp0_1]) hsub rfl (by kernel_rfl) (by kernel_rfl) (fun w hI => s_loadK hI 0 2 [.slice Ap0_0 lp0_0.length cp0_0, .slice Ap0_1 lp0_1.length cp0_1] Try.isAgg25 Try.sizeOf25 rfl rfl rfl rfl ⟨rfl, Below.refl _ _⟩) ?_
        refine al_on 15 (iv y152) hsub rfl (by kernel_rfl) (by kernel_rfl) (fun w hI => s_call 16 [.agg #[.slice Ap0_0 lp0_0.length cp0_0, .slice Ap0_1 lp0_1.length cp0_1]] (by kernel_rfl) (L16 _ Ap0_0 cp0_0 lp0_0 Ap0_1 cp0_1 lp0_1 (hCp0_0.inv0 hI) hMp0_0 hKp0_0 (hCp0_1.inv0 hI) hMp0_1 hKp0_1 N _ hy153) (fun v' w' h => h)) ?_
        refine al_on 16 (.bool false) hsub rfl (by kernel_rfl) (by kernel_rfl) (fun w hI => s_neq rfl rfl (fun h => absurd (a := y150 = y152) h35 h) (fun _ => ⟨rfl, Below.refl _ _⟩)) ?_
        refine alp 17 (.bool false) hsub rfl (by kernel_rfl) (fun _ => (by kernel_rfl)) ?_
        refine alp 18 (.bool false) hsub rfl (by kernel_rfl) (fun _ => (by kernel_rfl)) ?_
        refine al_on 19 (.agg #[.slice Ap0_0 lp0_0.length cp0_0, .slice Ap0_1 lp0_1.length cp0_1]) hsub rfl (by kernel_rfl) (by kernel_rfl) (fun w hI => s_loadK hI 0 2 [.slice Ap0_0 lp0_0.length cp0_0, .slice Ap0_1 lp0_1.length cp0_1] Try.isAgg25 Try.sizeOf25 rfl rfl rfl rfl ⟨rfl, Below.refl _ _⟩) ?_
        refine al_on 20 (.slice Ap1 lp1.length cp1) hsub rfl (by kernel_rfl) (by kernel_rfl) (fun w hI => s_pure (.slice Ap1 lp1.length cp1) (by kernel_rfl) ⟨rfl, Below.refl _ _⟩) ?_
        refine al_on 21 (iv y154) hsub rfl (by kernel_rfl) (by kernel_rfl) (fun w hI => s_call 17 [.agg #[.slice Ap0_0 lp0_0.length cp0_0, .slice Ap0_1 lp0_1.length cp0_1], .slice Ap1 lp1.length cp1] (by kernel_rfl) (L17 _ Ap0_0 cp0_0 lp0_0 Ap0_1 cp0_1 lp0_1 Ap1 cp1 lp1 (hCp0_0.inv0 hI) hMp0_0 hKp0_0 (hCp0_1.inv0 hI) hMp0_1 hKp0_1 (hCp1.inv0 hI) hMp1 hKp1 N _ hy155) (fun v' w' h => h)) ?_
        refine al_on 22 (.agg #[.slice Ap0_0 lp0_0.length cp0_0, .slice Ap0_1 lp0_1.length cp0_1]) hsub rfl (by kernel_rfl) (by kernel_rfl) (fun w hI => s_loadK hI 0 2 [.slice Ap0_0 lp0_0.length cp0_0, .slice Ap0_1 lp0_1.length cp0_1] Try.isAgg25 Try.sizeOf25 rfl rfl rfl rfl ⟨rfl, Below.refl _ _⟩) ?_
        refine al_on 23 (.slice Ap1 lp1.length cp1) hsub rfl (by kernel_rfl) (by kernel_rfl) (fun w hI => s_pure (.slice Ap1 lp1.length cp1) (by kernel_rfl) ⟨rfl, Below.refl _ _⟩) ?_
        refine al_on 24 (iv y156) hsub rfl (by kernel_rfl) (by kernel_rfl) (fun w hI => s_call 18 [.agg #[.slice Ap0_0 lp0_0.length cp0_0, .slice Ap0_1 lp0_1.length cp0_1], .slice Ap1 lp1.length cp1] (by kernel_rfl) (L18 _ Ap0_0 cp0_0 lp0_0 Ap0_1 cp0_1 lp0_1 Ap1 cp1 lp1 (hCp0_0.inv0 hI) hMp0_0 hKp0_0 (hCp0_1.inv0 hI) hMp0_1 hKp0_1 (hCp1.inv0 hI) hMp1 hKp1 N _ hy157) (fun v' w' h => h)) ?_
        refine al_on 25 (.bool true) hsub rfl (by kernel_rfl) (by kernel_rfl) (fun w hI => s_neq rfl rfl (fun _ => ⟨rfl, Below.refl _ _⟩) (fun h => absurd (a := y154 = y156) h h36)) ?_
        refine alp 26 (.bool true) hsub rfl (by kernel_rfl) (fun _ => (by kernel_rfl)) ?_
        refine any_end (by kernel_rfl) (fun w hI => ?_)
        refine wp_condT rfl (wp_seq (rgn (by kernel_rfl) (pu (.bool false) (by kernel_rfl) (seq_nil (wp_ret ?_)))))
        replace hF := Option.some.inj hF; subst hF
        exact ⟨.bool false, Ret.r1 rfl rfl, ⟨rfl, hI.below⟩⟩
      ·
       refine wp_drawn2 hI [0, 1] (by decide) rfl (by kernel_rfl) (by kernel_rfl) ?_
       intro hsub
       refine alp 0 (.bool true) hsub rfl (by kernel_rfl) (fun _ => (by kernel_rfl)) ?_
       refine alp 1 (.bool false) hsub rfl (by kernel_rfl) (fun _ => (by kernel_rfl)) ?_
       refine alp 2 (.bool false) hsub rfl (by kernel_rfl) (fun _ => (by kernel_rfl)) ?_
       refine al_on 3 (.bool true) hsub rfl (by kernel_rfl) (by kernel_rfl) (fun w hI => s_pure (.bool true) (by kernel_rfl) ⟨rfl, Below.refl _ _⟩) ?_
       refine al_on 4 (.bool false) hsub rfl (by kernel_rfl) (by kernel_rfl) (fun w hI => s_pure (.bool false) (by kernel_rfl) ⟨rfl, Below.refl _ _⟩) ?_
       refine alp 5 (.bool false) hsub rfl (by kernel_rfl) (fun _ => (by kernel_rfl)) ?_
       refine alp 6 (.bool false) hsub rfl (by kernel_rfl) (fun _ => (by kernel_rfl)) ?_
       refine al_on 7 (iv y105.2) hsub rfl (by kernel_rfl) (by kernel_rfl) (fun w hI => s_pure (iv y105.2) (by kernel_rfl) ⟨rfl, Below.refl _ _⟩) ?_
       refine al_on 8 (iv y117.2) hsub rfl (by kernel_rfl) (by kernel_rfl) (fun w hI => s_pure (iv y117.2) (by kernel_rfl) ⟨rfl, Below.refl _ _⟩) ?_
       refine al_on 9 (.bool false) hsub rfl (by kernel_rfl) (by kernel_rfl) (fun w hI => s_neq rfl rfl (fun h => absurd (a := y105.2 = y117.2) h34 h) (fun _ => ⟨rfl, Below.refl _ _⟩)) ?_
       refine alp 10 (.bool false) hsub rfl (by kernel_rfl) (fun _ => (by kernel_rfl)) ?_
       refine alp 11 (.bool false) hsub rfl (by kernel_rfl) (fun _ => (by kernel_rfl)) ?_
       refine al_on 12 (.agg #[.slice Ap0_0 lp0_0.length cp0_0, .slice Ap0_1 lp0_1.length cp0_1]) hsub rfl (by kernel_rfl) (by kernel_rfl) (fun w hI => s_loadK hI 0 2 [.slice Ap0_0 lp0_0.length cp0_0, .slice Ap0_1 lp0_1.length cp0_1] Try.isAgg25 Try.sizeOf25 rfl rfl rfl rfl ⟨rfl, Below.refl _ _⟩) ?_
       refine al_on 13 (iv y150) hsub rfl (by kernel_rfl) (by kernel_rfl) (fun w hI => s_call 15 [.agg #[.slice Ap0_0 lp0_0.length cp0_0, .slice Ap0_1 lp0_1.length cp0_1]] (by kernel_rfl) (L15 _ Ap0_0 cp0_0 lp0_0 Ap0_1 cp0_1 lp0_1 (hCp0_0.inv0 hI) hMp0_0 hKp0_0 (hCp0_1.inv0 hI) hMp0_1 hKp0_1 N _ hy151) (fun v' w' h => h)) ?_
       refine al_on 14 (.agg #[.slice Ap0_0 lp0_0.length cp0_0, .slice Ap0_1 lp0_1.length cp0_1]) hsub rfl (by kernel_rfl) (by kernel_rfl) (fun w hI => s_loadK hI 0 2 [.slice Ap0_0 lp0_0.length cp0_0, .slice Ap0_1 lp0_1.length cp0_1] Try.isAgg25 Try.sizeOf25 rfl rfl rfl rfl ⟨rfl, Below.refl _ _⟩) ?_
       refine al_on 15 (iv y152) hsub rfl (by kernel_rfl) (by kernel_rfl) (fun w hI => s_call 16 [.agg #[.slice Ap0_0 lp0_0.length cp0_0, .slice Ap0_1 lp0_1.length cp0_1]] (by kernel_rfl) (L16 _ Ap0_0 cp0_0 lp0_0 Ap0_1 cp0_1 lp0_1 (hCp0_0.inv0 hI) hMp0_0 hKp0_0 (hCp0_1.inv0 hI) hMp0_1 hKp0_1 N _ hy153) (fun v' w' h => h)) ?_
       refine al_on 16 (.bool true) hsub rfl (by kernel_rfl) (by kernel_rfl) (fun w hI => s_neq rfl rfl (fun _ => ⟨rfl, Below.refl _ _⟩) (fun h => absurd (a := y150 = y152) h h35)) ?_
       refine alp 17 (.bool true) hsub rfl (by kernel_rfl) (fun _ => (by kernel_rfl)) ?_
       refine alp 18 (.bool true) hsub rfl (by kernel_rfl) (fun _ => (by kernel_rfl)) ?_
       refine al_off 19 hsub rfl (by kernel_rfl) (by kernel_rfl) ?_
       refine al_off 20 hsub rfl (by kernel_rfl) (by kernel_rfl) ?_
       refine al_off 21 hsub rfl (by kernel_rfl) (by kernel_rfl) ?_
       refine al_off 22 hsub rfl (by kernel_rfl) (by kernel_rfl) ?_
       refine al_off 23 hsub rfl (by kernel_rfl) (by kernel_rfl) ?_
       refine al_off 24 hsub rfl (by kernel_rfl) (by kernel_rfl) ?_
       refine al_off 25 hsub rfl (by kernel_rfl) (by kernel_rfl) ?_
       refine alp 26 (.bool true) hsub rfl (by kernel_rfl) (fun _ => (by kernel_rfl)) ?_
       refine any_end (by kernel_rfl) (fun w hI => ?_)
       refine wp_condT rfl (wp_seq (rgn (by kernel_rfl) (pu (.bool false) (by kernel_rfl) (seq_nil (wp_ret ?_)))))
       replace hF := Option.some.inj hF; subst hF
       exact ⟨.bool false, Ret.r1 rfl rfl, ⟨rfl, hI.below⟩⟩
     ·
      refine wp_drawn2 hI [0, 1] (by decide) rfl (by kernel_rfl) (by kernel_rfl) ?_
      intro hsub
      refine alp 0 (.bool true) hsub rfl (by kernel_rfl) (fun _ => (by kernel_rfl)) ?_
      refine alp 1 (.bool false) hsub rfl (by kernel_rfl) (fun _ => (by kernel_rfl)) ?_
      refine alp 2 (.bool false) hsub rfl (by kernel_rfl) (fun _ => (by kernel_rfl)) ?_
      refine al_on 3 (.bool true) hsub rfl (by kernel_rfl) (by kernel_rfl) (fun w hI => s_pure (.bool true) (by kernel_rfl) ⟨rfl, Below.refl _ _⟩) ?_
      refine al_on 4 (.bool false) hsub rfl (by kernel_rfl) (by kernel_rfl) (fun w hI => s_pure (.bool false) (by kernel_rfl) ⟨rfl, Below.refl _ _⟩) ?_
      refine alp 5 (.bool false) hsub rfl (by kernel_rfl) (fun _ => (by kernel_rfl)) ?_
      refine alp 6 (.bool false) hsub rfl (by kernel_rfl) (fun _ => (by kernel_rfl)) ?_
      refine al_on 7 (iv y105.2) hsub rfl (by kernel_rfl) (by kernel_rfl) (fun w hI => s_pure (iv y105.2) (by kernel_rfl) ⟨rfl, Below.refl _ _⟩) ?_
      refine al_on 8 (iv y117.2) hsub rfl (by kernel_rfl) (by kernel_rfl) (fun w hI => s_pure (iv y117.2) (by kernel_rfl) ⟨rfl, Below.refl _ _⟩) ?_
      refine al_on 9 (.bool true) hsub rfl (by kernel_rfl) (by kernel_rfl) (fun w hI => s_neq rfl rfl (fun _ => ⟨rfl, Below.refl _ _⟩) (fun h => absurd (a := y105.2 = y117.2) h h34)) ?_
      refine alp 10 (.bool true) hsub rfl (by kernel_rfl) (fun _ => (by kernel_rfl)) ?_
      refine alp 11 (.bool true) hsub rfl (by kernel_rfl) (fun _ => (by kernel_rfl)) ?_
      refine al_off 12 hsub rfl (by kernel_rfl) (by kernel_rfl) ?_
      refine al_off 13 hsub rfl (by kernel_rfl) (by kernel_rfl) ?_
      refine al_off 14 hsub rfl (by kernel_rfl) (by kernel_rfl) ?_
      refine al_off 15 hsub rfl (by kernel_rfl) (by kernel_rfl) ?_
      refine al_off 16 hsub rfl (by kernel_rfl) (by kernel_rfl) ?_
      refine alp 17 (.bool true) hsub rfl (by kernel_rfl) (fun _ => (by kernel_rfl)) ?_
      refine alp 18 (.bool true) hsub rfl (by kernel_rfl) (fun _ => (by kernel_rfl)) ?_
      refine al_off 19 hsub rfl (by kernel_rfl) (by kernel_rfl) ?_
      refine al_off 20 hsub rfl (by kernel_rfl) (by kernel_rfl) ?_
      refine al_off 21 hsub rfl (by kernel_rfl) (by kernel_rfl) ?_
      refine al_off 22 hsub rfl (by kernel_rfl) (by kernel_rfl) ?_
      refine al_off 23 hsub rfl (by kernel_rfl) (by kernel_rfl) ?_
      refine al_off 24 hsub rfl (by kernel_rfl) (by kernel_rfl) ?_
      refine al_off 25 hsub rfl (by kernel_rfl) (by kernel_rfl) ?_
      refine alp 26 (.bool true) hsub rfl (by kernel_rfl) (fun _ => (by kernel_rfl)) ?_
      refine any_end (by kernel_rfl) (fun w hI => ?_)
      refine wp_condT rfl (wp_seq (rgn (by kernel_rfl) (pu (.bool false) (by kernel_rfl) (seq_nil (wp_ret ?_)))))
      replace hF := Option.some.inj hF; subst hF
      exact ⟨.bool false, Ret.r1 rfl rfl, ⟨rfl, hI.below⟩⟩
    ·
     have hF := hG; clear hG
     refine ifE hF (fun h => absurd h (by decide)) (fun _ hF => ?_)
     refine wp_drawn2 hI [0, 1] (by decide) rfl (by kernel_rfl) (by kernel_rfl) ?_
     intro hsub
     refine alp 0 (.bool true) hsub rfl (by kernel_rfl) (fun _ => (by kernel_rfl)) ?_
     refine alp 1 (.bool false) hsub rfl (by kernel_rfl) (fun _ => (by kernel_rfl)) ?_
     refine alp 2 (.bool false) hsub rfl (by kernel_rfl) (fun _ => (by kernel_rfl)) ?_
     refine al_on 3 (.bool false) hsub rfl (by kernel_rfl) (by kernel_rfl) (fun w hI => s_pure (.bool false) (by kernel_rfl) ⟨rfl, Below.refl _ _⟩) ?_
     refine al_on 4 (.bool true) hsub rfl (by kernel_rfl) (by kernel_rfl) (fun w hI => s_pure (.bool true) (by kernel_rfl) ⟨rfl, Below.refl _ _⟩) ?_
     refine alp 5 (.bool true) hsub rfl (by kernel_rfl) (fun _ => (by kernel_rfl)) ?_
     refine alp 6 (.bool true) hsub rfl (by kernel_rfl) (fun _ => (by kernel_rfl)) ?_
     refine al_off 7 hsub rfl (by kernel_rfl) (by kernel_rfl) ?_
     refine al_off 8 hsub rfl (by kernel_rfl) (by kernel_rfl) ?_
     refine al_off 9 hsub rfl (by kernel_rfl) (by kernel_rfl) ?_
     refine alp 10 (.bool true) hsub rfl (by kernel_rfl) (fun _ => (by kernel_rfl)) ?_
     refine alp 11 (.bool true) hsub rfl (by kernel_rfl) (fun _ => (by kernel_rfl)) ?_
     refine al_off 12 hsub rfl (by kernel_rfl) (by kernel_rfl) ?_
     refine al_off 13 hsub rfl (by kernel_rfl) (by kernel_rfl) ?_
     refine al_off 14 hsub rfl (by kernel_rfl) (by kernel_rfl) ?_
     refine al_off 15 hsub rfl (by kernel_rfl) (by kernel_rfl) ?_
     refine al_off 16 hsub rfl (by kernel_rfl) (by kernel_rfl) ?_
     refine alp 17 (.bool true) hsub rfl (by kernel_rfl) (fun _ => (by kernel_rfl)) ?_
     refine alp 18 (.bool true) hsub rfl (by kernel_rfl) (fun _ => (by kernel_rfl)) ?_
     refine al_off 19 hsub rfl (by kernel_rfl) (by kernel_rfl) ?_
     refine al_off 20 hsub rfl (by kernel_rfl) (by kernel_rfl) ?_
     refine al_off 21 hsub rfl (by kernel_rfl) (by kernel_rfl) ?_
     refine al_off 22 hsub rfl (by kernel_rfl) (by kernel_rfl) ?_
     refine al_off 23 hsub rfl (by kernel_rfl) (by kernel_rfl) ?_
     refine al_off 24 hsub rfl (by kernel_rfl) (by kernel_rfl) ?_
     refine al_off 25 hsub rfl (by kernel_rfl) (by kernel_rfl) ?_
     refine alp 26 (.bool true) hsub rfl (by kernel_rfl) (fun _ => (by kernel_rfl)) ?_
     refine any_end (by kernel_rfl) (fun w hI => ?_)
     refine wp_condT rfl (wp_seq (rgn (by kernel_rfl) (pu (.bool false) (by kernel_rfl) (seq_nil (wp_ret ?_)))))
     replace hF := Option.some.inj hF; subst hF
     exact ⟨.bool false, Ret.r1 rfl rfl, ⟨rfl, hI.below⟩⟩
   ·
    have hF := hG; clear hG
    refine ifE hF (fun h => absurd h (by decide)) (fun _ hF => ?_)
    have hG := hF; rcases Bool.eq_false_or_eq_true v125 with rfl | rfl
    ·
     have hF := hG; clear hG
     refine ifE hF (fun _ hF => ?_) (fun h => absurd rfl h)
     refine wp_drawn2 hI [0, 1] (by decide) rfl (by kernel_rfl) (by kernel_rfl) ?_
     intro hsub
     refine alp 0 (.bool false) hsub rfl (by kernel_rfl) (fun _ => (by kernel_rfl)) ?_
     refine alp 1 (.bool true) hsub rfl (by kernel_rfl) (fun _ => (by kernel_rfl)) ?_
     refine alp 2 (.bool true) hsub rfl (by kernel_rfl) (fun _ => (by kernel_rfl)) ?_
     refine al_off 3 hsub rfl (by kernel_rfl) (by kernel_rfl) ?_
     refine al_off 4 hsub rfl (by kernel_rfl) (by kernel_rfl) ?_
     refine alp 5 (.bool true) hsub rfl (by kernel_rfl) (fun _ => (by kernel_rfl)) ?_
     refine alp 6 (.bool true) hsub rfl (by kernel_rfl) (fun _ => (by kernel_rfl)) ?_
     refine al_off 7 hsub rfl (by kernel_rfl) (by kernel_rfl) ?_
     refine al_off 8 hsub rfl (by kernel_rfl) (by kernel_rfl) ?_
     refine al_off 9 hsub rfl (by kernel_rfl) (by kernel_rfl) ?_
     refine alp 10 (.bool true) hsub rfl (by kernel_rfl) (fun _ => (by kernel_rfl)) ?_
     refine alp 11 (.bool true) hsub rfl (by kernel_rfl) (fun _ => (by kernel_rfl)) ?_
     refine al_off 12 hsub rfl (by kernel_rfl) (by kernel_rfl) ?_
     refine al_off 13 hsub rfl (by kernel_rfl) (by kernel_rfl) ?_
     refine al_off 14 hsub rfl (by kernel_rfl) (by kernel_rfl) ?_
     refine al_off 15 hsub rfl (by kernel_rfl) (by kernel_rfl) ?_
     refine al_off 16 hsub rfl (by kernel_rfl) (by kernel_rfl) ?_
     refine alp 17 (.bool true) hsub rfl (by kernel_rfl) (fun _ => (by kernel_rfl)) ?_
     refine alp 18 (.bool true) hsub rfl (by kernel_rfl) (fun _ => (by kernel_rfl)) ?_
     refine al_off 19 hsub rfl (by kernel_rfl) (by kernel_rfl) ?_
     refine al_off 20 hsub rfl (by kernel_rfl) (by kernel_rfl) ?_
     refine al_off 21 hsub rfl (by kernel_rfl) (by kernel_rfl) ?_
     refine al_off 22 hsub rfl (by kernel_rfl) (by kernel_rfl) ?_
     refine al_off 23 hsub rfl (by kernel_rfl) (by kernel_rfl) ?_
     refine al_off 24 hsub rfl (by kernel_rfl) (by kernel_rfl) ?_
     refine al_off 25 hsub rfl (by kernel_rfl) (by kernel_rfl) ?_
     refine alp 26 (.bool true) hsub rfl (by kernel_rfl) (fun _ => (by kernel_rfl)) ?_
     refine any_end (by kernel_rfl) (fun w hI => ?_)
     refine wp_condT rfl (wp_seq (rgn (by kernel_rfl) (pu (.bool false) (by kernel_rfl) (seq_nil (wp_ret ?_)))))
     replace hF := Option.some.inj hF; subst hF
     exact ⟨.bool false, Ret.r1 rfl rfl, ⟨rfl, hI.below⟩⟩
    ·
     have hF := hG; clear hG
     refine ifE hF (fun h => absurd h (by decide)) (fun _ hF => ?_)
     refine wp_drawn2 hI [0, 1] (by decide) rfl (by kernel_rfl) (by kernel_rfl) ?_
     intro hsub
     refine alp 0 (.bool false) hsub rfl (by kernel_rfl) (fun _ => (by kernel_rfl)) ?_
     refine alp 1 (.bool true) hsub rfl (by kernel_rfl) (fun _ => (by kernel_rfl)) ?_
     refine alp 2 (.bool true) hsub rfl (by kernel_rfl) (fun _ => (by kernel_rfl)) ?_
     refine al_off 3 hsub rfl (by kernel_rfl) (by kernel_rfl) ?_
     refine al_off 4 hsub rfl (by kernel_rfl) (by kernel_rfl) ?_
     refine alp 5 (.bool true) hsub rfl (by kernel_rfl) (fun _ => (by kernel_rfl)) ?_
     refine alp 6 (.bool true) hsub rfl (by kernel_rfl) (fun _ => (by kernel_rfl)) ?_
     refine al_off 7 hsub rfl (by kernel_rfl) (by kernel_rfl) ?_
     refine al_off 8 hsub rfl (by kernel_rfl) (by kernel_rfl) ?_
     refine al_off 9 hsub rfl (by kernel_rfl) (by kernel_rfl) ?_
     refine alp 10 (.bool true) hsub rfl (by kernel_rfl) (fun _ => (by kernel_rfl)) ?_
     refine alp 11 (.bool true) hsub rfl (by kernel_rfl) (fun _ => (by kernel_rfl)) ?_
     refine al_off 12 hsub rfl (by kernel_rfl) (by kernel_rfl) ?_
     refine al_off 13 hsub rfl (by kernel_rfl) (by kernel_rfl) ?_
     refine al_off 14 hsub rfl (by kernel_rfl) (by kernel_rfl) ?_
     refine al_off 15 hsub rfl (by kernel_rfl) (by kernel_rfl) ?_
     refine al_off 16 hsub rfl (by kernel_rfl) (by kernel_rfl) ?_
     refine alp 17 (.bool true) hsub rfl (by kernel_rfl) (fun _ => (by kernel_rfl)) ?_
     refine alp 18 (.bool true) hsub rfl (by kernel_rfl) (fun _ => (by kernel_rfl)) ?_
     refine al_off 19 hsub rfl (by kernel_rfl) (by kernel_rfl) ?_
     refine al_off 20 hsub rfl (by kernel_rfl) (by kernel_rfl) ?_
     refine al_off 21 hsub rfl (by kernel_rfl) (by kernel_rfl) ?_
     refine al_off 22 hsub rfl (by kernel_rfl) (by kernel_rfl) ?_
     refine al_off 23 hsub rfl (by kernel_rfl) (by kernel_rfl) ?_
     refine al_off 24 hsub rfl (by kernel_rfl) (by kernel_rfl) ?_
     refine al_off 25 hsub rfl (by kernel_rfl) (by kernel_rfl) ?_
     refine alp 26 (.bool true) hsub rfl (by kernel_rfl) (fun _ => (by kernel_rfl)) ?_
     refine any_end (by kernel_rfl) (fun w hI => ?_)
     refine wp_condT rfl (wp_seq (rgn (by kernel_rfl) (pu (.bool false) (by kernel_rfl) (seq_nil (wp_ret ?_)))))
     replace hF := Option.some.inj hF; subst hF
     exact ⟨.bool false, Ret.r1 rfl rfl, ⟨rfl, hI.below⟩⟩


theorem L72 (w0 : World) (Ap0_0 : Option Addr) (cp0_0 : Nat) (lp0_0 : List Ch) (Ap0_1 : Option Addr) (cp0_1 : Nat) (lp0_1 : List Ce) (bp0_2 : Nat) (esp0_2 : List En) (ckp0_2 : Nat) (Mp0_2 : Int → Option Int) (Ap1 : Option Addr) (cp1 : Nat) (lp1 : List Int) (hCp0_0 : Cells w0 Ap0_0 (flat eCh lp0_0)) (hMp0_0 : lp0_0.length ≤ 9223372036854775807) (hKp0_0 : lp0_0.length ≤ cp0_0) (hCp0_1 : Cells w0 Ap0_1 (flat eCe lp0_1)) (hMp0_1 : lp0_1.length ≤ 9223372036854775807) (hKp0_1 : lp0_1.length ≤ cp0_1) (hbp0_2 : w0.heap[bp0_2]? = some (mobj esp0_2 ckp0_2)) (hop0_2 : MOk esp0_2 ckp0_2) (hMp0_2 : ∀ j, mget esp0_2 j = (Mp0_2 j).map (Value.int .i64)) (hCp1 : Cells w0 Ap1 (flat eInt lp1)) (hMp1 : lp1.length ≤ 9223372036854775807) (hKp1 : lp1.length ≤ cp1) (N : Nat) (r : Bool) (hF : F72 N lp0_0 lp0_1 Mp0_2 lp1 = some r) : Does Try.prog 72 [.agg #[.slice Ap0_0 lp0_0.length cp0_0, .slice Ap0_1 lp0_1.length cp0_1, .map (some bp0_2)], .slice Ap1 lp1.length cp1] w0 fun v w => v = .bool r ∧ Below w0.heap.size w0 w := by
 refine calls_of (n := 36) Try.func72 rfl Try.ntmps72 rfl ?_
 have hI := Inv.start w0
 unfold F72 at hF
 refine wp_seq (rgn (by kernel_rfl) (seq_c (s_boxI hI [.slice Ap0_0 lp0_0.length cp0_0, .slice Ap0_1 lp0_1.length cp0_1, .map (some bp0_2)] rfl ?_)))
 intro b558 w hI
 refine pu (.bool false) (by kernel_rfl) (seq_nil (wp_seq (wp_seq (rgn (by kernel_rfl) (pu (.slice Ap1 lp1.length cp1) (by kernel_rfl) (pu (iv ((lp1.length : Nat) : Int)) (by kernel_rfl) (pu (.pointer (some ⟨b558, 0, none⟩)) (by kernel_rfl) (pu (.pointer (some ⟨b558, 0, none⟩)) (by kernel_rfl) (seq_c (s_load1 hI 0 (.slice Ap0_0 lp0_0.length cp0_0) Try.isAgg22 rfl rfl rfl ?_))))))))))
 refine pu (iv ((lp0_0.length : Nat) : Int)) (by kernel_rfl) (ifE hF (fun h56 hF => ?_) (fun h56 hF => ?_))
 ·
  refine seq_c (s_neq rfl rfl (fun h => absurd (a := (lp1.length : Int) = (lp0_0.length : Int)) h56 h) (fun _ => ?_))
  refine seq_nil (wp_condF rfl (wp_skip (wp_seq (wp_seq (rgn (by kernel_rfl) (pu (.pointer (some ⟨b558, 0, none⟩)) (by kernel_rfl) (pu (.pointer (some ⟨b558, 0, none⟩)) (by kernel_rfl) (seq_c (s_load1 hI 0 (.slice Ap0_0 lp0_0.length cp0_0) Try.isAgg22 rfl rfl rfl ?_)))))))))
  refine pu (iv ((lp0_0.length : Nat) : Int)) (by kernel_rfl) (pu (iv 0) (by kernel_rfl) (seq_nil (wp_block ?_)))
  refine wp_loop (fun m ρ w => ∃ (v1022 : Int) (mm : Nat), Agree ρ [(1, .slice Ap1 lp1.length cp1), (16, .slice Ap0_0 lp0_0.length cp0_0), (17, iv (lp0_0.length : Int)), (18, iv v1022)] ∧ Inv [] w0 w [] ∧ F72l1 lp0_0 lp1 mm v1022 = some r ∧ mm = m) (m := N) ⟨0, N, ⟨rfl, rfl, rfl, rfl, trivial⟩, hI.pickL [] (by decide) rfl, hF, rfl⟩ ?_
  rintro m ρ w ⟨v1022, mm, hag, hI, hF, hm⟩
  subst hm; obtain ⟨ρ, rfl⟩ := hag.form; clear hag
  obtain _ | m1 := mm
  ·cases (show (none : Option Bool) = some r from hF)
  replace hF : F72b1 lp0_0 lp1 (F72l1 lp0_0 lp1 m1) v1022 = some r := hF; unfold F72b1 at hF
  refine wp_seq (rgn (by kernel_rfl) (ifE hF (fun h97 hF => ?_) (fun h97 hF => ?_)))
  ·
   refine seq_c (s_lss rfl rfl (fun _ => ?_) (fun h => absurd (a := v1022 < (lp0_0.length : Int)) h97 h))
   refine seq_nil (wp_seq (wp_condT rfl (wp_skip (wp_seq (wp_block ?_)))))
   refine wp_seq (rgn (by kernel_rfl) (pu (iv v1022) (by kernel_rfl) (gdE hF (fun h101 hF => ?_))))
   refine bindE hF (fun x1069 hx1070 hF => ?_)
   obtain ⟨b1071, o1072, hA1073, hb1074, he1075⟩ := hCp0_0.at_ eCh_len (by decide) hx1070
   refine seq_c (s_indexA (v1022).toNat Try.underlying22 Try.sizeOf30 rfl hA1073 rfl (Int.toNat_of_nonneg h101).symm (lt_n hx1070 rfl) ?_)
   refine seq_c (s_loadBK hI [iv x1069.id, iv x1069.lo, iv x1069.hi] Try.isAgg30 Try.sizeOf30 rfl rfl hb1074 (by simp) he1075 ?_)
   refine seq_c (s_allocI hI [iv 0, iv 0, iv 0] Try.zeroValue30 rfl ?_)
   intro b1076 w hI
   refine pu (iv v1022) (by kernel_rfl) (seq_c (s_store hI 0 3 [iv x1069.id, iv x1069.lo, iv x1069.hi] Try.sizeOf30 rfl rfl rfl rfl rfl (Nat.le_of_ble_eq_true rfl) ?_))
   intro w hI
   refine seq_nil (wp_seq (bindE hF (fun x1096 hx1097 hF => ?_)))
   refine bindE hF (fun y1103 hy1104 hF => ?_)
   refine ifE hF (fun h103 hF => ?_) (fun h103 hF => ?_)
   ·
    refine wp_drawn2 hI [0] (by decide) rfl (by kernel_rfl) (by kernel_rfl) ?_
    intro hsub
    refine alp 0 (.slice Ap1 lp1.length cp1) hsub rfl (by kernel_rfl) (fun _ => (by kernel_rfl)) ?_
    refine alp 1 (iv v1022) hsub rfl (by kernel_rfl) (fun _ => (by kernel_rfl)) ?_
    obtain ⟨b1105, o1106, hA1107, hb1108, he1109⟩ := hCp1.at_ eInt_len (by decide) hx1097
    refine al_light 2 (.pointer (some ⟨b1105, o1106 + (v1022).toNat * 1, none⟩)) hsub rfl (by kernel_rfl) (fun w hI => s_indexA (v1022).toNat Try.underlying52 Try.sizeOf3 rfl hA1107 rfl (Int.toNat_of_nonneg h101).symm (lt_n hx1097 rfl) ⟨rfl, Below.refl _ _⟩) ?_
    refine al_light 3 (iv x1096) hsub rfl (by kernel_rfl) (fun w hI => s_loadB1 hI (iv x1096) Try.isAgg3 rfl hb1108 (by simp) (he1109 0 _ rfl) ⟨rfl, Below.refl _ _⟩) ?_
    refine alp 4 (.pointer (some ⟨b1076, 1, none⟩)) hsub rfl (by kernel_rfl) (fun _ => (by kernel_rfl)) ?_
    refine alp 5 (.pointer (some ⟨b1076, 1, none⟩)) hsub rfl (by kernel_rfl) (fun _ => (by kernel_rfl)) ?_
    refine al_light 6 (iv x1069.lo) hsub rfl (by kernel_rfl) (fun w hI => s_load1 hI 0 (iv x1069.lo) Try.isAgg3 rfl rfl rfl ⟨rfl, Below.refl _ _⟩) ?_
    refine alp 7 (.pointer (some ⟨b1076, 1, none⟩)) hsub rfl (by kernel_rfl) (fun _ => (by kernel_rfl)) ?_
    refine alp 8 (.pointer (some ⟨b1076, 2, none⟩)) hsub rfl (by kernel_rfl) (fun _ => (by kernel_rfl)) ?_
    refine al_light 9 (iv x1069.hi) hsub rfl (by kernel_rfl) (fun w hI => s_load1 hI 0 (iv x1069.hi) Try.isAgg3 rfl rfl rfl ⟨rfl, Below.refl _ _⟩) ?_
    refine al_light 10 (.bool true) hsub rfl (by kernel_rfl) (fun w hI => s_call 59 [iv x1096, iv x1069.lo, iv x1069.hi] (by kernel_rfl) (Does.mono (L59 _ x1096 x1069.lo x1069.hi _ hy1104) (fun v' w' h => ⟨h.1.trans (congrArg Value.bool h103), h.2⟩)) (fun v' w' h => h)) ?_
    refine alp 11 (.bool false) hsub rfl (by kernel_rfl) (fun _ => (by kernel_rfl)) ?_
    refine any_end (by kernel_rfl) (fun w hI => ?_)
    refine wp_condF rfl (wp_skip (rgn (by kernel_rfl) (ckE hF (fun h104 hF => ?_))))
    refine seq_c (s_add rfl rfl h104 ?_)
    refine pu (iv (v1022 + 1)) (by kernel_rfl) (seq_nil ?_)
    exact ⟨rfl, m1, Nat.lt_succ_self _, ⟨v1022 + 1, m1, ⟨rfl, rfl, rfl, rfl, trivial⟩, hI.pickL [] (by decide) rfl, hF, rfl⟩⟩
   ·
    refine wp_drawn2 hI [0] (by decide) rfl (by kernel_rfl) (by kernel_rfl) ?_
    intro hsub
    refine alp 0 (.slice Ap1 lp1.length cp1) hsub rfl (by kernel_rfl) (fun _ => (by kernel_rfl)) ?_
    refine alp 1 (iv v1022) hsub rfl (by kernel_rfl) (fun _ => (by kernel_rfl)) ?_
    obtain ⟨b1110, o1111, hA1112, hb1113, he1114⟩ := hCp1.at_ eInt_len (by decide) hx1097
    refine al_light 2 (.pointer (some ⟨b1110, o1111 + (v1022).toNat * 1, none⟩)) hsub rfl (by kernel_rfl) (fun w hI => s_indexA (v1022).toNat Try.underlying52 Try.sizeOf3 rfl hA1112 rfl (Int.toNat_of_nonneg h101).symm (lt_n hx1097 rfl) ⟨rfl, Below.refl _ _⟩) ?_
    refine al_light 3 (iv x1096) hsub rfl (by kernel_rfl) (fun w hI => s_loadB1 hI (iv x1096) Try.isAgg3 rfl hb1113 (by simp) (he1114 0 _ rfl) ⟨rfl, Below.refl _ _⟩) ?_
    refine alp 4 (.pointer (some ⟨b1076, 1, none⟩)) hsub rfl (by kernel_rfl) (fun _ => (by kernel_rfl)) ?_
    refine alp 5 (.pointer (some ⟨b1076, 1, none⟩)) hsub rfl (by kernel_rfl) (fun _ => (by kernel_rfl)) ?_
    refine al_light 6 (iv x1069.lo) hsub rfl (by kernel_rfl) (fun w hI => s_load1 hI 0 (iv x1069.lo) Try.isAgg3 rfl rfl rfl ⟨rfl, Below.refl _ _⟩) ?_
    refine alp 7 (.pointer (some ⟨b1076, 1, none⟩)) hsub rfl (by kernel_rfl) (fun _ => (by kernel_rfl)) ?_
    refine alp 8 (.pointer (some ⟨b1076, 2, none⟩)) hsub rfl (by kernel_rfl) (fun _ => (by kernel_rfl)) ?_
    refine al_light 9 (iv x1069.hi) hsub rfl (by kernel_rfl) (fun w hI => s_load1 hI 0 (iv x1069.hi) Try.isAgg3 rfl rfl rfl ⟨rfl, Below.refl _ _⟩) ?_
    refine al_light 10 (.bool false) hsub rfl (by kernel_rfl) (fun w hI => s_call 59 [iv x1096, iv x1069.lo, iv x1069.hi] (by kernel_rfl) (Does.mono (L59 _ x1096 x1069.lo x1069.hi _ hy1104) (fun v' w' h => ⟨h.1.trans (congrArg Value.bool (Bool.eq_false_iff.2 h103)), h.2⟩)) (fun v' w' h => h)) ?_
    refine alp 11 (.bool true) hsub rfl (by kernel_rfl) (fun _ => (by kernel_rfl)) ?_
    refine any_end (by kernel_rfl) (fun w hI => ?_)
    refine wp_condT rfl (wp_seq (rgn (by kernel_rfl) (pu (.bool false) (by kernel_rfl) (seq_nil (wp_ret ?_)))))
    replace hF := Option.some.inj hF; subst hF
    exact ⟨.bool false, Ret.r1 rfl rfl, ⟨rfl, hI.below⟩⟩
  ·
   refine seq_c (s_lss rfl rfl (fun h => absurd (a := v1022 < (lp0_0.length : Int)) h h97) (fun _ => ?_))
   refine seq_nil (wp_seq (wp_condF rfl (wp_exit ?_)))
   refine wp_seq (rgn (by kernel_rfl) (pu (.bool true) (by kernel_rfl) (seq_nil (wp_ret ?_))))
   replace hF := Option.some.inj hF; subst hF
   exact ⟨.bool true, Ret.r1 rfl rfl, ⟨rfl, hI.below⟩⟩
 ·
  refine seq_c (s_neq rfl rfl (fun _ => ?_) (fun h => absurd (a := (lp1.length : Int) = (lp0_0.length : Int)) h h56))
  refine seq_nil (wp_condT rfl (wp_seq (rgn (by kernel_rfl) (pu (.bool false) (by kernel_rfl) (seq_nil (wp_ret ?_))))))
  replace hF := Option.some.inj hF; subst hF
  exact ⟨.bool false, Ret.r1 rfl rfl, ⟨rfl, hI.below⟩⟩


theorem L29 (w0 : World) (Ap0_0 : Option Addr) (cp0_0 : Nat) (lp0_0 : List Ch) (Ap0_1 : Option Addr) (cp0_1 : Nat) (lp0_1 : List Ce) (Ap1 : Option Addr) (cp1 : Nat) (lp1 : List Int) (p2 : Dr) (hCp0_0 : Cells w0 Ap0_0 (flat eCh lp0_0)) (hMp0_0 : lp0_0.length ≤ 9223372036854775807) (hKp0_0 : lp0_0.length ≤ cp0_0) (hCp0_1 : Cells w0 Ap0_1 (flat eCe lp0_1)) (hMp0_1 : lp0_1.length ≤ 9223372036854775807) (hKp0_1 : lp0_1.length ≤ cp0_1) (hCp1 : Cells w0 Ap1 (flat eInt lp1)) (hMp1 : lp1.length ≤ 9223372036854775807) (hKp1 : lp1.length ≤ cp1) (N : Nat) (r : (Int × Int)) (hF : F29 N lp0_0 lp0_1 lp1 p2 = some r) : Does Try.prog 29 [.agg #[.slice Ap0_0 lp0_0.length cp0_0, .slice Ap0_1 lp0_1.length cp0_1], .slice Ap1 lp1.length cp1, .agg #[.int .i64 p2.fr, .int .i64 p2.to]] w0 fun v w => v = .tuple #[.int .i64 r.1, .int .i64 r.2] ∧ Below w0.heap.size w0 w := by
 refine calls_of (n := 50) Try.func29 rfl Try.ntmps29 rfl ?_
 have hI := Inv.start w0
 unfold F29 at hF
 refine wp_seq (rgn (by kernel_rfl) (seq_c (s_boxI hI [.slice Ap0_0 lp0_0.length cp0_0, .slice Ap0_1 lp0_1.length cp0_1] rfl ?_)))
 intro b307 w hI
 refine seq_c (s_boxI hI [iv p2.fr, iv p2.to] rfl ?_)
 intro b308 w hI
 refine pu (iv 0) (by kernel_rfl) (pu (iv 0) (by kernel_rfl) (seq_nil (wp_seq (rgn (by kernel_rfl) (seq_c (s_loadK hI 1 2 [.slice Ap0_0 lp0_0.length cp0_0, .slice Ap0_1 lp0_1.length cp0_1] Try.isAgg25 Try.sizeOf25 rfl rfl rfl rfl ?_))))))
 refine bindSE hF (fun y321 hy322 hF => ?_) (fun y323 hy324 hF => ?_)
 ·
  refine seq_c (s_callv hI 62 [.agg #[.slice Ap0_0 lp0_0.length cp0_0, .slice Ap0_1 lp0_1.length cp0_1]] (.tuple #[.agg #[.slice none 0 0, .slice none 0 0, .map none], iv 42]) (by kernel_rfl) (L62 _ Ap0_0 cp0_0 lp0_0 Ap0_1 cp0_1 lp0_1 (hCp0_0.inv0 hI) hMp0_0 hKp0_0 (hCp0_1.inv0 hI) hMp0_1 hKp0_1 N _ hy322) ?_)
  intro w hI
  refine pu (.tuple #[.agg #[.slice none 0 0, .slice none 0 0, .map none], iv 42]) (by kernel_rfl) (pu (.agg #[.slice none 0 0, .slice none 0 0, .map none]) (by kernel_rfl) (pu (iv 42) (by kernel_rfl) (seq_c (s_allocI hI [.slice none 0 0, .slice none 0 0, .map none] Try.zeroValue115 rfl ?_))))
  intro b325 w hI
  refine seq_c (s_store hI 0 3 [.slice none 0 0, .slice none 0 0, .map none] Try.sizeOf115 rfl rfl rfl rfl rfl (Nat.le_of_ble_eq_true rfl) ?_)
  intro w hI
  refine pu (iv 42) (by kernel_rfl) (seq_nil (wp_seq (wp_seq (rgn (by kernel_rfl) (pu (iv 42) (by kernel_rfl) (seq_c (s_neq rfl rfl (fun _ => ?_) (fun h => absurd (a := 42 = 0) h (by decide)))))))))
  refine seq_nil (wp_condT rfl (wp_seq (rgn (by kernel_rfl) (pu (iv 42) (by kernel_rfl) (pu (iv 0) (by kernel_rfl) (pu (iv 42) (by kernel_rfl) (seq_nil (wp_ret ?_))))))))
  replace hF := Option.some.inj hF; subst hF
  exact ⟨.tuple #[iv 0, iv 42], Ret.r2 rfl rfl rfl, ⟨rfl, hI.below⟩⟩
 ·
  refine seq_c (s_call 62 [.agg #[.slice Ap0_0 lp0_0.length cp0_0, .slice Ap0_1 lp0_1.length cp0_1]] (by kernel_rfl) (L62 _ Ap0_0 cp0_0 lp0_0 Ap0_1 cp0_1 lp0_1 (hCp0_0.inv0 hI) hMp0_0 hKp0_0 (hCp0_1.inv0 hI) hMp0_1 hKp0_1 N _ hy324) ?_)
  rintro v w ⟨b326, es327, ck328, rfl, hN, ho329, hM330⟩
  have hI := hI.join hN; clear hN
  refine pu (.tuple #[.agg #[.slice Ap0_0 lp0_0.length cp0_0, .slice Ap0_1 lp0_1.length cp0_1, .map (some b326)], iv 0]) (by kernel_rfl) (pu (.agg #[.slice Ap0_0 lp0_0.length cp0_0, .slice Ap0_1 lp0_1.length cp0_1, .map (some b326)]) (by kernel_rfl) (pu (iv 0) (by kernel_rfl) (seq_c (s_allocI hI [.slice none 0 0, .slice none 0 0, .map none] Try.zeroValue115 rfl ?_))))
  intro b331 w hI
  refine seq_c (s_store hI 0 3 [.slice Ap0_0 lp0_0.length cp0_0, .slice Ap0_1 lp0_1.length cp0_1, .map (some b326)] Try.sizeOf115 rfl rfl rfl rfl rfl (Nat.le_of_ble_eq_true rfl) ?_)
  intro w hI
  refine pu (iv 0) (by kernel_rfl) (seq_nil (wp_seq (wp_seq (rgn (by kernel_rfl) (pu (iv 0) (by kernel_rfl) (seq_c (s_neq rfl rfl (fun h => absurd (a := 0 = 0) (by decide) h) (fun _ => ?_))))))))
  refine seq_nil (wp_condF rfl (wp_skip (wp_seq (wp_seq (rgn (by kernel_rfl) (seq_c (s_loadK hI 0 3 [.slice Ap0_0 lp0_0.length cp0_0, .slice Ap0_1 lp0_1.length cp0_1, .map (some b326)] Try.isAgg115 Try.sizeOf115 rfl rfl rfl rfl ?_)))))))
  refine pu (.slice Ap1 lp1.length cp1) (by kernel_rfl) (bindE hF (fun y338 hy339 hF => ?_))
  refine ifE hF (fun h60 hF => ?_) (fun h60 hF => ?_)
  ·
   refine seq_c (s_callv hI 72 [.agg #[.slice Ap0_0 lp0_0.length cp0_0, .slice Ap0_1 lp0_1.length cp0_1, .map (some b326)], .slice Ap1 lp1.length cp1] (.bool true) (by kernel_rfl) (Does.mono (L72 _ Ap0_0 cp0_0 lp0_0 Ap0_1 cp0_1 lp0_1 b326 es327 ck328 y323 Ap1 cp1 lp1 (hCp0_0.inv0 hI) hMp0_0 hKp0_0 (hCp0_1.inv0 hI) hMp0_1 hKp0_1 (hI.has 1 _ _ rfl).1 ho329 hM330 (hCp1.inv0 hI) hMp1 hKp1 N _ hy339) (fun v' w' h => ⟨h.1.trans (congrArg Value.bool h60), h.2⟩)) ?_)
   intro w hI
   refine pu (.bool false) (by kernel_rfl) (seq_nil (wp_condF rfl (wp_skip (wp_seq (wp_seq (rgn (by kernel_rfl) (seq_c (s_loadK hI 0 3 [.slice Ap0_0 lp0_0.length cp0_0, .slice Ap0_1 lp0_1.length cp0_1, .map (some b326)] Try.isAgg115 Try.sizeOf115 rfl rfl rfl rfl ?_))))))))
   refine seq_c (s_loadK hI 2 2 [iv p2.fr, iv p2.to] Try.isAgg49 Try.sizeOf49 rfl rfl rfl rfl ?_)
   refine bindE hF (fun y346 hy347 hF => ?_)
   refine ifE hF (fun h64 hF => ?_) (fun h64 hF => ?_)
   ·
    refine seq_c (s_callv hI 73 [.agg #[.slice Ap0_0 lp0_0.length cp0_0, .slice Ap0_1 lp0_1.length cp0_1, .map (some b326)], .agg #[iv p2.fr, iv p2.to]] (.bool true) (by kernel_rfl) (Does.mono (L73 _ Ap0_0 cp0_0 lp0_0 Ap0_1 cp0_1 lp0_1 b326 es327 ck328 y323 p2 (hCp0_0.inv0 hI) hMp0_0 hKp0_0 (hCp0_1.inv0 hI) hMp0_1 hKp0_1 (hI.has 1 _ _ rfl).1 ho329 hM330 _ hy347) (fun v' w' h => ⟨h.1.trans (congrArg Value.bool h64), h.2⟩)) ?_)
    intro w hI
    refine pu (.bool false) (by kernel_rfl) (seq_nil (wp_condF rfl (wp_skip (wp_seq (rgn (by kernel_rfl) (pu (.slice none 0 0) (by kernel_rfl) (seq_nil (wp_cutO (fun ρ w => ∃ (g477 : Option Nat) (c478 : Nat) (cl479 : List Value) (lengths_476 : List Int), Agree ρ [(10, slv g477 lengths_476.length c478)] ∧ Inv [] w0 w [(g477, blk cl479 3)] ∧ (Row 1 g477 (lengths_476.length) c478 cl479 (flat eInt lengths_476)) ∧ F29j1 N lengths_476 = some r) ?_ ?_))))))))
    ·
     refine wp_seq (rgn (by kernel_rfl) (seq_c (s_loadK hI 0 3 [.slice Ap0_0 lp0_0.length cp0_0, .slice Ap0_1 lp0_1.length cp0_1, .map (some b326)] Try.isAgg115 Try.sizeOf115 rfl rfl rfl rfl ?_)))
     refine seq_c (s_loadK hI 2 2 [iv p2.fr, iv p2.to] Try.isAgg49 Try.sizeOf49 rfl rfl rfl rfl ?_)
     refine bindE hF (fun y491 hy492 hF => ?_)
     refine seq_c (s_call 68 [.agg #[.slice Ap0_0 lp0_0.length cp0_0, .slice Ap0_1 lp0_1.length cp0_1, .map (some b326)], .agg #[iv p2.fr, iv p2.to]] (by kernel_rfl) (L68 _ Ap0_0 cp0_0 lp0_0 Ap0_1 cp0_1 lp0_1 b326 es327 ck328 y323 p2 (hCp0_0.inv0 hI) hMp0_0 hKp0_0 (hCp0_1.inv0 hI) hMp0_1 hKp0_1 (hI.has 1 _ _ rfl).1 ho329 hM330 N _ hy492) ?_)
     rintro v w ⟨g493, c494, cl495, rfl, hN, r496⟩
     have hI := hI.join hN; clear hN
     refine pu (iv ((y491.length : Nat) : Int)) (by kernel_rfl) (pu (iv 0) (by kernel_rfl) (seq_nil (wp_block ?_)))
     have hI := hI.nilRow 3
     refine wp_loop (fun m ρ w => ∃ (g572 : Option Nat) (c573 : Nat) (cl574 : List Value) (g576 : Option Nat) (c577 : Nat) (cl578 : List Value) (lengths_571 : List Int) (v580 : Int) (mm : Nat), Agree ρ [(1, .slice Ap1 lp1.length cp1), (10, slv g572 lengths_571.length c573), (31, slv g576 y491.length c577), (32, iv (y491.length : Int)), (33, iv v580)] ∧ Inv [] w0 w [(g572, blk cl574 3), (g576, blk cl578 3)] ∧ (Row 1 g572 (lengths_571.length) c573 cl574 (flat eInt lengths_571)) ∧ (Row 1 g576 (y491.length) c577 cl578 (flat eInt y491)) ∧ F29l2 lp1 N y491 mm lengths_571 v580 = some r ∧ mm = m) (m := N) ⟨none, 0, [], g493, c494, cl495, [], 0, N, ⟨rfl, rfl, rfl, rfl, rfl, trivial⟩, hI.pickL [0, 1] (by decide) rfl, (Row.nil_ 1), (r496.to rfl rfl), hF, rfl⟩ ?_
     rintro m ρ w ⟨g572, c573, cl574, g576, c577, cl578, lengths_571, v580, mm, hag, hI, r575, r579, hF, hm⟩
     subst hm; obtain ⟨ρ, rfl⟩ := hag.form; clear hag
     obtain _ | m2 := mm
     ·cases (show (none : Option (Int × Int)) = some r from hF)
     replace hF : F29b2 lp1 N y491 (F29l2 lp1 N y491 m2) lengths_571 v580 = some r := hF; unfold F29b2 at hF
     refine wp_seq (rgn (by kernel_rfl) (ifE hF (fun h105 hF => ?_) (fun h105 hF => ?_)))
     ·
      refine seq_c (s_lss rfl rfl (fun _ => ?_) (fun h => absurd (a := v580 < (y491.length : Int)) h105 h))
      refine seq_nil (wp_seq (wp_condT rfl (wp_skip (wp_seq (wp_block ?_)))))
      refine wp_seq (rgn (by kernel_rfl) (pu (iv v580) (by kernel_rfl) (gdE hF (fun h109 hF => ?_))))
      refine bindE hF (fun x597 hx598 hF => ?_)
      obtain ⟨b599, rfl, he600⟩ := r579.at_ eInt_len (by decide) hx598
      refine seq_c (s_indexR (v580).toNat Try.underlying52 Try.sizeOf3 rfl rfl (Int.toNat_of_nonneg h109).symm (lt_n hx598 rfl) ?_)
      refine seq_c (s_loadR1 hI 1 (iv x597) Try.isAgg3 rfl rfl (he600 0 _ rfl) ?_)
      refine pu (iv v580) (by kernel_rfl) (pu (iv x597) (by kernel_rfl) (seq_nil (rgn (by kernel_rfl) (pu (slv g572 lengths_571.length c573) (by kernel_rfl) (pu (iv x597) (by kernel_rfl) (pu (.slice Ap1 lp1.length cp1) (by kernel_rfl) (pu (iv v580) (by kernel_rfl) (bindE hF (fun x601 hx602 hF => ?_)))))))))
      obtain ⟨b603, o604, hA605, hb606, he607⟩ := hCp1.at_ eInt_len (by decide) hx602
      refine seq_c (s_indexA (v580).toNat Try.underlying52 Try.sizeOf3 rfl hA605 rfl (Int.toNat_of_nonneg h109).symm (lt_n hx602 rfl) ?_)
      refine seq_c (s_loadB1 hI (iv x601) Try.isAgg3 rfl hb606 (by simp) (he607 0 _ rfl) ?_)
      refine ckE hF (fun h110 hF => ?_)
      refine seq_c (s_mul rfl rfl h110 ?_)
      refine seq_c (s_new hI [iv (x597 * x601)] 3 (fun b => slv (some b) 1 1) (by kernel_rfl) ?_)
      intro b608 w hI
      refine gdE hF (fun h111 hF => ?_)
      refine seq_c (s_appN hI Try.underlying52 (z := iv 0) (k := 1) (bytes := 8) (by kernel_rfl) rfl rfl 1 rfl rfl r575 [iv (x597 * x601)] rfl rfl (hI.cells 0 (off := 0) rfl (fun j u h => by rw [Nat.zero_add]; exact h)) (by simp [Value.oneCell']) (by omega) (by omega) (n2 := (lengths_571 ++ [x597 * x601]).length) (app_len rfl rfl) ?_)
      intro g609 c610 cl611 w hI r612
      have r612 : Row 1 g609 ((lengths_571 ++ [x597 * x601]).length) c610 cl611 (flat eInt (lengths_571 ++ [x597 * x601])) := r612.snoc _ rfl
      refine pu (slv g609 ((lengths_571 ++ [x597 * x601]).length) c610) (by kernel_rfl) (seq_nil (rgn (by kernel_rfl) (ckE hF (fun h112 hF => ?_))))
      refine seq_c (s_add rfl rfl h112 ?_)
      refine pu (iv (v580 + 1)) (by kernel_rfl) (seq_nil ?_)
      exact ⟨rfl, m2, Nat.lt_succ_self _, ⟨g609, c610, cl611, some b599, c577, cl578, lengths_571 ++ [x597 * x601], v580 + 1, m2, ⟨rfl, rfl, rfl, rfl, rfl, trivial⟩, hI.pickL [1, 2] (by decide) rfl, (r612.to rfl rfl), (r579.to rfl rfl), hF, rfl⟩⟩
     ·
      refine seq_c (s_lss rfl rfl (fun h => absurd (a := v580 < (y491.length : Int)) h h105) (fun _ => ?_))
      refine seq_nil (wp_seq (wp_condF rfl (wp_exit ?_)))
      exact .inl ⟨rfl, ⟨g572, c573, cl574, lengths_571, ⟨rfl, trivial⟩, hI.pickL [0] (by decide) rfl, (r575.to rfl rfl), hF⟩⟩
    ·intro ρ w hJ
     obtain ⟨g477, c478, cl479, lengths_476, hag, hI, r480, hF⟩ := hJ
     obtain ⟨ρ, rfl⟩ := hag.form; clear hag
     unfold F29j1 at hF
     refine wp_seq (rgn (by kernel_rfl) (pu (slv g477 lengths_476.length c478) (by kernel_rfl) (bindE hF (fun y483 hy484 hF => ?_))))
     refine seq_c (s_callv hI 74 [slv g477 lengths_476.length c478] (iv y483) (by kernel_rfl) (L74 _ (g477.map fun b => ⟨b, 0, none⟩) c478 lengths_476 (hI.rowCells 0 rfl r480) (len_le rfl r480.big) (len_le rfl r480.cap) N _ hy484) ?_)
     intro w hI
     refine pu (iv y483) (by kernel_rfl) (pu (iv 0) (by kernel_rfl) (seq_nil (wp_ret ?_)))
     replace hF := Option.some.inj hF; subst hF
     exact ⟨.tuple #[iv y483, iv 0], Ret.r2 rfl rfl rfl, ⟨rfl, hI.below⟩⟩
   ·
    refine seq_c (s_callv hI 73 [.agg #[.slice Ap0_0 lp0_0.length cp0_0, .slice Ap0_1 lp0_1.length cp0_1, .map (some b326)], .agg #[iv p2.fr, iv p2.to]] (.bool false) (by kernel_rfl) (Does.mono (L73 _ Ap0_0 cp0_0 lp0_0 Ap0_1 cp0_1 lp0_1 b326 es327 ck328 y323 p2 (hCp0_0.inv0 hI) hMp0_0 hKp0_0 (hCp0_1.inv0 hI) hMp0_1 hKp0_1 (hI.has 1 _ _ rfl).1 ho329 hM330 _ hy347) (fun v' w' h => ⟨h.1.trans (congrArg Value.bool (Bool.eq_false_iff.2 h64)), h.2⟩)) ?_)
    intro w hI
    refine pu (.bool true) (by kernel_rfl) (seq_nil (wp_condT rfl (wp_seq (rgn (by kernel_rfl) (pu (iv 0) (by kernel_rfl) (pu (iv 45) (by kernel_rfl) (seq_nil (wp_ret ?_))))))))
    replace hF := Option.some.inj hF; subst hF
    exact ⟨.tuple #[iv 0, iv 45], Ret.r2 rfl rfl rfl, ⟨rfl, hI.below⟩⟩
  ·
   refine seq_c (s_callv hI 72 [.agg #[.slice Ap0_0 lp0_0.length cp0_0, .slice Ap0_1 lp0_1.length cp0_1, .map (some b326)], .slice Ap1 lp1.length cp1] (.bool false) (by kernel_rfl) (Does.mono (L72 _ Ap0_0 cp0_0 lp0_0 Ap0_1 cp0_1 lp0_1 b326 es327 ck328 y323 Ap1 cp1 lp1 (hCp0_0.inv0 hI) hMp0_0 hKp0_0 (hCp0_1.inv0 hI) hMp0_1 hKp0_1 (hI.has 1 _ _ rfl).1 ho329 hM330 (hCp1.inv0 hI) hMp1 hKp1 N _ hy339) (fun v' w' h => ⟨h.1.trans (congrArg Value.bool (Bool.eq_false_iff.2 h60)), h.2⟩)) ?_)
   intro w hI
   refine pu (.bool true) (by kernel_rfl) (seq_nil (wp_condT rfl (wp_seq (rgn (by kernel_rfl) (pu (iv 0) (by kernel_rfl) (pu (iv 1) (by kernel_rfl) (seq_nil (wp_ret ?_))))))))
   replace hF := Option.some.inj hF; subst hF
   exact ⟨.tuple #[iv 0, iv 1], Ret.r2 rfl rfl rfl, ⟨rfl, hI.below⟩⟩


end Go.K
