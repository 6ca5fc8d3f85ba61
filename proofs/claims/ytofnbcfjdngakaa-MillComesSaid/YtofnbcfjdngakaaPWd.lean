/- That the functions do what the pure definitions say: walks, as tools/lift.py writes them. No condition. -/
import Derived.Test.YtofnbcfjdngakaaPWc
namespace Go.K
open Go.Proofs Go.RowKit
set_option linter.unusedVariables false
set_option linter.unusedSimpArgs false
set_option maxRecDepth 100000
attribute [local irreducible] Seq Step CallV AnyE opX
theorem L94 (w0 : World) (p0_0 : Int) (Ap0_1 : Option Addr) (cp0_1 : Nat) (lp0_1 : List Cm) (p1 : Int) (p2 : Int) (hCp0_1 : Cells w0 Ap0_1 (flat eCm lp0_1)) (hMp0_1 : lp0_1.length ≤ 9223372036854775807) (hKp0_1 : lp0_1.length ≤ cp0_1) (r : Bool) (hF : F94 p0_0 lp0_1 p1 p2 = some r) : Does Try.prog 94 [.agg #[.int .i64 p0_0, .slice Ap0_1 lp0_1.length cp0_1], .int .i64 p1, .int .i64 p2] w0 fun v w => v = .bool r ∧ Below w0.heap.size w0 w := by
 refine calls_of (n := 17) Try.func94 rfl Try.ntmps94 rfl ?_
 have hI := Inv.start w0
 unfold F94 at hF
 refine wp_seq (rgn (by kernel_rfl) (seq_c (s_boxI hI [iv p0_0, .slice Ap0_1 lp0_1.length cp0_1] rfl ?_)))
 intro b37 w hI
 refine pu (.bool false) (by kernel_rfl) (seq_nil (wp_seq (gdE hF (fun h22 hF => ?_))))
 refine bindE hF (fun x56 hx57 hF => ?_)
 refine gdE hF (fun h23 hF => ?_)
 refine ckE hF (fun h24 hF => ?_)
 refine gdE hF (fun h25 hF => ?_)
 refine gdE hF (fun h26 hF => ?_)
 refine ckE hF (fun h27 hF => ?_)
 refine ifE hF (fun h28 hF => ?_) (fun h28 hF => ?_)
 ·
  refine wp_drawn2 hI [0] (by decide) rfl (by kernel_rfl) (by kernel_rfl) ?_
  intro hsub
  refine alp 0 (.pointer (some ⟨b37, 1, none⟩)) hsub rfl (by kernel_rfl) (fun _ => (by kernel_rfl)) ?_
  refine al_light 1 (.slice Ap0_1 lp0_1.length cp0_1) hsub rfl (by kernel_rfl) (fun w hI => s_load1 hI 0 (.slice Ap0_1 lp0_1.length cp0_1) Try.isAgg22 rfl rfl rfl ⟨rfl, Below.refl _ _⟩) ?_
  refine alp 2 (iv p1) hsub rfl (by kernel_rfl) (fun _ => (by kernel_rfl)) ?_
  obtain ⟨b63, o64, hA65, hb66, he67⟩ := hCp0_1.at_ eCm_len (by decide) hx57
  refine al_light 3 (.pointer (some ⟨b63, o64 + (p1).toNat * 3, none⟩)) hsub rfl (by kernel_rfl) (fun w hI => s_indexA (p1).toNat Try.underlying22 Try.sizeOf26 rfl hA65 rfl (Int.toNat_of_nonneg h22).symm (lt_n hx57 rfl) ⟨rfl, Below.refl _ _⟩) ?_
  refine alp 4 (.pointer (some ⟨b63, o64 + (p1).toNat * 3 + 1, none⟩)) hsub rfl (by kernel_rfl) (fun _ => (by kernel_rfl)) ?_
  refine al_light 5 (iv x56.hrs) hsub rfl (by kernel_rfl) (fun w hI => s_loadB1 hI (iv x56.hrs) Try.isAgg3 rfl hb66 (by simp) (he67 1 _ rfl) ⟨rfl, Below.refl _ _⟩) ?_
  refine alp 6 (iv p2) hsub rfl (by kernel_rfl) (fun _ => (by kernel_rfl)) ?_
  refine al_light 7 (iv ((1 : Int) * 2 ^ (p2 : Int).toNat)) hsub rfl (by kernel_rfl) (fun w hI => s_shl rfl rfl h23 h24 ⟨rfl, Below.refl _ _⟩) ?_
  refine al_light 8 (iv (andI x56.hrs ((1 : Int) * 2 ^ (p2 : Int).toNat))) hsub rfl (by kernel_rfl) (fun w hI => s_and rfl rfl h25 h26 h27 h24 ⟨rfl, Below.refl _ _⟩) ?_
  refine al_light 9 (.bool false) hsub rfl (by kernel_rfl) (fun w hI => s_neq rfl rfl (fun h => absurd (a := (andI x56.hrs ((1 : Int) * 2 ^ (p2 : Int).toNat)) = 0) h28 h) (fun _ => ⟨rfl, Below.refl _ _⟩)) ?_
  refine alp 10 (.bool false) hsub rfl (by kernel_rfl) (fun _ => (by kernel_rfl)) ?_
  refine any_end (by kernel_rfl) (fun w hI => ?_)
  refine wp_ret ?_
  replace hF := Option.some.inj hF; subst hF
  exact ⟨.bool false, Ret.r1 rfl rfl, ⟨rfl, hI.below⟩⟩
 ·
  refine wp_drawn2 hI [0] (by decide) rfl (by kernel_rfl) (by kernel_rfl) ?_
  intro hsub
  refine alp 0 (.pointer (some ⟨b37, 1, none⟩)) hsub rfl (by kernel_rfl) (fun _ => (by kernel_rfl)) ?_
  refine al_light 1 (.slice Ap0_1 lp0_1.length cp0_1) hsub rfl (by kernel_rfl) (fun w hI => s_load1 hI 0 (.slice Ap0_1 lp0_1.length cp0_1) Try.isAgg22 rfl rfl rfl ⟨rfl, Below.refl _ _⟩) ?_
  refine alp 2 (iv p1) hsub rfl (by kernel_rfl) (fun _ => (by kernel_rfl)) ?_
  obtain ⟨b68, o69, hA70, hb71, he72⟩ := hCp0_1.at_ eCm_len (by decide) hx57
  refine al_light 3 (.pointer (some ⟨b68, o69 + (p1).toNat * 3, none⟩)) hsub rfl (by kernel_rfl) (fun w hI => s_indexA (p1).toNat Try.underlying22 Try.sizeOf26 rfl hA70 rfl (Int.toNat_of_nonneg h22).symm (lt_n hx57 rfl) ⟨rfl, Below.refl _ _⟩) ?_
  refine alp 4 (.pointer (some ⟨b68, o69 + (p1).toNat * 3 + 1, none⟩)) hsub rfl (by kernel_rfl) (fun _ => (by kernel_rfl)) ?_
  refine al_light 5 (iv x56.hrs) hsub rfl (by kernel_rfl) (fun w hI => s_loadB1 hI (iv x56.hrs) Try.isAgg3 rfl hb71 (by simp) (he72 1 _ rfl) ⟨rfl, Below.refl _ _⟩) ?_
  refine alp 6 (iv p2) hsub rfl (by kernel_rfl) (fun _ => (by kernel_rfl)) ?_
  refine al_light 7 (iv ((1 : Int) * 2 ^ (p2 : Int).toNat)) hsub rfl (by kernel_rfl) (fun w hI => s_shl rfl rfl h23 h24 ⟨rfl, Below.refl _ _⟩) ?_
  refine al_light 8 (iv (andI x56.hrs ((1 : Int) * 2 ^ (p2 : Int).toNat))) hsub rfl (by kernel_rfl) (fun w hI => s_and rfl rfl h25 h26 h27 h24 ⟨rfl, Below.refl _ _⟩) ?_
  refine al_light 9 (.bool true) hsub rfl (by kernel_rfl) (fun w hI => s_neq rfl rfl (fun _ => ⟨rfl, Below.refl _ _⟩) (fun h => absurd (a := (andI x56.hrs ((1 : Int) * 2 ^ (p2 : Int).toNat)) = 0) h h28)) ?_
  refine alp 10 (.bool true) hsub rfl (by kernel_rfl) (fun _ => (by kernel_rfl)) ?_
  refine any_end (by kernel_rfl) (fun w hI => ?_)
  refine wp_ret ?_
  replace hF := Option.some.inj hF; subst hF
  exact ⟨.bool true, Ret.r1 rfl rfl, ⟨rfl, hI.below⟩⟩


end Go.K
