/- That the functions do what the pure definitions say: walks, as tools/lift.py writes them. No condition. -/
import Derived.Test.YtkmnjiejlgoglaaPWc
namespace Go.K
open Go.Proofs Go.RowKit
set_option linter.unusedVariables false
set_option maxRecDepth 100000
attribute [local irreducible] Seq Step CallV AnyE opX
theorem L33 (w0 : World) (p0 : Gn) (p1 : Gn) (r : (Int × Int)) (hF : F33 p0 p1 = some r) : Does Try.prog 33 [.agg #[.int .i64 p0.num, .int .i64 p0.den], .agg #[.int .i64 p1.num, .int .i64 p1.den]] w0 fun v w => v = .tuple #[.int .i64 r.1, .int .i64 r.2] ∧ Below w0.heap.size w0 w := by
 refine calls_of (n := 17) Try.func33 rfl Try.ntmps33 rfl ?_
 have hI := Inv.start w0
 unfold F33 at hF
 refine wp_seq (rgn (by kernel_rfl) (seq_c (s_boxI hI [iv p0.num, iv p0.den] rfl ?_)))
 intro b23 w hI
 refine seq_c (s_boxI hI [iv p1.num, iv p1.den] rfl ?_)
 intro b24 w hI
 refine pu (iv 0) (by kernel_rfl) (pu (iv 0) (by kernel_rfl) (seq_nil (wp_seq (wp_seq (rgn (by kernel_rfl) (seq_c (s_loadK hI 1 2 [iv p0.num, iv p0.den] Try.isAgg51 Try.sizeOf51 rfl rfl rfl rfl ?_)))))))
 refine bindE hF (fun y37 hy38 hF => ?_)
 refine ifE hF (fun h15 hF => ?_) (fun h15 hF => ?_)
 ·
  refine seq_c (s_callv hI 78 [.agg #[iv p0.num, iv p0.den]] (.bool true) (by kernel_rfl) (Does.mono (L78 _ p0 _ hy38) (fun v' w' h => ⟨h.1.trans (congrArg Value.bool h15), h.2⟩)) ?_)
  intro w hI
  refine pu (.bool false) (by kernel_rfl) (pu (.bool false) (by kernel_rfl) (seq_on (by kernel_rfl) (s_loadK hI 0 2 [iv p1.num, iv p1.den] Try.isAgg51 Try.sizeOf51 rfl rfl rfl rfl ?_)))
  refine bindE hF (fun y39 hy40 hF => ?_)
  refine ifE hF (fun h16 hF => ?_) (fun h16 hF => ?_)
  ·
   refine seq_on (by kernel_rfl) (s_callv hI 78 [.agg #[iv p1.num, iv p1.den]] (.bool true) (by kernel_rfl) (Does.mono (L78 _ p1 _ hy40) (fun v' w' h => ⟨h.1.trans (congrArg Value.bool h16), h.2⟩)) ?_)
   intro w hI
   refine puo (.bool false) ⟨(by kernel_rfl), (by kernel_rfl)⟩ (pu (.bool false) (by kernel_rfl) (seq_nil (wp_condF rfl (wp_skip (wp_seq (rgn (by kernel_rfl) (seq_c (s_loadK hI 1 2 [iv p0.num, iv p0.den] Try.isAgg51 Try.sizeOf51 rfl rfl rfl rfl ?_))))))))
   refine seq_c (s_loadK hI 0 2 [iv p1.num, iv p1.den] Try.isAgg51 Try.sizeOf51 rfl rfl rfl rfl ?_)
   refine bindE hF (fun y43 hy44 hF => ?_)
   refine seq_c (s_callv hI 79 [.agg #[iv p0.num, iv p0.den], .agg #[iv p1.num, iv p1.den]] (iv y43) (by kernel_rfl) (L79 _ p0 p1 _ hy44) ?_)
   intro w hI
   refine pu (iv y43) (by kernel_rfl) (pu (iv 0) (by kernel_rfl) (seq_nil (wp_ret ?_)))
   replace hF := Option.some.inj hF; subst hF
   exact ⟨.tuple #[iv y43, iv 0], Ret.r2 rfl rfl rfl, ⟨rfl, hI.below⟩⟩
  ·
   refine seq_on (by kernel_rfl) (s_callv hI 78 [.agg #[iv p1.num, iv p1.den]] (.bool false) (by kernel_rfl) (Does.mono (L78 _ p1 _ hy40) (fun v' w' h => ⟨h.1.trans (congrArg Value.bool (Bool.eq_false_iff.2 h16)), h.2⟩)) ?_)
   intro w hI
   refine puo (.bool true) ⟨(by kernel_rfl), (by kernel_rfl)⟩ (pu (.bool true) (by kernel_rfl) (seq_nil (wp_condT rfl (wp_seq (rgn (by kernel_rfl) (pu (iv 0) (by kernel_rfl) (pu (iv 1) (by kernel_rfl) (seq_nil (wp_ret ?_)))))))))
   replace hF := Option.some.inj hF; subst hF
   exact ⟨.tuple #[iv 0, iv 1], Ret.r2 rfl rfl rfl, ⟨rfl, hI.below⟩⟩
 ·
  refine seq_c (s_callv hI 78 [.agg #[iv p0.num, iv p0.den]] (.bool false) (by kernel_rfl) (Does.mono (L78 _ p0 _ hy38) (fun v' w' h => ⟨h.1.trans (congrArg Value.bool (Bool.eq_false_iff.2 h15)), h.2⟩)) ?_)
  intro w hI
  refine pu (.bool true) (by kernel_rfl) (pu (.bool true) (by kernel_rfl) (of_ (by kernel_rfl) (of_ (by kernel_rfl) (of_ (by kernel_rfl) (pu (.bool true) (by kernel_rfl) (seq_nil (wp_condT rfl (wp_seq (rgn (by kernel_rfl) ?_)))))))))
  refine pu (iv 0) (by kernel_rfl) (pu (iv 1) (by kernel_rfl) (seq_nil (wp_ret ?_)))
  replace hF := Option.some.inj hF; subst hF
  exact ⟨.tuple #[iv 0, iv 1], Ret.r2 rfl rfl rfl, ⟨rfl, hI.below⟩⟩


end Go.K
