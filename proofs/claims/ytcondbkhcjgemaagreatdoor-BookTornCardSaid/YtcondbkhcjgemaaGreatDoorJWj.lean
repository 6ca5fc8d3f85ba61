import Derived.Test.YtcondbkhcjgemaaGreatDoorJWi
namespace Go.K
open Go.Proofs Go.RowKit
set_option linter.unusedVariables false
set_option linter.unusedSimpArgs false
set_option maxRecDepth 100000
attribute [local irreducible] Seq cw cx fl opX
theorem L63 (w0:World) (b:Int) (a:Int) (r:Int) (F:F63 b a=some r):bn Tryz.prog 63 [iv b,iv a] w0 fun v w=>v=iv r∧Below w0.heap.size w0 w:=by
 refine az (n:=12) Tryz.func63 rfl Tryz.ntmps63 rfl ?_
 have I:=Inv.start w0
 unfold F63 at F
 refine ab (rgn (by kernel_rfl) (pu (iv 0) (by kernel_rfl) (aa (ab (rgn (by kernel_rfl) (pu2 (iv b) (iv a) (by kernel_rfl) (gdE F (fun h3 F=>ph (s_rem rfl rfl h3 (pu (iv a) (by kernel_rfl) (ckE F (fun h4 F=>ph (cj rfl rfl h4 (pu (iv a) (by kernel_rfl) (ph (s_rem rfl rfl h3 (pu (iv (((b.tmod a)+a).tmod a)) (by kernel_rfl) (aa (aj ?_)))))))))))))))))))
 cases F
 exact ⟨_,Ret.r1 rfl rfl,⟨rfl,I.below⟩⟩


end Go.K
