import Derived.Test.YtinkdlmimiefaaaGreatProg
import Derived.Test.YtinkdlmimiefaaaGreatPM39
import Derived.Test.YtinkdlmimiefaaaGreatPKK1
namespace Go.K
open Go.Proofs.Tryz
open Go.Proofs Go.RowKit
set_option linter.unusedVariables false
set_option linter.unusedSimpArgs false
set_option maxRecDepth 100000
attribute [local irreducible] Seq cw cx fl opX

set_option maxHeartbeats 1600000 in
theorem AttainE_c (w0:World) (pl:Pl) (a:Option Addr) (b i:Nat) (d:Option Addr) (e j:Nat) (f:Option Addr) (g k:Nat) (hP:gz w0 pl a b d e f g) (h dy:Int) (most:Bool) (hbad:¬ ec pl h dy=0):bn Tryz.prog 44 [.agg #[.int .i64 pl.lo,.int .i64 pl.hi,.slice a b i,.slice d e j,.slice f g k,.int .i64 pl.geese],.int .i64 h,.int .i64 dy,.bool most] w0 fun v w=>v=.tuple #[.agg #[.int .i64 0,.slice none 0 0],.int .i64 (ec pl h dy)]∧Below w0.heap.size w0 w:=by
 have hm1:=hP.m1; have hm2:=hP.m2; have hm3:=hP.m3
 refine az (n:=61) func44 rfl ntmps44 rfl ?_
 have hI:=Inv.start w0
 refine ab (rgn (by kernel_rfl) (ac (ca hI [iv pl.lo,iv pl.hi,.slice a b i,.slice d e j,.slice f g k,iv pl.geese] rfl fun b1 w hI=>ac (bh hI [iv 0,.slice none 0 0] zeroValue57 rfl fun b2 w hI=>pu (iv 0) (by kernel_rfl) (aa (ab (ab (rgn (by kernel_rfl) (ac (ar hI 1 6 [iv pl.lo,iv pl.hi,.slice a b i,.slice d e j,.slice f g k,iv pl.geese] isAgg28 sizeOf28 rfl rfl rfl rfl ?_))))))))))
 refine pu (iv h) (by kernel_rfl) (pu (iv dy) (by kernel_rfl) (ac (bg hI 97 [.agg #[iv pl.lo,iv pl.hi,.slice a b i,.slice d e j,.slice f g k,iv pl.geese],iv h,iv dy] (iv (ec pl h dy)) (by kernel_rfl) (checkHour_c _ pl a b i d e j f g k (hP.inv0 hI) h dy) fun w hI=>pu (iv (ec pl h dy)) (by kernel_rfl) (aa (ab (rgn (by kernel_rfl) (pu (iv (ec pl h dy)) (by kernel_rfl) (ac (de rfl rfl ?_ ?_)))))))))
 ·intro h1
  refine aa (ah rfl (ab (rgn (by kernel_rfl) (pu (.agg #[iv 0,.slice none 0 0]) (by kernel_rfl) (pu (iv (ec pl h dy)) (by kernel_rfl) (ac (aq hI 0 2 [iv 0,.slice none 0 0] sizeOf57 rfl rfl rfl rfl rfl (Nat.le_of_ble_eq_true rfl) fun w hI=>pu (iv (ec pl h dy)) (by kernel_rfl) (aa (aj ?_)))))))))
  exact ⟨.tuple #[.agg #[iv 0,.slice none 0 0],iv (ec pl h dy)],Ret.ct rfl rfl (ce hI 0 2 [iv 0,.slice none 0 0] isAgg57 sizeOf57 rfl rfl rfl) rfl,⟨rfl,hI.below⟩⟩
 intro h2
 exact absurd h2 hbad

end Go.K
