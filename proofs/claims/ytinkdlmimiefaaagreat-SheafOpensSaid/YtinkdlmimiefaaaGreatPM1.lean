import Derived.Test.YtinkdlmimiefaaaGreatProg
import Derived.Test.YtinkdlmimiefaaaGreatPKK1
namespace Go.K
open Go.Proofs.Tryz
open Go.Proofs Go.RowKit
set_option linter.unusedVariables false
set_option linter.unusedSimpArgs false
set_option maxRecDepth 100000
attribute [local irreducible] Seq cw cx fl opX

def ci (n:Int):Bool:=decide (0≤n) && decide (n≤4166)
def dx (n:Int):Bool:=decide (0≤n) && decide (n≤99999)
def cu (lo hi:Int):Bool:=decide (0≤lo) && decide (lo≤hi) && decide (hi≤10000)
def df (s k u:Int):Bool:=decide (1≤s) && decide (s≤99999) && ci k && (decide (u=0) || decide (k < u) && ci u)
def fk (src hr lo hi kn un:Int):Bool:=df src kn un && dx hr && cu lo hi
def dq (src kd fr to kn un:Int):Bool:=df src kn un && (decide (kd=1) || decide (kd=2)) && dx fr && dx to && decide (fr≤to)
def cg (b:Bool) (e:Int):Int:=if b then 0 else e
def bo (kn un day:Int):Bool:=decide (kn≤day) && (decide (un=0) || decide (day < un))
def inB (n lo hi:Int):Bool:=decide (lo≤n) && decide (n≤hi)
def kq (some_ all:Bool):Int:=if all then 1 else if some_ then 2 else 0


theorem isDay_c (n:Int) (w0:World):bn Tryz.prog 139 [.int .i64 n] w0 fun v w=>v=(.bool (ci n))∧Below w0.heap.size w0 w:=by
 refine az (n:=9) func139 rfl ntmps139 rfl ?_
 have hI:=Inv.start w0
 refine ab (rgn rfl (pu kf rfl (aa (ab (rgn rfl (pu (iv n) rfl (ac (iq rfl rfl ?_ ?_))))))))
 ·intro h1
  refine pu kg rfl (puo (iv n) ⟨rfl,rfl⟩ (aw rfl (fq rfl rfl ?_ ?_)))
  ·intro h2
   refine pu kg rfl (pu kg rfl (aa (aj ?_)))
   exact ⟨.bool true,Ret.r1 rfl rfl,⟨by first | (simp_all [ci]; done) | (simp_all [ci]; omega) | (simp [ci] at *; omega) | (refine congrArg Value.bool (Bool.eq_iff_iff.2 ?_); simp [ci] at *; omega),hI.below⟩⟩
  intro h3
  refine pu kf rfl (pu kf rfl (aa (aj ?_)))
  exact ⟨.bool false,Ret.r1 rfl rfl,⟨by first | (simp_all [ci]; done) | (simp_all [ci]; omega) | (simp [ci] at *; omega) | (refine congrArg Value.bool (Bool.eq_iff_iff.2 ?_); simp [ci] at *; omega),hI.below⟩⟩
 intro h4
 refine pu kf rfl (of_ rfl (of_ rfl (pu kf rfl (pu kf rfl (aa (aj ?_))))))
 exact ⟨.bool false,Ret.r1 rfl rfl,⟨by first | (simp_all [ci]; done) | (simp_all [ci]; omega) | (simp [ci] at *; omega) | (refine congrArg Value.bool (Bool.eq_iff_iff.2 ?_); simp [ci] at *; omega),hI.below⟩⟩


theorem isHour_c (n:Int) (w0:World):bn Tryz.prog 82 [.int .i64 n] w0 fun v w=>v=(.bool (dx n))∧Below w0.heap.size w0 w:=by
 refine az (n:=9) func82 rfl ntmps82 rfl ?_
 have hI:=Inv.start w0
 refine ab (rgn rfl (pu kf rfl (aa (ab (rgn rfl (pu (iv n) rfl (ac (iq rfl rfl ?_ ?_))))))))
 ·intro h1
  refine pu kg rfl (puo (iv n) ⟨rfl,rfl⟩ (aw rfl (fq rfl rfl ?_ ?_)))
  ·intro h2
   refine pu kg rfl (pu kg rfl (aa (aj ?_)))
   exact ⟨.bool true,Ret.r1 rfl rfl,⟨by first | (simp_all [dx]; done) | (simp_all [dx]; omega) | (simp [dx] at *; omega) | (refine congrArg Value.bool (Bool.eq_iff_iff.2 ?_); simp [dx] at *; omega),hI.below⟩⟩
  intro h3
  refine pu kf rfl (pu kf rfl (aa (aj ?_)))
  exact ⟨.bool false,Ret.r1 rfl rfl,⟨by first | (simp_all [dx]; done) | (simp_all [dx]; omega) | (simp [dx] at *; omega) | (refine congrArg Value.bool (Bool.eq_iff_iff.2 ?_); simp [dx] at *; omega),hI.below⟩⟩
 intro h4
 refine pu kf rfl (of_ rfl (of_ rfl (pu kf rfl (pu kf rfl (aa (aj ?_))))))
 exact ⟨.bool false,Ret.r1 rfl rfl,⟨by first | (simp_all [dx]; done) | (simp_all [dx]; omega) | (simp [dx] at *; omega) | (refine congrArg Value.bool (Bool.eq_iff_iff.2 ?_); simp [dx] at *; omega),hI.below⟩⟩


theorem areSheaves_c (lo:Int) (hi:Int) (w0:World):bn Tryz.prog 72 [.agg #[.int .i64 lo,.int .i64 hi]] w0 fun v w=>v=(.bool (cu lo hi))∧Below w0.heap.size w0 w:=by
 refine az (n:=18) func72 rfl ntmps72 rfl ?_
 have hI:=Inv.start w0
 refine ab (rgn rfl (ac (ca hI [iv lo,iv hi] rfl fun b1 w hI=>pu kf rfl (aa (ab (rgn rfl (pu (.pointer (some ⟨b1,0,none⟩)) rfl (ac (ag hI 0 (iv lo) isAgg3 rfl rfl rfl ?_)))))))))
 refine ac (iq rfl rfl ?_ ?_)
 ·intro h1
  refine pu kg rfl (puo (.pointer (some ⟨b1,0,none⟩)) ⟨rfl,rfl⟩ (aw rfl (ag hI 0 (iv lo) isAgg3 rfl rfl rfl ?_)))
  refine puo (.pointer (some ⟨b1,1,none⟩)) ⟨rfl,rfl⟩ (aw rfl (ag hI 0 (iv hi) isAgg3 rfl rfl rfl ?_))
  refine aw rfl (fq rfl rfl ?_ ?_)
  ·intro h2
   refine pu kg rfl (pu kg rfl (puo (.pointer (some ⟨b1,1,none⟩)) ⟨rfl,rfl⟩ (aw rfl (ag hI 0 (iv hi) isAgg3 rfl rfl rfl ?_))))
   refine aw rfl (fq rfl rfl ?_ ?_)
   ·intro h3
    refine pu kg rfl (pu kg rfl (aa (aj ?_)))
    exact ⟨.bool true,Ret.r1 rfl rfl,⟨by first | (simp_all [cu]; done) | (simp_all [cu]; omega) | (simp [cu] at *; omega) | (refine congrArg Value.bool (Bool.eq_iff_iff.2 ?_); simp [cu] at *; omega),hI.below⟩⟩
   intro h4
   refine pu kf rfl (pu kf rfl (aa (aj ?_)))
   exact ⟨.bool false,Ret.r1 rfl rfl,⟨by first | (simp_all [cu]; done) | (simp_all [cu]; omega) | (simp [cu] at *; omega) | (refine congrArg Value.bool (Bool.eq_iff_iff.2 ?_); simp [cu] at *; omega),hI.below⟩⟩
  intro h5
  refine pu kf rfl (pu kf rfl (of_ rfl (of_ rfl (of_ rfl (pu kf rfl (pu kf rfl (aa (aj ?_))))))))
  exact ⟨.bool false,Ret.r1 rfl rfl,⟨by first | (simp_all [cu]; done) | (simp_all [cu]; omega) | (simp [cu] at *; omega) | (refine congrArg Value.bool (Bool.eq_iff_iff.2 ?_); simp [cu] at *; omega),hI.below⟩⟩
 intro h6
 refine pu kf rfl (of_ rfl (of_ rfl (of_ rfl (of_ rfl (of_ rfl (pu kf rfl (pu kf rfl (of_ rfl (of_ rfl ?_)))))))))
 refine of_ rfl (pu kf rfl (pu kf rfl (aa (aj ?_))))
 exact ⟨.bool false,Ret.r1 rfl rfl,⟨by first | (simp_all [cu]; done) | (simp_all [cu]; omega) | (simp [cu] at *; omega) | (refine congrArg Value.bool (Bool.eq_iff_iff.2 ?_); simp [cu] at *; omega),hI.below⟩⟩


theorem valid_c (s:Int) (k:Int) (u:Int) (w0:World):bn Tryz.prog 81 [.agg #[.int .i64 s,.int .i64 k,.int .i64 u]] w0 fun v w=>v=(.bool (df s k u))∧Below w0.heap.size w0 w:=by
 refine az (n:=35) func81 rfl ntmps81 rfl ?_
 have hI:=Inv.start w0
 refine ab (rgn rfl (ac (ca hI [iv s,iv k,iv u] rfl fun b1 w hI=>pu kf rfl (aa (ab (rgn rfl (pu (.pointer (some ⟨b1,2,none⟩)) rfl (ac (ag hI 0 (iv u) isAgg3 rfl rfl rfl ?_)))))))))
 refine ac (di rfl rfl ?_ ?_)
 ·intro h1
  refine pu kg rfl (of_ rfl (of_ rfl (of_ rfl (of_ rfl (of_ rfl (of_ rfl (dk rfl ?_)))))))
  refine dk rfl ?_
  refine dk rfl ?_
  refine of_ rfl (pu kg rfl (pu kg rfl (aa (ab (rgn rfl (pu (.pointer (some ⟨b1,0,none⟩)) rfl (ac (ag hI 0 (iv s) isAgg3 rfl rfl rfl ?_))))))))
  refine ac (iq rfl rfl ?_ ?_)
  ·intro h2
   refine pu kg rfl (puo (.pointer (some ⟨b1,0,none⟩)) ⟨rfl,rfl⟩ (aw rfl (ag hI 0 (iv s) isAgg3 rfl rfl rfl ?_)))
   refine aw rfl (fq rfl rfl ?_ ?_)
   ·intro h3
    refine pu kg rfl (pu kg rfl (puo (.pointer (some ⟨b1,1,none⟩)) ⟨rfl,rfl⟩ (aw rfl (ag hI 0 (iv k) isAgg3 rfl rfl rfl ?_))))
    refine aw rfl (fc hI 139 [iv k] (ci k) (by kernel_rfl) (isDay_c k _) ?_ ?_)
    ·intro h4 w hI
     refine pu kg rfl (pu kg rfl (puo kg ⟨rfl,rfl⟩ (pu kg rfl (pu kg rfl (aa (aj ?_))))))
     exact ⟨.bool true,Ret.r1 rfl rfl,⟨by first | (simp_all [df,ci]; done) | (simp_all [df,ci]; omega) | (simp [df,ci] at *; omega) | (refine congrArg Value.bool (Bool.eq_iff_iff.2 ?_); simp [df,ci] at *; omega),hI.below⟩⟩
    intro h5 w hI
    refine pu kf rfl (pu kf rfl (of_ rfl (pu kf rfl (pu kf rfl (aa (aj ?_))))))
    exact ⟨.bool false,Ret.r1 rfl rfl,⟨by first | (simp_all [df,ci]; done) | (simp_all [df,ci]; omega) | (simp [df,ci] at *; omega) | (refine congrArg Value.bool (Bool.eq_iff_iff.2 ?_); simp [df,ci] at *; omega),hI.below⟩⟩
   intro h6
   refine pu kf rfl (pu kf rfl (of_ rfl (of_ rfl (of_ rfl (pu kf rfl (pu kf rfl (of_ rfl (pu kf rfl (pu kf rfl ?_)))))))))
   refine aa (aj ?_)
   exact ⟨.bool false,Ret.r1 rfl rfl,⟨by first | (simp_all [df,ci]; done) | (simp_all [df,ci]; omega) | (simp [df,ci] at *; omega) | (refine congrArg Value.bool (Bool.eq_iff_iff.2 ?_); simp [df,ci] at *; omega),hI.below⟩⟩
  intro h7
  refine pu kf rfl (of_ rfl (of_ rfl (of_ rfl (pu kf rfl (pu kf rfl (of_ rfl (of_ rfl (of_ rfl (pu kf rfl ?_)))))))))
  refine pu kf rfl (of_ rfl (pu kf rfl (pu kf rfl (aa (aj ?_)))))
  exact ⟨.bool false,Ret.r1 rfl rfl,⟨by first | (simp_all [df,ci]; done) | (simp_all [df,ci]; omega) | (simp [df,ci] at *; omega) | (refine congrArg Value.bool (Bool.eq_iff_iff.2 ?_); simp [df,ci] at *; omega),hI.below⟩⟩
 intro h8
 refine pu kf rfl (puo (.pointer (some ⟨b1,2,none⟩)) ⟨rfl,rfl⟩ (aw rfl (ag hI 0 (iv u) isAgg3 rfl rfl rfl ?_)))
 refine puo (.pointer (some ⟨b1,1,none⟩)) ⟨rfl,rfl⟩ (aw rfl (ag hI 0 (iv k) isAgg3 rfl rfl rfl ?_))
 refine aw rfl (fh rfl rfl ?_ ?_)
 ·intro h9
  refine puo kg ⟨rfl,rfl⟩ (puo (.pointer (some ⟨b1,2,none⟩)) ⟨rfl,rfl⟩ (aw rfl (ag hI 0 (iv u) isAgg3 rfl rfl rfl ?_)))
  refine aw rfl (bg hI 139 [iv u] (.bool (ci u)) (by kernel_rfl) (isDay_c u _) fun w hI=>puo (.bool (ci u)) ⟨rfl,rfl⟩ (pu (.bool (ci u)) rfl (pu (.bool (ci u)) rfl (aa (ab (rgn rfl (pu (.pointer (some ⟨b1,0,none⟩)) rfl (ac (ag hI 0 (iv s) isAgg3 rfl rfl rfl ?_)))))))))
  refine ac (iq rfl rfl ?_ ?_)
  ·intro a
   refine pu kg rfl (puo (.pointer (some ⟨b1,0,none⟩)) ⟨rfl,rfl⟩ (aw rfl (ag hI 0 (iv s) isAgg3 rfl rfl rfl ?_)))
   refine aw rfl (fq rfl rfl ?_ ?_)
   ·intro b
    refine pu kg rfl (pu kg rfl (puo (.pointer (some ⟨b1,1,none⟩)) ⟨rfl,rfl⟩ (aw rfl (ag hI 0 (iv k) isAgg3 rfl rfl rfl ?_))))
    refine aw rfl (fc hI 139 [iv k] (ci k) (by kernel_rfl) (isDay_c k _) ?_ ?_)
    ·intro d w hI
     refine pu kg rfl (pu kg rfl (puo (.bool (ci u)) ⟨rfl,rfl⟩ (pu (.bool (ci u)) rfl (pu (.bool (ci u)) rfl (aa (aj ?_))))))
     exact ⟨.bool (ci u),Ret.r1 rfl rfl,⟨by first | (simp_all [df,ci]; done) | (simp_all [df,ci]; omega) | (simp [df,ci] at *; omega) | (refine congrArg Value.bool (Bool.eq_iff_iff.2 ?_); simp [df,ci] at *; omega),hI.below⟩⟩
    intro e w hI
    refine pu kf rfl (pu kf rfl (of_ rfl (pu kf rfl (pu kf rfl (aa (aj ?_))))))
    exact ⟨.bool false,Ret.r1 rfl rfl,⟨by first | (simp_all [df,ci]; done) | (simp_all [df,ci]; omega) | (simp [df,ci] at *; omega) | (refine congrArg Value.bool (Bool.eq_iff_iff.2 ?_); simp [df,ci] at *; omega),hI.below⟩⟩
   intro f
   refine pu kf rfl (pu kf rfl (of_ rfl (of_ rfl (of_ rfl (pu kf rfl (pu kf rfl (of_ rfl (pu kf rfl (pu kf rfl ?_)))))))))
   refine aa (aj ?_)
   exact ⟨.bool false,Ret.r1 rfl rfl,⟨by first | (simp_all [df,ci]; done) | (simp_all [df,ci]; omega) | (simp [df,ci] at *; omega) | (refine congrArg Value.bool (Bool.eq_iff_iff.2 ?_); simp [df,ci] at *; omega),hI.below⟩⟩
  intro g
  refine pu kf rfl (of_ rfl (of_ rfl (of_ rfl (pu kf rfl (pu kf rfl (of_ rfl (of_ rfl (of_ rfl (pu kf rfl ?_)))))))))
  refine pu kf rfl (of_ rfl (pu kf rfl (pu kf rfl (aa (aj ?_)))))
  exact ⟨.bool false,Ret.r1 rfl rfl,⟨by first | (simp_all [df,ci]; done) | (simp_all [df,ci]; omega) | (simp [df,ci] at *; omega) | (refine congrArg Value.bool (Bool.eq_iff_iff.2 ?_); simp [df,ci] at *; omega),hI.below⟩⟩
 intro h
 refine puo kf ⟨rfl,rfl⟩ (of_ rfl (of_ rfl (of_ rfl (puo kf ⟨rfl,rfl⟩ (pu kf rfl (pu kf rfl (aa (ab (rgn rfl ?_)))))))))
 refine pu (.pointer (some ⟨b1,0,none⟩)) rfl (ac (ag hI 0 (iv s) isAgg3 rfl rfl rfl ?_))
 refine ac (iq rfl rfl ?_ ?_)
 ·intro i
  refine pu kg rfl (puo (.pointer (some ⟨b1,0,none⟩)) ⟨rfl,rfl⟩ (aw rfl (ag hI 0 (iv s) isAgg3 rfl rfl rfl ?_)))
  refine aw rfl (fq rfl rfl ?_ ?_)
  ·intro j
   refine pu kg rfl (pu kg rfl (puo (.pointer (some ⟨b1,1,none⟩)) ⟨rfl,rfl⟩ (aw rfl (ag hI 0 (iv k) isAgg3 rfl rfl rfl ?_))))
   refine aw rfl (fc hI 139 [iv k] (ci k) (by kernel_rfl) (isDay_c k _) ?_ ?_)
   ·intro l w hI
    refine pu kg rfl (pu kg rfl (puo kf ⟨rfl,rfl⟩ (pu kf rfl (pu kf rfl (aa (aj ?_))))))
    exact ⟨.bool false,Ret.r1 rfl rfl,⟨by first | (simp_all [df,ci]; done) | (simp_all [df,ci]; omega) | (simp [df,ci] at *; omega) | (refine congrArg Value.bool (Bool.eq_iff_iff.2 ?_); simp [df,ci] at *; omega),hI.below⟩⟩
   intro m w hI
   refine pu kf rfl (pu kf rfl (of_ rfl (pu kf rfl (pu kf rfl (aa (aj ?_))))))
   exact ⟨.bool false,Ret.r1 rfl rfl,⟨by first | (simp_all [df,ci]; done) | (simp_all [df,ci]; omega) | (simp [df,ci] at *; omega) | (refine congrArg Value.bool (Bool.eq_iff_iff.2 ?_); simp [df,ci] at *; omega),hI.below⟩⟩
  intro o
  refine pu kf rfl (pu kf rfl (of_ rfl (of_ rfl (of_ rfl (pu kf rfl (pu kf rfl (of_ rfl (pu kf rfl (pu kf rfl ?_)))))))))
  refine aa (aj ?_)
  exact ⟨.bool false,Ret.r1 rfl rfl,⟨by first | (simp_all [df,ci]; done) | (simp_all [df,ci]; omega) | (simp [df,ci] at *; omega) | (refine congrArg Value.bool (Bool.eq_iff_iff.2 ?_); simp [df,ci] at *; omega),hI.below⟩⟩
 intro p
 refine pu kf rfl (of_ rfl (of_ rfl (of_ rfl (pu kf rfl (pu kf rfl (of_ rfl (of_ rfl (of_ rfl (pu kf rfl ?_)))))))))
 refine pu kf rfl (of_ rfl (pu kf rfl (pu kf rfl (aa (aj ?_)))))
 exact ⟨.bool false,Ret.r1 rfl rfl,⟨by first | (simp_all [df,ci]; done) | (simp_all [df,ci]; omega) | (simp [df,ci] at *; omega) | (refine congrArg Value.bool (Bool.eq_iff_iff.2 ?_); simp [df,ci] at *; omega),hI.below⟩⟩


theorem noteOfLoad_c (src:Int) (hr:Int) (lo:Int) (hi:Int) (kn:Int) (un:Int) (w0:World):bn Tryz.prog 74 [.agg #[.int .i64 src,.int .i64 hr,.int .i64 lo,.int .i64 hi,.int .i64 kn,.int .i64 un]] w0 fun v w=>v=(.agg #[.int .i64 src,.int .i64 kn,.int .i64 un])∧Below w0.heap.size w0 w:=by
 refine az (n:=10) func74 rfl ntmps74 rfl ?_
 have hI:=Inv.start w0
 refine ab (rgn rfl (ac (ca hI [iv src,iv hr,iv lo,iv hi,iv kn,iv un] rfl fun b1 w hI=>ac (bh hI [iv 0,iv 0,iv 0] zeroValue95 rfl fun b2 w hI=>aa (ab (rgn rfl (pu (.pointer (some ⟨b1,0,none⟩)) rfl (ac (ag hI 1 (iv src) isAgg3 rfl rfl rfl ?_)))))))))
 refine pu (.pointer (some ⟨b1,4,none⟩)) rfl (ac (ag hI 1 (iv kn) isAgg3 rfl rfl rfl ?_))
 refine pu (.pointer (some ⟨b1,5,none⟩)) rfl (ac (ag hI 1 (iv un) isAgg3 rfl rfl rfl ?_))
 refine pu (.agg #[iv src,iv kn,iv un]) (by kernel_rfl) (ac (aq hI 0 3 [iv src,iv kn,iv un] sizeOf95 rfl rfl rfl rfl rfl (kh rfl) fun w hI=>aa (aj ?_)))
 exact ⟨.agg #[iv src,iv kn,iv un],Ret.c rfl rfl (ce hI 0 3 [iv src,iv kn,iv un] isAgg95 sizeOf95 rfl rfl rfl),⟨rfl,hI.below⟩⟩


theorem noteOfStand_c (src:Int) (hr:Int) (lo:Int) (hi:Int) (kn:Int) (un:Int) (w0:World):bn Tryz.prog 76 [.agg #[.int .i64 src,.int .i64 hr,.int .i64 lo,.int .i64 hi,.int .i64 kn,.int .i64 un]] w0 fun v w=>v=(.agg #[.int .i64 src,.int .i64 kn,.int .i64 un])∧Below w0.heap.size w0 w:=by
 refine az (n:=10) func76 rfl ntmps76 rfl ?_
 have hI:=Inv.start w0
 refine ab (rgn rfl (ac (ca hI [iv src,iv hr,iv lo,iv hi,iv kn,iv un] rfl fun b1 w hI=>ac (bh hI [iv 0,iv 0,iv 0] zeroValue95 rfl fun b2 w hI=>aa (ab (rgn rfl (pu (.pointer (some ⟨b1,0,none⟩)) rfl (ac (ag hI 1 (iv src) isAgg3 rfl rfl rfl ?_)))))))))
 refine pu (.pointer (some ⟨b1,4,none⟩)) rfl (ac (ag hI 1 (iv kn) isAgg3 rfl rfl rfl ?_))
 refine pu (.pointer (some ⟨b1,5,none⟩)) rfl (ac (ag hI 1 (iv un) isAgg3 rfl rfl rfl ?_))
 refine pu (.agg #[iv src,iv kn,iv un]) (by kernel_rfl) (ac (aq hI 0 3 [iv src,iv kn,iv un] sizeOf95 rfl rfl rfl rfl rfl (kh rfl) fun w hI=>aa (aj ?_)))
 exact ⟨.agg #[iv src,iv kn,iv un],Ret.c rfl rfl (ce hI 0 3 [iv src,iv kn,iv un] isAgg95 sizeOf95 rfl rfl rfl),⟨rfl,hI.below⟩⟩


theorem ir (src:Int) (kd:Int) (fr:Int) (to:Int) (kn:Int) (un:Int) (w0:World):bn Tryz.prog 78 [.agg #[.int .i64 src,.int .i64 kd,.int .i64 fr,.int .i64 to,.int .i64 kn,.int .i64 un]] w0 fun v w=>v=(.agg #[.int .i64 src,.int .i64 kn,.int .i64 un])∧Below w0.heap.size w0 w:=by
 refine az (n:=10) func78 rfl ntmps78 rfl ?_
 have hI:=Inv.start w0
 refine ab (rgn rfl (ac (ca hI [iv src,iv kd,iv fr,iv to,iv kn,iv un] rfl fun b1 w hI=>ac (bh hI [iv 0,iv 0,iv 0] zeroValue95 rfl fun b2 w hI=>aa (ab (rgn rfl (pu (.pointer (some ⟨b1,0,none⟩)) rfl (ac (ag hI 1 (iv src) isAgg3 rfl rfl rfl ?_)))))))))
 refine pu (.pointer (some ⟨b1,4,none⟩)) rfl (ac (ag hI 1 (iv kn) isAgg3 rfl rfl rfl ?_))
 refine pu (.pointer (some ⟨b1,5,none⟩)) rfl (ac (ag hI 1 (iv un) isAgg3 rfl rfl rfl ?_))
 refine pu (.agg #[iv src,iv kn,iv un]) (by kernel_rfl) (ac (aq hI 0 3 [iv src,iv kn,iv un] sizeOf95 rfl rfl rfl rfl rfl (kh rfl) fun w hI=>aa (aj ?_)))
 exact ⟨.agg #[iv src,iv kn,iv un],Ret.c rfl rfl (ce hI 0 3 [iv src,iv kn,iv un] isAgg95 sizeOf95 rfl rfl rfl),⟨rfl,hI.below⟩⟩


theorem CheckLoad_c (src:Int) (hr:Int) (lo:Int) (hi:Int) (kn:Int) (un:Int) (w0:World):bn Tryz.prog 24 [.agg #[.int .i64 src,.int .i64 hr,.int .i64 lo,.int .i64 hi,.int .i64 kn,.int .i64 un]] w0 fun v w=>v=(.int .i64 (cg (fk src hr lo hi kn un) 10))∧Below w0.heap.size w0 w:=by
 refine az (n:=16) func24 rfl ntmps24 rfl ?_
 have hI:=Inv.start w0
 refine ab (rgn rfl (ac (ca hI [iv src,iv hr,iv lo,iv hi,iv kn,iv un] rfl fun b1 w hI=>pu (iv 0) rfl (aa (ab (ab (rgn rfl (ac (ar hI 0 6 [iv src,iv hr,iv lo,iv hi,iv kn,iv un] isAgg30 sizeOf30 rfl rfl rfl rfl ?_)))))))))
 refine ac (bg hI 74 [.agg #[iv src,iv hr,iv lo,iv hi,iv kn,iv un]] (.agg #[iv src,iv kn,iv un]) (by kernel_rfl) (noteOfLoad_c src hr lo hi kn un _) fun w hI=>ac (fc hI 81 [.agg #[iv src,iv kn,iv un]] (df src kn un) (by kernel_rfl) (valid_c src kn un _) ?_ ?_))
 ·intro h1 w hI
  refine pu kg rfl (puo (.pointer (some ⟨b1,1,none⟩)) ⟨rfl,rfl⟩ (aw rfl (ag hI 0 (iv hr) isAgg3 rfl rfl rfl ?_)))
  refine aw rfl (fc hI 82 [iv hr] (dx hr) (by kernel_rfl) (isHour_c hr _) ?_ ?_)
  ·intro h2 w hI
   refine pu kg rfl (pu kg rfl (puo (.pointer (some ⟨b1,2,none⟩)) ⟨rfl,rfl⟩ (aw rfl (ar hI 0 2 [iv lo,iv hi] isAgg23 sizeOf23 rfl rfl rfl rfl ?_))))
   refine aw rfl (fc hI 72 [.agg #[iv lo,iv hi]] (cu lo hi) (by kernel_rfl) (areSheaves_c lo hi _) ?_ ?_)
   ·intro h3 w hI
    refine pu kg rfl (aa (ah rfl (ab (rgn rfl (pu (iv 0) rfl (aa (aj ?_)))))))
    exact ⟨iv 0,Ret.r1 rfl rfl,⟨by first | (simp_all [cg,fk]; done) | (simp_all [cg,fk]; omega) | (simp [cg,fk] at *; omega) | (refine congrArg Value.bool (Bool.eq_iff_iff.2 ?_); simp [cg,fk] at *; omega),hI.below⟩⟩
   intro h4 w hI
   refine pu kf rfl (aa (ai rfl (ak (ab (rgn rfl (pu (iv 10) rfl (aa (aj ?_))))))))
   exact ⟨iv 10,Ret.r1 rfl rfl,⟨by first | (simp_all [cg,fk]; done) | (simp_all [cg,fk]; omega) | (simp [cg,fk] at *; omega) | (refine congrArg Value.bool (Bool.eq_iff_iff.2 ?_); simp [cg,fk] at *; omega),hI.below⟩⟩
  intro h5 w hI
  refine pu kf rfl (pu kf rfl (of_ rfl (of_ rfl (of_ rfl (pu kf rfl (aa (ai rfl (ak (ab ?_)))))))))
  refine rgn rfl (pu (iv 10) rfl (aa (aj ?_)))
  exact ⟨iv 10,Ret.r1 rfl rfl,⟨by first | (simp_all [cg,fk]; done) | (simp_all [cg,fk]; omega) | (simp [cg,fk] at *; omega) | (refine congrArg Value.bool (Bool.eq_iff_iff.2 ?_); simp [cg,fk] at *; omega),hI.below⟩⟩
 intro h6 w hI
 refine pu kf rfl (of_ rfl (of_ rfl (of_ rfl (pu kf rfl (pu kf rfl (of_ rfl (of_ rfl (of_ rfl (pu kf rfl ?_)))))))))
 refine aa (ai rfl (ak (ab (rgn rfl (pu (iv 10) rfl (aa (aj ?_)))))))
 exact ⟨iv 10,Ret.r1 rfl rfl,⟨by first | (simp_all [cg,fk]; done) | (simp_all [cg,fk]; omega) | (simp [cg,fk] at *; omega) | (refine congrArg Value.bool (Bool.eq_iff_iff.2 ?_); simp [cg,fk] at *; omega),hI.below⟩⟩


theorem CheckStand_c (src:Int) (hr:Int) (lo:Int) (hi:Int) (kn:Int) (un:Int) (w0:World):bn Tryz.prog 26 [.agg #[.int .i64 src,.int .i64 hr,.int .i64 lo,.int .i64 hi,.int .i64 kn,.int .i64 un]] w0 fun v w=>v=(.int .i64 (cg (fk src hr lo hi kn un) 11))∧Below w0.heap.size w0 w:=by
 refine az (n:=16) func26 rfl ntmps26 rfl ?_
 have hI:=Inv.start w0
 refine ab (rgn rfl (ac (ca hI [iv src,iv hr,iv lo,iv hi,iv kn,iv un] rfl fun b1 w hI=>pu (iv 0) rfl (aa (ab (ab (rgn rfl (ac (ar hI 0 6 [iv src,iv hr,iv lo,iv hi,iv kn,iv un] isAgg31 sizeOf31 rfl rfl rfl rfl ?_)))))))))
 refine ac (bg hI 76 [.agg #[iv src,iv hr,iv lo,iv hi,iv kn,iv un]] (.agg #[iv src,iv kn,iv un]) (by kernel_rfl) (noteOfStand_c src hr lo hi kn un _) fun w hI=>ac (fc hI 81 [.agg #[iv src,iv kn,iv un]] (df src kn un) (by kernel_rfl) (valid_c src kn un _) ?_ ?_))
 ·intro h1 w hI
  refine pu kg rfl (puo (.pointer (some ⟨b1,1,none⟩)) ⟨rfl,rfl⟩ (aw rfl (ag hI 0 (iv hr) isAgg3 rfl rfl rfl ?_)))
  refine aw rfl (fc hI 82 [iv hr] (dx hr) (by kernel_rfl) (isHour_c hr _) ?_ ?_)
  ·intro h2 w hI
   refine pu kg rfl (pu kg rfl (puo (.pointer (some ⟨b1,2,none⟩)) ⟨rfl,rfl⟩ (aw rfl (ar hI 0 2 [iv lo,iv hi] isAgg23 sizeOf23 rfl rfl rfl rfl ?_))))
   refine aw rfl (fc hI 72 [.agg #[iv lo,iv hi]] (cu lo hi) (by kernel_rfl) (areSheaves_c lo hi _) ?_ ?_)
   ·intro h3 w hI
    refine pu kg rfl (aa (ah rfl (ab (rgn rfl (pu (iv 0) rfl (aa (aj ?_)))))))
    exact ⟨iv 0,Ret.r1 rfl rfl,⟨by first | (simp_all [cg,fk]; done) | (simp_all [cg,fk]; omega) | (simp [cg,fk] at *; omega) | (refine congrArg Value.bool (Bool.eq_iff_iff.2 ?_); simp [cg,fk] at *; omega),hI.below⟩⟩
   intro h4 w hI
   refine pu kf rfl (aa (ai rfl (ak (ab (rgn rfl (pu (iv 11) rfl (aa (aj ?_))))))))
   exact ⟨iv 11,Ret.r1 rfl rfl,⟨by first | (simp_all [cg,fk]; done) | (simp_all [cg,fk]; omega) | (simp [cg,fk] at *; omega) | (refine congrArg Value.bool (Bool.eq_iff_iff.2 ?_); simp [cg,fk] at *; omega),hI.below⟩⟩
  intro h5 w hI
  refine pu kf rfl (pu kf rfl (of_ rfl (of_ rfl (of_ rfl (pu kf rfl (aa (ai rfl (ak (ab ?_)))))))))
  refine rgn rfl (pu (iv 11) rfl (aa (aj ?_)))
  exact ⟨iv 11,Ret.r1 rfl rfl,⟨by first | (simp_all [cg,fk]; done) | (simp_all [cg,fk]; omega) | (simp [cg,fk] at *; omega) | (refine congrArg Value.bool (Bool.eq_iff_iff.2 ?_); simp [cg,fk] at *; omega),hI.below⟩⟩
 intro h6 w hI
 refine pu kf rfl (of_ rfl (of_ rfl (of_ rfl (pu kf rfl (pu kf rfl (of_ rfl (of_ rfl (of_ rfl (pu kf rfl ?_)))))))))
 refine aa (ai rfl (ak (ab (rgn rfl (pu (iv 11) rfl (aa (aj ?_)))))))
 exact ⟨iv 11,Ret.r1 rfl rfl,⟨by first | (simp_all [cg,fk]; done) | (simp_all [cg,fk]; omega) | (simp [cg,fk] at *; omega) | (refine congrArg Value.bool (Bool.eq_iff_iff.2 ?_); simp [cg,fk] at *; omega),hI.below⟩⟩


theorem CheckSpell_c (src:Int) (kd:Int) (fr:Int) (to:Int) (kn:Int) (un:Int) (w0:World):bn Tryz.prog 28 [.agg #[.int .i64 src,.int .i64 kd,.int .i64 fr,.int .i64 to,.int .i64 kn,.int .i64 un]] w0 fun v w=>v=(.int .i64 (cg (dq src kd fr to kn un) 12))∧Below w0.heap.size w0 w:=by
 refine az (n:=35) func28 rfl ntmps28 rfl ?_
 have hI:=Inv.start w0
 refine ab (rgn rfl (ac (ca hI [iv src,iv kd,iv fr,iv to,iv kn,iv un] rfl fun b1 w hI=>pu (iv 0) rfl (aa (ab (rgn rfl (pu (.pointer (some ⟨b1,1,none⟩)) rfl (ac (ag hI 0 (iv kd) isAgg3 rfl rfl rfl ?_)))))))))
 refine ac (di rfl rfl ?_ ?_)
 ·intro h1
  refine pu kg rfl (of_ rfl (of_ rfl (of_ rfl (pu kg rfl (pu kg rfl (aa (ab (ab (rgn rfl ?_)))))))))
  refine ac (ar hI 0 6 [iv src,iv kd,iv fr,iv to,iv kn,iv un] isAgg33 sizeOf33 rfl rfl rfl rfl ?_)
  refine ac (bg hI 78 [.agg #[iv src,iv kd,iv fr,iv to,iv kn,iv un]] (.agg #[iv src,iv kn,iv un]) (by kernel_rfl) (ir src kd fr to kn un _) fun w hI=>ac (fc hI 81 [.agg #[iv src,iv kn,iv un]] (df src kn un) (by kernel_rfl) (valid_c src kn un _) ?_ ?_))
  ·intro h2 w hI
   refine pu kg rfl (puo kg ⟨rfl,rfl⟩ (pu kg rfl (pu kg rfl (puo (.pointer (some ⟨b1,2,none⟩)) ⟨rfl,rfl⟩ (aw rfl (ag hI 0 (iv fr) isAgg3 rfl rfl rfl ?_))))))
   refine aw rfl (fc hI 82 [iv fr] (dx fr) (by kernel_rfl) (isHour_c fr _) ?_ ?_)
   ·intro h3 w hI
    refine pu kg rfl (pu kg rfl (puo (.pointer (some ⟨b1,3,none⟩)) ⟨rfl,rfl⟩ (aw rfl (ag hI 0 (iv to) isAgg3 rfl rfl rfl ?_))))
    refine aw rfl (fc hI 82 [iv to] (dx to) (by kernel_rfl) (isHour_c to _) ?_ ?_)
    ·intro h4 w hI
     refine pu kg rfl (pu kg rfl (puo (.pointer (some ⟨b1,2,none⟩)) ⟨rfl,rfl⟩ (aw rfl (ag hI 0 (iv fr) isAgg3 rfl rfl rfl ?_))))
     refine puo (.pointer (some ⟨b1,3,none⟩)) ⟨rfl,rfl⟩ (aw rfl (ag hI 0 (iv to) isAgg3 rfl rfl rfl ?_))
     refine aw rfl (fq rfl rfl ?_ ?_)
     ·intro h5
      refine pu kg rfl (aa (ah rfl (ab (rgn rfl (pu (iv 0) rfl (aa (aj ?_)))))))
      exact ⟨iv 0,Ret.r1 rfl rfl,⟨by first | (simp_all [cg,dq]; done) | (simp_all [cg,dq]; omega) | (simp [cg,dq] at *; omega) | (refine congrArg Value.bool (Bool.eq_iff_iff.2 ?_); simp [cg,dq] at *; omega),hI.below⟩⟩
     intro h6
     refine pu kf rfl (aa (ai rfl (ak (ab (rgn rfl (pu (iv 12) rfl (aa (aj ?_))))))))
     exact ⟨iv 12,Ret.r1 rfl rfl,⟨by first | (simp_all [cg,dq]; done) | (simp_all [cg,dq]; omega) | (simp [cg,dq] at *; omega) | (refine congrArg Value.bool (Bool.eq_iff_iff.2 ?_); simp [cg,dq] at *; omega),hI.below⟩⟩
    intro h7 w hI
    refine pu kf rfl (pu kf rfl (of_ rfl (of_ rfl (of_ rfl (of_ rfl (of_ rfl (pu kf rfl (aa (ai rfl ?_)))))))))
    refine ak (ab (rgn rfl (pu (iv 12) rfl (aa (aj ?_)))))
    exact ⟨iv 12,Ret.r1 rfl rfl,⟨by first | (simp_all [cg,dq]; done) | (simp_all [cg,dq]; omega) | (simp [cg,dq] at *; omega) | (refine congrArg Value.bool (Bool.eq_iff_iff.2 ?_); simp [cg,dq] at *; omega),hI.below⟩⟩
   intro h8 w hI
   refine pu kf rfl (pu kf rfl (of_ rfl (of_ rfl (of_ rfl (pu kf rfl (pu kf rfl (of_ rfl (of_ rfl (of_ rfl ?_)))))))))
   refine of_ rfl (of_ rfl (pu kf rfl (aa (ai rfl (ak (ab (rgn rfl (pu (iv 12) rfl (aa ?_)))))))))
   refine aj ?_
   exact ⟨iv 12,Ret.r1 rfl rfl,⟨by first | (simp_all [cg,dq]; done) | (simp_all [cg,dq]; omega) | (simp [cg,dq] at *; omega) | (refine congrArg Value.bool (Bool.eq_iff_iff.2 ?_); simp [cg,dq] at *; omega),hI.below⟩⟩
  intro h9 w hI
  refine pu kf rfl (of_ rfl (pu kf rfl (pu kf rfl (of_ rfl (of_ rfl (of_ rfl (pu kf rfl (pu kf rfl (of_ rfl ?_)))))))))
  refine of_ rfl (of_ rfl (pu kf rfl (pu kf rfl (of_ rfl (of_ rfl (of_ rfl (of_ rfl (of_ rfl (pu kf rfl ?_)))))))))
  refine aa (ai rfl (ak (ab (rgn rfl (pu (iv 12) rfl (aa (aj ?_)))))))
  exact ⟨iv 12,Ret.r1 rfl rfl,⟨by first | (simp_all [cg,dq]; done) | (simp_all [cg,dq]; omega) | (simp [cg,dq] at *; omega) | (refine congrArg Value.bool (Bool.eq_iff_iff.2 ?_); simp [cg,dq] at *; omega),hI.below⟩⟩
 intro a
 refine pu kf rfl (puo (.pointer (some ⟨b1,1,none⟩)) ⟨rfl,rfl⟩ (aw rfl (ag hI 0 (iv kd) isAgg3 rfl rfl rfl ?_)))
 refine aw rfl (di rfl rfl ?_ ?_)
 ·intro b
  refine pu kg rfl (pu kg rfl (aa (ab (ab (rgn rfl (ac (ar hI 0 6 [iv src,iv kd,iv fr,iv to,iv kn,iv un] isAgg33 sizeOf33 rfl rfl rfl rfl ?_)))))))
  refine ac (bg hI 78 [.agg #[iv src,iv kd,iv fr,iv to,iv kn,iv un]] (.agg #[iv src,iv kn,iv un]) (by kernel_rfl) (ir src kd fr to kn un _) fun w hI=>ac (fc hI 81 [.agg #[iv src,iv kn,iv un]] (df src kn un) (by kernel_rfl) (valid_c src kn un _) ?_ ?_))
  ·intro d w hI
   refine pu kg rfl (puo kg ⟨rfl,rfl⟩ (pu kg rfl (pu kg rfl (puo (.pointer (some ⟨b1,2,none⟩)) ⟨rfl,rfl⟩ (aw rfl (ag hI 0 (iv fr) isAgg3 rfl rfl rfl ?_))))))
   refine aw rfl (fc hI 82 [iv fr] (dx fr) (by kernel_rfl) (isHour_c fr _) ?_ ?_)
   ·intro e w hI
    refine pu kg rfl (pu kg rfl (puo (.pointer (some ⟨b1,3,none⟩)) ⟨rfl,rfl⟩ (aw rfl (ag hI 0 (iv to) isAgg3 rfl rfl rfl ?_))))
    refine aw rfl (fc hI 82 [iv to] (dx to) (by kernel_rfl) (isHour_c to _) ?_ ?_)
    ·intro f w hI
     refine pu kg rfl (pu kg rfl (puo (.pointer (some ⟨b1,2,none⟩)) ⟨rfl,rfl⟩ (aw rfl (ag hI 0 (iv fr) isAgg3 rfl rfl rfl ?_))))
     refine puo (.pointer (some ⟨b1,3,none⟩)) ⟨rfl,rfl⟩ (aw rfl (ag hI 0 (iv to) isAgg3 rfl rfl rfl ?_))
     refine aw rfl (fq rfl rfl ?_ ?_)
     ·intro g
      refine pu kg rfl (aa (ah rfl (ab (rgn rfl (pu (iv 0) rfl (aa (aj ?_)))))))
      exact ⟨iv 0,Ret.r1 rfl rfl,⟨by first | (simp_all [cg,dq]; done) | (simp_all [cg,dq]; omega) | (simp [cg,dq] at *; omega) | (refine congrArg Value.bool (Bool.eq_iff_iff.2 ?_); simp [cg,dq] at *; omega),hI.below⟩⟩
     intro h
     refine pu kf rfl (aa (ai rfl (ak (ab (rgn rfl (pu (iv 12) rfl (aa (aj ?_))))))))
     exact ⟨iv 12,Ret.r1 rfl rfl,⟨by first | (simp_all [cg,dq]; done) | (simp_all [cg,dq]; omega) | (simp [cg,dq] at *; omega) | (refine congrArg Value.bool (Bool.eq_iff_iff.2 ?_); simp [cg,dq] at *; omega),hI.below⟩⟩
    intro i w hI
    refine pu kf rfl (pu kf rfl (of_ rfl (of_ rfl (of_ rfl (of_ rfl (of_ rfl (pu kf rfl (aa (ai rfl ?_)))))))))
    refine ak (ab (rgn rfl (pu (iv 12) rfl (aa (aj ?_)))))
    exact ⟨iv 12,Ret.r1 rfl rfl,⟨by first | (simp_all [cg,dq]; done) | (simp_all [cg,dq]; omega) | (simp [cg,dq] at *; omega) | (refine congrArg Value.bool (Bool.eq_iff_iff.2 ?_); simp [cg,dq] at *; omega),hI.below⟩⟩
   intro j w hI
   refine pu kf rfl (pu kf rfl (of_ rfl (of_ rfl (of_ rfl (pu kf rfl (pu kf rfl (of_ rfl (of_ rfl (of_ rfl ?_)))))))))
   refine of_ rfl (of_ rfl (pu kf rfl (aa (ai rfl (ak (ab (rgn rfl (pu (iv 12) rfl (aa ?_)))))))))
   refine aj ?_
   exact ⟨iv 12,Ret.r1 rfl rfl,⟨by first | (simp_all [cg,dq]; done) | (simp_all [cg,dq]; omega) | (simp [cg,dq] at *; omega) | (refine congrArg Value.bool (Bool.eq_iff_iff.2 ?_); simp [cg,dq] at *; omega),hI.below⟩⟩
  intro k w hI
  refine pu kf rfl (of_ rfl (pu kf rfl (pu kf rfl (of_ rfl (of_ rfl (of_ rfl (pu kf rfl (pu kf rfl (of_ rfl ?_)))))))))
  refine of_ rfl (of_ rfl (pu kf rfl (pu kf rfl (of_ rfl (of_ rfl (of_ rfl (of_ rfl (of_ rfl (pu kf rfl ?_)))))))))
  refine aa (ai rfl (ak (ab (rgn rfl (pu (iv 12) rfl (aa (aj ?_)))))))
  exact ⟨iv 12,Ret.r1 rfl rfl,⟨by first | (simp_all [cg,dq]; done) | (simp_all [cg,dq]; omega) | (simp [cg,dq] at *; omega) | (refine congrArg Value.bool (Bool.eq_iff_iff.2 ?_); simp [cg,dq] at *; omega),hI.below⟩⟩
 intro l
 refine pu kf rfl (pu kf rfl (aa (ab (ab (rgn rfl (ac (ar hI 0 6 [iv src,iv kd,iv fr,iv to,iv kn,iv un] isAgg33 sizeOf33 rfl rfl rfl rfl ?_)))))))
 refine ac (bg hI 78 [.agg #[iv src,iv kd,iv fr,iv to,iv kn,iv un]] (.agg #[iv src,iv kn,iv un]) (by kernel_rfl) (ir src kd fr to kn un _) fun w hI=>ac (fc hI 81 [.agg #[iv src,iv kn,iv un]] (df src kn un) (by kernel_rfl) (valid_c src kn un _) ?_ ?_))
 ·intro m w hI
  refine pu kg rfl (puo kf ⟨rfl,rfl⟩ (pu kf rfl (pu kf rfl (of_ rfl (of_ rfl (of_ rfl (pu kf rfl (pu kf rfl (of_ rfl ?_)))))))))
  refine of_ rfl (of_ rfl (pu kf rfl (pu kf rfl (of_ rfl (of_ rfl (of_ rfl (of_ rfl (of_ rfl (pu kf rfl ?_)))))))))
  refine aa (ai rfl (ak (ab (rgn rfl (pu (iv 12) rfl (aa (aj ?_)))))))
  exact ⟨iv 12,Ret.r1 rfl rfl,⟨by first | (simp_all [cg,dq]; done) | (simp_all [cg,dq]; omega) | (simp [cg,dq] at *; omega) | (refine congrArg Value.bool (Bool.eq_iff_iff.2 ?_); simp [cg,dq] at *; omega),hI.below⟩⟩
 intro o w hI
 refine pu kf rfl (of_ rfl (pu kf rfl (pu kf rfl (of_ rfl (of_ rfl (of_ rfl (pu kf rfl (pu kf rfl (of_ rfl ?_)))))))))
 refine of_ rfl (of_ rfl (pu kf rfl (pu kf rfl (of_ rfl (of_ rfl (of_ rfl (of_ rfl (of_ rfl (pu kf rfl ?_)))))))))
 refine aa (ai rfl (ak (ab (rgn rfl (pu (iv 12) rfl (aa (aj ?_)))))))
 exact ⟨iv 12,Ret.r1 rfl rfl,⟨by first | (simp_all [cg,dq]; done) | (simp_all [cg,dq]; omega) | (simp [cg,dq] at *; omega) | (refine congrArg Value.bool (Bool.eq_iff_iff.2 ?_); simp [cg,dq] at *; omega),hI.below⟩⟩


theorem counts_c (s:Int) (k:Int) (u:Int) (day:Int) (w0:World):bn Tryz.prog 142 [.agg #[.int .i64 s,.int .i64 k,.int .i64 u],.int .i64 day] w0 fun v w=>v=(.bool (bo k u day))∧Below w0.heap.size w0 w:=by
 refine az (n:=20) func142 rfl ntmps142 rfl ?_
 have hI:=Inv.start w0
 refine ab (rgn rfl (ac (ca hI [iv s,iv k,iv u] rfl fun b1 w hI=>pu kf rfl (aa (ab (rgn rfl (pu (.pointer (some ⟨b1,1,none⟩)) rfl (ac (ag hI 0 (iv k) isAgg3 rfl rfl rfl ?_)))))))))
 refine pu (iv day) rfl (ac (fq rfl rfl ?_ ?_))
 ·intro h1
  refine pu kg rfl (puo (.pointer (some ⟨b1,2,none⟩)) ⟨rfl,rfl⟩ (aw rfl (ag hI 0 (iv u) isAgg3 rfl rfl rfl ?_)))
  refine aw rfl (di rfl rfl ?_ ?_)
  ·intro h2
   refine puo kg ⟨rfl,rfl⟩ (of_ rfl (of_ rfl (of_ rfl (of_ rfl (puo kg ⟨rfl,rfl⟩ (pu kg rfl (pu kg rfl (aa (aj ?_)))))))))
   exact ⟨.bool true,Ret.r1 rfl rfl,⟨by first | (simp_all [bo]; done) | (simp_all [bo]; omega) | (simp [bo] at *; omega) | (refine congrArg Value.bool (Bool.eq_iff_iff.2 ?_); simp [bo] at *; omega),hI.below⟩⟩
  intro h3
  refine puo kf ⟨rfl,rfl⟩ (puo (.pointer (some ⟨b1,2,none⟩)) ⟨rfl,rfl⟩ (aw rfl (ag hI 0 (iv u) isAgg3 rfl rfl rfl ?_)))
  refine puo (iv day) ⟨rfl,rfl⟩ (aw rfl (fh rfl rfl ?_ ?_))
  ·intro h4
   refine puo kg ⟨rfl,rfl⟩ (pu kg rfl (pu kg rfl (aa (aj ?_))))
   exact ⟨.bool true,Ret.r1 rfl rfl,⟨by first | (simp_all [bo]; done) | (simp_all [bo]; omega) | (simp [bo] at *; omega) | (refine congrArg Value.bool (Bool.eq_iff_iff.2 ?_); simp [bo] at *; omega),hI.below⟩⟩
  intro h5
  refine puo kf ⟨rfl,rfl⟩ (pu kf rfl (pu kf rfl (aa (aj ?_))))
  exact ⟨.bool false,Ret.r1 rfl rfl,⟨by first | (simp_all [bo]; done) | (simp_all [bo]; omega) | (simp [bo] at *; omega) | (refine congrArg Value.bool (Bool.eq_iff_iff.2 ?_); simp [bo] at *; omega),hI.below⟩⟩
 intro h6
 refine pu kf rfl (of_ rfl (of_ rfl (of_ rfl (of_ rfl (dk rfl ?_)))))
 refine dk rfl ?_
 refine dk rfl ?_
 refine dk rfl ?_
 refine of_ rfl (pu kf rfl (pu kf rfl (aa (aj ?_))))
 exact ⟨.bool false,Ret.r1 rfl rfl,⟨by first | (simp_all [bo]; done) | (simp_all [bo]; omega) | (simp [bo] at *; omega) | (refine congrArg Value.bool (Bool.eq_iff_iff.2 ?_); simp [bo] at *; omega),hI.below⟩⟩


theorem inRange_c (n:Int) (lo:Int) (hi:Int) (w0:World):bn Tryz.prog 154 [.int .i64 n,.agg #[.int .i64 lo,.int .i64 hi]] w0 fun v w=>v=(.bool (inB n lo hi))∧Below w0.heap.size w0 w:=by
 refine az (n:=15) func154 rfl ntmps154 rfl ?_
 have hI:=Inv.start w0
 refine ab (rgn rfl (ac (ca hI [iv lo,iv hi] rfl fun b1 w hI=>pu kf rfl (aa (ab (rgn rfl (pu (iv n) rfl (pu (.pointer (some ⟨b1,0,none⟩)) rfl (ac (ag hI 0 (iv lo) isAgg3 rfl rfl rfl ?_))))))))))
 refine ac (iq rfl rfl ?_ ?_)
 ·intro h1
  refine pu kg rfl (puo (iv n) ⟨rfl,rfl⟩ (puo (.pointer (some ⟨b1,1,none⟩)) ⟨rfl,rfl⟩ (aw rfl (ag hI 0 (iv hi) isAgg3 rfl rfl rfl ?_))))
  refine aw rfl (fq rfl rfl ?_ ?_)
  ·intro h2
   refine pu kg rfl (pu kg rfl (aa (aj ?_)))
   exact ⟨.bool true,Ret.r1 rfl rfl,⟨by first | (simp_all [inB]; done) | (simp_all [inB]; omega) | (simp [inB] at *; omega) | (refine congrArg Value.bool (Bool.eq_iff_iff.2 ?_); simp [inB] at *; omega),hI.below⟩⟩
  intro h3
  refine pu kf rfl (pu kf rfl (aa (aj ?_)))
  exact ⟨.bool false,Ret.r1 rfl rfl,⟨by first | (simp_all [inB]; done) | (simp_all [inB]; omega) | (simp [inB] at *; omega) | (refine congrArg Value.bool (Bool.eq_iff_iff.2 ?_); simp [inB] at *; omega),hI.below⟩⟩
 intro h4
 refine pu kf rfl (of_ rfl (of_ rfl (of_ rfl (of_ rfl (pu kf rfl (pu kf rfl (aa (aj ?_))))))))
 exact ⟨.bool false,Ret.r1 rfl rfl,⟨by first | (simp_all [inB]; done) | (simp_all [inB]; omega) | (simp [inB] at *; omega) | (refine congrArg Value.bool (Bool.eq_iff_iff.2 ?_); simp [inB] at *; omega),hI.below⟩⟩


theorem meet_c (a:Int) (b:Int) (c:Int) (d:Int) (w0:World):bn Tryz.prog 103 [.agg #[.int .i64 a,.int .i64 b],.agg #[.int .i64 c,.int .i64 d]] w0 fun v w=>v=(.agg #[.int .i64 (if c > a then c else a),.int .i64 (if d < b then d else b)])∧Below w0.heap.size w0 w:=by
 refine az (n:=16) func103 rfl ntmps103 rfl ?_
 have hI:=Inv.start w0
 refine ab (rgn rfl (ac (ca hI [iv a,iv b] rfl fun b1 w hI=>ac (ca hI [iv c,iv d] rfl fun b2 w hI=>ac (bh hI [iv 0,iv 0] zeroValue23 rfl fun b3 w hI=>aa (ab (rgn rfl (pu (.pointer (some ⟨b1,0,none⟩)) rfl (ac (ag hI 2 (iv a) isAgg3 rfl rfl rfl ?_))))))))))
 refine pu (.pointer (some ⟨b2,0,none⟩)) rfl (ac (ag hI 1 (iv c) isAgg3 rfl rfl rfl ?_))
 refine pu (iv (if c > a then c else a)) (by kernel_rfl) (pu (.pointer (some ⟨b1,1,none⟩)) rfl (ac (ag hI 2 (iv b) isAgg3 rfl rfl rfl ?_)))
 refine pu (.pointer (some ⟨b2,1,none⟩)) rfl (ac (ag hI 1 (iv d) isAgg3 rfl rfl rfl ?_))
 refine pu (iv (if d < b then d else b)) (by kernel_rfl) (pu (.agg #[iv (if c > a then c else a),iv (if d < b then d else b)]) (by kernel_rfl) (ac (aq hI 0 2 [iv (if c > a then c else a),iv (if d < b then d else b)] sizeOf23 rfl rfl rfl rfl rfl (kh rfl) fun w hI=>aa (aj ?_))))
 exact ⟨.agg #[iv (if c > a then c else a),iv (if d < b then d else b)],Ret.c rfl rfl (ce hI 0 2 [iv (if c > a then c else a),iv (if d < b then d else b)] isAgg23 sizeOf23 rfl rfl rfl),⟨rfl,hI.below⟩⟩


theorem isNaN_c (x:Int) (w0:World):bn Tryz.prog 175 [.int .i64 x] w0 fun v w=>v=kf∧Below w0.heap.size w0 w:=by
 refine az (n:=6) func175 rfl ntmps175 rfl ?_
 have hI:=Inv.start w0
 refine ab (rgn rfl (pu kf rfl (aa (ab (rgn rfl (pu (iv x) rfl (pu (iv x) rfl (ac (de rfl rfl ?_ ?_)))))))))
 ·intro h1
  refine pu kg rfl (aa (aj ?_))
  exact ⟨.bool true,Ret.r1 rfl rfl,⟨by simp_all,hI.below⟩⟩
 intro h2
 refine pu kf rfl (aa (aj ?_))
 exact ⟨.bool false,Ret.r1 rfl rfl,⟨by simp_all,hI.below⟩⟩


theorem Compare_c (x:Int) (y:Int) (w0:World):bn Tryz.prog 145 [.int .i64 x,.int .i64 y] w0 fun v w=>v=(.int .i64 (if x < y then -1 else if y < x then 1 else 0))∧Below w0.heap.size w0 w:=by
 refine az (n:=20) func145 rfl ntmps145 rfl ?_
 have hI:=Inv.start w0
 refine ab (rgn rfl (pu (iv 0) rfl (aa (ab (rgn rfl (pu (iv x) rfl (ac (fc hI 175 [iv x] false (by kernel_rfl) (isNaN_c x _) ?_ ?_))))))))
 ·intro h1 w hI
  refine pu kg rfl (aa (ab (rgn rfl (pu (iv y) rfl (ac (fc hI 175 [iv y] false (by kernel_rfl) (isNaN_c y _) ?_ ?_))))))
  ·intro h2 w hI
   refine pu kg rfl (aa (ab (ab (rgn rfl (pu kg rfl (aa (ah rfl (ab (ab ?_)))))))))
   refine rgn rfl (pu kg rfl (aa (ah rfl (ab (rgn rfl (pu (iv 0) rfl (aa (aj ?_))))))))
   exact ⟨iv 0,Ret.r1 rfl rfl,⟨by first | (simp_all; done) | (simp_all; omega),hI.below⟩⟩
  intro h3 w hI
  refine pu kf rfl (aa (ab (ab (rgn rfl (pu kg rfl (aa (ah rfl (ab (ab ?_)))))))))
  refine rgn rfl (pu kf rfl (aa (ai rfl (ak (ab (rgn rfl (pu (iv (-1)) rfl (aa (aj ?_)))))))))
  exact ⟨iv (-1),Ret.r1 rfl rfl,⟨by first | (simp_all; done) | (simp_all; omega),hI.below⟩⟩
 intro h4 w hI
 refine pu kf rfl (aa (ab (rgn rfl (pu (iv y) rfl (ac (fc hI 175 [iv y] false (by kernel_rfl) (isNaN_c y _) ?_ ?_))))))
 ·intro h5 w hI
  refine pu kg rfl (aa (ab (ab (rgn rfl (pu kf rfl (aa (ai rfl (ak (ab ?_)))))))))
  refine ab (rgn rfl (pu kg rfl (aa (ah rfl (ab (rgn rfl (pu (iv 1) rfl (aa (aj ?_)))))))))
  exact ⟨iv 1,Ret.r1 rfl rfl,⟨by first | (simp_all; done) | (simp_all; omega),hI.below⟩⟩
 intro h6 w hI
 refine pu kf rfl (aa (ab (ab (rgn rfl (pu kf rfl (aa (ai rfl (ak (ab ?_)))))))))
 refine ab (rgn rfl (pu kf rfl (aa (ai rfl (ak (ab (ab (rgn rfl (pu (iv x) rfl ?_)))))))))
 refine pu (iv y) rfl (ac (cm rfl rfl ?_ ?_))
 ·intro h7
  refine aa (ah rfl (ab (rgn rfl (pu (iv (-1)) rfl (aa (aj ?_))))))
  exact ⟨iv (-1),Ret.r1 rfl rfl,⟨by first | (simp_all; done) | (simp_all; omega),hI.below⟩⟩
 intro h8
 refine aa (ai rfl (ak (ab (ab (rgn rfl (pu (iv x) rfl (pu (iv y) rfl (ac (fh rfl rfl ?_ ?_)))))))))
 ·intro h9
  refine aa (ah rfl (ab (rgn rfl (pu (iv 1) rfl (aa (aj ?_))))))
  exact ⟨iv 1,Ret.r1 rfl rfl,⟨by first | (simp_all; done) | (simp_all; omega),hI.below⟩⟩
 intro a
 refine aa (ai rfl (ak (ab (rgn rfl (pu (iv 0) rfl (aa (aj ?_)))))))
 exact ⟨iv 0,Ret.r1 rfl rfl,⟨by first | (simp_all; done) | (simp_all; omega),hI.below⟩⟩


theorem after_c (src:Int) (hr:Int) (lo:Int) (hi:Int) (kn:Int) (un:Int) (a:Int) (b:Int) (q1:-10000000≤lo∧lo≤10000000∧-10000000≤hi∧hi≤10000000) (q2:-100000000000≤a∧a≤100000000000∧-100000000000≤b∧b≤100000000000) (w0:World):bn Tryz.prog 149 [.agg #[.int .i64 src,.int .i64 hr,.int .i64 lo,.int .i64 hi,.int .i64 kn,.int .i64 un],.agg #[.int .i64 a,.int .i64 b]] w0 fun v w=>v=(.agg #[.int .i64 (a - hi),.int .i64 (b - lo)])∧Below w0.heap.size w0 w:=by
 refine az (n:=20) func149 rfl ntmps149 rfl ?_
 have hI:=Inv.start w0
 refine ab (rgn rfl (ac (ca hI [iv src,iv hr,iv lo,iv hi,iv kn,iv un] rfl fun b1 w hI=>ac (ca hI [iv a,iv b] rfl fun b2 w hI=>ac (bh hI [iv 0,iv 0] zeroValue23 rfl fun b3 w hI=>aa (ab (rgn rfl (pu (.pointer (some ⟨b2,0,none⟩)) rfl (ac (ag hI 1 (iv a) isAgg3 rfl rfl rfl ?_))))))))))
 refine pu (.pointer (some ⟨b1,0,none⟩)) rfl (pu (.pointer (some ⟨b1,2,none⟩)) rfl (pu (.pointer (some ⟨b1,3,none⟩)) rfl (ac (ag hI 2 (iv hi) isAgg3 rfl rfl rfl ?_))))
 refine ac (dm rfl rfl (by omega) ?_)
 refine pu (.pointer (some ⟨b2,1,none⟩)) rfl (ac (ag hI 1 (iv b) isAgg3 rfl rfl rfl ?_))
 refine pu (.pointer (some ⟨b1,0,none⟩)) rfl (pu (.pointer (some ⟨b1,2,none⟩)) rfl (pu (.pointer (some ⟨b1,2,none⟩)) rfl (ac (ag hI 2 (iv lo) isAgg3 rfl rfl rfl ?_))))
 refine ac (dm rfl rfl (by omega) ?_)
 refine pu (.agg #[iv (a - hi),iv (b - lo)]) (by kernel_rfl) (ac (aq hI 0 2 [iv (a - hi),iv (b - lo)] sizeOf23 rfl rfl rfl rfl rfl (kh rfl) fun w hI=>aa (aj ?_)))
 exact ⟨.agg #[iv (a - hi),iv (b - lo)],Ret.c rfl rfl (ce hI 0 2 [iv (a - hi),iv (b - lo)] isAgg23 sizeOf23 rfl rfl rfl),⟨rfl,hI.below⟩⟩


theorem before_c (src:Int) (hr:Int) (lo:Int) (hi:Int) (kn:Int) (un:Int) (a:Int) (b:Int) (q1:-10000000≤lo∧lo≤10000000∧-10000000≤hi∧hi≤10000000) (q2:-100000000000≤a∧a≤100000000000∧-100000000000≤b∧b≤100000000000) (w0:World):bn Tryz.prog 148 [.agg #[.int .i64 src,.int .i64 hr,.int .i64 lo,.int .i64 hi,.int .i64 kn,.int .i64 un],.agg #[.int .i64 a,.int .i64 b]] w0 fun v w=>v=(.agg #[.int .i64 (a+lo),.int .i64 (b+hi)])∧Below w0.heap.size w0 w:=by
 refine az (n:=20) func148 rfl ntmps148 rfl ?_
 have hI:=Inv.start w0
 refine ab (rgn rfl (ac (ca hI [iv src,iv hr,iv lo,iv hi,iv kn,iv un] rfl fun b1 w hI=>ac (ca hI [iv a,iv b] rfl fun b2 w hI=>ac (bh hI [iv 0,iv 0] zeroValue23 rfl fun b3 w hI=>aa (ab (rgn rfl (pu (.pointer (some ⟨b2,0,none⟩)) rfl (ac (ag hI 1 (iv a) isAgg3 rfl rfl rfl ?_))))))))))
 refine pu (.pointer (some ⟨b1,0,none⟩)) rfl (pu (.pointer (some ⟨b1,2,none⟩)) rfl (pu (.pointer (some ⟨b1,2,none⟩)) rfl (ac (ag hI 2 (iv lo) isAgg3 rfl rfl rfl ?_))))
 refine ac (cj rfl rfl (by omega) ?_)
 refine pu (.pointer (some ⟨b2,1,none⟩)) rfl (ac (ag hI 1 (iv b) isAgg3 rfl rfl rfl ?_))
 refine pu (.pointer (some ⟨b1,0,none⟩)) rfl (pu (.pointer (some ⟨b1,2,none⟩)) rfl (pu (.pointer (some ⟨b1,3,none⟩)) rfl (ac (ag hI 2 (iv hi) isAgg3 rfl rfl rfl ?_))))
 refine ac (cj rfl rfl (by omega) ?_)
 refine pu (.agg #[iv (a+lo),iv (b+hi)]) (by kernel_rfl) (ac (aq hI 0 2 [iv (a+lo),iv (b+hi)] sizeOf23 rfl rfl rfl rfl rfl (kh rfl) fun w hI=>aa (aj ?_)))
 exact ⟨.agg #[iv (a+lo),iv (b+hi)],Ret.c rfl rfl (ce hI 0 2 [iv (a+lo),iv (b+hi)] isAgg23 sizeOf23 rfl rfl rfl),⟨rfl,hI.below⟩⟩

end Go.K
