/- Contracts of the functions on plain data: what each returns. No condition. -/
import Derived.Test.YtinkdlmimiefaaaGreatProg
import Derived.Test.YtinkdlmimiefaaaGreatPKK1
namespace Go.K
open Go.Proofs Go.RowKit
set_option linter.unusedVariables false
set_option linter.unusedSimpArgs false
set_option maxRecDepth 100000
attribute [local irreducible] Seq Step CallV AnyE opX

def isDayB (n:Int):Bool:=decide (0≤n) && decide (n≤4166)
def isHourB (n:Int):Bool:=decide (0≤n) && decide (n≤99999)
def areSheavesB (lo hi:Int):Bool:=decide (0≤lo) && decide (lo≤hi) && decide (hi≤10000)
def validB (s k u:Int):Bool:=decide (1≤s) && decide (s≤99999) && isDayB k && (decide (u=0) || decide (k < u) && isDayB u)
def loadB (src hr lo hi kn un:Int):Bool:=validB src kn un && isHourB hr && areSheavesB lo hi
def spellB (src kd fr to kn un:Int):Bool:=validB src kn un && (decide (kd=1) || decide (kd=2)) && isHourB fr && isHourB to && decide (fr≤to)
def codeI (b:Bool) (e:Int):Int:=if b then 0 else e
def countsB (kn un day:Int):Bool:=decide (kn≤day) && (decide (un=0) || decide (day < un))
def inB (n lo hi:Int):Bool:=decide (lo≤n) && decide (n≤hi)
def answerI (some_ all:Bool):Int:=if all then 1 else if some_ then 2 else 0


theorem isDay_c (n:Int) (w0:World):Does Tryz.prog 139 [.int .i64 n] w0 fun v w=>v=(.bool (isDayB n))∧Below w0.heap.size w0 w:=by
 refine calls_of (n:=9) Tryz.func139 rfl Tryz.ntmps139 rfl ?_
 have hI:=Inv.start w0
 refine wp_seq (rgn rfl (pu (.bool false) rfl (seq_nil (wp_seq (rgn rfl (pu (iv n) rfl (seq_c (s_geq rfl rfl ?_ ?_))))))))
 ·intro h1
  refine pu (.bool true) rfl (puo (iv n) ⟨rfl,rfl⟩ (seq_on rfl (s_leq rfl rfl ?_ ?_)))
  ·intro h2
   refine pu (.bool true) rfl (pu (.bool true) rfl (seq_nil (wp_ret ?_)))
   exact ⟨.bool true,Ret.r1 rfl rfl,⟨by first | (simp_all [isDayB]; done) | (simp_all [isDayB]; omega) | (simp [isDayB] at *; omega) | (refine congrArg Value.bool (Bool.eq_iff_iff.2 ?_); simp [isDayB] at *; omega),hI.below⟩⟩
  ·intro h3
   refine pu (.bool false) rfl (pu (.bool false) rfl (seq_nil (wp_ret ?_)))
   exact ⟨.bool false,Ret.r1 rfl rfl,⟨by first | (simp_all [isDayB]; done) | (simp_all [isDayB]; omega) | (simp [isDayB] at *; omega) | (refine congrArg Value.bool (Bool.eq_iff_iff.2 ?_); simp [isDayB] at *; omega),hI.below⟩⟩
 ·intro h4
  refine pu (.bool false) rfl (of_ rfl (of_ rfl (pu (.bool false) rfl (pu (.bool false) rfl (seq_nil (wp_ret ?_))))))
  exact ⟨.bool false,Ret.r1 rfl rfl,⟨by first | (simp_all [isDayB]; done) | (simp_all [isDayB]; omega) | (simp [isDayB] at *; omega) | (refine congrArg Value.bool (Bool.eq_iff_iff.2 ?_); simp [isDayB] at *; omega),hI.below⟩⟩


theorem isHour_c (n:Int) (w0:World):Does Tryz.prog 82 [.int .i64 n] w0 fun v w=>v=(.bool (isHourB n))∧Below w0.heap.size w0 w:=by
 refine calls_of (n:=9) Tryz.func82 rfl Tryz.ntmps82 rfl ?_
 have hI:=Inv.start w0
 refine wp_seq (rgn rfl (pu (.bool false) rfl (seq_nil (wp_seq (rgn rfl (pu (iv n) rfl (seq_c (s_geq rfl rfl ?_ ?_))))))))
 ·intro h1
  refine pu (.bool true) rfl (puo (iv n) ⟨rfl,rfl⟩ (seq_on rfl (s_leq rfl rfl ?_ ?_)))
  ·intro h2
   refine pu (.bool true) rfl (pu (.bool true) rfl (seq_nil (wp_ret ?_)))
   exact ⟨.bool true,Ret.r1 rfl rfl,⟨by first | (simp_all [isHourB]; done) | (simp_all [isHourB]; omega) | (simp [isHourB] at *; omega) | (refine congrArg Value.bool (Bool.eq_iff_iff.2 ?_); simp [isHourB] at *; omega),hI.below⟩⟩
  ·intro h3
   refine pu (.bool false) rfl (pu (.bool false) rfl (seq_nil (wp_ret ?_)))
   exact ⟨.bool false,Ret.r1 rfl rfl,⟨by first | (simp_all [isHourB]; done) | (simp_all [isHourB]; omega) | (simp [isHourB] at *; omega) | (refine congrArg Value.bool (Bool.eq_iff_iff.2 ?_); simp [isHourB] at *; omega),hI.below⟩⟩
 ·intro h4
  refine pu (.bool false) rfl (of_ rfl (of_ rfl (pu (.bool false) rfl (pu (.bool false) rfl (seq_nil (wp_ret ?_))))))
  exact ⟨.bool false,Ret.r1 rfl rfl,⟨by first | (simp_all [isHourB]; done) | (simp_all [isHourB]; omega) | (simp [isHourB] at *; omega) | (refine congrArg Value.bool (Bool.eq_iff_iff.2 ?_); simp [isHourB] at *; omega),hI.below⟩⟩


theorem areSheaves_c (lo:Int) (hi:Int) (w0:World):Does Tryz.prog 72 [.agg #[.int .i64 lo,.int .i64 hi]] w0 fun v w=>v=(.bool (areSheavesB lo hi))∧Below w0.heap.size w0 w:=by
 refine calls_of (n:=18) Tryz.func72 rfl Tryz.ntmps72 rfl ?_
 have hI:=Inv.start w0
 refine wp_seq (rgn rfl (seq_c (s_boxI hI [iv lo,iv hi] rfl ?_)))
 intro b1 w hI
 refine pu (.bool false) rfl (seq_nil (wp_seq (rgn rfl (pu (.pointer (some ⟨b1,0,none⟩)) rfl (seq_c (s_load1 hI 0 (iv lo) Tryz.isAgg3 rfl rfl rfl ?_))))))
 refine seq_c (s_geq rfl rfl ?_ ?_)
 ·intro h1
  refine pu (.bool true) rfl (puo (.pointer (some ⟨b1,0,none⟩)) ⟨rfl,rfl⟩ (seq_on rfl (s_load1 hI 0 (iv lo) Tryz.isAgg3 rfl rfl rfl ?_)))
  refine puo (.pointer (some ⟨b1,1,none⟩)) ⟨rfl,rfl⟩ (seq_on rfl (s_load1 hI 0 (iv hi) Tryz.isAgg3 rfl rfl rfl ?_))
  refine seq_on rfl (s_leq rfl rfl ?_ ?_)
  ·intro h2
   refine pu (.bool true) rfl (pu (.bool true) rfl (puo (.pointer (some ⟨b1,1,none⟩)) ⟨rfl,rfl⟩ (seq_on rfl (s_load1 hI 0 (iv hi) Tryz.isAgg3 rfl rfl rfl ?_))))
   refine seq_on rfl (s_leq rfl rfl ?_ ?_)
   ·intro h3
    refine pu (.bool true) rfl (pu (.bool true) rfl (seq_nil (wp_ret ?_)))
    exact ⟨.bool true,Ret.r1 rfl rfl,⟨by first | (simp_all [areSheavesB]; done) | (simp_all [areSheavesB]; omega) | (simp [areSheavesB] at *; omega) | (refine congrArg Value.bool (Bool.eq_iff_iff.2 ?_); simp [areSheavesB] at *; omega),hI.below⟩⟩
   ·intro h4
    refine pu (.bool false) rfl (pu (.bool false) rfl (seq_nil (wp_ret ?_)))
    exact ⟨.bool false,Ret.r1 rfl rfl,⟨by first | (simp_all [areSheavesB]; done) | (simp_all [areSheavesB]; omega) | (simp [areSheavesB] at *; omega) | (refine congrArg Value.bool (Bool.eq_iff_iff.2 ?_); simp [areSheavesB] at *; omega),hI.below⟩⟩
  ·intro h5
   refine pu (.bool false) rfl (pu (.bool false) rfl (of_ rfl (of_ rfl (of_ rfl (pu (.bool false) rfl (pu (.bool false) rfl (seq_nil (wp_ret ?_))))))))
   exact ⟨.bool false,Ret.r1 rfl rfl,⟨by first | (simp_all [areSheavesB]; done) | (simp_all [areSheavesB]; omega) | (simp [areSheavesB] at *; omega) | (refine congrArg Value.bool (Bool.eq_iff_iff.2 ?_); simp [areSheavesB] at *; omega),hI.below⟩⟩
 ·intro h6
  refine pu (.bool false) rfl (of_ rfl (of_ rfl (of_ rfl (of_ rfl (of_ rfl (pu (.bool false) rfl (pu (.bool false) rfl (of_ rfl (of_ rfl ?_)))))))))
  refine of_ rfl (pu (.bool false) rfl (pu (.bool false) rfl (seq_nil (wp_ret ?_))))
  exact ⟨.bool false,Ret.r1 rfl rfl,⟨by first | (simp_all [areSheavesB]; done) | (simp_all [areSheavesB]; omega) | (simp [areSheavesB] at *; omega) | (refine congrArg Value.bool (Bool.eq_iff_iff.2 ?_); simp [areSheavesB] at *; omega),hI.below⟩⟩


theorem valid_c (s:Int) (k:Int) (u:Int) (w0:World):Does Tryz.prog 81 [.agg #[.int .i64 s,.int .i64 k,.int .i64 u]] w0 fun v w=>v=(.bool (validB s k u))∧Below w0.heap.size w0 w:=by
 refine calls_of (n:=35) Tryz.func81 rfl Tryz.ntmps81 rfl ?_
 have hI:=Inv.start w0
 refine wp_seq (rgn rfl (seq_c (s_boxI hI [iv s,iv k,iv u] rfl ?_)))
 intro b1 w hI
 refine pu (.bool false) rfl (seq_nil (wp_seq (rgn rfl (pu (.pointer (some ⟨b1,2,none⟩)) rfl (seq_c (s_load1 hI 0 (iv u) Tryz.isAgg3 rfl rfl rfl ?_))))))
 refine seq_c (s_eql rfl rfl ?_ ?_)
 ·intro h1
  refine pu (.bool true) rfl (of_ rfl (of_ rfl (of_ rfl (of_ rfl (of_ rfl (of_ rfl (seq_offN rfl ?_)))))))
  refine seq_offN rfl ?_
  refine seq_offN rfl ?_
  refine of_ rfl (pu (.bool true) rfl (pu (.bool true) rfl (seq_nil (wp_seq (rgn rfl (pu (.pointer (some ⟨b1,0,none⟩)) rfl (seq_c (s_load1 hI 0 (iv s) Tryz.isAgg3 rfl rfl rfl ?_))))))))
  refine seq_c (s_geq rfl rfl ?_ ?_)
  ·intro h2
   refine pu (.bool true) rfl (puo (.pointer (some ⟨b1,0,none⟩)) ⟨rfl,rfl⟩ (seq_on rfl (s_load1 hI 0 (iv s) Tryz.isAgg3 rfl rfl rfl ?_)))
   refine seq_on rfl (s_leq rfl rfl ?_ ?_)
   ·intro h3
    refine pu (.bool true) rfl (pu (.bool true) rfl (puo (.pointer (some ⟨b1,1,none⟩)) ⟨rfl,rfl⟩ (seq_on rfl (s_load1 hI 0 (iv k) Tryz.isAgg3 rfl rfl rfl ?_))))
    refine seq_on rfl (s_callb hI 139 [iv k] (isDayB k) (by kernel_rfl) (isDay_c k _) ?_ ?_)
    ·intro h4 w hI
     refine pu (.bool true) rfl (pu (.bool true) rfl (puo (.bool true) ⟨rfl,rfl⟩ (pu (.bool true) rfl (pu (.bool true) rfl (seq_nil (wp_ret ?_))))))
     exact ⟨.bool true,Ret.r1 rfl rfl,⟨by first | (simp_all [validB,isDayB]; done) | (simp_all [validB,isDayB]; omega) | (simp [validB,isDayB] at *; omega) | (refine congrArg Value.bool (Bool.eq_iff_iff.2 ?_); simp [validB,isDayB] at *; omega),hI.below⟩⟩
    ·intro h5 w hI
     refine pu (.bool false) rfl (pu (.bool false) rfl (of_ rfl (pu (.bool false) rfl (pu (.bool false) rfl (seq_nil (wp_ret ?_))))))
     exact ⟨.bool false,Ret.r1 rfl rfl,⟨by first | (simp_all [validB,isDayB]; done) | (simp_all [validB,isDayB]; omega) | (simp [validB,isDayB] at *; omega) | (refine congrArg Value.bool (Bool.eq_iff_iff.2 ?_); simp [validB,isDayB] at *; omega),hI.below⟩⟩
   ·intro h6
    refine pu (.bool false) rfl (pu (.bool false) rfl (of_ rfl (of_ rfl (of_ rfl (pu (.bool false) rfl (pu (.bool false) rfl (of_ rfl (pu (.bool false) rfl (pu (.bool false) rfl ?_)))))))))
    refine seq_nil (wp_ret ?_)
    exact ⟨.bool false,Ret.r1 rfl rfl,⟨by first | (simp_all [validB,isDayB]; done) | (simp_all [validB,isDayB]; omega) | (simp [validB,isDayB] at *; omega) | (refine congrArg Value.bool (Bool.eq_iff_iff.2 ?_); simp [validB,isDayB] at *; omega),hI.below⟩⟩
  ·intro h7
   refine pu (.bool false) rfl (of_ rfl (of_ rfl (of_ rfl (pu (.bool false) rfl (pu (.bool false) rfl (of_ rfl (of_ rfl (of_ rfl (pu (.bool false) rfl ?_)))))))))
   refine pu (.bool false) rfl (of_ rfl (pu (.bool false) rfl (pu (.bool false) rfl (seq_nil (wp_ret ?_)))))
   exact ⟨.bool false,Ret.r1 rfl rfl,⟨by first | (simp_all [validB,isDayB]; done) | (simp_all [validB,isDayB]; omega) | (simp [validB,isDayB] at *; omega) | (refine congrArg Value.bool (Bool.eq_iff_iff.2 ?_); simp [validB,isDayB] at *; omega),hI.below⟩⟩
 ·intro h8
  refine pu (.bool false) rfl (puo (.pointer (some ⟨b1,2,none⟩)) ⟨rfl,rfl⟩ (seq_on rfl (s_load1 hI 0 (iv u) Tryz.isAgg3 rfl rfl rfl ?_)))
  refine puo (.pointer (some ⟨b1,1,none⟩)) ⟨rfl,rfl⟩ (seq_on rfl (s_load1 hI 0 (iv k) Tryz.isAgg3 rfl rfl rfl ?_))
  refine seq_on rfl (s_gtr rfl rfl ?_ ?_)
  ·intro h9
   refine puo (.bool true) ⟨rfl,rfl⟩ (puo (.pointer (some ⟨b1,2,none⟩)) ⟨rfl,rfl⟩ (seq_on rfl (s_load1 hI 0 (iv u) Tryz.isAgg3 rfl rfl rfl ?_)))
   refine seq_on rfl (s_callv hI 139 [iv u] (.bool (isDayB u)) (by kernel_rfl) (isDay_c u _) ?_)
   intro w hI
   refine puo (.bool (isDayB u)) ⟨rfl,rfl⟩ (pu (.bool (isDayB u)) rfl (pu (.bool (isDayB u)) rfl (seq_nil (wp_seq (rgn rfl (pu (.pointer (some ⟨b1,0,none⟩)) rfl (seq_c (s_load1 hI 0 (iv s) Tryz.isAgg3 rfl rfl rfl ?_))))))))
   refine seq_c (s_geq rfl rfl ?_ ?_)
   ·intro h10
    refine pu (.bool true) rfl (puo (.pointer (some ⟨b1,0,none⟩)) ⟨rfl,rfl⟩ (seq_on rfl (s_load1 hI 0 (iv s) Tryz.isAgg3 rfl rfl rfl ?_)))
    refine seq_on rfl (s_leq rfl rfl ?_ ?_)
    ·intro h11
     refine pu (.bool true) rfl (pu (.bool true) rfl (puo (.pointer (some ⟨b1,1,none⟩)) ⟨rfl,rfl⟩ (seq_on rfl (s_load1 hI 0 (iv k) Tryz.isAgg3 rfl rfl rfl ?_))))
     refine seq_on rfl (s_callb hI 139 [iv k] (isDayB k) (by kernel_rfl) (isDay_c k _) ?_ ?_)
     ·intro h12 w hI
      refine pu (.bool true) rfl (pu (.bool true) rfl (puo (.bool (isDayB u)) ⟨rfl,rfl⟩ (pu (.bool (isDayB u)) rfl (pu (.bool (isDayB u)) rfl (seq_nil (wp_ret ?_))))))
      exact ⟨.bool (isDayB u),Ret.r1 rfl rfl,⟨by first | (simp_all [validB,isDayB]; done) | (simp_all [validB,isDayB]; omega) | (simp [validB,isDayB] at *; omega) | (refine congrArg Value.bool (Bool.eq_iff_iff.2 ?_); simp [validB,isDayB] at *; omega),hI.below⟩⟩
     ·intro h13 w hI
      refine pu (.bool false) rfl (pu (.bool false) rfl (of_ rfl (pu (.bool false) rfl (pu (.bool false) rfl (seq_nil (wp_ret ?_))))))
      exact ⟨.bool false,Ret.r1 rfl rfl,⟨by first | (simp_all [validB,isDayB]; done) | (simp_all [validB,isDayB]; omega) | (simp [validB,isDayB] at *; omega) | (refine congrArg Value.bool (Bool.eq_iff_iff.2 ?_); simp [validB,isDayB] at *; omega),hI.below⟩⟩
    ·intro h14
     refine pu (.bool false) rfl (pu (.bool false) rfl (of_ rfl (of_ rfl (of_ rfl (pu (.bool false) rfl (pu (.bool false) rfl (of_ rfl (pu (.bool false) rfl (pu (.bool false) rfl ?_)))))))))
     refine seq_nil (wp_ret ?_)
     exact ⟨.bool false,Ret.r1 rfl rfl,⟨by first | (simp_all [validB,isDayB]; done) | (simp_all [validB,isDayB]; omega) | (simp [validB,isDayB] at *; omega) | (refine congrArg Value.bool (Bool.eq_iff_iff.2 ?_); simp [validB,isDayB] at *; omega),hI.below⟩⟩
   ·intro h15
    refine pu (.bool false) rfl (of_ rfl (of_ rfl (of_ rfl (pu (.bool false) rfl (pu (.bool false) rfl (of_ rfl (of_ rfl (of_ rfl (pu (.bool false) rfl ?_)))))))))
    refine pu (.bool false) rfl (of_ rfl (pu (.bool false) rfl (pu (.bool false) rfl (seq_nil (wp_ret ?_)))))
    exact ⟨.bool false,Ret.r1 rfl rfl,⟨by first | (simp_all [validB,isDayB]; done) | (simp_all [validB,isDayB]; omega) | (simp [validB,isDayB] at *; omega) | (refine congrArg Value.bool (Bool.eq_iff_iff.2 ?_); simp [validB,isDayB] at *; omega),hI.below⟩⟩
  ·intro h16
   refine puo (.bool false) ⟨rfl,rfl⟩ (of_ rfl (of_ rfl (of_ rfl (puo (.bool false) ⟨rfl,rfl⟩ (pu (.bool false) rfl (pu (.bool false) rfl (seq_nil (wp_seq (rgn rfl ?_)))))))))
   refine pu (.pointer (some ⟨b1,0,none⟩)) rfl (seq_c (s_load1 hI 0 (iv s) Tryz.isAgg3 rfl rfl rfl ?_))
   refine seq_c (s_geq rfl rfl ?_ ?_)
   ·intro h17
    refine pu (.bool true) rfl (puo (.pointer (some ⟨b1,0,none⟩)) ⟨rfl,rfl⟩ (seq_on rfl (s_load1 hI 0 (iv s) Tryz.isAgg3 rfl rfl rfl ?_)))
    refine seq_on rfl (s_leq rfl rfl ?_ ?_)
    ·intro h18
     refine pu (.bool true) rfl (pu (.bool true) rfl (puo (.pointer (some ⟨b1,1,none⟩)) ⟨rfl,rfl⟩ (seq_on rfl (s_load1 hI 0 (iv k) Tryz.isAgg3 rfl rfl rfl ?_))))
     refine seq_on rfl (s_callb hI 139 [iv k] (isDayB k) (by kernel_rfl) (isDay_c k _) ?_ ?_)
     ·intro h19 w hI
      refine pu (.bool true) rfl (pu (.bool true) rfl (puo (.bool false) ⟨rfl,rfl⟩ (pu (.bool false) rfl (pu (.bool false) rfl (seq_nil (wp_ret ?_))))))
      exact ⟨.bool false,Ret.r1 rfl rfl,⟨by first | (simp_all [validB,isDayB]; done) | (simp_all [validB,isDayB]; omega) | (simp [validB,isDayB] at *; omega) | (refine congrArg Value.bool (Bool.eq_iff_iff.2 ?_); simp [validB,isDayB] at *; omega),hI.below⟩⟩
     ·intro h20 w hI
      refine pu (.bool false) rfl (pu (.bool false) rfl (of_ rfl (pu (.bool false) rfl (pu (.bool false) rfl (seq_nil (wp_ret ?_))))))
      exact ⟨.bool false,Ret.r1 rfl rfl,⟨by first | (simp_all [validB,isDayB]; done) | (simp_all [validB,isDayB]; omega) | (simp [validB,isDayB] at *; omega) | (refine congrArg Value.bool (Bool.eq_iff_iff.2 ?_); simp [validB,isDayB] at *; omega),hI.below⟩⟩
    ·intro h21
     refine pu (.bool false) rfl (pu (.bool false) rfl (of_ rfl (of_ rfl (of_ rfl (pu (.bool false) rfl (pu (.bool false) rfl (of_ rfl (pu (.bool false) rfl (pu (.bool false) rfl ?_)))))))))
     refine seq_nil (wp_ret ?_)
     exact ⟨.bool false,Ret.r1 rfl rfl,⟨by first | (simp_all [validB,isDayB]; done) | (simp_all [validB,isDayB]; omega) | (simp [validB,isDayB] at *; omega) | (refine congrArg Value.bool (Bool.eq_iff_iff.2 ?_); simp [validB,isDayB] at *; omega),hI.below⟩⟩
   ·intro h22
    refine pu (.bool false) rfl (of_ rfl (of_ rfl (of_ rfl (pu (.bool false) rfl (pu (.bool false) rfl (of_ rfl (of_ rfl (of_ rfl (pu (.bool false) rfl ?_)))))))))
    refine pu (.bool false) rfl (of_ rfl (pu (.bool false) rfl (pu (.bool false) rfl (seq_nil (wp_ret ?_)))))
    exact ⟨.bool false,Ret.r1 rfl rfl,⟨by first | (simp_all [validB,isDayB]; done) | (simp_all [validB,isDayB]; omega) | (simp [validB,isDayB] at *; omega) | (refine congrArg Value.bool (Bool.eq_iff_iff.2 ?_); simp [validB,isDayB] at *; omega),hI.below⟩⟩


theorem noteOfLoad_c (src:Int) (hr:Int) (lo:Int) (hi:Int) (kn:Int) (un:Int) (w0:World):Does Tryz.prog 74 [.agg #[.int .i64 src,.int .i64 hr,.int .i64 lo,.int .i64 hi,.int .i64 kn,.int .i64 un]] w0 fun v w=>v=(.agg #[.int .i64 src,.int .i64 kn,.int .i64 un])∧Below w0.heap.size w0 w:=by
 refine calls_of (n:=10) Tryz.func74 rfl Tryz.ntmps74 rfl ?_
 have hI:=Inv.start w0
 refine wp_seq (rgn rfl (seq_c (s_boxI hI [iv src,iv hr,iv lo,iv hi,iv kn,iv un] rfl ?_)))
 intro b1 w hI
 refine seq_c (s_allocI hI [iv 0,iv 0,iv 0] Tryz.zeroValue95 rfl ?_)
 intro b2 w hI
 refine seq_nil (wp_seq (rgn rfl (pu (.pointer (some ⟨b1,0,none⟩)) rfl (seq_c (s_load1 hI 1 (iv src) Tryz.isAgg3 rfl rfl rfl ?_)))))
 refine pu (.pointer (some ⟨b1,4,none⟩)) rfl (seq_c (s_load1 hI 1 (iv kn) Tryz.isAgg3 rfl rfl rfl ?_))
 refine pu (.pointer (some ⟨b1,5,none⟩)) rfl (seq_c (s_load1 hI 1 (iv un) Tryz.isAgg3 rfl rfl rfl ?_))
 refine pu (.agg #[iv src,iv kn,iv un]) (by kernel_rfl) (seq_c (s_store hI 0 3 [iv src,iv kn,iv un] Tryz.sizeOf95 rfl rfl rfl rfl rfl (Nat.le_of_ble_eq_true rfl) ?_))
 intro w hI
 refine seq_nil (wp_ret ?_)
 exact ⟨.agg #[iv src,iv kn,iv un],Ret.c rfl rfl (run_loadK hI 0 3 [iv src,iv kn,iv un] Tryz.isAgg95 Tryz.sizeOf95 rfl rfl rfl),⟨rfl,hI.below⟩⟩


theorem noteOfStand_c (src:Int) (hr:Int) (lo:Int) (hi:Int) (kn:Int) (un:Int) (w0:World):Does Tryz.prog 76 [.agg #[.int .i64 src,.int .i64 hr,.int .i64 lo,.int .i64 hi,.int .i64 kn,.int .i64 un]] w0 fun v w=>v=(.agg #[.int .i64 src,.int .i64 kn,.int .i64 un])∧Below w0.heap.size w0 w:=by
 refine calls_of (n:=10) Tryz.func76 rfl Tryz.ntmps76 rfl ?_
 have hI:=Inv.start w0
 refine wp_seq (rgn rfl (seq_c (s_boxI hI [iv src,iv hr,iv lo,iv hi,iv kn,iv un] rfl ?_)))
 intro b1 w hI
 refine seq_c (s_allocI hI [iv 0,iv 0,iv 0] Tryz.zeroValue95 rfl ?_)
 intro b2 w hI
 refine seq_nil (wp_seq (rgn rfl (pu (.pointer (some ⟨b1,0,none⟩)) rfl (seq_c (s_load1 hI 1 (iv src) Tryz.isAgg3 rfl rfl rfl ?_)))))
 refine pu (.pointer (some ⟨b1,4,none⟩)) rfl (seq_c (s_load1 hI 1 (iv kn) Tryz.isAgg3 rfl rfl rfl ?_))
 refine pu (.pointer (some ⟨b1,5,none⟩)) rfl (seq_c (s_load1 hI 1 (iv un) Tryz.isAgg3 rfl rfl rfl ?_))
 refine pu (.agg #[iv src,iv kn,iv un]) (by kernel_rfl) (seq_c (s_store hI 0 3 [iv src,iv kn,iv un] Tryz.sizeOf95 rfl rfl rfl rfl rfl (Nat.le_of_ble_eq_true rfl) ?_))
 intro w hI
 refine seq_nil (wp_ret ?_)
 exact ⟨.agg #[iv src,iv kn,iv un],Ret.c rfl rfl (run_loadK hI 0 3 [iv src,iv kn,iv un] Tryz.isAgg95 Tryz.sizeOf95 rfl rfl rfl),⟨rfl,hI.below⟩⟩


theorem noteOfSpell_c (src:Int) (kd:Int) (fr:Int) (to:Int) (kn:Int) (un:Int) (w0:World):Does Tryz.prog 78 [.agg #[.int .i64 src,.int .i64 kd,.int .i64 fr,.int .i64 to,.int .i64 kn,.int .i64 un]] w0 fun v w=>v=(.agg #[.int .i64 src,.int .i64 kn,.int .i64 un])∧Below w0.heap.size w0 w:=by
 refine calls_of (n:=10) Tryz.func78 rfl Tryz.ntmps78 rfl ?_
 have hI:=Inv.start w0
 refine wp_seq (rgn rfl (seq_c (s_boxI hI [iv src,iv kd,iv fr,iv to,iv kn,iv un] rfl ?_)))
 intro b1 w hI
 refine seq_c (s_allocI hI [iv 0,iv 0,iv 0] Tryz.zeroValue95 rfl ?_)
 intro b2 w hI
 refine seq_nil (wp_seq (rgn rfl (pu (.pointer (some ⟨b1,0,none⟩)) rfl (seq_c (s_load1 hI 1 (iv src) Tryz.isAgg3 rfl rfl rfl ?_)))))
 refine pu (.pointer (some ⟨b1,4,none⟩)) rfl (seq_c (s_load1 hI 1 (iv kn) Tryz.isAgg3 rfl rfl rfl ?_))
 refine pu (.pointer (some ⟨b1,5,none⟩)) rfl (seq_c (s_load1 hI 1 (iv un) Tryz.isAgg3 rfl rfl rfl ?_))
 refine pu (.agg #[iv src,iv kn,iv un]) (by kernel_rfl) (seq_c (s_store hI 0 3 [iv src,iv kn,iv un] Tryz.sizeOf95 rfl rfl rfl rfl rfl (Nat.le_of_ble_eq_true rfl) ?_))
 intro w hI
 refine seq_nil (wp_ret ?_)
 exact ⟨.agg #[iv src,iv kn,iv un],Ret.c rfl rfl (run_loadK hI 0 3 [iv src,iv kn,iv un] Tryz.isAgg95 Tryz.sizeOf95 rfl rfl rfl),⟨rfl,hI.below⟩⟩


theorem CheckLoad_c (src:Int) (hr:Int) (lo:Int) (hi:Int) (kn:Int) (un:Int) (w0:World):Does Tryz.prog 24 [.agg #[.int .i64 src,.int .i64 hr,.int .i64 lo,.int .i64 hi,.int .i64 kn,.int .i64 un]] w0 fun v w=>v=(.int .i64 (codeI (loadB src hr lo hi kn un) 10))∧Below w0.heap.size w0 w:=by
 refine calls_of (n:=16) Tryz.func24 rfl Tryz.ntmps24 rfl ?_
 have hI:=Inv.start w0
 refine wp_seq (rgn rfl (seq_c (s_boxI hI [iv src,iv hr,iv lo,iv hi,iv kn,iv un] rfl ?_)))
 intro b1 w hI
 refine pu (iv 0) rfl (seq_nil (wp_seq (wp_seq (rgn rfl (seq_c (s_loadK hI 0 6 [iv src,iv hr,iv lo,iv hi,iv kn,iv un] Tryz.isAgg30 Tryz.sizeOf30 rfl rfl rfl rfl ?_))))))
 refine seq_c (s_callv hI 74 [.agg #[iv src,iv hr,iv lo,iv hi,iv kn,iv un]] (.agg #[iv src,iv kn,iv un]) (by kernel_rfl) (noteOfLoad_c src hr lo hi kn un _) ?_)
 intro w hI
 refine seq_c (s_callb hI 81 [.agg #[iv src,iv kn,iv un]] (validB src kn un) (by kernel_rfl) (valid_c src kn un _) ?_ ?_)
 ·intro h1 w hI
  refine pu (.bool true) rfl (puo (.pointer (some ⟨b1,1,none⟩)) ⟨rfl,rfl⟩ (seq_on rfl (s_load1 hI 0 (iv hr) Tryz.isAgg3 rfl rfl rfl ?_)))
  refine seq_on rfl (s_callb hI 82 [iv hr] (isHourB hr) (by kernel_rfl) (isHour_c hr _) ?_ ?_)
  ·intro h2 w hI
   refine pu (.bool true) rfl (pu (.bool true) rfl (puo (.pointer (some ⟨b1,2,none⟩)) ⟨rfl,rfl⟩ (seq_on rfl (s_loadK hI 0 2 [iv lo,iv hi] Tryz.isAgg23 Tryz.sizeOf23 rfl rfl rfl rfl ?_))))
   refine seq_on rfl (s_callb hI 72 [.agg #[iv lo,iv hi]] (areSheavesB lo hi) (by kernel_rfl) (areSheaves_c lo hi _) ?_ ?_)
   ·intro h3 w hI
    refine pu (.bool true) rfl (seq_nil (wp_condT rfl (wp_seq (rgn rfl (pu (iv 0) rfl (seq_nil (wp_ret ?_)))))))
    exact ⟨iv 0,Ret.r1 rfl rfl,⟨by first | (simp_all [codeI,loadB]; done) | (simp_all [codeI,loadB]; omega) | (simp [codeI,loadB] at *; omega) | (refine congrArg Value.bool (Bool.eq_iff_iff.2 ?_); simp [codeI,loadB] at *; omega),hI.below⟩⟩
   ·intro h4 w hI
    refine pu (.bool false) rfl (seq_nil (wp_condF rfl (wp_skip (wp_seq (rgn rfl (pu (iv 10) rfl (seq_nil (wp_ret ?_))))))))
    exact ⟨iv 10,Ret.r1 rfl rfl,⟨by first | (simp_all [codeI,loadB]; done) | (simp_all [codeI,loadB]; omega) | (simp [codeI,loadB] at *; omega) | (refine congrArg Value.bool (Bool.eq_iff_iff.2 ?_); simp [codeI,loadB] at *; omega),hI.below⟩⟩
  ·intro h5 w hI
   refine pu (.bool false) rfl (pu (.bool false) rfl (of_ rfl (of_ rfl (of_ rfl (pu (.bool false) rfl (seq_nil (wp_condF rfl (wp_skip (wp_seq ?_)))))))))
   refine rgn rfl (pu (iv 10) rfl (seq_nil (wp_ret ?_)))
   exact ⟨iv 10,Ret.r1 rfl rfl,⟨by first | (simp_all [codeI,loadB]; done) | (simp_all [codeI,loadB]; omega) | (simp [codeI,loadB] at *; omega) | (refine congrArg Value.bool (Bool.eq_iff_iff.2 ?_); simp [codeI,loadB] at *; omega),hI.below⟩⟩
 ·intro h6 w hI
  refine pu (.bool false) rfl (of_ rfl (of_ rfl (of_ rfl (pu (.bool false) rfl (pu (.bool false) rfl (of_ rfl (of_ rfl (of_ rfl (pu (.bool false) rfl ?_)))))))))
  refine seq_nil (wp_condF rfl (wp_skip (wp_seq (rgn rfl (pu (iv 10) rfl (seq_nil (wp_ret ?_)))))))
  exact ⟨iv 10,Ret.r1 rfl rfl,⟨by first | (simp_all [codeI,loadB]; done) | (simp_all [codeI,loadB]; omega) | (simp [codeI,loadB] at *; omega) | (refine congrArg Value.bool (Bool.eq_iff_iff.2 ?_); simp [codeI,loadB] at *; omega),hI.below⟩⟩


theorem CheckStand_c (src:Int) (hr:Int) (lo:Int) (hi:Int) (kn:Int) (un:Int) (w0:World):Does Tryz.prog 26 [.agg #[.int .i64 src,.int .i64 hr,.int .i64 lo,.int .i64 hi,.int .i64 kn,.int .i64 un]] w0 fun v w=>v=(.int .i64 (codeI (loadB src hr lo hi kn un) 11))∧Below w0.heap.size w0 w:=by
 refine calls_of (n:=16) Tryz.func26 rfl Tryz.ntmps26 rfl ?_
 have hI:=Inv.start w0
 refine wp_seq (rgn rfl (seq_c (s_boxI hI [iv src,iv hr,iv lo,iv hi,iv kn,iv un] rfl ?_)))
 intro b1 w hI
 refine pu (iv 0) rfl (seq_nil (wp_seq (wp_seq (rgn rfl (seq_c (s_loadK hI 0 6 [iv src,iv hr,iv lo,iv hi,iv kn,iv un] Tryz.isAgg31 Tryz.sizeOf31 rfl rfl rfl rfl ?_))))))
 refine seq_c (s_callv hI 76 [.agg #[iv src,iv hr,iv lo,iv hi,iv kn,iv un]] (.agg #[iv src,iv kn,iv un]) (by kernel_rfl) (noteOfStand_c src hr lo hi kn un _) ?_)
 intro w hI
 refine seq_c (s_callb hI 81 [.agg #[iv src,iv kn,iv un]] (validB src kn un) (by kernel_rfl) (valid_c src kn un _) ?_ ?_)
 ·intro h1 w hI
  refine pu (.bool true) rfl (puo (.pointer (some ⟨b1,1,none⟩)) ⟨rfl,rfl⟩ (seq_on rfl (s_load1 hI 0 (iv hr) Tryz.isAgg3 rfl rfl rfl ?_)))
  refine seq_on rfl (s_callb hI 82 [iv hr] (isHourB hr) (by kernel_rfl) (isHour_c hr _) ?_ ?_)
  ·intro h2 w hI
   refine pu (.bool true) rfl (pu (.bool true) rfl (puo (.pointer (some ⟨b1,2,none⟩)) ⟨rfl,rfl⟩ (seq_on rfl (s_loadK hI 0 2 [iv lo,iv hi] Tryz.isAgg23 Tryz.sizeOf23 rfl rfl rfl rfl ?_))))
   refine seq_on rfl (s_callb hI 72 [.agg #[iv lo,iv hi]] (areSheavesB lo hi) (by kernel_rfl) (areSheaves_c lo hi _) ?_ ?_)
   ·intro h3 w hI
    refine pu (.bool true) rfl (seq_nil (wp_condT rfl (wp_seq (rgn rfl (pu (iv 0) rfl (seq_nil (wp_ret ?_)))))))
    exact ⟨iv 0,Ret.r1 rfl rfl,⟨by first | (simp_all [codeI,loadB]; done) | (simp_all [codeI,loadB]; omega) | (simp [codeI,loadB] at *; omega) | (refine congrArg Value.bool (Bool.eq_iff_iff.2 ?_); simp [codeI,loadB] at *; omega),hI.below⟩⟩
   ·intro h4 w hI
    refine pu (.bool false) rfl (seq_nil (wp_condF rfl (wp_skip (wp_seq (rgn rfl (pu (iv 11) rfl (seq_nil (wp_ret ?_))))))))
    exact ⟨iv 11,Ret.r1 rfl rfl,⟨by first | (simp_all [codeI,loadB]; done) | (simp_all [codeI,loadB]; omega) | (simp [codeI,loadB] at *; omega) | (refine congrArg Value.bool (Bool.eq_iff_iff.2 ?_); simp [codeI,loadB] at *; omega),hI.below⟩⟩
  ·intro h5 w hI
   refine pu (.bool false) rfl (pu (.bool false) rfl (of_ rfl (of_ rfl (of_ rfl (pu (.bool false) rfl (seq_nil (wp_condF rfl (wp_skip (wp_seq ?_)))))))))
   refine rgn rfl (pu (iv 11) rfl (seq_nil (wp_ret ?_)))
   exact ⟨iv 11,Ret.r1 rfl rfl,⟨by first | (simp_all [codeI,loadB]; done) | (simp_all [codeI,loadB]; omega) | (simp [codeI,loadB] at *; omega) | (refine congrArg Value.bool (Bool.eq_iff_iff.2 ?_); simp [codeI,loadB] at *; omega),hI.below⟩⟩
 ·intro h6 w hI
  refine pu (.bool false) rfl (of_ rfl (of_ rfl (of_ rfl (pu (.bool false) rfl (pu (.bool false) rfl (of_ rfl (of_ rfl (of_ rfl (pu (.bool false) rfl ?_)))))))))
  refine seq_nil (wp_condF rfl (wp_skip (wp_seq (rgn rfl (pu (iv 11) rfl (seq_nil (wp_ret ?_)))))))
  exact ⟨iv 11,Ret.r1 rfl rfl,⟨by first | (simp_all [codeI,loadB]; done) | (simp_all [codeI,loadB]; omega) | (simp [codeI,loadB] at *; omega) | (refine congrArg Value.bool (Bool.eq_iff_iff.2 ?_); simp [codeI,loadB] at *; omega),hI.below⟩⟩


theorem CheckSpell_c (src:Int) (kd:Int) (fr:Int) (to:Int) (kn:Int) (un:Int) (w0:World):Does Tryz.prog 28 [.agg #[.int .i64 src,.int .i64 kd,.int .i64 fr,.int .i64 to,.int .i64 kn,.int .i64 un]] w0 fun v w=>v=(.int .i64 (codeI (spellB src kd fr to kn un) 12))∧Below w0.heap.size w0 w:=by
 refine calls_of (n:=35) Tryz.func28 rfl Tryz.ntmps28 rfl ?_
 have hI:=Inv.start w0
 refine wp_seq (rgn rfl (seq_c (s_boxI hI [iv src,iv kd,iv fr,iv to,iv kn,iv un] rfl ?_)))
 intro b1 w hI
 refine pu (iv 0) rfl (seq_nil (wp_seq (rgn rfl (pu (.pointer (some ⟨b1,1,none⟩)) rfl (seq_c (s_load1 hI 0 (iv kd) Tryz.isAgg3 rfl rfl rfl ?_))))))
 refine seq_c (s_eql rfl rfl ?_ ?_)
 ·intro h1
  refine pu (.bool true) rfl (of_ rfl (of_ rfl (of_ rfl (pu (.bool true) rfl (pu (.bool true) rfl (seq_nil (wp_seq (wp_seq (rgn rfl ?_)))))))))
  refine seq_c (s_loadK hI 0 6 [iv src,iv kd,iv fr,iv to,iv kn,iv un] Tryz.isAgg33 Tryz.sizeOf33 rfl rfl rfl rfl ?_)
  refine seq_c (s_callv hI 78 [.agg #[iv src,iv kd,iv fr,iv to,iv kn,iv un]] (.agg #[iv src,iv kn,iv un]) (by kernel_rfl) (noteOfSpell_c src kd fr to kn un _) ?_)
  intro w hI
  refine seq_c (s_callb hI 81 [.agg #[iv src,iv kn,iv un]] (validB src kn un) (by kernel_rfl) (valid_c src kn un _) ?_ ?_)
  ·intro h2 w hI
   refine pu (.bool true) rfl (puo (.bool true) ⟨rfl,rfl⟩ (pu (.bool true) rfl (pu (.bool true) rfl (puo (.pointer (some ⟨b1,2,none⟩)) ⟨rfl,rfl⟩ (seq_on rfl (s_load1 hI 0 (iv fr) Tryz.isAgg3 rfl rfl rfl ?_))))))
   refine seq_on rfl (s_callb hI 82 [iv fr] (isHourB fr) (by kernel_rfl) (isHour_c fr _) ?_ ?_)
   ·intro h3 w hI
    refine pu (.bool true) rfl (pu (.bool true) rfl (puo (.pointer (some ⟨b1,3,none⟩)) ⟨rfl,rfl⟩ (seq_on rfl (s_load1 hI 0 (iv to) Tryz.isAgg3 rfl rfl rfl ?_))))
    refine seq_on rfl (s_callb hI 82 [iv to] (isHourB to) (by kernel_rfl) (isHour_c to _) ?_ ?_)
    ·intro h4 w hI
     refine pu (.bool true) rfl (pu (.bool true) rfl (puo (.pointer (some ⟨b1,2,none⟩)) ⟨rfl,rfl⟩ (seq_on rfl (s_load1 hI 0 (iv fr) Tryz.isAgg3 rfl rfl rfl ?_))))
     refine puo (.pointer (some ⟨b1,3,none⟩)) ⟨rfl,rfl⟩ (seq_on rfl (s_load1 hI 0 (iv to) Tryz.isAgg3 rfl rfl rfl ?_))
     refine seq_on rfl (s_leq rfl rfl ?_ ?_)
     ·intro h5
      refine pu (.bool true) rfl (seq_nil (wp_condT rfl (wp_seq (rgn rfl (pu (iv 0) rfl (seq_nil (wp_ret ?_)))))))
      exact ⟨iv 0,Ret.r1 rfl rfl,⟨by first | (simp_all [codeI,spellB]; done) | (simp_all [codeI,spellB]; omega) | (simp [codeI,spellB] at *; omega) | (refine congrArg Value.bool (Bool.eq_iff_iff.2 ?_); simp [codeI,spellB] at *; omega),hI.below⟩⟩
     ·intro h6
      refine pu (.bool false) rfl (seq_nil (wp_condF rfl (wp_skip (wp_seq (rgn rfl (pu (iv 12) rfl (seq_nil (wp_ret ?_))))))))
      exact ⟨iv 12,Ret.r1 rfl rfl,⟨by first | (simp_all [codeI,spellB]; done) | (simp_all [codeI,spellB]; omega) | (simp [codeI,spellB] at *; omega) | (refine congrArg Value.bool (Bool.eq_iff_iff.2 ?_); simp [codeI,spellB] at *; omega),hI.below⟩⟩
    ·intro h7 w hI
     refine pu (.bool false) rfl (pu (.bool false) rfl (of_ rfl (of_ rfl (of_ rfl (of_ rfl (of_ rfl (pu (.bool false) rfl (seq_nil (wp_condF rfl ?_)))))))))
     refine wp_skip (wp_seq (rgn rfl (pu (iv 12) rfl (seq_nil (wp_ret ?_)))))
     exact ⟨iv 12,Ret.r1 rfl rfl,⟨by first | (simp_all [codeI,spellB]; done) | (simp_all [codeI,spellB]; omega) | (simp [codeI,spellB] at *; omega) | (refine congrArg Value.bool (Bool.eq_iff_iff.2 ?_); simp [codeI,spellB] at *; omega),hI.below⟩⟩
   ·intro h8 w hI
    refine pu (.bool false) rfl (pu (.bool false) rfl (of_ rfl (of_ rfl (of_ rfl (pu (.bool false) rfl (pu (.bool false) rfl (of_ rfl (of_ rfl (of_ rfl ?_)))))))))
    refine of_ rfl (of_ rfl (pu (.bool false) rfl (seq_nil (wp_condF rfl (wp_skip (wp_seq (rgn rfl (pu (iv 12) rfl (seq_nil ?_)))))))))
    refine wp_ret ?_
    exact ⟨iv 12,Ret.r1 rfl rfl,⟨by first | (simp_all [codeI,spellB]; done) | (simp_all [codeI,spellB]; omega) | (simp [codeI,spellB] at *; omega) | (refine congrArg Value.bool (Bool.eq_iff_iff.2 ?_); simp [codeI,spellB] at *; omega),hI.below⟩⟩
  ·intro h9 w hI
   refine pu (.bool false) rfl (of_ rfl (pu (.bool false) rfl (pu (.bool false) rfl (of_ rfl (of_ rfl (of_ rfl (pu (.bool false) rfl (pu (.bool false) rfl (of_ rfl ?_)))))))))
   refine of_ rfl (of_ rfl (pu (.bool false) rfl (pu (.bool false) rfl (of_ rfl (of_ rfl (of_ rfl (of_ rfl (of_ rfl (pu (.bool false) rfl ?_)))))))))
   refine seq_nil (wp_condF rfl (wp_skip (wp_seq (rgn rfl (pu (iv 12) rfl (seq_nil (wp_ret ?_)))))))
   exact ⟨iv 12,Ret.r1 rfl rfl,⟨by first | (simp_all [codeI,spellB]; done) | (simp_all [codeI,spellB]; omega) | (simp [codeI,spellB] at *; omega) | (refine congrArg Value.bool (Bool.eq_iff_iff.2 ?_); simp [codeI,spellB] at *; omega),hI.below⟩⟩
 ·intro h10
  refine pu (.bool false) rfl (puo (.pointer (some ⟨b1,1,none⟩)) ⟨rfl,rfl⟩ (seq_on rfl (s_load1 hI 0 (iv kd) Tryz.isAgg3 rfl rfl rfl ?_)))
  refine seq_on rfl (s_eql rfl rfl ?_ ?_)
  ·intro h11
   refine pu (.bool true) rfl (pu (.bool true) rfl (seq_nil (wp_seq (wp_seq (rgn rfl (seq_c (s_loadK hI 0 6 [iv src,iv kd,iv fr,iv to,iv kn,iv un] Tryz.isAgg33 Tryz.sizeOf33 rfl rfl rfl rfl ?_)))))))
   refine seq_c (s_callv hI 78 [.agg #[iv src,iv kd,iv fr,iv to,iv kn,iv un]] (.agg #[iv src,iv kn,iv un]) (by kernel_rfl) (noteOfSpell_c src kd fr to kn un _) ?_)
   intro w hI
   refine seq_c (s_callb hI 81 [.agg #[iv src,iv kn,iv un]] (validB src kn un) (by kernel_rfl) (valid_c src kn un _) ?_ ?_)
   ·intro h12 w hI
    refine pu (.bool true) rfl (puo (.bool true) ⟨rfl,rfl⟩ (pu (.bool true) rfl (pu (.bool true) rfl (puo (.pointer (some ⟨b1,2,none⟩)) ⟨rfl,rfl⟩ (seq_on rfl (s_load1 hI 0 (iv fr) Tryz.isAgg3 rfl rfl rfl ?_))))))
    refine seq_on rfl (s_callb hI 82 [iv fr] (isHourB fr) (by kernel_rfl) (isHour_c fr _) ?_ ?_)
    ·intro h13 w hI
     refine pu (.bool true) rfl (pu (.bool true) rfl (puo (.pointer (some ⟨b1,3,none⟩)) ⟨rfl,rfl⟩ (seq_on rfl (s_load1 hI 0 (iv to) Tryz.isAgg3 rfl rfl rfl ?_))))
     refine seq_on rfl (s_callb hI 82 [iv to] (isHourB to) (by kernel_rfl) (isHour_c to _) ?_ ?_)
     ·intro h14 w hI
      refine pu (.bool true) rfl (pu (.bool true) rfl (puo (.pointer (some ⟨b1,2,none⟩)) ⟨rfl,rfl⟩ (seq_on rfl (s_load1 hI 0 (iv fr) Tryz.isAgg3 rfl rfl rfl ?_))))
      refine puo (.pointer (some ⟨b1,3,none⟩)) ⟨rfl,rfl⟩ (seq_on rfl (s_load1 hI 0 (iv to) Tryz.isAgg3 rfl rfl rfl ?_))
      refine seq_on rfl (s_leq rfl rfl ?_ ?_)
      ·intro h15
       refine pu (.bool true) rfl (seq_nil (wp_condT rfl (wp_seq (rgn rfl (pu (iv 0) rfl (seq_nil (wp_ret ?_)))))))
       exact ⟨iv 0,Ret.r1 rfl rfl,⟨by first | (simp_all [codeI,spellB]; done) | (simp_all [codeI,spellB]; omega) | (simp [codeI,spellB] at *; omega) | (refine congrArg Value.bool (Bool.eq_iff_iff.2 ?_); simp [codeI,spellB] at *; omega),hI.below⟩⟩
      ·intro h16
       refine pu (.bool false) rfl (seq_nil (wp_condF rfl (wp_skip (wp_seq (rgn rfl (pu (iv 12) rfl (seq_nil (wp_ret ?_))))))))
       exact ⟨iv 12,Ret.r1 rfl rfl,⟨by first | (simp_all [codeI,spellB]; done) | (simp_all [codeI,spellB]; omega) | (simp [codeI,spellB] at *; omega) | (refine congrArg Value.bool (Bool.eq_iff_iff.2 ?_); simp [codeI,spellB] at *; omega),hI.below⟩⟩
     ·intro h17 w hI
      refine pu (.bool false) rfl (pu (.bool false) rfl (of_ rfl (of_ rfl (of_ rfl (of_ rfl (of_ rfl (pu (.bool false) rfl (seq_nil (wp_condF rfl ?_)))))))))
      refine wp_skip (wp_seq (rgn rfl (pu (iv 12) rfl (seq_nil (wp_ret ?_)))))
      exact ⟨iv 12,Ret.r1 rfl rfl,⟨by first | (simp_all [codeI,spellB]; done) | (simp_all [codeI,spellB]; omega) | (simp [codeI,spellB] at *; omega) | (refine congrArg Value.bool (Bool.eq_iff_iff.2 ?_); simp [codeI,spellB] at *; omega),hI.below⟩⟩
    ·intro h18 w hI
     refine pu (.bool false) rfl (pu (.bool false) rfl (of_ rfl (of_ rfl (of_ rfl (pu (.bool false) rfl (pu (.bool false) rfl (of_ rfl (of_ rfl (of_ rfl ?_)))))))))
     refine of_ rfl (of_ rfl (pu (.bool false) rfl (seq_nil (wp_condF rfl (wp_skip (wp_seq (rgn rfl (pu (iv 12) rfl (seq_nil ?_)))))))))
     refine wp_ret ?_
     exact ⟨iv 12,Ret.r1 rfl rfl,⟨by first | (simp_all [codeI,spellB]; done) | (simp_all [codeI,spellB]; omega) | (simp [codeI,spellB] at *; omega) | (refine congrArg Value.bool (Bool.eq_iff_iff.2 ?_); simp [codeI,spellB] at *; omega),hI.below⟩⟩
   ·intro h19 w hI
    refine pu (.bool false) rfl (of_ rfl (pu (.bool false) rfl (pu (.bool false) rfl (of_ rfl (of_ rfl (of_ rfl (pu (.bool false) rfl (pu (.bool false) rfl (of_ rfl ?_)))))))))
    refine of_ rfl (of_ rfl (pu (.bool false) rfl (pu (.bool false) rfl (of_ rfl (of_ rfl (of_ rfl (of_ rfl (of_ rfl (pu (.bool false) rfl ?_)))))))))
    refine seq_nil (wp_condF rfl (wp_skip (wp_seq (rgn rfl (pu (iv 12) rfl (seq_nil (wp_ret ?_)))))))
    exact ⟨iv 12,Ret.r1 rfl rfl,⟨by first | (simp_all [codeI,spellB]; done) | (simp_all [codeI,spellB]; omega) | (simp [codeI,spellB] at *; omega) | (refine congrArg Value.bool (Bool.eq_iff_iff.2 ?_); simp [codeI,spellB] at *; omega),hI.below⟩⟩
  ·intro h20
   refine pu (.bool false) rfl (pu (.bool false) rfl (seq_nil (wp_seq (wp_seq (rgn rfl (seq_c (s_loadK hI 0 6 [iv src,iv kd,iv fr,iv to,iv kn,iv un] Tryz.isAgg33 Tryz.sizeOf33 rfl rfl rfl rfl ?_)))))))
   refine seq_c (s_callv hI 78 [.agg #[iv src,iv kd,iv fr,iv to,iv kn,iv un]] (.agg #[iv src,iv kn,iv un]) (by kernel_rfl) (noteOfSpell_c src kd fr to kn un _) ?_)
   intro w hI
   refine seq_c (s_callb hI 81 [.agg #[iv src,iv kn,iv un]] (validB src kn un) (by kernel_rfl) (valid_c src kn un _) ?_ ?_)
   ·intro h21 w hI
    refine pu (.bool true) rfl (puo (.bool false) ⟨rfl,rfl⟩ (pu (.bool false) rfl (pu (.bool false) rfl (of_ rfl (of_ rfl (of_ rfl (pu (.bool false) rfl (pu (.bool false) rfl (of_ rfl ?_)))))))))
    refine of_ rfl (of_ rfl (pu (.bool false) rfl (pu (.bool false) rfl (of_ rfl (of_ rfl (of_ rfl (of_ rfl (of_ rfl (pu (.bool false) rfl ?_)))))))))
    refine seq_nil (wp_condF rfl (wp_skip (wp_seq (rgn rfl (pu (iv 12) rfl (seq_nil (wp_ret ?_)))))))
    exact ⟨iv 12,Ret.r1 rfl rfl,⟨by first | (simp_all [codeI,spellB]; done) | (simp_all [codeI,spellB]; omega) | (simp [codeI,spellB] at *; omega) | (refine congrArg Value.bool (Bool.eq_iff_iff.2 ?_); simp [codeI,spellB] at *; omega),hI.below⟩⟩
   ·intro h22 w hI
    refine pu (.bool false) rfl (of_ rfl (pu (.bool false) rfl (pu (.bool false) rfl (of_ rfl (of_ rfl (of_ rfl (pu (.bool false) rfl (pu (.bool false) rfl (of_ rfl ?_)))))))))
    refine of_ rfl (of_ rfl (pu (.bool false) rfl (pu (.bool false) rfl (of_ rfl (of_ rfl (of_ rfl (of_ rfl (of_ rfl (pu (.bool false) rfl ?_)))))))))
    refine seq_nil (wp_condF rfl (wp_skip (wp_seq (rgn rfl (pu (iv 12) rfl (seq_nil (wp_ret ?_)))))))
    exact ⟨iv 12,Ret.r1 rfl rfl,⟨by first | (simp_all [codeI,spellB]; done) | (simp_all [codeI,spellB]; omega) | (simp [codeI,spellB] at *; omega) | (refine congrArg Value.bool (Bool.eq_iff_iff.2 ?_); simp [codeI,spellB] at *; omega),hI.below⟩⟩


theorem counts_c (s:Int) (k:Int) (u:Int) (day:Int) (w0:World):Does Tryz.prog 142 [.agg #[.int .i64 s,.int .i64 k,.int .i64 u],.int .i64 day] w0 fun v w=>v=(.bool (countsB k u day))∧Below w0.heap.size w0 w:=by
 refine calls_of (n:=20) Tryz.func142 rfl Tryz.ntmps142 rfl ?_
 have hI:=Inv.start w0
 refine wp_seq (rgn rfl (seq_c (s_boxI hI [iv s,iv k,iv u] rfl ?_)))
 intro b1 w hI
 refine pu (.bool false) rfl (seq_nil (wp_seq (rgn rfl (pu (.pointer (some ⟨b1,1,none⟩)) rfl (seq_c (s_load1 hI 0 (iv k) Tryz.isAgg3 rfl rfl rfl ?_))))))
 refine pu (iv day) rfl (seq_c (s_leq rfl rfl ?_ ?_))
 ·intro h1
  refine pu (.bool true) rfl (puo (.pointer (some ⟨b1,2,none⟩)) ⟨rfl,rfl⟩ (seq_on rfl (s_load1 hI 0 (iv u) Tryz.isAgg3 rfl rfl rfl ?_)))
  refine seq_on rfl (s_eql rfl rfl ?_ ?_)
  ·intro h2
   refine puo (.bool true) ⟨rfl,rfl⟩ (of_ rfl (of_ rfl (of_ rfl (of_ rfl (puo (.bool true) ⟨rfl,rfl⟩ (pu (.bool true) rfl (pu (.bool true) rfl (seq_nil (wp_ret ?_)))))))))
   exact ⟨.bool true,Ret.r1 rfl rfl,⟨by first | (simp_all [countsB]; done) | (simp_all [countsB]; omega) | (simp [countsB] at *; omega) | (refine congrArg Value.bool (Bool.eq_iff_iff.2 ?_); simp [countsB] at *; omega),hI.below⟩⟩
  ·intro h3
   refine puo (.bool false) ⟨rfl,rfl⟩ (puo (.pointer (some ⟨b1,2,none⟩)) ⟨rfl,rfl⟩ (seq_on rfl (s_load1 hI 0 (iv u) Tryz.isAgg3 rfl rfl rfl ?_)))
   refine puo (iv day) ⟨rfl,rfl⟩ (seq_on rfl (s_gtr rfl rfl ?_ ?_))
   ·intro h4
    refine puo (.bool true) ⟨rfl,rfl⟩ (pu (.bool true) rfl (pu (.bool true) rfl (seq_nil (wp_ret ?_))))
    exact ⟨.bool true,Ret.r1 rfl rfl,⟨by first | (simp_all [countsB]; done) | (simp_all [countsB]; omega) | (simp [countsB] at *; omega) | (refine congrArg Value.bool (Bool.eq_iff_iff.2 ?_); simp [countsB] at *; omega),hI.below⟩⟩
   ·intro h5
    refine puo (.bool false) ⟨rfl,rfl⟩ (pu (.bool false) rfl (pu (.bool false) rfl (seq_nil (wp_ret ?_))))
    exact ⟨.bool false,Ret.r1 rfl rfl,⟨by first | (simp_all [countsB]; done) | (simp_all [countsB]; omega) | (simp [countsB] at *; omega) | (refine congrArg Value.bool (Bool.eq_iff_iff.2 ?_); simp [countsB] at *; omega),hI.below⟩⟩
 ·intro h6
  refine pu (.bool false) rfl (of_ rfl (of_ rfl (of_ rfl (of_ rfl (seq_offN rfl ?_)))))
  refine seq_offN rfl ?_
  refine seq_offN rfl ?_
  refine seq_offN rfl ?_
  refine of_ rfl (pu (.bool false) rfl (pu (.bool false) rfl (seq_nil (wp_ret ?_))))
  exact ⟨.bool false,Ret.r1 rfl rfl,⟨by first | (simp_all [countsB]; done) | (simp_all [countsB]; omega) | (simp [countsB] at *; omega) | (refine congrArg Value.bool (Bool.eq_iff_iff.2 ?_); simp [countsB] at *; omega),hI.below⟩⟩


theorem meet_c (a:Int) (b:Int) (c:Int) (d:Int) (w0:World):Does Tryz.prog 103 [.agg #[.int .i64 a,.int .i64 b],.agg #[.int .i64 c,.int .i64 d]] w0 fun v w=>v=(.agg #[.int .i64 (if c > a then c else a),.int .i64 (if d < b then d else b)])∧Below w0.heap.size w0 w:=by
 refine calls_of (n:=16) Tryz.func103 rfl Tryz.ntmps103 rfl ?_
 have hI:=Inv.start w0
 refine wp_seq (rgn rfl (seq_c (s_boxI hI [iv a,iv b] rfl ?_)))
 intro b1 w hI
 refine seq_c (s_boxI hI [iv c,iv d] rfl ?_)
 intro b2 w hI
 refine seq_c (s_allocI hI [iv 0,iv 0] Tryz.zeroValue23 rfl ?_)
 intro b3 w hI
 refine seq_nil (wp_seq (rgn rfl (pu (.pointer (some ⟨b1,0,none⟩)) rfl (seq_c (s_load1 hI 2 (iv a) Tryz.isAgg3 rfl rfl rfl ?_)))))
 refine pu (.pointer (some ⟨b2,0,none⟩)) rfl (seq_c (s_load1 hI 1 (iv c) Tryz.isAgg3 rfl rfl rfl ?_))
 refine pu (iv (if c > a then c else a)) (by kernel_rfl) (pu (.pointer (some ⟨b1,1,none⟩)) rfl (seq_c (s_load1 hI 2 (iv b) Tryz.isAgg3 rfl rfl rfl ?_)))
 refine pu (.pointer (some ⟨b2,1,none⟩)) rfl (seq_c (s_load1 hI 1 (iv d) Tryz.isAgg3 rfl rfl rfl ?_))
 refine pu (iv (if d < b then d else b)) (by kernel_rfl) (pu (.agg #[iv (if c > a then c else a),iv (if d < b then d else b)]) (by kernel_rfl) (seq_c (s_store hI 0 2 [iv (if c > a then c else a),iv (if d < b then d else b)] Tryz.sizeOf23 rfl rfl rfl rfl rfl (Nat.le_of_ble_eq_true rfl) ?_)))
 intro w hI
 refine seq_nil (wp_ret ?_)
 exact ⟨.agg #[iv (if c > a then c else a),iv (if d < b then d else b)],Ret.c rfl rfl (run_loadK hI 0 2 [iv (if c > a then c else a),iv (if d < b then d else b)] Tryz.isAgg23 Tryz.sizeOf23 rfl rfl rfl),⟨rfl,hI.below⟩⟩


theorem isNaN_c (x:Int) (w0:World):Does Tryz.prog 175 [.int .i64 x] w0 fun v w=>v=(.bool false)∧Below w0.heap.size w0 w:=by
 refine calls_of (n:=6) Tryz.func175 rfl Tryz.ntmps175 rfl ?_
 have hI:=Inv.start w0
 refine wp_seq (rgn rfl (pu (.bool false) rfl (seq_nil (wp_seq (rgn rfl (pu (iv x) rfl (pu (iv x) rfl (seq_c (s_neq rfl rfl ?_ ?_)))))))))
 ·intro h1
  refine pu (.bool true) rfl (seq_nil (wp_ret ?_))
  exact ⟨.bool true,Ret.r1 rfl rfl,⟨by simp_all,hI.below⟩⟩
 ·intro h2
  refine pu (.bool false) rfl (seq_nil (wp_ret ?_))
  exact ⟨.bool false,Ret.r1 rfl rfl,⟨by simp_all,hI.below⟩⟩


theorem Compare_c (x:Int) (y:Int) (w0:World):Does Tryz.prog 145 [.int .i64 x,.int .i64 y] w0 fun v w=>v=(.int .i64 (if x < y then -1 else if y < x then 1 else 0))∧Below w0.heap.size w0 w:=by
 refine calls_of (n:=20) Tryz.func145 rfl Tryz.ntmps145 rfl ?_
 have hI:=Inv.start w0
 refine wp_seq (rgn rfl (pu (iv 0) rfl (seq_nil (wp_seq (rgn rfl (pu (iv x) rfl (seq_c (s_callb hI 175 [iv x] false (by kernel_rfl) (isNaN_c x _) ?_ ?_))))))))
 ·intro h1 w hI
  refine pu (.bool true) rfl (seq_nil (wp_seq (rgn rfl (pu (iv y) rfl (seq_c (s_callb hI 175 [iv y] false (by kernel_rfl) (isNaN_c y _) ?_ ?_))))))
  ·intro h2 w hI
   refine pu (.bool true) rfl (seq_nil (wp_seq (wp_seq (rgn rfl (pu (.bool true) rfl (seq_nil (wp_condT rfl (wp_seq (wp_seq ?_)))))))))
   refine rgn rfl (pu (.bool true) rfl (seq_nil (wp_condT rfl (wp_seq (rgn rfl (pu (iv 0) rfl (seq_nil (wp_ret ?_))))))))
   exact ⟨iv 0,Ret.r1 rfl rfl,⟨by first | (simp_all; done) | (simp_all; omega),hI.below⟩⟩
  ·intro h3 w hI
   refine pu (.bool false) rfl (seq_nil (wp_seq (wp_seq (rgn rfl (pu (.bool true) rfl (seq_nil (wp_condT rfl (wp_seq (wp_seq ?_)))))))))
   refine rgn rfl (pu (.bool false) rfl (seq_nil (wp_condF rfl (wp_skip (wp_seq (rgn rfl (pu (iv (-1)) rfl (seq_nil (wp_ret ?_)))))))))
   exact ⟨iv (-1),Ret.r1 rfl rfl,⟨by first | (simp_all; done) | (simp_all; omega),hI.below⟩⟩
 ·intro h4 w hI
  refine pu (.bool false) rfl (seq_nil (wp_seq (rgn rfl (pu (iv y) rfl (seq_c (s_callb hI 175 [iv y] false (by kernel_rfl) (isNaN_c y _) ?_ ?_))))))
  ·intro h5 w hI
   refine pu (.bool true) rfl (seq_nil (wp_seq (wp_seq (rgn rfl (pu (.bool false) rfl (seq_nil (wp_condF rfl (wp_skip (wp_seq ?_)))))))))
   refine wp_seq (rgn rfl (pu (.bool true) rfl (seq_nil (wp_condT rfl (wp_seq (rgn rfl (pu (iv 1) rfl (seq_nil (wp_ret ?_)))))))))
   exact ⟨iv 1,Ret.r1 rfl rfl,⟨by first | (simp_all; done) | (simp_all; omega),hI.below⟩⟩
  ·intro h6 w hI
   refine pu (.bool false) rfl (seq_nil (wp_seq (wp_seq (rgn rfl (pu (.bool false) rfl (seq_nil (wp_condF rfl (wp_skip (wp_seq ?_)))))))))
   refine wp_seq (rgn rfl (pu (.bool false) rfl (seq_nil (wp_condF rfl (wp_skip (wp_seq (wp_seq (rgn rfl (pu (iv x) rfl ?_)))))))))
   refine pu (iv y) rfl (seq_c (s_lss rfl rfl ?_ ?_))
   ·intro h7
    refine seq_nil (wp_condT rfl (wp_seq (rgn rfl (pu (iv (-1)) rfl (seq_nil (wp_ret ?_))))))
    exact ⟨iv (-1),Ret.r1 rfl rfl,⟨by first | (simp_all; done) | (simp_all; omega),hI.below⟩⟩
   ·intro h8
    refine seq_nil (wp_condF rfl (wp_skip (wp_seq (wp_seq (rgn rfl (pu (iv x) rfl (pu (iv y) rfl (seq_c (s_gtr rfl rfl ?_ ?_)))))))))
    ·intro h9
     refine seq_nil (wp_condT rfl (wp_seq (rgn rfl (pu (iv 1) rfl (seq_nil (wp_ret ?_))))))
     exact ⟨iv 1,Ret.r1 rfl rfl,⟨by first | (simp_all; done) | (simp_all; omega),hI.below⟩⟩
    ·intro h10
     refine seq_nil (wp_condF rfl (wp_skip (wp_seq (rgn rfl (pu (iv 0) rfl (seq_nil (wp_ret ?_)))))))
     exact ⟨iv 0,Ret.r1 rfl rfl,⟨by first | (simp_all; done) | (simp_all; omega),hI.below⟩⟩


theorem after_c (src:Int) (hr:Int) (lo:Int) (hi:Int) (kn:Int) (un:Int) (a:Int) (b:Int) (q1:-10000000≤lo∧lo≤10000000∧-10000000≤hi∧hi≤10000000) (q2:-100000000000≤a∧a≤100000000000∧-100000000000≤b∧b≤100000000000) (w0:World):Does Tryz.prog 149 [.agg #[.int .i64 src,.int .i64 hr,.int .i64 lo,.int .i64 hi,.int .i64 kn,.int .i64 un],.agg #[.int .i64 a,.int .i64 b]] w0 fun v w=>v=(.agg #[.int .i64 (a - hi),.int .i64 (b - lo)])∧Below w0.heap.size w0 w:=by
 refine calls_of (n:=20) Tryz.func149 rfl Tryz.ntmps149 rfl ?_
 have hI:=Inv.start w0
 refine wp_seq (rgn rfl (seq_c (s_boxI hI [iv src,iv hr,iv lo,iv hi,iv kn,iv un] rfl ?_)))
 intro b1 w hI
 refine seq_c (s_boxI hI [iv a,iv b] rfl ?_)
 intro b2 w hI
 refine seq_c (s_allocI hI [iv 0,iv 0] Tryz.zeroValue23 rfl ?_)
 intro b3 w hI
 refine seq_nil (wp_seq (rgn rfl (pu (.pointer (some ⟨b2,0,none⟩)) rfl (seq_c (s_load1 hI 1 (iv a) Tryz.isAgg3 rfl rfl rfl ?_)))))
 refine pu (.pointer (some ⟨b1,0,none⟩)) rfl (pu (.pointer (some ⟨b1,2,none⟩)) rfl (pu (.pointer (some ⟨b1,3,none⟩)) rfl (seq_c (s_load1 hI 2 (iv hi) Tryz.isAgg3 rfl rfl rfl ?_))))
 refine seq_c (s_sub rfl rfl (by omega) ?_)
 refine pu (.pointer (some ⟨b2,1,none⟩)) rfl (seq_c (s_load1 hI 1 (iv b) Tryz.isAgg3 rfl rfl rfl ?_))
 refine pu (.pointer (some ⟨b1,0,none⟩)) rfl (pu (.pointer (some ⟨b1,2,none⟩)) rfl (pu (.pointer (some ⟨b1,2,none⟩)) rfl (seq_c (s_load1 hI 2 (iv lo) Tryz.isAgg3 rfl rfl rfl ?_))))
 refine seq_c (s_sub rfl rfl (by omega) ?_)
 refine pu (.agg #[iv (a - hi),iv (b - lo)]) (by kernel_rfl) (seq_c (s_store hI 0 2 [iv (a - hi),iv (b - lo)] Tryz.sizeOf23 rfl rfl rfl rfl rfl (Nat.le_of_ble_eq_true rfl) ?_))
 intro w hI
 refine seq_nil (wp_ret ?_)
 exact ⟨.agg #[iv (a - hi),iv (b - lo)],Ret.c rfl rfl (run_loadK hI 0 2 [iv (a - hi),iv (b - lo)] Tryz.isAgg23 Tryz.sizeOf23 rfl rfl rfl),⟨rfl,hI.below⟩⟩


theorem before_c (src:Int) (hr:Int) (lo:Int) (hi:Int) (kn:Int) (un:Int) (a:Int) (b:Int) (q1:-10000000≤lo∧lo≤10000000∧-10000000≤hi∧hi≤10000000) (q2:-100000000000≤a∧a≤100000000000∧-100000000000≤b∧b≤100000000000) (w0:World):Does Tryz.prog 148 [.agg #[.int .i64 src,.int .i64 hr,.int .i64 lo,.int .i64 hi,.int .i64 kn,.int .i64 un],.agg #[.int .i64 a,.int .i64 b]] w0 fun v w=>v=(.agg #[.int .i64 (a+lo),.int .i64 (b+hi)])∧Below w0.heap.size w0 w:=by
 refine calls_of (n:=20) Tryz.func148 rfl Tryz.ntmps148 rfl ?_
 have hI:=Inv.start w0
 refine wp_seq (rgn rfl (seq_c (s_boxI hI [iv src,iv hr,iv lo,iv hi,iv kn,iv un] rfl ?_)))
 intro b1 w hI
 refine seq_c (s_boxI hI [iv a,iv b] rfl ?_)
 intro b2 w hI
 refine seq_c (s_allocI hI [iv 0,iv 0] Tryz.zeroValue23 rfl ?_)
 intro b3 w hI
 refine seq_nil (wp_seq (rgn rfl (pu (.pointer (some ⟨b2,0,none⟩)) rfl (seq_c (s_load1 hI 1 (iv a) Tryz.isAgg3 rfl rfl rfl ?_)))))
 refine pu (.pointer (some ⟨b1,0,none⟩)) rfl (pu (.pointer (some ⟨b1,2,none⟩)) rfl (pu (.pointer (some ⟨b1,2,none⟩)) rfl (seq_c (s_load1 hI 2 (iv lo) Tryz.isAgg3 rfl rfl rfl ?_))))
 refine seq_c (s_add rfl rfl (by omega) ?_)
 refine pu (.pointer (some ⟨b2,1,none⟩)) rfl (seq_c (s_load1 hI 1 (iv b) Tryz.isAgg3 rfl rfl rfl ?_))
 refine pu (.pointer (some ⟨b1,0,none⟩)) rfl (pu (.pointer (some ⟨b1,2,none⟩)) rfl (pu (.pointer (some ⟨b1,3,none⟩)) rfl (seq_c (s_load1 hI 2 (iv hi) Tryz.isAgg3 rfl rfl rfl ?_))))
 refine seq_c (s_add rfl rfl (by omega) ?_)
 refine pu (.agg #[iv (a+lo),iv (b+hi)]) (by kernel_rfl) (seq_c (s_store hI 0 2 [iv (a+lo),iv (b+hi)] Tryz.sizeOf23 rfl rfl rfl rfl rfl (Nat.le_of_ble_eq_true rfl) ?_))
 intro w hI
 refine seq_nil (wp_ret ?_)
 exact ⟨.agg #[iv (a+lo),iv (b+hi)],Ret.c rfl rfl (run_loadK hI 0 2 [iv (a+lo),iv (b+hi)] Tryz.isAgg23 Tryz.sizeOf23 rfl rfl rfl),⟨rfl,hI.below⟩⟩

end Go.K
