import Derived.Test.YtinkdlmimiefaaaGreatProg
import Derived.Test.YtinkdlmimiefaaaGreatPKK1
import Derived.Test.YtinkdlmimiefaaaGreatPKt
import Derived.Test.YtinkdlmimiefaaaGreatPKK2
import Derived.Test.YtinkdlmimiefaaaGreatPD
import Derived.Tactics2
namespace Go.K
open Go.Proofs.Tryz
open Go.Proofs Go.RowKit
set_option linter.unusedVariables false
set_option linter.unusedSimpArgs false
set_option maxRecDepth 100000
theorem eq23 (n:Nat) (x0 x1 y0 y1:Int) (w:World):(Op.equalIn (n+2) 23 (.agg #[.int .i64 x0,.int .i64 x1]) (.agg #[.int .i64 y0,.int .i64 y1])).run Tryz.prog w=.ok (decide (x0=y0) && decide (x1=y1)) w:=by
  have u3:=underlying3; have a3:=isAgg3; have z3:=sizeOf3
  have hS:Tryz.prog.underlying 23=some (.struct (Tryz.prog.fieldsOf 23)):=by kernel_rfl
  rw [show n+2=(n+1)+1 from rfl,run_equalIn_agg w (n+1) 23 _ _ hS (by kernel_rfl)]
  simp only [Program.fieldsOf,underlying23]
  go_simp
  by_cases h0:x0=y0 <;> by_cases h1:x1=y1 <;> simp [h0,h1]
attribute [local irreducible] Seq cw cx fl opX

theorem L79 (w0:World) (a:Rg) (r:Bool) (hF:F79 a=some r):bn Tryz.prog 79 [.agg #[.int .i64 a.lo,.int .i64 a.hi]] w0 fun v w=>v=.bool r∧Below w0.heap.size w0 w:=by
 refine az (n:=18) func79 rfl ntmps79 rfl ?_
 have hI:=Inv.start w0
 unfold F79 at hF
 refine ab (rgn rfl (ac (ca hI [iv a.lo,iv a.hi] rfl fun b3 w hI=>pu kf rfl (aa (ab (rgn rfl (pu (.pointer (some ⟨b3,0,none⟩)) rfl (ac (ag hI 0 (iv a.lo) isAgg3 rfl rfl rfl ?_)))))))))
 refine ifE hF (fun b hF=>?_) (fun b hF=>?_)
 ·
  refine ac (fq rfl rfl (fun _=>?_) (fun h=>absurd b h))
  refine pu kg rfl (puo (.pointer (some ⟨b3,0,none⟩)) ⟨rfl,rfl⟩ (aw rfl (ag hI 0 (iv a.lo) isAgg3 rfl rfl rfl ?_)))
  refine puo (.pointer (some ⟨b3,1,none⟩)) ⟨rfl,rfl⟩ (aw rfl (ag hI 0 (iv a.hi) isAgg3 rfl rfl rfl ?_))
  refine ifE hF (fun d hF=>?_) (fun d hF=>?_)
  ·
   refine aw rfl (fq rfl rfl (fun _=>?_) (fun h=>absurd d h))
   refine pu kg rfl (pu kg rfl (puo (.pointer (some ⟨b3,1,none⟩)) ⟨rfl,rfl⟩ (aw rfl (ag hI 0 (iv a.hi) isAgg3 rfl rfl rfl ?_))))
   refine ifE hF (fun e hF=>?_) (fun e hF=>?_)
   ·
    refine aw rfl (fq rfl rfl (fun _=>?_) (fun h=>absurd e h))
    refine pu kg rfl (pu kg rfl (aa (aj ?_)))
    replace hF:=Option.some.inj hF; subst hF
    exact ⟨.bool true,Ret.r1 rfl rfl,⟨rfl,hI.below⟩⟩
   refine aw rfl (fq rfl rfl (fun h=>absurd h e) (fun _=>?_))
   refine pu kf rfl (pu kf rfl (aa (aj ?_)))
   replace hF:=Option.some.inj hF; subst hF
   exact ⟨.bool false,Ret.r1 rfl rfl,⟨rfl,hI.below⟩⟩
  refine aw rfl (fq rfl rfl (fun h=>absurd h d) (fun _=>?_))
  refine pu kf rfl (pu kf rfl (sf 3 rfl (pu kf rfl (pu kf rfl (aa (aj ?_))))))
  replace hF:=Option.some.inj hF; subst hF
  exact ⟨.bool false,Ret.r1 rfl rfl,⟨rfl,hI.below⟩⟩
 refine ac (fq rfl rfl (fun h=>absurd h b) (fun _=>?_))
 refine pu kf rfl (sf 5 rfl (pu kf rfl (pu kf rfl (sf 3 rfl (pu kf rfl (pu kf rfl (aa (aj ?_))))))))
 replace hF:=Option.some.inj hF; subst hF
 exact ⟨.bool false,Ret.r1 rfl rfl,⟨rfl,hI.below⟩⟩


theorem L80 (w0:World) (a:Int) (b:Int) (d:Int) (r:Bool) (hF:F80 a b d=some r):bn Tryz.prog 80 [.int .i64 a,.int .i64 b,.int .i64 d] w0 fun v w=>v=.bool r∧Below w0.heap.size w0 w:=by
 refine az (n:=15) func80 rfl ntmps80 rfl ?_
 have hI:=Inv.start w0
 unfold F80 at hF
 refine ab (rgn rfl (pu kf rfl (aa (ab (rgn rfl (pu (iv a) rfl (pu (iv b) rfl (ifE hF (fun h7 hF=>?_) (fun h7 hF=>?_)))))))))
 ·
  refine ac (iq rfl rfl (fun _=>?_) (fun h=>absurd h7 h))
  refine pu kg rfl (puo (iv a) ⟨rfl,rfl⟩ (puo (iv d) ⟨rfl,rfl⟩ (ifE hF (fun h8 hF=>?_) (fun h8 hF=>?_))))
  ·
   refine aw rfl (fq rfl rfl (fun _=>?_) (fun h=>absurd h8 h))
   refine pu kg rfl (pu kg rfl (aa (aj ?_)))
   replace hF:=Option.some.inj hF; subst hF
   exact ⟨.bool true,Ret.r1 rfl rfl,⟨rfl,hI.below⟩⟩
  refine aw rfl (fq rfl rfl (fun h=>absurd h h8) (fun _=>?_))
  refine pu kf rfl (pu kf rfl (aa (aj ?_)))
  replace hF:=Option.some.inj hF; subst hF
  exact ⟨.bool false,Ret.r1 rfl rfl,⟨rfl,hI.below⟩⟩
 refine ac (iq rfl rfl (fun h=>absurd h h7) (fun _=>?_))
 refine pu kf rfl (sf 3 rfl (pu kf rfl (pu kf rfl (aa (aj ?_)))))
 replace hF:=Option.some.inj hF; subst hF
 exact ⟨.bool false,Ret.r1 rfl rfl,⟨rfl,hI.below⟩⟩


theorem L83 (w0:World) (a:Int) (b:Int) (r:Bool) (hF:F83 a b=some r):bn Tryz.prog 83 [.int .i64 a,.int .i64 b] w0 fun v w=>v=.bool r∧Below w0.heap.size w0 w:=by
 refine az (n:=11) func83 rfl ntmps83 rfl ?_
 have hI:=Inv.start w0
 unfold F83 at hF
 refine ab (rgn rfl (pu kf rfl (aa (ab (rgn rfl (pu (iv a) rfl (bt hF (fun g e hF=>?_))))))))
 refine ifE hF (fun h4 hF=>?_) (fun h4 hF=>?_)
 ·
  refine ac (bg hI 80 [iv a,iv 1,iv 99999] kg (by kernel_rfl) (bn.mono (L80 _ a 1 99999 _ e) (fun v' w' h=>⟨h.1.trans (congrArg Value.bool h4),h.2⟩)) fun w hI=>pu kg rfl (puo (iv b) ⟨rfl,rfl⟩ (bt hF (fun d f hF=>?_))))
  refine aw rfl (bg hI 80 [iv b,iv 0,iv 99999] (.bool d) (by kernel_rfl) (L80 _ b 0 99999 _ f) fun w hI=>pu (.bool d) rfl (pu (.bool d) rfl (aa (aj ?_))))
  replace hF:=Option.some.inj hF; subst hF
  exact ⟨.bool d,Ret.r1 rfl rfl,⟨rfl,hI.below⟩⟩
 refine ac (bg hI 80 [iv a,iv 1,iv 99999] kf (by kernel_rfl) (bn.mono (L80 _ a 1 99999 _ e) (fun v' w' h=>⟨h.1.trans (congrArg Value.bool (Bool.eq_false_iff.2 h4)),h.2⟩)) fun w hI=>pu kf rfl (sf 2 rfl (pu kf rfl (pu kf rfl (aa (aj ?_))))))
 replace hF:=Option.some.inj hF; subst hF
 exact ⟨.bool false,Ret.r1 rfl rfl,⟨rfl,hI.below⟩⟩


theorem L140 (w0:World) (a:Int) (r:Bool) (hF:F140 a=some r):bn Tryz.prog 140 [.int .i64 a] w0 fun v w=>v=.bool r∧Below w0.heap.size w0 w:=by
 refine az (n:=5) func140 rfl ntmps140 rfl ?_
 have hI:=Inv.start w0
 unfold F140 at hF
 refine ab (rgn rfl (pu kf rfl (aa (ab (rgn rfl (pu (iv a) rfl (bt hF (fun y7 hy8 hF=>?_))))))))
 refine ac (bg hI 80 [iv a,iv 0,iv 4166] (.bool y7) (by kernel_rfl) (L80 _ a 0 4166 _ hy8) fun w hI=>pu (.bool y7) rfl (aa (aj ?_)))
 replace hF:=Option.some.inj hF; subst hF
 exact ⟨.bool y7,Ret.r1 rfl rfl,⟨rfl,hI.below⟩⟩


theorem L84 (w0:World) (a:Int) (b:Int) (r:Bool) (hF:F84 a b=some r):bn Tryz.prog 84 [.int .i64 a,.int .i64 b] w0 fun v w=>v=.bool r∧Below w0.heap.size w0 w:=by
 refine az (n:=17) func84 rfl ntmps84 rfl ?_
 have hI:=Inv.start w0
 unfold F84 at hF
 refine ab (rgn rfl (pu kf rfl (aa (ab (rgn rfl (pu (iv a) rfl (bt hF (fun k g hF=>?_))))))))
 refine ifE hF (fun e hF=>?_) (fun e hF=>?_)
 ·
  refine ac (bg hI 140 [iv a] kg (by kernel_rfl) (bn.mono (L140 _ a _ g) (fun v' w' h=>⟨h.1.trans (congrArg Value.bool e),h.2⟩)) fun w hI=>pu kg rfl (puo (iv b) ⟨rfl,rfl⟩ (ifE hF (fun f hF=>?_) (fun f hF=>?_))))
  ·
   refine aw rfl (di rfl rfl (fun _=>?_) (fun h=>absurd f h))
   refine puo kg ⟨rfl,rfl⟩ (sf 4 rfl (puo kg ⟨rfl,rfl⟩ (pu kg rfl (pu kg rfl (aa (aj ?_))))))
   replace hF:=Option.some.inj hF; subst hF
   exact ⟨.bool true,Ret.r1 rfl rfl,⟨rfl,hI.below⟩⟩
  refine aw rfl (di rfl rfl (fun h=>absurd h f) (fun _=>?_))
  refine puo kf ⟨rfl,rfl⟩ (puo (iv b) ⟨rfl,rfl⟩ (puo (iv a) ⟨rfl,rfl⟩ (ckE hF (fun i hF=>?_))))
  refine aw rfl (cj rfl rfl i ?_)
  refine bt hF (fun d j hF=>?_)
  refine aw rfl (bg hI 80 [iv b,iv (a+1),iv 4166] (.bool d) (by kernel_rfl) (L80 _ b (a+1) 4166 _ j) fun w hI=>puo (.bool d) ⟨rfl,rfl⟩ (pu (.bool d) rfl (pu (.bool d) rfl (aa (aj ?_)))))
  replace hF:=Option.some.inj hF; subst hF
  exact ⟨.bool d,Ret.r1 rfl rfl,⟨rfl,hI.below⟩⟩
 refine ac (bg hI 140 [iv a] kf (by kernel_rfl) (bn.mono (L140 _ a _ g) (fun v' w' h=>⟨h.1.trans (congrArg Value.bool (Bool.eq_false_iff.2 e)),h.2⟩)) fun w hI=>pu kf rfl (sf 3 rfl (dk rfl ?_)))
 refine dk rfl ?_
 refine dk rfl ?_
 refine dk rfl ?_
 refine of_ rfl (pu kf rfl (pu kf rfl (aa (aj ?_))))
 replace hF:=Option.some.inj hF; subst hF
 exact ⟨.bool false,Ret.r1 rfl rfl,⟨rfl,hI.below⟩⟩


theorem L25 (w0:World) (a:Ld) (r:Int) (hF:F25 a=some r):bn Tryz.prog 25 [.agg (eLd a).toArray] w0 fun v w=>v=.int .i64 r∧Below w0.heap.size w0 w:=by
 refine az (n:=23) func25 rfl ntmps25 rfl ?_
 have hI:=Inv.start w0
 unfold F25 at hF
 refine ab (rgn rfl (ac (ca hI (eLd a) rfl fun b w hI=>pu (iv 0) rfl (aa (ab (ab (rgn rfl (pu (.pointer (some ⟨b,0,none⟩)) rfl (ac (ag hI 0 (iv a.src) isAgg3 rfl rfl rfl ?_))))))))))
 refine pu (.pointer (some ⟨b,1,none⟩)) rfl (ac (ag hI 0 (iv a.hr) isAgg3 rfl rfl rfl ?_))
 refine bt hF (fun k g hF=>?_)
 refine ifE hF (fun d hF=>?_) (fun d hF=>?_)
 ·
  refine ac (bg hI 83 [iv a.src,iv a.hr] kg (by kernel_rfl) (bn.mono (L83 _ a.src a.hr _ g) (fun v' w' h=>⟨h.1.trans (congrArg Value.bool d),h.2⟩)) fun w hI=>pu kf rfl (pu kf rfl (puo (.pointer (some ⟨b,2,none⟩)) ⟨rfl,rfl⟩ (aw rfl (ar hI 0 2 [iv a.lo,iv a.hi] isAgg23 sizeOf23 rfl rfl rfl rfl ?_)))))
  refine bt hF (fun l i hF=>?_)
  refine ifE hF (fun e hF=>?_) (fun e hF=>?_)
  ·
   refine aw rfl (bg hI 79 [.agg #[iv a.lo,iv a.hi]] kg (by kernel_rfl) (bn.mono (L79 _ (⟨a.lo,a.hi⟩:Rg) _ i) (fun v' w' h=>⟨h.1.trans (congrArg Value.bool e),h.2⟩)) fun w hI=>puo kf ⟨rfl,rfl⟩ (pu kf rfl (pu kf rfl (puo (.pointer (some ⟨b,4,none⟩)) ⟨rfl,rfl⟩ (aw rfl (ag hI 0 (iv a.kn) isAgg3 rfl rfl rfl ?_))))))
   refine puo (.pointer (some ⟨b,5,none⟩)) ⟨rfl,rfl⟩ (aw rfl (ag hI 0 (iv a.un) isAgg3 rfl rfl rfl ?_))
   refine bt hF (fun m j hF=>?_)
   refine ifE hF (fun f hF=>?_) (fun f hF=>?_)
   ·
    refine aw rfl (bg hI 84 [iv a.kn,iv a.un] kg (by kernel_rfl) (bn.mono (L84 _ a.kn a.un _ j) (fun v' w' h=>⟨h.1.trans (congrArg Value.bool f),h.2⟩)) fun w hI=>puo kf ⟨rfl,rfl⟩ (pu kf rfl (aa (ai rfl (ak (ab (rgn rfl (pu (iv 0) rfl (aa (aj ?_))))))))))
    replace hF:=Option.some.inj hF; subst hF
    exact ⟨iv 0,Ret.r1 rfl rfl,⟨rfl,hI.below⟩⟩
   refine aw rfl (bg hI 84 [iv a.kn,iv a.un] kf (by kernel_rfl) (bn.mono (L84 _ a.kn a.un _ j) (fun v' w' h=>⟨h.1.trans (congrArg Value.bool (Bool.eq_false_iff.2 f)),h.2⟩)) fun w hI=>puo kg ⟨rfl,rfl⟩ (pu kg rfl (aa (ah rfl (ab (rgn rfl (pu (iv 10) rfl (aa (aj ?_)))))))))
   replace hF:=Option.some.inj hF; subst hF
   exact ⟨iv 10,Ret.r1 rfl rfl,⟨rfl,hI.below⟩⟩
  refine aw rfl (bg hI 79 [.agg #[iv a.lo,iv a.hi]] kf (by kernel_rfl) (bn.mono (L79 _ (⟨a.lo,a.hi⟩:Rg) _ i) (fun v' w' h=>⟨h.1.trans (congrArg Value.bool (Bool.eq_false_iff.2 e)),h.2⟩)) fun w hI=>puo kg ⟨rfl,rfl⟩ (pu kg rfl (pu kg rfl (sf 6 rfl (pu kg rfl (aa (ah rfl (ab (rgn rfl (pu (iv 10) rfl ?_))))))))))
  refine aa (aj ?_)
  replace hF:=Option.some.inj hF; subst hF
  exact ⟨iv 10,Ret.r1 rfl rfl,⟨rfl,hI.below⟩⟩
 refine ac (bg hI 83 [iv a.src,iv a.hr] kf (by kernel_rfl) (bn.mono (L83 _ a.src a.hr _ g) (fun v' w' h=>⟨h.1.trans (congrArg Value.bool (Bool.eq_false_iff.2 d)),h.2⟩)) fun w hI=>pu kg rfl (pu kg rfl (sf 4 rfl (pu kg rfl (pu kg rfl (sf 6 rfl (pu kg rfl (aa (ah rfl (ab ?_))))))))))
 refine rgn rfl (pu (iv 10) rfl (aa (aj ?_)))
 replace hF:=Option.some.inj hF; subst hF
 exact ⟨iv 10,Ret.r1 rfl rfl,⟨rfl,hI.below⟩⟩


theorem L27 (w0:World) (a:Ld) (r:Int) (hF:F27 a=some r):bn Tryz.prog 27 [.agg (eLd a).toArray] w0 fun v w=>v=.int .i64 r∧Below w0.heap.size w0 w:=by
 refine az (n:=23) func27 rfl ntmps27 rfl ?_
 have hI:=Inv.start w0
 unfold F27 at hF
 refine ab (rgn rfl (ac (ca hI (eLd a) rfl fun b w hI=>pu (iv 0) rfl (aa (ab (ab (rgn rfl (pu (.pointer (some ⟨b,0,none⟩)) rfl (ac (ag hI 0 (iv a.src) isAgg3 rfl rfl rfl ?_))))))))))
 refine pu (.pointer (some ⟨b,1,none⟩)) rfl (ac (ag hI 0 (iv a.hr) isAgg3 rfl rfl rfl ?_))
 refine bt hF (fun k g hF=>?_)
 refine ifE hF (fun d hF=>?_) (fun d hF=>?_)
 ·
  refine ac (bg hI 83 [iv a.src,iv a.hr] kg (by kernel_rfl) (bn.mono (L83 _ a.src a.hr _ g) (fun v' w' h=>⟨h.1.trans (congrArg Value.bool d),h.2⟩)) fun w hI=>pu kf rfl (pu kf rfl (puo (.pointer (some ⟨b,2,none⟩)) ⟨rfl,rfl⟩ (aw rfl (ar hI 0 2 [iv a.lo,iv a.hi] isAgg23 sizeOf23 rfl rfl rfl rfl ?_)))))
  refine bt hF (fun l i hF=>?_)
  refine ifE hF (fun e hF=>?_) (fun e hF=>?_)
  ·
   refine aw rfl (bg hI 79 [.agg #[iv a.lo,iv a.hi]] kg (by kernel_rfl) (bn.mono (L79 _ (⟨a.lo,a.hi⟩:Rg) _ i) (fun v' w' h=>⟨h.1.trans (congrArg Value.bool e),h.2⟩)) fun w hI=>puo kf ⟨rfl,rfl⟩ (pu kf rfl (pu kf rfl (puo (.pointer (some ⟨b,4,none⟩)) ⟨rfl,rfl⟩ (aw rfl (ag hI 0 (iv a.kn) isAgg3 rfl rfl rfl ?_))))))
   refine puo (.pointer (some ⟨b,5,none⟩)) ⟨rfl,rfl⟩ (aw rfl (ag hI 0 (iv a.un) isAgg3 rfl rfl rfl ?_))
   refine bt hF (fun m j hF=>?_)
   refine ifE hF (fun f hF=>?_) (fun f hF=>?_)
   ·
    refine aw rfl (bg hI 84 [iv a.kn,iv a.un] kg (by kernel_rfl) (bn.mono (L84 _ a.kn a.un _ j) (fun v' w' h=>⟨h.1.trans (congrArg Value.bool f),h.2⟩)) fun w hI=>puo kf ⟨rfl,rfl⟩ (pu kf rfl (aa (ai rfl (ak (ab (rgn rfl (pu (iv 0) rfl (aa (aj ?_))))))))))
    replace hF:=Option.some.inj hF; subst hF
    exact ⟨iv 0,Ret.r1 rfl rfl,⟨rfl,hI.below⟩⟩
   refine aw rfl (bg hI 84 [iv a.kn,iv a.un] kf (by kernel_rfl) (bn.mono (L84 _ a.kn a.un _ j) (fun v' w' h=>⟨h.1.trans (congrArg Value.bool (Bool.eq_false_iff.2 f)),h.2⟩)) fun w hI=>puo kg ⟨rfl,rfl⟩ (pu kg rfl (aa (ah rfl (ab (rgn rfl (pu (iv 11) rfl (aa (aj ?_)))))))))
   replace hF:=Option.some.inj hF; subst hF
   exact ⟨iv 11,Ret.r1 rfl rfl,⟨rfl,hI.below⟩⟩
  refine aw rfl (bg hI 79 [.agg #[iv a.lo,iv a.hi]] kf (by kernel_rfl) (bn.mono (L79 _ (⟨a.lo,a.hi⟩:Rg) _ i) (fun v' w' h=>⟨h.1.trans (congrArg Value.bool (Bool.eq_false_iff.2 e)),h.2⟩)) fun w hI=>puo kg ⟨rfl,rfl⟩ (pu kg rfl (pu kg rfl (sf 6 rfl (pu kg rfl (aa (ah rfl (ab (rgn rfl (pu (iv 11) rfl ?_))))))))))
  refine aa (aj ?_)
  replace hF:=Option.some.inj hF; subst hF
  exact ⟨iv 11,Ret.r1 rfl rfl,⟨rfl,hI.below⟩⟩
 refine ac (bg hI 83 [iv a.src,iv a.hr] kf (by kernel_rfl) (bn.mono (L83 _ a.src a.hr _ g) (fun v' w' h=>⟨h.1.trans (congrArg Value.bool (Bool.eq_false_iff.2 d)),h.2⟩)) fun w hI=>pu kg rfl (pu kg rfl (sf 4 rfl (pu kg rfl (pu kg rfl (sf 6 rfl (pu kg rfl (aa (ah rfl (ab ?_))))))))))
 refine rgn rfl (pu (iv 11) rfl (aa (aj ?_)))
 replace hF:=Option.some.inj hF; subst hF
 exact ⟨iv 11,Ret.r1 rfl rfl,⟨rfl,hI.below⟩⟩


theorem L29 (w0:World) (a:Sp) (r:Int) (hF:F29 a=some r):bn Tryz.prog 29 [.agg (eSp a).toArray] w0 fun v w=>v=.int .i64 r∧Below w0.heap.size w0 w:=by
 refine az (n:=31) func29 rfl ntmps29 rfl ?_
 have hI:=Inv.start w0
 unfold F29 at hF
 refine ab (rgn rfl (ac (ca hI (eSp a) rfl fun b w hI=>pu (iv 0) rfl (aa (ab (ab (rgn rfl (pu (.pointer (some ⟨b,0,none⟩)) rfl (ac (ag hI 0 (iv a.src) isAgg3 rfl rfl rfl ?_))))))))))
 refine pu (.pointer (some ⟨b,2,none⟩)) rfl (ac (ag hI 0 (iv a.fr) isAgg3 rfl rfl rfl ?_))
 refine bt hF (fun m i hF=>?_)
 refine ifE hF (fun d hF=>?_) (fun d hF=>?_)
 ·
  refine ac (bg hI 83 [iv a.src,iv a.fr] kg (by kernel_rfl) (bn.mono (L83 _ a.src a.fr _ i) (fun v' w' h=>⟨h.1.trans (congrArg Value.bool d),h.2⟩)) fun w hI=>pu kf rfl (pu kf rfl (puo (.pointer (some ⟨b,1,none⟩)) ⟨rfl,rfl⟩ (aw rfl (ag hI 0 (iv a.kd) isAgg3 rfl rfl rfl ?_)))))
  refine bt hF (fun o j hF=>?_)
  refine ifE hF (fun e hF=>?_) (fun e hF=>?_)
  ·
   refine aw rfl (bg hI 80 [iv a.kd,iv 1,iv 2] kg (by kernel_rfl) (bn.mono (L80 _ a.kd 1 2 _ j) (fun v' w' h=>⟨h.1.trans (congrArg Value.bool e),h.2⟩)) fun w hI=>puo kf ⟨rfl,rfl⟩ (pu kf rfl (pu kf rfl (puo (.pointer (some ⟨b,3,none⟩)) ⟨rfl,rfl⟩ (aw rfl (ag hI 0 (iv a.to) isAgg3 rfl rfl rfl ?_))))))
   refine puo (.pointer (some ⟨b,2,none⟩)) ⟨rfl,rfl⟩ (aw rfl (ag hI 0 (iv a.fr) isAgg3 rfl rfl rfl ?_))
   refine bt hF (fun p k hF=>?_)
   refine ifE hF (fun f hF=>?_) (fun f hF=>?_)
   ·
    refine aw rfl (bg hI 80 [iv a.to,iv a.fr,iv 99999] kg (by kernel_rfl) (bn.mono (L80 _ a.to a.fr 99999 _ k) (fun v' w' h=>⟨h.1.trans (congrArg Value.bool f),h.2⟩)) fun w hI=>puo kf ⟨rfl,rfl⟩ (pu kf rfl (pu kf rfl (puo (.pointer (some ⟨b,4,none⟩)) ⟨rfl,rfl⟩ (aw rfl (ag hI 0 (iv a.kn) isAgg3 rfl rfl rfl ?_))))))
    refine puo (.pointer (some ⟨b,5,none⟩)) ⟨rfl,rfl⟩ (aw rfl (ag hI 0 (iv a.un) isAgg3 rfl rfl rfl ?_))
    refine bt hF (fun q l hF=>?_)
    refine ifE hF (fun g hF=>?_) (fun g hF=>?_)
    ·
     refine aw rfl (bg hI 84 [iv a.kn,iv a.un] kg (by kernel_rfl) (bn.mono (L84 _ a.kn a.un _ l) (fun v' w' h=>⟨h.1.trans (congrArg Value.bool g),h.2⟩)) fun w hI=>puo kf ⟨rfl,rfl⟩ (pu kf rfl (aa (ai rfl (ak (ab (rgn rfl (pu (iv 0) rfl (aa (aj ?_))))))))))
     replace hF:=Option.some.inj hF; subst hF
     exact ⟨iv 0,Ret.r1 rfl rfl,⟨rfl,hI.below⟩⟩
    refine aw rfl (bg hI 84 [iv a.kn,iv a.un] kf (by kernel_rfl) (bn.mono (L84 _ a.kn a.un _ l) (fun v' w' h=>⟨h.1.trans (congrArg Value.bool (Bool.eq_false_iff.2 g)),h.2⟩)) fun w hI=>puo kg ⟨rfl,rfl⟩ (pu kg rfl (aa (ah rfl (ab (rgn rfl (pu (iv 12) rfl (aa (aj ?_)))))))))
    replace hF:=Option.some.inj hF; subst hF
    exact ⟨iv 12,Ret.r1 rfl rfl,⟨rfl,hI.below⟩⟩
   refine aw rfl (bg hI 80 [iv a.to,iv a.fr,iv 99999] kf (by kernel_rfl) (bn.mono (L80 _ a.to a.fr 99999 _ k) (fun v' w' h=>⟨h.1.trans (congrArg Value.bool (Bool.eq_false_iff.2 f)),h.2⟩)) fun w hI=>puo kg ⟨rfl,rfl⟩ (pu kg rfl (pu kg rfl (sf 6 rfl (pu kg rfl (aa (ah rfl (ab (rgn rfl (pu (iv 12) rfl ?_))))))))))
   refine aa (aj ?_)
   replace hF:=Option.some.inj hF; subst hF
   exact ⟨iv 12,Ret.r1 rfl rfl,⟨rfl,hI.below⟩⟩
  refine aw rfl (bg hI 80 [iv a.kd,iv 1,iv 2] kf (by kernel_rfl) (bn.mono (L80 _ a.kd 1 2 _ j) (fun v' w' h=>⟨h.1.trans (congrArg Value.bool (Bool.eq_false_iff.2 e)),h.2⟩)) fun w hI=>puo kg ⟨rfl,rfl⟩ (pu kg rfl (pu kg rfl (sf 6 rfl (pu kg rfl (pu kg rfl (sf 6 rfl (pu kg rfl (aa (ah rfl ?_))))))))))
  refine ab (rgn rfl (pu (iv 12) rfl (aa (aj ?_))))
  replace hF:=Option.some.inj hF; subst hF
  exact ⟨iv 12,Ret.r1 rfl rfl,⟨rfl,hI.below⟩⟩
 refine ac (bg hI 83 [iv a.src,iv a.fr] kf (by kernel_rfl) (bn.mono (L83 _ a.src a.fr _ i) (fun v' w' h=>⟨h.1.trans (congrArg Value.bool (Bool.eq_false_iff.2 d)),h.2⟩)) fun w hI=>pu kg rfl (pu kg rfl (sf 4 rfl (pu kg rfl (pu kg rfl (sf 6 rfl (pu kg rfl (pu kg rfl (sf 6 rfl (pu kg rfl ?_))))))))))
 refine aa (ah rfl (ab (rgn rfl (pu (iv 12) rfl (aa (aj ?_))))))
 replace hF:=Option.some.inj hF; subst hF
 exact ⟨iv 12,Ret.r1 rfl rfl,⟨rfl,hI.below⟩⟩


theorem L59 (w0:World) (e:Option Addr) (f:Nat) (a:List Int) (d:Int) (k:bi w0 e (al dv a)) (u:a.length≤9223372036854775807) (x:a.length≤f) (N:Nat) (r:Bool) (hF:F59 N a d=some r):bn Tryz.prog 59 [.slice e a.length f,.int .i64 d] w0 fun v w=>v=.bool r∧Below w0.heap.size w0 w:=by
 refine az (n:=18) func59 rfl ntmps59 rfl ?_
 have hI:=Inv.start w0
 unfold F59 at hF
 refine ab (rgn rfl (pu kf rfl (aa (ab (ab (rgn rfl (pu (iv 0) rfl (aa (au ?_)))))))))
 refine cb (fun m ρ w=>∃ (b:Int) (mm:Nat),cd ρ [(0,.slice e a.length f),(1,iv d),(5,iv b)]∧Inv [] w0 w []∧F59l1 a d mm b=some r∧mm=m) (m:=N) ⟨0,N,⟨rfl,rfl,rfl,trivial⟩,hI.pk [] rfl rfl,hF,rfl⟩ ?_
 rintro m ρ w ⟨b,mm,hag,hI,hF,hm⟩
 subst hm; obtain ⟨ρ,rfl⟩:=hag.form; clear hag
 obtain _ | m1:=mm
 ·cases (show (none:Option Bool)=some r from hF)
 replace hF:F59b1 a d (F59l1 a d m1) b=some r:=hF; unfold F59b1 at hF
 refine ab (ab (rgn rfl (pu (iv b) rfl (pu (.slice e a.length f) rfl (pu (iv ((a.length:Nat):Int)) (by kernel_rfl) (ifE hF (fun g hF=>?_) (fun g hF=>?_)))))))
 ·
  refine ac (cm rfl rfl (fun _=>?_) (fun h=>absurd g h))
  refine aa (ah rfl (ak (ab (au ?_))))
  refine ab (rgn rfl (pu (.slice e a.length f) rfl (pu (iv b) rfl (gdE hF (fun l hF=>?_)))))
  refine bt hF (fun o j hF=>?_)
  obtain ⟨y,z,p,q,s⟩:=k.at_ cy (by decide) j
  refine ac (cn (b).toNat underlying41 sizeOf3 rfl p rfl (Int.toNat_of_nonneg l).symm (fa j rfl) ?_)
  refine ac (dj hI (iv o) isAgg3 rfl q (by simp) (s 0 _ rfl) ?_)
  refine pu (iv d) rfl (ifE hF (fun i hF=>?_) (fun i hF=>?_))
  ·
   refine ac (di rfl rfl (fun _=>?_) (fun h=>absurd i h))
   refine aa (ah rfl (ab (rgn rfl (pu kg rfl (aa (aj ?_))))))
   replace hF:=Option.some.inj hF; subst hF
   exact ⟨.bool true,Ret.r1 rfl rfl,⟨rfl,hI.below⟩⟩
  refine ac (di rfl rfl (fun h=>absurd h i) (fun _=>?_))
  refine aa (ai rfl (ak (rgn rfl (pu (iv b) rfl (ckE hF (fun t hF=>?_))))))
  refine ac (cj rfl rfl t ?_)
  refine pu (iv (b+1)) rfl (aa ?_)
  exact ⟨rfl,m1,Nat.lt_succ_self _,⟨b+1,m1,⟨rfl,rfl,rfl,trivial⟩,hI.pk [] rfl rfl,hF,rfl⟩⟩
 refine ac (cm rfl rfl (fun h=>absurd h g) (fun _=>?_))
 refine aa (ai rfl (bw ?_))
 refine ab (rgn rfl (pu kf rfl (aa (aj ?_))))
 replace hF:=Option.some.inj hF; subst hF
 exact ⟨.bool false,Ret.r1 rfl rfl,⟨rfl,hI.below⟩⟩


theorem L64 (w0:World) (D:Int) (E:Int) (s:Option Addr) (t:Nat) (e:List Ld) (x:Option Addr) (y:Nat) (d:List Ld) (A:Option Addr) (B:Nat) (a:List Sp) (F:Int) (aL:bi w0 s (al eLd e)) (bB:e.length≤9223372036854775807) (bC:e.length≤t) (aM:bi w0 x (al eLd d)) (bD:d.length≤9223372036854775807) (bE:d.length≤y) (aN:bi w0 A (al eSp a)) (bF:a.length≤9223372036854775807) (bG:a.length≤B) (N:Nat) (r:List Int) (hF:F64 N D E e d a F=some r):bn Tryz.prog 64 [.agg (ql6 D E s e t x d y A a B F).toArray] w0 fun v w=>∃ (z0:Option Nat) (z1:Nat) (z2:List Value),v=slv z0 r.length z1∧Inv [] w0 w [(z0,blk z2 3)]∧Row 1 z0 r.length z1 z2 (al dv r):=by
 refine az (n:=56) func64 rfl ntmps64 rfl ?_
 have hI:=Inv.start w0
 unfold F64 at hF
 refine ab (rgn rfl (ac (ca hI (ql6 D E s e t x d y A a B F) rfl fun f w hI=>pu (.slice none 0 0) rfl (aa (ab (rgn rfl (pu (.slice none 0 0) rfl (aa (dn (fun ρ w=>∃ (P:Option Nat) (T:Nat) (U:List Value) (K:List Int),cd ρ [(1,.pointer (some ⟨f,0,none⟩)),(3,slv P K.length T)]∧Inv [] w0 w [(some f,blk (ql6 D E s e t x d y A a B F) 28),(P,blk U 3)]∧(Row 1 P (K.length) T U (al dv K))∧F64j1 d a N K=some r) ?_ ?_)))))))))
 ·
  refine ab (rgn rfl (pu (iv 0) rfl (aa (au ?_))))
  have hI:=hI.nilRow 3
  refine cb (fun m ρ w=>∃ (L:Option Nat) (Q:Nat) (V:List Value) (i:List Int) (o:Int) (mm:Nat),cd ρ [(1,.pointer (some ⟨f,0,none⟩)),(3,slv L i.length Q),(4,iv o)]∧Inv [] w0 w [(some f,blk (ql6 D E s e t x d y A a B F) 28),(L,blk V 3)]∧(Row 1 L (i.length) Q V (al dv i))∧F64l5 e d a N mm i o=some r∧mm=m) (m:=N) ⟨none,0,[],[],0,N,⟨rfl,rfl,rfl,trivial⟩,hI.pk [1,0] rfl rfl,(Row.nil_ 1),hF,rfl⟩ ?_
  rintro m ρ w ⟨L,Q,V,i,o,mm,hag,hI,aC,hF,hm⟩
  subst hm; obtain ⟨ρ,rfl⟩:=hag.form; clear hag
  obtain _ | m5:=mm
  ·cases (show (none:Option (List Int))=some r from hF)
  replace hF:F64b5 e d a N (F64l5 e d a N m5) i o=some r:=hF; unfold F64b5 at hF
  refine ab (ab (rgn rfl (pu (iv o) rfl (pu (.pointer (some ⟨f,2,none⟩)) rfl (ac (ag hI 0 (.slice s e.length t) isAgg24 rfl rfl rfl ?_))))))
  refine pu (iv ((e.length:Nat):Int)) (by kernel_rfl) (ifE hF (fun a0 hF=>?_) (fun a0 hF=>?_))
  ·
   refine ac (cm rfl rfl (fun _=>?_) (fun h=>absurd a0 h))
   refine aa (ah rfl (ak (ab (au ?_))))
   refine rgn rfl (pu (slv L i.length Q) rfl (pu (.pointer (some ⟨f,2,none⟩)) rfl (ac (ag hI 0 (.slice s e.length t) isAgg24 rfl rfl rfl ?_))))
   refine pu (iv o) rfl (gdE hF (fun aO hF=>?_))
   refine bt hF (fun G aD hF=>?_)
   obtain ⟨aP,aQ,aR,aS,aT⟩:=aL.at_ bf (by decide) aD
   refine ac (cn (o).toNat underlying24 sizeOf30 rfl aR rfl (Int.toNat_of_nonneg aO).symm (fa aD rfl) ?_)
   refine pu (.pointer (some ⟨aP,aQ+(o).toNat * 6,none⟩)) rfl (ac (dj hI (iv G.src) isAgg3 rfl aS (by simp) (aT 0 _ rfl) ?_))
   refine ac (fu hI [iv G.src] 3 (fun b=>slv (some b) 1 1) (by kernel_rfl) fun bH w hI=>gdE hF (fun bI hF=>?_))
   refine ac (ks hI underlying41 (z:=iv 0) (k:=1) (bytes:=8) rfl rfl rfl 2 rfl rfl aC [iv G.src] rfl rfl (hI.cells 0 (off:=0) rfl (fun j u h=>by rw [Nat.zero_add]; exact h)) (by simp [Value.oneCell']) (by omega) (by omega) (n2:=(i++[G.src]).length) (kr rfl rfl) ?_)
   intro a1 a2 aE w hI a3
   have a3:Row 1 a1 ((i++[G.src]).length) a2 aE (al dv (i++[G.src])):=a3.snoc _ rfl
   refine pu (slv a1 ((i++[G.src]).length) a2) rfl (aa (rgn rfl (pu (iv o) rfl (ckE hF (fun aU hF=>?_)))))
   refine ac (cj rfl rfl aU ?_)
   refine pu (iv (o+1)) rfl (aa ?_)
   exact ⟨rfl,m5,Nat.lt_succ_self _,⟨a1,a2,aE,i++[G.src],o+1,m5,⟨rfl,rfl,rfl,trivial⟩,hI.pk [1,2] rfl rfl,(a3.to rfl rfl),hF,rfl⟩⟩
  refine ac (cm rfl rfl (fun h=>absurd h a0) (fun _=>?_))
  refine aa (ai rfl (bw ?_))
  exact .inl ⟨rfl,⟨L,Q,V,i,⟨rfl,rfl,trivial⟩,hI.pk [0,1] rfl rfl,(aC.to rfl rfl),hF⟩⟩
 intro ρ w hJ
 obtain ⟨P,T,U,K,hag,hI,aV,hF⟩:=hJ
 obtain ⟨ρ,rfl⟩:=hag.form; clear hag
 unfold F64j1 at hF
 refine dn (fun ρ w=>∃ (R:Option Nat) (W:Nat) (X:List Value) (M:List Int),cd ρ [(1,.pointer (some ⟨f,0,none⟩)),(3,slv R M.length W)]∧Inv [] w0 w [(some f,blk (ql6 D E s e t x d y A a B F) 28),(R,blk X 3)]∧(Row 1 R (M.length) W X (al dv M))∧F64j2 a N M=some r) ?_ ?_
 ·
  refine ab (rgn rfl (pu (iv 0) rfl (aa (au ?_))))
  refine cb (fun m ρ w=>∃ (O:Option Nat) (S:Nat) (Y:List Value) (l:List Int) (p:Int) (mm:Nat),cd ρ [(1,.pointer (some ⟨f,0,none⟩)),(3,slv O l.length S),(5,iv p)]∧Inv [] w0 w [(some f,blk (ql6 D E s e t x d y A a B F) 28),(O,blk Y 3)]∧(Row 1 O (l.length) S Y (al dv l))∧F64l4 d a N mm l p=some r∧mm=m) (m:=N) ⟨P,T,U,K,0,N,⟨rfl,rfl,rfl,trivial⟩,hI.pk [0,1] rfl rfl,(aV.to rfl rfl),hF,rfl⟩ ?_
  rintro m ρ w ⟨O,S,Y,l,p,mm,hag,hI,aF,hF,hm⟩
  subst hm; obtain ⟨ρ,rfl⟩:=hag.form; clear hag
  obtain _ | m4:=mm
  ·cases (show (none:Option (List Int))=some r from hF)
  replace hF:F64b4 d a N (F64l4 d a N m4) l p=some r:=hF; unfold F64b4 at hF
  refine ab (ab (rgn rfl (pu (iv p) rfl (pu (.pointer (some ⟨f,3,none⟩)) rfl (ac (ag hI 0 (.slice x d.length y) isAgg25 rfl rfl rfl ?_))))))
  refine pu (iv ((d.length:Nat):Int)) (by kernel_rfl) (ifE hF (fun a4 hF=>?_) (fun a4 hF=>?_))
  ·
   refine ac (cm rfl rfl (fun _=>?_) (fun h=>absurd a4 h))
   refine aa (ah rfl (ak (ab (au ?_))))
   refine rgn rfl (pu (slv O l.length S) rfl (pu (.pointer (some ⟨f,3,none⟩)) rfl (ac (ag hI 0 (.slice x d.length y) isAgg25 rfl rfl rfl ?_))))
   refine pu (iv p) rfl (gdE hF (fun aW hF=>?_))
   refine bt hF (fun H aG hF=>?_)
   obtain ⟨aX,aY,aZ,b0,b1⟩:=aM.at_ bf (by decide) aG
   refine ac (cn (p).toNat underlying25 sizeOf31 rfl aZ rfl (Int.toNat_of_nonneg aW).symm (fa aG rfl) ?_)
   refine pu (.pointer (some ⟨aX,aY+(p).toNat * 6,none⟩)) rfl (ac (dj hI (iv H.src) isAgg3 rfl b0 (by simp) (b1 0 _ rfl) ?_))
   refine ac (fu hI [iv H.src] 3 (fun b=>slv (some b) 1 1) (by kernel_rfl) fun bJ w hI=>gdE hF (fun bK hF=>?_))
   refine ac (ks hI underlying41 (z:=iv 0) (k:=1) (bytes:=8) rfl rfl rfl 2 rfl rfl aF [iv H.src] rfl rfl (hI.cells 0 (off:=0) rfl (fun j u h=>by rw [Nat.zero_add]; exact h)) (by simp [Value.oneCell']) (by omega) (by omega) (n2:=(l++[H.src]).length) (kr rfl rfl) ?_)
   intro a5 a6 aH w hI a7
   have a7:Row 1 a5 ((l++[H.src]).length) a6 aH (al dv (l++[H.src])):=a7.snoc _ rfl
   refine pu (slv a5 ((l++[H.src]).length) a6) rfl (aa (rgn rfl (pu (iv p) rfl (ckE hF (fun b2 hF=>?_)))))
   refine ac (cj rfl rfl b2 ?_)
   refine pu (iv (p+1)) rfl (aa ?_)
   exact ⟨rfl,m4,Nat.lt_succ_self _,⟨a5,a6,aH,l++[H.src],p+1,m4,⟨rfl,rfl,rfl,trivial⟩,hI.pk [1,2] rfl rfl,(a7.to rfl rfl),hF,rfl⟩⟩
  refine ac (cm rfl rfl (fun h=>absurd h a4) (fun _=>?_))
  refine aa (ai rfl (bw ?_))
  exact .inl ⟨rfl,⟨O,S,Y,l,⟨rfl,rfl,trivial⟩,hI.pk [0,1] rfl rfl,(aF.to rfl rfl),hF⟩⟩
 intro ρ w hJ
 obtain ⟨R,W,X,M,hag,hI,b3,hF⟩:=hJ
 obtain ⟨ρ,rfl⟩:=hag.form; clear hag
 unfold F64j2 at hF
 refine ab (ab (rgn rfl (pu (iv 0) rfl (aa (au ?_)))))
 refine cb (fun m ρ w=>∃ (C:Option Nat) (I:Nat) (Z:List Value) (g:List Int) (q:Int) (mm:Nat),cd ρ [(1,.pointer (some ⟨f,0,none⟩)),(3,slv C g.length I),(6,iv q)]∧Inv [] w0 w [(some f,blk (ql6 D E s e t x d y A a B F) 28),(C,blk Z 3)]∧(Row 1 C (g.length) I Z (al dv g))∧F64l3 a mm g q=some r∧mm=m) (m:=N) ⟨R,W,X,M,0,N,⟨rfl,rfl,rfl,trivial⟩,hI.pk [0,1] rfl rfl,(b3.to rfl rfl),hF,rfl⟩ ?_
 rintro m ρ w ⟨C,I,Z,g,q,mm,hag,hI,aI,hF,hm⟩
 subst hm; obtain ⟨ρ,rfl⟩:=hag.form; clear hag
 obtain _ | m3:=mm
 ·cases (show (none:Option (List Int))=some r from hF)
 replace hF:F64b3 a (F64l3 a m3) g q=some r:=hF; unfold F64b3 at hF
 refine ab (ab (rgn rfl (pu (iv q) rfl (pu (.pointer (some ⟨f,4,none⟩)) rfl (ac (ag hI 0 (.slice A a.length B) isAgg26 rfl rfl rfl ?_))))))
 refine pu (iv ((a.length:Nat):Int)) (by kernel_rfl) (ifE hF (fun a8 hF=>?_) (fun a8 hF=>?_))
 ·
  refine ac (cm rfl rfl (fun _=>?_) (fun h=>absurd a8 h))
  refine aa (ah rfl (ak (ab (au ?_))))
  refine rgn rfl (pu (slv C g.length I) rfl (pu (.pointer (some ⟨f,4,none⟩)) rfl (ac (ag hI 0 (.slice A a.length B) isAgg26 rfl rfl rfl ?_))))
  refine pu (iv q) rfl (gdE hF (fun b4 hF=>?_))
  refine bt hF (fun J aJ hF=>?_)
  obtain ⟨b5,b6,b7,b8,b9⟩:=aN.at_ gb (by decide) aJ
  refine ac (cn (q).toNat underlying26 sizeOf33 rfl b7 rfl (Int.toNat_of_nonneg b4).symm (fa aJ rfl) ?_)
  refine pu (.pointer (some ⟨b5,b6+(q).toNat * 6,none⟩)) rfl (ac (dj hI (iv J.src) isAgg3 rfl b8 (by simp) (b9 0 _ rfl) ?_))
  refine ac (fu hI [iv J.src] 3 (fun b=>slv (some b) 1 1) (by kernel_rfl) fun bL w hI=>gdE hF (fun bM hF=>?_))
  refine ac (ks hI underlying41 (z:=iv 0) (k:=1) (bytes:=8) rfl rfl rfl 2 rfl rfl aI [iv J.src] rfl rfl (hI.cells 0 (off:=0) rfl (fun j u h=>by rw [Nat.zero_add]; exact h)) (by simp [Value.oneCell']) (by omega) (by omega) (n2:=(g++[J.src]).length) (kr rfl rfl) ?_)
  intro a9 aA aK w hI aB
  have aB:Row 1 a9 ((g++[J.src]).length) aA aK (al dv (g++[J.src])):=aB.snoc _ rfl
  refine pu (slv a9 ((g++[J.src]).length) aA) rfl (aa (rgn rfl (pu (iv q) rfl (ckE hF (fun bA hF=>?_)))))
  refine ac (cj rfl rfl bA ?_)
  refine pu (iv (q+1)) rfl (aa ?_)
  exact ⟨rfl,m3,Nat.lt_succ_self _,⟨a9,aA,aK,g++[J.src],q+1,m3,⟨rfl,rfl,rfl,trivial⟩,hI.pk [1,2] rfl rfl,(aB.to rfl rfl),hF,rfl⟩⟩
 refine ac (cm rfl rfl (fun h=>absurd h a8) (fun _=>?_))
 refine aa (ai rfl (bw ?_))
 refine ab (rgn rfl (pu (slv C g.length I) rfl (pu (slv C g.length I) rfl (aa (aj ?_)))))
 replace hF:=Option.some.inj hF; subst hF
 exact ⟨slv C g.length I,Ret.r1 rfl rfl,⟨C,I,Z,rfl,hI.pk [1] rfl rfl,aI.to rfl rfl⟩⟩


theorem L23 (w0:World) (f:Int) (g:Int) (k:Option Addr) (l:Nat) (a:List Ld) (o:Option Addr) (p:Nat) (d:List Ld) (q:Option Addr) (s:Nat) (e:List Sp) (i:Int) (L:bi w0 k (al eLd a)) (bC:a.length≤9223372036854775807) (bD:a.length≤l) (M:bi w0 o (al eLd d)) (bE:d.length≤9223372036854775807) (bF:d.length≤p) (O:bi w0 q (al eSp e)) (bG:e.length≤9223372036854775807) (bH:e.length≤s) (N:Nat) (r:Int) (hF:F23 N f g a d e i=some r):bn Tryz.prog 23 [.agg (ql6 f g k a l o d p q e s i).toArray] w0 fun v w=>v=.int .i64 r∧Below w0.heap.size w0 w:=by
 refine az (n:=154) func23 rfl ntmps23 rfl ?_
 have hI:=Inv.start w0
 unfold F23 at hF
 refine ab (rgn rfl (ac (ca hI (ql6 f g k a l o d p q e s i) rfl fun j w hI=>pu (iv 0) rfl (aa (ab (ab (rgn rfl (pu (.pointer (some ⟨j,0,none⟩)) rfl (ac (ar hI 0 2 [iv f,iv g] isAgg23 sizeOf23 rfl rfl rfl rfl ?_))))))))))
 refine bt hF (fun cD aH hF=>?_)
 refine ifE hF (fun P hF=>?_) (fun P hF=>?_)
 ·
  refine ac (bg hI 79 [.agg #[iv f,iv g]] kg (by kernel_rfl) (bn.mono (L79 _ (⟨f,g⟩:Rg) _ aH) (fun v' w' h=>⟨h.1.trans (congrArg Value.bool P),h.2⟩)) fun w hI=>pu kf rfl (pu kf rfl (puo (.pointer (some ⟨j,5,none⟩)) ⟨rfl,rfl⟩ (aw rfl (ag hI 0 (iv i) isAgg3 rfl rfl rfl ?_)))))
  refine bt hF (fun cE aI hF=>?_)
  refine ifE hF (fun Q hF=>?_) (fun Q hF=>?_)
  ·
   refine aw rfl (bg hI 80 [iv i,iv 0,iv 60] kg (by kernel_rfl) (bn.mono (L80 _ i 0 60 _ aI) (fun v' w' h=>⟨h.1.trans (congrArg Value.bool Q),h.2⟩)) fun w hI=>puo kf ⟨rfl,rfl⟩ (pu kf rfl (pu kf rfl (puo (.pointer (some ⟨j,2,none⟩)) ⟨rfl,rfl⟩ (aw rfl (ag hI 0 (.slice k a.length l) isAgg24 rfl rfl rfl ?_))))))
   refine puo (iv ((a.length:Nat):Int)) ⟨rfl,(by kernel_rfl)⟩ (ifE hF (fun R hF=>?_) (fun R hF=>?_))
   ·
    refine aw rfl (fh rfl rfl (fun _=>?_) (fun h=>absurd R h))
    refine pu kg rfl (pu kg rfl (sf 4 rfl (pu kg rfl (pu kg rfl (sf 4 rfl (pu kg rfl (aa (ah rfl (ab ?_)))))))))
    refine rgn rfl (pu (iv 13) rfl (aa (aj ?_)))
    replace hF:=Option.some.inj hF; subst hF
    exact ⟨iv 13,Ret.r1 rfl rfl,⟨rfl,hI.below⟩⟩
   refine aw rfl (fh rfl rfl (fun h=>absurd h R) (fun _=>?_))
   refine pu kf rfl (pu kf rfl (puo (.pointer (some ⟨j,3,none⟩)) ⟨rfl,rfl⟩ (aw rfl (ag hI 0 (.slice o d.length p) isAgg25 rfl rfl rfl ?_))))
   refine puo (iv ((d.length:Nat):Int)) ⟨rfl,(by kernel_rfl)⟩ (ifE hF (fun S hF=>?_) (fun S hF=>?_))
   ·
    refine aw rfl (fh rfl rfl (fun _=>?_) (fun h=>absurd S h))
    refine pu kg rfl (pu kg rfl (sf 4 rfl (pu kg rfl (aa (ah rfl (ab (rgn rfl (pu (iv 13) rfl (aa ?_)))))))))
    refine aj ?_
    replace hF:=Option.some.inj hF; subst hF
    exact ⟨iv 13,Ret.r1 rfl rfl,⟨rfl,hI.below⟩⟩
   refine aw rfl (fh rfl rfl (fun h=>absurd h S) (fun _=>?_))
   refine pu kf rfl (pu kf rfl (puo (.pointer (some ⟨j,4,none⟩)) ⟨rfl,rfl⟩ (aw rfl (ag hI 0 (.slice q e.length s) isAgg26 rfl rfl rfl ?_))))
   refine puo (iv ((e.length:Nat):Int)) ⟨rfl,(by kernel_rfl)⟩ (ifE hF (fun T hF=>?_) (fun T hF=>?_))
   ·
    refine aw rfl (fh rfl rfl (fun _=>?_) (fun h=>absurd T h))
    refine pu kg rfl (aa (ah rfl (ab (rgn rfl (pu (iv 13) rfl (aa (aj ?_)))))))
    replace hF:=Option.some.inj hF; subst hF
    exact ⟨iv 13,Ret.r1 rfl rfl,⟨rfl,hI.below⟩⟩
   refine aw rfl (fh rfl rfl (fun h=>absurd h T) (fun _=>?_))
   refine pu kf rfl (aa (ai rfl (ak (dn (fun ρ w=>cd ρ [(1,.pointer (some ⟨j,0,none⟩))]∧Inv [] w0 w [(some j,blk (ql6 f g k a l o d p q e s i) 28)]∧F23j1 f g a d e i N=some r) ?_ ?_))))
   ·
    refine ab (rgn rfl (pu (iv 0) rfl (aa (au ?_))))
    refine cb (fun m ρ w=>∃ (t:Int) (mm:Nat),cd ρ [(1,.pointer (some ⟨j,0,none⟩)),(3,iv t)]∧Inv [] w0 w [(some j,blk (ql6 f g k a l o d p q e s i) 28)]∧F23l9 f g a d e i N mm t=some r∧mm=m) (m:=N) ⟨0,N,⟨rfl,rfl,trivial⟩,hI.pk [0] rfl rfl,hF,rfl⟩ ?_
    rintro m ρ w ⟨t,mm,hag,hI,hF,hm⟩
    subst hm; obtain ⟨ρ,rfl⟩:=hag.form; clear hag
    obtain _ | m9:=mm
    ·cases (show (none:Option Int)=some r from hF)
    replace hF:F23b9 f g a d e i N (F23l9 f g a d e i N m9) t=some r:=hF; unfold F23b9 at hF
    refine ab (ab (rgn rfl (pu (iv t) rfl (pu (.pointer (some ⟨j,2,none⟩)) rfl (ac (ag hI 0 (.slice k a.length l) isAgg24 rfl rfl rfl ?_))))))
    refine pu (iv ((a.length:Nat):Int)) (by kernel_rfl) (ifE hF (fun U hF=>?_) (fun U hF=>?_))
    ·
     refine ac (cm rfl rfl (fun _=>?_) (fun h=>absurd U h))
     refine aa (ah rfl (ak (ab (au ?_))))
     refine dn (fun ρ w=>cd ρ [(1,.pointer (some ⟨j,0,none⟩)),(3,iv t),(69,.bool false)]∧Inv [] w0 w [(some j,blk (ql6 f g k a l o d p q e s i) 28)]∧F23j10 (F23l9 f g a d e i N m9) t=some r) ?_ ?_
     ·
      refine gm 27 hI (by kernel_rfl) ?_
      refine zp (.pointer (some ⟨j,2,none⟩)) (fun _=>rfl) (zc (.slice k a.length l) (fun w hI=>ag hI 0 (.slice k a.length l) isAgg24 rfl rfl rfl br) (zp (iv t) (fun _=>rfl) (gdE hF (fun aJ hF=>?_))))
      refine bt hF (fun y V hF=>?_)
      obtain ⟨W,X,aK,aL,aM⟩:=L.at_ bf (by decide) V
      refine zc (.pointer (some ⟨W,X+(t).toNat * 6,none⟩)) (fun w hI=>cn (t).toNat underlying24 sizeOf30 rfl aK rfl (Int.toNat_of_nonneg aJ).symm (fa V rfl) br) (zc (.agg (eLd y).toArray) (fun w hI=>ef hI (eLd y) isAgg30 sizeOf30 rfl rfl aL (by simp) aM br) (bt hF (fun bI bJ hF=>?_)))
      refine zc (iv bI) (fun w hI=>co 25 [.agg (eLd y).toArray] (by kernel_rfl) (L25 _ y _ bJ) (fun v' w' h=>h)) (ifE hF (fun Y hF=>?_) (fun Y hF=>?_))
      ·
       refine zc kf (fun w hI=>de rfl rfl (fun h=>absurd Y h) (fun _=>br)) (zp kf (fun _=>rfl) (zq (iv t) rfl (fun _=>rfl) (ifE hF (fun Z hF=>?_) (fun Z hF=>?_))))
       ·
        refine zo kg rfl (fun w hI=>fh rfl rfl (fun _=>br) (fun h=>absurd Z h)) (zq kg rfl (fun _=>rfl) (zq (.pointer (some ⟨j,2,none⟩)) rfl (fun _=>rfl) (zo (.slice k a.length l) rfl (fun w hI=>ag hI 0 (.slice k a.length l) isAgg24 rfl rfl rfl br) (zq (iv t) rfl (fun _=>rfl) (ckE hF (fun bK hF=>?_))))))
        refine zo (iv (t - 1)) rfl (fun w hI=>dm rfl rfl bK br) (gdE hF (fun bL hF=>?_))
        refine bt hF (fun aN aO hF=>?_)
        obtain ⟨aP,aQ,bM,bN,bO⟩:=L.at_ bf (by decide) aO
        refine zo (.pointer (some ⟨aP,aQ+((t - 1).toNat) * 6,none⟩)) rfl (fun w hI=>cn ((t - 1).toNat) underlying24 sizeOf30 rfl bM rfl (Int.toNat_of_nonneg bL).symm (fa aO rfl) br) (zq (.pointer (some ⟨aP,aQ+((t - 1).toNat) * 6,none⟩)) rfl (fun _=>rfl) (zo (iv aN.src) rfl (fun w hI=>dj hI (iv aN.src) isAgg3 rfl bN (by simp) (bO 0 _ rfl) br) (zq (.pointer (some ⟨j,2,none⟩)) rfl (fun _=>rfl) (zo (.slice k a.length l) rfl (fun w hI=>ag hI 0 (.slice k a.length l) isAgg24 rfl rfl rfl br) (zq (iv t) rfl (fun _=>rfl) (zo (.pointer (some ⟨W,X+(t).toNat * 6,none⟩)) rfl (fun w hI=>cn (t).toNat underlying24 sizeOf30 rfl aK rfl (Int.toNat_of_nonneg aJ).symm (fa V rfl) br) (zq (.pointer (some ⟨W,X+(t).toNat * 6,none⟩)) rfl (fun _=>rfl) (zo (iv y.src) rfl (fun w hI=>dj hI (iv y.src) isAgg3 rfl aL (by simp) (aM 0 _ rfl) br) (ifE hF (fun a0 hF=>?_) (fun a0 hF=>?_))))))))))
        ·
         refine zo kg rfl (fun w hI=>iq rfl rfl (fun _=>br) (fun h=>absurd a0 h)) (zq kg rfl (fun _=>rfl) (zp kg (fun _=>rfl) (zh (fun w hI=>?_))))
         refine aa (.inr ?_)
         refine ah rfl (ab (rgn rfl (pu (iv 13) rfl (aa (aj ?_)))))
         replace hF:=Option.some.inj hF; subst hF
         exact ⟨iv 13,Ret.r1 rfl rfl,⟨rfl,hI.below⟩⟩
        refine zo kf rfl (fun w hI=>iq rfl rfl (fun h=>absurd h a0) (fun _=>br)) (zq kf rfl (fun _=>rfl) (zp kf (fun _=>rfl) (zh (fun w hI=>?_))))
        refine aa ?_
        exact .inl ⟨rfl,⟨⟨rfl,rfl,rfl,trivial⟩,hI.pk [0] rfl rfl,hF⟩⟩
       refine zo kf rfl (fun w hI=>fh rfl rfl (fun h=>absurd h Z) (fun _=>br)) (zq kf rfl (fun _=>rfl) (zf 14 rfl (zq kf rfl (fun _=>rfl) (zp kf (fun _=>rfl) (zh (fun w hI=>?_))))))
       refine aa ?_
       exact .inl ⟨rfl,⟨⟨rfl,rfl,rfl,trivial⟩,hI.pk [0] rfl rfl,hF⟩⟩
      refine zc kg (fun w hI=>de rfl rfl (fun _=>br) (fun h=>absurd h Y)) (zp kg (fun _=>rfl) (zf 18 rfl (zp kg (fun _=>rfl) (zh (fun w hI=>?_)))))
      refine aa (.inr ?_)
      refine ah rfl (ab (rgn rfl (pu (iv 13) rfl (aa (aj ?_)))))
      replace hF:=Option.some.inj hF; subst hF
      exact ⟨iv 13,Ret.r1 rfl rfl,⟨rfl,hI.below⟩⟩
     intro ρ w hJ
     obtain ⟨hag,hI,hF⟩:=hJ
     obtain ⟨ρ,rfl⟩:=hag.form; clear hag
     unfold F23j10 at hF
     refine ai rfl (ak (rgn rfl (pu (iv t) rfl (ckE hF (fun bP hF=>?_)))))
     refine ac (cj rfl rfl bP ?_)
     refine pu (iv (t+1)) rfl (aa ?_)
     exact ⟨rfl,m9,Nat.lt_succ_self _,⟨t+1,m9,⟨rfl,rfl,trivial⟩,hI.pk [0] rfl rfl,hF,rfl⟩⟩
    refine ac (cm rfl rfl (fun h=>absurd h U) (fun _=>?_))
    refine aa (ai rfl (bw ?_))
    exact .inl ⟨rfl,⟨⟨rfl,trivial⟩,hI.pk [0] rfl rfl,hF⟩⟩
   intro ρ w hJ
   obtain ⟨hag,hI,hF⟩:=hJ
   obtain ⟨ρ,rfl⟩:=hag.form; clear hag
   unfold F23j1 at hF
   refine dn (fun ρ w=>cd ρ [(1,.pointer (some ⟨j,0,none⟩))]∧Inv [] w0 w [(some j,blk (ql6 f g k a l o d p q e s i) 28)]∧F23j2 f g a d e i N=some r) ?_ ?_
   ·
    refine ab (rgn rfl (pu (iv 0) rfl (aa (au ?_))))
    refine cb (fun m ρ w=>∃ (u:Int) (mm:Nat),cd ρ [(1,.pointer (some ⟨j,0,none⟩)),(4,iv u)]∧Inv [] w0 w [(some j,blk (ql6 f g k a l o d p q e s i) 28)]∧F23l7 f g a d e i N mm u=some r∧mm=m) (m:=N) ⟨0,N,⟨rfl,rfl,trivial⟩,hI.pk [0] rfl rfl,hF,rfl⟩ ?_
    rintro m ρ w ⟨u,mm,hag,hI,hF,hm⟩
    subst hm; obtain ⟨ρ,rfl⟩:=hag.form; clear hag
    obtain _ | m7:=mm
    ·cases (show (none:Option Int)=some r from hF)
    replace hF:F23b7 f g a d e i N (F23l7 f g a d e i N m7) u=some r:=hF; unfold F23b7 at hF
    refine ab (ab (rgn rfl (pu (iv u) rfl (pu (.pointer (some ⟨j,3,none⟩)) rfl (ac (ag hI 0 (.slice o d.length p) isAgg25 rfl rfl rfl ?_))))))
    refine pu (iv ((d.length:Nat):Int)) (by kernel_rfl) (ifE hF (fun a1 hF=>?_) (fun a1 hF=>?_))
    ·
     refine ac (cm rfl rfl (fun _=>?_) (fun h=>absurd a1 h))
     refine aa (ah rfl (ak (ab (au ?_))))
     refine dn (fun ρ w=>cd ρ [(1,.pointer (some ⟨j,0,none⟩)),(4,iv u),(103,.bool false)]∧Inv [] w0 w [(some j,blk (ql6 f g k a l o d p q e s i) 28)]∧F23j8 (F23l7 f g a d e i N m7) u=some r) ?_ ?_
     ·
      refine gm 27 hI (by kernel_rfl) ?_
      refine zp (.pointer (some ⟨j,3,none⟩)) (fun _=>rfl) (zc (.slice o d.length p) (fun w hI=>ag hI 0 (.slice o d.length p) isAgg25 rfl rfl rfl br) (zp (iv u) (fun _=>rfl) (gdE hF (fun aR hF=>?_))))
      refine bt hF (fun z a2 hF=>?_)
      obtain ⟨a3,a4,aS,aT,aU⟩:=M.at_ bf (by decide) a2
      refine zc (.pointer (some ⟨a3,a4+(u).toNat * 6,none⟩)) (fun w hI=>cn (u).toNat underlying25 sizeOf31 rfl aS rfl (Int.toNat_of_nonneg aR).symm (fa a2 rfl) br) (zc (.agg (eLd z).toArray) (fun w hI=>ef hI (eLd z) isAgg31 sizeOf31 rfl rfl aT (by simp) aU br) (bt hF (fun bQ bR hF=>?_)))
      refine zc (iv bQ) (fun w hI=>co 27 [.agg (eLd z).toArray] (by kernel_rfl) (L27 _ z _ bR) (fun v' w' h=>h)) (ifE hF (fun a5 hF=>?_) (fun a5 hF=>?_))
      ·
       refine zc kf (fun w hI=>de rfl rfl (fun h=>absurd a5 h) (fun _=>br)) (zp kf (fun _=>rfl) (zq (iv u) rfl (fun _=>rfl) (ifE hF (fun a6 hF=>?_) (fun a6 hF=>?_))))
       ·
        refine zo kg rfl (fun w hI=>fh rfl rfl (fun _=>br) (fun h=>absurd a6 h)) (zq kg rfl (fun _=>rfl) (zq (.pointer (some ⟨j,3,none⟩)) rfl (fun _=>rfl) (zo (.slice o d.length p) rfl (fun w hI=>ag hI 0 (.slice o d.length p) isAgg25 rfl rfl rfl br) (zq (iv u) rfl (fun _=>rfl) (ckE hF (fun bS hF=>?_))))))
        refine zo (iv (u - 1)) rfl (fun w hI=>dm rfl rfl bS br) (gdE hF (fun bT hF=>?_))
        refine bt hF (fun aV aW hF=>?_)
        obtain ⟨aX,aY,bU,bV,bW⟩:=M.at_ bf (by decide) aW
        refine zo (.pointer (some ⟨aX,aY+((u - 1).toNat) * 6,none⟩)) rfl (fun w hI=>cn ((u - 1).toNat) underlying25 sizeOf31 rfl bU rfl (Int.toNat_of_nonneg bT).symm (fa aW rfl) br) (zq (.pointer (some ⟨aX,aY+((u - 1).toNat) * 6,none⟩)) rfl (fun _=>rfl) (zo (iv aV.src) rfl (fun w hI=>dj hI (iv aV.src) isAgg3 rfl bV (by simp) (bW 0 _ rfl) br) (zq (.pointer (some ⟨j,3,none⟩)) rfl (fun _=>rfl) (zo (.slice o d.length p) rfl (fun w hI=>ag hI 0 (.slice o d.length p) isAgg25 rfl rfl rfl br) (zq (iv u) rfl (fun _=>rfl) (zo (.pointer (some ⟨a3,a4+(u).toNat * 6,none⟩)) rfl (fun w hI=>cn (u).toNat underlying25 sizeOf31 rfl aS rfl (Int.toNat_of_nonneg aR).symm (fa a2 rfl) br) (zq (.pointer (some ⟨a3,a4+(u).toNat * 6,none⟩)) rfl (fun _=>rfl) (zo (iv z.src) rfl (fun w hI=>dj hI (iv z.src) isAgg3 rfl aT (by simp) (aU 0 _ rfl) br) (ifE hF (fun a7 hF=>?_) (fun a7 hF=>?_))))))))))
        ·
         refine zo kg rfl (fun w hI=>iq rfl rfl (fun _=>br) (fun h=>absurd a7 h)) (zq kg rfl (fun _=>rfl) (zp kg (fun _=>rfl) (zh (fun w hI=>?_))))
         refine aa (.inr ?_)
         refine ah rfl (ab (rgn rfl (pu (iv 13) rfl (aa (aj ?_)))))
         replace hF:=Option.some.inj hF; subst hF
         exact ⟨iv 13,Ret.r1 rfl rfl,⟨rfl,hI.below⟩⟩
        refine zo kf rfl (fun w hI=>iq rfl rfl (fun h=>absurd h a7) (fun _=>br)) (zq kf rfl (fun _=>rfl) (zp kf (fun _=>rfl) (zh (fun w hI=>?_))))
        refine aa ?_
        exact .inl ⟨rfl,⟨⟨rfl,rfl,rfl,trivial⟩,hI.pk [0] rfl rfl,hF⟩⟩
       refine zo kf rfl (fun w hI=>fh rfl rfl (fun h=>absurd h a6) (fun _=>br)) (zq kf rfl (fun _=>rfl) (zf 14 rfl (zq kf rfl (fun _=>rfl) (zp kf (fun _=>rfl) (zh (fun w hI=>?_))))))
       refine aa ?_
       exact .inl ⟨rfl,⟨⟨rfl,rfl,rfl,trivial⟩,hI.pk [0] rfl rfl,hF⟩⟩
      refine zc kg (fun w hI=>de rfl rfl (fun _=>br) (fun h=>absurd h a5)) (zp kg (fun _=>rfl) (zf 18 rfl (zp kg (fun _=>rfl) (zh (fun w hI=>?_)))))
      refine aa (.inr ?_)
      refine ah rfl (ab (rgn rfl (pu (iv 13) rfl (aa (aj ?_)))))
      replace hF:=Option.some.inj hF; subst hF
      exact ⟨iv 13,Ret.r1 rfl rfl,⟨rfl,hI.below⟩⟩
     intro ρ w hJ
     obtain ⟨hag,hI,hF⟩:=hJ
     obtain ⟨ρ,rfl⟩:=hag.form; clear hag
     unfold F23j8 at hF
     refine ai rfl (ak (rgn rfl (pu (iv u) rfl (ckE hF (fun bX hF=>?_)))))
     refine ac (cj rfl rfl bX ?_)
     refine pu (iv (u+1)) rfl (aa ?_)
     exact ⟨rfl,m7,Nat.lt_succ_self _,⟨u+1,m7,⟨rfl,rfl,trivial⟩,hI.pk [0] rfl rfl,hF,rfl⟩⟩
    refine ac (cm rfl rfl (fun h=>absurd h a1) (fun _=>?_))
    refine aa (ai rfl (bw ?_))
    exact .inl ⟨rfl,⟨⟨rfl,trivial⟩,hI.pk [0] rfl rfl,hF⟩⟩
   intro ρ w hJ
   obtain ⟨hag,hI,hF⟩:=hJ
   obtain ⟨ρ,rfl⟩:=hag.form; clear hag
   unfold F23j2 at hF
   refine dn (fun ρ w=>cd ρ [(1,.pointer (some ⟨j,0,none⟩))]∧Inv [] w0 w [(some j,blk (ql6 f g k a l o d p q e s i) 28)]∧F23j3 f g a d e i N=some r) ?_ ?_
   ·
    refine ab (rgn rfl (pu (iv 0) rfl (aa (au ?_))))
    refine cb (fun m ρ w=>∃ (x:Int) (mm:Nat),cd ρ [(1,.pointer (some ⟨j,0,none⟩)),(5,iv x)]∧Inv [] w0 w [(some j,blk (ql6 f g k a l o d p q e s i) 28)]∧F23l5 f g a d e i N mm x=some r∧mm=m) (m:=N) ⟨0,N,⟨rfl,rfl,trivial⟩,hI.pk [0] rfl rfl,hF,rfl⟩ ?_
    rintro m ρ w ⟨x,mm,hag,hI,hF,hm⟩
    subst hm; obtain ⟨ρ,rfl⟩:=hag.form; clear hag
    obtain _ | m5:=mm
    ·cases (show (none:Option Int)=some r from hF)
    replace hF:F23b5 f g a d e i N (F23l5 f g a d e i N m5) x=some r:=hF; unfold F23b5 at hF
    refine ab (ab (rgn rfl (pu (iv x) rfl (pu (.pointer (some ⟨j,4,none⟩)) rfl (ac (ag hI 0 (.slice q e.length s) isAgg26 rfl rfl rfl ?_))))))
    refine pu (iv ((e.length:Nat):Int)) (by kernel_rfl) (ifE hF (fun a8 hF=>?_) (fun a8 hF=>?_))
    ·
     refine ac (cm rfl rfl (fun _=>?_) (fun h=>absurd a8 h))
     refine aa (ah rfl (ak (ab (au ?_))))
     refine dn (fun ρ w=>cd ρ [(1,.pointer (some ⟨j,0,none⟩)),(5,iv x),(137,.bool false)]∧Inv [] w0 w [(some j,blk (ql6 f g k a l o d p q e s i) 28)]∧F23j6 (F23l5 f g a d e i N m5) x=some r) ?_ ?_
     ·
      refine gm 27 hI (by kernel_rfl) ?_
      refine zp (.pointer (some ⟨j,4,none⟩)) (fun _=>rfl) (zc (.slice q e.length s) (fun w hI=>ag hI 0 (.slice q e.length s) isAgg26 rfl rfl rfl br) (zp (iv x) (fun _=>rfl) (gdE hF (fun aZ hF=>?_))))
      refine bt hF (fun A a9 hF=>?_)
      obtain ⟨aA,aB,b0,b1,b2⟩:=O.at_ gb (by decide) a9
      refine zc (.pointer (some ⟨aA,aB+(x).toNat * 6,none⟩)) (fun w hI=>cn (x).toNat underlying26 sizeOf33 rfl b0 rfl (Int.toNat_of_nonneg aZ).symm (fa a9 rfl) br) (zc (.agg (eSp A).toArray) (fun w hI=>ef hI (eSp A) isAgg33 sizeOf33 rfl rfl b1 (by simp) b2 br) (bt hF (fun bY bZ hF=>?_)))
      refine zc (iv bY) (fun w hI=>co 29 [.agg (eSp A).toArray] (by kernel_rfl) (L29 _ A _ bZ) (fun v' w' h=>h)) (ifE hF (fun aC hF=>?_) (fun aC hF=>?_))
      ·
       refine zc kf (fun w hI=>de rfl rfl (fun h=>absurd aC h) (fun _=>br)) (zp kf (fun _=>rfl) (zq (iv x) rfl (fun _=>rfl) (ifE hF (fun aD hF=>?_) (fun aD hF=>?_))))
       ·
        refine zo kg rfl (fun w hI=>fh rfl rfl (fun _=>br) (fun h=>absurd aD h)) (zq kg rfl (fun _=>rfl) (zq (.pointer (some ⟨j,4,none⟩)) rfl (fun _=>rfl) (zo (.slice q e.length s) rfl (fun w hI=>ag hI 0 (.slice q e.length s) isAgg26 rfl rfl rfl br) (zq (iv x) rfl (fun _=>rfl) (ckE hF (fun c0 hF=>?_))))))
        refine zo (iv (x - 1)) rfl (fun w hI=>dm rfl rfl c0 br) (gdE hF (fun c1 hF=>?_))
        refine bt hF (fun b3 b4 hF=>?_)
        obtain ⟨b5,b6,c2,c4,c5⟩:=O.at_ gb (by decide) b4
        refine zo (.pointer (some ⟨b5,b6+((x - 1).toNat) * 6,none⟩)) rfl (fun w hI=>cn ((x - 1).toNat) underlying26 sizeOf33 rfl c2 rfl (Int.toNat_of_nonneg c1).symm (fa b4 rfl) br) (zq (.pointer (some ⟨b5,b6+((x - 1).toNat) * 6,none⟩)) rfl (fun _=>rfl) (zo (iv b3.src) rfl (fun w hI=>dj hI (iv b3.src) isAgg3 rfl c4 (by simp) (c5 0 _ rfl) br) (zq (.pointer (some ⟨j,4,none⟩)) rfl (fun _=>rfl) (zo (.slice q e.length s) rfl (fun w hI=>ag hI 0 (.slice q e.length s) isAgg26 rfl rfl rfl br) (zq (iv x) rfl (fun _=>rfl) (zo (.pointer (some ⟨aA,aB+(x).toNat * 6,none⟩)) rfl (fun w hI=>cn (x).toNat underlying26 sizeOf33 rfl b0 rfl (Int.toNat_of_nonneg aZ).symm (fa a9 rfl) br) (zq (.pointer (some ⟨aA,aB+(x).toNat * 6,none⟩)) rfl (fun _=>rfl) (zo (iv A.src) rfl (fun w hI=>dj hI (iv A.src) isAgg3 rfl b1 (by simp) (b2 0 _ rfl) br) (ifE hF (fun aE hF=>?_) (fun aE hF=>?_))))))))))
        ·
         refine zo kg rfl (fun w hI=>iq rfl rfl (fun _=>br) (fun h=>absurd aE h)) (zq kg rfl (fun _=>rfl) (zp kg (fun _=>rfl) (zh (fun w hI=>?_))))
         refine aa (.inr ?_)
         refine ah rfl (ab (rgn rfl (pu (iv 13) rfl (aa (aj ?_)))))
         replace hF:=Option.some.inj hF; subst hF
         exact ⟨iv 13,Ret.r1 rfl rfl,⟨rfl,hI.below⟩⟩
        refine zo kf rfl (fun w hI=>iq rfl rfl (fun h=>absurd h aE) (fun _=>br)) (zq kf rfl (fun _=>rfl) (zp kf (fun _=>rfl) (zh (fun w hI=>?_))))
        refine aa ?_
        exact .inl ⟨rfl,⟨⟨rfl,rfl,rfl,trivial⟩,hI.pk [0] rfl rfl,hF⟩⟩
       refine zo kf rfl (fun w hI=>fh rfl rfl (fun h=>absurd h aD) (fun _=>br)) (zq kf rfl (fun _=>rfl) (zf 14 rfl (zq kf rfl (fun _=>rfl) (zp kf (fun _=>rfl) (zh (fun w hI=>?_))))))
       refine aa ?_
       exact .inl ⟨rfl,⟨⟨rfl,rfl,rfl,trivial⟩,hI.pk [0] rfl rfl,hF⟩⟩
      refine zc kg (fun w hI=>de rfl rfl (fun _=>br) (fun h=>absurd h aC)) (zp kg (fun _=>rfl) (zf 18 rfl (zp kg (fun _=>rfl) (zh (fun w hI=>?_)))))
      refine aa (.inr ?_)
      refine ah rfl (ab (rgn rfl (pu (iv 13) rfl (aa (aj ?_)))))
      replace hF:=Option.some.inj hF; subst hF
      exact ⟨iv 13,Ret.r1 rfl rfl,⟨rfl,hI.below⟩⟩
     intro ρ w hJ
     obtain ⟨hag,hI,hF⟩:=hJ
     obtain ⟨ρ,rfl⟩:=hag.form; clear hag
     unfold F23j6 at hF
     refine ai rfl (ak (rgn rfl (pu (iv x) rfl (ckE hF (fun c6 hF=>?_)))))
     refine ac (cj rfl rfl c6 ?_)
     refine pu (iv (x+1)) rfl (aa ?_)
     exact ⟨rfl,m5,Nat.lt_succ_self _,⟨x+1,m5,⟨rfl,rfl,trivial⟩,hI.pk [0] rfl rfl,hF,rfl⟩⟩
    refine ac (cm rfl rfl (fun h=>absurd h a8) (fun _=>?_))
    refine aa (ai rfl (bw ?_))
    exact .inl ⟨rfl,⟨⟨rfl,trivial⟩,hI.pk [0] rfl rfl,hF⟩⟩
   intro ρ w hJ
   obtain ⟨hag,hI,hF⟩:=hJ
   obtain ⟨ρ,rfl⟩:=hag.form; clear hag
   unfold F23j3 at hF
   refine ab (rgn rfl (ac (ar hI 0 6 (ql6 f g k a l o d p q e s i) isAgg28 sizeOf28 rfl rfl rfl rfl ?_)))
   refine bt hF (fun C c7 hF=>?_)
   refine ac (co 64 [.agg (ql6 f g k a l o d p q e s i).toArray] (by kernel_rfl) (L64 _ f g k l a o p d q s e i (L.inv0 hI) bC bD (M.inv0 hI) bE bF (O.inv0 hI) bG bH N _ c7) ?_)
   rintro v w ⟨b7,b8,c8,rfl,hN,c9⟩
   have hI:=hI.join hN; clear hN
   refine pu (slv b7 C.length b8) rfl (aa (ab (ab (rgn rfl (pu (iv 0) rfl (aa (au ?_)))))))
   refine cb (fun m ρ w=>∃ (F:Option Nat) (D:Nat) (I:List Value) (B:Int) (mm:Nat),cd ρ [(6,slv F C.length D),(7,iv B)]∧Inv [] w0 w [(F,blk I 3)]∧(Row 1 F (C.length) D I (al dv C))∧F23l4 N C mm B=some r∧mm=m) (m:=N) ⟨b7,b8,c8,0,N,⟨rfl,rfl,trivial⟩,hI.pk [0] rfl rfl,(c9.to rfl rfl),hF,rfl⟩ ?_
   rintro m ρ w ⟨F,D,I,B,mm,hag,hI,J,hF,hm⟩
   subst hm; obtain ⟨ρ,rfl⟩:=hag.form; clear hag
   obtain _ | m4:=mm
   ·cases (show (none:Option Int)=some r from hF)
   replace hF:F23b4 N C (F23l4 N C m4) B=some r:=hF; unfold F23b4 at hF
   refine ab (ab (rgn rfl (pu (iv B) rfl (pu (slv F C.length D) rfl (pu (iv ((C.length:Nat):Int)) (by kernel_rfl) (ifE hF (fun aF hF=>?_) (fun aF hF=>?_)))))))
   ·
    refine ac (cm rfl rfl (fun _=>?_) (fun h=>absurd aF h))
    refine aa (ah rfl (ak (ab (au ?_))))
    refine ab (gm 8 hI (by kernel_rfl) ?_)
    refine zp (slv F C.length D) (fun _=>rfl) (zp (iv B) (fun _=>rfl) (gdE hF (fun cA hF=>?_)))
    obtain ⟨E,rfl⟩:=J.some_ (len_ge rfl cA)
    refine gdE hF (fun b9 hF=>?_)
    refine gdE hF (fun K hF=>?_)
    have G:Row 1 (some E) (C.take (B).toNat).length D I (al dv (C.take (B).toNat)):=(J.cut cy (by decide) (B).toNat (len_ge rfl K)).to rfl (take_len2 K)
    refine zc (slv (some E) ((C.take (B).toNat).length) D) (fun w hI=>s_sliceHiN underlying41 sizeOf3 rfl (congrArg (Value.int .i64) (Int.toNat_of_nonneg b9).symm) (take_len2 K) (Nat.le_trans K (am rfl J.cap)) br) (zp (slv (some E) C.length D) (fun _=>rfl) (zp (iv B) (fun _=>rfl) (bt hF (fun H bA hF=>?_))))
    have cB:=J.atS cy (by decide) bA
    refine zc (.pointer (some ⟨E,(B).toNat * 1,none⟩)) (fun w hI=>be (B).toNat underlying41 sizeOf3 rfl rfl (Int.toNat_of_nonneg b9).symm (fa bA rfl) br) (zc (iv H) (fun w hI=>db hI 0 (iv H) isAgg3 rfl rfl (cB 0 _ rfl) br) (bt hF (fun cF bB hF=>?_)))
    refine ifE hF (fun aG hF=>?_) (fun aG hF=>?_)
    ·
     refine zc kg (fun w hI=>co 59 [slv (some E) ((C.take (B).toNat).length) D,iv H] (by kernel_rfl) (bn.mono (L59 _ ((some E).map fun b=>⟨b,0,none⟩) D (C.take (B).toNat) H (hI.rowCells 0 rfl G) (am rfl G.big) (am rfl G.cap) N _ bB) (fun v' w' h=>⟨h.1.trans (congrArg Value.bool aG),h.2⟩)) (fun v' w' h=>h)) (zh (fun w hI=>?_))
     refine aa (ah rfl (ab (rgn rfl (pu (iv 13) rfl (aa (aj ?_))))))
     replace hF:=Option.some.inj hF; subst hF
     exact ⟨iv 13,Ret.r1 rfl rfl,⟨rfl,hI.below⟩⟩
    refine zc kf (fun w hI=>co 59 [slv (some E) ((C.take (B).toNat).length) D,iv H] (by kernel_rfl) (bn.mono (L59 _ ((some E).map fun b=>⟨b,0,none⟩) D (C.take (B).toNat) H (hI.rowCells 0 rfl G) (am rfl G.big) (am rfl G.cap) N _ bB) (fun v' w' h=>⟨h.1.trans (congrArg Value.bool (Bool.eq_false_iff.2 aG)),h.2⟩)) (fun v' w' h=>h)) (zh (fun w hI=>?_))
    refine aa (ai rfl (ak (rgn rfl (pu (iv B) rfl (ckE hF (fun cC hF=>?_))))))
    refine ac (cj rfl rfl cC ?_)
    refine pu (iv (B+1)) rfl (aa ?_)
    exact ⟨rfl,m4,Nat.lt_succ_self _,⟨some E,D,I,B+1,m4,⟨rfl,rfl,trivial⟩,hI.pk [0] rfl rfl,(J.to rfl rfl),hF,rfl⟩⟩
   refine ac (cm rfl rfl (fun h=>absurd h aF) (fun _=>?_))
   refine aa (ai rfl (bw ?_))
   refine ab (rgn rfl (pu (iv 0) rfl (aa (aj ?_))))
   replace hF:=Option.some.inj hF; subst hF
   exact ⟨iv 0,Ret.r1 rfl rfl,⟨rfl,hI.below⟩⟩
  refine aw rfl (bg hI 80 [iv i,iv 0,iv 60] kf (by kernel_rfl) (bn.mono (L80 _ i 0 60 _ aI) (fun v' w' h=>⟨h.1.trans (congrArg Value.bool (Bool.eq_false_iff.2 Q)),h.2⟩)) fun w hI=>puo kg ⟨rfl,rfl⟩ (pu kg rfl (pu kg rfl (sf 4 rfl (pu kg rfl (pu kg rfl (sf 4 rfl (pu kg rfl (pu kg rfl (of_ rfl ?_))))))))))
  refine sf 3 rfl (pu kg rfl (aa (ah rfl (ab (rgn rfl (pu (iv 13) rfl (aa (aj ?_))))))))
  replace hF:=Option.some.inj hF; subst hF
  exact ⟨iv 13,Ret.r1 rfl rfl,⟨rfl,hI.below⟩⟩
 refine ac (bg hI 79 [.agg #[iv f,iv g]] kf (by kernel_rfl) (bn.mono (L79 _ (⟨f,g⟩:Rg) _ aH) (fun v' w' h=>⟨h.1.trans (congrArg Value.bool (Bool.eq_false_iff.2 P)),h.2⟩)) fun w hI=>pu kg rfl (pu kg rfl (sf 4 rfl (pu kg rfl (pu kg rfl (sf 4 rfl (pu kg rfl (pu kg rfl (sf 4 rfl (pu kg rfl ?_))))))))))
 refine pu kg rfl (sf 4 rfl (pu kg rfl (aa (ah rfl (ab (rgn rfl (pu (iv 13) rfl (aa (aj ?_)))))))))
 replace hF:=Option.some.inj hF; subst hF
 exact ⟨iv 13,Ret.r1 rfl rfl,⟨rfl,hI.below⟩⟩


theorem L88 (w0:World) (g:Int) (i:Int) (j:Option Addr) (k:Nat) (a:List Ld) (l:Option Addr) (m:Nat) (b:List Ld) (o:Option Addr) (p:Nat) (d:List Sp) (q:Int) (e:Int) (f:Int) (z:bi w0 j (al eLd a)) (A:a.length≤9223372036854775807) (B:a.length≤k) (C:bi w0 l (al eLd b)) (D:b.length≤9223372036854775807) (E:b.length≤m) (F:bi w0 o (al eSp d)) (G:d.length≤9223372036854775807) (H:d.length≤p) (N:Nat) (r:Int) (hF:F88 N g i a b d q e f=some r):bn Tryz.prog 88 [.agg (ql6 g i j a k l b m o d p q).toArray,.int .i64 e,.int .i64 f] w0 fun v w=>v=.int .i64 r∧Below w0.heap.size w0 w:=by
 refine az (n:=16) func88 rfl ntmps88 rfl ?_
 have hI:=Inv.start w0
 unfold F88 at hF
 refine ab (rgn rfl (ac (ca hI (ql6 g i j a k l b m o d p q) rfl fun K w hI=>pu (iv 0) rfl (aa (ab (ab (rgn rfl (ac (ar hI 0 6 (ql6 g i j a k l b m o d p q) isAgg28 sizeOf28 rfl rfl rfl rfl ?_)))))))))
 refine bt hF (fun I J hF=>?_)
 refine ac (bg hI 23 [.agg (ql6 g i j a k l b m o d p q).toArray] (iv I) (by kernel_rfl) (L23 _ g i j k a l m b o p d q (z.inv0 hI) A B (C.inv0 hI) D E (F.inv0 hI) G H N _ J) fun w hI=>ifE hF (fun s hF=>?_) (fun s hF=>?_))
 ·
  refine ac (de rfl rfl (fun h=>absurd s h) (fun _=>?_))
  refine aa (ai rfl (ak (ab (ab (rgn rfl (pu (iv e) rfl (bt hF (fun L x hF=>?_))))))))
  refine ifE hF (fun t hF=>?_) (fun t hF=>?_)
  ·
   refine ac (bg hI 80 [iv e,iv 0,iv 99999] kg (by kernel_rfl) (bn.mono (L80 _ e 0 99999 _ x) (fun v' w' h=>⟨h.1.trans (congrArg Value.bool t),h.2⟩)) fun w hI=>pu kf rfl (aa (ai rfl (ak (ab (ab (rgn rfl (pu (iv f) rfl (bt hF (fun M y hF=>?_))))))))))
   refine ifE hF (fun u hF=>?_) (fun u hF=>?_)
   ·
    refine ac (bg hI 140 [iv f] kg (by kernel_rfl) (bn.mono (L140 _ f _ y) (fun v' w' h=>⟨h.1.trans (congrArg Value.bool u),h.2⟩)) fun w hI=>pu kf rfl (aa (ai rfl (ak (ab (rgn rfl (pu (iv 0) rfl (aa (aj ?_)))))))))
    replace hF:=Option.some.inj hF; subst hF
    exact ⟨iv 0,Ret.r1 rfl rfl,⟨rfl,hI.below⟩⟩
   refine ac (bg hI 140 [iv f] kf (by kernel_rfl) (bn.mono (L140 _ f _ y) (fun v' w' h=>⟨h.1.trans (congrArg Value.bool (Bool.eq_false_iff.2 u)),h.2⟩)) fun w hI=>pu kg rfl (aa (ah rfl (ab (rgn rfl (pu (iv 6) rfl (aa (aj ?_))))))))
   replace hF:=Option.some.inj hF; subst hF
   exact ⟨iv 6,Ret.r1 rfl rfl,⟨rfl,hI.below⟩⟩
  refine ac (bg hI 80 [iv e,iv 0,iv 99999] kf (by kernel_rfl) (bn.mono (L80 _ e 0 99999 _ x) (fun v' w' h=>⟨h.1.trans (congrArg Value.bool (Bool.eq_false_iff.2 t)),h.2⟩)) fun w hI=>pu kg rfl (aa (ah rfl (ab (rgn rfl (pu (iv 7) rfl (aa (aj ?_))))))))
  replace hF:=Option.some.inj hF; subst hF
  exact ⟨iv 7,Ret.r1 rfl rfl,⟨rfl,hI.below⟩⟩
 refine ac (de rfl rfl (fun _=>?_) (fun h=>absurd h s))
 refine aa (ah rfl (ab (rgn rfl (pu (iv 13) rfl (aa (aj ?_))))))
 replace hF:=Option.some.inj hF; subst hF
 exact ⟨iv 13,Ret.r1 rfl rfl,⟨rfl,hI.below⟩⟩


theorem L100 (w0:World) (f:Option Addr) (g:Nat) (b:List Ld) (i:Option Addr) (j:Nat) (d:List Rg) (e:Int) (q:bi w0 f (al eLd b)) (C:b.length≤9223372036854775807) (D:b.length≤g) (E:bi w0 i (al eRg d)) (F:d.length≤9223372036854775807) (G:d.length≤j) (N:Nat) (r:Int) (hF:F100 N b d e=some r):bn Tryz.prog 100 [.agg #[.slice f b.length g,.slice i d.length j],.int .i64 e] w0 fun v w=>v=.int .i64 r∧Below w0.heap.size w0 w:=by
 refine az (n:=24) func100 rfl ntmps100 rfl ?_
 have hI:=Inv.start w0
 unfold F100 at hF
 refine ab (rgn rfl (ac (ca hI [.slice f b.length g,.slice i d.length j] rfl fun k w hI=>pu (iv 0) rfl (aa (ab (rgn rfl (pu (iv 0) rfl (aa (ab (au ?_))))))))))
 refine cb (fun m ρ w=>∃ (a:Int) (mm:Nat),cd ρ [(1,iv e),(2,.pointer (some ⟨k,0,none⟩)),(5,iv a)]∧Inv [] w0 w [(some k,blk [.slice f b.length g,.slice i d.length j] 132)]∧F100l1 b e mm a=some r∧mm=m) (m:=N) ⟨0,N,⟨rfl,rfl,rfl,trivial⟩,hI.pk [0] rfl rfl,hF,rfl⟩ ?_
 rintro m ρ w ⟨a,mm,hag,hI,hF,hm⟩
 subst hm; obtain ⟨ρ,rfl⟩:=hag.form; clear hag
 obtain _ | m1:=mm
 ·cases (show (none:Option Int)=some r from hF)
 replace hF:F100b1 b e (F100l1 b e m1) a=some r:=hF; unfold F100b1 at hF
 refine ab (ab (rgn rfl (pu (iv a) rfl (pu (.pointer (some ⟨k,0,none⟩)) rfl (ac (ag hI 0 (.slice f b.length g) isAgg24 rfl rfl rfl ?_))))))
 refine pu (iv ((b.length:Nat):Int)) (by kernel_rfl) (ifE hF (fun l hF=>?_) (fun l hF=>?_))
 ·
  refine ac (cm rfl rfl (fun _=>?_) (fun h=>absurd l h))
  refine pu kg rfl (puo (.pointer (some ⟨k,0,none⟩)) ⟨rfl,rfl⟩ (aw rfl (ag hI 0 (.slice f b.length g) isAgg24 rfl rfl rfl ?_)))
  refine puo (iv a) ⟨rfl,rfl⟩ (gdE hF (fun s hF=>?_))
  refine bt hF (fun t p hF=>?_)
  obtain ⟨u,x,y,z,A⟩:=q.at_ bf (by decide) p
  refine aw rfl (cn (a).toNat underlying24 sizeOf30 rfl y rfl (Int.toNat_of_nonneg s).symm (fa p rfl) ?_)
  refine puo (.pointer (some ⟨u,x+(a).toNat * 6+1,none⟩)) ⟨rfl,rfl⟩ (aw rfl (dj hI (iv t.hr) isAgg3 rfl z (by simp) (A 1 _ rfl) ?_))
  refine puo (iv e) ⟨rfl,rfl⟩ (ifE hF (fun o hF=>?_) (fun o hF=>?_))
  ·
   refine aw rfl (fq rfl rfl (fun _=>?_) (fun h=>absurd o h))
   refine pu kg rfl (aa (ah rfl (ak (au ?_))))
   refine rgn rfl (pu (iv a) rfl (ckE hF (fun B hF=>?_)))
   refine ac (cj rfl rfl B ?_)
   refine pu (iv (a+1)) rfl (aa ?_)
   exact ⟨rfl,m1,Nat.lt_succ_self _,⟨a+1,m1,⟨rfl,rfl,rfl,trivial⟩,hI.pk [0] rfl rfl,hF,rfl⟩⟩
  refine aw rfl (fq rfl rfl (fun h=>absurd h o) (fun _=>?_))
  refine pu kf rfl (aa (ai rfl (bw ?_)))
  refine ab (rgn rfl (pu (iv a) rfl (pu (iv a) rfl (aa (aj ?_)))))
  replace hF:=Option.some.inj hF; subst hF
  exact ⟨iv a,Ret.r1 rfl rfl,⟨rfl,hI.below⟩⟩
 refine ac (cm rfl rfl (fun h=>absurd h l) (fun _=>?_))
 refine pu kf rfl (sf 8 rfl (pu kf rfl (aa (ai rfl (bw ?_)))))
 refine ab (rgn rfl (pu (iv a) rfl (pu (iv a) rfl (aa (aj ?_)))))
 replace hF:=Option.some.inj hF; subst hF
 exact ⟨iv a,Ret.r1 rfl rfl,⟨rfl,hI.below⟩⟩


theorem L147 (w0:World) (d:Int) (a:Int) (b:Int) (r:Bool) (hF:F147 d a b=some r):bn Tryz.prog 147 [.int .i64 d,.int .i64 a,.int .i64 b] w0 fun v w=>v=.bool r∧Below w0.heap.size w0 w:=by
 refine az (n:=19) func147 rfl ntmps147 rfl ?_
 have hI:=Inv.start w0
 unfold F147 at hF
 refine ab (rgn rfl (pu kf rfl (aa (ab (rgn rfl (pu (iv d) rfl (pu (iv b) rfl (ifE hF (fun e hF=>?_) (fun e hF=>?_)))))))))
 ·
  refine ac (fq rfl rfl (fun _=>?_) (fun h=>absurd e h))
  refine pu kg rfl (puo (iv a) ⟨rfl,rfl⟩ (ifE hF (fun f hF=>?_) (fun f hF=>?_)))
  ·
   refine aw rfl (di rfl rfl (fun _=>?_) (fun h=>absurd f h))
   refine puo kg ⟨rfl,rfl⟩ (sf 3 rfl (puo kg ⟨rfl,rfl⟩ (pu kg rfl (pu kg rfl (aa (aj ?_))))))
   replace hF:=Option.some.inj hF; subst hF
   exact ⟨.bool true,Ret.r1 rfl rfl,⟨rfl,hI.below⟩⟩
  refine aw rfl (di rfl rfl (fun h=>absurd h f) (fun _=>?_))
  refine puo kf ⟨rfl,rfl⟩ (puo (iv a) ⟨rfl,rfl⟩ (puo (iv b) ⟨rfl,rfl⟩ (ifE hF (fun g hF=>?_) (fun g hF=>?_))))
  ·
   refine aw rfl (fh rfl rfl (fun _=>?_) (fun h=>absurd g h))
   refine puo kg ⟨rfl,rfl⟩ (pu kg rfl (pu kg rfl (aa (aj ?_))))
   replace hF:=Option.some.inj hF; subst hF
   exact ⟨.bool true,Ret.r1 rfl rfl,⟨rfl,hI.below⟩⟩
  refine aw rfl (fh rfl rfl (fun h=>absurd h g) (fun _=>?_))
  refine puo kf ⟨rfl,rfl⟩ (pu kf rfl (pu kf rfl (aa (aj ?_))))
  replace hF:=Option.some.inj hF; subst hF
  exact ⟨.bool false,Ret.r1 rfl rfl,⟨rfl,hI.below⟩⟩
 refine ac (fq rfl rfl (fun h=>absurd h e) (fun _=>?_))
 refine pu kf rfl (sf 3 rfl (dk rfl ?_))
 refine dk rfl ?_
 refine dk rfl ?_
 refine of_ rfl (pu kf rfl (pu kf rfl (aa (aj ?_))))
 replace hF:=Option.some.inj hF; subst hF
 exact ⟨.bool false,Ret.r1 rfl rfl,⟨rfl,hI.below⟩⟩


theorem L104 (w0:World) (D:Int) (E:Int) (x:Option Addr) (A:Nat) (f:List Ld) (F:Option Addr) (G:Nat) (s:List Ld) (H:Option Addr) (I:Nat) (t:List Sp) (J:Int) (i:Int) (aT:bi w0 x (al eLd f)) (b5:f.length≤9223372036854775807) (b6:f.length≤A) (b7:bi w0 F (al eLd s)) (b8:s.length≤9223372036854775807) (b9:s.length≤G) (bA:bi w0 H (al eSp t)) (bB:t.length≤9223372036854775807) (bC:t.length≤I) (N:Nat) (r:List Ld) (hF:F104 N D E f s t J i=some r):bn Tryz.prog 104 [.agg (ql6 D E x f A F s G H t I J).toArray,.int .i64 i] w0 fun v w=>∃ (z0:Option Nat) (z1:Nat) (z2:List Value),v=slv z0 r.length z1∧Inv [] w0 w [(z0,blk z2 30)]∧Row 6 z0 r.length z1 z2 (al eLd r):=by
 refine az (n:=57) func104 rfl ntmps104 rfl ?_
 have hI:=Inv.start w0
 unfold F104 at hF
 refine ab (rgn rfl (ac (ca hI (ql6 D E x f A F s G H t I J) rfl fun p w hI=>pu (.slice none 0 0) rfl (aa (ab (rgn rfl (pu (.slice none 0 0) rfl (aa (ab (ab (rgn rfl (pu (iv 0) rfl ?_))))))))))))
 refine aa (au ?_)
 have hI:=hI.nilRow 30
 refine cb (fun m ρ w=>∃ (C:Option Nat) (L:Nat) (S:List Value) (d:List Ld) (l:Int) (mm:Nat),cd ρ [(1,iv i),(2,.pointer (some ⟨p,0,none⟩)),(5,slv C d.length L),(6,iv l)]∧Inv [] w0 w [(some p,blk (ql6 D E x f A F s G H t I J) 28),(C,blk S 30)]∧(Row 6 C (d.length) L S (al eLd d))∧F104l1 f i N mm d l=some r∧mm=m) (m:=N) ⟨none,0,[],[],0,N,⟨rfl,rfl,rfl,rfl,trivial⟩,hI.pk [1,0] rfl rfl,(Row.nil_ 6),hF,rfl⟩ ?_
 rintro m ρ w ⟨C,L,S,d,l,mm,hag,hI,aB,hF,hm⟩
 subst hm; obtain ⟨ρ,rfl⟩:=hag.form; clear hag
 obtain _ | m1:=mm
 ·cases (show (none:Option (List Ld))=some r from hF)
 replace hF:F104b1 f i N (F104l1 f i N m1) d l=some r:=hF; unfold F104b1 at hF
 refine ab (ab (rgn rfl (pu (iv l) rfl (pu (.pointer (some ⟨p,2,none⟩)) rfl (ac (ag hI 0 (.slice x f.length A) isAgg24 rfl rfl rfl ?_))))))
 refine pu (iv ((f.length:Nat):Int)) (by kernel_rfl) (ifE hF (fun aC hF=>?_) (fun aC hF=>?_))
 ·
  refine ac (cm rfl rfl (fun _=>?_) (fun h=>absurd aC h))
  refine aa (ah rfl (ak (dn (fun ρ w=>∃ (V:Option Nat) (a2:Nat) (a3:List Value) (T:List Ld),cd ρ [(1,iv i),(2,.pointer (some ⟨p,0,none⟩)),(5,slv V T.length a2),(6,iv l)]∧Inv [] w0 w [(some p,blk (ql6 D E x f A F s G H t I J) 28),(V,blk a3 30)]∧(Row 6 V (T.length) a2 a3 (al eLd T))∧F104j2 (F104l1 f i N m1) l T=some r) ?_ ?_)))
  ·
   refine au ?_
   refine ab (rgn rfl (pu (.pointer (some ⟨p,2,none⟩)) rfl (ac (ag hI 0 (.slice x f.length A) isAgg24 rfl rfl rfl ?_))))
   refine pu (iv l) rfl (gdE hF (fun aU hF=>?_))
   refine bt hF (fun a aM hF=>?_)
   obtain ⟨bD,bE,aV,aW,aX⟩:=aT.at_ bf (by decide) aM
   refine ac (cn (l).toNat underlying24 sizeOf30 rfl aV rfl (Int.toNat_of_nonneg aU).symm (fa aM rfl) ?_)
   refine ac (ef hI (eLd a) isAgg30 sizeOf30 rfl rfl aW (by simp) aX ?_)
   refine ac (bh hI [iv 0,iv 0,iv 0,iv 0,iv 0,iv 0] zeroValue30 rfl fun B w hI=>ac (aq hI 0 6 (eLd a) sizeOf30 rfl rfl rfl rfl rfl (kh rfl) fun w hI=>aa (ab (ab (rgn rfl (pu (.pointer (some ⟨B,4,none⟩)) rfl (ac (ag hI 0 (iv a.kn) isAgg3 rfl rfl rfl ?_))))))))
   refine pu (.pointer (some ⟨B,5,none⟩)) rfl (ac (ag hI 0 (iv a.un) isAgg3 rfl rfl rfl ?_))
   refine pu (iv i) rfl (bt hF (fun bF aN hF=>?_))
   refine ifE hF (fun aD hF=>?_) (fun aD hF=>?_)
   ·
    refine ac (bg hI 147 [iv a.kn,iv a.un,iv i] kg (by kernel_rfl) (bn.mono (L147 _ a.kn a.un i _ aN) (fun v' w' h=>⟨h.1.trans (congrArg Value.bool aD),h.2⟩)) fun w hI=>pu kf rfl (aa (ai rfl (ak (ab (rgn rfl (pu (iv 0) rfl (aa (dn (fun ρ w=>∃ (q:Option Nat) (M:Nat) (O:List Value) (e:Int),cd ρ [(1,iv i),(2,.pointer (some ⟨p,0,none⟩)),(5,slv q d.length M),(6,iv l),(7,.pointer (some ⟨B,0,none⟩)),(8,iv e)]∧Inv [] w0 w [(some p,blk (ql6 D E x f A F s G H t I J) 28),(q,blk O 30),(some B,blk (eLd a) 30)]∧(Row 6 q (d.length) M O (al eLd d))∧F104j3 (F104l1 f i N m1) d l a e=some r) ?_ ?_)))))))))
    ·
     refine au ?_
     refine cb (fun m ρ w=>∃ (Q:Option Nat) (P:Nat) (U:List Value) (o:Int) (mm:Nat),cd ρ [(1,iv i),(2,.pointer (some ⟨p,0,none⟩)),(5,slv Q d.length P),(6,iv l),(7,.pointer (some ⟨B,0,none⟩)),(8,iv o)]∧Inv [] w0 w [(some p,blk (ql6 D E x f A F s G H t I J) 28),(Q,blk U 30),(some B,blk (eLd a) 30)]∧(Row 6 Q (d.length) P U (al eLd d))∧F104l4 (F104l1 f i N m1) d l a mm o=some r∧mm=m) (m:=N) ⟨C,L,S,0,N,⟨rfl,rfl,rfl,rfl,rfl,rfl,trivial⟩,hI.pk [1,2,0] rfl rfl,(aB.to rfl rfl),hF,rfl⟩ ?_
     rintro m ρ w ⟨Q,P,U,o,mm,hag,hI,a4,hF,hm⟩
     subst hm; obtain ⟨ρ,rfl⟩:=hag.form; clear hag
     obtain _ | m4:=mm
     ·cases (show (none:Option (List Ld))=some r from hF)
     replace hF:F104b4 (F104l1 f i N m1) d l a (F104l4 (F104l1 f i N m1) d l a m4) o=some r:=hF; unfold F104b4 at hF
     refine ab (dn (fun ρ w=>∃ (W:Option Nat) (a5:Nat) (a6:List Value),cd ρ [(1,iv i),(2,.pointer (some ⟨p,0,none⟩)),(5,slv W d.length a5),(6,iv l),(7,.pointer (some ⟨B,0,none⟩)),(8,iv o),(41,.bool false)]∧Inv [] w0 w [(some p,blk (ql6 D E x f A F s G H t I J) 28),(W,blk a6 30),(some B,blk (eLd a) 30)]∧(Row 6 W (d.length) a5 a6 (al eLd d))∧F104j5 (F104l1 f i N m1) d l a o=some r) ?_ ?_)
     ·
      refine gm 14 hI (by kernel_rfl) ?_
      refine zp (iv o) (fun _=>rfl) (zp (slv Q d.length P) (fun _=>rfl) (zc (iv (d.length:Int)) (fun w hI=>kl (iv ((d.length:Nat):Int)) (by kernel_rfl) br) (ifE hF (fun aE hF=>?_) (fun aE hF=>?_))))
      ·
       refine zc kg (fun w hI=>cm rfl rfl (fun _=>br) (fun h=>absurd aE h)) (zp kg (fun _=>rfl) (zq (slv Q d.length P) rfl (fun _=>rfl) (zq (iv o) rfl (fun _=>rfl) (gdE hF (fun aY hF=>?_)))))
       refine bt hF (fun aO aP hF=>?_)
       obtain ⟨a7,rfl,aZ⟩:=a4.at_ bf (by decide) aP
       refine zo (.pointer (some ⟨a7,(o).toNat * 6,none⟩)) rfl (fun w hI=>be (o).toNat underlying24 sizeOf30 rfl rfl (Int.toNat_of_nonneg aY).symm (fa aP rfl) br) (zq (.pointer (some ⟨a7,(o).toNat * 6+1,none⟩)) rfl (fun _=>rfl) (zo (iv aO.hr) rfl (fun w hI=>db hI 1 (iv aO.hr) isAgg3 rfl rfl (aZ 1 _ rfl) br) (zq (.pointer (some ⟨B,1,none⟩)) rfl (fun _=>rfl) (zo (iv a.hr) rfl (fun w hI=>ag hI 2 (iv a.hr) isAgg3 rfl rfl rfl br) (ifE hF (fun aF hF=>?_) (fun aF hF=>?_))))))
       ·
        refine zo kg rfl (fun w hI=>fq rfl rfl (fun _=>br) (fun h=>absurd aF h)) (zp kg (fun _=>rfl) (zh (fun w hI=>?_)))
        refine aa (.inr ?_)
        refine ah rfl (ak (au ?_))
        refine rgn rfl (pu (iv o) rfl (ckE hF (fun b0 hF=>?_)))
        refine ac (cj rfl rfl b0 ?_)
        refine pu (iv (o+1)) rfl (aa ?_)
        exact ⟨rfl,m4,Nat.lt_succ_self _,⟨some a7,P,U,o+1,m4,⟨rfl,rfl,rfl,rfl,rfl,rfl,trivial⟩,hI.pk [0,1,2] rfl rfl,(a4.to rfl rfl),hF,rfl⟩⟩
       refine zo kf rfl (fun w hI=>fq rfl rfl (fun h=>absurd h aF) (fun _=>br)) (zp kf (fun _=>rfl) (zh (fun w hI=>?_)))
       refine aa ?_
       exact .inl ⟨rfl,⟨some a7,P,U,⟨rfl,rfl,rfl,rfl,rfl,rfl,rfl,trivial⟩,hI.pk [0,1,2] rfl rfl,(a4.to rfl rfl),hF⟩⟩
      refine zc kf (fun w hI=>cm rfl rfl (fun h=>absurd h aE) (fun _=>br)) (zp kf (fun _=>rfl) (zf 8 rfl (zp kf (fun _=>rfl) (zh (fun w hI=>?_)))))
      refine aa ?_
      exact .inl ⟨rfl,⟨Q,P,U,⟨rfl,rfl,rfl,rfl,rfl,rfl,rfl,trivial⟩,hI.pk [0,1,2] rfl rfl,(a4.to rfl rfl),hF⟩⟩
     intro ρ w hJ
     obtain ⟨W,a5,a6,hag,hI,b1,hF⟩:=hJ
     obtain ⟨ρ,rfl⟩:=hag.form; clear hag
     unfold F104j5 at hF
     refine ai rfl (bw ?_)
     exact .inl ⟨rfl,⟨W,a5,a6,o,⟨rfl,rfl,rfl,rfl,rfl,rfl,trivial⟩,hI.pk [0,1,2] rfl rfl,(b1.to rfl rfl),hF⟩⟩
    intro ρ w hJ
    obtain ⟨q,M,O,e,hag,hI,Y,hF⟩:=hJ
    obtain ⟨ρ,rfl⟩:=hag.form; clear hag
    unfold F104j3 at hF
    refine gdE hF (fun aQ hF=>?_)
    refine gdE hF (fun R hF=>?_)
    refine gdE hF (fun bG hF=>?_)
    refine gdE hF (fun bH hF=>?_)
    refine gdE hF (fun bI hF=>?_)
    have b2:Row 6 q (d.take (e).toNat).length M O (al eLd (d.take (e).toNat)):=(Y.cut bf (by decide) (e).toNat (len_ge rfl R)).to rfl (take_len2 R)
    refine kx [⟨fun y=>(.slice (some ⟨(y 0).b,0,none⟩) 0 0),fun y=>[(some (y 0).b,blk [] 30)],fun _=>True,[],[]⟩,tv (fun _=>(slv q d.length M)),tv (fun _=>(iv e)),tr (fun _=>(slv (q) ((d.take (e).toNat).length) M)) [],⟨fun y=>(slv ((y 4).g 0) ((d.take (e).toNat).length) ((y 4).c 0)),fun y=>[(((y 4).g 0),blk ((y 4).cl 0) 30)],fun y=>(Row 6 ((y 4).g 0) ((d.take (e).toNat).length) ((y 4).c 0) ((y 4).cl 0) (al eLd (d.take (e).toNat))),[0],[14]⟩,tr (fun _=>(.agg (eLd a).toArray)) [15],⟨fun y=>(.slice (some ⟨(y 6).b,0,none⟩) 1 1),fun y=>[(some (y 6).b,blk (eLd a) 30)],fun _=>True,[],[]⟩,⟨fun y=>(slv ((y 7).g 0) (((d.take (e).toNat)++[(⟨a.src,a.hr,a.lo,a.hi,a.kn,a.un⟩:Ld)]).length) ((y 7).c 0)),fun y=>[(((y 7).g 0),blk ((y 7).cl 0) 30)],fun y=>(Row 6 ((y 7).g 0) (((d.take (e).toNat)++[(⟨a.src,a.hr,a.lo,a.hi,a.kn,a.un⟩:Ld)]).length) ((y 7).c 0) ((y 7).cl 0) (al eLd ((d.take (e).toNat)++[(⟨a.src,a.hr,a.lo,a.hi,a.kn,a.un⟩:Ld)]))),[4],[6]⟩,tv (fun _=>(slv q d.length M)),tv (fun _=>(iv e)),tr (fun _=>(.slice (K.sub (Option.map (fun b=>(⟨b,0,none⟩:Addr)) q) M (e).toNat 6) ((d.drop (e).toNat).length) (M - (e).toNat))) [],⟨fun y=>(slv ((y 11).g 0) ((((d.take (e).toNat)++[(⟨a.src,a.hr,a.lo,a.hi,a.kn,a.un⟩:Ld)])++(d.drop (e).toNat)).length) ((y 11).c 0)),fun y=>[(((y 11).g 0),blk ((y 11).cl 0) 30)],fun y=>(Row 6 ((y 11).g 0) ((((d.take (e).toNat)++[(⟨a.src,a.hr,a.lo,a.hi,a.kn,a.un⟩:Ld)])++(d.drop (e).toNat)).length) ((y 11).c 0) ((y 11).cl 0) (al eLd (((d.take (e).toNat)++[(⟨a.src,a.hr,a.lo,a.hi,a.kn,a.un⟩:Ld)])++(d.drop (e).toNat)))),[7],[14]⟩,tv (fun y=>(slv ((y 11).g 0) ((((d.take (e).toNat)++[(⟨a.src,a.hr,a.lo,a.hi,a.kn,a.un⟩:Ld)])++(d.drop (e).toNat)).length) ((y 11).c 0)))] (fun y=>[(1,iv i),(2,.pointer (some ⟨p,0,none⟩)),(5,slv ((y 11).g 0) ((((d.take (e).toNat)++[(⟨a.src,a.hr,a.lo,a.hi,a.kn,a.un⟩:Ld)])++(d.drop (e).toNat)).length) ((y 11).c 0)),(6,iv l)]) (fun y=>[(some (y 6).b,blk (eLd a) 30),(((y 11).g 0),blk ((y 11).cl 0) 30),(some p,blk (ql6 D E x f A F s G H t I J) 28),(q,blk O 30),(some B,blk (eLd a) 30)]) hI (by kernel_rfl) (fun y=>⟨rfl,rfl⟩) (fun y=>?_) ?_
    ·
     refine tg (.slice (some ⟨(y 0).b,0,none⟩) 0 0) [] [] rfl ⟨rfl,rfl,rfl⟩ ?_ ?_
     ·intro hp X w hI
      refine fu hI [] 30 (fun b=>slv (some b) 0 0) (by kernel_rfl) fun aR w hI=>⟨wit aR [] [] [] [],rfl,trivial,hI.castL rfl⟩
     refine tp rfl (fun _=>rfl) (tp rfl (fun _=>rfl) (tl0 rfl (fun X w hI=>s_sliceHiN underlying24 sizeOf30 rfl (congrArg (Value.int .i64) (Int.toNat_of_nonneg aQ).symm) (take_len2 R) (Nat.le_trans R (am rfl Y.cap)) br) (tg (slv ((y 4).g 0) ((d.take (e).toNat).length) ((y 4).c 0)) [(some (y 0).b,blk [] 30),(q,blk O 30)] [(q,blk O 30)] rfl ⟨rfl,rfl,rfl⟩ ?_ ?_)))
     ·intro hp X w hI
      refine ks hI underlying24 (z:=.agg #[iv 0,iv 0,iv 0,iv 0,iv 0,iv 0]) (k:=6) (bytes:=48) rfl rfl rfl 0 rfl rfl (Row.zero_ 6 (y 0).b) (al eLd (d.take (e).toNat)) rfl (dt bf _) (hI.rowCells 1 rfl b2) (flat_cell eLd_cell _) (by omega) (by omega) (n2:=(d.take (e).toNat).length) (app_len0 rfl) ?_
      intro aG aH aI w hI Z
      have Z:Row 6 aG ((d.take (e).toNat).length) aH aI (al eLd (d.take (e).toNat)):=Z
      exact ⟨wit 0 [aG] [aH] [aI] [],rfl,Eq.mp rfl Z,hI.castL rfl⟩
     refine tl1 [(some B,blk (eLd a) 30)] rfl rfl (fun X w hI=>ar hI 0 6 (eLd a) isAgg30 sizeOf30 rfl rfl rfl rfl br) (tg (.slice (some ⟨(y 6).b,0,none⟩) 1 1) [] [] rfl ⟨rfl,rfl,rfl⟩ ?_ ?_)
     ·intro hp X w hI
      refine fu hI (eLd a) 30 (fun b=>slv (some b) 1 1) (by kernel_rfl) fun aS w hI=>⟨wit aS [] [] [] [],rfl,trivial,hI.castL rfl⟩
     refine tg (slv ((y 7).g 0) (((d.take (e).toNat)++[(⟨a.src,a.hr,a.lo,a.hi,a.kn,a.un⟩:Ld)]).length) ((y 7).c 0)) [(((y 4).g 0),blk ((y 4).cl 0) 30),(some (y 6).b,blk (eLd a) 30)] [(some (y 6).b,blk (eLd a) 30)] rfl ⟨rfl,rfl,rfl⟩ ?_ ?_
     ·intro hp X w hI
      have Z:Row 6 ((y 4).g 0) ((d.take (e).toNat).length) ((y 4).c 0) ((y 4).cl 0) (al eLd (d.take (e).toNat)):=pg hp (k:=4) ⟨rfl,rfl⟩
      refine ks hI underlying24 (z:=.agg #[iv 0,iv 0,iv 0,iv 0,iv 0,iv 0]) (k:=6) (bytes:=48) rfl rfl rfl 0 rfl rfl Z (eLd a) rfl rfl (hI.cells 1 (off:=0) rfl (fun j u h=>by rw [Nat.zero_add]; exact h)) (by simp [Value.oneCell',eLd,eSp]) (by omega) (by omega) (n2:=((d.take (e).toNat)++[(⟨a.src,a.hr,a.lo,a.hi,a.kn,a.un⟩:Ld)]).length) (kr rfl rfl) ?_
      intro aJ aK aL w hI a0
      have a0:Row 6 aJ (((d.take (e).toNat)++[(⟨a.src,a.hr,a.lo,a.hi,a.kn,a.un⟩:Ld)]).length) aK aL (al eLd ((d.take (e).toNat)++[(⟨a.src,a.hr,a.lo,a.hi,a.kn,a.un⟩:Ld)])):=a0.snoc _ rfl
      exact ⟨wit 0 [aJ] [aK] [aL] [],rfl,Eq.mp rfl a0,hI.castL rfl⟩
     refine tp rfl (fun _=>rfl) (tp rfl (fun _=>rfl) (tl0 rfl (fun X w hI=>s_sliceLoN underlying24 sizeOf30 rfl (congrArg (Value.int .i64) (Int.toNat_of_nonneg aQ).symm) (len_ge rfl R) (drop_len2 rfl R) Y.cap br) (tg (slv ((y 11).g 0) ((((d.take (e).toNat)++[(⟨a.src,a.hr,a.lo,a.hi,a.kn,a.un⟩:Ld)])++(d.drop (e).toNat)).length) ((y 11).c 0)) [(((y 7).g 0),blk ((y 7).cl 0) 30),(q,blk O 30)] [(q,blk O 30)] rfl ⟨rfl,rfl,rfl⟩ ?_ ?_)))
     ·intro hp X w hI
      have a0:Row 6 ((y 7).g 0) (((d.take (e).toNat)++[(⟨a.src,a.hr,a.lo,a.hi,a.kn,a.un⟩:Ld)]).length) ((y 7).c 0) ((y 7).cl 0) (al eLd ((d.take (e).toNat)++[(⟨a.src,a.hr,a.lo,a.hi,a.kn,a.un⟩:Ld)])):=pg hp (k:=7) ⟨rfl,rfl⟩
      refine ks hI underlying24 (z:=.agg #[iv 0,iv 0,iv 0,iv 0,iv 0,iv 0]) (k:=6) (bytes:=48) rfl rfl rfl 0 rfl rfl a0 (al eLd (d.drop (e).toNat)) rfl (dt bf _) (bi.fromRow bf (hI.rowCells 1 rfl (Y.to rfl rfl)) R Y.cap rfl) (flat_cell eLd_cell _) (by omega) (by omega) (n2:=(((d.take (e).toNat)++[(⟨a.src,a.hr,a.lo,a.hi,a.kn,a.un⟩:Ld)])++(d.drop (e).toNat)).length) (kr rfl rfl) ?_
      intro a8 a9 aA w hI a1
      have a1:Row 6 a8 ((((d.take (e).toNat)++[(⟨a.src,a.hr,a.lo,a.hi,a.kn,a.un⟩:Ld)])++(d.drop (e).toNat)).length) a9 aA (al eLd (((d.take (e).toNat)++[(⟨a.src,a.hr,a.lo,a.hi,a.kn,a.un⟩:Ld)])++(d.drop (e).toNat))):=a1.more
      exact ⟨wit 0 [a8] [a9] [aA] [],rfl,Eq.mp rfl a1,hI.castL rfl⟩
     refine tpv (slv ((y 11).g 0) ((((d.take (e).toNat)++[(⟨a.src,a.hr,a.lo,a.hi,a.kn,a.un⟩:Ld)])++(d.drop (e).toNat)).length) ((y 11).c 0)) rfl ⟨rfl,fun _=>rfl⟩ ?_
     exact tn
    intro y hp ρ w hag hI
    have a1:Row 6 ((y 11).g 0) ((((d.take (e).toNat)++[(⟨a.src,a.hr,a.lo,a.hi,a.kn,a.un⟩:Ld)])++(d.drop (e).toNat)).length) ((y 11).c 0) ((y 11).cl 0) (al eLd (((d.take (e).toNat)++[(⟨a.src,a.hr,a.lo,a.hi,a.kn,a.un⟩:Ld)])++(d.drop (e).toNat))):=pgl hp (k:=11) (by decide) rfl
    clear hp
    generalize (y 0).b=aR at *
    generalize (y 4).g 0=aG at *
    generalize (y 4).c 0=aH at *
    generalize (y 4).cl 0=aI at *
    generalize (y 6).b=aS at *
    generalize (y 7).g 0=aJ at *
    generalize (y 7).c 0=aK at *
    generalize (y 7).cl 0=aL at *
    generalize (y 11).g 0=a8 at *
    generalize (y 11).c 0=a9 at *
    generalize (y 11).cl 0=aA at *
    obtain ⟨ρ,rfl⟩:=hag.form; clear hag
    exact .inl ⟨rfl,⟨a8,a9,aA,((d.take (e).toNat)++[(⟨a.src,a.hr,a.lo,a.hi,a.kn,a.un⟩:Ld)])++(d.drop (e).toNat),⟨rfl,rfl,rfl,rfl,trivial⟩,hI.pk [2,1] rfl rfl,(a1.to rfl rfl),hF⟩⟩
   refine ac (bg hI 147 [iv a.kn,iv a.un,iv i] kf (by kernel_rfl) (bn.mono (L147 _ a.kn a.un i _ aN) (fun v' w' h=>⟨h.1.trans (congrArg Value.bool (Bool.eq_false_iff.2 aD)),h.2⟩)) fun w hI=>pu kg rfl (aa (ah rfl (bw ?_))))
   exact .inl ⟨rfl,⟨C,L,S,d,⟨rfl,rfl,rfl,rfl,trivial⟩,hI.pk [1,2] rfl rfl,(aB.to rfl rfl),hF⟩⟩
  intro ρ w hJ
  obtain ⟨V,a2,a3,T,hag,hI,b3,hF⟩:=hJ
  obtain ⟨ρ,rfl⟩:=hag.form; clear hag
  unfold F104j2 at hF
  refine rgn rfl (pu (iv l) rfl (ckE hF (fun b4 hF=>?_)))
  refine ac (cj rfl rfl b4 ?_)
  refine pu (iv (l+1)) rfl (aa ?_)
  exact ⟨rfl,m1,Nat.lt_succ_self _,⟨V,a2,a3,T,l+1,m1,⟨rfl,rfl,rfl,rfl,trivial⟩,hI.pk [0,1] rfl rfl,(b3.to rfl rfl),hF,rfl⟩⟩
 refine ac (cm rfl rfl (fun h=>absurd h aC) (fun _=>?_))
 refine aa (ai rfl (bw ?_))
 refine ab (rgn rfl (pu (slv C d.length L) rfl (pu (slv C d.length L) rfl (aa (aj ?_)))))
 replace hF:=Option.some.inj hF; subst hF
 exact ⟨slv C d.length L,Ret.r1 rfl rfl,⟨C,L,S,rfl,hI.pk [1] rfl rfl,aB.to rfl rfl⟩⟩


theorem L105 (w0:World) (a:Rg) (b:Rg) (r:(Int × Int)) (hF:F105 a b=some r):bn Tryz.prog 105 [.agg #[.int .i64 a.lo,.int .i64 a.hi],.agg #[.int .i64 b.lo,.int .i64 b.hi]] w0 fun v w=>v=.agg #[.int .i64 r.1,.int .i64 r.2]∧Below w0.heap.size w0 w:=by
 refine az (n:=16) func105 rfl ntmps105 rfl ?_
 have hI:=Inv.start w0
 unfold F105 at hF
 refine ab (rgn rfl (ac (ca hI [iv a.lo,iv a.hi] rfl fun b4 w hI=>ac (ca hI [iv b.lo,iv b.hi] rfl fun b5 w hI=>ac (bh hI [iv 0,iv 0] zeroValue23 rfl fun b6 w hI=>aa (ab (rgn rfl (pu (.pointer (some ⟨b4,0,none⟩)) rfl (ac (ag hI 2 (iv a.lo) isAgg3 rfl rfl rfl ?_))))))))))
 refine pu (.pointer (some ⟨b5,0,none⟩)) rfl (ac (ag hI 1 (iv b.lo) isAgg3 rfl rfl rfl ?_))
 refine pu (iv (if b.lo > a.lo then b.lo else a.lo)) (by kernel_rfl) (pu (.pointer (some ⟨b4,1,none⟩)) rfl (ac (ag hI 2 (iv a.hi) isAgg3 rfl rfl rfl ?_)))
 refine pu (.pointer (some ⟨b5,1,none⟩)) rfl (ac (ag hI 1 (iv b.hi) isAgg3 rfl rfl rfl ?_))
 refine pu (iv (if b.hi < a.hi then b.hi else a.hi)) (by kernel_rfl) (pu (.agg #[iv (if b.lo > a.lo then b.lo else a.lo),iv (if b.hi < a.hi then b.hi else a.hi)]) (by kernel_rfl) (ac (aq hI 0 2 [iv (if b.lo > a.lo then b.lo else a.lo),iv (if b.hi < a.hi then b.hi else a.hi)] sizeOf23 rfl rfl rfl rfl rfl (kh rfl) fun w hI=>aa (aj ?_))))
 replace hF:=Option.some.inj hF; subst hF
 exact ⟨.agg #[iv (if b.lo > a.lo then b.lo else a.lo),iv (if b.hi < a.hi then b.hi else a.hi)],Ret.c rfl rfl (ce hI 0 2 [iv (if b.lo > a.lo then b.lo else a.lo),iv (if b.hi < a.hi then b.hi else a.hi)] isAgg23 sizeOf23 rfl rfl rfl),⟨rfl,hI.below⟩⟩


theorem L109 (w0:World) (i:Int) (l:Int) (A:Option Addr) (B:Nat) (x:List Ld) (q:Option Addr) (t:Nat) (d:List Ld) (C:Option Addr) (D:Nat) (y:List Sp) (E:Int) (e:Int) (bT:Bool) (o:Option Addr) (p:Nat) (g:List Int) (cL:bi w0 A (al eLd x)) (cM:x.length≤9223372036854775807) (cN:x.length≤B) (bA:bi w0 q (al eLd d)) (cO:d.length≤9223372036854775807) (cP:d.length≤t) (cQ:bi w0 C (al eSp y)) (cR:y.length≤9223372036854775807) (cS:y.length≤D) (bB:bi w0 o (al dv g)) (bC:g.length≤9223372036854775807) (bD:g.length≤p) (N:Nat) (r:(List Ld × List Rg)) (hF:F109 N i l x d y E e bT g=some r):bn Tryz.prog 109 [.agg (ql6 i l A x B q d t C y D E).toArray,.int .i64 e,.agg #[.bool bT,.slice o g.length p]] w0 fun v w=>∃ (z0:Option Nat) (z1:Nat) (z2:List Value) (z3:Option Nat) (z4:Nat) (z5:List Value),v=.agg #[slv z0 r.1.length z1,slv z3 r.2.length z4]∧Inv [] w0 w [(z0,blk z2 30),(z3,blk z5 23)]∧Row 6 z0 r.1.length z1 z2 (al eLd r.1)∧Row 2 z3 r.2.length z4 z5 (al eRg r.2):=by
 refine az (n:=103) func109 rfl ntmps109 rfl ?_
 have hI:=Inv.start w0
 unfold F109 at hF
 have hG:=hF; rcases Bool.eq_false_or_eq_true bT with rfl | rfl
 ·
  have hF:=hG; clear hG
  refine ifE hF (fun _ hF=>?_) (fun h=>absurd rfl h)
  refine ab (rgn rfl (ac (ca hI (ql6 i l A x B q d t C y D E) rfl fun a5 w hI=>ac (ca hI [.bool true,.slice o g.length p] rfl fun a9 w hI=>ac (bh hI [.slice none 0 0,.slice none 0 0] zeroValue132 rfl fun aD w hI=>aa (ab (rgn rfl (ac (ar hI 2 6 (ql6 i l A x B q d t C y D E) isAgg28 sizeOf28 rfl rfl rfl rfl ?_)))))))))
  refine pu (iv e) rfl (bt hF (fun F dB hF=>?_))
  refine ac (co 104 [.agg (ql6 i l A x B q d t C y D E).toArray,iv e] (by kernel_rfl) (L104 _ i l A B x q t d C D y E e (cL.inv0 hI) cM cN (bA.inv0 hI) cO cP (cQ.inv0 hI) cR cS N _ dB) ?_)
  rintro v w ⟨I,V,aM,rfl,hN,bE⟩
  have hI:=hI.join hN; clear hN
  refine pu (.agg #[slv I F.length V,.slice none 0 0]) (by kernel_rfl) (ac (bh hI [.slice none 0 0,.slice none 0 0] zeroValue132 rfl fun W w hI=>ac (aq hI 0 2 [slv I F.length V,.slice none 0 0] sizeOf132 rfl rfl rfl rfl rfl (kh rfl) fun w hI=>aa (ab (rgn rfl (pu (.pointer (some ⟨W,1,none⟩)) rfl (ac (ag hI 0 (.slice none 0 0) isAgg130 rfl rfl rfl ?_))))))))
  refine pu (.pointer (some ⟨a5,0,none⟩)) rfl (ac (ar hI 4 2 [iv i,iv l] isAgg23 sizeOf23 rfl rfl rfl rfl ?_))
  refine ac (fu hI [iv i,iv l] 23 (fun b=>slv (some b) 1 1) (by kernel_rfl) ?_)
  intro e3 w hI
  have hI:=hI.nilRow 23
  refine gdE hF (fun e4 hF=>?_)
  refine ac (ks hI underlying130 (z:=.agg #[iv 0,iv 0]) (k:=2) (bytes:=16) rfl rfl rfl 0 rfl rfl (Row.nil_ 2) [iv i,iv l] rfl rfl (hI.cells 1 (off:=0) rfl (fun j u h=>by rw [Nat.zero_add]; exact h)) (by simp [Value.oneCell']) (by omega) (by omega) (n2:=[(⟨i,l⟩:Rg)].length) (app_len0 rfl) ?_)
  intro bU bV cT w hI bW
  have bW:Row 2 bU ([(⟨i,l⟩:Rg)].length) bV cT (al eRg [(⟨i,l⟩:Rg)]):=Row.snoc (X:=[]) (enc:=eRg) bW _ rfl
  refine pu (.pointer (some ⟨W,1,none⟩)) rfl (ac (aq hI 2 1 [slv bU ([(⟨i,l⟩:Rg)].length) bV] sizeOf130 rfl rfl rfl rfl rfl (kh rfl) fun w hI=>aa (dn (fun ρ w=>∃ (b2:Option Nat) (bF:Nat) (bG:List Value) (aT:List Rg),cd ρ [(1,iv e),(3,.pointer (some ⟨a5,0,none⟩)),(5,.pointer (some ⟨a9,0,none⟩)),(6,.pointer (some ⟨aD,0,none⟩)),(7,.pointer (some ⟨W,0,none⟩))]∧Inv [] w0 w [(some a5,blk (ql6 i l A x B q d t C y D E) 28),(some a9,blk [.bool true,.slice o g.length p] 121),(some aD,blk [.slice none 0 0,.slice none 0 0] 132),(some W,blk [slv I F.length V,slv b2 aT.length bF] 132),(I,blk aM 30),(b2,blk bG 23)]∧(Row 2 b2 (aT.length) bF bG (al eRg aT))∧F109j1 d e N F aT=some r) ?_ ?_)))
  ·
   refine ab (rgn rfl (pu (iv 0) rfl (aa (au ?_))))
   refine cb (fun m ρ w=>∃ (aU:Option Nat) (b3:Nat) (bH:List Value) (a6:List Rg) (aH:Int) (mm:Nat),cd ρ [(1,iv e),(3,.pointer (some ⟨a5,0,none⟩)),(5,.pointer (some ⟨a9,0,none⟩)),(6,.pointer (some ⟨aD,0,none⟩)),(7,.pointer (some ⟨W,0,none⟩)),(8,iv aH)]∧Inv [] w0 w [(some a5,blk (ql6 i l A x B q d t C y D E) 28),(some a9,blk [.bool true,.slice o g.length p] 121),(some aD,blk [.slice none 0 0,.slice none 0 0] 132),(some W,blk [slv I F.length V,slv aU a6.length b3] 132),(I,blk aM 30),(aU,blk bH 23)]∧(Row 2 aU (a6.length) b3 bH (al eRg a6))∧F109l4 d e N F mm a6 aH=some r∧mm=m) (m:=N) ⟨bU,bV,cT,[(⟨i,l⟩:Rg)],0,N,⟨rfl,rfl,rfl,rfl,rfl,rfl,trivial⟩,hI.pk [6,5,4,2,3,0] rfl rfl,(bW.to rfl rfl),hF,rfl⟩ ?_
   rintro m ρ w ⟨aU,b3,bH,a6,aH,mm,hag,hI,cU,hF,hm⟩
   subst hm; obtain ⟨ρ,rfl⟩:=hag.form; clear hag
   obtain _ | m4:=mm
   ·cases (show (none:Option (List Ld × List Rg))=some r from hF)
   replace hF:F109b4 d e N F (F109l4 d e N F m4) a6 aH=some r:=hF; unfold F109b4 at hF
   refine ab (ab (rgn rfl (pu (iv aH) rfl (pu (.pointer (some ⟨W,0,none⟩)) rfl (ac (ag hI 3 (slv I F.length V) isAgg24 rfl rfl rfl ?_))))))
   refine pu (iv ((F.length:Nat):Int)) (by kernel_rfl) (ifE hF (fun bX hF=>?_) (fun bX hF=>?_))
   ·
    refine ac (cm rfl rfl (fun _=>?_) (fun h=>absurd bX h))
    refine aa (ah rfl (ak (ab (au ?_))))
    refine ab (ab (gm 15 hI (by kernel_rfl) ?_))
    refine zp (.pointer (some ⟨a9,0,none⟩)) (fun _=>rfl) (zc kg (fun w hI=>ag hI 1 kg isAgg4 rfl rfl rfl br) (zp kf (fun _=>rfl) (zp kf (fun _=>rfl) (zf 10 rfl (zp kf (fun _=>rfl) (zh (fun w hI=>?_)))))))
    refine aa (ai rfl (ak (rgn rfl (pu (.pointer (some ⟨W,1,none⟩)) rfl (ac (ag hI 3 (slv aU a6.length b3) isAgg130 rfl rfl rfl ?_))))))
    refine pu (.agg #[iv 0,iv 10000]) (by kernel_rfl) (ac (fu hI [iv 0,iv 10000] 23 (fun b=>slv (some b) 1 1) (by kernel_rfl) fun e5 w hI=>gdE hF (fun e6 hF=>?_)))
    refine ac (ks hI underlying130 (z:=.agg #[iv 0,iv 0]) (k:=2) (bytes:=16) rfl rfl rfl 6 rfl rfl cU [iv 0,iv 10000] rfl rfl (hI.cells 0 (off:=0) rfl (fun j u h=>by rw [Nat.zero_add]; exact h)) (by simp [Value.oneCell']) (by omega) (by omega) (n2:=(a6++[(⟨0,10000⟩:Rg)]).length) (kr rfl rfl) ?_)
    intro bY bZ cV w hI c0
    have c0:Row 2 bY ((a6++[(⟨0,10000⟩:Rg)]).length) bZ cV (al eRg (a6++[(⟨0,10000⟩:Rg)])):=c0.snoc _ rfl
    refine pu (.pointer (some ⟨W,1,none⟩)) rfl (ac (aq hI 4 1 [slv bY ((a6++[(⟨0,10000⟩:Rg)]).length) bZ] sizeOf130 rfl rfl rfl rfl rfl (kh rfl) fun w hI=>aa (rgn rfl (pu (iv aH) rfl (ckE hF (fun dC hF=>?_))))))
    refine ac (cj rfl rfl dC ?_)
    refine pu (iv (aH+1)) rfl (aa ?_)
    exact ⟨rfl,m4,Nat.lt_succ_self _,⟨bY,bZ,cV,a6++[(⟨0,10000⟩:Rg)],aH+1,m4,⟨rfl,rfl,rfl,rfl,rfl,rfl,trivial⟩,hI.pk [1,2,3,4,5,6] rfl rfl,(c0.to rfl rfl),hF,rfl⟩⟩
   refine ac (cm rfl rfl (fun h=>absurd h bX) (fun _=>?_))
   refine aa (ai rfl (bw ?_))
   exact .inl ⟨rfl,⟨aU,b3,bH,a6,⟨rfl,rfl,rfl,rfl,rfl,trivial⟩,hI.pk [0,1,2,3,4,5] rfl rfl,(cU.to rfl rfl),hF⟩⟩
  intro ρ w hJ
  obtain ⟨b2,bF,bG,aT,hag,hI,dD,hF⟩:=hJ
  obtain ⟨ρ,rfl⟩:=hag.form; clear hag
  unfold F109j1 at hF
  refine ab (ab (rgn rfl (pu (iv 0) rfl (aa (au ?_)))))
  refine cb (fun m ρ w=>∃ (Y:Option Nat) (R:Nat) (aV:List Value) (J:List Rg) (aA:Int) (mm:Nat),cd ρ [(1,iv e),(3,.pointer (some ⟨a5,0,none⟩)),(5,.pointer (some ⟨a9,0,none⟩)),(6,.pointer (some ⟨aD,0,none⟩)),(7,.pointer (some ⟨W,0,none⟩)),(9,iv aA)]∧Inv [] w0 w [(some a5,blk (ql6 i l A x B q d t C y D E) 28),(some a9,blk [.bool true,.slice o g.length p] 121),(some aD,blk [.slice none 0 0,.slice none 0 0] 132),(some W,blk [slv I F.length V,slv Y J.length R] 132),(I,blk aM 30),(Y,blk aV 23)]∧(Row 2 Y (J.length) R aV (al eRg J))∧F109l2 d e N F mm J aA=some r∧mm=m) (m:=N) ⟨b2,bF,bG,aT,0,N,⟨rfl,rfl,rfl,rfl,rfl,rfl,trivial⟩,hI.pk [0,1,2,3,4,5] rfl rfl,(dD.to rfl rfl),hF,rfl⟩ ?_
  rintro m ρ w ⟨Y,R,aV,J,aA,mm,hag,hI,aI,hF,hm⟩
  subst hm; obtain ⟨ρ,rfl⟩:=hag.form; clear hag
  obtain _ | m2:=mm
  ·cases (show (none:Option (List Ld × List Rg))=some r from hF)
  replace hF:F109b2 d e N F (F109l2 d e N F m2) J aA=some r:=hF; unfold F109b2 at hF
  refine ab (ab (rgn rfl (pu (iv aA) rfl (pu (.pointer (some ⟨a5,3,none⟩)) rfl (ac (ag hI 0 (.slice q d.length t) isAgg25 rfl rfl rfl ?_))))))
  refine pu (iv ((d.length:Nat):Int)) (by kernel_rfl) (ifE hF (fun c1 hF=>?_) (fun c1 hF=>?_))
  ·
   refine ac (cm rfl rfl (fun _=>?_) (fun h=>absurd c1 h))
   refine aa (ah rfl (ak (dn (fun ρ w=>∃ (b4:Option Nat) (bI:Nat) (bJ:List Value) (aW:List Rg),cd ρ [(1,iv e),(3,.pointer (some ⟨a5,0,none⟩)),(5,.pointer (some ⟨a9,0,none⟩)),(6,.pointer (some ⟨aD,0,none⟩)),(7,.pointer (some ⟨W,0,none⟩)),(9,iv aA)]∧Inv [] w0 w [(some a5,blk (ql6 i l A x B q d t C y D E) 28),(some a9,blk [.bool true,.slice o g.length p] 121),(some aD,blk [.slice none 0 0,.slice none 0 0] 132),(some W,blk [slv I F.length V,slv b4 aW.length bI] 132),(I,blk aM 30),(b4,blk bJ 23)]∧(Row 2 b4 (aW.length) bI bJ (al eRg aW))∧F109j3 (F109l2 d e N F m2) aA aW=some r) ?_ ?_)))
   ·
    refine au ?_
    refine ab (rgn rfl (pu (.pointer (some ⟨a5,3,none⟩)) rfl (ac (ag hI 0 (.slice q d.length t) isAgg25 rfl rfl rfl ?_))))
    refine pu (iv aA) rfl (gdE hF (fun dE hF=>?_))
    refine bt hF (fun f cW hF=>?_)
    obtain ⟨e7,e8,dF,dG,dH⟩:=bA.at_ bf (by decide) cW
    refine ac (cn (aA).toNat underlying25 sizeOf31 rfl dF rfl (Int.toNat_of_nonneg dE).symm (fa cW rfl) ?_)
    refine ac (ef hI (eLd f) isAgg31 sizeOf31 rfl rfl dG (by simp) dH ?_)
    refine ac (bh hI [iv 0,iv 0,iv 0,iv 0,iv 0,iv 0] zeroValue31 rfl fun aX w hI=>ac (aq hI 0 6 (eLd f) sizeOf31 rfl rfl rfl rfl rfl (kh rfl) fun w hI=>aa (ab (rgn rfl (pu (.pointer (some ⟨aX,4,none⟩)) rfl (ac (ag hI 0 (iv f.kn) isAgg3 rfl rfl rfl ?_)))))))
    refine pu (.pointer (some ⟨aX,5,none⟩)) rfl (ac (ag hI 0 (iv f.un) isAgg3 rfl rfl rfl ?_))
    refine pu (iv e) rfl (bt hF (fun e9 cX hF=>?_))
    refine ifE hF (fun c2 hF=>?_) (fun c2 hF=>?_)
    ·
     refine ac (bg hI 147 [iv f.kn,iv f.un,iv e] kg (by kernel_rfl) (bn.mono (L147 _ f.kn f.un e _ cX) (fun v' w' h=>⟨h.1.trans (congrArg Value.bool c2),h.2⟩)) fun w hI=>pu kg rfl (puo (.pointer (some ⟨a9,0,none⟩)) ⟨rfl,rfl⟩ (aw rfl (ag hI 2 kg isAgg4 rfl rfl rfl ?_))))
     refine puo kg ⟨rfl,rfl⟩ (sf 5 rfl (puo kg ⟨rfl,rfl⟩ (pu kg rfl (aa (ah rfl (ab (rgn rfl (ac (ar hI 4 2 [slv I F.length V,slv Y J.length R] isAgg132 sizeOf132 rfl rfl rfl rfl ?_)))))))))
     refine pu (.pointer (some ⟨aX,1,none⟩)) rfl (ac (ag hI 0 (iv f.hr) isAgg3 rfl rfl rfl ?_))
     refine bt hF (fun a7 dI hF=>?_)
     refine ac (bg hI 100 [.agg #[slv I F.length V,slv Y J.length R],iv f.hr] (iv a7) (by kernel_rfl) (L100 _ (I.map fun b=>⟨b,0,none⟩) V F (Y.map fun b=>⟨b,0,none⟩) R J f.hr (hI.rowCells 5 rfl bE) (am rfl bE.big) (am rfl bE.cap) (hI.rowCells 6 rfl aI) (am rfl aI.big) (am rfl aI.cap) N _ dI) fun w hI=>pu (iv a7) rfl (aa (gm 12 hI (by kernel_rfl) ?_)))
     refine zp (.pointer (some ⟨W,1,none⟩)) (fun _=>rfl) (zc (slv Y J.length R) (fun w hI=>ag hI 4 (slv Y J.length R) isAgg130 rfl rfl rfl br) (zp (iv a7) (fun _=>rfl) (zp (.pointer (some ⟨W,1,none⟩)) (fun _=>rfl) (zc (slv Y J.length R) (fun w hI=>ag hI 4 (slv Y J.length R) isAgg130 rfl rfl rfl br) (zp (iv a7) (fun _=>rfl) (gdE hF (fun cY hF=>?_)))))))
     refine bt hF (fun aN bK hF=>?_)
     obtain ⟨aO,rfl,dJ⟩:=aI.at_ da (by decide) bK
     refine zc (.pointer (some ⟨aO,(a7).toNat * 2,none⟩)) (fun w hI=>be (a7).toNat underlying130 sizeOf23 rfl rfl (Int.toNat_of_nonneg cY).symm (fa bK rfl) br) (zc (.agg #[iv aN.lo,iv aN.hi]) (fun w hI=>cq hI 6 [iv aN.lo,iv aN.hi] isAgg23 sizeOf23 rfl rfl rfl dJ br) (zp (.pointer (some ⟨aX,2,none⟩)) (fun _=>rfl) (zc (.agg #[iv f.lo,iv f.hi]) (fun w hI=>ar hI 0 2 [iv f.lo,iv f.hi] isAgg23 sizeOf23 rfl rfl rfl rfl br) (bt hF (fun a2 dK hF=>?_)))))
     refine zc (.agg #[iv a2.1,iv a2.2]) (fun w hI=>co 105 [.agg #[iv aN.lo,iv aN.hi],.agg #[iv f.lo,iv f.hi]] (by kernel_rfl) (L105 _ aN (⟨f.lo,f.hi⟩:Rg) _ dK) (fun v' w' h=>h)) (zc (.pointer (some ⟨aO,(a7).toNat * 2,none⟩)) (fun w hI=>be (a7).toNat underlying130 sizeOf23 rfl rfl (Int.toNat_of_nonneg cY).symm (fa bK rfl) br) (zh (fun w hI=>?_)))
     have:=fa bK rfl
     refine ac (aq hI 6 2 [iv a2.1,iv a2.2] sizeOf23 rfl rfl rfl rfl rfl (aI.room (by omega)) ?_)
     intro w hI
     have cZ:=aI.put da (by decide) (a7).toNat (⟨a2.1,a2.2⟩:Rg) (by omega)
     obtain ⟨c4,hcl⟩:∃ z,z=putCells aV ((a7).toNat * 2) (eRg (⟨a2.1,a2.2⟩:Rg)):=⟨_,rfl⟩
     rw [← hcl] at cZ
     have hI:Inv [] w0 w [(some aX,blk (eLd f) 31),(some a5,blk (ql6 i l A x B q d t C y D E) 28),(some a9,blk [.bool true,.slice o g.length p] 121),(some aD,blk [.slice none 0 0,.slice none 0 0] 132),(some W,blk [slv I F.length V,slv (some aO) J.length R] 132),(I,blk aM 30),(some aO,blk c4 23)]:=by rw [hcl]; exact hI
     clear hcl
     refine aa ?_
     have hI:Inv [] w0 w [(some aX,blk (eLd f) 31),(some a5,blk (ql6 i l A x B q d t C y D E) 28),(some a9,blk [.bool true,.slice o g.length p] 121),(some aD,blk [.slice none 0 0,.slice none 0 0] 132),(some W,blk [slv I F.length V,slv (some aO) (((J).set (a7).toNat (⟨a2.1,a2.2⟩:Rg)).length) R] 132),(I,blk aM 30),(some aO,blk c4 23)]:=by first | (have h:=hI; (try simp only [List.length_set,ib] at h); simp only [List.length_set,ib]; exact h) | (have h:=hI; rw [show J.length=((J).set (a7).toNat (⟨a2.1,a2.2⟩:Rg)).length from (km rfl)] at h; exact h)
     exact .inl ⟨rfl,⟨some aO,R,c4,(J).set (a7).toNat (⟨a2.1,a2.2⟩:Rg),⟨rfl,rfl,rfl,rfl,rfl,rfl,trivial⟩,hI.pk [1,2,3,4,5,6] rfl rfl,(cZ.to rfl (km rfl)),hF⟩⟩
    refine ac (bg hI 147 [iv f.kn,iv f.un,iv e] kf (by kernel_rfl) (bn.mono (L147 _ f.kn f.un e _ cX) (fun v' w' h=>⟨h.1.trans (congrArg Value.bool (Bool.eq_false_iff.2 c2)),h.2⟩)) fun w hI=>pu kf rfl (sf 3 rfl (dk rfl ?_)))
    refine dk rfl ?_
    refine dk rfl ?_
    refine dk rfl ?_
    refine dk rfl ?_
    refine of_ rfl (pu kf rfl (aa (ai rfl (ak ?_))))
    exact .inl ⟨rfl,⟨Y,R,aV,J,⟨rfl,rfl,rfl,rfl,rfl,rfl,trivial⟩,hI.pk [1,2,3,4,5,6] rfl rfl,(aI.to rfl rfl),hF⟩⟩
   intro ρ w hJ
   obtain ⟨b4,bI,bJ,aW,hag,hI,dL,hF⟩:=hJ
   obtain ⟨ρ,rfl⟩:=hag.form; clear hag
   unfold F109j3 at hF
   refine rgn rfl (pu (iv aA) rfl (ckE hF (fun dM hF=>?_)))
   refine ac (cj rfl rfl dM ?_)
   refine pu (iv (aA+1)) rfl (aa ?_)
   exact ⟨rfl,m2,Nat.lt_succ_self _,⟨b4,bI,bJ,aW,aA+1,m2,⟨rfl,rfl,rfl,rfl,rfl,rfl,trivial⟩,hI.pk [0,1,2,3,4,5] rfl rfl,(dL.to rfl rfl),hF,rfl⟩⟩
  refine ac (cm rfl rfl (fun h=>absurd h c1) (fun _=>?_))
  refine aa (ai rfl (bw ?_))
  refine ab (rgn rfl (ac (ar hI 3 2 [slv I F.length V,slv Y J.length R] isAgg132 sizeOf132 rfl rfl rfl rfl ?_)))
  refine ac (aq hI 2 2 [slv I F.length V,slv Y J.length R] sizeOf132 rfl rfl rfl rfl rfl (kh rfl) fun w hI=>aa (aj ?_))
  replace hF:=Option.some.inj hF; subst hF
  exact ⟨.agg #[slv I F.length V,slv Y J.length R],Ret.c rfl rfl (ce hI 2 2 [slv I F.length V,slv Y J.length R] isAgg132 sizeOf132 rfl rfl rfl),⟨I,V,aM,Y,R,aV,rfl,hI.pk [4,5] rfl rfl,bE.to rfl rfl,aI.to rfl rfl⟩⟩
 have hF:=hG; clear hG
 refine ifE hF (fun h=>absurd h (by decide)) (fun _ hF=>?_)
 refine ab (rgn rfl (ac (ca hI (ql6 i l A x B q d t C y D E) rfl fun S w hI=>ac (ca hI [.bool false,.slice o g.length p] rfl fun P w hI=>ac (bh hI [.slice none 0 0,.slice none 0 0] zeroValue132 rfl fun a0 w hI=>aa (ab (rgn rfl (ac (ar hI 2 6 (ql6 i l A x B q d t C y D E) isAgg28 sizeOf28 rfl rfl rfl rfl ?_)))))))))
 refine pu (iv e) rfl (bt hF (fun c5 dN hF=>?_))
 refine ac (co 104 [.agg (ql6 i l A x B q d t C y D E).toArray,iv e] (by kernel_rfl) (L104 _ i l A B x q t d C D y E e (cL.inv0 hI) cM cN (bA.inv0 hI) cO cP (cQ.inv0 hI) cR cS N _ dN) ?_)
 rintro v w ⟨c6,c7,dO,rfl,hN,dP⟩
 have hI:=hI.join hN; clear hN
 refine pu (.agg #[slv c6 c5.length c7,.slice none 0 0]) (by kernel_rfl) (ac (bh hI [.slice none 0 0,.slice none 0 0] zeroValue132 rfl fun G w hI=>ac (aq hI 0 2 [slv c6 c5.length c7,.slice none 0 0] sizeOf132 rfl rfl rfl rfl rfl (kh rfl) fun w hI=>aa (ab (rgn rfl (pu (.pointer (some ⟨G,1,none⟩)) rfl (ac (ag hI 0 (.slice none 0 0) isAgg130 rfl rfl rfl ?_))))))))
 refine pu (.pointer (some ⟨S,0,none⟩)) rfl (ac (ar hI 4 2 [iv i,iv l] isAgg23 sizeOf23 rfl rfl rfl rfl ?_))
 refine ac (fu hI [iv i,iv l] 23 (fun b=>slv (some b) 1 1) (by kernel_rfl) ?_)
 intro eA w hI
 have hI:=hI.nilRow 23
 refine gdE hF (fun eB hF=>?_)
 refine ac (ks hI underlying130 (z:=.agg #[iv 0,iv 0]) (k:=2) (bytes:=16) rfl rfl rfl 0 rfl rfl (Row.nil_ 2) [iv i,iv l] rfl rfl (hI.cells 1 (off:=0) rfl (fun j u h=>by rw [Nat.zero_add]; exact h)) (by simp [Value.oneCell']) (by omega) (by omega) (n2:=[(⟨i,l⟩:Rg)].length) (app_len0 rfl) ?_)
 intro c8 c9 d0 w hI cA
 have cA:Row 2 c8 ([(⟨i,l⟩:Rg)].length) c9 d0 (al eRg [(⟨i,l⟩:Rg)]):=Row.snoc (X:=[]) (enc:=eRg) cA _ rfl
 refine pu (.pointer (some ⟨G,1,none⟩)) rfl (ac (aq hI 2 1 [slv c8 ([(⟨i,l⟩:Rg)].length) c9] sizeOf130 rfl rfl rfl rfl rfl (kh rfl) fun w hI=>aa (dn (fun ρ w=>∃ (K:Option Nat) (a1:Nat) (aF:List Value) (b5:Option Nat) (bL:Nat) (bM:List Value) (L:List Ld) (aY:List Rg),cd ρ [(1,iv e),(3,.pointer (some ⟨S,0,none⟩)),(5,.pointer (some ⟨P,0,none⟩)),(6,.pointer (some ⟨a0,0,none⟩)),(7,.pointer (some ⟨G,0,none⟩))]∧Inv [] w0 w [(some S,blk (ql6 i l A x B q d t C y D E) 28),(some P,blk [.bool false,.slice o g.length p] 121),(some a0,blk [.slice none 0 0,.slice none 0 0] 132),(some G,blk [slv K L.length a1,slv b5 aY.length bL] 132),(K,blk aF 30),(b5,blk bM 23)]∧(Row 6 K (L.length) a1 aF (al eLd L))∧(Row 2 b5 (aY.length) bL bM (al eRg aY))∧F109j5 d e g N L aY=some r) ?_ ?_)))
 ·
  refine ab (rgn rfl (pu (iv 0) rfl (aa (au ?_))))
  refine cb (fun m ρ w=>∃ (aJ:Option Nat) (aB:Nat) (aZ:List Value) (aC:Option Nat) (aK:Nat) (aP:List Value) (U:List Ld) (Z:List Rg) (M:Int) (mm:Nat),cd ρ [(1,iv e),(3,.pointer (some ⟨S,0,none⟩)),(5,.pointer (some ⟨P,0,none⟩)),(6,.pointer (some ⟨a0,0,none⟩)),(7,.pointer (some ⟨G,0,none⟩)),(8,iv M)]∧Inv [] w0 w [(some S,blk (ql6 i l A x B q d t C y D E) 28),(some P,blk [.bool false,.slice o g.length p] 121),(some a0,blk [.slice none 0 0,.slice none 0 0] 132),(some G,blk [slv aJ U.length aB,slv aC Z.length aK] 132),(aJ,blk aZ 30),(aC,blk aP 23)]∧(Row 6 aJ (U.length) aB aZ (al eLd U))∧(Row 2 aC (Z.length) aK aP (al eRg Z))∧F109l9 d e g N mm U Z M=some r∧mm=m) (m:=N) ⟨c6,c7,dO,c8,c9,d0,c5,[(⟨i,l⟩:Rg)],0,N,⟨rfl,rfl,rfl,rfl,rfl,rfl,trivial⟩,hI.pk [6,5,4,2,3,0] rfl rfl,(dP.to rfl rfl),(cA.to rfl rfl),hF,rfl⟩ ?_
  rintro m ρ w ⟨aJ,aB,aZ,aC,aK,aP,U,Z,M,mm,hag,hI,b6,d1,hF,hm⟩
  subst hm; obtain ⟨ρ,rfl⟩:=hag.form; clear hag
  obtain _ | m9:=mm
  ·cases (show (none:Option (List Ld × List Rg))=some r from hF)
  replace hF:F109b9 d e g N (F109l9 d e g N m9) U Z M=some r:=hF; unfold F109b9 at hF
  refine ab (ab (rgn rfl (pu (iv M) rfl (pu (.pointer (some ⟨G,0,none⟩)) rfl (ac (ag hI 3 (slv aJ U.length aB) isAgg24 rfl rfl rfl ?_))))))
  refine pu (iv ((U.length:Nat):Int)) (by kernel_rfl) (ifE hF (fun cB hF=>?_) (fun cB hF=>?_))
  ·
   refine ac (cm rfl rfl (fun _=>?_) (fun h=>absurd cB h))
   refine aa (ah rfl (ak (ab (au ?_))))
   refine dn (fun ρ w=>∃ (b7:Option Nat) (bN:Nat) (bO:List Value) (b0:List Ld),cd ρ [(1,iv e),(3,.pointer (some ⟨S,0,none⟩)),(5,.pointer (some ⟨P,0,none⟩)),(6,.pointer (some ⟨a0,0,none⟩)),(7,.pointer (some ⟨G,0,none⟩)),(8,iv M)]∧Inv [] w0 w [(some S,blk (ql6 i l A x B q d t C y D E) 28),(some P,blk [.bool false,.slice o g.length p] 121),(some a0,blk [.slice none 0 0,.slice none 0 0] 132),(some G,blk [slv b7 b0.length bN,slv aC Z.length aK] 132),(b7,blk bO 30),(aC,blk aP 23)]∧(Row 6 b7 (b0.length) bN bO (al eLd b0))∧F109j10 (F109l9 d e g N m9) Z M b0=some r) ?_ ?_
   ·
    refine ab (gm 15 hI (by kernel_rfl) ?_)
    refine zp (.pointer (some ⟨P,0,none⟩)) (fun _=>rfl) (zc kf (fun w hI=>ag hI 1 kf isAgg4 rfl rfl rfl br) (zp kg (fun _=>rfl) (zp kg (fun _=>rfl) (zq (.pointer (some ⟨P,1,none⟩)) rfl (fun _=>rfl) (zo (.slice o g.length p) rfl (fun w hI=>ag hI 1 (.slice o g.length p) isAgg41 rfl rfl rfl br) (zq (.pointer (some ⟨G,0,none⟩)) rfl (fun _=>rfl) (zo (slv aJ U.length aB) rfl (fun w hI=>ag hI 3 (slv aJ U.length aB) isAgg24 rfl rfl rfl br) (zq (iv M) rfl (fun _=>rfl) (gdE hF (fun d2 hF=>?_))))))))))
    refine bt hF (fun O b8 hF=>?_)
    obtain ⟨aE,rfl,dQ⟩:=b6.at_ bf (by decide) b8
    refine zo (.pointer (some ⟨aE,(M).toNat * 6,none⟩)) rfl (fun w hI=>be (M).toNat underlying24 sizeOf30 rfl rfl (Int.toNat_of_nonneg d2).symm (fa b8 rfl) br) (zq (.pointer (some ⟨aE,(M).toNat * 6,none⟩)) rfl (fun _=>rfl) (zo (iv O.src) rfl (fun w hI=>db hI 4 (iv O.src) isAgg3 rfl rfl (dQ 0 _ rfl) br) (bt hF (fun eC d3 hF=>?_))))
    refine ifE hF (fun cC hF=>?_) (fun cC hF=>?_)
    ·
     refine zo kg rfl (fun w hI=>co 59 [.slice o g.length p,iv O.src] (by kernel_rfl) (bn.mono (L59 _ o p g O.src (bB.inv0 hI) bC bD N _ d3) (fun v' w' h=>⟨h.1.trans (congrArg Value.bool cC),h.2⟩)) (fun v' w' h=>h)) (zq kf rfl (fun _=>rfl) (zp kf (fun _=>rfl) (zh (fun w hI=>?_))))
     refine aa (ai rfl (ak ?_))
     exact .inl ⟨rfl,⟨some aE,aB,aZ,U,⟨rfl,rfl,rfl,rfl,rfl,rfl,trivial⟩,hI.pk [0,1,2,3,4,5] rfl rfl,(b6.to rfl rfl),hF⟩⟩
    refine zo kf rfl (fun w hI=>co 59 [.slice o g.length p,iv O.src] (by kernel_rfl) (bn.mono (L59 _ o p g O.src (bB.inv0 hI) bC bD N _ d3) (fun v' w' h=>⟨h.1.trans (congrArg Value.bool (Bool.eq_false_iff.2 cC)),h.2⟩)) (fun v' w' h=>h)) (zq kg rfl (fun _=>rfl) (zp kg (fun _=>rfl) (zh (fun w hI=>?_))))
    refine aa (ah rfl (rgn rfl (pu (.pointer (some ⟨G,0,none⟩)) rfl (ac (ag hI 3 (slv (some aE) U.length aB) isAgg24 rfl rfl rfl ?_)))))
    refine pu (iv M) rfl (pu (.agg #[iv 0,iv 10000]) (by kernel_rfl) (ac (be (M).toNat underlying24 sizeOf30 rfl rfl (Int.toNat_of_nonneg d2).symm (fa b8 rfl) ?_)))
    refine pu (.pointer (some ⟨aE,(M).toNat * 6+2,none⟩)) rfl ?_
    have:=fa b8 rfl
    refine ac (aq hI 4 2 [iv 0,iv 10000] sizeOf23 rfl rfl rfl rfl rfl (b6.roomF (no:=2) (s:=2) (by omega) (by decide)) ?_)
    intro w hI
    have d4:=b6.putF bf (by decide) (M).toNat 2 (⟨O.src,O.hr,0,10000,O.kn,O.un⟩:Ld) [iv 0,iv 10000] b8 (kh rfl) rfl (by omega)
    obtain ⟨cD,hcl⟩:∃ z,z=putCells aZ ((M).toNat * 6+2) [iv 0,iv 10000]:=⟨_,rfl⟩
    rw [← hcl] at d4
    have hI:Inv [] w0 w [(some S,blk (ql6 i l A x B q d t C y D E) 28),(some P,blk [.bool false,.slice o g.length p] 121),(some a0,blk [.slice none 0 0,.slice none 0 0] 132),(some G,blk [slv (some aE) U.length aB,slv aC Z.length aK] 132),(some aE,blk cD 30),(aC,blk aP 23)]:=by rw [hcl]; exact hI
    clear hcl
    refine aa ?_
    have hI:Inv [] w0 w [(some S,blk (ql6 i l A x B q d t C y D E) 28),(some P,blk [.bool false,.slice o g.length p] 121),(some a0,blk [.slice none 0 0,.slice none 0 0] 132),(some G,blk [slv (some aE) (((U).set (M).toNat (⟨O.src,O.hr,0,10000,O.kn,O.un⟩:Ld)).length) aB,slv aC Z.length aK] 132),(some aE,blk cD 30),(aC,blk aP 23)]:=by first | (have h:=hI; (try simp only [List.length_set,ib] at h); simp only [List.length_set,ib]; exact h) | (have h:=hI; rw [show U.length=((U).set (M).toNat (⟨O.src,O.hr,0,10000,O.kn,O.un⟩:Ld)).length from (km rfl)] at h; exact h)
    exact .inl ⟨rfl,⟨some aE,aB,cD,(U).set (M).toNat (⟨O.src,O.hr,0,10000,O.kn,O.un⟩:Ld),⟨rfl,rfl,rfl,rfl,rfl,rfl,trivial⟩,hI.pk [0,1,2,3,4,5] rfl rfl,(d4.to rfl (km rfl)),hF⟩⟩
   intro ρ w hJ
   obtain ⟨b7,bN,bO,b0,hag,hI,dR,hF⟩:=hJ
   obtain ⟨ρ,rfl⟩:=hag.form; clear hag
   unfold F109j10 at hF
   refine rgn rfl (pu (.pointer (some ⟨G,1,none⟩)) rfl (ac (ag hI 3 (slv aC Z.length aK) isAgg130 rfl rfl rfl ?_)))
   refine pu (.agg #[iv 0,iv 10000]) (by kernel_rfl) (ac (fu hI [iv 0,iv 10000] 23 (fun b=>slv (some b) 1 1) (by kernel_rfl) fun eD w hI=>gdE hF (fun eE hF=>?_)))
   refine ac (ks hI underlying130 (z:=.agg #[iv 0,iv 0]) (k:=2) (bytes:=16) rfl rfl rfl 6 rfl rfl d1 [iv 0,iv 10000] rfl rfl (hI.cells 0 (off:=0) rfl (fun j u h=>by rw [Nat.zero_add]; exact h)) (by simp [Value.oneCell']) (by omega) (by omega) (n2:=(Z++[(⟨0,10000⟩:Rg)]).length) (kr rfl rfl) ?_)
   intro cE cF d5 w hI cG
   have cG:Row 2 cE ((Z++[(⟨0,10000⟩:Rg)]).length) cF d5 (al eRg (Z++[(⟨0,10000⟩:Rg)])):=cG.snoc _ rfl
   refine pu (.pointer (some ⟨G,1,none⟩)) rfl (ac (aq hI 4 1 [slv cE ((Z++[(⟨0,10000⟩:Rg)]).length) cF] sizeOf130 rfl rfl rfl rfl rfl (kh rfl) fun w hI=>aa (rgn rfl (pu (iv M) rfl (ckE hF (fun dS hF=>?_))))))
   refine ac (cj rfl rfl dS ?_)
   refine pu (iv (M+1)) rfl (aa ?_)
   exact ⟨rfl,m9,Nat.lt_succ_self _,⟨b7,bN,bO,cE,cF,d5,b0,Z++[(⟨0,10000⟩:Rg)],M+1,m9,⟨rfl,rfl,rfl,rfl,rfl,rfl,trivial⟩,hI.pk [1,2,3,4,5,6] rfl rfl,(dR.to rfl rfl),(cG.to rfl rfl),hF,rfl⟩⟩
  refine ac (cm rfl rfl (fun h=>absurd h cB) (fun _=>?_))
  refine aa (ai rfl (bw ?_))
  exact .inl ⟨rfl,⟨aJ,aB,aZ,aC,aK,aP,U,Z,⟨rfl,rfl,rfl,rfl,rfl,trivial⟩,hI.pk [0,1,2,3,4,5] rfl rfl,(b6.to rfl rfl),(d1.to rfl rfl),hF⟩⟩
 intro ρ w hJ
 obtain ⟨K,a1,aF,b5,bL,bM,L,aY,hag,hI,bP,dT,hF⟩:=hJ
 obtain ⟨ρ,rfl⟩:=hag.form; clear hag
 unfold F109j5 at hF
 refine ab (ab (rgn rfl (pu (iv 0) rfl (aa (au ?_)))))
 refine cb (fun m ρ w=>∃ (T:Option Nat) (Q:Nat) (aQ:List Value) (H:List Rg) (a3:Int) (mm:Nat),cd ρ [(1,iv e),(3,.pointer (some ⟨S,0,none⟩)),(5,.pointer (some ⟨P,0,none⟩)),(6,.pointer (some ⟨a0,0,none⟩)),(7,.pointer (some ⟨G,0,none⟩)),(9,iv a3)]∧Inv [] w0 w [(some S,blk (ql6 i l A x B q d t C y D E) 28),(some P,blk [.bool false,.slice o g.length p] 121),(some a0,blk [.slice none 0 0,.slice none 0 0] 132),(some G,blk [slv K L.length a1,slv T H.length Q] 132),(K,blk aF 30),(T,blk aQ 23)]∧(Row 2 T (H.length) Q aQ (al eRg H))∧F109l6 d e g N L mm H a3=some r∧mm=m) (m:=N) ⟨b5,bL,bM,aY,0,N,⟨rfl,rfl,rfl,rfl,rfl,rfl,trivial⟩,hI.pk [0,1,2,3,4,5] rfl rfl,(dT.to rfl rfl),hF,rfl⟩ ?_
 rintro m ρ w ⟨T,Q,aQ,H,a3,mm,hag,hI,aL,hF,hm⟩
 subst hm; obtain ⟨ρ,rfl⟩:=hag.form; clear hag
 obtain _ | m6:=mm
 ·cases (show (none:Option (List Ld × List Rg))=some r from hF)
 replace hF:F109b6 d e g N L (F109l6 d e g N L m6) H a3=some r:=hF; unfold F109b6 at hF
 refine ab (ab (rgn rfl (pu (iv a3) rfl (pu (.pointer (some ⟨S,3,none⟩)) rfl (ac (ag hI 0 (.slice q d.length t) isAgg25 rfl rfl rfl ?_))))))
 refine pu (iv ((d.length:Nat):Int)) (by kernel_rfl) (ifE hF (fun cH hF=>?_) (fun cH hF=>?_))
 ·
  refine ac (cm rfl rfl (fun _=>?_) (fun h=>absurd cH h))
  refine aa (ah rfl (ak (dn (fun ρ w=>∃ (b9:Option Nat) (bQ:Nat) (bR:List Value) (b1:List Rg),cd ρ [(1,iv e),(3,.pointer (some ⟨S,0,none⟩)),(5,.pointer (some ⟨P,0,none⟩)),(6,.pointer (some ⟨a0,0,none⟩)),(7,.pointer (some ⟨G,0,none⟩)),(9,iv a3)]∧Inv [] w0 w [(some S,blk (ql6 i l A x B q d t C y D E) 28),(some P,blk [.bool false,.slice o g.length p] 121),(some a0,blk [.slice none 0 0,.slice none 0 0] 132),(some G,blk [slv K L.length a1,slv b9 b1.length bQ] 132),(K,blk aF 30),(b9,blk bR 23)]∧(Row 2 b9 (b1.length) bQ bR (al eRg b1))∧F109j7 (F109l6 d e g N L m6) a3 b1=some r) ?_ ?_)))
  ·
   refine au ?_
   refine ab (rgn rfl (pu (.pointer (some ⟨S,3,none⟩)) rfl (ac (ag hI 0 (.slice q d.length t) isAgg25 rfl rfl rfl ?_))))
   refine pu (iv a3) rfl (gdE hF (fun dU hF=>?_))
   refine bt hF (fun a d6 hF=>?_)
   obtain ⟨eF,eG,dV,dW,dX⟩:=bA.at_ bf (by decide) d6
   refine ac (cn (a3).toNat underlying25 sizeOf31 rfl dV rfl (Int.toNat_of_nonneg dU).symm (fa d6 rfl) ?_)
   refine ac (ef hI (eLd a) isAgg31 sizeOf31 rfl rfl dW (by simp) dX ?_)
   refine ac (bh hI [iv 0,iv 0,iv 0,iv 0,iv 0,iv 0] zeroValue31 rfl fun aG w hI=>ac (aq hI 0 6 (eLd a) sizeOf31 rfl rfl rfl rfl rfl (kh rfl) fun w hI=>aa (dn (fun ρ w=>cd ρ [(1,iv e),(3,.pointer (some ⟨S,0,none⟩)),(5,.pointer (some ⟨P,0,none⟩)),(6,.pointer (some ⟨a0,0,none⟩)),(7,.pointer (some ⟨G,0,none⟩)),(9,iv a3),(10,.pointer (some ⟨aG,0,none⟩)),(85,.bool false)]∧Inv [] w0 w [(some S,blk (ql6 i l A x B q d t C y D E) 28),(some P,blk [.bool false,.slice o g.length p] 121),(some a0,blk [.slice none 0 0,.slice none 0 0] 132),(some G,blk [slv K L.length a1,slv T H.length Q] 132),(K,blk aF 30),(T,blk aQ 23),(some aG,blk (eLd a) 31)]∧F109j8 (F109l6 d e g N L m6) H a3=some r) ?_ ?_)))
   ·
    refine rgn rfl (pu (.pointer (some ⟨aG,4,none⟩)) rfl (ac (ag hI 0 (iv a.kn) isAgg3 rfl rfl rfl ?_)))
    refine pu (.pointer (some ⟨aG,5,none⟩)) rfl (ac (ag hI 0 (iv a.un) isAgg3 rfl rfl rfl ?_))
    refine pu (iv e) rfl (bt hF (fun eH d7 hF=>?_))
    refine ifE hF (fun cI hF=>?_) (fun cI hF=>?_)
    ·
     refine ac (bg hI 147 [iv a.kn,iv a.un,iv e] kg (by kernel_rfl) (bn.mono (L147 _ a.kn a.un e _ d7) (fun v' w' h=>⟨h.1.trans (congrArg Value.bool cI),h.2⟩)) fun w hI=>pu kg rfl (puo (.pointer (some ⟨P,0,none⟩)) ⟨rfl,rfl⟩ (aw rfl (ag hI 2 kf isAgg4 rfl rfl rfl ?_))))
     refine puo kf ⟨rfl,rfl⟩ (puo (.pointer (some ⟨P,1,none⟩)) ⟨rfl,rfl⟩ (aw rfl (ag hI 2 (.slice o g.length p) isAgg41 rfl rfl rfl ?_)))
     refine puo (.pointer (some ⟨aG,0,none⟩)) ⟨rfl,rfl⟩ (aw rfl (ag hI 0 (iv a.src) isAgg3 rfl rfl rfl ?_))
     refine bt hF (fun eI d8 hF=>?_)
     refine ifE hF (fun cJ hF=>?_) (fun cJ hF=>?_)
     ·
      refine aw rfl (bg hI 59 [.slice o g.length p,iv a.src] kg (by kernel_rfl) (bn.mono (L59 _ o p g a.src (bB.inv0 hI) bC bD N _ d8) (fun v' w' h=>⟨h.1.trans (congrArg Value.bool cJ),h.2⟩)) fun w hI=>puo kg ⟨rfl,rfl⟩ (pu kg rfl (aa (.inr ?_))))
      refine ah rfl (ab (rgn rfl (ac (ar hI 4 2 [slv K L.length a1,slv T H.length Q] isAgg132 sizeOf132 rfl rfl rfl rfl ?_))))
      refine pu (.pointer (some ⟨aG,1,none⟩)) rfl (ac (ag hI 0 (iv a.hr) isAgg3 rfl rfl rfl ?_))
      refine bt hF (fun a8 dY hF=>?_)
      refine ac (bg hI 100 [.agg #[slv K L.length a1,slv T H.length Q],iv a.hr] (iv a8) (by kernel_rfl) (L100 _ (K.map fun b=>⟨b,0,none⟩) a1 L (T.map fun b=>⟨b,0,none⟩) Q H a.hr (hI.rowCells 5 rfl bP) (am rfl bP.big) (am rfl bP.cap) (hI.rowCells 6 rfl aL) (am rfl aL.big) (am rfl aL.cap) N _ dY) fun w hI=>pu (iv a8) rfl (aa (gm 12 hI (by kernel_rfl) ?_)))
      refine zp (.pointer (some ⟨G,1,none⟩)) (fun _=>rfl) (zc (slv T H.length Q) (fun w hI=>ag hI 4 (slv T H.length Q) isAgg130 rfl rfl rfl br) (zp (iv a8) (fun _=>rfl) (zp (.pointer (some ⟨G,1,none⟩)) (fun _=>rfl) (zc (slv T H.length Q) (fun w hI=>ag hI 4 (slv T H.length Q) isAgg130 rfl rfl rfl br) (zp (iv a8) (fun _=>rfl) (gdE hF (fun d9 hF=>?_)))))))
      refine bt hF (fun aR bS hF=>?_)
      obtain ⟨aS,rfl,dZ⟩:=aL.at_ da (by decide) bS
      refine zc (.pointer (some ⟨aS,(a8).toNat * 2,none⟩)) (fun w hI=>be (a8).toNat underlying130 sizeOf23 rfl rfl (Int.toNat_of_nonneg d9).symm (fa bS rfl) br) (zc (.agg #[iv aR.lo,iv aR.hi]) (fun w hI=>cq hI 6 [iv aR.lo,iv aR.hi] isAgg23 sizeOf23 rfl rfl rfl dZ br) (zp (.pointer (some ⟨aG,2,none⟩)) (fun _=>rfl) (zc (.agg #[iv a.lo,iv a.hi]) (fun w hI=>ar hI 0 2 [iv a.lo,iv a.hi] isAgg23 sizeOf23 rfl rfl rfl rfl br) (bt hF (fun a4 e0 hF=>?_)))))
      refine zc (.agg #[iv a4.1,iv a4.2]) (fun w hI=>co 105 [.agg #[iv aR.lo,iv aR.hi],.agg #[iv a.lo,iv a.hi]] (by kernel_rfl) (L105 _ aR (⟨a.lo,a.hi⟩:Rg) _ e0) (fun v' w' h=>h)) (zc (.pointer (some ⟨aS,(a8).toNat * 2,none⟩)) (fun w hI=>be (a8).toNat underlying130 sizeOf23 rfl rfl (Int.toNat_of_nonneg d9).symm (fa bS rfl) br) (zh (fun w hI=>?_)))
      have:=fa bS rfl
      refine ac (aq hI 6 2 [iv a4.1,iv a4.2] sizeOf23 rfl rfl rfl rfl rfl (aL.room (by omega)) ?_)
      intro w hI
      have dA:=aL.put da (by decide) (a8).toNat (⟨a4.1,a4.2⟩:Rg) (by omega)
      obtain ⟨cK,hcl⟩:∃ z,z=putCells aQ ((a8).toNat * 2) (eRg (⟨a4.1,a4.2⟩:Rg)):=⟨_,rfl⟩
      rw [← hcl] at dA
      have hI:Inv [] w0 w [(some aG,blk (eLd a) 31),(some S,blk (ql6 i l A x B q d t C y D E) 28),(some P,blk [.bool false,.slice o g.length p] 121),(some a0,blk [.slice none 0 0,.slice none 0 0] 132),(some G,blk [slv K L.length a1,slv (some aS) H.length Q] 132),(K,blk aF 30),(some aS,blk cK 23)]:=by rw [hcl]; exact hI
      clear hcl
      refine aa ?_
      have hI:Inv [] w0 w [(some aG,blk (eLd a) 31),(some S,blk (ql6 i l A x B q d t C y D E) 28),(some P,blk [.bool false,.slice o g.length p] 121),(some a0,blk [.slice none 0 0,.slice none 0 0] 132),(some G,blk [slv K L.length a1,slv (some aS) (((H).set (a8).toNat (⟨a4.1,a4.2⟩:Rg)).length) Q] 132),(K,blk aF 30),(some aS,blk cK 23)]:=by first | (have h:=hI; (try simp only [List.length_set,ib] at h); simp only [List.length_set,ib]; exact h) | (have h:=hI; rw [show H.length=((H).set (a8).toNat (⟨a4.1,a4.2⟩:Rg)).length from (km rfl)] at h; exact h)
      exact .inl ⟨rfl,⟨some aS,Q,cK,(H).set (a8).toNat (⟨a4.1,a4.2⟩:Rg),⟨rfl,rfl,rfl,rfl,rfl,rfl,trivial⟩,hI.pk [1,2,3,4,5,6] rfl rfl,(dA.to rfl (km rfl)),hF⟩⟩
     refine aw rfl (bg hI 59 [.slice o g.length p,iv a.src] kf (by kernel_rfl) (bn.mono (L59 _ o p g a.src (bB.inv0 hI) bC bD N _ d8) (fun v' w' h=>⟨h.1.trans (congrArg Value.bool (Bool.eq_false_iff.2 cJ)),h.2⟩)) fun w hI=>puo kf ⟨rfl,rfl⟩ (pu kf rfl (aa ?_)))
     exact .inl ⟨rfl,⟨⟨rfl,rfl,rfl,rfl,rfl,rfl,rfl,rfl,trivial⟩,hI.pk [1,2,3,4,5,6,0] rfl rfl,hF⟩⟩
    refine ac (bg hI 147 [iv a.kn,iv a.un,iv e] kf (by kernel_rfl) (bn.mono (L147 _ a.kn a.un e _ d7) (fun v' w' h=>⟨h.1.trans (congrArg Value.bool (Bool.eq_false_iff.2 cI)),h.2⟩)) fun w hI=>pu kf rfl (sf 3 rfl (dk rfl ?_)))
    refine dk rfl ?_
    refine dk rfl ?_
    refine dk rfl ?_
    refine dk rfl ?_
    refine of_ rfl (pu kf rfl (aa ?_))
    exact .inl ⟨rfl,⟨⟨rfl,rfl,rfl,rfl,rfl,rfl,rfl,rfl,trivial⟩,hI.pk [1,2,3,4,5,6,0] rfl rfl,hF⟩⟩
   intro ρ w hJ
   obtain ⟨hag,hI,hF⟩:=hJ
   obtain ⟨ρ,rfl⟩:=hag.form; clear hag
   unfold F109j8 at hF
   refine ai rfl (ak ?_)
   exact .inl ⟨rfl,⟨T,Q,aQ,H,⟨rfl,rfl,rfl,rfl,rfl,rfl,trivial⟩,hI.pk [0,1,2,3,4,5] rfl rfl,(aL.to rfl rfl),hF⟩⟩
  intro ρ w hJ
  obtain ⟨b9,bQ,bR,b1,hag,hI,e1,hF⟩:=hJ
  obtain ⟨ρ,rfl⟩:=hag.form; clear hag
  unfold F109j7 at hF
  refine rgn rfl (pu (iv a3) rfl (ckE hF (fun e2 hF=>?_)))
  refine ac (cj rfl rfl e2 ?_)
  refine pu (iv (a3+1)) rfl (aa ?_)
  exact ⟨rfl,m6,Nat.lt_succ_self _,⟨b9,bQ,bR,b1,a3+1,m6,⟨rfl,rfl,rfl,rfl,rfl,rfl,trivial⟩,hI.pk [0,1,2,3,4,5] rfl rfl,(e1.to rfl rfl),hF,rfl⟩⟩
 refine ac (cm rfl rfl (fun h=>absurd h cH) (fun _=>?_))
 refine aa (ai rfl (bw ?_))
 refine ab (rgn rfl (ac (ar hI 3 2 [slv K L.length a1,slv T H.length Q] isAgg132 sizeOf132 rfl rfl rfl rfl ?_)))
 refine ac (aq hI 2 2 [slv K L.length a1,slv T H.length Q] sizeOf132 rfl rfl rfl rfl rfl (kh rfl) fun w hI=>aa (aj ?_))
 replace hF:=Option.some.inj hF; subst hF
 exact ⟨.agg #[slv K L.length a1,slv T H.length Q],Ret.c rfl rfl (ce hI 2 2 [slv K L.length a1,slv T H.length Q] isAgg132 sizeOf132 rfl rfl rfl),⟨K,a1,aF,T,Q,aQ,rfl,hI.pk [4,5] rfl rfl,bP.to rfl rfl,aL.to rfl rfl⟩⟩


theorem L120 (w0:World) (d:Option Addr) (e:Nat) (a:List Ld) (D:Option Addr) (E:Nat) (f:List Rg) (aS:bi w0 d (al eLd a)) (bT:a.length≤9223372036854775807) (bU:a.length≤e) (b5:bi w0 D (al eRg f)) (bV:f.length≤9223372036854775807) (bW:f.length≤E) (N:Nat) (r:(List Rg × Bool)) (hF:F120 N a f=some r):bn Tryz.prog 120 [.agg #[.slice d a.length e,.slice D f.length E]] w0 fun v w=>∃ (z0:Option Nat) (z1:Nat) (z2:List Value),v=.tuple #[.agg #[.slice d a.length e,slv z0 r.1.length z1],.bool r.2]∧Inv [] w0 w [(z0,blk z2 23)]∧Row 2 z0 r.1.length z1 z2 (al eRg r.1):=by
 refine az (n:=128) func120 rfl ntmps120 rfl ?_
 have hI:=Inv.start w0
 unfold F120 at hF
 refine ab (rgn rfl (ac (ca hI [.slice d a.length e,.slice D f.length E] rfl fun q w hI=>ac (bh hI [.slice none 0 0,.slice none 0 0] zeroValue132 rfl fun B w hI=>pu kf rfl (aa (ab (gdE hF (fun bX hF=>?_))))))))
 refine kx [tv (fun _=>(.pointer (some ⟨q,0,none⟩))),tr (fun _=>(.slice d a.length e)) [10],⟨fun y=>(.slice (some ⟨(y 2).b,0,none⟩) 0 0),fun y=>[(some (y 2).b,blk [] 23)],fun _=>True,[],[]⟩,tv (fun _=>(.pointer (some ⟨q,1,none⟩))),tr (fun _=>(.slice D f.length E)) [10],⟨fun y=>(slv ((y 5).g 0) f.length ((y 5).c 0)),fun y=>[(((y 5).g 0),blk ((y 5).cl 0) 23)],fun y=>(Row 2 ((y 5).g 0) f.length ((y 5).c 0) ((y 5).cl 0) (al eRg f)),[2],[]⟩,tv (fun y=>(.agg #[.slice d a.length e,slv ((y 5).g 0) f.length ((y 5).c 0)])),tal 7 [.slice none 0 0,.slice none 0 0] 132,tst (fun y=>[(some (y 7).b,blk [.slice d a.length e,slv ((y 5).g 0) f.length ((y 5).c 0)] 132)]) 7] (fun y=>[(1,.pointer (some ⟨q,0,none⟩)),(2,.pointer (some ⟨B,0,none⟩)),(4,.pointer (some ⟨(y 7).b,0,none⟩))]) (fun y=>[(((y 5).g 0),blk ((y 5).cl 0) 23),(some (y 7).b,blk [.slice d a.length e,slv ((y 5).g 0) f.length ((y 5).c 0)] 132),(some B,blk [.slice none 0 0,.slice none 0 0] 132),(some q,blk [.slice d a.length e,.slice D f.length E] 132)]) hI (by kernel_rfl) (fun y=>⟨rfl,rfl⟩) (fun y=>?_) ?_
 ·
  refine tp rfl (fun _=>rfl) (tl1 [(some q,blk [.slice d a.length e,.slice D f.length E] 132)] rfl rfl (fun X w hI=>ag hI 0 (.slice d a.length e) isAgg24 rfl rfl rfl br) (tg (.slice (some ⟨(y 2).b,0,none⟩) 0 0) [] [] rfl ⟨rfl,rfl,rfl⟩ ?_ ?_))
  ·intro hp X w hI
   refine fu hI [] 23 (fun b=>slv (some b) 0 0) (by kernel_rfl) fun aT w hI=>⟨wit aT [] [] [] [],rfl,trivial,hI.castL rfl⟩
  refine tp rfl (fun _=>rfl) (tl1 [(some q,blk [.slice d a.length e,.slice D f.length E] 132)] rfl rfl (fun X w hI=>ag hI 0 (.slice D f.length E) isAgg130 rfl rfl rfl br) (tg (slv ((y 5).g 0) f.length ((y 5).c 0)) [(some (y 2).b,blk [] 23)] [] rfl ⟨rfl,rfl,rfl⟩ ?_ ?_))
  ·intro hp X w hI
   refine ks hI underlying130 (z:=.agg #[iv 0,iv 0]) (k:=2) (bytes:=16) rfl rfl rfl 0 rfl rfl (Row.zero_ 2 (y 2).b) (al eRg f) rfl (dt da _) (b5.inv0 hI) (flat_cell eRg_cell _) (by omega) (by omega) (n2:=f.length) (app_len0 rfl) ?_
   intro a5 a6 a7 w hI Y
   have Y:Row 2 a5 f.length a6 a7 (al eRg f):=Y
   exact ⟨wit 0 [a5] [a6] [a7] [],rfl,Eq.mp rfl Y,hI.castL rfl⟩
  refine tpv (.agg #[.slice d a.length e,slv ((y 5).g 0) f.length ((y 5).c 0)]) rfl ⟨rfl,fun _=>(by kernel_rfl)⟩ (tA rfl zeroValue132 rfl (tS [(some (y 7).b,blk [.slice none 0 0,.slice none 0 0] 132)] rfl ⟨rfl,rfl⟩ (fun X w hI=>aq hI 0 2 [.slice d a.length e,slv ((y 5).g 0) f.length ((y 5).c 0)] sizeOf132 rfl rfl rfl rfl rfl (kh rfl) fun w hI=>⟨rfl,hI.castL rfl⟩) ?_))
  exact tn
 intro y hp ρ w hag hI
 have Y:Row 2 ((y 5).g 0) f.length ((y 5).c 0) ((y 5).cl 0) (al eRg f):=pgl hp (k:=5) (by decide) rfl
 clear hp
 generalize (y 2).b=aT at *
 generalize (y 5).g 0=a5 at *
 generalize (y 5).c 0=a6 at *
 generalize (y 5).cl 0=a7 at *
 generalize (y 7).b=o at *
 obtain ⟨ρ,rfl⟩:=hag.form; clear hag
 refine dn (fun ρ w=>∃ (Z:Option Nat) (a8:Nat) (a9:List Value) (U:List Rg),cd ρ [(1,.pointer (some ⟨q,0,none⟩)),(2,.pointer (some ⟨B,0,none⟩)),(4,.pointer (some ⟨o,0,none⟩))]∧Inv [] w0 w [(some q,blk [.slice d a.length e,.slice D f.length E] 132),(some B,blk [.slice none 0 0,.slice none 0 0] 132),(some o,blk [.slice d a.length e,slv Z U.length a8] 132),(Z,blk a9 23)]∧(Row 2 Z (U.length) a8 a9 (al eRg U))∧F120j1 a N U=some r) ?_ ?_
 ·
  refine ab (rgn rfl (pu (iv 0) rfl (aa (au ?_))))
  refine cb (fun m ρ w=>∃ (Q:Option Nat) (F:Nat) (a0:List Value) (s:List Rg) (i:Int) (mm:Nat),cd ρ [(1,.pointer (some ⟨q,0,none⟩)),(2,.pointer (some ⟨B,0,none⟩)),(4,.pointer (some ⟨o,0,none⟩)),(5,iv i)]∧Inv [] w0 w [(some q,blk [.slice d a.length e,.slice D f.length E] 132),(some B,blk [.slice none 0 0,.slice none 0 0] 132),(some o,blk [.slice d a.length e,slv Q s.length F] 132),(Q,blk a0 23)]∧(Row 2 Q (s.length) F a0 (al eRg s))∧F120l5 a N mm s i=some r∧mm=m) (m:=N) ⟨a5,a6,a7,f,0,N,⟨rfl,rfl,rfl,rfl,trivial⟩,hI.pk [3,2,1,0] rfl rfl,(Y.to rfl rfl),hF,rfl⟩ ?_
  rintro m ρ w ⟨Q,F,a0,s,i,mm,hag,hI,a1,hF,hm⟩
  subst hm; obtain ⟨ρ,rfl⟩:=hag.form; clear hag
  obtain _ | m5:=mm
  ·cases (show (none:Option (List Rg × Bool))=some r from hF)
  replace hF:F120b5 a N (F120l5 a N m5) s i=some r:=hF; unfold F120b5 at hF
  refine ab (ab (rgn rfl (pu (iv i) rfl (pu (.pointer (some ⟨q,0,none⟩)) rfl (ac (ag hI 0 (.slice d a.length e) isAgg24 rfl rfl rfl ?_))))))
  refine pu (iv ((a.length:Nat):Int)) (by kernel_rfl) (ifE hF (fun aI hF=>?_) (fun aI hF=>?_))
  ·
   refine ac (cm rfl rfl (fun _=>?_) (fun h=>absurd aI h))
   refine aa (ah rfl (ak (ab (au ?_))))
   refine ab (rgn rfl (pu (.pointer (some ⟨q,0,none⟩)) rfl (ac (ag hI 0 (.slice d a.length e) isAgg24 rfl rfl rfl ?_))))
   refine pu (iv i) rfl (gdE hF (fun aJ hF=>?_))
   refine bt hF (fun t aU hF=>?_)
   obtain ⟨b6,b7,b8,b9,bA⟩:=aS.at_ bf (by decide) aU
   refine ac (cn (i).toNat underlying24 sizeOf30 rfl b8 rfl (Int.toNat_of_nonneg aJ).symm (fa aU rfl) ?_)
   refine pu (.pointer (some ⟨b6,b7+(i).toNat * 6+2,none⟩)) rfl (ac (ef hI [iv t.lo,iv t.hi] isAgg23 sizeOf23 rfl rfl b9 (by simp) (fun j v h=>by have:=part_of bA 2 2 rfl j v h; rwa [← Nat.add_assoc] at this) ?_))
   refine ac (bh hI [iv 0,iv 0] zeroValue23 rfl fun aA w hI=>ac (aq hI 0 2 [iv t.lo,iv t.hi] sizeOf23 rfl rfl rfl rfl rfl (kh rfl) fun w hI=>aa (gm 31 hI (by kernel_rfl) ?_)))
   refine zp (.pointer (some ⟨o,1,none⟩)) (fun _=>rfl) (zc (slv Q s.length F) (fun w hI=>ag hI 3 (slv Q s.length F) isAgg130 rfl rfl rfl br) (zp (iv i) (fun _=>rfl) (ckE hF (fun aK hF=>?_))))
   refine zc (iv (i+1)) (fun w hI=>cj rfl rfl aK br) (zp (.pointer (some ⟨o,1,none⟩)) (fun _=>rfl) (zc (slv Q s.length F) (fun w hI=>ag hI 3 (slv Q s.length F) isAgg130 rfl rfl rfl br) (zp (iv i) (fun _=>rfl) (zc (iv (i+1)) (fun w hI=>cj rfl rfl aK br) (gdE hF (fun aV hF=>?_))))))
   refine bt hF (fun S aB hF=>?_)
   obtain ⟨G,rfl,bB⟩:=a1.at_ da (by decide) aB
   refine zc (.pointer (some ⟨G,((i+1).toNat) * 2,none⟩)) (fun w hI=>be ((i+1).toNat) underlying130 sizeOf23 rfl rfl (Int.toNat_of_nonneg aV).symm (fa aB rfl) br) (zc (.agg #[iv S.lo,iv S.hi]) (fun w hI=>cq hI 4 [iv S.lo,iv S.hi] isAgg23 sizeOf23 rfl rfl rfl bB br) (zp (.pointer (some ⟨o,1,none⟩)) (fun _=>rfl) (zc (slv (some G) s.length F) (fun w hI=>ag hI 3 (slv (some G) s.length F) isAgg130 rfl rfl rfl br) (zp (iv i) (fun _=>rfl) (bt hF (fun L aL hF=>?_))))))
   have aW:=a1.atS da (by decide) aL
   refine zc (.pointer (some ⟨G,(i).toNat * 2,none⟩)) (fun w hI=>be (i).toNat underlying130 sizeOf23 rfl rfl (Int.toNat_of_nonneg aJ).symm (fa aL rfl) br) (zp (.pointer (some ⟨G,(i).toNat * 2,none⟩)) (fun _=>rfl) (zc (iv L.lo) (fun w hI=>db hI 4 (iv L.lo) isAgg3 rfl rfl (aW 0 _ rfl) br) (zp (.pointer (some ⟨aA,1,none⟩)) (fun _=>rfl) (zc (iv t.hi) (fun w hI=>ag hI 0 (iv t.hi) isAgg3 rfl rfl rfl br) (ckE hF (fun bC hF=>?_))))))
   refine zc (iv (L.lo - t.hi)) (fun w hI=>dm rfl rfl bC br) (zp (.pointer (some ⟨o,1,none⟩)) (fun _=>rfl) (zc (slv (some G) s.length F) (fun w hI=>ag hI 3 (slv (some G) s.length F) isAgg130 rfl rfl rfl br) (zp (iv i) (fun _=>rfl) (zc (.pointer (some ⟨G,(i).toNat * 2,none⟩)) (fun w hI=>be (i).toNat underlying130 sizeOf23 rfl rfl (Int.toNat_of_nonneg aJ).symm (fa aL rfl) br) (zp (.pointer (some ⟨G,(i).toNat * 2+1,none⟩)) (fun _=>rfl) (zc (iv L.hi) (fun w hI=>db hI 4 (iv L.hi) isAgg3 rfl rfl (aW 1 _ rfl) br) (zp (.pointer (some ⟨aA,0,none⟩)) (fun _=>rfl) (zc (iv t.lo) (fun w hI=>ag hI 0 (iv t.lo) isAgg3 rfl rfl rfl br) (ckE hF (fun bD hF=>?_))))))))))
   refine zc (iv (L.hi - t.lo)) (fun w hI=>dm rfl rfl bD br) (zp (.agg #[iv (L.lo - t.hi),iv (L.hi - t.lo)]) (fun _=>(by kernel_rfl)) (bt hF (fun J bE hF=>?_)))
   refine zc (.agg #[iv J.1,iv J.2]) (fun w hI=>co 105 [.agg #[iv S.lo,iv S.hi],.agg #[iv (L.lo - t.hi),iv (L.hi - t.lo)]] (by kernel_rfl) (L105 _ S (⟨L.lo - t.hi,L.hi - t.lo⟩:Rg) _ bE) (fun v' w' h=>h)) (zc (.pointer (some ⟨G,((i+1).toNat) * 2,none⟩)) (fun w hI=>be ((i+1).toNat) underlying130 sizeOf23 rfl rfl (Int.toNat_of_nonneg aV).symm (fa aB rfl) br) (zh (fun w hI=>?_)))
   have:=fa aB rfl
   refine ac (aq hI 4 2 [iv J.1,iv J.2] sizeOf23 rfl rfl rfl rfl rfl (a1.room (by omega)) ?_)
   intro w hI
   have aX:=a1.put da (by decide) ((i+1).toNat) (⟨J.1,J.2⟩:Rg) (by omega)
   obtain ⟨aM,hcl⟩:∃ z,z=putCells a0 (((i+1).toNat) * 2) (eRg (⟨J.1,J.2⟩:Rg)):=⟨_,rfl⟩
   rw [← hcl] at aX
   have hI:Inv [] w0 w [(some aA,blk [iv t.lo,iv t.hi] 23),(some q,blk [.slice d a.length e,.slice D f.length E] 132),(some B,blk [.slice none 0 0,.slice none 0 0] 132),(some o,blk [.slice d a.length e,slv (some G) s.length F] 132),(some G,blk aM 23)]:=by rw [hcl]; exact hI
   clear hcl
   refine aa (rgn rfl (pu (iv i) rfl (ac (cj rfl rfl aK ?_))))
   refine pu (iv (i+1)) rfl (aa ?_)
   have hI:Inv [] w0 w [(some aA,blk [iv t.lo,iv t.hi] 23),(some q,blk [.slice d a.length e,.slice D f.length E] 132),(some B,blk [.slice none 0 0,.slice none 0 0] 132),(some o,blk [.slice d a.length e,slv (some G) (((s).set ((i+1).toNat) (⟨J.1,J.2⟩:Rg)).length) F] 132),(some G,blk aM 23)]:=by first | (have h:=hI; (try simp only [List.length_set,ib] at h); simp only [List.length_set,ib]; exact h) | (have h:=hI; rw [show s.length=((s).set ((i+1).toNat) (⟨J.1,J.2⟩:Rg)).length from (km rfl)] at h; exact h)
   exact ⟨rfl,m5,Nat.lt_succ_self _,⟨some G,F,aM,(s).set ((i+1).toNat) (⟨J.1,J.2⟩:Rg),i+1,m5,⟨rfl,rfl,rfl,rfl,trivial⟩,hI.pk [1,2,3,4] rfl rfl,(aX.to rfl (km rfl)),hF,rfl⟩⟩
  refine ac (cm rfl rfl (fun h=>absurd h aI) (fun _=>?_))
  refine aa (ai rfl (bw ?_))
  exact .inl ⟨rfl,⟨Q,F,a0,s,⟨rfl,rfl,rfl,trivial⟩,hI.pk [0,1,2,3] rfl rfl,(a1.to rfl rfl),hF⟩⟩
 intro ρ w hJ
 obtain ⟨Z,a8,a9,U,hag,hI,bF,hF⟩:=hJ
 obtain ⟨ρ,rfl⟩:=hag.form; clear hag
 unfold F120j1 at hF
 refine dn (fun ρ w=>∃ (a2:Option Nat) (aC:Nat) (aD:List Value) (p:List Rg),cd ρ [(2,.pointer (some ⟨B,0,none⟩)),(4,.pointer (some ⟨o,0,none⟩))]∧Inv [] w0 w [(some B,blk [.slice none 0 0,.slice none 0 0] 132),(some o,blk [.slice d a.length e,slv a2 p.length aC] 132),(a2,blk aD 23)]∧(Row 2 a2 (p.length) aC aD (al eRg p))∧F120j2 N p=some r) ?_ ?_
 ·
  refine ab (rgn rfl (pu (.pointer (some ⟨q,0,none⟩)) rfl (ac (ag hI 0 (.slice d a.length e) isAgg24 rfl rfl rfl ?_))))
  refine pu (iv ((a.length:Nat):Int)) (by kernel_rfl) (ckE hF (fun bG hF=>?_))
  refine ac (dm rfl rfl bG ?_)
  refine pu (iv ((a.length:Int) - 1)) rfl (aa (au ?_))
  refine cb (fun m ρ w=>∃ (R:Option Nat) (H:Nat) (a3:List Value) (u:List Rg) (l:Int) (mm:Nat),cd ρ [(1,.pointer (some ⟨q,0,none⟩)),(2,.pointer (some ⟨B,0,none⟩)),(4,.pointer (some ⟨o,0,none⟩)),(7,iv l)]∧Inv [] w0 w [(some q,blk [.slice d a.length e,.slice D f.length E] 132),(some B,blk [.slice none 0 0,.slice none 0 0] 132),(some o,blk [.slice d a.length e,slv R u.length H] 132),(R,blk a3 23)]∧(Row 2 R (u.length) H a3 (al eRg u))∧F120l4 a N mm u l=some r∧mm=m) (m:=N) ⟨Z,a8,a9,U,(a.length:Int) - 1,N,⟨rfl,rfl,rfl,rfl,trivial⟩,hI.pk [0,1,2,3] rfl rfl,(bF.to rfl rfl),hF,rfl⟩ ?_
  rintro m ρ w ⟨R,H,a3,u,l,mm,hag,hI,a4,hF,hm⟩
  subst hm; obtain ⟨ρ,rfl⟩:=hag.form; clear hag
  obtain _ | m4:=mm
  ·cases (show (none:Option (List Rg × Bool))=some r from hF)
  replace hF:F120b4 a N (F120l4 a N m4) u l=some r:=hF; unfold F120b4 at hF
  refine ab (ab (rgn rfl (pu (iv l) rfl (ifE hF (fun V hF=>?_) (fun V hF=>?_)))))
  ·
   refine ac (iq rfl rfl (fun _=>?_) (fun h=>absurd V h))
   refine aa (ah rfl (ak (ab (au ?_))))
   refine ab (rgn rfl (pu (.pointer (some ⟨q,0,none⟩)) rfl (ac (ag hI 0 (.slice d a.length e) isAgg24 rfl rfl rfl ?_))))
   refine pu (iv l) rfl (bt hF (fun x aY hF=>?_))
   obtain ⟨bH,bI,bJ,bK,bL⟩:=aS.at_ bf (by decide) aY
   refine ac (cn (l).toNat underlying24 sizeOf30 rfl bJ rfl (Int.toNat_of_nonneg V).symm (fa aY rfl) ?_)
   refine pu (.pointer (some ⟨bH,bI+(l).toNat * 6+2,none⟩)) rfl (ac (ef hI [iv x.lo,iv x.hi] isAgg23 sizeOf23 rfl rfl bK (by simp) (fun j v h=>by have:=part_of bL 2 2 rfl j v h; rwa [← Nat.add_assoc] at this) ?_))
   refine ac (bh hI [iv 0,iv 0] zeroValue23 rfl fun aE w hI=>ac (aq hI 0 2 [iv x.lo,iv x.hi] sizeOf23 rfl rfl rfl rfl rfl (kh rfl) fun w hI=>aa (gm 31 hI (by kernel_rfl) ?_)))
   refine zp (.pointer (some ⟨o,1,none⟩)) (fun _=>rfl) (zc (slv R u.length H) (fun w hI=>ag hI 3 (slv R u.length H) isAgg130 rfl rfl rfl br) (zp (iv l) (fun _=>rfl) (zp (.pointer (some ⟨o,1,none⟩)) (fun _=>rfl) (zc (slv R u.length H) (fun w hI=>ag hI 3 (slv R u.length H) isAgg130 rfl rfl rfl br) (zp (iv l) (fun _=>rfl) (bt hF (fun T aF hF=>?_)))))))
   obtain ⟨I,rfl,bM⟩:=a4.at_ da (by decide) aF
   refine zc (.pointer (some ⟨I,(l).toNat * 2,none⟩)) (fun w hI=>be (l).toNat underlying130 sizeOf23 rfl rfl (Int.toNat_of_nonneg V).symm (fa aF rfl) br) (zc (.agg #[iv T.lo,iv T.hi]) (fun w hI=>cq hI 4 [iv T.lo,iv T.hi] isAgg23 sizeOf23 rfl rfl rfl bM br) (zp (.pointer (some ⟨o,1,none⟩)) (fun _=>rfl) (zc (slv (some I) u.length H) (fun w hI=>ag hI 3 (slv (some I) u.length H) isAgg130 rfl rfl rfl br) (zp (iv l) (fun _=>rfl) (ckE hF (fun aZ hF=>?_))))))
   refine zc (iv (l+1)) (fun w hI=>cj rfl rfl aZ br) (gdE hF (fun b0 hF=>?_))
   refine bt hF (fun M aN hF=>?_)
   have b1:=a4.atS da (by decide) aN
   refine zc (.pointer (some ⟨I,((l+1).toNat) * 2,none⟩)) (fun w hI=>be ((l+1).toNat) underlying130 sizeOf23 rfl rfl (Int.toNat_of_nonneg b0).symm (fa aN rfl) br) (zp (.pointer (some ⟨I,((l+1).toNat) * 2,none⟩)) (fun _=>rfl) (zc (iv M.lo) (fun w hI=>db hI 4 (iv M.lo) isAgg3 rfl rfl (b1 0 _ rfl) br) (zp (.pointer (some ⟨aE,0,none⟩)) (fun _=>rfl) (zc (iv x.lo) (fun w hI=>ag hI 0 (iv x.lo) isAgg3 rfl rfl rfl br) (ckE hF (fun bN hF=>?_))))))
   refine zc (iv (M.lo+x.lo)) (fun w hI=>cj rfl rfl bN br) (zp (.pointer (some ⟨o,1,none⟩)) (fun _=>rfl) (zc (slv (some I) u.length H) (fun w hI=>ag hI 3 (slv (some I) u.length H) isAgg130 rfl rfl rfl br) (zp (iv l) (fun _=>rfl) (zc (iv (l+1)) (fun w hI=>cj rfl rfl aZ br) (zc (.pointer (some ⟨I,((l+1).toNat) * 2,none⟩)) (fun w hI=>be ((l+1).toNat) underlying130 sizeOf23 rfl rfl (Int.toNat_of_nonneg b0).symm (fa aN rfl) br) (zp (.pointer (some ⟨I,((l+1).toNat) * 2+1,none⟩)) (fun _=>rfl) (zc (iv M.hi) (fun w hI=>db hI 4 (iv M.hi) isAgg3 rfl rfl (b1 1 _ rfl) br) (zp (.pointer (some ⟨aE,1,none⟩)) (fun _=>rfl) (zc (iv x.hi) (fun w hI=>ag hI 0 (iv x.hi) isAgg3 rfl rfl rfl br) ?_)))))))))
   refine ckE hF (fun bO hF=>?_)
   refine zc (iv (M.hi+x.hi)) (fun w hI=>cj rfl rfl bO br) (zp (.agg #[iv (M.lo+x.lo),iv (M.hi+x.hi)]) (fun _=>(by kernel_rfl)) (bt hF (fun K bP hF=>?_)))
   refine zc (.agg #[iv K.1,iv K.2]) (fun w hI=>co 105 [.agg #[iv T.lo,iv T.hi],.agg #[iv (M.lo+x.lo),iv (M.hi+x.hi)]] (by kernel_rfl) (L105 _ T (⟨M.lo+x.lo,M.hi+x.hi⟩:Rg) _ bP) (fun v' w' h=>h)) (zc (.pointer (some ⟨I,(l).toNat * 2,none⟩)) (fun w hI=>be (l).toNat underlying130 sizeOf23 rfl rfl (Int.toNat_of_nonneg V).symm (fa aF rfl) br) (zh (fun w hI=>?_)))
   have:=fa aF rfl
   refine ac (aq hI 4 2 [iv K.1,iv K.2] sizeOf23 rfl rfl rfl rfl rfl (a4.room (by omega)) ?_)
   intro w hI
   have b2:=a4.put da (by decide) (l).toNat (⟨K.1,K.2⟩:Rg) (by omega)
   obtain ⟨aO,hcl⟩:∃ z,z=putCells a3 ((l).toNat * 2) (eRg (⟨K.1,K.2⟩:Rg)):=⟨_,rfl⟩
   rw [← hcl] at b2
   have hI:Inv [] w0 w [(some aE,blk [iv x.lo,iv x.hi] 23),(some q,blk [.slice d a.length e,.slice D f.length E] 132),(some B,blk [.slice none 0 0,.slice none 0 0] 132),(some o,blk [.slice d a.length e,slv (some I) u.length H] 132),(some I,blk aO 23)]:=by rw [hcl]; exact hI
   clear hcl
   refine aa (rgn rfl (pu (iv l) rfl (ckE hF (fun bQ hF=>?_))))
   refine ac (dm rfl rfl bQ ?_)
   refine pu (iv (l - 1)) rfl (aa ?_)
   have hI:Inv [] w0 w [(some aE,blk [iv x.lo,iv x.hi] 23),(some q,blk [.slice d a.length e,.slice D f.length E] 132),(some B,blk [.slice none 0 0,.slice none 0 0] 132),(some o,blk [.slice d a.length e,slv (some I) (((u).set (l).toNat (⟨K.1,K.2⟩:Rg)).length) H] 132),(some I,blk aO 23)]:=by first | (have h:=hI; (try simp only [List.length_set,ib] at h); simp only [List.length_set,ib]; exact h) | (have h:=hI; rw [show u.length=((u).set (l).toNat (⟨K.1,K.2⟩:Rg)).length from (km rfl)] at h; exact h)
   exact ⟨rfl,m4,Nat.lt_succ_self _,⟨some I,H,aO,(u).set (l).toNat (⟨K.1,K.2⟩:Rg),l - 1,m4,⟨rfl,rfl,rfl,rfl,trivial⟩,hI.pk [1,2,3,4] rfl rfl,(b2.to rfl (km rfl)),hF,rfl⟩⟩
  refine ac (iq rfl rfl (fun h=>absurd h V) (fun _=>?_))
  refine aa (ai rfl (bw ?_))
  exact .inl ⟨rfl,⟨R,H,a3,u,⟨rfl,rfl,trivial⟩,hI.pk [1,2,3] rfl rfl,(a4.to rfl rfl),hF⟩⟩
 intro ρ w hJ
 obtain ⟨a2,aC,aD,p,hag,hI,bR,hF⟩:=hJ
 obtain ⟨ρ,rfl⟩:=hag.form; clear hag
 unfold F120j2 at hF
 refine ab (ab (rgn rfl (pu (iv 0) rfl (aa (au ?_)))))
 refine cb (fun m ρ w=>∃ (O:Option Nat) (A:Nat) (W:List Value) (C:Int) (mm:Nat),cd ρ [(2,.pointer (some ⟨B,0,none⟩)),(4,.pointer (some ⟨o,0,none⟩)),(9,iv C)]∧Inv [] w0 w [(some B,blk [.slice none 0 0,.slice none 0 0] 132),(some o,blk [.slice d a.length e,slv O p.length A] 132),(O,blk W 23)]∧(Row 2 O (p.length) A W (al eRg p))∧F120l3 p mm C=some r∧mm=m) (m:=N) ⟨a2,aC,aD,0,N,⟨rfl,rfl,rfl,trivial⟩,hI.pk [0,1,2] rfl rfl,(bR.to rfl rfl),hF,rfl⟩ ?_
 rintro m ρ w ⟨O,A,W,C,mm,hag,hI,aG,hF,hm⟩
 subst hm; obtain ⟨ρ,rfl⟩:=hag.form; clear hag
 obtain _ | m3:=mm
 ·cases (show (none:Option (List Rg × Bool))=some r from hF)
 replace hF:F120b3 p (F120l3 p m3) C=some r:=hF; unfold F120b3 at hF
 refine ab (ab (rgn rfl (pu (iv C) rfl (pu (.pointer (some ⟨o,1,none⟩)) rfl (ac (ag hI 1 (slv O p.length A) isAgg130 rfl rfl rfl ?_))))))
 refine pu (iv ((p.length:Nat):Int)) (by kernel_rfl) (ifE hF (fun aP hF=>?_) (fun aP hF=>?_))
 ·
  refine ac (cm rfl rfl (fun _=>?_) (fun h=>absurd aP h))
  refine aa (ah rfl (ak (ab (au ?_))))
  refine ab (gm 13 hI (by kernel_rfl) ?_)
  refine zp (.pointer (some ⟨o,1,none⟩)) (fun _=>rfl) (zc (slv O p.length A) (fun w hI=>ag hI 1 (slv O p.length A) isAgg130 rfl rfl rfl br) (zp (iv C) (fun _=>rfl) (gdE hF (fun b3 hF=>?_))))
  refine bt hF (fun aH aQ hF=>?_)
  obtain ⟨P,rfl,b4⟩:=aG.at_ da (by decide) aQ
  refine zc (.pointer (some ⟨P,(C).toNat * 2,none⟩)) (fun w hI=>be (C).toNat underlying130 sizeOf23 rfl rfl (Int.toNat_of_nonneg b3).symm (fa aQ rfl) br) (zp (.pointer (some ⟨P,(C).toNat * 2,none⟩)) (fun _=>rfl) (zc (iv aH.lo) (fun w hI=>db hI 2 (iv aH.lo) isAgg3 rfl rfl (b4 0 _ rfl) br) (zp (.pointer (some ⟨o,1,none⟩)) (fun _=>rfl) (zc (slv (some P) p.length A) (fun w hI=>ag hI 1 (slv (some P) p.length A) isAgg130 rfl rfl rfl br) (zp (iv C) (fun _=>rfl) (zc (.pointer (some ⟨P,(C).toNat * 2,none⟩)) (fun w hI=>be (C).toNat underlying130 sizeOf23 rfl rfl (Int.toNat_of_nonneg b3).symm (fa aQ rfl) br) (zp (.pointer (some ⟨P,(C).toNat * 2+1,none⟩)) (fun _=>rfl) (zc (iv aH.hi) (fun w hI=>db hI 2 (iv aH.hi) isAgg3 rfl rfl (b4 1 _ rfl) br) (ifE hF (fun aR hF=>?_) (fun aR hF=>?_))))))))))
  ·
   refine zc kg (fun w hI=>fh rfl rfl (fun _=>br) (fun h=>absurd aR h)) (zh (fun w hI=>?_))
   refine aa (ah rfl (ab (rgn rfl (ac (ar hI 1 2 [.slice d a.length e,slv (some P) p.length A] isAgg132 sizeOf132 rfl rfl rfl rfl ?_)))))
   refine ac (aq hI 0 2 [.slice d a.length e,slv (some P) p.length A] sizeOf132 rfl rfl rfl rfl rfl (kh rfl) fun w hI=>pu kf rfl (aa (aj ?_)))
   replace hF:=Option.some.inj hF; subst hF
   exact ⟨.tuple #[.agg #[.slice d a.length e,slv (some P) p.length A],.bool false],Ret.ct rfl rfl (ce hI 0 2 [.slice d a.length e,slv (some P) p.length A] isAgg132 sizeOf132 rfl rfl rfl) rfl,⟨some P,A,W,rfl,hI.pk [2] rfl rfl,aG.to rfl rfl⟩⟩
  refine zc kf (fun w hI=>fh rfl rfl (fun h=>absurd h aR) (fun _=>br)) (zh (fun w hI=>?_))
  refine aa (ai rfl (ak (rgn rfl (pu (iv C) rfl (ckE hF (fun bS hF=>?_))))))
  refine ac (cj rfl rfl bS ?_)
  refine pu (iv (C+1)) rfl (aa ?_)
  exact ⟨rfl,m3,Nat.lt_succ_self _,⟨some P,A,W,C+1,m3,⟨rfl,rfl,rfl,trivial⟩,hI.pk [0,1,2] rfl rfl,(aG.to rfl rfl),hF,rfl⟩⟩
 refine ac (cm rfl rfl (fun h=>absurd h aP) (fun _=>?_))
 refine aa (ai rfl (bw ?_))
 refine ab (rgn rfl (ac (ar hI 1 2 [.slice d a.length e,slv O p.length A] isAgg132 sizeOf132 rfl rfl rfl rfl ?_)))
 refine ac (aq hI 0 2 [.slice d a.length e,slv O p.length A] sizeOf132 rfl rfl rfl rfl rfl (kh rfl) fun w hI=>pu kg rfl (aa (aj ?_)))
 replace hF:=Option.some.inj hF; subst hF
 exact ⟨.tuple #[.agg #[.slice d a.length e,slv O p.length A],.bool true],Ret.ct rfl rfl (ce hI 0 2 [.slice d a.length e,slv O p.length A] isAgg132 sizeOf132 rfl rfl rfl) rfl,⟨O,A,W,rfl,hI.pk [2] rfl rfl,aG.to rfl rfl⟩⟩


theorem L71 (w0:World) (l:Option Addr) (o:Nat) (d:List Int) (a:Int) (Q:bi w0 l (al dv d)) (aR:d.length≤9223372036854775807) (aS:d.length≤o) (N:Nat) (r:List Int) (hF:F71 N d a=some r):bn Tryz.prog 71 [.slice l d.length o,.int .i64 a] w0 fun v w=>∃ (z0:Option Nat) (z1:Nat) (z2:List Value),v=slv z0 r.length z1∧Inv [] w0 w [(z0,blk z2 3)]∧Row 1 z0 r.length z1 z2 (al dv r):=by
 refine az (n:=48) func71 rfl ntmps71 rfl ?_
 have hI:=Inv.start w0
 unfold F71 at hF
 refine ab (rgn rfl (pu (.slice none 0 0) rfl (aa (ab (rgn rfl (pu (.slice none 0 0) rfl (aa (ab (rgn rfl ?_)))))))))
 refine pu kf rfl (aa (dn (fun ρ w=>∃ (p:Option Nat) (t:Nat) (I:List Value) (f:List Int) (J:Bool),cd ρ [(1,iv a),(5,slv p f.length t),(6,.bool J)]∧Inv [] w0 w [(p,blk I 3)]∧(Row 1 p (f.length) t I (al dv f))∧F71j1 a f J=some r) ?_ ?_))
 ·
  refine ab (rgn rfl (pu (iv 0) rfl (aa (au ?_))))
  have hI:=hI.nilRow 3
  refine cb (fun m ρ w=>∃ (q:Option Nat) (x:Nat) (y:List Value) (g:List Int) (A:Bool) (e:Int) (mm:Nat),cd ρ [(0,.slice l d.length o),(1,iv a),(5,slv q g.length x),(6,.bool A),(7,iv e)]∧Inv [] w0 w [(q,blk y 3)]∧(Row 1 q (g.length) x y (al dv g))∧F71l2 d a mm g A e=some r∧mm=m) (m:=N) ⟨none,0,[],[],false,0,N,⟨rfl,rfl,rfl,rfl,rfl,trivial⟩,hI.pk [0] rfl rfl,(Row.nil_ 1),hF,rfl⟩ ?_
  rintro m ρ w ⟨q,x,y,g,A,e,mm,hag,hI,R,hF,hm⟩
  subst hm; obtain ⟨ρ,rfl⟩:=hag.form; clear hag
  obtain _ | m2:=mm
  ·cases (show (none:Option (List Int))=some r from hF)
  replace hF:F71b2 d a (F71l2 d a m2) g A e=some r:=hF; unfold F71b2 at hF
  refine ab (ab (rgn rfl (pu (iv e) rfl (pu (.slice l d.length o) rfl (pu (iv ((d.length:Nat):Int)) (by kernel_rfl) (ifE hF (fun S hF=>?_) (fun S hF=>?_)))))))
  ·
   refine ac (cm rfl rfl (fun _=>?_) (fun h=>absurd S h))
   refine aa (ah rfl (ak (dn (fun ρ w=>∃ (F:Option Nat) (K:Nat) (L:List Value) (B:List Int) (M:Bool),cd ρ [(0,.slice l d.length o),(1,iv a),(5,slv F B.length K),(6,.bool M),(7,iv e)]∧Inv [] w0 w [(F,blk L 3)]∧(Row 1 F (B.length) K L (al dv B))∧F71j3 (F71l2 d a m2) e B M=some r) ?_ ?_)))
   ·
    refine au ?_
    refine dn (fun ρ w=>∃ (C:Option Nat) (G:Nat) (O:List Value) (i:List Int) (H:Bool),cd ρ [(0,.slice l d.length o),(1,iv a),(5,slv C i.length G),(6,.bool H),(7,iv e)]∧Inv [] w0 w [(C,blk O 3)]∧(Row 1 C (i.length) G O (al dv i))∧F71j4 d a (F71l2 d a m2) e i H=some r) ?_ ?_
    ·
     refine dn (fun ρ w=>∃ (P:Bool),cd ρ [(0,.slice l d.length o),(1,iv a),(5,slv q g.length x),(6,.bool P),(7,iv e),(23,.bool false)]∧Inv [] w0 w [(q,blk y 3)]∧F71j5 d a (F71l2 d a m2) g e P=some r) ?_ ?_
     ·
      have hG:=hF; rcases Bool.eq_false_or_eq_true A with rfl | rfl
      ·
       have hF:=hG; clear hG
       refine ifE hF (fun _ hF=>?_) (fun h=>absurd rfl h)
       refine rgn rfl (pu (.slice l d.length o) rfl (pu (iv e) rfl (gdE hF (fun aF hF=>?_))))
       refine bt hF (fun aG a4 hF=>?_)
       obtain ⟨aT,aU,aH,aI,aJ⟩:=Q.at_ cy (by decide) a4
       refine ac (cn (e).toNat underlying41 sizeOf3 rfl aH rfl (Int.toNat_of_nonneg aF).symm (fa a4 rfl) ?_)
       refine ac (dj hI (iv aG) isAgg3 rfl aI (by simp) (aJ 0 _ rfl) ?_)
       refine pu (iv a) rfl (ifE hF (fun T hF=>?_) (fun T hF=>?_))
       ·
        refine ac (iq rfl rfl (fun _=>?_) (fun h=>absurd T h))
        refine pu kg rfl (puo kg ⟨rfl,rfl⟩ (puo kf ⟨rfl,rfl⟩ (pu kf rfl (aa ?_))))
        exact .inl ⟨rfl,⟨true,⟨rfl,rfl,rfl,rfl,rfl,rfl,trivial⟩,hI.pk [0] rfl rfl,hF⟩⟩
       refine ac (iq rfl rfl (fun h=>absurd h T) (fun _=>?_))
       refine pu kf rfl (sf 2 rfl (pu kf rfl (aa ?_)))
       exact .inl ⟨rfl,⟨true,⟨rfl,rfl,rfl,rfl,rfl,rfl,trivial⟩,hI.pk [0] rfl rfl,hF⟩⟩
      have hF:=hG; clear hG
      refine ifE hF (fun h=>absurd h (by decide)) (fun _ hF=>?_)
      refine rgn rfl (pu (.slice l d.length o) rfl (pu (iv e) rfl (gdE hF (fun aK hF=>?_))))
      refine bt hF (fun aL a5 hF=>?_)
      obtain ⟨aV,aW,aM,aN,aO⟩:=Q.at_ cy (by decide) a5
      refine ac (cn (e).toNat underlying41 sizeOf3 rfl aM rfl (Int.toNat_of_nonneg aK).symm (fa a5 rfl) ?_)
      refine ac (dj hI (iv aL) isAgg3 rfl aN (by simp) (aO 0 _ rfl) ?_)
      refine pu (iv a) rfl (ifE hF (fun U hF=>?_) (fun U hF=>?_))
      ·
       refine ac (iq rfl rfl (fun _=>?_) (fun h=>absurd U h))
       refine pu kg rfl (puo kf ⟨rfl,rfl⟩ (puo kg ⟨rfl,rfl⟩ (pu kg rfl (aa (.inr ?_)))))
       refine ah rfl (ab (rgn rfl (pu (slv q g.length x) rfl (pu (iv a) rfl (ac (fu hI [iv a] 3 (fun b=>slv (some b) 1 1) (by kernel_rfl) fun aX w hI=>gdE hF (fun aY hF=>?_)))))))
       refine ac (ks hI underlying41 (z:=iv 0) (k:=1) (bytes:=8) rfl rfl rfl 1 rfl rfl R [iv a] rfl rfl (hI.cells 0 (off:=0) rfl (fun j u h=>by rw [Nat.zero_add]; exact h)) (by simp [Value.oneCell']) (by omega) (by omega) (n2:=(g++[a]).length) (kr rfl rfl) ?_)
       intro V W a6 w hI X
       have X:Row 1 V ((g++[a]).length) W a6 (al dv (g++[a])):=X.snoc _ rfl
       refine pu (slv V ((g++[a]).length) W) rfl (aa (rgn rfl (pu kg rfl (aa ?_))))
       exact .inl ⟨rfl,⟨V,W,a6,g++[a],true,⟨rfl,rfl,rfl,rfl,rfl,trivial⟩,hI.pk [1] rfl rfl,(X.to rfl rfl),hF⟩⟩
      refine ac (iq rfl rfl (fun h=>absurd h U) (fun _=>?_))
      refine pu kf rfl (sf 2 rfl (pu kf rfl (aa ?_)))
      exact .inl ⟨rfl,⟨false,⟨rfl,rfl,rfl,rfl,rfl,rfl,trivial⟩,hI.pk [0] rfl rfl,hF⟩⟩
     intro ρ w hJ
     obtain ⟨P,hag,hI,hF⟩:=hJ
     obtain ⟨ρ,rfl⟩:=hag.form; clear hag
     unfold F71j5 at hF
     refine ai rfl (ak ?_)
     exact .inl ⟨rfl,⟨q,x,y,g,P,⟨rfl,rfl,rfl,rfl,rfl,trivial⟩,hI.pk [0] rfl rfl,(R.to rfl rfl),hF⟩⟩
    intro ρ w hJ
    obtain ⟨C,G,O,i,H,hag,hI,a7,hF⟩:=hJ
    obtain ⟨ρ,rfl⟩:=hag.form; clear hag
    unfold F71j4 at hF
    refine ab (rgn rfl (pu (.slice l d.length o) rfl (pu (iv e) rfl (gdE hF (fun a8 hF=>?_)))))
    refine bt hF (fun s Y hF=>?_)
    obtain ⟨aZ,b0,a9,aA,aB⟩:=Q.at_ cy (by decide) Y
    refine ac (cn (e).toNat underlying41 sizeOf3 rfl a9 rfl (Int.toNat_of_nonneg a8).symm (fa Y rfl) ?_)
    refine ac (dj hI (iv s) isAgg3 rfl aA (by simp) (aB 0 _ rfl) ?_)
    refine pu (iv a) rfl (ifE hF (fun Z hF=>?_) (fun Z hF=>?_))
    ·
     refine ac (de rfl rfl (fun h=>absurd Z h) (fun _=>?_))
     refine aa (ai rfl (ak ?_))
     exact .inl ⟨rfl,⟨C,G,O,i,H,⟨rfl,rfl,rfl,rfl,rfl,trivial⟩,hI.pk [0] rfl rfl,(a7.to rfl rfl),hF⟩⟩
    refine ac (de rfl rfl (fun _=>?_) (fun h=>absurd h Z))
    refine aa (ah rfl (rgn rfl (pu (slv C i.length G) rfl (pu (.slice l d.length o) rfl (pu (iv e) rfl (ac (cn (e).toNat underlying41 sizeOf3 rfl a9 rfl (Int.toNat_of_nonneg a8).symm (fa Y rfl) ?_)))))))
    refine ac (dj hI (iv s) isAgg3 rfl aA (by simp) (aB 0 _ rfl) ?_)
    refine ac (fu hI [iv s] 3 (fun b=>slv (some b) 1 1) (by kernel_rfl) fun b1 w hI=>gdE hF (fun b2 hF=>?_))
    refine ac (ks hI underlying41 (z:=iv 0) (k:=1) (bytes:=8) rfl rfl rfl 1 rfl rfl a7 [iv s] rfl rfl (hI.cells 0 (off:=0) rfl (fun j u h=>by rw [Nat.zero_add]; exact h)) (by simp [Value.oneCell']) (by omega) (by omega) (n2:=(i++[s]).length) (kr rfl rfl) ?_)
    intro a0 a1 aC w hI a2
    have a2:Row 1 a0 ((i++[s]).length) a1 aC (al dv (i++[s])):=a2.snoc _ rfl
    refine pu (slv a0 ((i++[s]).length) a1) rfl (aa ?_)
    exact .inl ⟨rfl,⟨a0,a1,aC,i++[s],H,⟨rfl,rfl,rfl,rfl,rfl,trivial⟩,hI.pk [1] rfl rfl,(a2.to rfl rfl),hF⟩⟩
   intro ρ w hJ
   obtain ⟨F,K,L,B,M,hag,hI,aP,hF⟩:=hJ
   obtain ⟨ρ,rfl⟩:=hag.form; clear hag
   unfold F71j3 at hF
   refine rgn rfl (pu (iv e) rfl (ckE hF (fun aQ hF=>?_)))
   refine ac (cj rfl rfl aQ ?_)
   refine pu (iv (e+1)) rfl (aa ?_)
   exact ⟨rfl,m2,Nat.lt_succ_self _,⟨F,K,L,B,M,e+1,m2,⟨rfl,rfl,rfl,rfl,rfl,trivial⟩,hI.pk [0] rfl rfl,(aP.to rfl rfl),hF,rfl⟩⟩
  refine ac (cm rfl rfl (fun h=>absurd h S) (fun _=>?_))
  refine aa (ai rfl (bw ?_))
  exact .inl ⟨rfl,⟨q,x,y,g,A,⟨rfl,rfl,rfl,trivial⟩,hI.pk [0] rfl rfl,(R.to rfl rfl),hF⟩⟩
 intro ρ w hJ
 obtain ⟨p,t,I,f,J,hag,hI,aD,hF⟩:=hJ
 obtain ⟨ρ,rfl⟩:=hag.form; clear hag
 unfold F71j1 at hF
 refine ab (ab ?_)
 have hG:=hF; rcases Bool.eq_false_or_eq_true J with rfl | rfl
 ·
  have hF:=hG; clear hG
  refine ifE hF (fun _ hF=>?_) (fun h=>absurd rfl h)
  refine rgn rfl (pu kg rfl (pu kf rfl (aa (ai rfl (ak (ab (rgn rfl (pu (slv p f.length t) rfl (pu (slv p f.length t) rfl ?_)))))))))
  refine aa (aj ?_)
  replace hF:=Option.some.inj hF; subst hF
  exact ⟨slv p f.length t,Ret.r1 rfl rfl,⟨p,t,I,rfl,hI.pk [0] rfl rfl,aD.to rfl rfl⟩⟩
 have hF:=hG; clear hG
 refine ifE hF (fun h=>absurd h (by decide)) (fun _ hF=>?_)
 refine rgn rfl (pu kf rfl (pu kg rfl (aa (ah rfl (rgn rfl (pu (slv p f.length t) rfl (pu (iv a) rfl (ac (fu hI [iv a] 3 (fun b=>slv (some b) 1 1) (by kernel_rfl) fun b3 w hI=>gdE hF (fun b4 hF=>?_))))))))))
 refine ac (ks hI underlying41 (z:=iv 0) (k:=1) (bytes:=8) rfl rfl rfl 1 rfl rfl aD [iv a] rfl rfl (hI.cells 0 (off:=0) rfl (fun j u h=>by rw [Nat.zero_add]; exact h)) (by simp [Value.oneCell']) (by omega) (by omega) (n2:=(f++[a]).length) (kr rfl rfl) ?_)
 intro D E aE w hI a3
 have a3:Row 1 D ((f++[a]).length) E aE (al dv (f++[a])):=a3.snoc _ rfl
 refine pu (slv D ((f++[a]).length) E) rfl (aa (ab (rgn rfl (pu (slv D ((f++[a]).length) E) rfl (pu (slv D ((f++[a]).length) E) rfl (aa (aj ?_)))))))
 replace hF:=Option.some.inj hF; subst hF
 exact ⟨slv D ((f++[a]).length) E,Ret.r1 rfl rfl,⟨D,E,aE,rfl,hI.pk [1] rfl rfl,a3.to rfl rfl⟩⟩


end Go.K
