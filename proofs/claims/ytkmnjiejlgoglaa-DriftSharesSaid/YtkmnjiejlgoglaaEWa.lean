import Derived.Test.YtkmnjiejlgoglaaProg
import Derived.Test.YtkmnjiejlgoglaaEKK1
import Derived.Test.YtkmnjiejlgoglaaEKK3
import Derived.Test.YtkmnjiejlgoglaaEKK2
import Derived.Test.YtkmnjiejlgoglaaED
import Derived.Tactics2
namespace Go.K
open Go.Proofs Go.RowKit
set_option linter.unusedVariables false
set_option linter.unusedSimpArgs false
set_option maxRecDepth 100000
set_option linter.defProp false

theorem eq28 (n:Nat) (x0 x1 y0 y1:Int) (w:World):(Op.equalIn (n+2) 28 (.agg #[iv x0,iv x1]) (.agg #[iv y0,iv y1])).run Try.prog w=.ok (decide (x0=y0) && decide (x1=y1)) w:=by
  have u3:=Try.underlying3; have a3:=Try.isAgg3; have z3:=Try.sizeOf3
  have hS:Try.prog.underlying 28=some (.struct (Try.prog.fieldsOf 28)):=by kernel_rfl
  rw [show n+2=(n+1)+1 from rfl,run_equalIn_agg w (n+1) 28 _ _ hS (by kernel_rfl)]
  simp only [Program.fieldsOf,Try.underlying28]
  go_simp
  by_cases h0:x0=y0 <;> by_cases h1:x1=y1 <;> simp [h0,h1]
theorem eq49 (n:Nat) (x0 x1 y0 y1:Int) (w:World):(Op.equalIn (n+2) 49 (.agg #[iv x0,iv x1]) (.agg #[iv y0,iv y1])).run Try.prog w=.ok (decide (x0=y0) && decide (x1=y1)) w:=by
  have u3:=Try.underlying3; have a3:=Try.isAgg3; have z3:=Try.sizeOf3
  have hS:Try.prog.underlying 49=some (.struct (Try.prog.fieldsOf 49)):=by kernel_rfl
  rw [show n+2=(n+1)+1 from rfl,run_equalIn_agg w (n+1) 49 _ _ hS (by kernel_rfl)]
  simp only [Program.fieldsOf,Try.underlying49]
  go_simp
  by_cases h0:x0=y0 <;> by_cases h1:x1=y1 <;> simp [h0,h1]
theorem eq51 (n:Nat) (x0 x1 y0 y1:Int) (w:World):(Op.equalIn (n+2) 51 (.agg #[iv x0,iv x1]) (.agg #[iv y0,iv y1])).run Try.prog w=.ok (decide (x0=y0) && decide (x1=y1)) w:=by
  have u3:=Try.underlying3; have a3:=Try.isAgg3; have z3:=Try.sizeOf3
  have hS:Try.prog.underlying 51=some (.struct (Try.prog.fieldsOf 51)):=by kernel_rfl
  rw [show n+2=(n+1)+1 from rfl,run_equalIn_agg w (n+1) 51 _ _ hS (by kernel_rfl)]
  simp only [Program.fieldsOf,Try.underlying51]
  go_simp
  by_cases h0:x0=y0 <;> by_cases h1:x1=y1 <;> simp [h0,h1]
theorem eq65 (n:Nat) (x0 x1 y0 y1:Int) (w:World):(Op.equalIn (n+2) 65 (.agg #[iv x0,iv x1]) (.agg #[iv y0,iv y1])).run Try.prog w=.ok (decide (x0=y0) && decide (x1=y1)) w:=by
  have u3:=Try.underlying3; have a3:=Try.isAgg3; have z3:=Try.sizeOf3
  have hS:Try.prog.underlying 65=some (.struct (Try.prog.fieldsOf 65)):=by kernel_rfl
  rw [show n+2=(n+1)+1 from rfl,run_equalIn_agg w (n+1) 65 _ _ hS (by kernel_rfl)]
  simp only [Program.fieldsOf,Try.underlying65]
  go_simp
  by_cases h0:x0=y0 <;> by_cases h1:x1=y1 <;> simp [h0,h1]
theorem eq136 (n:Nat) (x0 x1 y0 y1:Int) (w:World):(Op.equalIn (n+2) 136 (.agg #[iv x0,iv x1]) (.agg #[iv y0,iv y1])).run Try.prog w=.ok (decide (x0=y0) && decide (x1=y1)) w:=by
  have u3:=Try.underlying3; have a3:=Try.isAgg3; have z3:=Try.sizeOf3
  have hS:Try.prog.underlying 136=some (.struct (Try.prog.fieldsOf 136)):=by kernel_rfl
  rw [show n+2=(n+1)+1 from rfl,run_equalIn_agg w (n+1) 136 _ _ hS (by kernel_rfl)]
  simp only [Program.fieldsOf,Try.underlying136]
  go_simp
  by_cases h0:x0=y0 <;> by_cases h1:x1=y1 <;> simp [h0,h1]
attribute [local irreducible] Seq cw CallV AnyE opX

theorem L59 (w0:World) (a:Int) (b:Int) (d:Int) (r:Bool) (F:F59 a b d=some r):cc Try.prog 59 [iv a,iv b,iv d] w0 fun v w=>v=.bool r∧Below w0.heap.size w0 w:=by
 refine az (n:=15) Try.func59 rfl Try.ntmps59 rfl ?_
 have I:=Inv.start w0
 unfold F59 at F
 refine ab (rgn (by kernel_rfl) (pu bF (by kernel_rfl) (aa (ab (rgn (by kernel_rfl) (pu2 (iv b) (iv a) (by kernel_rfl) (ifN F (fun h7 F=>?_) (fun h7 F=>?_))))))))
 ·
  refine ph (fq rfl rfl (fun h=>absurd h h7) (fun _=>pu bF (by kernel_rfl) (sf 3 (by kernel_rfl) (pu2 bF bF (by kernel_rfl) (aa (aj ?_))))))
  cases F
  exact ⟨_,Ret.r1 rfl rfl,⟨rfl,I.below⟩⟩


 refine ph (fq rfl rfl (fun _=>?_) (fun h=>absurd h7 h))
 refine pu bT (by kernel_rfl) (pup (iv a) (by kernel_rfl) (pup (iv d) (by kernel_rfl) (ifE F (fun h8 F=>?_) (fun h8 F=>?_))))
 ·
  refine aw (by kernel_rfl) (fq rfl rfl (fun _=>?_) (fun h=>absurd h8 h))
  refine pu2 bT bT (by kernel_rfl) (aa (aj ?_))
  cases F
  exact ⟨_,Ret.r1 rfl rfl,⟨rfl,I.below⟩⟩
 refine aw (by kernel_rfl) (fq rfl rfl (fun h=>absurd h h8) (fun _=>pu2 bF bF (by kernel_rfl) (aa (aj ?_))))
 cases F
 exact ⟨_,Ret.r1 rfl rfl,⟨rfl,I.below⟩⟩
theorem L23 (w0:World) (a:Cl) (r:Int) (F:F23 a=some r):cc Try.prog 23 [.agg #[iv a.fam,iv a.hd,iv a.fr,iv a.to]] w0 fun v w=>v=iv r∧Below w0.heap.size w0 w:=by
 refine az (n:=30) Try.func23 rfl Try.ntmps23 rfl ?_
 have I:=Inv.start w0
 unfold F23 at F
 refine ab (rgn (by kernel_rfl) (ph (ca I _ rfl fun b w I=>pu (iv 0) (by kernel_rfl) (aa (dn (fun ρ w=>∃ (d:Bool),cd ρ [(1,pt b),(3,.bool d)]∧Inv [] w0 w [(some b,blk [iv a.fam,iv a.hd,iv a.fr,iv a.to] 34)]∧F23j1 a d=some r) ?_ ?_)))))
 ·
  refine rgn (by kernel_rfl) (pu (.pointer (some ⟨b,2,none⟩)) (by kernel_rfl) (ph (ag I 0 (iv a.fr) Try.isAgg3 rfl rfl rfl (ifN F (fun e F=>?_) (fun e F=>?_)))))
  ·
   refine ph (iq rfl rfl (fun h=>absurd h e) (fun _=>pu bF (by kernel_rfl) (sf 5 (by kernel_rfl) (pu2 bF bF (by kernel_rfl) (sf 3 (by kernel_rfl) (pu2 bF bF (by kernel_rfl) (aa (.inl ⟨rfl,⟨false,⟨rfl,rfl,trivial⟩,I.pk [0] rfl rfl,F⟩⟩))))))))
  refine ph (iq rfl rfl (fun _=>?_) (fun h=>absurd e h))
  refine pu bT (by kernel_rfl) (pup (.pointer (some ⟨b,2,none⟩)) (by kernel_rfl) (aw (by kernel_rfl) (ag I 0 (iv a.fr) Try.isAgg3 rfl rfl rfl (pup (.pointer (some ⟨b,3,none⟩)) (by kernel_rfl) (aw (by kernel_rfl) (ag I 0 (iv a.to) Try.isAgg3 rfl rfl rfl (ifN F (fun f F=>?_) (fun f F=>?_))))))))
  ·
   refine aw (by kernel_rfl) (fq rfl rfl (fun h=>absurd h f) (fun _=>pu2 bF bF (by kernel_rfl) (sf 3 (by kernel_rfl) (pu2 bF bF (by kernel_rfl) (aa (.inl ⟨rfl,⟨false,⟨rfl,rfl,trivial⟩,I.pk [0] rfl rfl,F⟩⟩))))))
  refine aw (by kernel_rfl) (fq rfl rfl (fun _=>?_) (fun h=>absurd f h))
  refine pu2 bT bT (by kernel_rfl) (pup (.pointer (some ⟨b,3,none⟩)) (by kernel_rfl) (aw (by kernel_rfl) (ag I 0 (iv a.to) Try.isAgg3 rfl rfl rfl (ifE F (fun g F=>?_) (fun g F=>?_)))))
  ·
   refine aw (by kernel_rfl) (cm rfl rfl (fun _=>?_) (fun h=>absurd g h))
   refine pu2 bT bT (by kernel_rfl) (aa (.inl ⟨rfl,⟨true,⟨rfl,rfl,trivial⟩,I.pk [0] rfl rfl,F⟩⟩))
  refine aw (by kernel_rfl) (cm rfl rfl (fun h=>absurd h g) (fun _=>pu2 bF bF (by kernel_rfl) (aa (.inl ⟨rfl,⟨false,⟨rfl,rfl,trivial⟩,I.pk [0] rfl rfl,F⟩⟩))))
 intro ρ w hJ
 obtain ⟨d,hag,I,F⟩:=hJ
 obtain ⟨ρ,rfl⟩:=hag.form; clear hag
 unfold F23j1 at F
 refine ab (ab ?_)
 have hG:=F; rcases Bool.eq_false_or_eq_true d with rfl | rfl
 ·
  have F:=hG; clear hG
  refine ifE F (fun _ F=>?_) (fun h=>absurd rfl h)
  refine rgn (by kernel_rfl) (pu2 bT bT (by kernel_rfl) (pup (pt b) (by kernel_rfl) (aw (by kernel_rfl) (ag I 0 (iv a.fam) Try.isAgg3 rfl rfl rfl (bt F (fun m k F=>ifN F (fun i F=>?_) (fun i F=>?_)))))))
  ·
   refine aw (by kernel_rfl) (ac I 59 _ _ (by kernel_rfl) (cc.mono (L59 _ a.fam 1 99 _ k) (fun v' w' h=>⟨h.1.trans (congrArg Value.bool (Bool.eq_false_iff.2 i)),h.2⟩)) fun w I=>pu2 bF bF (by kernel_rfl) (sf 3 (by kernel_rfl) (pu bF (by kernel_rfl) (aa (ai rfl (ak (ab (rgn (by kernel_rfl) (pu (iv 43) (by kernel_rfl) (aa (aj ?_)))))))))))
   cases F
   exact ⟨_,Ret.r1 rfl rfl,⟨rfl,I.below⟩⟩
  refine aw (by kernel_rfl) (ac I 59 _ _ (by kernel_rfl) (cc.mono (L59 _ a.fam 1 99 _ k) (fun v' w' h=>⟨h.1.trans (congrArg Value.bool i),h.2⟩)) fun w I=>pu2 bT bT (by kernel_rfl) (pup (.pointer (some ⟨b,1,none⟩)) (by kernel_rfl) (aw (by kernel_rfl) (ag I 0 (iv a.hd) Try.isAgg3 rfl rfl rfl (bt F (fun o l F=>ifE F (fun j F=>?_) (fun j F=>?_)))))))
  ·
   refine aw (by kernel_rfl) (ac I 59 _ _ (by kernel_rfl) (cc.mono (L59 _ a.hd 1 20 _ l) (fun v' w' h=>⟨h.1.trans (congrArg Value.bool j),h.2⟩)) fun w I=>pu bT (by kernel_rfl) (aa (ah rfl (ab (rgn (by kernel_rfl) (pu (iv 0) (by kernel_rfl) (aa (aj ?_))))))))
   cases F
   exact ⟨_,Ret.r1 rfl rfl,⟨rfl,I.below⟩⟩
  refine aw (by kernel_rfl) (ac I 59 _ _ (by kernel_rfl) (cc.mono (L59 _ a.hd 1 20 _ l) (fun v' w' h=>⟨h.1.trans (congrArg Value.bool (Bool.eq_false_iff.2 j)),h.2⟩)) fun w I=>pu bF (by kernel_rfl) (aa (ai rfl (ak (ab (rgn (by kernel_rfl) (pu (iv 43) (by kernel_rfl) (aa (aj ?_)))))))))
  cases F
  exact ⟨_,Ret.r1 rfl rfl,⟨rfl,I.below⟩⟩
 have F:=hG; clear hG
 refine ifE F (fun h=>absurd h (by decide)) (fun _ F=>rgn (by kernel_rfl) (pu2 bF bF (by kernel_rfl) (sf 3 (by kernel_rfl) (pu2 bF bF (by kernel_rfl) (sf 3 (by kernel_rfl) (pu bF (by kernel_rfl) (aa (ai rfl (ak (ab (rgn (by kernel_rfl) (pu (iv 43) (by kernel_rfl) (aa (aj ?_))))))))))))))
 cases F
 exact ⟨_,Ret.r1 rfl rfl,⟨rfl,I.below⟩⟩


theorem L19 (w0:World) (a:Ch) (r:Int) (F:F19 a=some r):cc Try.prog 19 [.agg #[iv a.id,iv a.lo,iv a.hi]] w0 fun v w=>v=iv r∧Below w0.heap.size w0 w:=by
 refine az (n:=29) Try.func19 rfl Try.ntmps19 rfl ?_
 have I:=Inv.start w0
 unfold F19 at F
 refine ab (rgn (by kernel_rfl) (ph (ca I _ rfl fun b w I=>pu (iv 0) (by kernel_rfl) (aa (dn (fun ρ w=>∃ (d:Bool),cd ρ [(1,pt b),(3,.bool d)]∧Inv [] w0 w [(some b,blk [iv a.id,iv a.lo,iv a.hi] 30)]∧F19j1 a d=some r) ?_ ?_)))))
 ·
  refine rgn (by kernel_rfl) (pu2 (.pointer (some ⟨b,1,none⟩)) (.pointer (some ⟨b,1,none⟩)) (by kernel_rfl) (ph (ag I 0 (iv a.lo) Try.isAgg3 rfl rfl rfl (ifN F (fun e F=>?_) (fun e F=>?_)))))
  ·
   refine ph (iq rfl rfl (fun h=>absurd h e) (fun _=>pu bF (by kernel_rfl) (sf 7 (by kernel_rfl) (pu2 bF bF (by kernel_rfl) (sf 4 (by kernel_rfl) (pu2 bF bF (by kernel_rfl) (aa (.inl ⟨rfl,⟨false,⟨rfl,rfl,trivial⟩,I.pk [0] rfl rfl,F⟩⟩))))))))
  refine ph (iq rfl rfl (fun _=>?_) (fun h=>absurd e h))
  refine pu bT (by kernel_rfl) (pup (.pointer (some ⟨b,1,none⟩)) (by kernel_rfl) (pup (.pointer (some ⟨b,1,none⟩)) (by kernel_rfl) (aw (by kernel_rfl) (ag I 0 (iv a.lo) Try.isAgg3 rfl rfl rfl (pup (.pointer (some ⟨b,1,none⟩)) (by kernel_rfl) (pup (.pointer (some ⟨b,2,none⟩)) (by kernel_rfl) (aw (by kernel_rfl) (ag I 0 (iv a.hi) Try.isAgg3 rfl rfl rfl (ifN F (fun f F=>?_) (fun f F=>?_))))))))))
  ·
   refine aw (by kernel_rfl) (fq rfl rfl (fun h=>absurd h f) (fun _=>pu2 bF bF (by kernel_rfl) (sf 4 (by kernel_rfl) (pu2 bF bF (by kernel_rfl) (aa (.inl ⟨rfl,⟨false,⟨rfl,rfl,trivial⟩,I.pk [0] rfl rfl,F⟩⟩))))))
  refine aw (by kernel_rfl) (fq rfl rfl (fun _=>?_) (fun h=>absurd f h))
  refine pu2 bT bT (by kernel_rfl) (pup (.pointer (some ⟨b,1,none⟩)) (by kernel_rfl) (pup (.pointer (some ⟨b,2,none⟩)) (by kernel_rfl) (aw (by kernel_rfl) (ag I 0 (iv a.hi) Try.isAgg3 rfl rfl rfl (ifE F (fun g F=>?_) (fun g F=>?_))))))
  ·
   refine aw (by kernel_rfl) (fq rfl rfl (fun _=>?_) (fun h=>absurd g h))
   refine pu2 bT bT (by kernel_rfl) (aa (.inl ⟨rfl,⟨true,⟨rfl,rfl,trivial⟩,I.pk [0] rfl rfl,F⟩⟩))
  refine aw (by kernel_rfl) (fq rfl rfl (fun h=>absurd h g) (fun _=>pu2 bF bF (by kernel_rfl) (aa (.inl ⟨rfl,⟨false,⟨rfl,rfl,trivial⟩,I.pk [0] rfl rfl,F⟩⟩))))
 intro ρ w hJ
 obtain ⟨d,hag,I,F⟩:=hJ
 obtain ⟨ρ,rfl⟩:=hag.form; clear hag
 unfold F19j1 at F
 refine ab (ab ?_)
 have hG:=F; rcases Bool.eq_false_or_eq_true d with rfl | rfl
 ·
  have F:=hG; clear hG
  refine ifE F (fun _ F=>?_) (fun h=>absurd rfl h)
  refine rgn (by kernel_rfl) (pu2 bT bT (by kernel_rfl) (pup (pt b) (by kernel_rfl) (aw (by kernel_rfl) (ag I 0 (iv a.id) Try.isAgg3 rfl rfl rfl (bt F (fun k j F=>ifE F (fun i F=>?_) (fun i F=>?_)))))))
  ·
   refine aw (by kernel_rfl) (ac I 59 _ _ (by kernel_rfl) (cc.mono (L59 _ a.id 1 99 _ j) (fun v' w' h=>⟨h.1.trans (congrArg Value.bool i),h.2⟩)) fun w I=>pu bT (by kernel_rfl) (aa (ah rfl (ab (rgn (by kernel_rfl) (pu (iv 0) (by kernel_rfl) (aa (aj ?_))))))))
   cases F
   exact ⟨_,Ret.r1 rfl rfl,⟨rfl,I.below⟩⟩
  refine aw (by kernel_rfl) (ac I 59 _ _ (by kernel_rfl) (cc.mono (L59 _ a.id 1 99 _ j) (fun v' w' h=>⟨h.1.trans (congrArg Value.bool (Bool.eq_false_iff.2 i)),h.2⟩)) fun w I=>pu bF (by kernel_rfl) (aa (ai rfl (ak (ab (rgn (by kernel_rfl) (pu (iv 40) (by kernel_rfl) (aa (aj ?_)))))))))
  cases F
  exact ⟨_,Ret.r1 rfl rfl,⟨rfl,I.below⟩⟩
 have F:=hG; clear hG
 refine ifE F (fun h=>absurd h (by decide)) (fun _ F=>rgn (by kernel_rfl) (pu2 bF bF (by kernel_rfl) (sf 3 (by kernel_rfl) (pu bF (by kernel_rfl) (aa (ai rfl (ak (ab (rgn (by kernel_rfl) (pu (iv 40) (by kernel_rfl) (aa (aj ?_))))))))))))
 cases F
 exact ⟨_,Ret.r1 rfl rfl,⟨rfl,I.below⟩⟩


theorem L21 (w0:World) (a:Ce) (r:Int) (F:F21 a=some r):cc Try.prog 21 [.agg #[iv a.ch,iv a.ln,iv a.wo]] w0 fun v w=>v=iv r∧Below w0.heap.size w0 w:=by
 refine az (n:=16) Try.func21 rfl Try.ntmps21 rfl ?_
 have I:=Inv.start w0
 unfold F21 at F
 refine ab (rgn (by kernel_rfl) (ph (ca I _ rfl fun b w I=>pu (iv 0) (by kernel_rfl) (aa (ab (ab (rgn (by kernel_rfl) (pu (pt b) (by kernel_rfl) (ph (ag I 0 (iv a.ch) Try.isAgg3 rfl rfl rfl (bt F (fun k g F=>ifN F (fun d F=>?_) (fun d F=>?_)))))))))))))
 ·
  refine ph (ac I 59 _ _ (by kernel_rfl) (cc.mono (L59 _ a.ch 1 99 _ g) (fun v' w' h=>⟨h.1.trans (congrArg Value.bool (Bool.eq_false_iff.2 d)),h.2⟩)) fun w I=>pu bF (by kernel_rfl) (sf 3 (by kernel_rfl) (pu2 bF bF (by kernel_rfl) (sf 3 (by kernel_rfl) (pu bF (by kernel_rfl) (aa (ai rfl (ak (ab (rgn (by kernel_rfl) (pu (iv 41) (by kernel_rfl) (aa (aj ?_)))))))))))))
  cases F
  exact ⟨_,Ret.r1 rfl rfl,⟨rfl,I.below⟩⟩


 refine ph (ac I 59 _ _ (by kernel_rfl) (cc.mono (L59 _ a.ch 1 99 _ g) (fun v' w' h=>⟨h.1.trans (congrArg Value.bool d),h.2⟩)) fun w I=>pu bT (by kernel_rfl) (pup (.pointer (some ⟨b,1,none⟩)) (by kernel_rfl) (aw (by kernel_rfl) (ag I 0 (iv a.ln) Try.isAgg3 rfl rfl rfl (bt F (fun l i F=>ifN F (fun e F=>?_) (fun e F=>?_)))))))
 ·
  refine aw (by kernel_rfl) (ac I 59 _ _ (by kernel_rfl) (cc.mono (L59 _ a.ln 1 1000 _ i) (fun v' w' h=>⟨h.1.trans (congrArg Value.bool (Bool.eq_false_iff.2 e)),h.2⟩)) fun w I=>pu2 bF bF (by kernel_rfl) (sf 3 (by kernel_rfl) (pu bF (by kernel_rfl) (aa (ai rfl (ak (ab (rgn (by kernel_rfl) (pu (iv 41) (by kernel_rfl) (aa (aj ?_)))))))))))
  cases F
  exact ⟨_,Ret.r1 rfl rfl,⟨rfl,I.below⟩⟩
 refine aw (by kernel_rfl) (ac I 59 _ _ (by kernel_rfl) (cc.mono (L59 _ a.ln 1 1000 _ i) (fun v' w' h=>⟨h.1.trans (congrArg Value.bool e),h.2⟩)) fun w I=>pu2 bT bT (by kernel_rfl) (pup (.pointer (some ⟨b,2,none⟩)) (by kernel_rfl) (aw (by kernel_rfl) (ag I 0 (iv a.wo) Try.isAgg3 rfl rfl rfl (bt F (fun m j F=>ifE F (fun f F=>?_) (fun f F=>?_)))))))
 ·
  refine aw (by kernel_rfl) (ac I 59 _ _ (by kernel_rfl) (cc.mono (L59 _ a.wo 0 10000 _ j) (fun v' w' h=>⟨h.1.trans (congrArg Value.bool f),h.2⟩)) fun w I=>pu bT (by kernel_rfl) (aa (ah rfl (ab (rgn (by kernel_rfl) (pu (iv 0) (by kernel_rfl) (aa (aj ?_))))))))
  cases F
  exact ⟨_,Ret.r1 rfl rfl,⟨rfl,I.below⟩⟩
 refine aw (by kernel_rfl) (ac I 59 _ _ (by kernel_rfl) (cc.mono (L59 _ a.wo 0 10000 _ j) (fun v' w' h=>⟨h.1.trans (congrArg Value.bool (Bool.eq_false_iff.2 f)),h.2⟩)) fun w I=>pu bF (by kernel_rfl) (aa (ai rfl (ak (ab (rgn (by kernel_rfl) (pu (iv 41) (by kernel_rfl) (aa (aj ?_)))))))))
 cases F
 exact ⟨_,Ret.r1 rfl rfl,⟨rfl,I.below⟩⟩
theorem L62 (w0:World) (g:Option Addr) (i:Nat) (b:List Ch) (d:Option Addr) (e:Nat) (a:List Ce) (Z:bi w0 g (al eCh b)) (aH:b.length≤9223372036854775807) (aI:b.length≤i) (a0:bi w0 d (al eCe a)) (aJ:a.length≤9223372036854775807) (aK:a.length≤e) (N:Nat) (r:(Unit ⊕ (Int→Option Int))) (F:F62 N b a=some r):cc Try.prog 62 [.agg #[.slice g b.length i,.slice d a.length e]] w0 fun v w=>(match r with | .inl ra0=>v=.tuple #[.agg #[.slice none 0 0,.slice none 0 0,.map none],iv 42]∧Below w0.heap.size w0 w | .inr rb0=>∃ (z0:Nat) (z1:List En) (z2:Nat),v=.tuple #[.agg #[.slice g b.length i,.slice d a.length e,.map (some z0)],iv 0]∧Inv [] w0 w [(some z0,fp z1 z2)]∧MOk z1 z2∧(∀ j,el z1 j=(rb0 j).map (Value.int .i64))):=by
 refine az (n:=79) Try.func62 rfl Try.ntmps62 rfl ?_
 have I:=Inv.start w0
 unfold F62 at F
 refine ab (rgn (by kernel_rfl) (ph (ca I _ rfl fun t w I=>ph (bh I _ Try.zeroValue115 rfl fun u w I=>pu (iv 0) (by kernel_rfl) (aa (ab (ab (rgn (by kernel_rfl) (pu (pt t) (by kernel_rfl) (ph (ag I 1 (.slice g b.length i) Try.isAgg22 rfl rfl rfl (pu (iv ((b.length:Nat):Int)) (by kernel_rfl) (bt F (fun aL S F=>ifN F (fun G F=>?_) (fun G F=>?_)))))))))))))))
 ·
  refine ph (ac I 59 _ _ (by kernel_rfl) (cc.mono (L59 _ (b.length:Int) 1 6 _ S) (fun v' w' h=>⟨h.1.trans (congrArg Value.bool (Bool.eq_false_iff.2 G)),h.2⟩)) fun w I=>pu2 bT bT (by kernel_rfl) (sf 5 (by kernel_rfl) (pu bT (by kernel_rfl) (aa (ah rfl (ab (rgn (by kernel_rfl) (pu (.agg #[.slice none 0 0,.slice none 0 0,.map none]) (by kernel_rfl) (ph (mb I 0 _ Try.sizeOf115 rfl rfl rfl rfl rfl rfl fun w I=>pu (iv 42) (by kernel_rfl) (aa (aj ?_))))))))))))
  cases F
  exact ⟨_,Ret.ct rfl rfl (ce I 0 3 [.slice none 0 0,.slice none 0 0,.map none] Try.isAgg115 Try.sizeOf115 rfl rfl rfl) rfl,⟨rfl,I.below⟩⟩


 refine ph (ac I 59 _ _ (by kernel_rfl) (cc.mono (L59 _ (b.length:Int) 1 6 _ S) (fun v' w' h=>⟨h.1.trans (congrArg Value.bool G),h.2⟩)) fun w I=>pu2 bF bF (by kernel_rfl) (pup (.pointer (some ⟨t,1,none⟩)) (by kernel_rfl) (aw (by kernel_rfl) (ag I 1 (.slice d a.length e) Try.isAgg23 rfl rfl rfl (pup (iv ((a.length:Nat):Int)) (by kernel_rfl) (bt F (fun aM T F=>ifN F (fun H F=>?_) (fun H F=>?_))))))))
 ·
  refine aw (by kernel_rfl) (ac I 59 _ _ (by kernel_rfl) (cc.mono (L59 _ (a.length:Int) 1 24 _ T) (fun v' w' h=>⟨h.1.trans (congrArg Value.bool (Bool.eq_false_iff.2 H)),h.2⟩)) fun w I=>pup bT (by kernel_rfl) (pu bT (by kernel_rfl) (aa (ah rfl (ab (rgn (by kernel_rfl) (pu (.agg #[.slice none 0 0,.slice none 0 0,.map none]) (by kernel_rfl) (ph (mb I 0 _ Try.sizeOf115 rfl rfl rfl rfl rfl rfl fun w I=>pu (iv 42) (by kernel_rfl) (aa (aj ?_)))))))))))
  cases F
  exact ⟨_,Ret.ct rfl rfl (ce I 0 3 [.slice none 0 0,.slice none 0 0,.map none] Try.isAgg115 Try.sizeOf115 rfl rfl rfl) rfl,⟨rfl,I.below⟩⟩
 refine aw (by kernel_rfl) (ac I 59 _ _ (by kernel_rfl) (cc.mono (L59 _ (a.length:Int) 1 24 _ T) (fun v' w' h=>⟨h.1.trans (congrArg Value.bool H),h.2⟩)) fun w I=>pup bF (by kernel_rfl) (pu bF (by kernel_rfl) (aa (ai rfl (ak (ab (rgn (by kernel_rfl) (ph (ma I 1 Try.isAgg25 Try.sizeOf25 rfl rfl rfl (ph (s_makeMap I fun k w I=>pu (.agg #[.slice g b.length i,.slice d a.length e,.map (some k)]) (by kernel_rfl) (ph (bh I _ Try.zeroValue115 rfl fun q w I=>ph (mb I 0 _ Try.sizeOf115 rfl rfl rfl rfl rfl rfl fun w I=>aa (ab (rgn (by kernel_rfl) (pu (iv 0) (by kernel_rfl) (aa (dn (fun ρ w=>∃ (x:List En) (z:Nat) (l:Int→Option Int),cd ρ [(1,pt t),(2,pt u),(4,pt q)]∧Inv [] w0 w [(some t,blk [.slice g b.length i,.slice d a.length e] 25),(some u,blk [.slice none 0 0,.slice none 0 0,.map none] 115),(some q,blk [.slice g b.length i,.slice d a.length e,.map (some k)] 115),(some k,fp x z)]∧(MOk x z)∧(∀ j,el x j=(l j).map (Value.int .i64))∧F62j1 a N l=some r) ?_ ?_)))))))))))))))))))
 ·
  refine ab (rgn (by kernel_rfl) (pu (pt t) (by kernel_rfl) (ph (ag I 3 (.slice g b.length i) Try.isAgg22 rfl rfl rfl (pu2 (iv ((b.length:Nat):Int)) (iv 0) (by kernel_rfl) (aa (au (cb (fun m ρ w=>∃ (A:List En) (D:Nat) (y:Int→Option Int) (B:Int) (o:Int) (mm:Nat),cd ρ [(1,pt t),(2,pt u),(4,pt q),(5,iv B),(29,.slice g b.length i),(30,iv (b.length:Int)),(31,iv o)]∧Inv [] w0 w [(some t,blk [.slice g b.length i,.slice d a.length e] 25),(some u,blk [.slice none 0 0,.slice none 0 0,.map none] 115),(some q,blk [.slice g b.length i,.slice d a.length e,.map (some k)] 115),(some k,fp A D)]∧(MOk A D)∧(∀ j,el A j=(y j).map (Value.int .i64))∧F62l4 b a N mm y B o=some r∧mm=m) (m:=N) ⟨[],0,noM,0,0,N,⟨rfl,rfl,rfl,rfl,rfl,rfl,rfl,trivial⟩,I.pk [3,2,0,1] rfl rfl,MOk.nil,noM_ok,F,rfl⟩ ?_))))))))
  rintro m ρ w ⟨A,D,y,B,o,mm,hag,I,U,V,F,hm⟩
  subst hm; obtain ⟨ρ,rfl⟩:=hag.form; clear hag
  obtain _ | m4:=mm
  ·cases (show (none:Option (Unit ⊕ (Int→Option Int)))=some r from F)
  replace F:F62b4 b a N (F62l4 b a N m4) y B o=some r:=F; unfold F62b4 at F
  refine ab (rgn (by kernel_rfl) (ifN F (fun J F=>?_) (fun J F=>?_)))
  ·
   refine ph (cm rfl rfl (fun h=>absurd h J) (fun _=>aa (ab (ai rfl (bw (.inl ⟨rfl,⟨A,D,y,⟨rfl,rfl,rfl,trivial⟩,I.pk [0,1,2,3] rfl rfl,U,V,F⟩⟩))))))
  refine ph (cm rfl rfl (fun _=>?_) (fun h=>absurd J h))
  refine aa (ab (ah rfl (ak (ab (au (ab (rgn (by kernel_rfl) (pu (iv o) (by kernel_rfl) (gdE F (fun a1 F=>bt F (fun p W F=>?_)))))))))))
  obtain ⟨aN,aO,a2,a3,a4⟩:=Z.at_ eCh_len (by decide) W
  refine ph (cn (o).toNat Try.underlying22 Try.sizeOf30 rfl a2 rfl (Int.toNat_of_nonneg a1).symm (fa W rfl) (ph (ef I [iv p.id,iv p.lo,iv p.hi] Try.isAgg30 Try.sizeOf30 rfl rfl a3 (by simp) a4 (ph (bh I _ Try.zeroValue30 rfl fun K w I=>pu (iv o) (by kernel_rfl) (ph (mb I 0 _ Try.sizeOf30 rfl rfl rfl rfl rfl rfl fun w I=>aa (ab (ab (rgn (by kernel_rfl) (ph (ma I 0 Try.isAgg30 Try.sizeOf30 rfl rfl rfl (bt F (fun aP a5 F=>ph (ac I 19 _ _ (by kernel_rfl) (L19 _ p _ a5) fun w I=>ifN F (fun L F=>?_) (fun L F=>?_))))))))))))))))
  ·
   refine ph (de rfl rfl (fun _=>?_) (fun h=>absurd h L))
   refine pu bT (by kernel_rfl) (sf 4 (by kernel_rfl) (pu bT (by kernel_rfl) (aa (ah rfl (ab (rgn (by kernel_rfl) (pu (.agg #[.slice none 0 0,.slice none 0 0,.map none]) (by kernel_rfl) (ph (mb I 2 _ Try.sizeOf115 rfl rfl rfl rfl rfl rfl fun w I=>pu (iv 42) (by kernel_rfl) (aa (aj ?_)))))))))))
   cases F
   exact ⟨_,Ret.ct rfl rfl (ce I 2 3 [.slice none 0 0,.slice none 0 0,.map none] Try.isAgg115 Try.sizeOf115 rfl rfl rfl) rfl,⟨rfl,I.below⟩⟩
  refine ph (de rfl rfl (fun h=>absurd L h) (fun _=>pu bF (by kernel_rfl) (pup (pt K) (by kernel_rfl) (aw (by kernel_rfl) (ag I 0 (iv p.id) Try.isAgg3 rfl rfl rfl (pup (iv B) (by kernel_rfl) (ifE F (fun M F=>?_) (fun M F=>?_))))))))
  ·
   refine aw (by kernel_rfl) (fq rfl rfl (fun _=>?_) (fun h=>absurd M h))
   refine pu bT (by kernel_rfl) (aa (ah rfl (ab (rgn (by kernel_rfl) (pu (.agg #[.slice none 0 0,.slice none 0 0,.map none]) (by kernel_rfl) (ph (mb I 2 _ Try.sizeOf115 rfl rfl rfl rfl rfl rfl fun w I=>pu (iv 42) (by kernel_rfl) (aa (aj ?_)))))))))
   cases F
   exact ⟨_,Ret.ct rfl rfl (ce I 2 3 [.slice none 0 0,.slice none 0 0,.map none] Try.isAgg115 Try.sizeOf115 rfl rfl rfl) rfl,⟨rfl,I.below⟩⟩
  refine aw (by kernel_rfl) (fq rfl rfl (fun h=>absurd h M) (fun _=>pu bF (by kernel_rfl) (aa (ai rfl (ak (ab (rgn (by kernel_rfl) (pu (.pointer (some ⟨q,2,none⟩)) (by kernel_rfl) (ph (ag I 3 (.map (some k)) Try.isAgg113 rfl rfl rfl (pu (pt K) (by kernel_rfl) (ph (ag I 0 (iv p.id) Try.isAgg3 rfl rfl rfl (pu (iv o) (by kernel_rfl) (ph (s_mapUpdate I Try.underlying113 Try.underlying3 4 rfl rfl rfl rfl U ?_))))))))))))))))
  intro X a6 w I a7 hg929
  have a8:∀ j,el X j=((updM y p.id o) j).map (Value.int .i64):=updM_ok V hg929
  refine aa (rgn (by kernel_rfl) (pu (pt K) (by kernel_rfl) (ph (ag I 0 (iv p.id) Try.isAgg3 rfl rfl rfl (pu (iv p.id) (by kernel_rfl) (aa (rgn (by kernel_rfl) (ckE F (fun a9 F=>ph (cj rfl rfl a9 (pu (iv (o+1)) (by kernel_rfl) (aa (⟨rfl,m4,Nat.lt_succ_self _,⟨X,a6,updM y p.id o,p.id,o+1,m4,⟨rfl,rfl,rfl,rfl,rfl,rfl,rfl,trivial⟩,I.pk [1,2,3,4] rfl rfl,a7,a8,F,rfl⟩⟩)))))))))))))
 intro ρ w hJ
 obtain ⟨x,z,l,hag,I,aA,C,F⟩:=hJ
 obtain ⟨ρ,rfl⟩:=hag.form; clear hag
 unfold F62j1 at F
 refine ab (ab (rgn (by kernel_rfl) (pu (.pointer (some ⟨t,1,none⟩)) (by kernel_rfl) (ph (ag I 0 (.slice d a.length e) Try.isAgg23 rfl rfl rfl (pu2 (iv ((a.length:Nat):Int)) (iv 0) (by kernel_rfl) (aa (au (cb (fun m ρ w=>∃ (s:Int) (mm:Nat),cd ρ [(2,pt u),(4,pt q),(55,.slice d a.length e),(56,iv (a.length:Int)),(57,iv s)]∧Inv [] w0 w [(some u,blk [.slice none 0 0,.slice none 0 0,.map none] 115),(some q,blk [.slice g b.length i,.slice d a.length e,.map (some k)] 115),(some k,fp x z)]∧F62l2 a l mm s=some r∧mm=m) (m:=N) ⟨0,N,⟨rfl,rfl,rfl,rfl,rfl,trivial⟩,I.pk [1,2,3] rfl rfl,F,rfl⟩ ?_)))))))))
 rintro m ρ w ⟨s,mm,hag,I,F,hm⟩
 subst hm; obtain ⟨ρ,rfl⟩:=hag.form; clear hag
 obtain _ | m2:=mm
 ·cases (show (none:Option (Unit ⊕ (Int→Option Int)))=some r from F)
 replace F:F62b2 a l (F62l2 a l m2) s=some r:=F; unfold F62b2 at F
 refine ab (rgn (by kernel_rfl) (ifN F (fun O F=>?_) (fun O F=>?_)))
 ·
  refine ph (cm rfl rfl (fun h=>absurd h O) (fun _=>aa (ab (ai rfl (bw (ab (rgn (by kernel_rfl) (ph (ma I 1 Try.isAgg115 Try.sizeOf115 rfl rfl rfl (ph (mb I 0 _ Try.sizeOf115 rfl rfl rfl rfl rfl rfl fun w I=>pu (iv 0) (by kernel_rfl) (aa (aj ?_)))))))))))))
  cases F
  exact ⟨_,Ret.ct rfl rfl (ce I 0 3 [.slice g b.length i,.slice d a.length e,.map (some k)] Try.isAgg115 Try.sizeOf115 rfl rfl rfl) rfl,⟨k,x,z,rfl,I.pk [2] rfl rfl,aA,C⟩⟩
 refine ph (cm rfl rfl (fun _=>?_) (fun h=>absurd O h))
 refine aa (ab (ah rfl (ak (ab (au (ab (rgn (by kernel_rfl) (gdE F (fun aB F=>bt F (fun f Y F=>?_))))))))))
 obtain ⟨aQ,aR,aC,aD,aE⟩:=a0.at_ eCe_len (by decide) Y
 refine ph (cn (s).toNat Try.underlying23 Try.sizeOf32 rfl aC rfl (Int.toNat_of_nonneg aB).symm (fa Y rfl) (ph (ef I [iv f.ch,iv f.ln,iv f.wo] Try.isAgg32 Try.sizeOf32 rfl rfl aD (by simp) aE (ph (bh I _ Try.zeroValue32 rfl fun P w I=>ph (mb I 0 _ Try.sizeOf32 rfl rfl rfl rfl rfl rfl fun w I=>aa (dn (fun ρ w=>∃ (E:Bool),cd ρ [(2,pt u),(4,pt q),(9,pt P),(11,.bool E),(55,.slice d a.length e),(56,iv (a.length:Int)),(57,iv s)]∧Inv [] w0 w [(some u,blk [.slice none 0 0,.slice none 0 0,.map none] 115),(some q,blk [.slice g b.length i,.slice d a.length e,.map (some k)] 115),(some k,fp x z),(some P,blk [iv f.ch,iv f.ln,iv f.wo] 32)]∧F62j3 (F62l2 a l m2) s f E=some r) ?_ ?_)))))))
 ·
  refine rgn (by kernel_rfl) (pu (.pointer (some ⟨q,2,none⟩)) (by kernel_rfl) (ph (ag I 2 (.map (some k)) Try.isAgg113 rfl rfl rfl (pu (pt P) (by kernel_rfl) (ph (ag I 0 (iv f.ch) Try.isAgg3 rfl rfl rfl (ifE F (fun Q F=>?_) (fun Q F=>?_))))))))
  ·
   refine ph (s_lookupOk I Try.underlying113 Try.underlying3 Try.zeroValue3 3 rfl rfl rfl (getM_ok C _) ((isM_ok C _).trans Q) (pu3 (.tuple #[iv ((l f.ch).getD 0),bT]) (iv ((l f.ch).getD 0)) bT (by kernel_rfl) (pu2 (iv ((l f.ch).getD 0)) bT (by kernel_rfl) (aa (.inl ⟨rfl,⟨true,⟨rfl,rfl,rfl,rfl,rfl,rfl,rfl,trivial⟩,I.pk [1,2,3,0] rfl rfl,F⟩⟩)))))
  refine ph (s_lookupOk I Try.underlying113 Try.underlying3 Try.zeroValue3 3 rfl rfl rfl (getM_ok C _) ((isM_ok C _).trans (Bool.eq_false_iff.2 Q)) (pu3 (.tuple #[iv ((l f.ch).getD 0),bF]) (iv ((l f.ch).getD 0)) bF (by kernel_rfl) (pu2 (iv ((l f.ch).getD 0)) bF (by kernel_rfl) (aa (.inl ⟨rfl,⟨false,⟨rfl,rfl,rfl,rfl,rfl,rfl,rfl,trivial⟩,I.pk [1,2,3,0] rfl rfl,F⟩⟩)))))
 intro ρ w hJ
 obtain ⟨E,hag,I,F⟩:=hJ
 obtain ⟨ρ,rfl⟩:=hag.form; clear hag
 unfold F62j3 at F
 refine ab ?_
 have hG:=F; rcases Bool.eq_false_or_eq_true E with rfl | rfl
 ·
  have F:=hG; clear hG
  refine ifE F (fun _ F=>?_) (fun h=>absurd rfl h)
  refine rgn (by kernel_rfl) (pu3 bT bF bF (by kernel_rfl) (aw (by kernel_rfl) (ma I 3 Try.isAgg32 Try.sizeOf32 rfl rfl rfl (bt F (fun aS aF F=>aw (by kernel_rfl) (ac I 21 _ _ (by kernel_rfl) (L21 _ f _ aF) fun w I=>ifE F (fun R F=>?_) (fun R F=>?_)))))))
  ·
   refine aw (by kernel_rfl) (de rfl rfl (fun h=>absurd R h) (fun _=>pu bF (by kernel_rfl) (aa (ai rfl (ak (rgn (by kernel_rfl) (ckE F (fun aG F=>ph (cj rfl rfl aG (pu (iv (s+1)) (by kernel_rfl) (aa (⟨rfl,m2,Nat.lt_succ_self _,⟨s+1,m2,⟨rfl,rfl,rfl,rfl,rfl,trivial⟩,I.pk [0,1,2] rfl rfl,F,rfl⟩⟩))))))))))))
  refine aw (by kernel_rfl) (de rfl rfl (fun _=>?_) (fun h=>absurd h R))
  refine pu bT (by kernel_rfl) (aa (ah rfl (ab (rgn (by kernel_rfl) (pu (.agg #[.slice none 0 0,.slice none 0 0,.map none]) (by kernel_rfl) (ph (mb I 0 _ Try.sizeOf115 rfl rfl rfl rfl rfl rfl fun w I=>pu (iv 42) (by kernel_rfl) (aa (aj ?_)))))))))
  cases F
  exact ⟨_,Ret.ct rfl rfl (ce I 0 3 [.slice none 0 0,.slice none 0 0,.map none] Try.isAgg115 Try.sizeOf115 rfl rfl rfl) rfl,⟨rfl,I.below⟩⟩
 have F:=hG; clear hG
 refine ifE F (fun h=>absurd h (by decide)) (fun _ F=>rgn (by kernel_rfl) (pu3 bF bT bT (by kernel_rfl) (sf 3 (by kernel_rfl) (pu bT (by kernel_rfl) (aa (ah rfl (ab (rgn (by kernel_rfl) (pu (.agg #[.slice none 0 0,.slice none 0 0,.map none]) (by kernel_rfl) (ph (mb I 0 _ Try.sizeOf115 rfl rfl rfl rfl rfl rfl fun w I=>pu (iv 42) (by kernel_rfl) (aa (aj ?_)))))))))))))
 cases F
 exact ⟨_,Ret.ct rfl rfl (ce I 0 3 [.slice none 0 0,.slice none 0 0,.map none] Try.isAgg115 Try.sizeOf115 rfl rfl rfl) rfl,⟨rfl,I.below⟩⟩
theorem L64 (w0:World) (g:Option Addr) (i:Nat) (d:List Ch) (e:Option Addr) (f:Nat) (b:List Ce) (k:Option Addr) (l:Nat) (a:List Cl) (J:bi w0 g (al eCh d)) (K:d.length≤9223372036854775807) (L:d.length≤i) (M:bi w0 e (al eCe b)) (O:b.length≤9223372036854775807) (P:b.length≤f) (X:bi w0 k (al eCl a)) (aC:a.length≤9223372036854775807) (aD:a.length≤l) (N:Nat) (r:(Unit ⊕ (Unit ⊕ (Int→Option Int)))) (F:F64 N d b a=some r):cc Try.prog 64 [.agg #[.slice g d.length i,.slice e b.length f],.slice k a.length l] w0 fun v w=>(match r with | .inl ra0=>v=.tuple #[.agg #[.slice none 0 0,.slice none 0 0,.map none,.slice none 0 0],iv 42]∧Below w0.heap.size w0 w | .inr rb0=>(match rb0 with | .inl ra1=>v=.tuple #[.agg #[.slice none 0 0,.slice none 0 0,.map none,.slice none 0 0],iv 44]∧Below w0.heap.size w0 w | .inr rb1=>∃ (z0:Nat) (z1:List En) (z2:Nat),v=.tuple #[.agg #[.slice g d.length i,.slice e b.length f,.map (some z0),.slice k a.length l],iv 0]∧Inv [] w0 w [(some z0,fp z1 z2)]∧MOk z1 z2∧(∀ j,el z1 j=(rb1 j).map (Value.int .i64)))):=by
 refine az (n:=57) Try.func64 rfl Try.ntmps64 rfl ?_
 have I:=Inv.start w0
 unfold F64 at F
 refine ab (rgn (by kernel_rfl) (ph (ca I _ rfl fun x w I=>ph (bh I _ Try.zeroValue120 rfl fun Q w I=>pu (iv 0) (by kernel_rfl) (aa (ab (rgn (by kernel_rfl) (ph (ma I 1 Try.isAgg25 Try.sizeOf25 rfl rfl rfl (bindSE F (fun aE Y F=>?_) (fun y Z F=>?_)))))))))))
 ·
  refine ph (ac I 62 _ _ (by kernel_rfl) (L62 _ g i d e f b (J.inv0 I) K L (M.inv0 I) O P N _ Y) fun w I=>pu3 (.tuple #[.agg #[.slice none 0 0,.slice none 0 0,.map none],iv 42]) (.agg #[.slice none 0 0,.slice none 0 0,.map none]) (iv 42) (by kernel_rfl) (ph (bh I _ Try.zeroValue115 rfl fun aF w I=>ph (mb I 0 _ Try.sizeOf115 rfl rfl rfl rfl rfl rfl fun w I=>pu (iv 42) (by kernel_rfl) (aa (ab (ab (rgn (by kernel_rfl) (pu (iv 42) (by kernel_rfl) (ph (de rfl rfl (fun _=>?_) (fun h=>absurd h (by decide)))))))))))))
  refine aa (ah rfl (ab (rgn (by kernel_rfl) (pu2 (.agg #[.slice none 0 0,.slice none 0 0,.map none,.slice none 0 0]) (iv 42) (by kernel_rfl) (ph (mb I 1 _ Try.sizeOf120 rfl rfl rfl rfl rfl rfl fun w I=>pu (iv 42) (by kernel_rfl) (aa (aj ?_))))))))
  cases F
  exact ⟨_,Ret.ct rfl rfl (ce I 1 4 [.slice none 0 0,.slice none 0 0,.map none,.slice none 0 0] Try.isAgg120 Try.sizeOf120 rfl rfl rfl) rfl,⟨rfl,I.below⟩⟩
 refine ph (co 62 _ (by kernel_rfl) (L62 _ g i d e f b (J.inv0 I) K L (M.inv0 I) O P N _ Z) ?_)
 rintro v w ⟨p,R,S,rfl,hN,a0,a1⟩
 have I:=I.join hN; clear hN
 refine pu3 (.tuple #[.agg #[.slice g d.length i,.slice e b.length f,.map (some p)],iv 0]) (.agg #[.slice g d.length i,.slice e b.length f,.map (some p)]) (iv 0) (by kernel_rfl) (ph (bh I _ Try.zeroValue115 rfl fun T w I=>ph (mb I 0 _ Try.sizeOf115 rfl rfl rfl rfl rfl rfl fun w I=>pu (iv 0) (by kernel_rfl) (aa (ab (ab (rgn (by kernel_rfl) (pu (iv 0) (by kernel_rfl) (ph (de rfl rfl (fun h=>absurd (by decide) h) (fun _=>aa (ai rfl (ak (ab (ab (rgn (by kernel_rfl) (pu2 (.slice k a.length l) (iv ((a.length:Nat):Int)) (by kernel_rfl) (bt F (fun aG U F=>ifN F (fun z F=>?_) (fun z F=>?_))))))))))))))))))))
 ·
  refine ph (ac I 59 _ _ (by kernel_rfl) (cc.mono (L59 _ (a.length:Int) 1 12 _ U) (fun v' w' h=>⟨h.1.trans (congrArg Value.bool (Bool.eq_false_iff.2 z)),h.2⟩)) fun w I=>pu bT (by kernel_rfl) (aa (ah rfl (ab (rgn (by kernel_rfl) (pu (.agg #[.slice none 0 0,.slice none 0 0,.map none,.slice none 0 0]) (by kernel_rfl) (ph (mb I 2 _ Try.sizeOf120 rfl rfl rfl rfl rfl rfl fun w I=>pu (iv 44) (by kernel_rfl) (aa (aj ?_))))))))))
  cases F
  exact ⟨_,Ret.ct rfl rfl (ce I 2 4 [.slice none 0 0,.slice none 0 0,.map none,.slice none 0 0] Try.isAgg120 Try.sizeOf120 rfl rfl rfl) rfl,⟨rfl,I.below⟩⟩


 refine ph (ac I 59 _ _ (by kernel_rfl) (cc.mono (L59 _ (a.length:Int) 1 12 _ U) (fun v' w' h=>⟨h.1.trans (congrArg Value.bool z),h.2⟩)) fun w I=>pu bF (by kernel_rfl) (aa (ai rfl (ak (ab (rgn (by kernel_rfl) (ph (s_makeMap I fun t w I=>pu (.map (some t)) (by kernel_rfl) (aa (ab (ab (rgn (by kernel_rfl) (pu3 (.slice k a.length l) (iv ((a.length:Nat):Int)) (iv 0) (by kernel_rfl) (aa (au (cb (fun m ρ w=>∃ (u:List En) (A:Nat) (s:Int→Option Bool) (q:Int) (mm:Nat),cd ρ [(1,.slice k a.length l),(2,pt x),(4,pt Q),(6,pt T),(8,.map (some t)),(26,.slice k a.length l),(27,iv (a.length:Int)),(28,iv q)]∧Inv [] w0 w [(some x,blk [.slice g d.length i,.slice e b.length f] 25),(some Q,blk [.slice none 0 0,.slice none 0 0,.map none,.slice none 0 0] 120),(some T,blk [.slice g d.length i,.slice e b.length f,.map (some p)] 115),(some p,fp R S),(some t,fp u A)]∧(MOk u A)∧(∀ j,el u j=(s j).map (Value.bool))∧F64l1 b a y mm s q=some r∧mm=m) (m:=N) ⟨[],0,noM,0,N,⟨rfl,rfl,rfl,rfl,rfl,rfl,rfl,rfl,trivial⟩,I.pk [4,3,1,2,0] rfl rfl,MOk.nil,noM_ok,F,rfl⟩ ?_))))))))))))))))
 rintro m ρ w ⟨u,A,s,q,mm,hag,I,a2,B,F,hm⟩
 subst hm; obtain ⟨ρ,rfl⟩:=hag.form; clear hag
 obtain _ | m1:=mm
 ·cases (show (none:Option (Unit ⊕ (Unit ⊕ (Int→Option Int))))=some r from F)
 replace F:F64b1 b a y (F64l1 b a y m1) s q=some r:=F; unfold F64b1 at F
 refine ab (rgn (by kernel_rfl) (ifN F (fun C F=>?_) (fun C F=>?_)))
 ·
  refine ph (cm rfl rfl (fun h=>absurd h C) (fun _=>aa (ab (ai rfl (bw (ab (rgn (by kernel_rfl) (ph (ma I 2 Try.isAgg115 Try.sizeOf115 rfl rfl rfl (pu2 (.slice k a.length l) (.agg #[.slice g d.length i,.slice e b.length f,.map (some p),.slice k a.length l]) (by kernel_rfl) (ph (mb I 1 _ Try.sizeOf120 rfl rfl rfl rfl rfl rfl fun w I=>pu (iv 0) (by kernel_rfl) (aa (aj ?_))))))))))))))
  cases F
  exact ⟨_,Ret.ct rfl rfl (ce I 1 4 [.slice g d.length i,.slice e b.length f,.map (some p),.slice k a.length l] Try.isAgg120 Try.sizeOf120 rfl rfl rfl) rfl,⟨p,R,S,rfl,I.pk [3] rfl rfl,a0,a1⟩⟩
 refine ph (cm rfl rfl (fun _=>?_) (fun h=>absurd C h))
 refine aa (ab (ah rfl (ak (ab (au (ab (rgn (by kernel_rfl) (gdE F (fun a3 F=>bt F (fun o V F=>?_))))))))))
 obtain ⟨aH,aI,a4,a5,a6⟩:=X.at_ eb (by decide) V
 refine ph (cn (q).toNat Try.underlying26 Try.sizeOf34 rfl a4 rfl (Int.toNat_of_nonneg a3).symm (fa V rfl) (ph (ef I [iv o.fam,iv o.hd,iv o.fr,iv o.to] Try.isAgg34 Try.sizeOf34 rfl rfl a5 (by simp) a6 (ph (bh I _ Try.zeroValue34 rfl fun D w I=>ph (mb I 0 _ Try.sizeOf34 rfl rfl rfl rfl rfl rfl fun w I=>aa (ab (ab (rgn (by kernel_rfl) (ph (ma I 0 Try.isAgg34 Try.sizeOf34 rfl rfl rfl (bt F (fun aJ a7 F=>ph (ac I 23 _ _ (by kernel_rfl) (L23 _ o _ a7) fun w I=>ifN F (fun E F=>?_) (fun E F=>?_)))))))))))))))
 ·
  refine ph (de rfl rfl (fun _=>?_) (fun h=>absurd h E))
  refine pu bT (by kernel_rfl) (sf 6 (by kernel_rfl) (pu2 bT bT (by kernel_rfl) (sf 4 (by kernel_rfl) (pu bT (by kernel_rfl) (aa (ah rfl (ab (rgn (by kernel_rfl) (pu (.agg #[.slice none 0 0,.slice none 0 0,.map none,.slice none 0 0]) (by kernel_rfl) (ph (mb I 2 _ Try.sizeOf120 rfl rfl rfl rfl rfl rfl fun w I=>pu (iv 44) (by kernel_rfl) (aa (aj ?_)))))))))))))
  cases F
  exact ⟨_,Ret.ct rfl rfl (ce I 2 4 [.slice none 0 0,.slice none 0 0,.map none,.slice none 0 0] Try.isAgg120 Try.sizeOf120 rfl rfl rfl) rfl,⟨rfl,I.below⟩⟩
 refine ph (de rfl rfl (fun h=>absurd E h) (fun _=>pu bF (by kernel_rfl) (pup (.pointer (some ⟨D,3,none⟩)) (by kernel_rfl) (aw (by kernel_rfl) (ag I 0 (iv o.to) Try.isAgg3 rfl rfl rfl (pup (.pointer (some ⟨x,1,none⟩)) (by kernel_rfl) (aw (by kernel_rfl) (ag I 1 (.slice e b.length f) Try.isAgg23 rfl rfl rfl (pup (iv ((b.length:Nat):Int)) (by kernel_rfl) (ifE F (fun G F=>?_) (fun G F=>?_)))))))))))
 ·
  refine aw (by kernel_rfl) (iq rfl rfl (fun _=>?_) (fun h=>absurd G h))
  refine pu2 bT bT (by kernel_rfl) (sf 4 (by kernel_rfl) (pu bT (by kernel_rfl) (aa (ah rfl (ab (rgn (by kernel_rfl) (pu (.agg #[.slice none 0 0,.slice none 0 0,.map none,.slice none 0 0]) (by kernel_rfl) (ph (mb I 2 _ Try.sizeOf120 rfl rfl rfl rfl rfl rfl fun w I=>pu (iv 44) (by kernel_rfl) (aa (aj ?_)))))))))))
  cases F
  exact ⟨_,Ret.ct rfl rfl (ce I 2 4 [.slice none 0 0,.slice none 0 0,.map none,.slice none 0 0] Try.isAgg120 Try.sizeOf120 rfl rfl rfl) rfl,⟨rfl,I.below⟩⟩
 refine aw (by kernel_rfl) (iq rfl rfl (fun h=>absurd h G) (fun _=>pu2 bF bF (by kernel_rfl) (pup (.map (some t)) (by kernel_rfl) (pup (pt D) (by kernel_rfl) (aw (by kernel_rfl) (ag I 0 (iv o.fam) Try.isAgg3 rfl rfl rfl (ifE F (fun H F=>?_) (fun H F=>?_))))))))
 ·
  refine aw (by kernel_rfl) (s_lookup I bT Try.underlying159 Try.underlying3 Try.zeroValue4 5 rfl rfl rfl ((getM_ok B _).trans (congrArg Value.bool H)) (pu bT (by kernel_rfl) (aa (ah rfl (ab (rgn (by kernel_rfl) (pu (.agg #[.slice none 0 0,.slice none 0 0,.map none,.slice none 0 0]) (by kernel_rfl) (ph (mb I 2 _ Try.sizeOf120 rfl rfl rfl rfl rfl rfl fun w I=>pu (iv 44) (by kernel_rfl) (aa (aj ?_)))))))))))
  cases F
  exact ⟨_,Ret.ct rfl rfl (ce I 2 4 [.slice none 0 0,.slice none 0 0,.map none,.slice none 0 0] Try.isAgg120 Try.sizeOf120 rfl rfl rfl) rfl,⟨rfl,I.below⟩⟩
 refine aw (by kernel_rfl) (s_lookup I bF Try.underlying159 Try.underlying3 Try.zeroValue4 5 rfl rfl rfl ((getM_ok B _).trans (congrArg Value.bool (Bool.eq_false_iff.2 H))) (pu bF (by kernel_rfl) (aa (ai rfl (ak (rgn (by kernel_rfl) (pu2 (.map (some t)) (pt D) (by kernel_rfl) (ph (ag I 0 (iv o.fam) Try.isAgg3 rfl rfl rfl (ph (s_mapUpdate I Try.underlying159 Try.underlying3 5 rfl rfl rfl rfl a2 ?_)))))))))))
 intro W a8 w I a9 hg619
 have aA:∀ j,el W j=((updM s o.fam true) j).map (Value.bool):=updM_ok B hg619
 refine aa (rgn (by kernel_rfl) (ckE F (fun aB F=>ph (cj rfl rfl aB (pu (iv (q+1)) (by kernel_rfl) (aa (⟨rfl,m1,Nat.lt_succ_self _,⟨W,a8,updM s o.fam true,q+1,m1,⟨rfl,rfl,rfl,rfl,rfl,rfl,rfl,rfl,trivial⟩,I.pk [1,2,3,4,5] rfl rfl,a9,aA,F,rfl⟩⟩)))))))
theorem L17 (w0:World) (g:Option Addr) (h:Nat) (b:List Ch) (i:Option Addr) (j:Nat) (d:List Ce) (e:Option Addr) (f:Nat) (a:List Cl) (k:bi w0 g (al eCh b)) (l:b.length≤9223372036854775807) (m:b.length≤h) (o:bi w0 i (al eCe d)) (p:d.length≤9223372036854775807) (q:d.length≤j) (s:bi w0 e (al eCl a)) (t:a.length≤9223372036854775807) (u:a.length≤f) (N:Nat) (r:Int) (F:F17 N b d a=some r):cc Try.prog 17 [.agg #[.slice g b.length h,.slice i d.length j],.slice e a.length f] w0 fun v w=>v=iv r∧Below w0.heap.size w0 w:=by
 refine az (n:=14) Try.func17 rfl Try.ntmps17 rfl ?_
 have I:=Inv.start w0
 unfold F17 at F
 refine ab (rgn (by kernel_rfl) (ph (ca I _ rfl fun B w I=>pu (iv 0) (by kernel_rfl) (aa (ab (rgn (by kernel_rfl) (ph (ma I 0 Try.isAgg25 Try.sizeOf25 rfl rfl rfl (pu (.slice e a.length f) (by kernel_rfl) (bindS3E F (fun C y F=>?_) (fun D z F=>?_) (fun E A F=>?_)))))))))))
 ·
  refine ph (ac I 64 _ _ (by kernel_rfl) (L64 _ g h b i j d e f a (k.inv0 I) l m (o.inv0 I) p q (s.inv0 I) t u N _ y) fun w I=>pu3 (.tuple #[.agg #[.slice none 0 0,.slice none 0 0,.map none,.slice none 0 0],iv 42]) (.agg #[.slice none 0 0,.slice none 0 0,.map none,.slice none 0 0]) (iv 42) (by kernel_rfl) (ph (bh I _ Try.zeroValue120 rfl fun G w I=>ph (mb I 0 _ Try.sizeOf120 rfl rfl rfl rfl rfl rfl fun w I=>pu (iv 42) (by kernel_rfl) (aa (ab (rgn (by kernel_rfl) (pu2 (iv 42) (iv 42) (by kernel_rfl) (aa (aj ?_))))))))))
  cases F
  exact ⟨_,Ret.r1 rfl rfl,⟨rfl,I.below⟩⟩
 ·
  refine ph (ac I 64 _ _ (by kernel_rfl) (L64 _ g h b i j d e f a (k.inv0 I) l m (o.inv0 I) p q (s.inv0 I) t u N _ z) fun w I=>pu3 (.tuple #[.agg #[.slice none 0 0,.slice none 0 0,.map none,.slice none 0 0],iv 44]) (.agg #[.slice none 0 0,.slice none 0 0,.map none,.slice none 0 0]) (iv 44) (by kernel_rfl) (ph (bh I _ Try.zeroValue120 rfl fun H w I=>ph (mb I 0 _ Try.sizeOf120 rfl rfl rfl rfl rfl rfl fun w I=>pu (iv 44) (by kernel_rfl) (aa (ab (rgn (by kernel_rfl) (pu2 (iv 44) (iv 44) (by kernel_rfl) (aa (aj ?_))))))))))
  cases F
  exact ⟨_,Ret.r1 rfl rfl,⟨rfl,I.below⟩⟩
 refine ph (co 64 _ (by kernel_rfl) (L64 _ g h b i j d e f a (k.inv0 I) l m (o.inv0 I) p q (s.inv0 I) t u N _ A) ?_)
 rintro v w ⟨x,J,K,rfl,hN,L,M⟩
 have I:=I.join hN; clear hN
 refine pu3 (.tuple #[.agg #[.slice g b.length h,.slice i d.length j,.map (some x),.slice e a.length f],iv 0]) (.agg #[.slice g b.length h,.slice i d.length j,.map (some x),.slice e a.length f]) (iv 0) (by kernel_rfl) (ph (bh I _ Try.zeroValue120 rfl fun O w I=>ph (mb I 0 _ Try.sizeOf120 rfl rfl rfl rfl rfl rfl fun w I=>pu (iv 0) (by kernel_rfl) (aa (ab (rgn (by kernel_rfl) (pu2 (iv 0) (iv 0) (by kernel_rfl) (aa (aj ?_)))))))))
 cases F
 exact ⟨_,Ret.r1 rfl rfl,⟨rfl,I.below⟩⟩


theorem L60 (w0:World) (j:Option Addr) (l:Nat) (a:List (List Cl)) (C:List D26) (S:bi w0 j (al eD26 C)) (T:C.map D26.p=a) (a1:∀ d∈C,okD26 w0 d) (aJ:a.length≤9223372036854775807) (aK:a.length≤l) (N:Nat) (r:List Cl) (F:F60 N a=some r):cc Try.prog 60 [.slice j a.length l] w0 fun v w=>∃ (z0:Option Nat) (z1:Nat) (z2:List Value),v=slv z0 r.length z1∧Inv [] w0 w [(z0,blk z2 34)]∧Row 4 z0 r.length z1 z2 (al eCl r):=by
 refine az (n:=36) Try.func60 rfl Try.ntmps60 rfl ?_
 have I:=Inv.start w0
 unfold F60 at F
 refine ab (rgn (by kernel_rfl) (pu (.slice none 0 0) (by kernel_rfl) (aa (ab (rgn (by kernel_rfl) (pu (iv 0) (by kernel_rfl) (aa (dn (fun ρ w=>∃ (e:Int),cd ρ [(0,.slice j a.length l),(3,iv e)]∧Inv [] w0 w []∧F60j1 a N e=some r) ?_ ?_))))))))
 ·
  refine ab (rgn (by kernel_rfl) (pu3 (.slice j a.length l) (iv ((a.length:Nat):Int)) (iv 0) (by kernel_rfl) (aa (au (cb (fun m ρ w=>∃ (f:Int) (s:Int) (mm:Nat),cd ρ [(0,.slice j a.length l),(3,iv f),(9,.slice j a.length l),(10,iv (a.length:Int)),(11,iv s)]∧Inv [] w0 w []∧F60l4 a N mm f s=some r∧mm=m) (m:=N) ⟨0,0,N,⟨rfl,rfl,rfl,rfl,rfl,trivial⟩,I.pk [] rfl rfl,F,rfl⟩ ?_)))))
  rintro m ρ w ⟨f,s,mm,hag,I,F,hm⟩
  subst hm; obtain ⟨ρ,rfl⟩:=hag.form; clear hag
  obtain _ | m4:=mm
  ·cases (show (none:Option (List Cl))=some r from F)
  replace F:F60b4 a N (F60l4 a N m4) f s=some r:=F; unfold F60b4 at F
  refine ab (rgn (by kernel_rfl) (ifN F (fun D F=>?_) (fun D F=>?_)))
  ·
   refine ph (cm rfl rfl (fun h=>absurd h D) (fun _=>aa (ab (ai rfl (bw (.inl ⟨rfl,⟨f,⟨rfl,rfl,trivial⟩,I.pk [] rfl rfl,F⟩⟩))))))
  refine ph (cm rfl rfl (fun _=>?_) (fun h=>absurd D h))
  refine aa (ab (ah rfl (ak (ab (au (ab (rgn (by kernel_rfl) (gdE F (fun a2 F=>bt F (fun t U F=>?_))))))))))
  obtain ⟨E,G,a3⟩:=getD26 T U
  obtain ⟨aL,aM,a4,a5,a6⟩:=S.at_ eD26_len (by decide) a3
  refine ph (cn (s).toNat Try.underlying156 Try.sizeOf26 rfl a4 rfl (Int.toNat_of_nonneg a2).symm (fa U rfl) (ph (dj I (.slice E t.length G) Try.isAgg26 rfl a5 (by simp) (a6 0 _ rfl) (pu (.slice E t.length G) (by kernel_rfl) (aa (ab (rgn (by kernel_rfl) (pu3 (iv f) (.slice E t.length G) (iv ((t.length:Nat):Int)) (by kernel_rfl) (ckE F (fun a7 F=>ph (cj rfl rfl a7 (pu (iv (f+(t.length:Int))) (by kernel_rfl) (aa (ab (rgn (by kernel_rfl) (pu (iv (f+(t.length:Int))) (by kernel_rfl) (ifE F (fun H F=>?_) (fun H F=>?_))))))))))))))))))
  ·
   refine ph (cm rfl rfl (fun _=>?_) (fun h=>absurd H h))
   refine aa (ah rfl (rgn (by kernel_rfl) ?_))
   cases F
  refine ph (cm rfl rfl (fun h=>absurd h H) (fun _=>aa (ai rfl (ak (rgn (by kernel_rfl) (ckE F (fun a8 F=>ph (cj rfl rfl a8 (pu (iv (s+1)) (by kernel_rfl) (aa (⟨rfl,m4,Nat.lt_succ_self _,⟨f+(t.length:Int),s+1,m4,⟨rfl,rfl,rfl,rfl,rfl,trivial⟩,I.pk [] rfl rfl,F,rfl⟩⟩)))))))))))
 intro ρ w hJ
 obtain ⟨e,hag,I,F⟩:=hJ
 obtain ⟨ρ,rfl⟩:=hag.form; clear hag
 unfold F60j1 at F
 refine ab (rgn (by kernel_rfl) (pu (iv e) (by kernel_rfl) (ph (s_callI 92 [.slice none 0 0,iv e] (by kernel_rfl) (az (n:=27) Try.func92 rfl Try.ntmps92 rfl (ab (rgn (by kernel_rfl) (pu (.slice none 0 0) (by kernel_rfl) (aa (ab (ab (rgn (by kernel_rfl) (pu (iv e) (by kernel_rfl) (ifE F (fun J F=>?_) (fun J F=>?_)))))))))))))))
 ·
  refine ph (cm rfl rfl (fun _=>?_) (fun h=>absurd J h))
  refine aa (ah rfl (rgn (by kernel_rfl) ?_))
  cases F
 refine ph (cm rfl rfl (fun h=>absurd h J) (fun _=>aa (ai rfl (ak (dn (fun ρ w=>∃ (g:Option Nat) (o:Nat) (y:List Value),cd ρ [(0,slv g (([]:List Cl).length) o)]∧Inv [] w0 w [(g,blk y 34)]∧(Row 4 g (([]:List Cl).length) o y (al eCl ([]:List Cl)))∧F60j2 a N=some r) ?_ ?_)))))
 ·
  refine ab (rgn (by kernel_rfl) (pu3 (iv e) (.slice none 0 0) (iv 0) (by kernel_rfl) (pu2 (.slice none 0 0) (iv ((0:Nat):Int)) (by kernel_rfl) (ph (dm rfl rfl (by decide) (ckE F (fun a9 F=>ph (dm rfl rfl a9 (pu (iv (e - (0 - 0))) (by kernel_rfl) (aa (ab (rgn (by kernel_rfl) (pu (iv (e - (0 - 0))) (by kernel_rfl) (ifN F (fun A F=>?_) (fun A F=>?_)))))))))))))))
  ·
   refine ph (fh rfl rfl (fun h=>absurd h A) (fun _=>aa (ai rfl (ak ?_))))
   have I:=I.nilRow 34
   exact .inl ⟨rfl,⟨none,0,[],⟨rfl,trivial⟩,I.pk [0] rfl rfl,(Row.nil_ 4),F⟩⟩
  refine ph (fh rfl rfl (fun _=>?_) (fun h=>absurd A h))
  refine aa (ah rfl (rgn (by kernel_rfl) (pu3 (.slice none 0 0) (.slice none 0 0) (iv 0) (by kernel_rfl) (pu2 (.slice none 0 0) (iv (e - (0 - 0))) (by kernel_rfl) (gdE F (fun aA F=>ph (s_appMakeNil I (z:=.agg #[iv 0,iv 0,iv 0,iv 0]) (k:=4) (bytes:=32) Try.underlying26 Try.underlying3 (by kernel_rfl) rfl rfl rfl rfl A (M:=1000000) aA (by decide) (by decide) fun V W aB w I aC=>pu2 (.slice none 0 0) (iv ((0:Nat):Int)) (by kernel_rfl) (ph (s_sliceHi 0 Try.underlying26 Try.sizeOf34 rfl rfl (Nat.zero_le _) (pu (slv (some V) 0 W) (by kernel_rfl) (aa (.inl ⟨rfl,⟨some V,W,aB,⟨rfl,trivial⟩,I.pk [0] rfl rfl,(aC.to rfl rfl),F⟩⟩))))))))))))
 intro ρ w hJ
 obtain ⟨g,o,y,hag,I,aD,F⟩:=hJ
 obtain ⟨ρ,rfl⟩:=hag.form; clear hag
 unfold F60j2 at F
 refine ab (rgn (by kernel_rfl) (pu2 (slv g (([]:List Cl).length) o) (slv g (([]:List Cl).length) o) (by kernel_rfl) (aa (aj (⟨slv g (([]:List Cl).length) o,Ret.r1 rfl rfl,?_⟩)))))
 refine pu (slv g (([]:List Cl).length) o) (by kernel_rfl) (aa (ab (ab (rgn (by kernel_rfl) (pu3 (.slice j a.length l) (iv ((a.length:Nat):Int)) (iv 0) (by kernel_rfl) (aa (au (cb (fun m ρ w=>∃ (q:Option Nat) (u:Nat) (B:List Value) (b:List Cl) (x:Int) (mm:Nat),cd ρ [(6,slv q b.length u),(25,.slice j a.length l),(26,iv (a.length:Int)),(27,iv x)]∧Inv [] w0 w [(q,blk B 34)]∧(Row 4 q (b.length) u B (al eCl b))∧F60l3 a mm b x=some r∧mm=m) (m:=N) ⟨g,o,y,([]:List Cl),0,N,⟨rfl,rfl,rfl,rfl,trivial⟩,I.pk [0] rfl rfl,(aD.to rfl rfl),F,rfl⟩ ?_))))))))
 rintro m ρ w ⟨q,u,B,b,x,mm,hag,I,X,F,hm⟩
 subst hm; obtain ⟨ρ,rfl⟩:=hag.form; clear hag
 obtain _ | m3:=mm
 ·cases (show (none:Option (List Cl))=some r from F)
 replace F:F60b3 a (F60l3 a m3) b x=some r:=F; unfold F60b3 at F
 refine ab (rgn (by kernel_rfl) (ifN F (fun K F=>?_) (fun K F=>?_)))
 ·
  refine ph (cm rfl rfl (fun h=>absurd h K) (fun _=>aa (ab (ai rfl (bw (ab (rgn (by kernel_rfl) (pu2 (slv q b.length u) (slv q b.length u) (by kernel_rfl) (aa (aj ?_))))))))))
  cases F
  exact ⟨_,Ret.r1 rfl rfl,⟨q,u,B,rfl,I.pk [0] rfl rfl,X.to rfl rfl⟩⟩


 refine ph (cm rfl rfl (fun _=>?_) (fun h=>absurd K h))
 refine aa (ab (ah rfl (ak (ab (au (ab (rgn (by kernel_rfl) (gdE F (fun aE F=>bt F (fun i Y F=>?_))))))))))
 obtain ⟨L,O,Z⟩:=getD26 T Y
 obtain ⟨aN,aO,aF,aG,aH⟩:=S.at_ eD26_len (by decide) Z
 refine ph (cn (x).toNat Try.underlying156 Try.sizeOf26 rfl aF rfl (Int.toNat_of_nonneg aE).symm (fa Y rfl) (ph (dj I (.slice L i.length O) Try.isAgg26 rfl aG (by simp) (aH 0 _ rfl) (pu (.slice L i.length O) (by kernel_rfl) (aa (rgn (by kernel_rfl) (pu2 (slv q b.length u) (.slice L i.length O) (by kernel_rfl) (gdE F (fun aP F=>ph (ks I Try.underlying26 (z:=.agg #[iv 0,iv 0,iv 0,iv 0]) (k:=4) (bytes:=32) (by kernel_rfl) rfl rfl 0 rfl rfl X (al eCl i) rfl (dt eb _) (((a1 _ (mem_of_get Z))).1.inv0 I) (flat_cell eCl_cell _) (by omega) (by omega) (n2:=(b++i).length) (kr rfl rfl) ?_))))))))))
 intro P Q a0 w I R
 have R:Row 4 P ((b++i).length) Q a0 (al eCl (b++i)):=R.more
 refine pu (slv P ((b++i).length) Q) (by kernel_rfl) (aa (rgn (by kernel_rfl) (ckE F (fun aI F=>ph (cj rfl rfl aI (pu (iv (x+1)) (by kernel_rfl) (aa (⟨rfl,m3,Nat.lt_succ_self _,⟨P,Q,a0,b++i,x+1,m3,⟨rfl,rfl,rfl,rfl,trivial⟩,I.pk [0] rfl rfl,(R.to rfl rfl),F,rfl⟩⟩))))))))
theorem L12 (w0:World) (p:Option Addr) (q:Nat) (g:List Ch) (s:Option Addr) (t:Nat) (i:List Ce) (f:Option Addr) (e:Nat) (a:List Cl) (d:Int) (M:bi w0 p (al eCh g)) (O:g.length≤9223372036854775807) (P:g.length≤q) (Q:bi w0 s (al eCe i)) (R:i.length≤9223372036854775807) (S:i.length≤t) (x:bi w0 f (al eCl a)) (y:a.length≤9223372036854775807) (m:a.length≤e) (N:Nat) (r:(List Cl × Int)) (F:F12 N g i a d=some r):cc Try.prog 12 [.agg #[.slice p g.length q,.slice s i.length t],.slice f a.length e,iv d] w0 fun v w=>∃ (z0:Option Nat) (z1:Nat) (z2:List Value),v=.tuple #[slv z0 r.1.length z1,iv r.2]∧Inv [] w0 w [(z0,blk z2 34)]∧Row 4 z0 r.1.length z1 z2 (al eCl r.1):=by
 refine az (n:=31) Try.func12 rfl Try.ntmps12 rfl ?_
 have I:=Inv.start w0
 unfold F12 at F
 refine ab (rgn (by kernel_rfl) (ph (ca I _ rfl fun a2 w I=>pu2 (.slice none 0 0) (iv 0) (by kernel_rfl) (aa (ab (ab (rgn (by kernel_rfl) (ph (ma I 0 Try.isAgg25 Try.sizeOf25 rfl rfl rfl (pu (.slice f a.length e) (by kernel_rfl) (bt F (fun o T F=>ph (ac I 17 _ _ (by kernel_rfl) (L17 _ p q g s t i f e a (M.inv0 I) O P (Q.inv0 I) R S (x.inv0 I) y m N _ T) fun w I=>pu (iv o) (by kernel_rfl) (aa (ab (rgn (by kernel_rfl) (pu (iv o) (by kernel_rfl) (ifN F (fun A F=>?_) (fun A F=>?_)))))))))))))))))))
 ·
  refine ph (de rfl rfl (fun _=>?_) (fun h=>absurd h A))
  refine aa (ah rfl (ab (rgn (by kernel_rfl) (pu3 (iv o) (.slice none 0 0) (iv o) (by kernel_rfl) (aa (aj ?_))))))
  have I:=I.nilRow 34
  cases F
  exact ⟨_,Ret.r2 rfl rfl rfl,⟨none,0,[],rfl,I.pk [0] rfl rfl,Row.nil_ 4⟩⟩


 refine ph (de rfl rfl (fun h=>absurd A h) (fun _=>aa (ai rfl (ak (ab (ab (rgn (by kernel_rfl) (pu (iv d) (by kernel_rfl) (bt F (fun a3 H F=>ifN F (fun B F=>?_) (fun B F=>?_)))))))))))
 ·
  refine ph (ac I 59 _ _ (by kernel_rfl) (cc.mono (L59 _ d 0 4166 _ H) (fun v' w' h=>⟨h.1.trans (congrArg Value.bool (Bool.eq_false_iff.2 B)),h.2⟩)) fun w I=>pu bT (by kernel_rfl) (aa (ah rfl (ab (rgn (by kernel_rfl) (pu2 (.slice none 0 0) (iv 6) (by kernel_rfl) (aa (aj ?_))))))))
  have I:=I.nilRow 34
  cases F
  exact ⟨_,Ret.r2 rfl rfl rfl,⟨none,0,[],rfl,I.pk [0] rfl rfl,Row.nil_ 4⟩⟩
 refine ph (ac I 59 _ _ (by kernel_rfl) (cc.mono (L59 _ d 0 4166 _ H) (fun v' w' h=>⟨h.1.trans (congrArg Value.bool B),h.2⟩)) fun w I=>pu bF (by kernel_rfl) (aa (ai rfl (ak (ab (rgn (by kernel_rfl) (pu3 (iv d) (.slice f a.length e) (iv ((a.length:Nat):Int)) (by kernel_rfl) (gdE F (fun U F=>ph (s_rem rfl rfl U (pu (iv (d.tmod (a.length:Int))) (by kernel_rfl) (aa (ab (gm 6 I (by kernel_rfl) (zp2 (.slice f a.length e) (iv (d.tmod (a.length:Int))) (fun _=>(by kernel_rfl)) (gdE F (fun J F=>gdE F (fun C F=>?_))))))))))))))))))
 obtain ⟨D,hC129,V⟩:=cutA (enc:=eCl) (l:=a) (lo:=(d.tmod (a.length:Int)).toNat) (hi:=a.length) (c:=e) (k:=4) eb x C m
 refine zc (.slice D (((a.drop ((d.tmod (a.length:Int)).toNat)).take (a.length - ((d.tmod (a.length:Int)).toNat))).length) (e - ((d.tmod (a.length:Int)).toNat))) (fun w I=>V Try.underlying26 Try.sizeOf34 rfl (.inl (congrArg (fun z=>some (Value.int .i64 z)) (Int.toNat_of_nonneg J).symm)) (.inr ⟨rfl,rfl⟩) br) (zp2 (.slice f a.length e) (iv (d.tmod (a.length:Int))) (fun _=>(by kernel_rfl)) (gdE F (fun E F=>?_)))
 obtain ⟨G,hC131,W⟩:=cutA (enc:=eCl) (l:=a) (lo:=0) (hi:=(d.tmod (a.length:Int)).toNat) (c:=e) (k:=4) eb x E m
 refine zc (.slice G (((a.drop 0).take ((d.tmod (a.length:Int)).toNat - 0)).length) (e - 0)) (fun w I=>W Try.underlying26 Try.sizeOf34 rfl (.inr ⟨rfl,rfl⟩) (.inl (congrArg (fun z=>some (Value.int .i64 z)) (Int.toNat_of_nonneg J).symm)) br) (zh (fun w I=>ph (fu I [.slice D (((a.drop ((d.tmod (a.length:Int)).toNat)).take (a.length - ((d.tmod (a.length:Int)).toNat))).length) (e - ((d.tmod (a.length:Int)).toNat)),.slice G (((a.drop 0).take ((d.tmod (a.length:Int)).toNat - 0)).length) (e - 0)] 26 (fun b=>slv (some b) 2 2) (by kernel_rfl) fun X w I=>bt F (fun Y Z F=>ph (co 60 _ (by kernel_rfl) (L60 _ (some ⟨X,0,none⟩) 2 [(a.drop ((d.tmod (a.length:Int)).toNat)).take (a.length - ((d.tmod (a.length:Int)).toNat)),(a.drop 0).take ((d.tmod (a.length:Int)).toNat - 0)] [(⟨(a.drop ((d.tmod (a.length:Int)).toNat)).take (a.length - ((d.tmod (a.length:Int)).toNat)),D,e - ((d.tmod (a.length:Int)).toNat)⟩:D26),(⟨(a.drop 0).take ((d.tmod (a.length:Int)).toNat - 0),G,e - 0⟩:D26)] (I.cells 0 (off:=0) rfl (fun j u h=>by rw [Nat.zero_add]; exact h)) rfl (fa_cons ⟨(hC129.inv0 I),(cut_big C y),(cut_cap C m)⟩ (fa_cons ⟨(hC131.inv0 I),(cut_big E y),(cut_cap E m)⟩ fa_nil)) (qa rfl) (Nat.le_refl _) N _ Z) ?_)))))
 rintro v w ⟨K,L,a0,rfl,hN,a1⟩
 have I:=I.join hN; clear hN
 refine pu2 (slv K Y.length L) (iv 0) (by kernel_rfl) (aa (aj ?_))
 cases F
 exact ⟨_,Ret.r2 rfl rfl rfl,⟨K,L,a0,rfl,I.pk [0] rfl rfl,a1.to rfl rfl⟩⟩
theorem L73 (w0:World) (m:Option Addr) (o:Nat) (d:List Ch) (e:Option Addr) (f:Nat) (a:List Ce) (p:Nat) (g:List En) (q:Nat) (s:Int→Option Int) (b:Dr) (t:bi w0 m (al eCh d)) (u:d.length≤9223372036854775807) (x:d.length≤o) (y:bi w0 e (al eCe a)) (z:a.length≤9223372036854775807) (A:a.length≤f) (B:w0.heap[p]?=some (fp g q)) (C:MOk g q) (D:∀ j,el g j=(s j).map (Value.int .i64)) (r:Bool) (F:F73 d a s b=some r):cc Try.prog 73 [.agg #[.slice m d.length o,.slice e a.length f,.map (some p)],.agg #[iv b.fr,iv b.to]] w0 fun v w=>v=.bool r∧Below w0.heap.size w0 w:=by
 refine az (n:=24) Try.func73 rfl Try.ntmps73 rfl ?_
 have I:=Inv.start w0
 unfold F73 at F
 refine ab (rgn (by kernel_rfl) (ph (ca I _ rfl fun b4 w I=>ph (ca I _ rfl fun b5 w I=>pu bF (by kernel_rfl) (aa (ab (rgn (by kernel_rfl) (pu (pt b5) (by kernel_rfl) (ph (ag I 0 (iv b.fr) Try.isAgg3 rfl rfl rfl (ifN F (fun i F=>?_) (fun i F=>?_))))))))))))
 ·
  refine ph (iq rfl rfl (fun h=>absurd h i) (fun _=>pu bF (by kernel_rfl) (sf 5 (by kernel_rfl) (pu2 bF bF (by kernel_rfl) (sf 7 (by kernel_rfl) (pu2 bF bF (by kernel_rfl) (aa (aj ?_))))))))
  cases F
  exact ⟨_,Ret.r1 rfl rfl,⟨rfl,I.below⟩⟩


 refine ph (iq rfl rfl (fun _=>?_) (fun h=>absurd i h))
 refine pu bT (by kernel_rfl) (pup (pt b5) (by kernel_rfl) (aw (by kernel_rfl) (ag I 0 (iv b.fr) Try.isAgg3 rfl rfl rfl (pup (.pointer (some ⟨b5,1,none⟩)) (by kernel_rfl) (aw (by kernel_rfl) (ag I 0 (iv b.to) Try.isAgg3 rfl rfl rfl (ifN F (fun k F=>?_) (fun k F=>?_))))))))
 ·
  refine aw (by kernel_rfl) (fq rfl rfl (fun h=>absurd h k) (fun _=>pu2 bF bF (by kernel_rfl) (sf 7 (by kernel_rfl) (pu2 bF bF (by kernel_rfl) (aa (aj ?_))))))
  cases F
  exact ⟨_,Ret.r1 rfl rfl,⟨rfl,I.below⟩⟩
 refine aw (by kernel_rfl) (fq rfl rfl (fun _=>?_) (fun h=>absurd k h))
 refine pu2 bT bT (by kernel_rfl) (pup (.pointer (some ⟨b5,1,none⟩)) (by kernel_rfl) (aw (by kernel_rfl) (ag I 0 (iv b.to) Try.isAgg3 rfl rfl rfl (pup (pt b4) (by kernel_rfl) (pup (.pointer (some ⟨b4,1,none⟩)) (by kernel_rfl) (aw (by kernel_rfl) (ag I 1 (.slice e a.length f) Try.isAgg23 rfl rfl rfl (pup (iv ((a.length:Nat):Int)) (by kernel_rfl) (ifE F (fun l F=>?_) (fun l F=>?_))))))))))
 ·
  refine aw (by kernel_rfl) (cm rfl rfl (fun _=>?_) (fun h=>absurd l h))
  refine pu2 bT bT (by kernel_rfl) (aa (aj ?_))
  cases F
  exact ⟨_,Ret.r1 rfl rfl,⟨rfl,I.below⟩⟩
 refine aw (by kernel_rfl) (cm rfl rfl (fun h=>absurd h l) (fun _=>pu2 bF bF (by kernel_rfl) (aa (aj ?_))))
 cases F
 exact ⟨_,Ret.r1 rfl rfl,⟨rfl,I.below⟩⟩
theorem L66 (w0:World) (e:Option Addr) (f:Nat) (a:List Ch) (g:Option Addr) (i:Nat) (b:List Ce) (p:Option Addr) (q:Nat) (d:List Dr) (s:bi w0 e (al eCh a)) (t:a.length≤9223372036854775807) (u:a.length≤f) (x:bi w0 g (al eCe b)) (y:b.length≤9223372036854775807) (z:b.length≤i) (O:bi w0 p (al eDr d)) (W:d.length≤9223372036854775807) (X:d.length≤q) (N:Nat) (r:(Unit ⊕ (Unit ⊕ (Int→Option Int)))) (F:F66 N a b d=some r):cc Try.prog 66 [.agg #[.slice e a.length f,.slice g b.length i],.slice p d.length q] w0 fun v w=>(match r with | .inl ra0=>v=.tuple #[.agg #[.slice none 0 0,.slice none 0 0,.map none],iv 42]∧Below w0.heap.size w0 w | .inr rb0=>(match rb0 with | .inl ra1=>v=.tuple #[.agg #[.slice none 0 0,.slice none 0 0,.map none],iv 45]∧Below w0.heap.size w0 w | .inr rb1=>∃ (z0:Nat) (z1:List En) (z2:Nat),v=.tuple #[.agg #[.slice e a.length f,.slice g b.length i,.map (some z0)],iv 0]∧Inv [] w0 w [(some z0,fp z1 z2)]∧MOk z1 z2∧(∀ j,el z1 j=(rb1 j).map (Value.int .i64)))):=by
 refine az (n:=32) Try.func66 rfl Try.ntmps66 rfl ?_
 have I:=Inv.start w0
 unfold F66 at F
 refine ab (rgn (by kernel_rfl) (ph (ca I _ rfl fun Y w I=>ph (bh I _ Try.zeroValue115 rfl fun J w I=>pu (iv 0) (by kernel_rfl) (aa (ab (rgn (by kernel_rfl) (ph (ma I 1 Try.isAgg25 Try.sizeOf25 rfl rfl rfl (bindSE F (fun Z P F=>?_) (fun o Q F=>?_)))))))))))
 ·
  refine ph (ac I 62 _ _ (by kernel_rfl) (L62 _ e f a g i b (s.inv0 I) t u (x.inv0 I) y z N _ P) fun w I=>pu3 (.tuple #[.agg #[.slice none 0 0,.slice none 0 0,.map none],iv 42]) (.agg #[.slice none 0 0,.slice none 0 0,.map none]) (iv 42) (by kernel_rfl) (ph (bh I _ Try.zeroValue115 rfl fun a0 w I=>ph (mb I 0 _ Try.sizeOf115 rfl rfl rfl rfl rfl rfl fun w I=>pu (iv 42) (by kernel_rfl) (aa (ab (ab (rgn (by kernel_rfl) (pu (iv 42) (by kernel_rfl) (ph (de rfl rfl (fun _=>?_) (fun h=>absurd h (by decide)))))))))))))
  refine aa (ah rfl (ab (rgn (by kernel_rfl) (pu2 (.agg #[.slice none 0 0,.slice none 0 0,.map none]) (iv 42) (by kernel_rfl) (ph (mb I 1 _ Try.sizeOf115 rfl rfl rfl rfl rfl rfl fun w I=>pu (iv 42) (by kernel_rfl) (aa (aj ?_))))))))
  cases F
  exact ⟨_,Ret.ct rfl rfl (ce I 1 3 [.slice none 0 0,.slice none 0 0,.map none] Try.isAgg115 Try.sizeOf115 rfl rfl rfl) rfl,⟨rfl,I.below⟩⟩
 refine ph (co 62 _ (by kernel_rfl) (L62 _ e f a g i b (s.inv0 I) t u (x.inv0 I) y z N _ Q) ?_)
 rintro v w ⟨k,A,B,rfl,hN,D,E⟩
 have I:=I.join hN; clear hN
 refine pu3 (.tuple #[.agg #[.slice e a.length f,.slice g b.length i,.map (some k)],iv 0]) (.agg #[.slice e a.length f,.slice g b.length i,.map (some k)]) (iv 0) (by kernel_rfl) (ph (bh I _ Try.zeroValue115 rfl fun K w I=>ph (mb I 0 _ Try.sizeOf115 rfl rfl rfl rfl rfl rfl fun w I=>pu (iv 0) (by kernel_rfl) (aa (ab (ab (rgn (by kernel_rfl) (pu (iv 0) (by kernel_rfl) (ph (de rfl rfl (fun h=>absurd (by decide) h) (fun _=>aa (ai rfl (ak (ab (ab (rgn (by kernel_rfl) (pu3 (.slice p d.length q) (iv ((d.length:Nat):Int)) (iv 0) (by kernel_rfl) (aa (au (cb (fun m ρ w=>∃ (l:Int) (mm:Nat),cd ρ [(4,pt J),(6,pt K),(19,.slice p d.length q),(20,iv (d.length:Int)),(21,iv l)]∧Inv [] w0 w [(some J,blk [.slice none 0 0,.slice none 0 0,.map none] 115),(some K,blk [.slice e a.length f,.slice g b.length i,.map (some k)] 115),(some k,fp A B)]∧F66l1 a b d o mm l=some r∧mm=m) (m:=N) ⟨0,N,⟨rfl,rfl,rfl,rfl,rfl,trivial⟩,I.pk [2,0,1] rfl rfl,F,rfl⟩ ?_))))))))))))))))))))
 rintro m ρ w ⟨l,mm,hag,I,F,hm⟩
 subst hm; obtain ⟨ρ,rfl⟩:=hag.form; clear hag
 obtain _ | m1:=mm
 ·cases (show (none:Option (Unit ⊕ (Unit ⊕ (Int→Option Int))))=some r from F)
 replace F:F66b1 a b d o (F66l1 a b d o m1) l=some r:=F; unfold F66b1 at F
 refine ab (rgn (by kernel_rfl) (ifN F (fun G F=>?_) (fun G F=>?_)))
 ·
  refine ph (cm rfl rfl (fun h=>absurd h G) (fun _=>aa (ab (ai rfl (bw (ab (rgn (by kernel_rfl) (ph (ma I 1 Try.isAgg115 Try.sizeOf115 rfl rfl rfl (ph (mb I 0 _ Try.sizeOf115 rfl rfl rfl rfl rfl rfl fun w I=>pu (iv 0) (by kernel_rfl) (aa (aj ?_)))))))))))))
  cases F
  exact ⟨_,Ret.ct rfl rfl (ce I 0 3 [.slice e a.length f,.slice g b.length i,.map (some k)] Try.isAgg115 Try.sizeOf115 rfl rfl rfl) rfl,⟨k,A,B,rfl,I.pk [2] rfl rfl,D,E⟩⟩


 refine ph (cm rfl rfl (fun _=>?_) (fun h=>absurd G h))
 refine aa (ab (ah rfl (ak (ab (au (ab (rgn (by kernel_rfl) (gdE F (fun R F=>bt F (fun C L F=>?_))))))))))
 obtain ⟨a1,a2,S,T,U⟩:=O.at_ eDr_len (by decide) L
 refine ph (cn (l).toNat Try.underlying63 Try.sizeOf49 rfl S rfl (Int.toNat_of_nonneg R).symm (fa L rfl) (ph (ef I [iv C.fr,iv C.to] Try.isAgg49 Try.sizeOf49 rfl rfl T (by simp) U (ph (bh I _ Try.zeroValue49 rfl fun a3 w I=>ph (mb I 0 _ Try.sizeOf49 rfl rfl rfl rfl rfl rfl fun w I=>aa (ab (rgn (by kernel_rfl) (ph (ma I 2 Try.isAgg115 Try.sizeOf115 rfl rfl rfl (ph (ma I 0 Try.isAgg49 Try.sizeOf49 rfl rfl rfl (bt F (fun a4 M F=>ifE F (fun H F=>?_) (fun H F=>?_)))))))))))))))
 ·
  refine ph (ac I 73 _ _ (by kernel_rfl) (cc.mono (L73 _ e f a g i b k A B o C (s.inv0 I) t u (x.inv0 I) y z (I.has 3 _ _ rfl).1 D E _ M) (fun v' w' h=>⟨h.1.trans (congrArg Value.bool H),h.2⟩)) fun w I=>pu bF (by kernel_rfl) (aa (ai rfl (ak (rgn (by kernel_rfl) (ckE F (fun V F=>ph (cj rfl rfl V (pu (iv (l+1)) (by kernel_rfl) (aa (⟨rfl,m1,Nat.lt_succ_self _,⟨l+1,m1,⟨rfl,rfl,rfl,rfl,rfl,trivial⟩,I.pk [1,2,3] rfl rfl,F,rfl⟩⟩)))))))))))
 refine ph (ac I 73 _ _ (by kernel_rfl) (cc.mono (L73 _ e f a g i b k A B o C (s.inv0 I) t u (x.inv0 I) y z (I.has 3 _ _ rfl).1 D E _ M) (fun v' w' h=>⟨h.1.trans (congrArg Value.bool (Bool.eq_false_iff.2 H)),h.2⟩)) fun w I=>pu bT (by kernel_rfl) (aa (ah rfl (ab (rgn (by kernel_rfl) (pu (.agg #[.slice none 0 0,.slice none 0 0,.map none]) (by kernel_rfl) (ph (mb I 1 _ Try.sizeOf115 rfl rfl rfl rfl rfl rfl fun w I=>pu (iv 45) (by kernel_rfl) (aa (aj ?_))))))))))
 cases F
 exact ⟨_,Ret.ct rfl rfl (ce I 1 3 [.slice none 0 0,.slice none 0 0,.map none] Try.isAgg115 Try.sizeOf115 rfl rfl rfl) rfl,⟨rfl,I.below⟩⟩
theorem L74 (w0:World) (f:Option Addr) (g:Nat) (a:List Int) (k:bi w0 f (al dv a)) (u:a.length≤9223372036854775807) (x:a.length≤g) (N:Nat) (r:Int) (F:F74 N a=some r):cc Try.prog 74 [.slice f a.length g] w0 fun v w=>v=iv r∧Below w0.heap.size w0 w:=by
 refine az (n:=17) Try.func74 rfl Try.ntmps74 rfl ?_
 have I:=Inv.start w0
 unfold F74 at F
 refine ab (rgn (by kernel_rfl) (pu (iv 0) (by kernel_rfl) (aa (ab (rgn (by kernel_rfl) (pu (iv 0) (by kernel_rfl) (aa (ab (ab (rgn (by kernel_rfl) (pu3 (.slice f a.length g) (iv ((a.length:Nat):Int)) (iv 0) (by kernel_rfl) (aa (au (cb (fun m ρ w=>∃ (b:Int) (d:Int) (mm:Nat),cd ρ [(3,iv b),(6,.slice f a.length g),(7,iv (a.length:Int)),(8,iv d)]∧Inv [] w0 w []∧F74l1 a mm b d=some r∧mm=m) (m:=N) ⟨0,0,N,⟨rfl,rfl,rfl,rfl,trivial⟩,I.pk [] rfl rfl,F,rfl⟩ ?_))))))))))))))
 rintro m ρ w ⟨b,d,mm,hag,I,F,hm⟩
 subst hm; obtain ⟨ρ,rfl⟩:=hag.form; clear hag
 obtain _ | m1:=mm
 ·cases (show (none:Option Int)=some r from F)
 replace F:F74b1 a (F74l1 a m1) b d=some r:=F; unfold F74b1 at F
 refine ab (rgn (by kernel_rfl) (ifN F (fun i F=>?_) (fun i F=>?_)))
 ·
  refine ph (cm rfl rfl (fun h=>absurd h i) (fun _=>aa (ab (ai rfl (bw (ab (rgn (by kernel_rfl) (pu2 (iv b) (iv b) (by kernel_rfl) (aa (aj ?_))))))))))
  cases F
  exact ⟨_,Ret.r1 rfl rfl,⟨rfl,I.below⟩⟩


 refine ph (cm rfl rfl (fun _=>?_) (fun h=>absurd i h))
 refine aa (ab (ah rfl (ak (ab (au (ab (rgn (by kernel_rfl) (gdE F (fun l F=>bt F (fun e j F=>?_))))))))))
 obtain ⟨y,z,o,p,q⟩:=k.at_ cy (by decide) j
 refine ph (cn (d).toNat Try.underlying52 Try.sizeOf3 rfl o rfl (Int.toNat_of_nonneg l).symm (fa j rfl) (ph (dj I (iv e) Try.isAgg3 rfl p (by simp) (q 0 _ rfl) (pu (iv e) (by kernel_rfl) (aa (rgn (by kernel_rfl) (pu2 (iv b) (iv e) (by kernel_rfl) (ckE F (fun s F=>ph (cj rfl rfl s (pu (iv (b+e)) (by kernel_rfl) (aa (rgn (by kernel_rfl) (ckE F (fun t F=>ph (cj rfl rfl t (pu (iv (d+1)) (by kernel_rfl) (aa (⟨rfl,m1,Nat.lt_succ_self _,⟨b+e,d+1,m1,⟨rfl,rfl,rfl,rfl,trivial⟩,I.pk [] rfl rfl,F,rfl⟩⟩)))))))))))))))))))
theorem L67 (w0:World) (H:Option Addr) (J:Nat) (i:List Ch) (a3:Option Addr) (a4:Nat) (y:List Ce) (a5:Nat) (P:List En) (a6:Nat) (a7:Int→Option Int) (A:Option Addr) (B:Nat) (l:List Int) (aL:bi w0 H (al eCh i)) (aV:i.length≤9223372036854775807) (aW:i.length≤J) (aX:bi w0 a3 (al eCe y)) (aY:y.length≤9223372036854775807) (aZ:y.length≤a4) (b0:w0.heap[a5]?=some (fp P a6)) (b1:MOk P a6) (b2:∀ j,el P j=(a7 j).map (Value.int .i64)) (aM:bi w0 A (al dv l)) (b3:l.length≤9223372036854775807) (b4:l.length≤B) (N:Nat) (r:(Int × Int)) (F:F67 N i y a7 l=some r):cc Try.prog 67 [.agg #[.slice H i.length J,.slice a3 y.length a4,.map (some a5)],.slice A l.length B] w0 fun v w=>v=.agg #[iv r.1,iv r.2]∧Below w0.heap.size w0 w:=by
 refine az (n:=54) Try.func67 rfl Try.ntmps67 rfl ?_
 have I:=Inv.start w0
 unfold F67 at F
 refine ab (rgn (by kernel_rfl) (ph (ca I _ rfl fun a8 w I=>ph (bh I _ Try.zeroValue28 rfl fun K w I=>aa (ab (rgn (by kernel_rfl) (pu2 (.slice none 0 0) (.slice none 0 0) (by kernel_rfl) (aa (dn (fun ρ w=>∃ (q:Option Nat) (C:Nat) (Q:List Value) (s:Option Nat) (D:Nat) (R:List Value) (o:List Int) (p:List Int),cd ρ [(4,pt K),(5,slv q o.length C),(6,slv s p.length D)]∧Inv [] w0 w [(some K,blk [iv 0,iv 0] 28),(q,blk Q 3),(s,blk R 3)]∧(Row 1 q (o.length) C Q (al dv o))∧(Row 1 s (p.length) D R (al dv p))∧F67j1 N o p=some r) ?_ ?_)))))))))
 ·
  refine ab (rgn (by kernel_rfl) (pu2 (pt a8) (pt a8) (by kernel_rfl) (ph (ag I 1 (.slice H i.length J) Try.isAgg22 rfl rfl rfl (pu2 (iv ((i.length:Nat):Int)) (iv 0) (by kernel_rfl) (aa (au ?_)))))))
  have I:=I.nilRow 3
  have I:=I.nilRow 3
  refine cb (fun m ρ w=>∃ (t:Option Nat) (E:Nat) (L:List Value) (x:Option Nat) (G:Nat) (M:List Value) (f:List Int) (g:List Int) (e:Int) (mm:Nat),cd ρ [(1,.slice A l.length B),(4,pt K),(5,slv t f.length E),(6,slv x g.length G),(13,.slice H i.length J),(14,iv (i.length:Int)),(15,iv e)]∧Inv [] w0 w [(some K,blk [iv 0,iv 0] 28),(t,blk L 3),(x,blk M 3)]∧(Row 1 t (f.length) E L (al dv f))∧(Row 1 x (g.length) G M (al dv g))∧F67l2 i l N mm f g e=some r∧mm=m) (m:=N) ⟨none,0,[],none,0,[],[],[],0,N,⟨rfl,rfl,rfl,rfl,rfl,rfl,rfl,trivial⟩,I.pk [2,0,1] rfl rfl,(Row.nil_ 1),(Row.nil_ 1),F,rfl⟩ ?_
  rintro m ρ w ⟨t,E,L,x,G,M,f,g,e,mm,hag,I,a9,aA,F,hm⟩
  subst hm; obtain ⟨ρ,rfl⟩:=hag.form; clear hag
  obtain _ | m2:=mm
  ·cases (show (none:Option (Int × Int))=some r from F)
  replace F:F67b2 i l N (F67l2 i l N m2) f g e=some r:=F; unfold F67b2 at F
  refine ab (rgn (by kernel_rfl) (ifN F (fun S F=>?_) (fun S F=>?_)))
  ·
   refine ph (cm rfl rfl (fun h=>absurd h S) (fun _=>aa (ab (ai rfl (bw (.inl ⟨rfl,⟨t,E,L,x,G,M,f,g,⟨rfl,rfl,rfl,trivial⟩,I.pk [0,1,2] rfl rfl,(a9.to rfl rfl),(aA.to rfl rfl),F⟩⟩))))))
  refine ph (cm rfl rfl (fun _=>?_) (fun h=>absurd S h))
  refine aa (ab (ah rfl (ak (ab (au (ab (rgn (by kernel_rfl) (pu (iv e) (by kernel_rfl) (gdE F (fun T F=>bt F (fun a aB F=>?_)))))))))))
  obtain ⟨b5,b6,aN,aO,aP⟩:=aL.at_ eCh_len (by decide) aB
  refine ph (cn (e).toNat Try.underlying22 Try.sizeOf30 rfl aN rfl (Int.toNat_of_nonneg T).symm (fa aB rfl) (ph (ef I [iv a.id,iv a.lo,iv a.hi] Try.isAgg30 Try.sizeOf30 rfl rfl aO (by simp) aP (ph (bh I _ Try.zeroValue30 rfl fun O w I=>pu (iv e) (by kernel_rfl) (ph (mb I 0 _ Try.sizeOf30 rfl rfl rfl rfl rfl rfl fun w I=>aa (ab (gm 18 I (by kernel_rfl) (zp2 (.slice A l.length B) (iv e) (fun _=>(by kernel_rfl)) (bt F (fun d U F=>?_))))))))))))
  obtain ⟨aC,aD,aE,aF,aG⟩:=aM.at_ cy (by decide) U
  refine zc (.pointer (some ⟨aC,aD+(e).toNat * 1,none⟩)) (fun w I=>cn (e).toNat Try.underlying52 Try.sizeOf3 rfl aE rfl (Int.toNat_of_nonneg T).symm (fa U rfl) br) (zc (iv d) (fun w I=>dj I (iv d) Try.isAgg3 rfl aF (by simp) (aG 0 _ rfl) br) (zp2 (.pointer (some ⟨O,1,none⟩)) (.pointer (some ⟨O,1,none⟩)) (fun _=>(by kernel_rfl)) (zc (iv a.lo) (fun w I=>ag I 0 (iv a.lo) Try.isAgg3 rfl rfl rfl br) (ckE F (fun aQ F=>zc (iv (d * a.lo)) (fun w I=>s_mul rfl rfl aQ br) (zp2 (.slice A l.length B) (iv e) (fun _=>(by kernel_rfl)) (zc (.pointer (some ⟨aC,aD+(e).toNat * 1,none⟩)) (fun w I=>cn (e).toNat Try.underlying52 Try.sizeOf3 rfl aE rfl (Int.toNat_of_nonneg T).symm (fa U rfl) br) (zc (iv d) (fun w I=>dj I (iv d) Try.isAgg3 rfl aF (by simp) (aG 0 _ rfl) br) (zp2 (.pointer (some ⟨O,1,none⟩)) (.pointer (some ⟨O,2,none⟩)) (fun _=>(by kernel_rfl)) (zc (iv a.hi) (fun w I=>ag I 0 (iv a.hi) Try.isAgg3 rfl rfl rfl br) (ckE F (fun aR F=>zc (iv (d * a.hi)) (fun w I=>s_mul rfl rfl aR br) (zp2 (iv (d * a.lo)) (iv (d * a.hi)) (fun _=>(by kernel_rfl)) (zh (fun w I=>aa (ab (rgn (by kernel_rfl) (pu3 (slv t f.length E) (iv (d * a.lo)) (iv (d * a.hi)) (by kernel_rfl) (pu (iv (if (d * a.hi) < (d * a.lo) then (d * a.hi) else (d * a.lo))) (by kernel_rfl) (ph (fu I [iv (if (d * a.hi) < (d * a.lo) then (d * a.hi) else (d * a.lo))] 3 (fun b=>slv (some b) 1 1) (by kernel_rfl) fun b7 w I=>gdE F (fun b8 F=>ph (ks I Try.underlying52 (z:=iv 0) (k:=1) (bytes:=8) (by kernel_rfl) rfl rfl 3 rfl rfl a9 [iv (if (d * a.hi) < (d * a.lo) then (d * a.hi) else (d * a.lo))] rfl rfl (I.cells 0 (off:=0) rfl (fun j u h=>by rw [Nat.zero_add]; exact h)) (by simp [Value.oneCell']) (by omega) (by omega) (n2:=(f++[if (d * a.hi) < (d * a.lo) then (d * a.hi) else (d * a.lo)]).length) (kr rfl rfl) ?_)))))))))))))))))))))))
  intro V W aH w I X
  have X:Row 1 V ((f++[if (d * a.hi) < (d * a.lo) then (d * a.hi) else (d * a.lo)]).length) W aH (al dv (f++[if (d * a.hi) < (d * a.lo) then (d * a.hi) else (d * a.lo)])):=X.snoc _ rfl
  refine pu (slv V ((f++[if (d * a.hi) < (d * a.lo) then (d * a.hi) else (d * a.lo)]).length) W) (by kernel_rfl) (aa (rgn (by kernel_rfl) (pu3 (slv x g.length G) (iv (d * a.lo)) (iv (d * a.hi)) (by kernel_rfl) (pu (iv (if (d * a.hi) > (d * a.lo) then (d * a.hi) else (d * a.lo))) (by kernel_rfl) (ph (fu I [iv (if (d * a.hi) > (d * a.lo) then (d * a.hi) else (d * a.lo))] 3 (fun b=>slv (some b) 1 1) (by kernel_rfl) fun b9 w I=>gdE F (fun bA F=>ph (ks I Try.underlying52 (z:=iv 0) (k:=1) (bytes:=8) (by kernel_rfl) rfl rfl 5 rfl rfl aA [iv (if (d * a.hi) > (d * a.lo) then (d * a.hi) else (d * a.lo))] rfl rfl (I.cells 0 (off:=0) rfl (fun j u h=>by rw [Nat.zero_add]; exact h)) (by simp [Value.oneCell']) (by omega) (by omega) (n2:=(g++[if (d * a.hi) > (d * a.lo) then (d * a.hi) else (d * a.lo)]).length) (kr rfl rfl) ?_))))))))
  intro Y Z aI w I a0
  have a0:Row 1 Y ((g++[if (d * a.hi) > (d * a.lo) then (d * a.hi) else (d * a.lo)]).length) Z aI (al dv (g++[if (d * a.hi) > (d * a.lo) then (d * a.hi) else (d * a.lo)])):=a0.snoc _ rfl
  refine pu (slv Y ((g++[if (d * a.hi) > (d * a.lo) then (d * a.hi) else (d * a.lo)]).length) Z) (by kernel_rfl) (aa (rgn (by kernel_rfl) (ckE F (fun aS F=>ph (cj rfl rfl aS (pu (iv (e+1)) (by kernel_rfl) (aa (⟨rfl,m2,Nat.lt_succ_self _,⟨V,W,aH,Y,Z,aI,f++[if (d * a.hi) < (d * a.lo) then (d * a.hi) else (d * a.lo)],g++[if (d * a.hi) > (d * a.lo) then (d * a.hi) else (d * a.lo)],e+1,m2,⟨rfl,rfl,rfl,rfl,rfl,rfl,rfl,trivial⟩,I.pk [3,4,5] rfl rfl,(X.to rfl rfl),(a0.to rfl rfl),F,rfl⟩⟩))))))))
 intro ρ w hJ
 obtain ⟨q,C,Q,s,D,R,o,p,hag,I,a1,a2,F⟩:=hJ
 obtain ⟨ρ,rfl⟩:=hag.form; clear hag
 unfold F67j1 at F
 refine ab (rgn (by kernel_rfl) (pu (slv q o.length C) (by kernel_rfl) (bt F (fun aJ aT F=>ph (ac I 74 _ _ (by kernel_rfl) (L74 _ (q.map fun b=>⟨b,0,none⟩) C o (I.rowCells 1 rfl a1) (am rfl a1.big) (am rfl a1.cap) N _ aT) fun w I=>pu (slv s p.length D) (by kernel_rfl) (bt F (fun aK aU F=>ph (ac I 74 _ _ (by kernel_rfl) (L74 _ (s.map fun b=>⟨b,0,none⟩) D p (I.rowCells 2 rfl a2) (am rfl a2.big) (am rfl a2.cap) N _ aU) fun w I=>pu (.agg #[iv aJ,iv aK]) (by kernel_rfl) (ph (mb I 0 _ Try.sizeOf28 rfl rfl rfl rfl rfl rfl fun w I=>aa (aj ?_)))))))))))
 cases F
 exact ⟨_,Ret.c rfl rfl (ce I 0 2 [iv aJ,iv aK] Try.isAgg28 Try.sizeOf28 rfl rfl rfl),⟨rfl,I.below⟩⟩


theorem L68 (w0:World) (x:Option Addr) (y:Nat) (e:List Ch) (A:Option Addr) (q:Nat) (d:List Ce) (u:Nat) (G:List En) (K:Nat) (f:Int→Option Int) (b:Dr) (aC:bi w0 x (al eCh e)) (aD:e.length≤9223372036854775807) (aE:e.length≤y) (T:bi w0 A (al eCe d)) (aF:d.length≤9223372036854775807) (U:d.length≤q) (V:w0.heap[u]?=some (fp G K)) (aG:MOk G K) (W:∀ j,el G j=(f j).map (Value.int .i64)) (N:Nat) (r:List Int) (F:F68 N e d f b=some r):cc Try.prog 68 [.agg #[.slice x e.length y,.slice A d.length q,.map (some u)],.agg #[iv b.fr,iv b.to]] w0 fun v w=>∃ (z0:Option Nat) (z1:Nat) (z2:List Value),v=slv z0 r.length z1∧Inv [] w0 w [(z0,blk z2 3)]∧Row 1 z0 r.length z1 z2 (al dv r):=by
 refine az (n:=41) Try.func68 rfl Try.ntmps68 rfl ?_
 have I:=Inv.start w0
 unfold F68 at F
 refine ab (rgn (by kernel_rfl) (ph (ca I _ rfl fun i w I=>ph (ca I _ rfl fun L w I=>pu (.slice none 0 0) (by kernel_rfl) (aa (ab (rgn (by kernel_rfl) (pu2 (pt i) (pt i) (by kernel_rfl) (ph (ag I 1 (.slice x e.length y) Try.isAgg22 rfl rfl rfl (pu (iv ((e.length:Nat):Int)) (by kernel_rfl) (gdE F (fun M F=>gdE F (fun aH F=>ph (s_makeRowN I (enc:=dv) cy (by decide) ((0:Int)) Try.underlying52 (z:=iv 0) (k:=1) (bytes:=8) (by kernel_rfl) rfl ((e.length:Int)).toNat (congrArg (Value.int .i64) (Int.toNat_of_nonneg M).symm) (congrArg (Value.int .i64) (Int.toNat_of_nonneg M).symm) (by omega) (by decide) fun O X w I Y=>pu (slv (some O) ((List.replicate ((e.length:Int)).toNat (0:Int)).length) (((e.length:Int)).toNat)) (by kernel_rfl) (aa (ab (ab (rgn (by kernel_rfl) (pu2 (pt i) (.pointer (some ⟨i,1,none⟩)) (by kernel_rfl) (ph (ag I 2 (.slice A d.length q) Try.isAgg23 rfl rfl rfl (pu (pt L) (by kernel_rfl) (ph (ag I 1 (iv b.fr) Try.isAgg3 rfl rfl rfl (pu (.pointer (some ⟨L,1,none⟩)) (by kernel_rfl) (ph (ag I 1 (iv b.to) Try.isAgg3 rfl rfl rfl (ckE F (fun Z F=>ph (cj rfl rfl Z (gdE F (fun a0 F=>gdE F (fun a1 F=>gdE F (fun a2 F=>?_)))))))))))))))))))))))))))))))))))
 obtain ⟨a3,hC492,a4⟩:=cutA (enc:=eCe) (l:=d) (lo:=(b.fr).toNat) (hi:=(b.to+1).toNat) (c:=q) (k:=3) eCe_len T a2 U
 refine ph (a4 Try.underlying23 Try.sizeOf32 rfl (.inl (congrArg (fun z=>some (Value.int .i64 z)) (Int.toNat_of_nonneg a0).symm)) (.inl (congrArg (fun z=>some (Value.int .i64 z)) (Int.toNat_of_nonneg a1).symm)) (pu2 (iv ((((d.drop ((b.fr).toNat)).take ((b.to+1).toNat - ((b.fr).toNat))).length:Nat):Int)) (iv 0) (by kernel_rfl) (aa (au (cb (fun m ρ w=>∃ (o:Option Nat) (p:Nat) (B:List Value) (g:List Int) (s:Int) (mm:Nat),cd ρ [(2,pt i),(5,slv o g.length p),(21,.slice a3 (((d.drop ((b.fr).toNat)).take ((b.to+1).toNat - ((b.fr).toNat))).length) (q - ((b.fr).toNat))),(22,iv (((d.drop ((b.fr).toNat)).take ((b.to+1).toNat - ((b.fr).toNat))).length:Int)),(23,iv s)]∧Inv [] w0 w [(some i,blk [.slice x e.length y,.slice A d.length q,.map (some u)] 115),(o,blk B 3)]∧(Row 1 o (g.length) p B (al dv g))∧F68l1 d f b mm g s=some r∧mm=m) (m:=N) ⟨some O,((e.length:Int)).toNat,X,List.replicate ((e.length:Int)).toNat (0:Int),0,N,⟨rfl,rfl,rfl,rfl,rfl,trivial⟩,I.pk [2,0] rfl rfl,(Y.to rfl rfl),F,rfl⟩ ?_)))))
 rintro m ρ w ⟨o,p,B,g,s,mm,hag,I,C,F,hm⟩
 subst hm; obtain ⟨ρ,rfl⟩:=hag.form; clear hag
 obtain _ | m1:=mm
 ·cases (show (none:Option (List Int))=some r from F)
 replace F:F68b1 d f b (F68l1 d f b m1) g s=some r:=F; unfold F68b1 at F
 refine ab (rgn (by kernel_rfl) (ifN F (fun H F=>?_) (fun H F=>?_)))
 ·
  refine ph (cm rfl rfl (fun h=>absurd h H) (fun _=>aa (ab (ai rfl (bw (ab (rgn (by kernel_rfl) (pu2 (slv o g.length p) (slv o g.length p) (by kernel_rfl) (aa (aj ?_))))))))))
  cases F
  exact ⟨_,Ret.r1 rfl rfl,⟨o,p,B,rfl,I.pk [1] rfl rfl,C.to rfl rfl⟩⟩


 refine ph (cm rfl rfl (fun _=>?_) (fun h=>absurd H h))
 refine aa (ab (ah rfl (ak (ab (au (ab (rgn (by kernel_rfl) (gdE F (fun a5 F=>bt F (fun a P F=>?_))))))))))
 obtain ⟨aI,aJ,a6,a7,a8⟩:=hC492.at_ eCe_len (by decide) P
 refine ph (cn (s).toNat Try.underlying23 Try.sizeOf32 rfl a6 rfl (Int.toNat_of_nonneg a5).symm (fa P rfl) (ph (ef I [iv a.ch,iv a.ln,iv a.wo] Try.isAgg32 Try.sizeOf32 rfl rfl a7 (by simp) a8 (ph (bh I _ Try.zeroValue32 rfl fun J w I=>ph (mb I 0 _ Try.sizeOf32 rfl rfl rfl rfl rfl rfl fun w I=>aa (gm 12 I (by kernel_rfl) (zp2 (slv o g.length p) (.pointer (some ⟨i,2,none⟩)) (fun _=>(by kernel_rfl)) (zc (.map (some u)) (fun w I=>ag I 1 (.map (some u)) Try.isAgg113 rfl rfl rfl br) (zp (pt J) (fun _=>(by kernel_rfl)) (zc (iv a.ch) (fun w I=>ag I 0 (iv a.ch) Try.isAgg3 rfl rfl rfl br) (zc (iv ((f a.ch).getD 0)) (fun w I=>s_lookupB I (iv ((f a.ch).getD 0)) Try.underlying113 Try.underlying3 Try.zeroValue3 V (by simp) rfl rfl (getM_ok W _) br) (gdE F (fun Q F=>bt F (fun t D F=>?_)))))))))))))))
 obtain ⟨E,rfl,a9⟩:=C.at_ cy (by decide) D
 refine zc (.pointer (some ⟨E,(((f a.ch).getD 0).toNat) * 1,none⟩)) (fun w I=>be (((f a.ch).getD 0).toNat) Try.underlying52 Try.sizeOf3 rfl rfl (Int.toNat_of_nonneg Q).symm (fa D rfl) br) (zc (iv t) (fun w I=>s_loadR1 I 2 (iv t) Try.isAgg3 rfl rfl (a9 0 _ rfl) br) (zp (.pointer (some ⟨J,1,none⟩)) (fun _=>(by kernel_rfl)) (zc (iv a.ln) (fun w I=>ag I 0 (iv a.ln) Try.isAgg3 rfl rfl rfl br) (ckE F (fun aA F=>zc (iv (t+a.ln)) (fun w I=>cj rfl rfl aA br) (zc (.pointer (some ⟨E,(((f a.ch).getD 0).toNat) * 1,none⟩)) (fun w I=>be (((f a.ch).getD 0).toNat) Try.underlying52 Try.sizeOf3 rfl rfl (Int.toNat_of_nonneg Q).symm (fa D rfl) br) (zh (fun w I=>?_))))))))
 have:=fa D rfl
 refine ph (aq I 2 1 [iv (t+a.ln)] Try.sizeOf3 rfl rfl rfl rfl rfl (C.room (by omega)) ?_)
 intro w I
 have R:=C.put cy (by decide) (((f a.ch).getD 0).toNat) (t+a.ln) (by omega)
 obtain ⟨S,hcl⟩:∃ z,z=le B ((((f a.ch).getD 0).toNat) * 1) (dv (t+a.ln)):=⟨_,rfl⟩
 rw [← hcl] at R
 have I:Inv [] w0 w [(some J,blk [iv a.ch,iv a.ln,iv a.wo] 32),(some i,blk [.slice x e.length y,.slice A d.length q,.map (some u)] 115),(some E,blk S 3)]:=by rw [hcl]; exact I
 clear hcl
 refine aa (rgn (by kernel_rfl) (ckE F (fun aB F=>ph (cj rfl rfl aB (pu (iv (s+1)) (by kernel_rfl) (aa (⟨rfl,m1,Nat.lt_succ_self _,⟨some E,p,S,(g).set (((f a.ch).getD 0).toNat) (t+a.ln),s+1,m1,⟨rfl,(slv_n (km rfl)),rfl,rfl,rfl,trivial⟩,I.pk [1,2] rfl rfl,(R.to rfl (km rfl)),F,rfl⟩⟩)))))))
theorem L25 (w0:World) (f:Option Addr) (i:Nat) (d:List Ch) (l:Option Addr) (m:Nat) (e:List Ce) (a:Dr) (z:bi w0 f (al eCh d)) (A:d.length≤9223372036854775807) (B:d.length≤i) (C:bi w0 l (al eCe e)) (D:e.length≤9223372036854775807) (E:e.length≤m) (N:Nat) (r:(Int × Int × Int)) (F:F25 N d e a=some r):cc Try.prog 25 [.agg #[.slice f d.length i,.slice l e.length m],.agg #[iv a.fr,iv a.to]] w0 fun v w=>v=.tuple #[.agg #[iv r.1,iv r.2.1],iv r.2.2]∧Below w0.heap.size w0 w:=by
 refine az (n:=24) Try.func25 rfl Try.ntmps25 rfl ?_
 have I:=Inv.start w0
 unfold F25 at F
 refine ab (rgn (by kernel_rfl) (ph (ca I _ rfl fun S w I=>ph (ca I _ rfl fun K w I=>ph (bh I _ Try.zeroValue28 rfl fun G w I=>pu (iv 0) (by kernel_rfl) (aa (ab (rgn (by kernel_rfl) (ph (ma I 2 Try.isAgg25 Try.sizeOf25 rfl rfl rfl (ph (ma I 1 Try.isAgg49 Try.sizeOf49 rfl rfl rfl (ph (fu I [iv a.fr,iv a.to] 49 (fun b=>slv (some b) 1 1) (by kernel_rfl) fun H w I=>bindS3E F (fun Z T F=>?_) (fun a0 U F=>?_) (fun L V F=>?_)))))))))))))))
 ·
  refine ph (ac I 66 _ _ (by kernel_rfl) (L66 _ f i d l m e (some ⟨H,0,none⟩) 1 [(⟨a.fr,a.to⟩:Dr)] (z.inv0 I) A B (C.inv0 I) D E (I.cells 0 (off:=0) rfl (fun j u h=>by rw [Nat.zero_add]; exact h)) (qa rfl) (Nat.le_refl _) N _ T) fun w I=>pu3 (.tuple #[.agg #[.slice none 0 0,.slice none 0 0,.map none],iv 42]) (.agg #[.slice none 0 0,.slice none 0 0,.map none]) (iv 42) (by kernel_rfl) (ph (bh I _ Try.zeroValue115 rfl fun a1 w I=>ph (mb I 0 _ Try.sizeOf115 rfl rfl rfl rfl rfl rfl fun w I=>pu (iv 42) (by kernel_rfl) (aa (ab (ab (rgn (by kernel_rfl) (pu (iv 42) (by kernel_rfl) (ph (de rfl rfl (fun _=>?_) (fun h=>absurd h (by decide)))))))))))))
  refine aa (ah rfl (ab (rgn (by kernel_rfl) (pu2 (.agg #[iv 0,iv 0]) (iv 42) (by kernel_rfl) (ph (mb I 2 _ Try.sizeOf28 rfl rfl rfl rfl rfl rfl fun w I=>pu (iv 42) (by kernel_rfl) (aa (aj ?_))))))))
  cases F
  exact ⟨_,Ret.ct rfl rfl (ce I 2 2 [iv 0,iv 0] Try.isAgg28 Try.sizeOf28 rfl rfl rfl) rfl,⟨rfl,I.below⟩⟩
 ·
  refine ph (ac I 66 _ _ (by kernel_rfl) (L66 _ f i d l m e (some ⟨H,0,none⟩) 1 [(⟨a.fr,a.to⟩:Dr)] (z.inv0 I) A B (C.inv0 I) D E (I.cells 0 (off:=0) rfl (fun j u h=>by rw [Nat.zero_add]; exact h)) (qa rfl) (Nat.le_refl _) N _ U) fun w I=>pu3 (.tuple #[.agg #[.slice none 0 0,.slice none 0 0,.map none],iv 45]) (.agg #[.slice none 0 0,.slice none 0 0,.map none]) (iv 45) (by kernel_rfl) (ph (bh I _ Try.zeroValue115 rfl fun a2 w I=>ph (mb I 0 _ Try.sizeOf115 rfl rfl rfl rfl rfl rfl fun w I=>pu (iv 45) (by kernel_rfl) (aa (ab (ab (rgn (by kernel_rfl) (pu (iv 45) (by kernel_rfl) (ph (de rfl rfl (fun _=>?_) (fun h=>absurd h (by decide)))))))))))))
  refine aa (ah rfl (ab (rgn (by kernel_rfl) (pu2 (.agg #[iv 0,iv 0]) (iv 45) (by kernel_rfl) (ph (mb I 2 _ Try.sizeOf28 rfl rfl rfl rfl rfl rfl fun w I=>pu (iv 45) (by kernel_rfl) (aa (aj ?_))))))))
  cases F
  exact ⟨_,Ret.ct rfl rfl (ce I 2 2 [iv 0,iv 0] Try.isAgg28 Try.sizeOf28 rfl rfl rfl) rfl,⟨rfl,I.below⟩⟩
 refine ph (co 66 _ (by kernel_rfl) (L66 _ f i d l m e (some ⟨H,0,none⟩) 1 [(⟨a.fr,a.to⟩:Dr)] (z.inv0 I) A B (C.inv0 I) D E (I.cells 0 (off:=0) rfl (fun j u h=>by rw [Nat.zero_add]; exact h)) (qa rfl) (Nat.le_refl _) N _ V) ?_)
 rintro v w ⟨o,s,t,rfl,hN,M,O⟩
 have I:=I.join hN; clear hN
 refine pu3 (.tuple #[.agg #[.slice f d.length i,.slice l e.length m,.map (some o)],iv 0]) (.agg #[.slice f d.length i,.slice l e.length m,.map (some o)]) (iv 0) (by kernel_rfl) (ph (bh I _ Try.zeroValue115 rfl fun J w I=>ph (mb I 0 _ Try.sizeOf115 rfl rfl rfl rfl rfl rfl fun w I=>pu (iv 0) (by kernel_rfl) (aa (ab (ab (rgn (by kernel_rfl) (pu (iv 0) (by kernel_rfl) (ph (de rfl rfl (fun h=>absurd (by decide) h) (fun _=>aa (ai rfl (ak (ab (bt F (fun q W F=>bt F (fun p Y F=>wp_toks [tr (fun _=>(.agg #[.slice f d.length i,.slice l e.length m,.map (some o)])) [7],tr (fun _=>(.agg #[.slice f d.length i,.slice l e.length m,.map (some o)])) [7],tr (fun _=>(.agg #[iv a.fr,iv a.to])) [11],⟨fun y=>(slv ((y 3).g 0) q.length ((y 3).c 0)),fun y=>[(((y 3).g 0),blk ((y 3).cl 0) 3)],fun y=>(Row 1 ((y 3).g 0) q.length ((y 3).c 0) ((y 3).cl 0) (al dv q)),[],[8]⟩,tr (fun _=>(.agg #[iv p.1,iv p.2])) [3,8],tst (fun _=>[(some G,blk [iv p.1,iv p.2] 28)]) 10,tv (fun _=>(iv 0))] (fun _=>[(4,pt G),(5,iv 0)]) (fun y=>[(((y 3).g 0),blk ((y 3).cl 0) 3),(some G,blk [iv p.1,iv p.2] 28),(some J,blk [.slice f d.length i,.slice l e.length m,.map (some o)] 115),(some o,fp s t),(some H,blk [iv a.fr,iv a.to] 49),(some K,blk [iv a.fr,iv a.to] 49),(some S,blk [.slice f d.length i,.slice l e.length m] 25)]) I (by kernel_rfl) (fun y=>⟨(by kernel_rfl),(by kernel_rfl)⟩) (fun y=>?_) ?_)))))))))))))))))
 ·
  refine tl1 [(some J,blk [.slice f d.length i,.slice l e.length m,.map (some o)] 115)] rfl (by kernel_rfl) (fun X w I=>ma I 0 Try.isAgg115 Try.sizeOf115 rfl rfl rfl br) (tl1 [(some J,blk [.slice f d.length i,.slice l e.length m,.map (some o)] 115)] rfl (by kernel_rfl) (fun X w I=>ma I 0 Try.isAgg115 Try.sizeOf115 rfl rfl rfl br) (tl1 [(some K,blk [iv a.fr,iv a.to] 49)] rfl (by kernel_rfl) (fun X w I=>ma I 0 Try.isAgg49 Try.sizeOf49 rfl rfl rfl br) (tg (slv ((y 3).g 0) q.length ((y 3).c 0)) [(some o,fp s t)] [(some o,fp s t)] rfl ⟨(by kernel_rfl),(by kernel_rfl),(by kernel_rfl)⟩ ?_ ?_)))
  ·intro hp X w I
   refine co 68 _ (by kernel_rfl) (L68 _ f i d l m e o s t L a (z.inv0 I) A B (C.inv0 I) D E (I.has 0 _ _ rfl).1 M O N _ W) ?_
   rintro v w ⟨P,Q,R,rfl,hN,x⟩
   have I:=I.join hN; clear hN
   exact ⟨wit 0 [P] [Q] [R] [],(by kernel_rfl),Eq.mp (by kernel_rfl) x,I.castL (by kernel_rfl)⟩
  refine tl (.agg #[iv p.1,iv p.2]) [(((y 3).g 0),blk ((y 3).cl 0) 3),(some o,fp s t)] rfl ⟨(by kernel_rfl),(by kernel_rfl)⟩ ?_ ?_
  ·intro hp X w I
   have x:Row 1 ((y 3).g 0) q.length ((y 3).c 0) ((y 3).cl 0) (al dv q):=pg hp (k:=3) ⟨(by kernel_rfl),(by kernel_rfl)⟩
   exact co 67 [.agg #[.slice f d.length i,.slice l e.length m,.map (some o)],slv ((y 3).g 0) q.length ((y 3).c 0)] (by kernel_rfl) (L67 _ f i d l m e o s t L (((y 3).g 0).map fun b=>⟨b,0,none⟩) ((y 3).c 0) q (z.inv0 I) A B (C.inv0 I) D E (I.has 1 _ _ rfl).1 M O (I.rowCells 0 rfl x) (am rfl x.big) (am rfl x.cap) N _ Y) (fun v' w' h=>h)
  refine tS [(some G,blk [iv 0,iv 0] 28)] rfl ⟨(by kernel_rfl),(by kernel_rfl)⟩ (fun X w I=>aq I 0 2 [iv p.1,iv p.2] Try.sizeOf28 rfl rfl rfl rfl rfl (qa rfl) fun w I=>⟨rfl,I.castL (by kernel_rfl)⟩) (tp rfl (fun _=>(by kernel_rfl)) (tn))
 intro y hp ρ w hag I
 have x:Row 1 ((y 3).g 0) q.length ((y 3).c 0) ((y 3).cl 0) (al dv q):=pgl hp (k:=3) (by decide) (by kernel_rfl)
 clear hp
 generalize (y 3).g 0=P at *
 generalize (y 3).c 0=Q at *
 generalize (y 3).cl 0=R at *
 obtain ⟨ρ,rfl⟩:=hag.form; clear hag
 refine aj ?_
 cases F
 exact ⟨_,Ret.ct rfl rfl (ce I 1 2 [iv p.1,iv p.2] Try.isAgg28 Try.sizeOf28 rfl rfl rfl) rfl,⟨rfl,I.below⟩⟩


theorem L27 (w0:World) (f:Option Addr) (g:Nat) (a:List Ch) (i:Option Addr) (k:Nat) (d:List Ce) (l:Dr) (o:Dr) (A:bi w0 f (al eCh a)) (B:a.length≤9223372036854775807) (C:a.length≤g) (D:bi w0 i (al eCe d)) (E:d.length≤9223372036854775807) (G:d.length≤k) (N:Nat) (r:(Int × Int)) (F:F27 N a d l o=some r):cc Try.prog 27 [.agg #[.slice f a.length g,.slice i d.length k],.agg #[iv l.fr,iv l.to],.agg #[iv o.fr,iv o.to]] w0 fun v w=>v=.tuple #[iv r.1,iv r.2]∧Below w0.heap.size w0 w:=by
 refine az (n:=56) Try.func27 rfl Try.ntmps27 rfl ?_
 have I:=Inv.start w0
 unfold F27 at F
 refine ab (rgn (by kernel_rfl) (ph (ca I _ rfl fun aX w I=>ph (ca I _ rfl fun aY w I=>ph (ca I _ rfl fun aZ w I=>pu2 (iv 0) (iv 0) (by kernel_rfl) (aa (ab (rgn (by kernel_rfl) (ph (ma I 2 Try.isAgg25 Try.sizeOf25 rfl rfl rfl (ph (ma I 1 Try.isAgg49 Try.sizeOf49 rfl rfl rfl (ph (ma I 0 Try.isAgg49 Try.sizeOf49 rfl rfl rfl (ph (fu I [iv l.fr,iv l.to,iv o.fr,iv o.to] 49 (fun b=>slv (some b) 2 2) (by kernel_rfl) fun X w I=>bindS3E F (fun b0 aH F=>?_) (fun b1 aI F=>?_) (fun t aJ F=>?_)))))))))))))))))
 ·
  refine ph (ac I 66 _ _ (by kernel_rfl) (L66 _ f g a i k d (some ⟨X,0,none⟩) 2 [(⟨l.fr,l.to⟩:Dr),(⟨o.fr,o.to⟩:Dr)] (A.inv0 I) B C (D.inv0 I) E G (I.cells 0 (off:=0) rfl (fun j u h=>by rw [Nat.zero_add]; exact h)) (qa rfl) (Nat.le_refl _) N _ aH) fun w I=>pu3 (.tuple #[.agg #[.slice none 0 0,.slice none 0 0,.map none],iv 42]) (.agg #[.slice none 0 0,.slice none 0 0,.map none]) (iv 42) (by kernel_rfl) (ph (bh I _ Try.zeroValue115 rfl fun b2 w I=>ph (mb I 0 _ Try.sizeOf115 rfl rfl rfl rfl rfl rfl fun w I=>pu (iv 42) (by kernel_rfl) (aa (ab (ab (rgn (by kernel_rfl) (pu (iv 42) (by kernel_rfl) (ph (de rfl rfl (fun _=>?_) (fun h=>absurd h (by decide)))))))))))))
  refine aa (ah rfl (ab (rgn (by kernel_rfl) (pu3 (iv 42) (iv 0) (iv 42) (by kernel_rfl) (aa (aj ?_))))))
  cases F
  exact ⟨_,Ret.r2 rfl rfl rfl,⟨rfl,I.below⟩⟩
 ·
  refine ph (ac I 66 _ _ (by kernel_rfl) (L66 _ f g a i k d (some ⟨X,0,none⟩) 2 [(⟨l.fr,l.to⟩:Dr),(⟨o.fr,o.to⟩:Dr)] (A.inv0 I) B C (D.inv0 I) E G (I.cells 0 (off:=0) rfl (fun j u h=>by rw [Nat.zero_add]; exact h)) (qa rfl) (Nat.le_refl _) N _ aI) fun w I=>pu3 (.tuple #[.agg #[.slice none 0 0,.slice none 0 0,.map none],iv 45]) (.agg #[.slice none 0 0,.slice none 0 0,.map none]) (iv 45) (by kernel_rfl) (ph (bh I _ Try.zeroValue115 rfl fun b3 w I=>ph (mb I 0 _ Try.sizeOf115 rfl rfl rfl rfl rfl rfl fun w I=>pu (iv 45) (by kernel_rfl) (aa (ab (ab (rgn (by kernel_rfl) (pu (iv 45) (by kernel_rfl) (ph (de rfl rfl (fun _=>?_) (fun h=>absurd h (by decide)))))))))))))
  refine aa (ah rfl (ab (rgn (by kernel_rfl) (pu3 (iv 45) (iv 0) (iv 45) (by kernel_rfl) (aa (aj ?_))))))
  cases F
  exact ⟨_,Ret.r2 rfl rfl rfl,⟨rfl,I.below⟩⟩
 refine ph (co 66 _ (by kernel_rfl) (L66 _ f g a i k d (some ⟨X,0,none⟩) 2 [(⟨l.fr,l.to⟩:Dr),(⟨o.fr,o.to⟩:Dr)] (A.inv0 I) B C (D.inv0 I) E G (I.cells 0 (off:=0) rfl (fun j u h=>by rw [Nat.zero_add]; exact h)) (qa rfl) (Nat.le_refl _) N _ aJ) ?_)
 rintro v w ⟨p,H,J,rfl,hN,Y,Z⟩
 have I:=I.join hN; clear hN
 refine pu3 (.tuple #[.agg #[.slice f a.length g,.slice i d.length k,.map (some p)],iv 0]) (.agg #[.slice f a.length g,.slice i d.length k,.map (some p)]) (iv 0) (by kernel_rfl) (ph (bh I _ Try.zeroValue115 rfl fun O w I=>ph (mb I 0 _ Try.sizeOf115 rfl rfl rfl rfl rfl rfl fun w I=>pu (iv 0) (by kernel_rfl) (aa (ab (ab (rgn (by kernel_rfl) (pu (iv 0) (by kernel_rfl) (ph (de rfl rfl (fun h=>absurd (by decide) h) (fun _=>aa (ai rfl (ak (ab (rgn (by kernel_rfl) (ph (ma I 0 Try.isAgg115 Try.sizeOf115 rfl rfl rfl (ph (ma I 4 Try.isAgg49 Try.sizeOf49 rfl rfl rfl (bt F (fun a6 aK F=>ph (co 68 _ (by kernel_rfl) (L68 _ f g a i k d p H J t l (A.inv0 I) B C (D.inv0 I) E G (I.has 1 _ _ rfl).1 Y Z N _ aK) ?_))))))))))))))))))))))
 rintro v w ⟨a7,a8,aL,rfl,hN,aM⟩
 have I:=I.join hN; clear hN
 refine pu (slv a7 a6.length a8) (by kernel_rfl) (aa (dn (fun ρ w=>∃ (K:Option Nat) (P:Nat) (a0:List Value) (x:List Int),cd ρ [(8,pt O),(10,slv K x.length P)]∧Inv [] w0 w [(some O,blk [.slice f a.length g,.slice i d.length k,.map (some p)] 115),(some p,fp H J),(K,blk a0 3)]∧(Row 1 K (x.length) P a0 (al dv x))∧F27j1 a d N t x=some r) ?_ ?_))
 ·
  refine ab (rgn (by kernel_rfl) (ph (ma I 1 Try.isAgg115 Try.sizeOf115 rfl rfl rfl (ph (ma I 4 Try.isAgg49 Try.sizeOf49 rfl rfl rfl (bt F (fun s aN F=>ph (co 68 _ (by kernel_rfl) (L68 _ f g a i k d p H J t o (A.inv0 I) B C (D.inv0 I) E G (I.has 2 _ _ rfl).1 Y Z N _ aN) ?_))))))))
  rintro v w ⟨aO,aP,aQ,rfl,hN,aR⟩
  have I:=I.join hN; clear hN
  refine pu2 (iv ((s.length:Nat):Int)) (iv 0) (by kernel_rfl) (aa (au (cb (fun m ρ w=>∃ (L:Option Nat) (M:Nat) (Q:List Value) (T:Option Nat) (U:Nat) (R:List Value) (q:List Int) (e:Int) (mm:Nat),cd ρ [(8,pt O),(10,slv L q.length M),(30,slv T s.length U),(31,iv (s.length:Int)),(32,iv e)]∧Inv [] w0 w [(some O,blk [.slice f a.length g,.slice i d.length k,.map (some p)] 115),(some p,fp H J),(L,blk Q 3),(T,blk R 3)]∧(Row 1 L (q.length) M Q (al dv q))∧(Row 1 T (s.length) U R (al dv s))∧F27l2 a d N t s mm q e=some r∧mm=m) (m:=N) ⟨a7,a8,aL,aO,aP,aQ,a6,0,N,⟨rfl,rfl,rfl,rfl,rfl,trivial⟩,I.pk [2,3,1,0] rfl rfl,(aM.to rfl rfl),(aR.to rfl rfl),F,rfl⟩ ?_)))
  rintro m ρ w ⟨L,M,Q,T,U,R,q,e,mm,hag,I,V,a9,F,hm⟩
  subst hm; obtain ⟨ρ,rfl⟩:=hag.form; clear hag
  obtain _ | m2:=mm
  ·cases (show (none:Option (Int × Int))=some r from F)
  replace F:F27b2 a d N t s (F27l2 a d N t s m2) q e=some r:=F; unfold F27b2 at F
  refine ab (rgn (by kernel_rfl) (ifN F (fun a1 F=>?_) (fun a1 F=>?_)))
  ·
   refine ph (cm rfl rfl (fun h=>absurd h a1) (fun _=>aa (ab (ai rfl (bw (.inl ⟨rfl,⟨L,M,Q,q,⟨rfl,rfl,trivial⟩,I.pk [0,1,2] rfl rfl,(V.to rfl rfl),F⟩⟩))))))
  refine ph (cm rfl rfl (fun _=>?_) (fun h=>absurd a1 h))
  refine aa (ab (ah rfl (ak (ab (au (ab (rgn (by kernel_rfl) (pu (iv e) (by kernel_rfl) (gdE F (fun a2 F=>bt F (fun y aA F=>?_)))))))))))
  obtain ⟨aB,rfl,aS⟩:=a9.at_ cy (by decide) aA
  refine ph (be (e).toNat Try.underlying52 Try.sizeOf3 rfl rfl (Int.toNat_of_nonneg a2).symm (fa aA rfl) (ph (s_loadR1 I 3 (iv y) Try.isAgg3 rfl rfl (aS 0 _ rfl) (pu2 (iv e) (iv y) (by kernel_rfl) (aa (rgn (by kernel_rfl) (pu2 (slv L q.length M) (iv e) (by kernel_rfl) (bt F (fun S W F=>?_)))))))))
  obtain ⟨aC,rfl,aT⟩:=V.at_ cy (by decide) W
  refine ph (be (e).toNat Try.underlying52 Try.sizeOf3 rfl rfl (Int.toNat_of_nonneg a2).symm (fa W rfl) (ph (s_loadR1 I 2 (iv S) Try.isAgg3 rfl rfl (aT 0 _ rfl) (pu (iv y) (by kernel_rfl) (ckE F (fun aU F=>ph (dm rfl rfl aU (ph (be (e).toNat Try.underlying52 Try.sizeOf3 rfl rfl (Int.toNat_of_nonneg a2).symm (fa W rfl) ?_)))))))))
  have:=fa W rfl
  refine ph (aq I 2 1 [iv (S - y)] Try.sizeOf3 rfl rfl rfl rfl rfl (V.room (by omega)) ?_)
  intro w I
  have aD:=V.put cy (by decide) (e).toNat (S - y) (by omega)
  obtain ⟨aE,hcl⟩:∃ z,z=le Q ((e).toNat * 1) (dv (S - y)):=⟨_,rfl⟩
  rw [← hcl] at aD
  have I:Inv [] w0 w [(some O,blk [.slice f a.length g,.slice i d.length k,.map (some p)] 115),(some p,fp H J),(some aC,blk aE 3),(some aB,blk R 3)]:=by rw [hcl]; exact I
  clear hcl
  refine aa (rgn (by kernel_rfl) (ckE F (fun aV F=>ph (cj rfl rfl aV (pu (iv (e+1)) (by kernel_rfl) (aa (⟨rfl,m2,Nat.lt_succ_self _,⟨some aC,M,aE,some aB,U,R,(q).set (e).toNat (S - y),e+1,m2,⟨rfl,(slv_n (km rfl)),rfl,rfl,rfl,trivial⟩,I.pk [0,1,2,3] rfl rfl,(aD.to rfl (km rfl)),(a9.to rfl rfl),F,rfl⟩⟩)))))))
 intro ρ w hJ
 obtain ⟨K,P,a0,x,hag,I,a3,F⟩:=hJ
 obtain ⟨ρ,rfl⟩:=hag.form; clear hag
 unfold F27j1 at F
 refine ab (rgn (by kernel_rfl) (ph (ma I 0 Try.isAgg115 Try.sizeOf115 rfl rfl rfl (pu (slv K x.length P) (by kernel_rfl) (bt F (fun aF aW F=>ph (ac I 67 _ _ (by kernel_rfl) (L67 _ f g a i k d p H J t (K.map fun b=>⟨b,0,none⟩) P x (A.inv0 I) B C (D.inv0 I) E G (I.has 1 _ _ rfl).1 Y Z (I.rowCells 2 rfl a3) (am rfl a3.big) (am rfl a3.cap) N _ aW) fun w I=>ph (bh I _ Try.zeroValue28 rfl fun aG w I=>ph (mb I 0 _ Try.sizeOf28 rfl rfl rfl rfl rfl rfl fun w I=>aa (ab (au (ab (rgn (by kernel_rfl) (pu (pt aG) (by kernel_rfl) (ph (ag I 0 (iv aF.1) Try.isAgg3 rfl rfl rfl (ifE F (fun a4 F=>?_) (fun a4 F=>?_))))))))))))))))))
 ·
  refine ph (fh rfl rfl (fun _=>?_) (fun h=>absurd a4 h))
  refine pu bT (by kernel_rfl) (aa (ah rfl (ab (rgn (by kernel_rfl) (pu2 (iv 1) (iv 0) (by kernel_rfl) (aa (aj ?_)))))))
  cases F
  exact ⟨_,Ret.r2 rfl rfl rfl,⟨rfl,I.below⟩⟩
 refine ph (fh rfl rfl (fun h=>absurd h a4) (fun _=>pu bF (by kernel_rfl) (aa (ai rfl (ab (rgn (by kernel_rfl) (pu (.pointer (some ⟨aG,1,none⟩)) (by kernel_rfl) (ph (ag I 0 (iv aF.2) Try.isAgg3 rfl rfl rfl (ifE F (fun a5 F=>?_) (fun a5 F=>?_)))))))))))
 ·
  refine ph (fq rfl rfl (fun _=>?_) (fun h=>absurd a5 h))
  refine pu bT (by kernel_rfl) (aa (ah rfl (ab (rgn (by kernel_rfl) (pu2 (iv 0) (iv 0) (by kernel_rfl) (aa (aj ?_)))))))
  cases F
  exact ⟨_,Ret.r2 rfl rfl rfl,⟨rfl,I.below⟩⟩
 refine ph (fq rfl rfl (fun h=>absurd h a5) (fun _=>pu bF (by kernel_rfl) (aa (ai rfl (ak (ab (rgn (by kernel_rfl) (pu2 (iv 2) (iv 0) (by kernel_rfl) (aa (aj ?_))))))))))
 cases F
 exact ⟨_,Ret.r2 rfl rfl rfl,⟨rfl,I.below⟩⟩


theorem L100 (w0:World) (a:Int) (r:Bool) (F:F100 a=some r):cc Try.prog 100 [iv a] w0 fun v w=>v=.bool r∧Below w0.heap.size w0 w:=by
 refine az (n:=6) Try.func100 rfl Try.ntmps100 rfl ?_
 have I:=Inv.start w0
 unfold F100 at F
 refine ab (rgn (by kernel_rfl) (pu bF (by kernel_rfl) (aa (ab (rgn (by kernel_rfl) (pu2 (iv a) (iv a) (by kernel_rfl) (ph (de rfl rfl (fun h=>absurd rfl h) (fun _=>pu bF (by kernel_rfl) (aa (aj ?_)))))))))))
 cases F
 exact ⟨_,Ret.r1 rfl rfl,⟨rfl,I.below⟩⟩


theorem L93 (w0:World) (a:Int) (b:Int) (r:Int) (F:F93 a b=some r):cc Try.prog 93 [iv a,iv b] w0 fun v w=>v=iv r∧Below w0.heap.size w0 w:=by
 refine az (n:=20) Try.func93 rfl Try.ntmps93 rfl ?_
 have I:=Inv.start w0
 unfold F93 at F
 refine ab (rgn (by kernel_rfl) (pu (iv 0) (by kernel_rfl) (aa (dn (fun ρ w=>∃ (xNaN_13:Bool),cd ρ [(0,iv a),(1,iv b),(5,.bool xNaN_13)]∧Inv [] w0 w []∧F93j1 a b xNaN_13=some r) ?_ ?_))))
 ·
  refine rgn (by kernel_rfl) (pu (iv a) (by kernel_rfl) (bt F (fun k i F=>ifE F (fun d F=>?_) (fun d F=>?_))))
  ·
   refine ph (ac I 100 _ _ (by kernel_rfl) (cc.mono (L100 _ a _ i) (fun v' w' h=>⟨h.1.trans (congrArg Value.bool d),h.2⟩)) fun w I=>pu bT (by kernel_rfl) (aa (.inl ⟨rfl,⟨true,⟨rfl,rfl,rfl,trivial⟩,I.pk [] rfl rfl,F⟩⟩)))
  refine ph (ac I 100 _ _ (by kernel_rfl) (cc.mono (L100 _ a _ i) (fun v' w' h=>⟨h.1.trans (congrArg Value.bool (Bool.eq_false_iff.2 d)),h.2⟩)) fun w I=>pu bF (by kernel_rfl) (aa (.inl ⟨rfl,⟨false,⟨rfl,rfl,rfl,trivial⟩,I.pk [] rfl rfl,F⟩⟩)))
 intro ρ w hJ
 obtain ⟨xNaN_13,hag,I,F⟩:=hJ
 obtain ⟨ρ,rfl⟩:=hag.form; clear hag
 unfold F93j1 at F
 refine dn (fun ρ w=>∃ (yNaN_16:Bool),cd ρ [(0,iv a),(1,iv b),(5,.bool xNaN_13),(6,.bool yNaN_16)]∧Inv [] w0 w []∧F93j2 a b xNaN_13 yNaN_16=some r) ?_ ?_
 ·
  refine rgn (by kernel_rfl) (pu (iv b) (by kernel_rfl) (bt F (fun l j F=>ifE F (fun e F=>?_) (fun e F=>?_))))
  ·
   refine ph (ac I 100 _ _ (by kernel_rfl) (cc.mono (L100 _ b _ j) (fun v' w' h=>⟨h.1.trans (congrArg Value.bool e),h.2⟩)) fun w I=>pu bT (by kernel_rfl) (aa (.inl ⟨rfl,⟨true,⟨rfl,rfl,rfl,rfl,trivial⟩,I.pk [] rfl rfl,F⟩⟩)))
  refine ph (ac I 100 _ _ (by kernel_rfl) (cc.mono (L100 _ b _ j) (fun v' w' h=>⟨h.1.trans (congrArg Value.bool (Bool.eq_false_iff.2 e)),h.2⟩)) fun w I=>pu bF (by kernel_rfl) (aa (.inl ⟨rfl,⟨false,⟨rfl,rfl,rfl,rfl,trivial⟩,I.pk [] rfl rfl,F⟩⟩)))
 intro ρ w hJ
 obtain ⟨yNaN_16,hag,I,F⟩:=hJ
 obtain ⟨ρ,rfl⟩:=hag.form; clear hag
 unfold F93j2 at F
 refine ab (ab ?_)
 have hG:=F; rcases Bool.eq_false_or_eq_true xNaN_13 with rfl | rfl
 ·
  have F:=hG; clear hG
  refine ifE F (fun _ F=>?_) (fun h=>absurd rfl h)
  refine rgn (by kernel_rfl) (pu bT (by kernel_rfl) (aa (ah rfl (ab (ab ?_)))))
  have hG:=F; rcases Bool.eq_false_or_eq_true yNaN_16 with rfl | rfl
  ·
   have F:=hG; clear hG
   refine ifE F (fun _ F=>?_) (fun h=>absurd rfl h)
   refine rgn (by kernel_rfl) (pu bT (by kernel_rfl) (aa (ah rfl (ab (rgn (by kernel_rfl) (pu (iv 0) (by kernel_rfl) (aa (aj ?_))))))))
   cases F
   exact ⟨_,Ret.r1 rfl rfl,⟨rfl,I.below⟩⟩
  have F:=hG; clear hG
  refine ifE F (fun h=>absurd h (by decide)) (fun _ F=>rgn (by kernel_rfl) (pu bF (by kernel_rfl) (aa (ai rfl (ak (ab (rgn (by kernel_rfl) (pu (iv (-1)) (by kernel_rfl) (aa (aj ?_))))))))))
  cases F
  exact ⟨_,Ret.r1 rfl rfl,⟨rfl,I.below⟩⟩
 have F:=hG; clear hG
 refine ifE F (fun h=>absurd h (by decide)) (fun _ F=>rgn (by kernel_rfl) (pu bF (by kernel_rfl) (aa (ai rfl (ak (ab (ab ?_)))))))
 have hG:=F; rcases Bool.eq_false_or_eq_true yNaN_16 with rfl | rfl
 ·
  have F:=hG; clear hG
  refine ifE F (fun _ F=>?_) (fun h=>absurd rfl h)
  refine rgn (by kernel_rfl) (pu bT (by kernel_rfl) (aa (ah rfl (ab (rgn (by kernel_rfl) (pu (iv 1) (by kernel_rfl) (aa (aj ?_))))))))
  cases F
  exact ⟨_,Ret.r1 rfl rfl,⟨rfl,I.below⟩⟩
 have F:=hG; clear hG
 refine ifE F (fun h=>absurd h (by decide)) (fun _ F=>rgn (by kernel_rfl) (pu bF (by kernel_rfl) (aa (ai rfl (ak (ab (ab (rgn (by kernel_rfl) (pu2 (iv a) (iv b) (by kernel_rfl) (ifE F (fun f F=>?_) (fun f F=>?_)))))))))))
 ·
  refine ph (cm rfl rfl (fun _=>?_) (fun h=>absurd f h))
  refine aa (ah rfl (ab (rgn (by kernel_rfl) (pu (iv (-1)) (by kernel_rfl) (aa (aj ?_))))))
  cases F
  exact ⟨_,Ret.r1 rfl rfl,⟨rfl,I.below⟩⟩
 refine ph (cm rfl rfl (fun h=>absurd h f) (fun _=>aa (ai rfl (ak (ab (ab (rgn (by kernel_rfl) (pu2 (iv a) (iv b) (by kernel_rfl) (ifE F (fun g F=>?_) (fun g F=>?_))))))))))
 ·
  refine ph (fh rfl rfl (fun _=>?_) (fun h=>absurd g h))
  refine aa (ah rfl (ab (rgn (by kernel_rfl) (pu (iv 1) (by kernel_rfl) (aa (aj ?_))))))
  cases F
  exact ⟨_,Ret.r1 rfl rfl,⟨rfl,I.below⟩⟩
 refine ph (fh rfl rfl (fun h=>absurd h g) (fun _=>aa (ai rfl (ak (ab (rgn (by kernel_rfl) (pu (iv 0) (by kernel_rfl) (aa (aj ?_)))))))))
 cases F
 exact ⟨_,Ret.r1 rfl rfl,⟨rfl,I.below⟩⟩


theorem L79 (w0:World) (a:Gn) (b:Gn) (r:Int) (F:F79 a b=some r):cc Try.prog 79 [.agg #[iv a.num,iv a.den],.agg #[iv b.num,iv b.den]] w0 fun v w=>v=iv r∧Below w0.heap.size w0 w:=by
 refine az (n:=16) Try.func79 rfl Try.ntmps79 rfl ?_
 have I:=Inv.start w0
 unfold F79 at F
 refine ab (rgn (by kernel_rfl) (ph (ca I _ rfl fun b7 w I=>ph (ca I _ rfl fun b8 w I=>pu (iv 0) (by kernel_rfl) (aa (ab (rgn (by kernel_rfl) (pu (pt b7) (by kernel_rfl) (ph (ag I 1 (iv a.num) Try.isAgg3 rfl rfl rfl (pu (.pointer (some ⟨b8,1,none⟩)) (by kernel_rfl) (ph (ag I 0 (iv b.den) Try.isAgg3 rfl rfl rfl (ckE F (fun h7 F=>ph (s_mul rfl rfl h7 (pu (pt b8) (by kernel_rfl) (ph (ag I 0 (iv b.num) Try.isAgg3 rfl rfl rfl (pu (.pointer (some ⟨b7,1,none⟩)) (by kernel_rfl) (ph (ag I 1 (iv a.den) Try.isAgg3 rfl rfl rfl (ckE F (fun h8 F=>ph (s_mul rfl rfl h8 (bt F (fun d e F=>ph (ac I 93 _ _ (by kernel_rfl) (L93 _ (a.num * b.den) (b.num * a.den) _ e) fun w I=>pu (iv d) (by kernel_rfl) (aa (aj ?_))))))))))))))))))))))))))))))
 cases F
 exact ⟨_,Ret.r1 rfl rfl,⟨rfl,I.below⟩⟩


theorem L76 (w0:World) (C:Option Addr) (D:Nat) (o:List Ch) (q:Option Addr) (s:Nat) (e:List Ce) (E:Nat) (G:List En) (Q:Nat) (R:Int→Option Int) (d:Dr) (a5:bi w0 C (al eCh o)) (a6:o.length≤9223372036854775807) (a7:o.length≤D) (V:bi w0 q (al eCe e)) (a8:e.length≤9223372036854775807) (a9:e.length≤s) (aA:w0.heap[E]?=some (fp G Q)) (aB:MOk G Q) (aC:∀ j,el G j=(R j).map (Value.int .i64)) (N:Nat) (r:Int) (F:F76 N o e R d=some r):cc Try.prog 76 [.agg #[.slice C o.length D,.slice q e.length s,.map (some E)],.agg #[iv d.fr,iv d.to]] w0 fun v w=>v=iv r∧Below w0.heap.size w0 w:=by
 refine az (n:=35) Try.func76 rfl Try.ntmps76 rfl ?_
 have I:=Inv.start w0
 unfold F76 at F
 refine ab (rgn (by kernel_rfl) (ph (ca I _ rfl fun g w I=>ph (ca I _ rfl fun t w I=>pu (iv 0) (by kernel_rfl) (aa (ab (rgn (by kernel_rfl) (pu (.slice none 0 0) (by kernel_rfl) (aa (dn (fun ρ w=>∃ (x:Option Nat) (A:Nat) (H:List Value) (p:List Int),cd ρ [(5,slv x p.length A)]∧Inv [] w0 w [(x,blk H 3)]∧(Row 1 x (p.length) A H (al dv p))∧F76j1 N p=some r) ?_ ?_))))))))))
 ·
  refine ab (rgn (by kernel_rfl) (pu (pt t) (by kernel_rfl) (ph (ag I 0 (iv d.fr) Try.isAgg3 rfl rfl rfl (pu (iv d.fr) (by kernel_rfl) (aa (au ?_)))))))
  have I:=I.nilRow 3
  refine cb (fun m ρ w=>∃ (i:Option Nat) (y:Nat) (B:List Value) (a:List Int) (f:Int) (mm:Nat),cd ρ [(2,pt g),(3,pt t),(5,slv i a.length y),(6,iv f)]∧Inv [] w0 w [(some g,blk [.slice C o.length D,.slice q e.length s,.map (some E)] 115),(some t,blk [iv d.fr,iv d.to] 49),(i,blk B 3)]∧(Row 1 i (a.length) y B (al dv a))∧F76l2 e d N mm a f=some r∧mm=m) (m:=N) ⟨none,0,[],[],d.fr,N,⟨rfl,rfl,rfl,rfl,trivial⟩,I.pk [2,1,0] rfl rfl,(Row.nil_ 1),F,rfl⟩ ?_
  rintro m ρ w ⟨i,y,B,a,f,mm,hag,I,S,F,hm⟩
  subst hm; obtain ⟨ρ,rfl⟩:=hag.form; clear hag
  obtain _ | m2:=mm
  ·cases (show (none:Option Int)=some r from F)
  replace F:F76b2 e d N (F76l2 e d N m2) a f=some r:=F; unfold F76b2 at F
  refine ab (dn (fun ρ w=>cd ρ [(2,pt g),(3,pt t),(5,slv i a.length y),(6,iv f),(20,bF)]∧Inv [] w0 w [(some g,blk [.slice C o.length D,.slice q e.length s,.map (some E)] 115),(some t,blk [iv d.fr,iv d.to] 49),(i,blk B 3)]∧F76j3 N a=some r) ?_ ?_)
  ·
   refine rgn (by kernel_rfl) (pu2 (iv f) (.pointer (some ⟨t,1,none⟩)) (by kernel_rfl) (ph (ag I 1 (iv d.to) Try.isAgg3 rfl rfl rfl (ifN F (fun J F=>?_) (fun J F=>?_)))))
   ·
    refine ph (fq rfl rfl (fun h=>absurd h J) (fun _=>pu bF (by kernel_rfl) (sf 6 (by kernel_rfl) (pu bF (by kernel_rfl) (aa (.inl ⟨rfl,⟨⟨rfl,rfl,rfl,rfl,rfl,trivial⟩,I.pk [0,1,2] rfl rfl,F⟩⟩))))))
   refine ph (fq rfl rfl (fun _=>?_) (fun h=>absurd J h))
   refine pu bT (by kernel_rfl) (pup (iv f) (by kernel_rfl) (pup (pt g) (by kernel_rfl) (pup (.pointer (some ⟨g,1,none⟩)) (by kernel_rfl) (aw (by kernel_rfl) (ag I 0 (.slice q e.length s) Try.isAgg23 rfl rfl rfl (pup (iv ((e.length:Nat):Int)) (by kernel_rfl) (ifN F (fun K F=>?_) (fun K F=>?_))))))))
   ·
    refine aw (by kernel_rfl) (cm rfl rfl (fun h=>absurd h K) (fun _=>pu bF (by kernel_rfl) (aa (.inl ⟨rfl,⟨⟨rfl,rfl,rfl,rfl,rfl,trivial⟩,I.pk [0,1,2] rfl rfl,F⟩⟩))))
   refine aw (by kernel_rfl) (cm rfl rfl (fun _=>?_) (fun h=>absurd K h))
   refine pu bT (by kernel_rfl) (aa (.inr (ah rfl (ak (ab (au (rgn (by kernel_rfl) (pu3 (slv i a.length y) (pt g) (.pointer (some ⟨g,1,none⟩)) (by kernel_rfl) (ph (ag I 0 (.slice q e.length s) Try.isAgg23 rfl rfl rfl (pu (iv f) (by kernel_rfl) (gdE F (fun W F=>bt F (fun l T F=>?_))))))))))))))
   obtain ⟨X,Y,Z,a0,a1⟩:=V.at_ eCe_len (by decide) T
   refine ph (cn (f).toNat Try.underlying23 Try.sizeOf32 rfl Z rfl (Int.toNat_of_nonneg W).symm (fa T rfl) (pu (.pointer (some ⟨X,Y+(f).toNat * 3+2,none⟩)) (by kernel_rfl) (ph (dj I (iv l.wo) Try.isAgg3 rfl a0 (by simp) (a1 2 _ rfl) (ph (fu I [iv l.wo] 3 (fun b=>slv (some b) 1 1) (by kernel_rfl) fun aD w I=>gdE F (fun aE F=>ph (ks I Try.underlying52 (z:=iv 0) (k:=1) (bytes:=8) (by kernel_rfl) rfl rfl 3 rfl rfl S [iv l.wo] rfl rfl (I.cells 0 (off:=0) rfl (fun j u h=>by rw [Nat.zero_add]; exact h)) (by simp [Value.oneCell']) (by omega) (by omega) (n2:=(a++[l.wo]).length) (kr rfl rfl) ?_))))))))
   intro L M U w I O
   have O:Row 1 L ((a++[l.wo]).length) M U (al dv (a++[l.wo])):=O.snoc _ rfl
   refine pu (slv L ((a++[l.wo]).length) M) (by kernel_rfl) (aa (rgn (by kernel_rfl) (pu (iv f) (by kernel_rfl) (ckE F (fun a2 F=>ph (cj rfl rfl a2 (pu (iv (f+1)) (by kernel_rfl) (aa (⟨rfl,m2,Nat.lt_succ_self _,⟨L,M,U,a++[l.wo],f+1,m2,⟨rfl,rfl,rfl,rfl,trivial⟩,I.pk [1,2,3] rfl rfl,(O.to rfl rfl),F,rfl⟩⟩)))))))))
  intro ρ w hJ
  obtain ⟨hag,I,F⟩:=hJ
  obtain ⟨ρ,rfl⟩:=hag.form; clear hag
  unfold F76j3 at F
  refine ai rfl (bw (.inl ⟨rfl,⟨i,y,B,a,⟨rfl,trivial⟩,I.pk [2] rfl rfl,(S.to rfl rfl),F⟩⟩))
 intro ρ w hJ
 obtain ⟨x,A,H,p,hag,I,P,F⟩:=hJ
 obtain ⟨ρ,rfl⟩:=hag.form; clear hag
 unfold F76j1 at F
 refine ab (rgn (by kernel_rfl) (pu (slv x p.length A) (by kernel_rfl) (bt F (fun a3 a4 F=>ph (ac I 74 _ _ (by kernel_rfl) (L74 _ (x.map fun b=>⟨b,0,none⟩) A p (I.rowCells 0 rfl P) (am rfl P.big) (am rfl P.cap) N _ a4) fun w I=>pu (iv a3) (by kernel_rfl) (aa (aj ?_)))))))
 cases F
 exact ⟨_,Ret.r1 rfl rfl,⟨rfl,I.below⟩⟩


theorem L105 (w0:World) (d:Int) (e:Int) (N:Nat) (r:Int) (F:F105 N d e=some r):cc Try.prog 105 [iv d,iv e] w0 fun v w=>v=iv r∧Below w0.heap.size w0 w:=by
 refine az (n:=12) Try.func105 rfl Try.ntmps105 rfl ?_
 have I:=Inv.start w0
 unfold F105 at F
 refine ab (rgn (by kernel_rfl) (pu (iv 0) (by kernel_rfl) (aa (ab (au (cb (fun m ρ w=>∃ (b:Int) (a:Int) (mm:Nat),cd ρ [(0,iv b),(1,iv a)]∧Inv [] w0 w []∧F105l1 mm b a=some r∧mm=m) (m:=N) ⟨d,e,N,⟨rfl,rfl,trivial⟩,I.pk [] rfl rfl,F,rfl⟩ ?_))))))
 rintro m ρ w ⟨b,a,mm,hag,I,F,hm⟩
 subst hm; obtain ⟨ρ,rfl⟩:=hag.form; clear hag
 obtain _ | m1:=mm
 ·cases (show (none:Option Int)=some r from F)
 replace F:F105b1 (F105l1 m1) b a=some r:=F; unfold F105b1 at F
 refine ab (ab (rgn (by kernel_rfl) (pu (iv a) (by kernel_rfl) (ifE F (fun f F=>?_) (fun f F=>?_)))))
 ·
  refine ph (de rfl rfl (fun h=>absurd f h) (fun _=>aa (ai rfl (bw (ab (rgn (by kernel_rfl) (pu2 (iv b) (iv b) (by kernel_rfl) (aa (aj ?_)))))))))
  cases F
  exact ⟨_,Ret.r1 rfl rfl,⟨rfl,I.below⟩⟩
 refine ph (de rfl rfl (fun _=>?_) (fun h=>absurd h f))
 refine aa (ah rfl (ak (au (gm 6 I (by kernel_rfl) (zp2 (iv a) (iv b) (fun _=>(by kernel_rfl)) (zp (iv a) (fun _=>(by kernel_rfl)) (gdE F (fun g F=>zc (iv (b.tmod a)) (fun w I=>s_rem rfl rfl g br) (zp2 (iv a) (iv (b.tmod a)) (fun _=>(by kernel_rfl)) (zh (fun w I=>aa (⟨rfl,m1,Nat.lt_succ_self _,⟨a,b.tmod a,m1,⟨rfl,rfl,trivial⟩,I.pk [] rfl rfl,F,rfl⟩⟩))))))))))))


theorem L101 (w0:World) (a:Int) (b:Int) (N:Nat) (r:(Int × Int)) (F:F101 N a b=some r):cc Try.prog 101 [iv a,iv b] w0 fun v w=>v=.agg #[iv r.1,iv r.2]∧Below w0.heap.size w0 w:=by
 refine az (n:=16) Try.func101 rfl Try.ntmps101 rfl ?_
 have I:=Inv.start w0
 unfold F101 at F
 refine ab (rgn (by kernel_rfl) (ph (bh I _ Try.zeroValue136 rfl fun b6 w I=>aa (ab (rgn (by kernel_rfl) (pu2 (iv a) (iv b) (by kernel_rfl) (bt F (fun y9 e F=>ph (ac I 105 _ _ (by kernel_rfl) (L105 _ a b N _ e) fun w I=>pu (iv y9) (by kernel_rfl) (aa (ab (gm 7 I (by kernel_rfl) (zp2 (iv a) (iv y9) (fun _=>(by kernel_rfl)) (gdE F (fun d F=>ckE F (fun f F=>zc (iv (a.tdiv y9)) (fun w I=>s_quo rfl rfl d f br) (zp2 (iv b) (iv y9) (fun _=>(by kernel_rfl)) (ckE F (fun g F=>zc (iv (b.tdiv y9)) (fun w I=>s_quo rfl rfl d g br) (zp (.agg #[iv (a.tdiv y9),iv (b.tdiv y9)]) (fun _=>(by kernel_rfl)) (zh (fun w I=>ph (mb I 0 _ Try.sizeOf136 rfl rfl rfl rfl rfl rfl fun w I=>aa (aj ?_))))))))))))))))))))))))
 cases F
 exact ⟨_,Ret.c rfl rfl (ce I 0 2 [iv (a.tdiv y9),iv (b.tdiv y9)] Try.isAgg136 Try.sizeOf136 rfl rfl rfl),⟨rfl,I.below⟩⟩


theorem L94 (w0:World) (f:Option Addr) (g:Nat) (b:List Ch) (i:Option Addr) (k:Nat) (d:List Ce) (l:Nat) (m:List En) (p:Nat) (q:Int→Option Int) (a:Cl) (e:Dr) (t:bi w0 f (al eCh b)) (u:b.length≤9223372036854775807) (x:b.length≤g) (y:bi w0 i (al eCe d)) (z:d.length≤9223372036854775807) (A:d.length≤k) (B:w0.heap[l]?=some (fp m p)) (C:MOk m p) (D:∀ j,el m j=(q j).map (Value.int .i64)) (N:Nat) (r:(Int × Int)) (F:F94 N b d q a e=some r):cc Try.prog 94 [.agg #[.slice f b.length g,.slice i d.length k,.map (some l)],.agg #[iv a.fam,iv a.hd,iv a.fr,iv a.to],.agg #[iv e.fr,iv e.to]] w0 fun v w=>v=.agg #[iv r.1,iv r.2]∧Below w0.heap.size w0 w:=by
 refine az (n:=13) Try.func94 rfl Try.ntmps94 rfl ?_
 have I:=Inv.start w0
 unfold F94 at F
 refine ab (rgn (by kernel_rfl) (ph (ca I _ rfl fun J w I=>ph (ca I _ rfl fun E w I=>ph (ca I _ rfl fun K w I=>ph (bh I _ Try.zeroValue136 rfl fun L w I=>aa (ab (gm 6 I (by kernel_rfl) (zc (.agg #[.slice f b.length g,.slice i d.length k,.map (some l)]) (fun w I=>ma I 3 Try.isAgg115 Try.sizeOf115 rfl rfl rfl br) (zc (.agg #[iv e.fr,iv e.to]) (fun w I=>ma I 1 Try.isAgg49 Try.sizeOf49 rfl rfl rfl br) (bt F (fun s G F=>zc (iv s) (fun w I=>co 76 [.agg #[.slice f b.length g,.slice i d.length k,.map (some l)],.agg #[iv e.fr,iv e.to]] (by kernel_rfl) (L76 _ f g b i k d l m p q e (t.inv0 I) u x (y.inv0 I) z A (I.at0 (B)) C D N _ G) (fun v' w' h=>h)) (zp (.pointer (some ⟨E,1,none⟩)) (fun _=>(by kernel_rfl)) (zc (iv a.hd) (fun w I=>ag I 2 (iv a.hd) Try.isAgg3 rfl rfl rfl br) (bt F (fun o H F=>zc (.agg #[iv o.1,iv o.2]) (fun w I=>co 101 [iv s,iv a.hd] (by kernel_rfl) (L101 _ s a.hd N _ H) (fun v' w' h=>h)) (zh (fun w I=>ph (mb I 0 _ Try.sizeOf136 rfl rfl rfl rfl rfl rfl fun w I=>aa (aj ?_))))))))))))))))))))
 cases F
 exact ⟨_,Ret.c rfl rfl (ce I 0 2 [iv o.1,iv o.2] Try.isAgg136 Try.sizeOf136 rfl rfl rfl),⟨rfl,I.below⟩⟩


theorem L96 (w0:World) (H:Option Addr) (J:Nat) (o:List Ch) (K:Option Addr) (L:Nat) (p:List Ce) (M:Nat) (a5:List En) (aE:Nat) (x:Int→Option Int) (O:Option Addr) (P:Nat) (q:List Cl) (g:Gn) (aY:bi w0 H (al eCh o)) (aZ:o.length≤9223372036854775807) (b0:o.length≤J) (b1:bi w0 K (al eCe p)) (b2:p.length≤9223372036854775807) (b3:p.length≤L) (b4:w0.heap[M]?=some (fp a5 aE)) (b5:MOk a5 aE) (b6:∀ j,el a5 j=(x j).map (Value.int .i64)) (aR:bi w0 O (al eCl q)) (bZ:q.length≤9223372036854775807) (c0:q.length≤P) (N:Nat) (r:(List Dr × List Int × Bool)) (F:F96 N o p x q g=some r):cc Try.prog 96 [.agg #[.slice H o.length J,.slice K p.length L,.map (some M),.slice O q.length P],.agg #[iv g.num,iv g.den]] w0 fun v w=>∃ (z0:Option Nat) (z1:Nat) (z2:List Value) (z3:Option Nat) (z4:Nat) (z5:List Value),v=.agg #[slv z0 r.1.length z1,slv z3 r.2.1.length z4,.bool r.2.2]∧Inv [] w0 w [(z0,blk z2 49),(z3,blk z5 3)]∧Row 2 z0 r.1.length z1 z2 (al eDr r.1)∧Row 1 z3 r.2.1.length z4 z5 (al dv r.2.1):=by
 refine az (n:=32) Try.func96 rfl Try.ntmps96 rfl ?_
 have I:=Inv.start w0
 unfold F96 at F
 refine ab (rgn (by kernel_rfl) (ph (ca I _ rfl fun A w I=>ph (ca I _ rfl fun Q w I=>ph (bh I _ Try.zeroValue164 rfl fun a0 w I=>aa (ab (rgn (by kernel_rfl) (pu (.pointer (some ⟨A,3,none⟩)) (by kernel_rfl) (ph (ag I 2 (.slice O q.length P) Try.isAgg26 rfl rfl rfl (bt F (fun S aS F=>?_))))))))))))
 obtain ⟨b7,b8,b9,bA,bB⟩:=aR.at_ eb (by decide) aS
 refine ph (cn 0 Try.underlying26 Try.sizeOf34 rfl b9 rfl rfl (fa aS rfl) (pu (.pointer (some ⟨b7,b8+0 * 4+2,none⟩)) (by kernel_rfl) (ph (dj I (iv S.fr) Try.isAgg3 rfl bA (by simp) (bB 2 _ rfl) (ph (fu I [iv S.fr] 3 (fun b=>slv (some b) 1 1) (by kernel_rfl) fun aF w I=>pu (.agg #[.slice none 0 0,.slice (some ⟨aF,0,none⟩) 1 1,bF]) (by kernel_rfl) (ph (bh I _ Try.zeroValue164 rfl fun s w I=>ph (mb I 0 _ Try.sizeOf164 rfl rfl rfl rfl rfl rfl fun w I=>aa (ab (rgn (by kernel_rfl) (pu2 (.func (.func 102) #[] #[pt s,pt A,pt Q]) (.func (.func 102) #[] #[pt s,pt A,pt Q]) (by kernel_rfl) (aa (ab (ab (rgn (by kernel_rfl) (pu (.pointer (some ⟨A,3,none⟩)) (by kernel_rfl) (ph (ag I 4 (.slice O q.length P) Try.isAgg26 rfl rfl rfl (pu2 (iv ((q.length:Nat):Int)) (iv 0) (by kernel_rfl) (aa (au ?_))))))))))))))))))))))
 have bC:Row 1 (some aF) 1 1 [iv S.fr] (al dv [S.fr]):=Row.lit cy (l:=[S.fr]) rfl (qa rfl)
 have I:=I.nilRow 49
 refine cb (fun m ρ w=>∃ (E:Option Nat) (R:Nat) (V:List Value) (G:Option Nat) (B:Nat) (a1:List Value) (t:List Dr) (e:List Int) (C:Int) (mm:Nat),cd ρ [(4,pt a0),(5,pt s),(6,.func (.func 102) #[] #[pt s,pt A,pt Q]),(18,.slice O q.length P),(19,iv (q.length:Int)),(20,iv C)]∧Inv [] w0 w [(some a0,blk [.slice none 0 0,.slice none 0 0,bF] 164),(some s,blk [slv E t.length R,slv G e.length B,bF] 164),(E,blk V 49),(G,blk a1 3),(some A,blk [.slice H o.length J,.slice K p.length L,.map (some M),.slice O q.length P] 120),(some Q,blk [iv g.num,iv g.den] 136)]∧(Row 2 E (t.length) R V (al eDr t))∧(Row 1 G (e.length) B a1 (al dv e))∧F96l1 o p x q g N mm t e C=some r∧mm=m) (m:=N) ⟨none,0,[],some aF,1,[iv S.fr],[],[S.fr],0,N,⟨rfl,rfl,rfl,rfl,rfl,rfl,trivial⟩,I.pk [3,1,0,2,5,4] rfl rfl,(Row.nil_ 2),(bC.to rfl rfl),F,rfl⟩ ?_
 rintro m ρ w ⟨E,R,V,G,B,a1,t,e,C,mm,hag,I,aG,a6,F,hm⟩
 subst hm; obtain ⟨ρ,rfl⟩:=hag.form; clear hag
 obtain _ | m1:=mm
 ·cases (show (none:Option (List Dr × List Int × Bool))=some r from F)
 replace F:F96b1 o p x q g N (F96l1 o p x q g N m1) t e C=some r:=F; unfold F96b1 at F
 refine ab (rgn (by kernel_rfl) (ifN F (fun aH F=>?_) (fun aH F=>?_)))
 ·
  refine ph (cm rfl rfl (fun h=>absurd h aH) (fun _=>aa (ab (ai rfl (bw (ab (rgn (by kernel_rfl) (pu (.pointer (some ⟨s,2,none⟩)) (by kernel_rfl) (ph (aq I 1 1 [bT] Try.sizeOf4 rfl rfl rfl rfl rfl (qa rfl) fun w I=>aa (ab (rgn (by kernel_rfl) (ph (ma I 1 Try.isAgg164 Try.sizeOf164 rfl rfl rfl (ph (mb I 0 _ Try.sizeOf164 rfl rfl rfl rfl rfl rfl fun w I=>aa (aj ?_)))))))))))))))))
  cases F
  exact ⟨_,Ret.c rfl rfl (ce I 0 3 [slv E t.length R,slv G e.length B,bT] Try.isAgg164 Try.sizeOf164 rfl rfl rfl),⟨E,R,V,G,B,a1,rfl,I.pk [2,3] rfl rfl,aG.to rfl rfl,a6.to rfl rfl⟩⟩


 refine ph (cm rfl rfl (fun _=>?_) (fun h=>absurd aH h))
 refine aa (ab (ah rfl (ak (ab (au (ab (rgn (by kernel_rfl) (gdE F (fun bD F=>bt F (fun a aT F=>?_))))))))))
 obtain ⟨c1,c2,bE,bG,bH⟩:=aR.at_ eb (by decide) aT
 refine ph (cn (C).toNat Try.underlying26 Try.sizeOf34 rfl bE rfl (Int.toNat_of_nonneg bD).symm (fa aT rfl) (ph (ef I [iv a.fam,iv a.hd,iv a.fr,iv a.to] Try.isAgg34 Try.sizeOf34 rfl rfl bG (by simp) bH (ph (bh I _ Try.zeroValue34 rfl fun bI w I=>ph (mb I 0 _ Try.sizeOf34 rfl rfl rfl rfl rfl rfl fun w I=>aa (dn (fun ρ w=>∃ (a2:Option Nat) (a7:Nat) (a8:List Value) (a3:Option Nat) (a9:Nat) (aA:List Value) (X:List Dr) (Y:List Int),cd ρ [(4,pt a0),(5,pt s),(6,.func (.func 102) #[] #[pt s,pt A,pt Q]),(18,.slice O q.length P),(19,iv (q.length:Int)),(20,iv C),(27,bF)]∧Inv [] w0 w [(some a0,blk [.slice none 0 0,.slice none 0 0,bF] 164),(some s,blk [slv a2 X.length a7,slv a3 Y.length a9,bF] 164),(a2,blk a8 49),(a3,blk aA 3),(some A,blk [.slice H o.length J,.slice K p.length L,.map (some M),.slice O q.length P] 120),(some Q,blk [iv g.num,iv g.den] 136)]∧(Row 2 a2 (X.length) a7 a8 (al eDr X))∧(Row 1 a3 (Y.length) a9 aA (al dv Y))∧F96j2 (F96l1 o p x q g N m1) C X Y=some r) ?_ ?_)))))))
 ·
  refine rgn (by kernel_rfl) (pu (.func (.func 102) #[] #[pt s,pt A,pt Q]) (by kernel_rfl) (ph (ma I 0 Try.isAgg34 Try.sizeOf34 rfl rfl rfl (ph (s_callI 102 [.agg #[iv a.fam,iv a.hd,iv a.fr,iv a.to],pt s,pt A,pt Q] (by kernel_rfl) (az (n:=57) Try.func102 rfl Try.ntmps102 rfl (ab (rgn (by kernel_rfl) (ph (ca I _ rfl fun aB w I=>ph (bh I _ Try.zeroValue4 rfl fun bJ w I=>aa (ab (gm 12 I (by kernel_rfl) (zp (.pointer (some ⟨s,1,none⟩)) (fun _=>(by kernel_rfl)) (zc (slv G e.length B) (fun w I=>ag I 4 (slv G e.length B) Try.isAgg52 rfl rfl rfl br) (zp (.pointer (some ⟨s,1,none⟩)) (fun _=>(by kernel_rfl)) (zc (slv G e.length B) (fun w I=>ag I 4 (slv G e.length B) Try.isAgg52 rfl rfl rfl br) (zc (iv (e.length:Int)) (fun w I=>kl (iv ((e.length:Nat):Int)) (by kernel_rfl) br) (ckE F (fun bK F=>zc (iv ((e.length:Int) - 1)) (fun w I=>dm rfl rfl bK br) (gdE F (fun bL F=>bt F (fun d aU F=>?_)))))))))))))))))))))))
  obtain ⟨a4,rfl,bM⟩:=a6.at_ cy (by decide) aU
  refine zc (.pointer (some ⟨a4,(((e.length:Int) - 1).toNat) * 1,none⟩)) (fun w I=>be (((e.length:Int) - 1).toNat) Try.underlying52 Try.sizeOf3 rfl rfl (Int.toNat_of_nonneg bL).symm (fa aU rfl) br) (zc (iv d) (fun w I=>s_loadR1 I 6 (iv d) Try.isAgg3 rfl rfl (bM 0 _ rfl) br) (zp (.pointer (some ⟨aB,2,none⟩)) (fun _=>(by kernel_rfl)) (zc (iv a.fr) (fun w I=>ag I 1 (iv a.fr) Try.isAgg3 rfl rfl rfl br) (zp2 (iv (if a.fr > d then a.fr else d)) (iv (if a.fr > d then a.fr else d)) (fun _=>(by kernel_rfl)) (zh (fun w I=>aa (ab (ab (rgn (by kernel_rfl) (pu2 (iv (if a.fr > d then a.fr else d)) (.pointer (some ⟨aB,3,none⟩)) (by kernel_rfl) (ph (ag I 1 (iv a.to) Try.isAgg3 rfl rfl rfl (ph (s_callI 103 [iv (if a.fr > d then a.fr else d),iv a.to] (by kernel_rfl) (az (n:=6) Try.func103 rfl Try.ntmps103 rfl (ab (rgn (by kernel_rfl) (ph (ca I _ rfl fun T w I=>ph (ca I _ rfl fun U w I=>pu (.nilFunc) (by kernel_rfl) (aa (ab (rgn (by kernel_rfl) (pu2 (.func (.func 106) #[] #[pt T,pt U]) (.func (.func 106) #[] #[pt T,pt U]) (by kernel_rfl) (aa (aj (⟨.func (.func 106) #[] #[pt T,pt U],Ret.r1 rfl rfl,?_⟩)))))))))))))))))))))))))))
  refine aa (au (wp_rangeFunc I (first := #[]) (cap := #[pt T,pt U]) rfl 106 (fun y=>[y,pt T,pt U]) (fun l W=>by kernel_rfl) fun rcq45361 lqq45361 w hpsq45361 hasq45361 hboq45361 hofq45361 I=>az (n:=17) Try.func106 rfl Try.ntmps106 rfl (ab (rgn (by kernel_rfl) (ph (ag I 3 (iv (if a.fr > d then a.fr else d)) Try.isAgg3 rfl rfl rfl (pu (iv (if a.fr > d then a.fr else d)) (by kernel_rfl) (aa (au (cb (fun m ρ w=>∃ (f:Int) (mm:Nat),cd ρ [(0,yfn lqq45361),(1,pt T),(2,pt U),(4,iv f)]∧Inv [] w0 w [(some lqq45361,rcq45361.at .ready none),(some T,blk [iv (if a.fr > d then a.fr else d)] 3),(some U,blk [iv a.to] 3),(some a0,blk [.slice none 0 0,.slice none 0 0,bF] 164),(some s,blk [slv E t.length R,slv (some a4) e.length B,bF] 164),(E,blk V 49),(some a4,blk a1 3),(some A,blk [.slice H o.length J,.slice K p.length L,.map (some M),.slice O q.length P] 120),(some Q,blk [iv g.num,iv g.den] 136),(some bI,blk [iv a.fam,iv a.hd,iv a.fr,iv a.to] 34),(some rcq45361.defers,.deferred (some [])),(some aB,blk [iv a.fam,iv a.hd,iv a.fr,iv a.to] 34),(some bJ,blk [bF] 4)]∧F96l3 o p x g N (F96l1 o p x q g N m1) t e C a d mm f=some r∧mm=m) (m:=N) ⟨if a.fr > d then a.fr else d,N,⟨rfl,rfl,rfl,rfl,trivial⟩,I.pk [0,3,2,7,8,9,10,11,12,6,1,5,4] rfl rfl,F,rfl⟩ ?_))))))))))
  rintro m ρ w ⟨f,mm,hag,I,F,hm⟩
  subst hm; obtain ⟨ρ,rfl⟩:=hag.form; clear hag
  obtain _ | m3:=mm
  ·cases (show (none:Option (List Dr × List Int × Bool))=some r from F)
  replace F:F96b3 o p x g N (F96l1 o p x q g N m1) t e C a d (F96l3 o p x g N (F96l1 o p x q g N m1) t e C a d m3) f=some r:=F; unfold F96b3 at F
  refine ab (ab (rgn (by kernel_rfl) (pu (iv f) (by kernel_rfl) (ph (ag I 2 (iv a.to) Try.isAgg3 rfl rfl rfl (ifN F (fun aI F=>?_) (fun aI F=>?_)))))))
  ·
   refine ph (fq rfl rfl (fun h=>absurd h aI) (fun _=>aa (ai rfl (bw (⟨.tuple #[],Ret.r0 rfl,?_⟩)))))
   refine ⟨_,.inl ⟨I.pk [0,1,2,3,4,5,6,7,8,9,10,11,12] rfl rfl,fun w I=>?_⟩⟩
   refine ab (rgn (by kernel_rfl) (pu (.pointer (some ⟨s,1,none⟩)) (by kernel_rfl) (ph (ag I 4 (slv (some a4) e.length B) Try.isAgg52 rfl rfl rfl (pu2 (iv (if a.fr > d then a.fr else d)) (.pointer (some ⟨aB,3,none⟩)) (by kernel_rfl) (ph (ag I 11 (iv a.to) Try.isAgg3 rfl rfl rfl (ckE F (fun bN F=>ph (cj rfl rfl bN (pu (iv (if (a.to+1) > (if a.fr > d then a.fr else d) then (a.to+1) else (if a.fr > d then a.fr else d))) (by kernel_rfl) (ckE F (fun bO F=>ph (cj rfl rfl bO (ph (fu I [iv ((if (a.to+1) > (if a.fr > d then a.fr else d) then (a.to+1) else (if a.fr > d then a.fr else d))+1)] 3 (fun b=>slv (some b) 1 1) (by kernel_rfl) fun c4 w I=>gdE F (fun c5 F=>ph (ks I Try.underlying52 (z:=iv 0) (k:=1) (bytes:=8) (by kernel_rfl) rfl rfl 7 rfl rfl a6 [iv ((if (a.to+1) > (if a.fr > d then a.fr else d) then (a.to+1) else (if a.fr > d then a.fr else d))+1)] rfl rfl (I.cells 0 (off:=0) rfl (fun j u h=>by rw [Nat.zero_add]; exact h)) (by simp [Value.oneCell']) (by omega) (by omega) (n2:=(e++[(if (a.to+1) > (if a.fr > d then a.fr else d) then (a.to+1) else (if a.fr > d then a.fr else d))+1]).length) (kr rfl rfl) ?_))))))))))))))))))
   intro aC aD aV w I aJ
   have aJ:Row 1 aC ((e++[(if (a.to+1) > (if a.fr > d then a.fr else d) then (a.to+1) else (if a.fr > d then a.fr else d))+1]).length) aD aV (al dv (e++[(if (a.to+1) > (if a.fr > d then a.fr else d) then (a.to+1) else (if a.fr > d then a.fr else d))+1])):=aJ.snoc _ rfl
   refine pu (.pointer (some ⟨s,1,none⟩)) (by kernel_rfl) (ph (aq I 5 1 [slv aC ((e++[(if (a.to+1) > (if a.fr > d then a.fr else d) then (a.to+1) else (if a.fr > d then a.fr else d))+1]).length) aD] Try.sizeOf52 rfl rfl rfl rfl rfl (qa rfl) fun w I=>aa (ab (rgn (by kernel_rfl) (ph (mb I 13 _ Try.sizeOf4 rfl rfl rfl rfl rfl rfl fun w I=>aa (aj (LeaveE.mark (D:=rcq45361.defers) (I.pk [11,0,1,2,3,4,5,6,7,8,9,10,12,13] rfl rfl) fun w I=>⟨bF,Ret.c rfl rfl (bv (I.cell (i:=12) rfl rfl) Try.isAgg4),?_⟩))))))))
   refine pu bT (by kernel_rfl) (aa (.inr (ah rfl (ab (rgn (by kernel_rfl) (ph (ma I 5 Try.isAgg164 Try.sizeOf164 rfl rfl rfl (ph (mb I 4 _ Try.sizeOf164 rfl rfl rfl rfl rfl rfl fun w I=>aa (aj ?_))))))))))
   cases F
   exact ⟨_,Ret.c rfl rfl (ce I 4 3 [slv E t.length R,slv aC ((e++[(if (a.to+1) > (if a.fr > d then a.fr else d) then (a.to+1) else (if a.fr > d then a.fr else d))+1]).length) aD,bF] Try.isAgg164 Try.sizeOf164 rfl rfl rfl),⟨E,R,V,aC,aD,aV,rfl,I.pk [6,7] rfl rfl,aG.to rfl rfl,aJ.to rfl rfl⟩⟩
  refine ph (fq rfl rfl (fun _=>?_) (fun h=>absurd aI h))
  refine aa (ah rfl (ak (ab (au (ab (rgn (by kernel_rfl) (pu (yfn lqq45361) (by kernel_rfl) (ph (ag I 1 (iv (if a.fr > d then a.fr else d)) Try.isAgg3 rfl rfl rfl (pu2 (iv f) (.agg #[iv (if a.fr > d then a.fr else d),iv f]) (by kernel_rfl) (ph (s_callVI (fv:=yfn lqq45361) [.agg #[iv (if a.fr > d then a.fr else d),iv f]] rfl (by kernel_rfl) ?_))))))))))))
  have I:=I.pk [0,1,2,3,4,5,6,7,8,9,10,11,12] rfl rfl
  refine callV_yield I hofq45361 [23] hpsq45361 rfl (by decide) ?_
  rw [hasq45361]
  refine rgn (by kernel_rfl) (ph (bh I _ Try.zeroValue49 rfl fun bP w I=>ph (mb I 0 _ Try.sizeOf49 rfl rfl rfl rfl rfl rfl fun w I=>aa (⟨rfl,_,I.pk [1,0,2,3,4,5,6,7,8,9,10,11,12,13] rfl rfl,?_⟩))))
  intro w I
  rw [hboq45361]
  refine au (ab (gm 8 I (by kernel_rfl) (zp (pt A) (fun _=>(by kernel_rfl)) (zc (.agg #[.slice H o.length J,.slice K p.length L,.map (some M)]) (fun w I=>ar I 8 3 [.slice H o.length J,.slice K p.length L,.map (some M)] Try.isAgg115 Try.sizeOf115 rfl rfl rfl rfl br) (zc (.agg #[iv a.fam,iv a.hd,iv a.fr,iv a.to]) (fun w I=>ma I 12 Try.isAgg34 Try.sizeOf34 rfl rfl rfl br) (zc (.agg #[iv (if a.fr > d then a.fr else d),iv f]) (fun w I=>ma I 1 Try.isAgg49 Try.sizeOf49 rfl rfl rfl br) (bt F (fun Z bQ F=>zc (.agg #[iv Z.1,iv Z.2]) (fun w I=>co 94 [.agg #[.slice H o.length J,.slice K p.length L,.map (some M)],.agg #[iv a.fam,iv a.hd,iv a.fr,iv a.to],.agg #[iv (if a.fr > d then a.fr else d),iv f]] (by kernel_rfl) (L94 _ H J o K L p M a5 aE x a (⟨if a.fr > d then a.fr else d,f⟩:Dr) (aY.inv0 I) aZ b0 (b1.inv0 I) b2 b3 (I.at0 (b4)) b5 b6 N _ bQ) (fun v' w' h=>h)) (zc (.agg #[iv g.num,iv g.den]) (fun w I=>ma I 9 Try.isAgg136 Try.sizeOf136 rfl rfl rfl br) (bt F (fun bR bS F=>zc (iv bR) (fun w I=>co 79 [.agg #[iv Z.1,iv Z.2],.agg #[iv g.num,iv g.den]] (by kernel_rfl) (L79 _ (⟨Z.1,Z.2⟩:Gn) g _ bS) (fun v' w' h=>h)) (ifN F (fun aK F=>?_) (fun aK F=>?_)))))))))))))
  ·
   refine zc bF (fun w I=>fh rfl rfl (fun h=>absurd h aK) (fun _=>br)) (zh (fun w I=>aa (ai rfl (ak (⟨_,I.pk [0,1,2,3,4,5,6,7,8,9,10,11,12,13] rfl rfl,fun w I=>?_⟩)))))
   refine pu bF (by kernel_rfl) (aa (ai rfl (ak (rgn (by kernel_rfl) (pu (iv f) (by kernel_rfl) (ckE F (fun bU F=>ph (cj rfl rfl bU (pu (iv (f+1)) (by kernel_rfl) (aa (⟨rfl,m3,Nat.lt_succ_self _,⟨f+1,m3,⟨rfl,rfl,rfl,rfl,trivial⟩,I.pk [0,2,3,4,5,6,7,8,9,10,11,12,13] rfl rfl,F,rfl⟩⟩)))))))))))
  refine zc bT (fun w I=>fh rfl rfl (fun _=>br) (fun h=>absurd aK h)) (zh (fun w I=>aa (ah rfl (ab (rgn (by kernel_rfl) (pu (pt s) (by kernel_rfl) (ph (ag I 5 (slv E t.length R) Try.isAgg63 rfl rfl rfl (ph (ma I 1 Try.isAgg49 Try.sizeOf49 rfl rfl rfl (ph (fu I [iv (if a.fr > d then a.fr else d),iv f] 49 (fun b=>slv (some b) 1 1) (by kernel_rfl) fun c6 w I=>gdE F (fun c7 F=>ph (ks I Try.underlying63 (z:=.agg #[iv 0,iv 0]) (k:=2) (bytes:=16) (by kernel_rfl) rfl rfl 7 rfl rfl aG [iv (if a.fr > d then a.fr else d),iv f] rfl rfl (I.cells 0 (off:=0) rfl (fun j u h=>by rw [Nat.zero_add]; exact h)) (by simp [Value.oneCell']) (by omega) (by omega) (n2:=(t++[(⟨if a.fr > d then a.fr else d,f⟩:Dr)]).length) (kr rfl rfl) ?_))))))))))))))
  intro aL aM aW w I aN
  have aN:Row 2 aL ((t++[(⟨if a.fr > d then a.fr else d,f⟩:Dr)]).length) aM aW (al eDr (t++[(⟨if a.fr > d then a.fr else d,f⟩:Dr)])):=aN.snoc _ rfl
  refine pu (pt s) (by kernel_rfl) (ph (aq I 6 1 [slv aL ((t++[(⟨if a.fr > d then a.fr else d,f⟩:Dr)]).length) aM] Try.sizeOf63 rfl rfl rfl rfl rfl (qa rfl) fun w I=>aa (ab (rgn (by kernel_rfl) (pu (.pointer (some ⟨s,1,none⟩)) (by kernel_rfl) (ph (ag I 6 (slv (some a4) e.length B) Try.isAgg52 rfl rfl rfl (pu (.pointer (some ⟨bP,1,none⟩)) (by kernel_rfl) (ph (ag I 2 (iv f) Try.isAgg3 rfl rfl rfl (ckE F (fun bV F=>ph (cj rfl rfl bV (ph (fu I [iv (f+1)] 3 (fun b=>slv (some b) 1 1) (by kernel_rfl) fun c8 w I=>gdE F (fun c9 F=>ph (ks I Try.underlying52 (z:=iv 0) (k:=1) (bytes:=8) (by kernel_rfl) rfl rfl 9 rfl rfl a6 [iv (f+1)] rfl rfl (I.cells 0 (off:=0) rfl (fun j u h=>by rw [Nat.zero_add]; exact h)) (by simp [Value.oneCell']) (by omega) (by omega) (n2:=(e++[f+1]).length) (kr rfl rfl) ?_)))))))))))))))))
  intro aO aP aX w I aQ
  have aQ:Row 1 aO ((e++[f+1]).length) aP aX (al dv (e++[f+1])):=aQ.snoc _ rfl
  refine pu (.pointer (some ⟨s,1,none⟩)) (by kernel_rfl) (ph (aq I 7 1 [slv aO ((e++[f+1]).length) aP] Try.sizeOf52 rfl rfl rfl rfl rfl (qa rfl) fun w I=>aa (ab (rgn (by kernel_rfl) (ph (mb I 15 _ Try.sizeOf4 rfl rfl rfl rfl rfl rfl fun w I=>aa (aj (⟨_,I.pk [2,0,1,3,4,5,6,7,8,9,10,11,12,13,14,15] rfl rfl,fun w I=>?_⟩))))))))
  refine pu bT (by kernel_rfl) (aa (ah rfl (aj (⟨.tuple #[],Ret.r0 rfl,?_⟩))))
  refine ⟨_,.inr ⟨.ret,I.pk [0,1,2,3,4,5,6,7,8,9,10,11,12,13,14,15] rfl rfl,fun w I=>?_⟩⟩
  refine aj (LeaveE.mark (D:=rcq45361.defers) (I.pk [13,0,1,2,3,4,5,6,7,8,9,10,11,12,14,15] rfl rfl) fun w I=>⟨bT,Ret.c rfl rfl (bv (I.cell (i:=14) rfl rfl) Try.isAgg4),?_⟩)
  refine pu bF (by kernel_rfl) (aa (.inl ⟨rfl,⟨aL,aM,aW,aO,aP,aX,t++[(⟨if a.fr > d then a.fr else d,f⟩:Dr)],e++[f+1],⟨rfl,rfl,rfl,rfl,rfl,rfl,rfl,trivial⟩,I.pk [6,7,8,9,10,11] rfl rfl,(aN.to rfl rfl),(aQ.to rfl rfl),F⟩⟩))
 intro ρ w hJ
 obtain ⟨a2,a7,a8,a3,a9,aA,X,Y,hag,I,bW,bX,F⟩:=hJ
 obtain ⟨ρ,rfl⟩:=hag.form; clear hag
 unfold F96j2 at F
 refine ai rfl (ak (rgn (by kernel_rfl) (ckE F (fun bY F=>ph (cj rfl rfl bY (pu (iv (C+1)) (by kernel_rfl) (aa (⟨rfl,m1,Nat.lt_succ_self _,⟨a2,a7,a8,a3,a9,aA,X,Y,C+1,m1,⟨rfl,rfl,rfl,rfl,rfl,rfl,trivial⟩,I.pk [0,1,2,3,4,5] rfl rfl,(bW.to rfl rfl),(bX.to rfl rfl),F,rfl⟩⟩))))))))
theorem L82 (w0:World) (s:Option Addr) (t:Nat) (e:List Ch) (x:Option Addr) (A:Nat) (f:List Ce) (B:Nat) (P:List En) (T:Nat) (J:Int→Option Int) (D:Option Addr) (E:Nat) (i:List Cl) (K:Option Addr) (L:Nat) (l:List Dr) (a2:bi w0 s (al eCh e)) (a3:e.length≤9223372036854775807) (a4:e.length≤t) (a5:bi w0 x (al eCe f)) (a6:f.length≤9223372036854775807) (a7:f.length≤A) (a8:w0.heap[B]?=some (fp P T)) (a9:MOk P T) (aA:∀ j,el P j=(J j).map (Value.int .i64)) (aB:bi w0 D (al eCl i)) (aN:i.length≤9223372036854775807) (aO:i.length≤E) (aC:bi w0 K (al eDr l)) (aP:l.length≤9223372036854775807) (aQ:l.length≤L) (N:Nat) (r:List Gn) (F:F82 N e f J i l=some r):cc Try.prog 82 [.agg #[.slice s e.length t,.slice x f.length A,.map (some B),.slice D i.length E],.slice K l.length L] w0 fun v w=>∃ (z0:Option Nat) (z1:Nat) (z2:List Value),v=slv z0 r.length z1∧Inv [] w0 w [(z0,blk z2 136)]∧Row 2 z0 r.length z1 z2 (al eGn r):=by
 refine az (n:=29) Try.func82 rfl Try.ntmps82 rfl ?_
 have I:=Inv.start w0
 unfold F82 at F
 refine ab (rgn (by kernel_rfl) (ph (ca I _ rfl fun G w I=>pu (.slice none 0 0) (by kernel_rfl) (aa (ab (rgn (by kernel_rfl) (pu (.slice none 0 0) (by kernel_rfl) (aa (ab (ab (rgn (by kernel_rfl) (pu3 (.slice K l.length L) (iv ((l.length:Nat):Int)) (iv 0) (by kernel_rfl) (aa (au ?_))))))))))))))
 have I:=I.nilRow 136
 refine cb (fun m ρ w=>∃ (C:Option Nat) (H:Nat) (M:List Value) (d:List Gn) (o:Int) (mm:Nat),cd ρ [(2,pt G),(5,slv C d.length H),(8,.slice K l.length L),(9,iv (l.length:Int)),(10,iv o)]∧Inv [] w0 w [(some G,blk [.slice s e.length t,.slice x f.length A,.map (some B),.slice D i.length E] 120),(C,blk M 136)]∧(Row 2 C (d.length) H M (al eGn d))∧F82l1 e f J i l N mm d o=some r∧mm=m) (m:=N) ⟨none,0,[],[],0,N,⟨rfl,rfl,rfl,rfl,rfl,trivial⟩,I.pk [1,0] rfl rfl,(Row.nil_ 2),F,rfl⟩ ?_
 rintro m ρ w ⟨C,H,M,d,o,mm,hag,I,V,F,hm⟩
 subst hm; obtain ⟨ρ,rfl⟩:=hag.form; clear hag
 obtain _ | m1:=mm
 ·cases (show (none:Option (List Gn))=some r from F)
 replace F:F82b1 e f J i l N (F82l1 e f J i l N m1) d o=some r:=F; unfold F82b1 at F
 refine ab (rgn (by kernel_rfl) (ifN F (fun U F=>?_) (fun U F=>?_)))
 ·
  refine ph (cm rfl rfl (fun h=>absurd h U) (fun _=>aa (ab (ai rfl (bw (ab (rgn (by kernel_rfl) (pu2 (slv C d.length H) (slv C d.length H) (by kernel_rfl) (aa (aj ?_))))))))))
  cases F
  exact ⟨_,Ret.r1 rfl rfl,⟨C,H,M,rfl,I.pk [1] rfl rfl,V.to rfl rfl⟩⟩


 refine ph (cm rfl rfl (fun _=>?_) (fun h=>absurd U h))
 refine aa (ab (ah rfl (ak (ab (au (ab (rgn (by kernel_rfl) (pu (iv o) (by kernel_rfl) (gdE F (fun W F=>bt F (fun q Y F=>?_)))))))))))
 obtain ⟨aR,aS,aD,aE,aF⟩:=aC.at_ eDr_len (by decide) Y
 refine ph (cn (o).toNat Try.underlying63 Try.sizeOf49 rfl aD rfl (Int.toNat_of_nonneg W).symm (fa Y rfl) (ph (ef I [iv q.fr,iv q.to] Try.isAgg49 Try.sizeOf49 rfl rfl aE (by simp) aF (ph (bh I _ Try.zeroValue49 rfl fun Z w I=>pu (iv o) (by kernel_rfl) (ph (mb I 0 _ Try.sizeOf49 rfl rfl rfl rfl rfl rfl fun w I=>aa (bt F (fun p a0 F=>bt F (fun a aG F=>gdE F (fun aT F=>?_)))))))))))
 obtain ⟨aH,aI,aJ,aK,aL⟩:=aB.at_ eb (by decide) a0
 refine wp_toks [tv (fun _=>(slv C d.length H)),tv (fun _=>(pt G)),tr (fun _=>(.agg #[.slice s e.length t,.slice x f.length A,.map (some B)])) [14],tv (fun _=>(.pointer (some ⟨G,3,none⟩))),tr (fun _=>(.slice D i.length E)) [14],tv (fun _=>(iv o)),tr (fun _=>(.pointer (some ⟨aH,aI+(o).toNat * 4,none⟩))) [],tr (fun _=>(.agg #[iv p.fam,iv p.hd,iv p.fr,iv p.to])) [],tr (fun _=>(.agg #[iv q.fr,iv q.to])) [13],tr (fun _=>(.agg #[iv a.1,iv a.2])) [],⟨fun y=>(.slice (some ⟨(y 10).b,0,none⟩) 1 1),fun y=>[(some (y 10).b,blk [iv a.1,iv a.2] 136)],fun _=>True,[],[]⟩,⟨fun y=>(slv ((y 11).g 0) ((d++[(⟨a.1,a.2⟩:Gn)]).length) ((y 11).c 0)),fun y=>[(((y 11).g 0),blk ((y 11).cl 0) 136)],fun y=>(Row 2 ((y 11).g 0) ((d++[(⟨a.1,a.2⟩:Gn)]).length) ((y 11).c 0) ((y 11).cl 0) (al eGn (d++[(⟨a.1,a.2⟩:Gn)]))),[15],[10]⟩,tv (fun y=>(slv ((y 11).g 0) ((d++[(⟨a.1,a.2⟩:Gn)]).length) ((y 11).c 0)))] (fun y=>[(2,pt G),(5,slv ((y 11).g 0) ((d++[(⟨a.1,a.2⟩:Gn)]).length) ((y 11).c 0)),(8,.slice K l.length L),(9,iv (l.length:Int)),(10,iv o)]) (fun y=>[(some (y 10).b,blk [iv a.1,iv a.2] 136),(((y 11).g 0),blk ((y 11).cl 0) 136),(some Z,blk [iv q.fr,iv q.to] 49),(some G,blk [.slice s e.length t,.slice x f.length A,.map (some B),.slice D i.length E] 120)]) I (by kernel_rfl) (fun y=>⟨(by kernel_rfl),(by kernel_rfl)⟩) (fun y=>?_) ?_
 ·
  refine tp rfl (fun _=>(by kernel_rfl)) (tp rfl (fun _=>(by kernel_rfl)) (tl1 [(some G,blk [.slice s e.length t,.slice x f.length A,.map (some B),.slice D i.length E] 120)] rfl (by kernel_rfl) (fun X w I=>ar I 0 3 [.slice s e.length t,.slice x f.length A,.map (some B)] Try.isAgg115 Try.sizeOf115 rfl rfl rfl rfl br) (tp rfl (fun _=>(by kernel_rfl)) (tl1 [(some G,blk [.slice s e.length t,.slice x f.length A,.map (some B),.slice D i.length E] 120)] rfl (by kernel_rfl) (fun X w I=>ag I 0 (.slice D i.length E) Try.isAgg26 rfl rfl rfl br) (tp rfl (fun _=>(by kernel_rfl)) (tl0 rfl (fun X w I=>cn (o).toNat Try.underlying26 Try.sizeOf34 rfl aJ rfl (Int.toNat_of_nonneg W).symm (fa a0 rfl) br) (tl0 rfl (fun X w I=>ef I [iv p.fam,iv p.hd,iv p.fr,iv p.to] Try.isAgg34 Try.sizeOf34 rfl rfl aK (by simp) aL br) (tl1 [(some Z,blk [iv q.fr,iv q.to] 49)] rfl (by kernel_rfl) (fun X w I=>ma I 0 Try.isAgg49 Try.sizeOf49 rfl rfl rfl br) (tl0 rfl (fun X w I=>co 94 [.agg #[.slice s e.length t,.slice x f.length A,.map (some B)],.agg #[iv p.fam,iv p.hd,iv p.fr,iv p.to],.agg #[iv q.fr,iv q.to]] (by kernel_rfl) (L94 _ s t e x A f B P T J p q (a2.inv0 I) a3 a4 (a5.inv0 I) a6 a7 (I.at0 (a8)) a9 aA N _ aG) (fun v' w' h=>h)) (tg (.slice (some ⟨(y 10).b,0,none⟩) 1 1) [] [] rfl ⟨(by kernel_rfl),(by kernel_rfl),(by kernel_rfl)⟩ ?_ ?_))))))))))
  ·intro hp X w I
   refine fu I [iv a.1,iv a.2] 136 (fun b=>slv (some b) 1 1) (by kernel_rfl) fun a1 w I=>⟨wit a1 [] [] [] [],(by kernel_rfl),trivial,I.castL (by kernel_rfl)⟩
  refine tg (slv ((y 11).g 0) ((d++[(⟨a.1,a.2⟩:Gn)]).length) ((y 11).c 0)) [(C,blk M 136),(some (y 10).b,blk [iv a.1,iv a.2] 136)] [(some (y 10).b,blk [iv a.1,iv a.2] 136)] rfl ⟨(by kernel_rfl),(by kernel_rfl),(by kernel_rfl)⟩ ?_ ?_
  ·intro hp X w I
   refine ks I Try.underlying140 (z:=.agg #[iv 0,iv 0]) (k:=2) (bytes:=16) (by kernel_rfl) rfl rfl 0 rfl rfl V [iv a.1,iv a.2] rfl rfl (I.cells 1 (off:=0) rfl (fun j u h=>by rw [Nat.zero_add]; exact h)) (by simp [Value.oneCell']) (by omega) (by omega) (n2:=(d++[(⟨a.1,a.2⟩:Gn)]).length) (kr rfl rfl) ?_
   intro Q R S w I O
   have O:Row 2 Q ((d++[(⟨a.1,a.2⟩:Gn)]).length) R S (al eGn (d++[(⟨a.1,a.2⟩:Gn)])):=O.snoc _ rfl
   exact ⟨wit 0 [Q] [R] [S] [],(by kernel_rfl),Eq.mp (by kernel_rfl) O,I.castL (by kernel_rfl)⟩
  refine tpv (slv ((y 11).g 0) ((d++[(⟨a.1,a.2⟩:Gn)]).length) ((y 11).c 0)) rfl ⟨(by kernel_rfl),fun _=>(by kernel_rfl)⟩ (tn)
 intro y hp ρ w hag I
 have O:Row 2 ((y 11).g 0) ((d++[(⟨a.1,a.2⟩:Gn)]).length) ((y 11).c 0) ((y 11).cl 0) (al eGn (d++[(⟨a.1,a.2⟩:Gn)])):=pgl hp (k:=11) (by decide) (by kernel_rfl)
 clear hp
 generalize (y 10).b=a1 at *
 generalize (y 11).g 0=Q at *
 generalize (y 11).c 0=R at *
 generalize (y 11).cl 0=S at *
 obtain ⟨ρ,rfl⟩:=hag.form; clear hag
 refine rgn (by kernel_rfl) (ckE F (fun aM F=>ph (cj rfl rfl aM (pu (iv (o+1)) (by kernel_rfl) (aa (⟨rfl,m1,Nat.lt_succ_self _,⟨Q,R,S,d++[(⟨a.1,a.2⟩:Gn)],o+1,m1,⟨rfl,rfl,rfl,rfl,rfl,trivial⟩,I.pk [3,1] rfl rfl,(O.to rfl rfl),F,rfl⟩⟩))))))
theorem L97 (w0:World) (q:Option Addr) (s:Nat) (g:List Ch) (t:Option Addr) (u:Nat) (i:List Ce) (x:Nat) (A:List En) (K:Nat) (L:Int→Option Int) (y:Option Addr) (z:Nat) (k:List Cl) (B:Option Addr) (C:Nat) (p:List Dr) (Z:bi w0 q (al eCh g)) (a0:g.length≤9223372036854775807) (a1:g.length≤s) (a2:bi w0 t (al eCe i)) (a3:i.length≤9223372036854775807) (a4:i.length≤u) (a5:w0.heap[x]?=some (fp A K)) (a6:MOk A K) (a7:∀ j,el A j=(L j).map (Value.int .i64)) (a8:bi w0 y (al eCl k)) (a9:k.length≤9223372036854775807) (aA:k.length≤z) (aB:bi w0 B (al eDr p)) (aC:p.length≤9223372036854775807) (aD:p.length≤C) (N:Nat) (r:(Int × Int)) (F:F97 N g i L k p=some r):cc Try.prog 97 [.agg #[.slice q g.length s,.slice t i.length u,.map (some x),.slice y k.length z],.slice B p.length C] w0 fun v w=>v=.agg #[iv r.1,iv r.2]∧Below w0.heap.size w0 w:=by
 refine az (n:=9) Try.func97 rfl Try.ntmps97 rfl ?_
 have I:=Inv.start w0
 unfold F97 at F
 refine ab (rgn (by kernel_rfl) (ph (ca I _ rfl fun S w I=>ph (bh I _ Try.zeroValue136 rfl fun T w I=>aa (ab (rgn (by kernel_rfl) (ph (ma I 1 Try.isAgg120 Try.sizeOf120 rfl rfl rfl (pu (.slice B p.length C) (by kernel_rfl) (bt F (fun b aE F=>ph (co 82 _ (by kernel_rfl) (L82 _ q s g t u i x A K L y z k B C p (Z.inv0 I) a0 a1 (a2.inv0 I) a3 a4 (I.at0 (a5)) a6 a7 (a8.inv0 I) a9 aA (aB.inv0 I) aC aD N _ aE) ?_))))))))))))
 rintro v w ⟨M,l,U,rfl,hN,V⟩
 have I:=I.join hN; clear hN
 refine ph (s_callI 104 [slv M b.length l,.func (.func 79) #[] #[]] (by kernel_rfl) (az (n:=33) Try.func104 rfl Try.ntmps104 rfl (ab (rgn (by kernel_rfl) (ph (bh I _ Try.zeroValue136 rfl fun D w I=>aa (ab (ab (rgn (by kernel_rfl) (pu2 (slv M b.length l) (iv ((b.length:Nat):Int)) (by kernel_rfl) (ifE F (fun O F=>?_) (fun O F=>?_))))))))))))
 ·
  refine ph (cm rfl rfl (fun _=>?_) (fun h=>absurd O h))
  refine aa (ah rfl (rgn (by kernel_rfl) ?_))
  cases F
 refine ph (cm rfl rfl (fun h=>absurd h O) (fun _=>aa (ai rfl (ak (ab (rgn (by kernel_rfl) (pu (slv M b.length l) (by kernel_rfl) (bt F (fun E W F=>?_)))))))))
 obtain ⟨o,rfl,aF⟩:=V.at_ ms (by decide) W
 refine ph (be 0 Try.underlying140 Try.sizeOf136 rfl rfl rfl (fa W rfl) (ph (cq I 1 [iv E.num,iv E.den] Try.isAgg136 Try.sizeOf136 rfl rfl rfl aF (ph (bh I _ Try.zeroValue136 rfl fun G w I=>ph (mb I 0 _ Try.sizeOf136 rfl rfl rfl rfl rfl rfl fun w I=>aa (ab (ab (rgn (by kernel_rfl) (pu (iv 1) (by kernel_rfl) (aa (au (cb (fun m ρ w=>∃ (d:Int) (e:Int) (a:Int) (mm:Nat),cd ρ [(0,slv (some o) b.length l),(1,.func (.func 79) #[] #[]),(4,pt D),(5,pt G),(6,iv a)]∧Inv [] w0 w [(some o,blk U 136),(some D,blk [iv 0,iv 0] 136),(some G,blk [iv d,iv e] 136),(some S,blk [.slice q g.length s,.slice t i.length u,.map (some x),.slice y k.length z] 120),(some T,blk [iv 0,iv 0] 136)]∧F97l1 b mm d e a=some r∧mm=m) (m:=N) ⟨E.num,E.den,1,N,⟨rfl,rfl,rfl,rfl,rfl,trivial⟩,I.pk [2,1,0,4,3] rfl rfl,F,rfl⟩ ?_)))))))))))))
 rintro m ρ w ⟨d,e,a,mm,hag,I,F,hm⟩
 subst hm; obtain ⟨ρ,rfl⟩:=hag.form; clear hag
 obtain _ | m1:=mm
 ·cases (show (none:Option (Int × Int))=some r from F)
 replace F:F97b1 b (F97l1 b m1) d e a=some r:=F; unfold F97b1 at F
 refine ab (ab (rgn (by kernel_rfl) (pu3 (iv a) (slv (some o) b.length l) (iv ((b.length:Nat):Int)) (by kernel_rfl) (ifN F (fun P F=>?_) (fun P F=>?_)))))
 ·
  refine ph (cm rfl rfl (fun h=>absurd h P) (fun _=>aa (ai rfl (bw (ab (rgn (by kernel_rfl) (ph (ma I 2 Try.isAgg136 Try.sizeOf136 rfl rfl rfl (ph (mb I 1 _ Try.sizeOf136 rfl rfl rfl rfl rfl rfl fun w I=>aa (aj (⟨.agg #[iv d,iv e],Ret.c rfl rfl (ce I 1 2 [iv d,iv e] Try.isAgg136 Try.sizeOf136 rfl rfl rfl),?_⟩))))))))))))
  refine ph (mb I 4 _ Try.sizeOf136 rfl rfl rfl rfl rfl rfl fun w I=>aa (aj ?_))
  cases F
  exact ⟨_,Ret.c rfl rfl (ce I 4 2 [iv d,iv e] Try.isAgg136 Try.sizeOf136 rfl rfl rfl),⟨rfl,I.below⟩⟩


 refine ph (cm rfl rfl (fun _=>?_) (fun h=>absurd P h))
 refine aa (ah rfl (ak (dn (fun ρ w=>∃ (H:Int) (J:Int),cd ρ [(0,slv (some o) b.length l),(1,.func (.func 79) #[] #[]),(4,pt D),(5,pt G),(6,iv a)]∧Inv [] w0 w [(some o,blk U 136),(some D,blk [iv 0,iv 0] 136),(some G,blk [iv H,iv J] 136),(some S,blk [.slice q g.length s,.slice t i.length u,.map (some x),.slice y k.length z] 120),(some T,blk [iv 0,iv 0] 136)]∧F97j2 (F97l1 b m1) a H J=some r) ?_ ?_)))
 ·
  refine au (ab (gm 8 I (by kernel_rfl) (zp2 (.func (.func 79) #[] #[]) (slv (some o) b.length l) (fun _=>(by kernel_rfl)) (zp (iv a) (fun _=>(by kernel_rfl)) (gdE F (fun X F=>bt F (fun f Q F=>?_)))))))
  have Y:=V.atS ms (by decide) Q
  refine zc (.pointer (some ⟨o,(a).toNat * 2,none⟩)) (fun w I=>be (a).toNat Try.underlying140 Try.sizeOf136 rfl rfl (Int.toNat_of_nonneg X).symm (fa Q rfl) br) (zc (.agg #[iv f.num,iv f.den]) (fun w I=>cq I 0 [iv f.num,iv f.den] Try.isAgg136 Try.sizeOf136 rfl rfl rfl Y br) (zc (.agg #[iv d,iv e]) (fun w I=>ma I 2 Try.isAgg136 Try.sizeOf136 rfl rfl rfl br) (bt F (fun aG aH F=>zc (iv aG) (fun w I=>co 79 [.agg #[iv f.num,iv f.den],.agg #[iv d,iv e]] (by kernel_rfl) (L79 _ f (⟨d,e⟩:Gn) _ aH) (fun v' w' h=>h)) (ifN F (fun R F=>?_) (fun R F=>?_))))))
  ·
   refine zc bF (fun w I=>cm rfl rfl (fun h=>absurd h R) (fun _=>br)) (zh (fun w I=>aa (ai rfl (ak (.inl ⟨rfl,⟨d,e,⟨rfl,rfl,rfl,rfl,rfl,trivial⟩,I.pk [0,1,2,3,4] rfl rfl,F⟩⟩)))))
  refine zc bT (fun w I=>cm rfl rfl (fun _=>br) (fun h=>absurd R h)) (zh (fun w I=>aa (ah rfl (rgn (by kernel_rfl) (pu2 (slv (some o) b.length l) (iv a) (by kernel_rfl) (ph (be (a).toNat Try.underlying140 Try.sizeOf136 rfl rfl (Int.toNat_of_nonneg X).symm (fa Q rfl) (ph (cq I 0 [iv f.num,iv f.den] Try.isAgg136 Try.sizeOf136 rfl rfl rfl Y (ph (mb I 2 _ Try.sizeOf136 rfl rfl rfl rfl rfl rfl fun w I=>aa (.inl ⟨rfl,⟨f.num,f.den,⟨rfl,rfl,rfl,rfl,rfl,trivial⟩,I.pk [0,1,2,3,4] rfl rfl,F⟩⟩))))))))))))
 intro ρ w hJ
 obtain ⟨H,J,hag,I,F⟩:=hJ
 obtain ⟨ρ,rfl⟩:=hag.form; clear hag
 unfold F97j2 at F
 refine rgn (by kernel_rfl) (pu (iv a) (by kernel_rfl) (ckE F (fun aI F=>ph (cj rfl rfl aI (pu (iv (a+1)) (by kernel_rfl) (aa (⟨rfl,m1,Nat.lt_succ_self _,⟨H,J,a+1,m1,⟨rfl,rfl,rfl,rfl,rfl,trivial⟩,I.pk [0,1,2,3,4] rfl rfl,F,rfl⟩⟩)))))))
theorem L86 (w0:World) (p:Option Addr) (q:Nat) (d:List Ch) (s:Option Addr) (u:Nat) (e:List Ce) (x:Nat) (H:List En) (K:Nat) (y:Int→Option Int) (z:Option Addr) (A:Nat) (f:List Cl) (V:bi w0 p (al eCh d)) (W:d.length≤9223372036854775807) (X:d.length≤q) (Y:bi w0 s (al eCe e)) (Z:e.length≤9223372036854775807) (a0:e.length≤u) (a1:w0.heap[x]?=some (fp H K)) (a2:MOk H K) (a3:∀ j,el H j=(y j).map (Value.int .i64)) (a4:bi w0 z (al eCl f)) (a5:f.length≤9223372036854775807) (a6:f.length≤A) (N:Nat) (r:(List Dr × Int × Int × List Int × Bool)) (F:F86 N d e y f=some r):cc Try.prog 86 [.agg #[.slice p d.length q,.slice s e.length u,.map (some x),.slice z f.length A]] w0 fun v w=>∃ (z0:Option Nat) (z1:Nat) (z2:List Value) (z3:Option Nat) (z4:Nat) (z5:List Value),v=.tuple #[.agg #[slv z0 r.1.length z1,iv r.2.1,iv r.2.2.1,slv z3 r.2.2.2.1.length z4],.bool r.2.2.2.2]∧Inv [] w0 w [(z0,blk z2 49),(z3,blk z5 3)]∧Row 2 z0 r.1.length z1 z2 (al eDr r.1)∧Row 1 z3 r.2.2.2.1.length z4 z5 (al dv r.2.2.2.1):=by
 refine az (n:=30) Try.func86 rfl Try.ntmps86 rfl ?_
 have I:=Inv.start w0
 unfold F86 at F
 refine ab (rgn (by kernel_rfl) (ph (ca I _ rfl fun aA w I=>ph (bh I _ Try.zeroValue144 rfl fun aB w I=>pu bF (by kernel_rfl) (aa (ab (rgn (by kernel_rfl) (ph (ma I 1 Try.isAgg120 Try.sizeOf120 rfl rfl rfl (pu (.agg #[iv (-1),iv 1]) (by kernel_rfl) (bt F (fun P aC F=>ph (co 96 _ (by kernel_rfl) (L96 _ p q d s u e x H K y z A f (⟨-1,1⟩:Gn) (V.inv0 I) W X (Y.inv0 I) Z a0 (I.at0 (a1)) a2 a3 (a4.inv0 I) a5 a6 N _ aC) ?_)))))))))))))
 rintro v w ⟨aD,aE,aF,aG,aH,aI,rfl,hN,aJ,aK⟩
 have I:=I.join hN; clear hN
 refine ph (bh I _ Try.zeroValue164 rfl fun C w I=>ph (mb I 0 _ Try.sizeOf164 rfl rfl rfl rfl rfl rfl fun w I=>aa (ab (ab (rgn (by kernel_rfl) (pu (.pointer (some ⟨C,2,none⟩)) (by kernel_rfl) (ph (ag I 0 (.bool P.2.2) Try.isAgg4 rfl rfl rfl (ifN F (fun a7 F=>?_) (fun a7 F=>?_))))))))))
 ·
  refine ph (s_not (a:=false) (congrArg Value.bool (Bool.eq_false_iff.2 a7)) (aa (ah rfl (ab (rgn (by kernel_rfl) (pu (.agg #[.slice none 0 0,iv 0,iv 0,.slice none 0 0]) (by kernel_rfl) (ph (mb I 3 _ Try.sizeOf144 rfl rfl rfl rfl rfl rfl fun w I=>pu bF (by kernel_rfl) (aa (aj ?_))))))))))
  have I:=I.nilRow 49
  have I:=I.nilRow 3
  cases F
  exact ⟨_,Ret.ct rfl rfl (ce I 5 4 [.slice none 0 0,iv 0,iv 0,.slice none 0 0] Try.isAgg144 Try.sizeOf144 rfl rfl rfl) rfl,⟨none,0,[],none,0,[],rfl,I.pk [1,0] rfl rfl,Row.nil_ 2,Row.nil_ 1⟩⟩


 refine ph (s_not (a:=true) (congrArg Value.bool a7) (aa (ai rfl (ak (ab (rgn (by kernel_rfl) (ph (bh I _ Try.zeroValue144 rfl fun Q w I=>aa (ab (au ?_))))))))))
 have I:=I.nilRow 49
 refine cb (fun m ρ w=>∃ (i:Option Nat) (k:Nat) (R:List Value) (B:Option Nat) (D:Nat) (S:List Value) (J:Option Nat) (L:Nat) (T:List Value) (g:List Dr) (o:List Int) (E:Bool) (G:List Dr) (M:Int) (O:Int) (mm:Nat),cd ρ [(1,pt aA),(2,pt aB),(4,pt C),(5,pt Q)]∧Inv [] w0 w [(some aA,blk [.slice p d.length q,.slice s e.length u,.map (some x),.slice z f.length A] 120),(some aB,blk [.slice none 0 0,iv 0,iv 0,.slice none 0 0] 144),(some C,blk [slv i g.length k,slv B o.length D,.bool E] 164),(i,blk R 49),(B,blk S 3),(some Q,blk [slv J G.length L,iv M,iv O,.slice none 0 0] 144),(J,blk T 49)]∧(Row 2 i (g.length) k R (al eDr g))∧(Row 1 B (o.length) D S (al dv o))∧(Row 2 J (G.length) L T (al eDr G))∧F86l1 d e y f N mm g o E G M O=some r∧mm=m) (m:=N) ⟨aD,aE,aF,aG,aH,aI,none,0,[],P.1,P.2.1,P.2.2,[],0,0,N,⟨rfl,rfl,rfl,rfl,trivial⟩,I.pk [6,5,2,3,4,1,0] rfl rfl,(aJ.to rfl rfl),(aK.to rfl rfl),(Row.nil_ 2),F,rfl⟩ ?_
 rintro m ρ w ⟨i,k,R,B,D,S,J,L,T,g,o,E,G,M,O,mm,hag,I,U,aL,aM,F,hm⟩
 subst hm; obtain ⟨ρ,rfl⟩:=hag.form; clear hag
 obtain _ | m1:=mm
 ·cases (show (none:Option (List Dr × Int × Int × List Int × Bool))=some r from F)
 replace F:F86b1 d e y f N (F86l1 d e y f N m1) g o E G M O=some r:=F; unfold F86b1 at F
 refine ab (ab (rgn (by kernel_rfl) (pu (.pointer (some ⟨C,2,none⟩)) (by kernel_rfl) (ph (ag I 2 (.bool E) Try.isAgg4 rfl rfl rfl (aa (ifN F (fun a8 F=>?_) (fun a8 F=>?_))))))))
 ·
  refine wp_cond (t:=E) rfl (fun h=>absurd h a8) (fun _=>bw (ab (rgn (by kernel_rfl) (pu (.pointer (some ⟨C,1,none⟩)) (by kernel_rfl) (ph (ag I 2 (slv B o.length D) Try.isAgg52 rfl rfl rfl (pu (.pointer (some ⟨Q,3,none⟩)) (by kernel_rfl) (ph (aq I 5 1 [slv B o.length D] Try.sizeOf52 rfl rfl rfl rfl rfl (qa rfl) fun w I=>aa (ab (rgn (by kernel_rfl) (ph (ma I 5 Try.isAgg144 Try.sizeOf144 rfl rfl rfl (ph (mb I 1 _ Try.sizeOf144 rfl rfl rfl rfl rfl rfl fun w I=>pu bT (by kernel_rfl) (aa (aj ?_)))))))))))))))))
  cases F
  exact ⟨_,Ret.ct rfl rfl (ce I 1 4 [slv J G.length L,iv M,iv O,slv B o.length D] Try.isAgg144 Try.sizeOf144 rfl rfl rfl) rfl,⟨J,L,T,B,D,S,rfl,I.pk [6,4] rfl rfl,aM.to rfl rfl,aL.to rfl rfl⟩⟩
 refine wp_cond (t:=E) rfl (fun _=>?_) (fun h=>absurd a8 (by rw [h]; decide))
 refine ak (au (ab (gm 7 I (by kernel_rfl) (zp (pt C) (fun _=>(by kernel_rfl)) (zc (slv i g.length k) (fun w I=>ag I 2 (slv i g.length k) Try.isAgg63 rfl rfl rfl br) (zc (.agg #[.slice p d.length q,.slice s e.length u,.map (some x),.slice z f.length A]) (fun w I=>ma I 0 Try.isAgg120 Try.sizeOf120 rfl rfl rfl br) (zp (pt C) (fun _=>(by kernel_rfl)) (zc (slv i g.length k) (fun w I=>ag I 2 (slv i g.length k) Try.isAgg63 rfl rfl rfl br) (bt F (fun l aN F=>zc (.agg #[iv l.1,iv l.2]) (fun w I=>co 97 [.agg #[.slice p d.length q,.slice s e.length u,.map (some x),.slice z f.length A],slv i g.length k] (by kernel_rfl) (L97 _ p q d s u e x H K y z A f (i.map fun b=>⟨b,0,none⟩) k g (V.inv0 I) W X (Y.inv0 I) Z a0 (I.at0 (a1)) a2 a3 (a4.inv0 I) a5 a6 (I.rowCells 3 rfl U) (am rfl U.big) (am rfl U.cap) N _ aN) (fun v' w' h=>h)) (zp (.agg #[slv i g.length k,iv l.1,iv l.2,.slice none 0 0]) (fun _=>(by kernel_rfl)) (zh (fun w I=>ph (mb I 5 _ Try.sizeOf144 rfl rfl rfl rfl rfl rfl fun w I=>aa (rgn (by kernel_rfl) (ph (ma I 0 Try.isAgg120 Try.sizeOf120 rfl rfl rfl (pu (.pointer (some ⟨Q,1,none⟩)) (by kernel_rfl) (ph (ar I 5 2 [iv l.1,iv l.2] Try.isAgg136 Try.sizeOf136 rfl rfl rfl rfl (bt F (fun a9 aO F=>ph (co 96 _ (by kernel_rfl) (L96 _ p q d s u e x H K y z A f (⟨l.1,l.2⟩:Gn) (V.inv0 I) W X (Y.inv0 I) Z a0 (I.at0 (a1)) a2 a3 (a4.inv0 I) a5 a6 N _ aO) ?_)))))))))))))))))))))))
 rintro v w ⟨aP,aQ,aR,aS,aT,aU,rfl,hN,aV,aW⟩
 have I:=I.join hN; clear hN
 refine ph (mb I 4 _ Try.sizeOf164 rfl rfl rfl rfl rfl rfl fun w I=>aa (⟨rfl,m1,Nat.lt_succ_self _,⟨aP,aQ,aR,aS,aT,aU,i,k,R,a9.1,a9.2.1,a9.2.2,g,l.1,l.2,m1,⟨rfl,rfl,rfl,rfl,trivial⟩,I.pk [2,3,4,0,1,7,5] rfl rfl,(aV.to rfl rfl),(aW.to rfl rfl),(U.to rfl rfl),F,rfl⟩⟩))
end Go.K
