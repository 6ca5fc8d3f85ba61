import Derived.Test.YtinkdlmimiefaaaGreatProg
import Derived.Test.YtinkdlmimiefaaaGreatPM3
namespace Go.K
open Go.Proofs.Tryz
open Go.Proofs Go.RowKit
set_option linter.unusedVariables false
set_option linter.unusedSimpArgs false
set_option maxRecDepth 100000
attribute [local irreducible] Seq cw cx fl opX

section blocks
variable {P:Program} {ρ:Env} {B:List Nat} {w w0 w':World} {L N:List (Option Nat × Obj)} {R:Value→World→Prop}
theorem iz {b:Nat} {o:Obj} (h:w.heap[b]?=some o):b < w.heap.size:=by
  rcases Nat.lt_or_ge b w.heap.size with hlt | hge
  · exact hlt
  rw [Array.getElem?_eq_none hge] at h; cases h
theorem io {b:Nat} {cl:List Value} {E:TypeId} (h:w.heap[b]?=some (blk cl E)) {off:Nat} {v:Value} (hv:cl[off]?=some v):w.cell? ⟨b,off,none⟩=some v:=by
  have hc:cl.toArray[off]?=some v:=by simpa using hv
  simp [World.cell?,h,hc]
theorem jy (hb:Below w.heap.size w w') {b:Nat} {o:Obj} (h:w.heap[b]?=some o):w'.heap[b]?=some o:=(hb.block b (iz h)).trans h
theorem but_blk {g:Option Nat} (hb:But g.toList w w') {b:Nat} {o:Obj} (h:w.heap[b]?=some o) (hne:g≠some b):w'.heap[b]?=some o:=(hb.block b (iz h) (fun e=>hne (Option.mem_toList.mp e))).trans h
theorem Inv.ne (h:Inv B w0 w L) (i j:Nat) (hij:i≠j) {g:Option Nat} {b:Nat} {o p:Obj} (hi:L[i]?=some (g,o)) (hj:L[j]?=some (some b,p)):g≠some b:=fun e=>by
  subst e; exact h.sep i j b b o p hi hj hij rfl
theorem Inv.butBelow (h:Inv []  w0 w L) (i:Nat) {g:Option Nat} {o:Obj} (hi:L[i]?=some (g,o)) (hb:But g.toList w w'):Below w0.heap.size w0 w':=by
  refine ⟨hb.os.trans h.but.os,hb.tape.trans h.but.tape,hb.output.trans h.but.output,Nat.le_trans h.but.size hb.size,fun k hk=>?_⟩
  rw [hb.block k (Nat.lt_of_lt_of_le hk h.but.size) ?_,h.but.block k hk (by simp)]
  intro e
  rw [Option.mem_toList] at e
  subst e
  rcases (h.has i k o hi).2 with h1 | h1
  · omega
  cases h1
theorem gj (hI:Inv B w0 w L) {o:Oper} (f:FuncId) (args:List Value) {k:Nat} {E:TypeId} {n:Nat} {xs:List Value} (h:(execOp (ev ρ) o).run P w=.ok (.enter f args.toArray) w)
    (hc:bn P f args w fun v w'=>Gives k E none n xs w v w') (kk:∀ g c cl w',Inv B w0 w' ((g,blk cl E) :: L)→Row k g n c cl xs→R (slv g n c) w'):cw P o ρ w R :=
  co f args h hc fun v w' ⟨g,c,cl,hv,hN,hr⟩=>by
    subst hv
    refine kk g c cl w' (hI.join (N:=[(g,blk cl E)]) ⟨hN.but,hN.has,hN.sep⟩) hr
theorem s_callGives (hI:Inv B w0 w L) {o:Oper} (f:FuncId) (args:List Value) {k:Nat} {E:TypeId} {g:Option Nat} {n:Nat} {xs:List Value} (i:Nat) {ob:Obj} (hi:L[i]?=some (g,ob)) (h:(execOp (ev ρ) o).run P w=.ok (.enter f args.toArray) w)
    (hc:bn P f args w fun v w'=>Gives k E g n xs w v w') (kk:∀ g' c cl w',Inv B w0 w' ((g',blk cl E) :: L.set i (none,ob))→Row k g' n c cl xs→R (slv g' n c) w'):cw P o ρ w R :=
  co f args h hc fun v w' ⟨g',c,cl,hv,hN,hr⟩=>by
    subst hv
    exact kk g' c cl w' (hI.back i hi hN) hr
theorem s_callGivesIn (hI:Inv B w0 w L) {o:Oper} (f:FuncId) (args:List Value) {k:Nat} {E:TypeId} {g:Option Nat} {n c:Nat} {xs:List Value} (i:Nat) {ob:Obj} (hi:L[i]?=some (g,ob)) (h:(execOp (ev ρ) o).run P w=.ok (.enter f args.toArray) w)
    (hc:bn P f args w fun v w'=>GivesIn k E g c n xs w v w') (kk:∀ cl w',Inv B w0 w' ((g,blk cl E) :: L.set i (none,ob))→Row k g n c cl xs→R (slv g n c) w'):cw P o ρ w R :=
  co f args h hc fun v w' ⟨cl,hv,hN,hr⟩=>by
    subst hv
    exact kk cl w' (hI.back i hi hN) hr
def plv (q:Pl) (g1:Option Nat) (c1:Nat) (g2:Option Nat) (c2:Nat) (g3:Option Nat) (c3:Nat):Value:=.agg #[.int .i64 q.lo,.int .i64 q.hi,slv g1 q.loads.length c1,slv g2 q.stands.length c2,slv g3 q.spells.length c3,.int .i64 q.geese]
def GivesPlot (q:Pl) (w0:World) (v:Value) (w:World):Prop :=
  ∃ g1 c1 cl1 g2 c2 cl2 g3 c3 cl3,v=plv q g1 c1 g2 c2 g3 c3∧Inv []  w0 w [(g1,blk cl1 30),(g2,blk cl2 31),(g3,blk cl3 33)]
    ∧ Row 6 g1 q.loads.length c1 cl1 (al eLd q.loads)∧Row 6 g2 q.stands.length c2 cl2 (al eLd q.stands)∧Row 6 g3 q.spells.length c3 cl3 (al eSp q.spells)
theorem s_callPlot (hI:Inv B w0 w L) {o:Oper} (f:FuncId) (args:List Value) {q:Pl} (h:(execOp (ev ρ) o).run P w=.ok (.enter f args.toArray) w)
    (hc:bn P f args w fun v w'=>GivesPlot q w v w') (kk:∀ g1 c1 cl1 g2 c2 cl2 g3 c3 cl3 w',Inv B w0 w' ((g1,blk cl1 30) :: (g2,blk cl2 31) :: (g3,blk cl3 33) :: L)→Row 6 g1 q.loads.length c1 cl1 (al eLd q.loads)→Row 6 g2 q.stands.length c2 cl2 (al eLd q.stands)→Row 6 g3 q.spells.length c3 cl3 (al eSp q.spells)→R (plv q g1 c1 g2 c2 g3 c3) w'):cw P o ρ w R :=
  co f args h hc fun v w' ⟨g1,c1,cl1,g2,c2,cl2,g3,c3,cl3,hv,hN,r1,r2,r3⟩=>by
    subst hv
    exact kk g1 c1 cl1 g2 c2 cl2 g3 c3 cl3 w' (hI.join hN) r1 r2 r3
end blocks
structure Small (p:Pl):Prop where
  s1:p.loads.length≤60
  s2:p.stands.length≤60
  s3:p.spells.length≤60
theorem eo {p:Pl} (h:dw p=true):Small p:=by
  simp only [dw,dl,Bool.and_eq_true,decide_eq_true_eq] at h
  exact ⟨h.1.1.2.1,h.1.2.1,h.2.1⟩
theorem ia {b:Bool} {e:Int} (h:cg b e=0) (he:e≠0):b=true:=by
  cases b with
  | true=>rfl
  | false=>exact absurd h he
def notesOf (p:Pl):List Nt:=p.loads.map ntL++p.stands.map ntL++p.spells.map ntS
def cv (k:Nt→Bool) (p:Pl):Pl:={ p with loads:=p.loads.filter fun x=>k (ntL x),stands:=p.stands.filter fun x=>k (ntL x),spells:=p.spells.filter fun x=>k (ntS x) }
def hasB (p:Pl) (s:Int):Bool:=(notesOf p).any fun y=>decide (y.s=s)
def zeroPl:Pl:=⟨0,0,[],[],[],0⟩
def ff (p:Pl) (s:Int):Pl × Int:=if dw p then if hasB p s then (cv (fun y=>decide (y.s≠s)) p,0) else (zeroPl,3) else (zeroPl,13)


theorem hasSource1_c (w0:World) (y:Nt) (x:Int) (b:Nat) (hb:w0.heap[b]?=some (blk [.int .i64 x] 3)):bn Tryz.prog 122 [.agg #[.int .i64 y.s,.int .i64 y.k,.int .i64 y.u],.pointer (some ⟨b,0,none⟩)] w0 fun v w=>v=.bool (decide (y.s=x))∧Below w0.heap.size w0 w:=by
 refine az (n:=8) func122 rfl ntmps122 rfl ?_
 have hI:=Inv.start w0
 refine ab (rgn rfl (ac (ca hI [iv y.s,iv y.k,iv y.u] rfl fun b1 w hI=>pu kf rfl (aa (ab (rgn rfl (pu (.pointer (some ⟨b1,0,none⟩)) rfl (ac (ag hI 0 (iv y.s) isAgg3 rfl rfl rfl ?_)))))))))
 refine ac (dj hI (iv x) isAgg3 rfl (iz hb) (by simp) (io hb rfl) ?_)
 refine ac (di rfl rfl ?_ ?_)
 ·intro h1
  refine pu kg rfl (aa (aj ?_))
  exact ⟨.bool true,Ret.r1 rfl rfl,⟨by refine congrArg Value.bool ?_; simp_all,hI.below⟩⟩
 intro h2
 refine pu kf rfl (aa (aj ?_))
 exact ⟨.bool false,Ret.r1 rfl rfl,⟨by refine congrArg Value.bool ?_; simp_all,hI.below⟩⟩


theorem Without1_c (w0:World) (y:Nt) (x:Int) (b:Nat) (hb:w0.heap[b]?=some (blk [.int .i64 x] 3)):bn Tryz.prog 66 [.agg #[.int .i64 y.s,.int .i64 y.k,.int .i64 y.u],.pointer (some ⟨b,0,none⟩)] w0 fun v w=>v=.bool (decide (y.s≠x))∧Below w0.heap.size w0 w:=by
 refine az (n:=8) func66 rfl ntmps66 rfl ?_
 have hI:=Inv.start w0
 refine ab (rgn rfl (ac (ca hI [iv y.s,iv y.k,iv y.u] rfl fun b1 w hI=>pu kf rfl (aa (ab (rgn rfl (pu (.pointer (some ⟨b1,0,none⟩)) rfl (ac (ag hI 0 (iv y.s) isAgg3 rfl rfl rfl ?_)))))))))
 refine ac (dj hI (iv x) isAgg3 rfl (iz hb) (by simp) (io hb rfl) ?_)
 refine ac (de rfl rfl ?_ ?_)
 ·intro h1
  refine pu kg rfl (aa (aj ?_))
  exact ⟨.bool true,Ret.r1 rfl rfl,⟨by refine congrArg Value.bool ?_; simp_all,hI.below⟩⟩
 intro h2
 refine pu kf rfl (aa (aj ?_))
 exact ⟨.bool false,Ret.r1 rfl rfl,⟨by refine congrArg Value.bool ?_; simp_all,hI.below⟩⟩


theorem sceneOf1_c (w0:World) (y:Nt) (x:Int) (b:Nat) (hb:w0.heap[b]?=some (blk [.int .i64 x] 3)):bn Tryz.prog 141 [.agg #[.int .i64 y.s,.int .i64 y.k,.int .i64 y.u],.pointer (some ⟨b,0,none⟩)] w0 fun v w=>v=.bool (bo y.k y.u x)∧Below w0.heap.size w0 w:=by
 refine az (n:=7) func141 rfl ntmps141 rfl ?_
 have hI:=Inv.start w0
 refine ab (rgn rfl (ac (ca hI [iv y.s,iv y.k,iv y.u] rfl fun b1 w hI=>pu kf rfl (aa (ab (rgn rfl (ac (ar hI 0 3 [iv y.s,iv y.k,iv y.u] isAgg95 sizeOf95 rfl rfl rfl rfl ?_))))))))
 refine ac (dj hI (iv x) isAgg3 rfl (iz hb) (by simp) (io hb rfl) ?_)
 refine ac (bg hI 142 [.agg #[iv y.s,iv y.k,iv y.u],iv x] (.bool (bo y.k y.u x)) (by kernel_rfl) (counts_c y.s y.k y.u x _) fun w hI=>pu (.bool (bo y.k y.u x)) rfl (aa (aj ?_)))
 exact ⟨.bool (bo y.k y.u x),Ret.r1 rfl rfl,⟨rfl,hI.below⟩⟩


theorem filtered1_c (w0:World) (xx:Ld) (b:Nat) (fv:Value) (p:Nt→Bool) (hb:w0.heap[b]?=some (blk [fv] 96)) (hf:∀ w,Below w0.heap.size w0 w→cx Tryz.prog fv [.agg (eNt (ntL xx)).toArray] w fun v w'=>v=.bool (p (ntL xx))∧Below w.heap.size w w'):bn Tryz.prog 129 [.agg (eLd xx).toArray,.pointer (some ⟨b,0,none⟩)] w0 fun v w=>v=.bool (!p (ntL xx))∧Below w0.heap.size w0 w:=by
 refine az (n:=9) func129 rfl ntmps129 rfl ?_
 have hI:=Inv.start w0
 refine ab (rgn rfl (ac (ca hI (eLd xx) rfl fun b1 w hI=>pu kf rfl (aa (ab (dh hI [0] (by decide) rfl rfl rfl fun hsub=>ap 0 (fv) hsub rfl (by kernel_rfl) (fun w hI=>dj hI (fv) isAgg96 rfl (iz hb) (by simp) (io hb rfl) br) ?_))))))
 refine ap 1 (.agg (eLd xx).toArray) hsub rfl (by kernel_rfl) (fun w hI=>ar hI 0 6 (eLd xx) isAgg30 sizeOf30 rfl rfl rfl rfl br) ?_
 refine ap 2 (.agg #[iv xx.src,iv xx.kn,iv xx.un]) hsub rfl (by kernel_rfl) (fun w hI=>co 74 [.agg (eLd xx).toArray] (by kernel_rfl) (noteOfLoad_c xx.src xx.hr xx.lo xx.hi xx.kn xx.un _) (fun v' w' h=>h)) ?_
 refine ap 3 (.bool (p (ntL xx))) hsub rfl (by kernel_rfl) (fun w hI=>im [.agg #[iv xx.src,iv xx.kn,iv xx.un]] rfl (by kernel_rfl) (hf w hI.below) (fun v' w' h=>h)) ?_
 refine alp 4 (.bool (!(p (ntL xx)))) hsub rfl (by kernel_rfl) (fun _=>rfl) ?_
 refine alp 5 (.bool (!(p (ntL xx)))) hsub rfl (by kernel_rfl) (fun _=>rfl) ?_
 refine cp rfl (fun w hI=>?_)
 refine aj ?_
 exact ⟨.bool (!(p (ntL xx))),Ret.r1 rfl rfl,⟨rfl,hI.below⟩⟩


theorem filtered2_c (w0:World) (xx:Ld) (b:Nat) (fv:Value) (p:Nt→Bool) (hb:w0.heap[b]?=some (blk [fv] 96)) (hf:∀ w,Below w0.heap.size w0 w→cx Tryz.prog fv [.agg (eNt (ntL xx)).toArray] w fun v w'=>v=.bool (p (ntL xx))∧Below w.heap.size w w'):bn Tryz.prog 131 [.agg (eLd xx).toArray,.pointer (some ⟨b,0,none⟩)] w0 fun v w=>v=.bool (!p (ntL xx))∧Below w0.heap.size w0 w:=by
 refine az (n:=9) func131 rfl ntmps131 rfl ?_
 have hI:=Inv.start w0
 refine ab (rgn rfl (ac (ca hI (eLd xx) rfl fun b1 w hI=>pu kf rfl (aa (ab (dh hI [0] (by decide) rfl rfl rfl fun hsub=>ap 0 (fv) hsub rfl (by kernel_rfl) (fun w hI=>dj hI (fv) isAgg96 rfl (iz hb) (by simp) (io hb rfl) br) ?_))))))
 refine ap 1 (.agg (eLd xx).toArray) hsub rfl (by kernel_rfl) (fun w hI=>ar hI 0 6 (eLd xx) isAgg31 sizeOf31 rfl rfl rfl rfl br) ?_
 refine ap 2 (.agg #[iv xx.src,iv xx.kn,iv xx.un]) hsub rfl (by kernel_rfl) (fun w hI=>co 76 [.agg (eLd xx).toArray] (by kernel_rfl) (noteOfStand_c xx.src xx.hr xx.lo xx.hi xx.kn xx.un _) (fun v' w' h=>h)) ?_
 refine ap 3 (.bool (p (ntL xx))) hsub rfl (by kernel_rfl) (fun w hI=>im [.agg #[iv xx.src,iv xx.kn,iv xx.un]] rfl (by kernel_rfl) (hf w hI.below) (fun v' w' h=>h)) ?_
 refine alp 4 (.bool (!(p (ntL xx)))) hsub rfl (by kernel_rfl) (fun _=>rfl) ?_
 refine alp 5 (.bool (!(p (ntL xx)))) hsub rfl (by kernel_rfl) (fun _=>rfl) ?_
 refine cp rfl (fun w hI=>?_)
 refine aj ?_
 exact ⟨.bool (!(p (ntL xx))),Ret.r1 rfl rfl,⟨rfl,hI.below⟩⟩


theorem filtered3_c (w0:World) (xx:Sp) (b:Nat) (fv:Value) (p:Nt→Bool) (hb:w0.heap[b]?=some (blk [fv] 96)) (hf:∀ w,Below w0.heap.size w0 w→cx Tryz.prog fv [.agg (eNt (ntS xx)).toArray] w fun v w'=>v=.bool (p (ntS xx))∧Below w.heap.size w w'):bn Tryz.prog 133 [.agg (eSp xx).toArray,.pointer (some ⟨b,0,none⟩)] w0 fun v w=>v=.bool (!p (ntS xx))∧Below w0.heap.size w0 w:=by
 refine az (n:=9) func133 rfl ntmps133 rfl ?_
 have hI:=Inv.start w0
 refine ab (rgn rfl (ac (ca hI (eSp xx) rfl fun b1 w hI=>pu kf rfl (aa (ab (dh hI [0] (by decide) rfl rfl rfl fun hsub=>ap 0 (fv) hsub rfl (by kernel_rfl) (fun w hI=>dj hI (fv) isAgg96 rfl (iz hb) (by simp) (io hb rfl) br) ?_))))))
 refine ap 1 (.agg (eSp xx).toArray) hsub rfl (by kernel_rfl) (fun w hI=>ar hI 0 6 (eSp xx) isAgg33 sizeOf33 rfl rfl rfl rfl br) ?_
 refine ap 2 (.agg #[iv xx.src,iv xx.kn,iv xx.un]) hsub rfl (by kernel_rfl) (fun w hI=>co 78 [.agg (eSp xx).toArray] (by kernel_rfl) (ir xx.src xx.kd xx.fr xx.to xx.kn xx.un _) (fun v' w' h=>h)) ?_
 refine ap 3 (.bool (p (ntS xx))) hsub rfl (by kernel_rfl) (fun w hI=>im [.agg #[iv xx.src,iv xx.kn,iv xx.un]] rfl (by kernel_rfl) (hf w hI.below) (fun v' w' h=>h)) ?_
 refine alp 4 (.bool (!(p (ntS xx)))) hsub rfl (by kernel_rfl) (fun _=>rfl) ?_
 refine alp 5 (.bool (!(p (ntS xx)))) hsub rfl (by kernel_rfl) (fun _=>rfl) ?_
 refine cp rfl (fun w hI=>?_)
 refine aj ?_
 exact ⟨.bool (!(p (ntS xx))),Ret.r1 rfl rfl,⟨rfl,hI.below⟩⟩


theorem notes_c (w0:World) (pl:Pl) (e:Option Addr) (a h:Nat) (f:Option Addr) (b i:Nat) (g:Option Addr) (d j:Nat) (hP:gz w0 pl e a f b g d) (hS:Small pl):bn Tryz.prog 68 [.agg (qn6 pl.lo pl.hi e a h f b i g d j pl.geese).toArray] w0 fun v w=>Gives 3 95 none (pl.loads.length+pl.stands.length+pl.spells.length) (al eNt (notesOf pl)) w0 v w:=by
 have hm1:=hP.m1; have hm2:=hP.m2; have hm3:=hP.m3; have hs1:=hS.s1; have hs2:=hS.s2; have hs3:=hS.s3
 refine az (n:=15) func68 rfl ntmps68 rfl ?_
 have hI:=Inv.start w0
 refine ab (rgn rfl (ac (ca hI (qn6 pl.lo pl.hi e a h f b i g d j pl.geese) rfl fun b1 w hI=>pu (.slice none 0 0) rfl (aa (ab (rgn rfl (pu (.pointer (some ⟨b1,2,none⟩)) rfl (ac (ag hI 0 (.slice e a h) isAgg24 rfl rfl rfl ?_)))))))))
 have hI:=hI.nilRow 95
 refine ac (s_callGives hI 134 [.slice none 0 0,.slice e a h,.func (.func 74) #[] #[]] 0 rfl (by kernel_rfl) (appendLoads_c _ none 0 0 [] [] pl.loads e a h (.func (.func 74) #[] #[]) ntL (hI.hasg 0 rfl) (Row.nil_ 3) hP.m1 (hI.apartBase 0 rfl hP.c1) (fun w1 _ x _=>cx.of (args':=[.agg (eLd x).toArray]) rfl (noteOfLoad_c x.src x.hr x.lo x.hi x.kn x.un w1)) (by omega)) ?_)
 intro g2 c3 cl4 w hI r5
 have r5:Row 3 g2 (0+a) c3 cl4 (al eNt ((pl.loads).map ntL)):=r5
 refine pu (slv g2 (0+a) c3) rfl (aa (ab (rgn rfl (pu (slv g2 (0+a) c3) rfl (pu (.pointer (some ⟨b1,3,none⟩)) rfl (ac (ag hI 2 (.slice f b i) isAgg25 rfl rfl rfl ?_)))))))
 refine ac (s_callGives hI 135 [slv g2 (0+a) c3,.slice f b i,.func (.func 76) #[] #[]] 0 rfl (by kernel_rfl) (appendStands_c _ g2 (0+a) c3 cl4 ((pl.loads).map ntL) pl.stands f b i (.func (.func 76) #[] #[]) ntL (hI.hasg 0 rfl) r5 hP.m2 (hI.apartBase 0 rfl hP.c2) (fun w1 _ x _=>cx.of (args':=[.agg (eLd x).toArray]) rfl (noteOfStand_c x.src x.hr x.lo x.hi x.kn x.un w1)) (by omega)) ?_)
 intro g6 c7 cl8 w hI r9
 have r9:Row 3 g6 (0+a+b) c7 cl8 (al eNt ((pl.loads).map ntL++(pl.stands).map ntL)):=r9
 refine pu (slv g6 (0+a+b) c7) rfl (aa (ab (rgn rfl (pu (slv g6 (0+a+b) c7) rfl (pu (.pointer (some ⟨b1,4,none⟩)) rfl (ac (ag hI 3 (.slice g d j) isAgg26 rfl rfl rfl ?_)))))))
 refine ac (s_callGives hI 136 [slv g6 (0+a+b) c7,.slice g d j,.func (.func 78) #[] #[]] 0 rfl (by kernel_rfl) (appendSpells_c _ g6 (0+a+b) c7 cl8 ((pl.loads).map ntL++(pl.stands).map ntL) pl.spells g d j (.func (.func 78) #[] #[]) ntS (hI.hasg 0 rfl) r9 hP.m3 (hI.apartBase 0 rfl hP.c3) (fun w1 _ x _=>cx.of (args':=[.agg (eSp x).toArray]) rfl (ir x.src x.kd x.fr x.to x.kn x.un w1)) (by omega)) ?_)
 intro k l o w hI m
 have m:Row 3 k (0+a+b+d) l o (al eNt ((pl.loads).map ntL++(pl.stands).map ntL++(pl.spells).map ntS)):=m
 refine pu (slv k (0+a+b+d) l) rfl (aa (aj ?_))
 exact ⟨slv k (0+a+b+d) l,Ret.r1 rfl rfl,⟨k,l,o,(by rw [show 0+a+b+d=pl.loads.length+pl.stands.length+pl.spells.length by omega]),hI.pk [0] rfl rfl,m.to rfl (by omega)⟩⟩


theorem hasSource_c (w0:World) (pl:Pl) (a:Option Addr) (d i:Nat) (e:Option Addr) (f j:Nat) (g:Option Addr) (h k:Nat) (hP:gz w0 pl a d e f g h) (hS:Small pl) (s:Int):bn Tryz.prog 61 [.agg (qn6 pl.lo pl.hi a d i e f j g h k pl.geese).toArray,.int .i64 s] w0 fun v w=>v=.bool (hasB pl s)∧Below w0.heap.size w0 w:=by
 have hm1:=hP.m1; have hm2:=hP.m2; have hm3:=hP.m3; have hs1:=hS.s1; have hs2:=hS.s2; have hs3:=hS.s3
 refine az (n:=9) func61 rfl ntmps61 rfl ?_
 have hI:=Inv.start w0
 refine ab (rgn rfl (ac (ca hI (qn6 pl.lo pl.hi a d i e f j g h k pl.geese) rfl fun b1 w hI=>ac (ca hI [iv s] rfl fun b2 w hI=>pu kf rfl (aa (ab (rgn rfl (ac (ar hI 1 6 (qn6 pl.lo pl.hi a d i e f j g h k pl.geese) isAgg28 sizeOf28 rfl rfl rfl rfl ?_)))))))))
 refine ac (gj hI 68 [.agg (qn6 pl.lo pl.hi a d i e f j g h k pl.geese).toArray] (by kernel_rfl) (notes_c _ pl a d i e f j g h k (hP.inv0 hI) hS) ?_)
 intro g3 c4 cl5 w hI r6
 have r6:Row 3 g3 (pl.loads.length+pl.stands.length+pl.spells.length) c4 cl5 (al eNt (notesOf pl)):=r6
 refine pu (.func (.func 122) #[] #[.pointer (some ⟨b2,0,none⟩)]) (by kernel_rfl) (ac (bg hI 121 [slv g3 (pl.loads.length+pl.stands.length+pl.spells.length) c4,.func (.func 122) #[] #[.pointer (some ⟨b2,0,none⟩)]] (.bool ((notesOf pl).any (fun y:Nt=>decide (y.s=s)))) (by kernel_rfl) (ContainsNote_c _ (notesOf pl) (g3.map fun b=>⟨b,0,none⟩) (pl.loads.length+pl.stands.length+pl.spells.length) c4 (.func (.func 122) #[] #[.pointer (some ⟨b2,0,none⟩)]) (fun y:Nt=>decide (y.s=s)) (r6.n_eq eNt_len (by decide)) (by omega) (hI.rowCells 0 rfl r6) (fun w1 hb y _=>cx.of (args':=[.agg (eNt y).toArray,.pointer (some ⟨b2,0,none⟩)]) rfl (hasSource1_c w1 y s b2 (jy hb (hI.has 1 _ _ rfl).1)))) fun w hI=>pu (.bool ((notesOf pl).any (fun y:Nt=>decide (y.s=s)))) rfl (aa (aj ?_))))
 exact ⟨.bool ((notesOf pl).any (fun y:Nt=>decide (y.s=s))),Ret.r1 rfl rfl,⟨rfl,hI.below⟩⟩


theorem copyOf_c (w0:World) (pl:Pl) (g:Option Addr) (a j:Nat) (h:Option Addr) (b k:Nat) (i:Option Addr) (d l:Nat) (hP:gz w0 pl g a h b i d) (hS:Small pl):bn Tryz.prog 62 [.agg (qn6 pl.lo pl.hi g a j h b k i d l pl.geese).toArray] w0 fun v w=>GivesPlot pl w0 v w:=by
 have hm1:=hP.m1; have hm2:=hP.m2; have hm3:=hP.m3; have hs1:=hS.s1; have hs2:=hS.s2; have hs3:=hS.s3
 refine az (n:=16) func62 rfl ntmps62 rfl ?_
 have hI:=Inv.start w0
 refine ab (rgn rfl (ac (ca hI (qn6 pl.lo pl.hi g a j h b k i d l pl.geese) rfl fun b1 w hI=>ac (bh hI (qn6 0 0 none 0 0 none 0 0 none 0 0 0) zeroValue28 rfl fun b2 w hI=>aa (ab (rgn rfl (pu (.pointer (some ⟨b1,2,none⟩)) rfl (ac (ag hI 1 (.slice g a j) isAgg24 rfl rfl rfl ?_)))))))))
 refine ac (gj hI 123 [.slice g a j] (by kernel_rfl) (CloneLoads_c _ pl.loads g a j hP.m1 (by omega) (hP.c1.inv0 hI)) ?_)
 intro g3 c4 cl5 w hI r6
 have r6:Row 6 g3 (a) c4 cl5 (al eLd (pl.loads)):=r6
 refine pu (.pointer (some ⟨b1,2,none⟩)) rfl (ac (aq hI 2 1 [slv g3 a c4] sizeOf24 rfl rfl rfl rfl rfl (kh rfl) fun w hI=>aa (ab (rgn rfl (pu (.pointer (some ⟨b1,3,none⟩)) rfl (ac (ag hI 2 (.slice h b k) isAgg25 rfl rfl rfl ?_)))))))
 refine ac (gj hI 124 [.slice h b k] (by kernel_rfl) (jr _ pl.stands h b k hP.m2 (by omega) (hP.c2.inv0 hI)) ?_)
 intro g7 c8 cl9 w hI m
 have m:Row 6 g7 (b) c8 cl9 (al eLd (pl.stands)):=m
 refine pu (.pointer (some ⟨b1,3,none⟩)) rfl (ac (aq hI 3 1 [slv g7 b c8] sizeOf25 rfl rfl rfl rfl rfl (kh rfl) fun w hI=>aa (ab (rgn rfl (pu (.pointer (some ⟨b1,4,none⟩)) rfl (ac (ag hI 3 (.slice i d l) isAgg26 rfl rfl rfl ?_)))))))
 refine ac (gj hI 125 [.slice i d l] (by kernel_rfl) (CloneSpells_c _ pl.spells i d l hP.m3 (by omega) (hP.c3.inv0 hI)) ?_)
 intro e f p w hI o
 have o:Row 6 e (d) f p (al eSp (pl.spells)):=o
 refine pu (.pointer (some ⟨b1,4,none⟩)) rfl (ac (aq hI 4 1 [slv e d f] sizeOf26 rfl rfl rfl rfl rfl (kh rfl) fun w hI=>aa (ab (rgn rfl (ac (ar hI 4 6 [iv pl.lo,iv pl.hi,slv g3 a c4,slv g7 b c8,slv e d f,iv pl.geese] isAgg28 sizeOf28 rfl rfl rfl rfl ?_))))))
 refine ac (aq hI 3 6 [iv pl.lo,iv pl.hi,slv g3 a c4,slv g7 b c8,slv e d f,iv pl.geese] sizeOf28 rfl rfl rfl rfl rfl (kh rfl) fun w hI=>aa (aj ?_))
 exact ⟨.agg #[iv pl.lo,iv pl.hi,slv g3 a c4,slv g7 b c8,slv e d f,iv pl.geese],Ret.c rfl rfl (ce hI 3 6 [iv pl.lo,iv pl.hi,slv g3 a c4,slv g7 b c8,slv e d f,iv pl.geese] isAgg28 sizeOf28 rfl rfl rfl),⟨g3,c4,cl5,g7,c8,cl9,e,f,p,(by first | rfl | (simp only [plv,← hm1,← hm2,← hm3]; done) | (simp [plv,cv]; done)),hI.pk [2,1,0] rfl rfl,(r6.to (by first | rfl | simp [cv]) (by first | rfl | assumption | simp [cv])),(m.to (by first | rfl | simp [cv]) (by first | rfl | assumption | simp [cv])),(o.to (by first | rfl | simp [cv]) (by first | rfl | assumption | simp [cv]))⟩⟩


theorem filtered_c (w0:World) (pl:Pl) (d:Option Addr) (e j:Nat) (f:Option Addr) (g k:Nat) (h:Option Addr) (i l:Nat) (hP:gz w0 pl d e f g h i) (hS:Small pl) (fv:Value) (p:Nt→Bool) (hfc:fv.cells = #[fv]) (hf:∀ w,Below w0.heap.size w0 w→∀ y:Nt,cx Tryz.prog fv [.agg (eNt y).toArray] w fun v w'=>v=.bool (p y)∧Below w.heap.size w w'):bn Tryz.prog 67 [.agg (qn6 pl.lo pl.hi d e j f g k h i l pl.geese).toArray,fv] w0 fun v w=>GivesPlot (cv p pl) w0 v w:=by
 have hm1:=hP.m1; have hm2:=hP.m2; have hm3:=hP.m3; have hs1:=hS.s1; have hs2:=hS.s2; have hs3:=hS.s3
 refine az (n:=23) func67 rfl ntmps67 rfl ?_
 have hI:=Inv.start w0
 refine ab (rgn rfl (ac (ca hI (qn6 pl.lo pl.hi d e j f g k h i l pl.geese) rfl fun b1 w hI=>ac (ca hI [fv] hfc fun b2 w hI=>ac (bh hI (qn6 0 0 none 0 0 none 0 0 none 0 0 0) zeroValue28 rfl fun b3 w hI=>aa (ab (rgn rfl (ac (ar hI 2 6 (qn6 pl.lo pl.hi d e j f g k h i l pl.geese) isAgg28 sizeOf28 rfl rfl rfl rfl ?_)))))))))
 refine ac (s_callPlot hI (q:=pl) 62 [.agg (qn6 pl.lo pl.hi d e j f g k h i l pl.geese).toArray] (by kernel_rfl) (copyOf_c _ pl d e j f g k h i l (hP.inv0 hI) hS) fun g4 c5 cl6 g8 c9 z a b A w hI r7 B C=>ac (aq hI 5 6 [iv pl.lo,iv pl.hi,slv g4 pl.loads.length c5,slv g8 pl.stands.length c9,slv a pl.spells.length b,iv pl.geese] sizeOf28 rfl rfl rfl rfl rfl (kh rfl) fun w hI=>aa (ab (rgn rfl (pu (.pointer (some ⟨b1,2,none⟩)) rfl (ac (ag hI 5 (slv g4 pl.loads.length c5) isAgg24 rfl rfl rfl ?_)))))))
 refine pu (.func (.func 129) #[] #[.pointer (some ⟨b2,0,none⟩)]) (by kernel_rfl) (ac (s_callGivesIn hI 128 [slv g4 pl.loads.length c5,.func (.func 129) #[] #[.pointer (some ⟨b2,0,none⟩)]] 0 rfl (by kernel_rfl) (DeleteLoads_c _ g4 pl.loads.length c5 cl6 pl.loads (.func (.func 129) #[] #[.pointer (some ⟨b2,0,none⟩)]) (fun x:Ld=>!p (ntL x)) (hI.hasg 0 rfl) r7 (by omega) (fun w1 hb x _=>cx.of (args':=[.agg (eLd x).toArray,.pointer (some ⟨b2,0,none⟩)]) rfl (filtered1_c w1 x b2 fv p (but_blk hb (hI.has 4 _ _ rfl).1 (hI.ne 0 4 (by decide) rfl rfl)) (fun w2 h2=>hf w2 ((hI.butBelow 0 rfl hb).trans (h2.mono (hI.butBelow 0 rfl hb).size)) (ntL x))))) ?_))
 intro s w hI m
 have m:Row 6 g4 (((pl.loads).filter (fun y=>!(fun x:Ld=>!p (ntL x)) y)).length) c5 s (al eLd ((pl.loads).filter (fun y=>!(fun x:Ld=>!p (ntL x)) y))):=m
 refine pu (.pointer (some ⟨b1,2,none⟩)) rfl (ac (aq hI 6 1 [slv g4 (((pl.loads).filter (fun y=>!(fun x:Ld=>!p (ntL x)) y)).length) c5] sizeOf24 rfl rfl rfl rfl rfl (kh rfl) fun w hI=>aa (ab (rgn rfl (pu (.pointer (some ⟨b1,3,none⟩)) rfl (ac (ag hI 6 (slv g8 pl.stands.length c9) isAgg25 rfl rfl rfl ?_)))))))
 refine pu (.func (.func 131) #[] #[.pointer (some ⟨b2,0,none⟩)]) (by kernel_rfl) (ac (s_callGivesIn hI 130 [slv g8 pl.stands.length c9,.func (.func 131) #[] #[.pointer (some ⟨b2,0,none⟩)]] 2 rfl (by kernel_rfl) (DeleteStands_c _ g8 pl.stands.length c9 z pl.stands (.func (.func 131) #[] #[.pointer (some ⟨b2,0,none⟩)]) (fun x:Ld=>!p (ntL x)) (hI.hasg 2 rfl) B (by omega) (fun w1 hb x _=>cx.of (args':=[.agg (eLd x).toArray,.pointer (some ⟨b2,0,none⟩)]) rfl (filtered2_c w1 x b2 fv p (but_blk hb (hI.has 5 _ _ rfl).1 (hI.ne 2 5 (by decide) rfl rfl)) (fun w2 h2=>hf w2 ((hI.butBelow 2 rfl hb).trans (h2.mono (hI.butBelow 2 rfl hb).size)) (ntL x))))) ?_))
 intro t w hI o
 have o:Row 6 g8 (((pl.stands).filter (fun y=>!(fun x:Ld=>!p (ntL x)) y)).length) c9 t (al eLd ((pl.stands).filter (fun y=>!(fun x:Ld=>!p (ntL x)) y))):=o
 refine pu (.pointer (some ⟨b1,3,none⟩)) rfl (ac (aq hI 7 1 [slv g8 (((pl.stands).filter (fun y=>!(fun x:Ld=>!p (ntL x)) y)).length) c9] sizeOf25 rfl rfl rfl rfl rfl (kh rfl) fun w hI=>aa (ab (rgn rfl (pu (.pointer (some ⟨b1,4,none⟩)) rfl (ac (ag hI 7 (slv a pl.spells.length b) isAgg26 rfl rfl rfl ?_)))))))
 refine pu (.func (.func 133) #[] #[.pointer (some ⟨b2,0,none⟩)]) (by kernel_rfl) (ac (s_callGivesIn hI 132 [slv a pl.spells.length b,.func (.func 133) #[] #[.pointer (some ⟨b2,0,none⟩)]] 4 rfl (by kernel_rfl) (DeleteSpells_c _ a pl.spells.length b A pl.spells (.func (.func 133) #[] #[.pointer (some ⟨b2,0,none⟩)]) (fun x:Sp=>!p (ntS x)) (hI.hasg 4 rfl) C (by omega) (fun w1 hb x _=>cx.of (args':=[.agg (eSp x).toArray,.pointer (some ⟨b2,0,none⟩)]) rfl (filtered3_c w1 x b2 fv p (but_blk hb (hI.has 6 _ _ rfl).1 (hI.ne 4 6 (by decide) rfl rfl)) (fun w2 h2=>hf w2 ((hI.butBelow 4 rfl hb).trans (h2.mono (hI.butBelow 4 rfl hb).size)) (ntS x))))) ?_))
 intro u w hI r
 have r:Row 6 a (((pl.spells).filter (fun y=>!(fun x:Sp=>!p (ntS x)) y)).length) b u (al eSp ((pl.spells).filter (fun y=>!(fun x:Sp=>!p (ntS x)) y))):=r
 refine pu (.pointer (some ⟨b1,4,none⟩)) rfl (ac (aq hI 8 1 [slv a (((pl.spells).filter (fun y=>!(fun x:Sp=>!p (ntS x)) y)).length) b] sizeOf26 rfl rfl rfl rfl rfl (kh rfl) fun w hI=>aa (ab (rgn rfl (ac (ar hI 8 6 [iv pl.lo,iv pl.hi,slv g4 (((pl.loads).filter (fun y=>!(fun x:Ld=>!p (ntL x)) y)).length) c5,slv g8 (((pl.stands).filter (fun y=>!(fun x:Ld=>!p (ntL x)) y)).length) c9,slv a (((pl.spells).filter (fun y=>!(fun x:Sp=>!p (ntS x)) y)).length) b,iv pl.geese] isAgg28 sizeOf28 rfl rfl rfl rfl ?_))))))
 refine ac (aq hI 6 6 [iv pl.lo,iv pl.hi,slv g4 (((pl.loads).filter (fun y=>!(fun x:Ld=>!p (ntL x)) y)).length) c5,slv g8 (((pl.stands).filter (fun y=>!(fun x:Ld=>!p (ntL x)) y)).length) c9,slv a (((pl.spells).filter (fun y=>!(fun x:Sp=>!p (ntS x)) y)).length) b,iv pl.geese] sizeOf28 rfl rfl rfl rfl rfl (kh rfl) fun w hI=>aa (aj ?_))
 exact ⟨.agg #[iv pl.lo,iv pl.hi,slv g4 (((pl.loads).filter (fun y=>!(fun x:Ld=>!p (ntL x)) y)).length) c5,slv g8 (((pl.stands).filter (fun y=>!(fun x:Ld=>!p (ntL x)) y)).length) c9,slv a (((pl.spells).filter (fun y=>!(fun x:Sp=>!p (ntS x)) y)).length) b,iv pl.geese],Ret.c rfl rfl (ce hI 6 6 [iv pl.lo,iv pl.hi,slv g4 (((pl.loads).filter (fun y=>!(fun x:Ld=>!p (ntL x)) y)).length) c5,slv g8 (((pl.stands).filter (fun y=>!(fun x:Ld=>!p (ntL x)) y)).length) c9,slv a (((pl.spells).filter (fun y=>!(fun x:Sp=>!p (ntS x)) y)).length) b,iv pl.geese] isAgg28 sizeOf28 rfl rfl rfl),⟨g4,c5,s,g8,c9,t,a,b,u,(by first | rfl | (simp only [plv,← hm1,← hm2,← hm3]; done) | (simp [plv,cv]; done)),hI.pk [2,1,0] rfl rfl,(m.to (by first | rfl | simp [cv]) (by first | rfl | assumption | simp [cv])),(o.to (by first | rfl | simp [cv]) (by first | rfl | assumption | simp [cv])),(r.to (by first | rfl | simp [cv]) (by first | rfl | assumption | simp [cv]))⟩⟩

theorem codeI_no {b:Bool} {e:Int} (h:¬ cg b e=0):b=false:=by
  cases b with
  | true=>exact absurd rfl h
  | false=>rfl


theorem Without_c (w0:World) (pl:Pl) (a:Option Addr) (b i:Nat) (d:Option Addr) (f j:Nat) (g:Option Addr) (h k:Nat) (hP:gz w0 pl a b d f g h) (s:Int):bn Tryz.prog 16 [.agg (qn6 pl.lo pl.hi a b i d f j g h k pl.geese).toArray,.int .i64 s] w0 fun v w=>∃ v1,v=.tuple #[v1,.int .i64 (ff pl s).2]∧GivesPlot (ff pl s).1 w0 v1 w:=by
 refine az (n:=23) func16 rfl ntmps16 rfl ?_
 have hI:=Inv.start w0
 refine ab (rgn rfl (ac (ca hI (qn6 pl.lo pl.hi a b i d f j g h k pl.geese) rfl fun b1 w hI=>ac (ca hI [iv s] rfl fun b2 w hI=>ac (bh hI (qn6 0 0 none 0 0 none 0 0 none 0 0 0) zeroValue28 rfl fun b3 w hI=>pu (iv 0) rfl (aa (ab (ab (rgn rfl (ac (ar hI 2 6 (qn6 pl.lo pl.hi a b i d f j g h k pl.geese) isAgg28 sizeOf28 rfl rfl rfl rfl ?_)))))))))))
 refine ac (bg hI 22 [.agg (qn6 pl.lo pl.hi a b i d f j g h k pl.geese).toArray] (iv (cg (dw pl) 13)) (by kernel_rfl) (Check_c _ pl a b i d f j g h k (hP.inv0 hI)) fun w hI=>pu (iv (cg (dw pl) 13)) rfl (aa (ab (rgn rfl (pu (iv (cg (dw pl) 13)) rfl (ac (de rfl rfl ?_ ?_)))))))
 ·intro h1
  refine aa (ah rfl (ab (rgn rfl (pu (.agg (qn6 0 0 none 0 0 none 0 0 none 0 0 0).toArray) (by kernel_rfl) (pu (iv (cg (dw pl) 13)) rfl (ac (aq hI 0 6 (qn6 0 0 none 0 0 none 0 0 none 0 0 0) sizeOf28 rfl rfl rfl rfl rfl (kh rfl) fun w hI=>pu (iv (cg (dw pl) 13)) rfl (aa (aj ?_)))))))))
  have hI:=hI.nilRow 33
  have hI:=hI.nilRow 31
  have hI:=hI.nilRow 30
  have e:ff pl s=(zeroPl,cg (dw pl) 13):=by simp [ff,cg,codeI_no h1]
  exact ⟨.tuple #[.agg (qn6 0 0 none 0 0 none 0 0 none 0 0 0).toArray,iv (cg (dw pl) 13)],Ret.ct rfl rfl (ce hI 3 6 (qn6 0 0 none 0 0 none 0 0 none 0 0 0) isAgg28 sizeOf28 rfl rfl rfl) rfl,(by rw [e]; exact ⟨.agg (qn6 0 0 none 0 0 none 0 0 none 0 0 0).toArray,rfl,⟨none,0,[],none,0,[],none,0,[],rfl,hI.pk [0,1,2] rfl rfl,Row.nil_ 6,Row.nil_ 6,Row.nil_ 6⟩⟩)⟩
 intro h2
 refine aa (ai rfl (ak (ab (ab (rgn rfl (ac (ar hI 2 6 (qn6 pl.lo pl.hi a b i d f j g h k pl.geese) isAgg28 sizeOf28 rfl rfl rfl rfl ?_)))))))
 refine ac (ag hI 1 (iv s) isAgg3 rfl rfl rfl ?_)
 refine ac (fc hI 61 [.agg (qn6 pl.lo pl.hi a b i d f j g h k pl.geese).toArray,iv s] (hasB pl s) (by kernel_rfl) (hasSource_c _ pl a b i d f j g h k (hP.inv0 hI) (eo (ia h2 (by decide))) s) ?_ ?_)
 ·intro h3 w hI
  refine pu kf rfl (aa (ai rfl (ak (ab (rgn rfl (pu (.func (.func 66) #[] #[.pointer (some ⟨b2,0,none⟩)]) (by kernel_rfl) (pu (.func (.func 66) #[] #[.pointer (some ⟨b2,0,none⟩)]) rfl (aa (ab ?_)))))))))
  refine rgn rfl (ac (ar hI 2 6 (qn6 pl.lo pl.hi a b i d f j g h k pl.geese) isAgg28 sizeOf28 rfl rfl rfl rfl ?_))
  refine pu (.func (.func 66) #[] #[.pointer (some ⟨b2,0,none⟩)]) rfl (ac (s_callPlot hI (q:=cv (fun y:Nt=>decide (y.s≠s)) pl) 67 [.agg (qn6 pl.lo pl.hi a b i d f j g h k pl.geese).toArray,.func (.func 66) #[] #[.pointer (some ⟨b2,0,none⟩)]] (by kernel_rfl) (filtered_c _ pl a b i d f j g h k (hP.inv0 hI) (eo (ia h2 (by decide))) (.func (.func 66) #[] #[.pointer (some ⟨b2,0,none⟩)]) (fun y:Nt=>decide (y.s≠s)) rfl (fun w1 hb y=>cx.of (args':=[.agg (eNt y).toArray,.pointer (some ⟨b2,0,none⟩)]) rfl (Without1_c w1 y s b2 (jy hb (hI.has 1 _ _ rfl).1)))) fun g4 c5 cl6 g8 c9 o l m p w hI r7 r t=>ac (aq hI 3 6 [iv ((cv (fun y:Nt=>decide (y.s≠s)) pl).lo),iv ((cv (fun y:Nt=>decide (y.s≠s)) pl).hi),slv g4 ((cv (fun y:Nt=>decide (y.s≠s)) pl).loads.length) c5,slv g8 ((cv (fun y:Nt=>decide (y.s≠s)) pl).stands.length) c9,slv l ((cv (fun y:Nt=>decide (y.s≠s)) pl).spells.length) m,iv ((cv (fun y:Nt=>decide (y.s≠s)) pl).geese)] sizeOf28 rfl rfl rfl rfl rfl (kh rfl) fun w hI=>pu (iv 0) rfl (aa (aj ?_)))))
  have e:ff pl s=(cv (fun y=>decide (y.s≠s)) pl,0):=by simp [ff,cg,ia h2 (by decide),h3]
  exact ⟨.tuple #[.agg #[iv ((cv (fun y:Nt=>decide (y.s≠s)) pl).lo),iv ((cv (fun y:Nt=>decide (y.s≠s)) pl).hi),slv g4 ((cv (fun y:Nt=>decide (y.s≠s)) pl).loads.length) c5,slv g8 ((cv (fun y:Nt=>decide (y.s≠s)) pl).stands.length) c9,slv l ((cv (fun y:Nt=>decide (y.s≠s)) pl).spells.length) m,iv ((cv (fun y:Nt=>decide (y.s≠s)) pl).geese)],iv 0],Ret.ct rfl rfl (ce hI 3 6 [iv ((cv (fun y:Nt=>decide (y.s≠s)) pl).lo),iv ((cv (fun y:Nt=>decide (y.s≠s)) pl).hi),slv g4 ((cv (fun y:Nt=>decide (y.s≠s)) pl).loads.length) c5,slv g8 ((cv (fun y:Nt=>decide (y.s≠s)) pl).stands.length) c9,slv l ((cv (fun y:Nt=>decide (y.s≠s)) pl).spells.length) m,iv ((cv (fun y:Nt=>decide (y.s≠s)) pl).geese)] isAgg28 sizeOf28 rfl rfl rfl) rfl,(by rw [e]; exact ⟨.agg #[iv ((cv (fun y:Nt=>decide (y.s≠s)) pl).lo),iv ((cv (fun y:Nt=>decide (y.s≠s)) pl).hi),slv g4 ((cv (fun y:Nt=>decide (y.s≠s)) pl).loads.length) c5,slv g8 ((cv (fun y:Nt=>decide (y.s≠s)) pl).stands.length) c9,slv l ((cv (fun y:Nt=>decide (y.s≠s)) pl).spells.length) m,iv ((cv (fun y:Nt=>decide (y.s≠s)) pl).geese)],rfl,⟨g4,c5,cl6,g8,c9,o,l,m,p,(by first | rfl | (simp only [plv,← hm1,← hm2,← hm3]; done) | (simp [plv,cv]; done)),hI.pk [0,1,2] rfl rfl,(r7.to (by first | rfl | simp [cv]) (by first | rfl | assumption | simp [cv])),(r.to (by first | rfl | simp [cv]) (by first | rfl | assumption | simp [cv])),(t.to (by first | rfl | simp [cv]) (by first | rfl | assumption | simp [cv]))⟩⟩)⟩
 intro h4 w hI
 refine pu kg rfl (aa (ah rfl (ab (rgn rfl (pu (.agg (qn6 0 0 none 0 0 none 0 0 none 0 0 0).toArray) (by kernel_rfl) (ac (aq hI 0 6 (qn6 0 0 none 0 0 none 0 0 none 0 0 0) sizeOf28 rfl rfl rfl rfl rfl (kh rfl) fun w hI=>pu (iv 3) rfl (aa (aj ?_)))))))))
 have hI:=hI.nilRow 33
 have hI:=hI.nilRow 31
 have hI:=hI.nilRow 30
 have e:ff pl s=(zeroPl,3):=by simp [ff,cg,ia h2 (by decide),h4]
 exact ⟨.tuple #[.agg (qn6 0 0 none 0 0 none 0 0 none 0 0 0).toArray,iv 3],Ret.ct rfl rfl (ce hI 3 6 (qn6 0 0 none 0 0 none 0 0 none 0 0 0) isAgg28 sizeOf28 rfl rfl rfl) rfl,(by rw [e]; exact ⟨.agg (qn6 0 0 none 0 0 none 0 0 none 0 0 0).toArray,rfl,⟨none,0,[],none,0,[],none,0,[],rfl,hI.pk [0,1,2] rfl rfl,Row.nil_ 6,Row.nil_ 6,Row.nil_ 6⟩⟩)⟩

end Go.K
