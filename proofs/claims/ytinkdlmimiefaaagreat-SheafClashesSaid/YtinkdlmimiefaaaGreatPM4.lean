/- Contracts of what copies and filters plots. -/
import Derived.Test.YtinkdlmimiefaaaGreatProg
import Derived.Test.YtinkdlmimiefaaaGreatPM3
namespace Go.K
open Go.Proofs Go.RowKit
set_option linter.unusedVariables false
set_option linter.unusedSimpArgs false
set_option maxRecDepth 100000
attribute [local irreducible] Seq Step CallV AnyE opX

section blocks
variable {P:Program} {ρ:Env} {B:List Nat} {w w0 w':World} {L N:List (Option Nat × Obj)} {R:Value→World→Prop}
theorem blk_lt {b:Nat} {o:Obj} (h:w.heap[b]?=some o):b < w.heap.size:=by
  rcases Nat.lt_or_ge b w.heap.size with hlt | hge
  · exact hlt
  · rw [Array.getElem?_eq_none hge] at h; cases h
theorem blk_cell {b:Nat} {cl:List Value} {E:TypeId} (h:w.heap[b]?=some (blk cl E)) {off:Nat} {v:Value} (hv:cl[off]?=some v):w.cell? ⟨b,off,none⟩=some v:=by
  have hc:cl.toArray[off]?=some v:=by simpa using hv
  simp [World.cell?,h,hc]
theorem below_blk (hb:Below w.heap.size w w') {b:Nat} {o:Obj} (h:w.heap[b]?=some o):w'.heap[b]?=some o:=(hb.block b (blk_lt h)).trans h
theorem but_blk {g:Option Nat} (hb:But g.toList w w') {b:Nat} {o:Obj} (h:w.heap[b]?=some o) (hne:g≠some b):w'.heap[b]?=some o:=(hb.block b (blk_lt h) (fun e=>hne (Option.mem_toList.mp e))).trans h
theorem Inv.ne (h:Inv B w0 w L) (i j:Nat) (hij:i≠j) {g:Option Nat} {b:Nat} {o p:Obj} (hi:L[i]?=some (g,o)) (hj:L[j]?=some (some b,p)):g≠some b:=fun e=>by
  subst e; exact h.sep i j b b o p hi hj hij rfl
theorem Inv.butBelow (h:Inv []  w0 w L) (i:Nat) {g:Option Nat} {o:Obj} (hi:L[i]?=some (g,o)) (hb:But g.toList w w'):Below w0.heap.size w0 w':=by
  refine ⟨hb.os.trans h.but.os,hb.tape.trans h.but.tape,hb.output.trans h.but.output,Nat.le_trans h.but.size hb.size,fun k hk=>?_⟩
  rw [hb.block k (Nat.lt_of_lt_of_le hk h.but.size) ?_,h.but.block k hk (by simp)]
  intro e
  rw [Option.mem_toList] at e
  subst e
  rcases (h.has i k o hi).2 with h1 | h1
  · omega
  · cases h1
/-- A call that returns a row of its own making. -/
theorem s_callNew (hI:Inv B w0 w L) {o:Oper} (f:FuncId) (args:List Value) {k:Nat} {E:TypeId} {n:Nat} {xs:List Value} (h:(execOp (ev ρ) o).run P w=.ok (.enter f args.toArray) w)
    (hc:Does P f args w fun v w'=>Gives k E none n xs w v w') (kk:∀ g c cl w',Inv B w0 w' ((g,blk cl E) :: L)→Row k g n c cl xs→R (slv g n c) w'):Step P o ρ w R :=
  s_call f args h hc fun v w' ⟨g,c,cl,hv,hN,hr⟩=>by
    subst hv
    refine kk g c cl w' (hI.join (N:=[(g,blk cl E)]) ⟨hN.but,hN.has,hN.sep⟩) hr
/-- A call that was lent the row's block at place i, and returns a row. -/
theorem s_callGives (hI:Inv B w0 w L) {o:Oper} (f:FuncId) (args:List Value) {k:Nat} {E:TypeId} {g:Option Nat} {n:Nat} {xs:List Value} (i:Nat) {ob:Obj} (hi:L[i]?=some (g,ob)) (h:(execOp (ev ρ) o).run P w=.ok (.enter f args.toArray) w)
    (hc:Does P f args w fun v w'=>Gives k E g n xs w v w') (kk:∀ g' c cl w',Inv B w0 w' ((g',blk cl E) :: L.set i (none,ob))→Row k g' n c cl xs→R (slv g' n c) w'):Step P o ρ w R :=
  s_call f args h hc fun v w' ⟨g',c,cl,hv,hN,hr⟩=>by
    subst hv
    exact kk g' c cl w' (hI.back i hi hN) hr
theorem s_callGivesIn (hI:Inv B w0 w L) {o:Oper} (f:FuncId) (args:List Value) {k:Nat} {E:TypeId} {g:Option Nat} {n c:Nat} {xs:List Value} (i:Nat) {ob:Obj} (hi:L[i]?=some (g,ob)) (h:(execOp (ev ρ) o).run P w=.ok (.enter f args.toArray) w)
    (hc:Does P f args w fun v w'=>GivesIn k E g c n xs w v w') (kk:∀ cl w',Inv B w0 w' ((g,blk cl E) :: L.set i (none,ob))→Row k g n c cl xs→R (slv g n c) w'):Step P o ρ w R :=
  s_call f args h hc fun v w' ⟨cl,hv,hN,hr⟩=>by
    subst hv
    exact kk cl w' (hI.back i hi hN) hr
/-- A plot in blocks of the call's own making. -/
def plv (q:Pl) (g1:Option Nat) (c1:Nat) (g2:Option Nat) (c2:Nat) (g3:Option Nat) (c3:Nat):Value:=.agg #[.int .i64 q.lo,.int .i64 q.hi,slv g1 q.loads.length c1,slv g2 q.stands.length c2,slv g3 q.spells.length c3,.int .i64 q.geese]
def GivesPlot (q:Pl) (w0:World) (v:Value) (w:World):Prop :=
  ∃ g1 c1 cl1 g2 c2 cl2 g3 c3 cl3,v=plv q g1 c1 g2 c2 g3 c3∧Inv []  w0 w [(g1,blk cl1 30),(g2,blk cl2 31),(g3,blk cl3 33)]
    ∧ Row 6 g1 q.loads.length c1 cl1 (flat eLd q.loads)∧Row 6 g2 q.stands.length c2 cl2 (flat eLd q.stands)∧Row 6 g3 q.spells.length c3 cl3 (flat eSp q.spells)
theorem s_callPlot (hI:Inv B w0 w L) {o:Oper} (f:FuncId) (args:List Value) {q:Pl} (h:(execOp (ev ρ) o).run P w=.ok (.enter f args.toArray) w)
    (hc:Does P f args w fun v w'=>GivesPlot q w v w') (kk:∀ g1 c1 cl1 g2 c2 cl2 g3 c3 cl3 w',Inv B w0 w' ((g1,blk cl1 30) :: (g2,blk cl2 31) :: (g3,blk cl3 33) :: L)→Row 6 g1 q.loads.length c1 cl1 (flat eLd q.loads)→Row 6 g2 q.stands.length c2 cl2 (flat eLd q.stands)→Row 6 g3 q.spells.length c3 cl3 (flat eSp q.spells)→R (plv q g1 c1 g2 c2 g3 c3) w'):Step P o ρ w R :=
  s_call f args h hc fun v w' ⟨g1,c1,cl1,g2,c2,cl2,g3,c3,cl3,hv,hN,r1,r2,r3⟩=>by
    subst hv
    exact kk g1 c1 cl1 g2 c2 cl2 g3 c3 cl3 w' (hI.join hN) r1 r2 r3
end blocks
structure Small (p:Pl):Prop where
  s1:p.loads.length≤60
  s2:p.stands.length≤60
  s3:p.spells.length≤60
theorem plotB_small {p:Pl} (h:plotB p=true):Small p:=by
  simp only [plotB,checkB,Bool.and_eq_true,decide_eq_true_eq] at h
  exact ⟨h.1.1.2.1,h.1.2.1,h.2.1⟩
theorem codeI_ok {b:Bool} {e:Int} (h:codeI b e=0) (he:e≠0):b=true:=by
  cases b with
  | true=>rfl
  | false=>exact absurd h he
def notesOf (p:Pl):List Nt:=p.loads.map ntL++p.stands.map ntL++p.spells.map ntS
def keepP (k:Nt→Bool) (p:Pl):Pl:={ p with loads:=p.loads.filter fun x=>k (ntL x),stands:=p.stands.filter fun x=>k (ntL x),spells:=p.spells.filter fun x=>k (ntS x) }
def hasB (p:Pl) (s:Int):Bool:=(notesOf p).any fun y=>decide (y.s=s)
def zeroPl:Pl:=⟨0,0,[],[],[],0⟩
def withoutF (p:Pl) (s:Int):Pl × Int:=if plotB p then if hasB p s then (keepP (fun y=>decide (y.s≠s)) p,0) else (zeroPl,3) else (zeroPl,13)


theorem hasSource1_c (w0:World) (y:Nt) (x:Int) (b:Nat) (hb:w0.heap[b]?=some (blk [.int .i64 x] 3)):Does Tryz.prog 122 [.agg #[.int .i64 y.s,.int .i64 y.k,.int .i64 y.u],.pointer (some ⟨b,0,none⟩)] w0 fun v w=>v=.bool (decide (y.s=x))∧Below w0.heap.size w0 w:=by
 refine calls_of (n:=8) Tryz.func122 rfl Tryz.ntmps122 rfl ?_
 have hI:=Inv.start w0
 refine wp_seq (rgn rfl (seq_c (s_boxI hI [iv y.s,iv y.k,iv y.u] rfl ?_)))
 intro b1 w hI
 refine pu (.bool false) rfl (seq_nil (wp_seq (rgn rfl (pu (.pointer (some ⟨b1,0,none⟩)) rfl (seq_c (s_load1 hI 0 (iv y.s) Tryz.isAgg3 rfl rfl rfl ?_))))))
 refine seq_c (s_loadB1 hI (iv x) Tryz.isAgg3 rfl (blk_lt hb) (by simp) (blk_cell hb rfl) ?_)
 refine seq_c (s_eql rfl rfl ?_ ?_)
 ·intro h1
  refine pu (.bool true) rfl (seq_nil (wp_ret ?_))
  exact ⟨.bool true,Ret.r1 rfl rfl,⟨by refine congrArg Value.bool ?_; simp_all,hI.below⟩⟩
 ·intro h2
  refine pu (.bool false) rfl (seq_nil (wp_ret ?_))
  exact ⟨.bool false,Ret.r1 rfl rfl,⟨by refine congrArg Value.bool ?_; simp_all,hI.below⟩⟩


theorem Without1_c (w0:World) (y:Nt) (x:Int) (b:Nat) (hb:w0.heap[b]?=some (blk [.int .i64 x] 3)):Does Tryz.prog 66 [.agg #[.int .i64 y.s,.int .i64 y.k,.int .i64 y.u],.pointer (some ⟨b,0,none⟩)] w0 fun v w=>v=.bool (decide (y.s≠x))∧Below w0.heap.size w0 w:=by
 refine calls_of (n:=8) Tryz.func66 rfl Tryz.ntmps66 rfl ?_
 have hI:=Inv.start w0
 refine wp_seq (rgn rfl (seq_c (s_boxI hI [iv y.s,iv y.k,iv y.u] rfl ?_)))
 intro b1 w hI
 refine pu (.bool false) rfl (seq_nil (wp_seq (rgn rfl (pu (.pointer (some ⟨b1,0,none⟩)) rfl (seq_c (s_load1 hI 0 (iv y.s) Tryz.isAgg3 rfl rfl rfl ?_))))))
 refine seq_c (s_loadB1 hI (iv x) Tryz.isAgg3 rfl (blk_lt hb) (by simp) (blk_cell hb rfl) ?_)
 refine seq_c (s_neq rfl rfl ?_ ?_)
 ·intro h1
  refine pu (.bool true) rfl (seq_nil (wp_ret ?_))
  exact ⟨.bool true,Ret.r1 rfl rfl,⟨by refine congrArg Value.bool ?_; simp_all,hI.below⟩⟩
 ·intro h2
  refine pu (.bool false) rfl (seq_nil (wp_ret ?_))
  exact ⟨.bool false,Ret.r1 rfl rfl,⟨by refine congrArg Value.bool ?_; simp_all,hI.below⟩⟩


theorem sceneOf1_c (w0:World) (y:Nt) (x:Int) (b:Nat) (hb:w0.heap[b]?=some (blk [.int .i64 x] 3)):Does Tryz.prog 141 [.agg #[.int .i64 y.s,.int .i64 y.k,.int .i64 y.u],.pointer (some ⟨b,0,none⟩)] w0 fun v w=>v=.bool (countsB y.k y.u x)∧Below w0.heap.size w0 w:=by
 refine calls_of (n:=7) Tryz.func141 rfl Tryz.ntmps141 rfl ?_
 have hI:=Inv.start w0
 refine wp_seq (rgn rfl (seq_c (s_boxI hI [iv y.s,iv y.k,iv y.u] rfl ?_)))
 intro b1 w hI
 refine pu (.bool false) rfl (seq_nil (wp_seq (rgn rfl (seq_c (s_loadK hI 0 3 [iv y.s,iv y.k,iv y.u] Tryz.isAgg95 Tryz.sizeOf95 rfl rfl rfl rfl ?_)))))
 refine seq_c (s_loadB1 hI (iv x) Tryz.isAgg3 rfl (blk_lt hb) (by simp) (blk_cell hb rfl) ?_)
 refine seq_c (s_callv hI 142 [.agg #[iv y.s,iv y.k,iv y.u],iv x] (.bool (countsB y.k y.u x)) (by kernel_rfl) (counts_c y.s y.k y.u x _) ?_)
 intro w hI
 refine pu (.bool (countsB y.k y.u x)) rfl (seq_nil (wp_ret ?_))
 exact ⟨.bool (countsB y.k y.u x),Ret.r1 rfl rfl,⟨rfl,hI.below⟩⟩


theorem filtered1_c (w0:World) (xx:Ld) (b:Nat) (fv:Value) (p:Nt→Bool) (hb:w0.heap[b]?=some (blk [fv] 96)) (hf:∀ w,Below w0.heap.size w0 w→CallV Tryz.prog fv [.agg (eNt (ntL xx)).toArray] w fun v w'=>v=.bool (p (ntL xx))∧Below w.heap.size w w'):Does Tryz.prog 129 [.agg #[.int .i64 xx.src,.int .i64 xx.hr,.int .i64 xx.lo,.int .i64 xx.hi,.int .i64 xx.kn,.int .i64 xx.un],.pointer (some ⟨b,0,none⟩)] w0 fun v w=>v=.bool (!p (ntL xx))∧Below w0.heap.size w0 w:=by
 refine calls_of (n:=9) Tryz.func129 rfl Tryz.ntmps129 rfl ?_
 have hI:=Inv.start w0
 refine wp_seq (rgn rfl (seq_c (s_boxI hI [iv xx.src,iv xx.hr,iv xx.lo,iv xx.hi,iv xx.kn,iv xx.un] rfl ?_)))
 intro b1 w hI
 refine pu (.bool false) rfl (seq_nil (wp_seq (wp_drawn2 hI [0] (by decide) rfl rfl rfl ?_)))
 intro hsub
 refine al_light 0 (fv) hsub rfl (by kernel_rfl) (fun w hI=>s_loadB1 hI (fv) Tryz.isAgg96 rfl (blk_lt hb) (by simp) (blk_cell hb rfl) ⟨rfl,Below.refl _ _⟩) ?_
 refine al_light 1 (.agg #[iv xx.src,iv xx.hr,iv xx.lo,iv xx.hi,iv xx.kn,iv xx.un]) hsub rfl (by kernel_rfl) (fun w hI=>s_loadK hI 0 6 [iv xx.src,iv xx.hr,iv xx.lo,iv xx.hi,iv xx.kn,iv xx.un] Tryz.isAgg30 Tryz.sizeOf30 rfl rfl rfl rfl ⟨rfl,Below.refl _ _⟩) ?_
 refine al_light 2 (.agg #[iv xx.src,iv xx.kn,iv xx.un]) hsub rfl (by kernel_rfl) (fun w hI=>s_call 74 [.agg #[iv xx.src,iv xx.hr,iv xx.lo,iv xx.hi,iv xx.kn,iv xx.un]] (by kernel_rfl) (noteOfLoad_c xx.src xx.hr xx.lo xx.hi xx.kn xx.un _) (fun v' w' h=>h)) ?_
 refine al_light 3 (.bool (p (ntL xx))) hsub rfl (by kernel_rfl) (fun w hI=>s_callV [.agg #[iv xx.src,iv xx.kn,iv xx.un]] rfl (by kernel_rfl) (hf w hI.below) (fun v' w' h=>h)) ?_
 refine alp 4 (.bool (!(p (ntL xx)))) hsub rfl (by kernel_rfl) (fun _=>rfl) ?_
 refine alp 5 (.bool (!(p (ntL xx)))) hsub rfl (by kernel_rfl) (fun _=>rfl) ?_
 refine any_end rfl (fun w hI=>?_)
 refine wp_ret ?_
 exact ⟨.bool (!(p (ntL xx))),Ret.r1 rfl rfl,⟨rfl,hI.below⟩⟩


theorem filtered2_c (w0:World) (xx:Ld) (b:Nat) (fv:Value) (p:Nt→Bool) (hb:w0.heap[b]?=some (blk [fv] 96)) (hf:∀ w,Below w0.heap.size w0 w→CallV Tryz.prog fv [.agg (eNt (ntL xx)).toArray] w fun v w'=>v=.bool (p (ntL xx))∧Below w.heap.size w w'):Does Tryz.prog 131 [.agg #[.int .i64 xx.src,.int .i64 xx.hr,.int .i64 xx.lo,.int .i64 xx.hi,.int .i64 xx.kn,.int .i64 xx.un],.pointer (some ⟨b,0,none⟩)] w0 fun v w=>v=.bool (!p (ntL xx))∧Below w0.heap.size w0 w:=by
 refine calls_of (n:=9) Tryz.func131 rfl Tryz.ntmps131 rfl ?_
 have hI:=Inv.start w0
 refine wp_seq (rgn rfl (seq_c (s_boxI hI [iv xx.src,iv xx.hr,iv xx.lo,iv xx.hi,iv xx.kn,iv xx.un] rfl ?_)))
 intro b1 w hI
 refine pu (.bool false) rfl (seq_nil (wp_seq (wp_drawn2 hI [0] (by decide) rfl rfl rfl ?_)))
 intro hsub
 refine al_light 0 (fv) hsub rfl (by kernel_rfl) (fun w hI=>s_loadB1 hI (fv) Tryz.isAgg96 rfl (blk_lt hb) (by simp) (blk_cell hb rfl) ⟨rfl,Below.refl _ _⟩) ?_
 refine al_light 1 (.agg #[iv xx.src,iv xx.hr,iv xx.lo,iv xx.hi,iv xx.kn,iv xx.un]) hsub rfl (by kernel_rfl) (fun w hI=>s_loadK hI 0 6 [iv xx.src,iv xx.hr,iv xx.lo,iv xx.hi,iv xx.kn,iv xx.un] Tryz.isAgg31 Tryz.sizeOf31 rfl rfl rfl rfl ⟨rfl,Below.refl _ _⟩) ?_
 refine al_light 2 (.agg #[iv xx.src,iv xx.kn,iv xx.un]) hsub rfl (by kernel_rfl) (fun w hI=>s_call 76 [.agg #[iv xx.src,iv xx.hr,iv xx.lo,iv xx.hi,iv xx.kn,iv xx.un]] (by kernel_rfl) (noteOfStand_c xx.src xx.hr xx.lo xx.hi xx.kn xx.un _) (fun v' w' h=>h)) ?_
 refine al_light 3 (.bool (p (ntL xx))) hsub rfl (by kernel_rfl) (fun w hI=>s_callV [.agg #[iv xx.src,iv xx.kn,iv xx.un]] rfl (by kernel_rfl) (hf w hI.below) (fun v' w' h=>h)) ?_
 refine alp 4 (.bool (!(p (ntL xx)))) hsub rfl (by kernel_rfl) (fun _=>rfl) ?_
 refine alp 5 (.bool (!(p (ntL xx)))) hsub rfl (by kernel_rfl) (fun _=>rfl) ?_
 refine any_end rfl (fun w hI=>?_)
 refine wp_ret ?_
 exact ⟨.bool (!(p (ntL xx))),Ret.r1 rfl rfl,⟨rfl,hI.below⟩⟩


theorem filtered3_c (w0:World) (xx:Sp) (b:Nat) (fv:Value) (p:Nt→Bool) (hb:w0.heap[b]?=some (blk [fv] 96)) (hf:∀ w,Below w0.heap.size w0 w→CallV Tryz.prog fv [.agg (eNt (ntS xx)).toArray] w fun v w'=>v=.bool (p (ntS xx))∧Below w.heap.size w w'):Does Tryz.prog 133 [.agg #[.int .i64 xx.src,.int .i64 xx.kd,.int .i64 xx.fr,.int .i64 xx.to,.int .i64 xx.kn,.int .i64 xx.un],.pointer (some ⟨b,0,none⟩)] w0 fun v w=>v=.bool (!p (ntS xx))∧Below w0.heap.size w0 w:=by
 refine calls_of (n:=9) Tryz.func133 rfl Tryz.ntmps133 rfl ?_
 have hI:=Inv.start w0
 refine wp_seq (rgn rfl (seq_c (s_boxI hI [iv xx.src,iv xx.kd,iv xx.fr,iv xx.to,iv xx.kn,iv xx.un] rfl ?_)))
 intro b1 w hI
 refine pu (.bool false) rfl (seq_nil (wp_seq (wp_drawn2 hI [0] (by decide) rfl rfl rfl ?_)))
 intro hsub
 refine al_light 0 (fv) hsub rfl (by kernel_rfl) (fun w hI=>s_loadB1 hI (fv) Tryz.isAgg96 rfl (blk_lt hb) (by simp) (blk_cell hb rfl) ⟨rfl,Below.refl _ _⟩) ?_
 refine al_light 1 (.agg #[iv xx.src,iv xx.kd,iv xx.fr,iv xx.to,iv xx.kn,iv xx.un]) hsub rfl (by kernel_rfl) (fun w hI=>s_loadK hI 0 6 [iv xx.src,iv xx.kd,iv xx.fr,iv xx.to,iv xx.kn,iv xx.un] Tryz.isAgg33 Tryz.sizeOf33 rfl rfl rfl rfl ⟨rfl,Below.refl _ _⟩) ?_
 refine al_light 2 (.agg #[iv xx.src,iv xx.kn,iv xx.un]) hsub rfl (by kernel_rfl) (fun w hI=>s_call 78 [.agg #[iv xx.src,iv xx.kd,iv xx.fr,iv xx.to,iv xx.kn,iv xx.un]] (by kernel_rfl) (noteOfSpell_c xx.src xx.kd xx.fr xx.to xx.kn xx.un _) (fun v' w' h=>h)) ?_
 refine al_light 3 (.bool (p (ntS xx))) hsub rfl (by kernel_rfl) (fun w hI=>s_callV [.agg #[iv xx.src,iv xx.kn,iv xx.un]] rfl (by kernel_rfl) (hf w hI.below) (fun v' w' h=>h)) ?_
 refine alp 4 (.bool (!(p (ntS xx)))) hsub rfl (by kernel_rfl) (fun _=>rfl) ?_
 refine alp 5 (.bool (!(p (ntS xx)))) hsub rfl (by kernel_rfl) (fun _=>rfl) ?_
 refine any_end rfl (fun w hI=>?_)
 refine wp_ret ?_
 exact ⟨.bool (!(p (ntS xx))),Ret.r1 rfl rfl,⟨rfl,hI.below⟩⟩


theorem notes_c (w0:World) (pl:Pl) (pA1:Option Addr) (pn1 pc1:Nat) (pA2:Option Addr) (pn2 pc2:Nat) (pA3:Option Addr) (pn3 pc3:Nat) (hP:PlotIn w0 pl pA1 pn1 pA2 pn2 pA3 pn3) (hS:Small pl):Does Tryz.prog 68 [.agg #[.int .i64 pl.lo,.int .i64 pl.hi,.slice pA1 pn1 pc1,.slice pA2 pn2 pc2,.slice pA3 pn3 pc3,.int .i64 pl.geese]] w0 fun v w=>Gives 3 95 none (pl.loads.length+pl.stands.length+pl.spells.length) (flat eNt (notesOf pl)) w0 v w:=by
 have hm1:=hP.m1; have hm2:=hP.m2; have hm3:=hP.m3; have hs1:=hS.s1; have hs2:=hS.s2; have hs3:=hS.s3
 refine calls_of (n:=15) Tryz.func68 rfl Tryz.ntmps68 rfl ?_
 have hI:=Inv.start w0
 refine wp_seq (rgn rfl (seq_c (s_boxI hI [iv pl.lo,iv pl.hi,.slice pA1 pn1 pc1,.slice pA2 pn2 pc2,.slice pA3 pn3 pc3,iv pl.geese] rfl ?_)))
 intro b1 w hI
 refine pu (.slice none 0 0) rfl (seq_nil (wp_seq (rgn rfl (pu (.pointer (some ⟨b1,2,none⟩)) rfl (seq_c (s_load1 hI 0 (.slice pA1 pn1 pc1) Tryz.isAgg24 rfl rfl rfl ?_))))))
 have hI:=hI.nilRow 95
 refine seq_c (s_callGives hI 134 [.slice none 0 0,.slice pA1 pn1 pc1,.func (.func 74) #[] #[]] 0 rfl (by kernel_rfl) (appendLoads_c _ none 0 0 [] [] pl.loads pA1 pn1 pc1 (.func (.func 74) #[] #[]) ntL (hI.hasg 0 rfl) (Row.nil_ 3) hP.m1 (hI.apartBase 0 rfl hP.c1) (fun w1 _ x _=>CallV.of (args':=[.agg (eLd x).toArray]) rfl (noteOfLoad_c x.src x.hr x.lo x.hi x.kn x.un w1)) (by omega)) ?_)
 intro g2 c3 cl4 w hI r5
 have r5:Row 3 g2 (0+pn1) c3 cl4 (flat eNt ((pl.loads).map ntL)):=r5
 refine pu (slv g2 (0+pn1) c3) rfl (seq_nil (wp_seq (rgn rfl (pu (slv g2 (0+pn1) c3) rfl (pu (.pointer (some ⟨b1,3,none⟩)) rfl (seq_c (s_load1 hI 2 (.slice pA2 pn2 pc2) Tryz.isAgg25 rfl rfl rfl ?_)))))))
 refine seq_c (s_callGives hI 135 [slv g2 (0+pn1) c3,.slice pA2 pn2 pc2,.func (.func 76) #[] #[]] 0 rfl (by kernel_rfl) (appendStands_c _ g2 (0+pn1) c3 cl4 ((pl.loads).map ntL) pl.stands pA2 pn2 pc2 (.func (.func 76) #[] #[]) ntL (hI.hasg 0 rfl) r5 hP.m2 (hI.apartBase 0 rfl hP.c2) (fun w1 _ x _=>CallV.of (args':=[.agg (eLd x).toArray]) rfl (noteOfStand_c x.src x.hr x.lo x.hi x.kn x.un w1)) (by omega)) ?_)
 intro g6 c7 cl8 w hI r9
 have r9:Row 3 g6 (0+pn1+pn2) c7 cl8 (flat eNt ((pl.loads).map ntL++(pl.stands).map ntL)):=r9
 refine pu (slv g6 (0+pn1+pn2) c7) rfl (seq_nil (wp_seq (rgn rfl (pu (slv g6 (0+pn1+pn2) c7) rfl (pu (.pointer (some ⟨b1,4,none⟩)) rfl (seq_c (s_load1 hI 3 (.slice pA3 pn3 pc3) Tryz.isAgg26 rfl rfl rfl ?_)))))))
 refine seq_c (s_callGives hI 136 [slv g6 (0+pn1+pn2) c7,.slice pA3 pn3 pc3,.func (.func 78) #[] #[]] 0 rfl (by kernel_rfl) (appendSpells_c _ g6 (0+pn1+pn2) c7 cl8 ((pl.loads).map ntL++(pl.stands).map ntL) pl.spells pA3 pn3 pc3 (.func (.func 78) #[] #[]) ntS (hI.hasg 0 rfl) r9 hP.m3 (hI.apartBase 0 rfl hP.c3) (fun w1 _ x _=>CallV.of (args':=[.agg (eSp x).toArray]) rfl (noteOfSpell_c x.src x.kd x.fr x.to x.kn x.un w1)) (by omega)) ?_)
 intro g10 c11 cl12 w hI r13
 have r13:Row 3 g10 (0+pn1+pn2+pn3) c11 cl12 (flat eNt ((pl.loads).map ntL++(pl.stands).map ntL++(pl.spells).map ntS)):=r13
 refine pu (slv g10 (0+pn1+pn2+pn3) c11) rfl (seq_nil (wp_ret ?_))
 exact ⟨slv g10 (0+pn1+pn2+pn3) c11,Ret.r1 rfl rfl,⟨g10,c11,cl12,(by rw [show 0+pn1+pn2+pn3=pl.loads.length+pl.stands.length+pl.spells.length by omega]),hI.pickL [0] (by decide) rfl,r13.to rfl (by omega)⟩⟩


theorem hasSource_c (w0:World) (pl:Pl) (pA1:Option Addr) (pn1 pc1:Nat) (pA2:Option Addr) (pn2 pc2:Nat) (pA3:Option Addr) (pn3 pc3:Nat) (hP:PlotIn w0 pl pA1 pn1 pA2 pn2 pA3 pn3) (hS:Small pl) (s:Int):Does Tryz.prog 61 [.agg #[.int .i64 pl.lo,.int .i64 pl.hi,.slice pA1 pn1 pc1,.slice pA2 pn2 pc2,.slice pA3 pn3 pc3,.int .i64 pl.geese],.int .i64 s] w0 fun v w=>v=.bool (hasB pl s)∧Below w0.heap.size w0 w:=by
 have hm1:=hP.m1; have hm2:=hP.m2; have hm3:=hP.m3; have hs1:=hS.s1; have hs2:=hS.s2; have hs3:=hS.s3
 refine calls_of (n:=9) Tryz.func61 rfl Tryz.ntmps61 rfl ?_
 have hI:=Inv.start w0
 refine wp_seq (rgn rfl (seq_c (s_boxI hI [iv pl.lo,iv pl.hi,.slice pA1 pn1 pc1,.slice pA2 pn2 pc2,.slice pA3 pn3 pc3,iv pl.geese] rfl ?_)))
 intro b1 w hI
 refine seq_c (s_boxI hI [iv s] rfl ?_)
 intro b2 w hI
 refine pu (.bool false) rfl (seq_nil (wp_seq (rgn rfl (seq_c (s_loadK hI 1 6 [iv pl.lo,iv pl.hi,.slice pA1 pn1 pc1,.slice pA2 pn2 pc2,.slice pA3 pn3 pc3,iv pl.geese] Tryz.isAgg28 Tryz.sizeOf28 rfl rfl rfl rfl ?_)))))
 refine seq_c (s_callNew hI 68 [.agg #[iv pl.lo,iv pl.hi,.slice pA1 pn1 pc1,.slice pA2 pn2 pc2,.slice pA3 pn3 pc3,iv pl.geese]] (by kernel_rfl) (notes_c _ pl pA1 pn1 pc1 pA2 pn2 pc2 pA3 pn3 pc3 (hP.inv0 hI) hS) ?_)
 intro g3 c4 cl5 w hI r6
 have r6:Row 3 g3 (pl.loads.length+pl.stands.length+pl.spells.length) c4 cl5 (flat eNt (notesOf pl)):=r6
 refine pu (.func (.func 122) #[] #[.pointer (some ⟨b2,0,none⟩)]) (by kernel_rfl) (seq_c (s_callv hI 121 [slv g3 (pl.loads.length+pl.stands.length+pl.spells.length) c4,.func (.func 122) #[] #[.pointer (some ⟨b2,0,none⟩)]] (.bool ((notesOf pl).any (fun y:Nt=>decide (y.s=s)))) (by kernel_rfl) (ContainsNote_c _ (notesOf pl) (g3.map fun b=>⟨b,0,none⟩) (pl.loads.length+pl.stands.length+pl.spells.length) c4 (.func (.func 122) #[] #[.pointer (some ⟨b2,0,none⟩)]) (fun y:Nt=>decide (y.s=s)) (r6.n_eq eNt_len (by decide)) (by omega) (hI.rowCells 0 rfl r6) (fun w1 hb y _=>CallV.of (args':=[.agg (eNt y).toArray,.pointer (some ⟨b2,0,none⟩)]) rfl (hasSource1_c w1 y s b2 (below_blk hb (hI.has 1 _ _ rfl).1)))) ?_))
 intro w hI
 refine pu (.bool ((notesOf pl).any (fun y:Nt=>decide (y.s=s)))) rfl (seq_nil (wp_ret ?_))
 exact ⟨.bool ((notesOf pl).any (fun y:Nt=>decide (y.s=s))),Ret.r1 rfl rfl,⟨rfl,hI.below⟩⟩


theorem copyOf_c (w0:World) (pl:Pl) (pA1:Option Addr) (pn1 pc1:Nat) (pA2:Option Addr) (pn2 pc2:Nat) (pA3:Option Addr) (pn3 pc3:Nat) (hP:PlotIn w0 pl pA1 pn1 pA2 pn2 pA3 pn3) (hS:Small pl):Does Tryz.prog 62 [.agg #[.int .i64 pl.lo,.int .i64 pl.hi,.slice pA1 pn1 pc1,.slice pA2 pn2 pc2,.slice pA3 pn3 pc3,.int .i64 pl.geese]] w0 fun v w=>GivesPlot pl w0 v w:=by
 have hm1:=hP.m1; have hm2:=hP.m2; have hm3:=hP.m3; have hs1:=hS.s1; have hs2:=hS.s2; have hs3:=hS.s3
 refine calls_of (n:=16) Tryz.func62 rfl Tryz.ntmps62 rfl ?_
 have hI:=Inv.start w0
 refine wp_seq (rgn rfl (seq_c (s_boxI hI [iv pl.lo,iv pl.hi,.slice pA1 pn1 pc1,.slice pA2 pn2 pc2,.slice pA3 pn3 pc3,iv pl.geese] rfl ?_)))
 intro b1 w hI
 refine seq_c (s_allocI hI [iv 0,iv 0,.slice none 0 0,.slice none 0 0,.slice none 0 0,iv 0] Tryz.zeroValue28 rfl ?_)
 intro b2 w hI
 refine seq_nil (wp_seq (rgn rfl (pu (.pointer (some ⟨b1,2,none⟩)) rfl (seq_c (s_load1 hI 1 (.slice pA1 pn1 pc1) Tryz.isAgg24 rfl rfl rfl ?_)))))
 refine seq_c (s_callNew hI 123 [.slice pA1 pn1 pc1] (by kernel_rfl) (CloneLoads_c _ pl.loads pA1 pn1 pc1 hP.m1 (by omega) (hP.c1.inv0 hI)) ?_)
 intro g3 c4 cl5 w hI r6
 have r6:Row 6 g3 (pn1) c4 cl5 (flat eLd (pl.loads)):=r6
 refine pu (.pointer (some ⟨b1,2,none⟩)) rfl (seq_c (s_store hI 2 1 [slv g3 pn1 c4] Tryz.sizeOf24 rfl rfl rfl rfl rfl (Nat.le_of_ble_eq_true rfl) ?_))
 intro w hI
 refine seq_nil (wp_seq (rgn rfl (pu (.pointer (some ⟨b1,3,none⟩)) rfl (seq_c (s_load1 hI 2 (.slice pA2 pn2 pc2) Tryz.isAgg25 rfl rfl rfl ?_)))))
 refine seq_c (s_callNew hI 124 [.slice pA2 pn2 pc2] (by kernel_rfl) (CloneStands_c _ pl.stands pA2 pn2 pc2 hP.m2 (by omega) (hP.c2.inv0 hI)) ?_)
 intro g7 c8 cl9 w hI r10
 have r10:Row 6 g7 (pn2) c8 cl9 (flat eLd (pl.stands)):=r10
 refine pu (.pointer (some ⟨b1,3,none⟩)) rfl (seq_c (s_store hI 3 1 [slv g7 pn2 c8] Tryz.sizeOf25 rfl rfl rfl rfl rfl (Nat.le_of_ble_eq_true rfl) ?_))
 intro w hI
 refine seq_nil (wp_seq (rgn rfl (pu (.pointer (some ⟨b1,4,none⟩)) rfl (seq_c (s_load1 hI 3 (.slice pA3 pn3 pc3) Tryz.isAgg26 rfl rfl rfl ?_)))))
 refine seq_c (s_callNew hI 125 [.slice pA3 pn3 pc3] (by kernel_rfl) (CloneSpells_c _ pl.spells pA3 pn3 pc3 hP.m3 (by omega) (hP.c3.inv0 hI)) ?_)
 intro g11 c12 cl13 w hI r14
 have r14:Row 6 g11 (pn3) c12 cl13 (flat eSp (pl.spells)):=r14
 refine pu (.pointer (some ⟨b1,4,none⟩)) rfl (seq_c (s_store hI 4 1 [slv g11 pn3 c12] Tryz.sizeOf26 rfl rfl rfl rfl rfl (Nat.le_of_ble_eq_true rfl) ?_))
 intro w hI
 refine seq_nil (wp_seq (rgn rfl (seq_c (s_loadK hI 4 6 [iv pl.lo,iv pl.hi,slv g3 pn1 c4,slv g7 pn2 c8,slv g11 pn3 c12,iv pl.geese] Tryz.isAgg28 Tryz.sizeOf28 rfl rfl rfl rfl ?_))))
 refine seq_c (s_store hI 3 6 [iv pl.lo,iv pl.hi,slv g3 pn1 c4,slv g7 pn2 c8,slv g11 pn3 c12,iv pl.geese] Tryz.sizeOf28 rfl rfl rfl rfl rfl (Nat.le_of_ble_eq_true rfl) ?_)
 intro w hI
 refine seq_nil (wp_ret ?_)
 exact ⟨.agg #[iv pl.lo,iv pl.hi,slv g3 pn1 c4,slv g7 pn2 c8,slv g11 pn3 c12,iv pl.geese],Ret.c rfl rfl (run_loadK hI 3 6 [iv pl.lo,iv pl.hi,slv g3 pn1 c4,slv g7 pn2 c8,slv g11 pn3 c12,iv pl.geese] Tryz.isAgg28 Tryz.sizeOf28 rfl rfl rfl),⟨g3,c4,cl5,g7,c8,cl9,g11,c12,cl13,(by first | rfl | (simp only [plv,← hm1,← hm2,← hm3]; done) | (simp [plv,keepP]; done)),hI.pickL [2,1,0] (by decide) rfl,(r6.to (by first | rfl | simp [keepP]) (by first | rfl | assumption | simp [keepP])),(r10.to (by first | rfl | simp [keepP]) (by first | rfl | assumption | simp [keepP])),(r14.to (by first | rfl | simp [keepP]) (by first | rfl | assumption | simp [keepP]))⟩⟩


theorem filtered_c (w0:World) (pl:Pl) (pA1:Option Addr) (pn1 pc1:Nat) (pA2:Option Addr) (pn2 pc2:Nat) (pA3:Option Addr) (pn3 pc3:Nat) (hP:PlotIn w0 pl pA1 pn1 pA2 pn2 pA3 pn3) (hS:Small pl) (fv:Value) (p:Nt→Bool) (hfc:fv.cells = #[fv]) (hf:∀ w,Below w0.heap.size w0 w→∀ y:Nt,CallV Tryz.prog fv [.agg (eNt y).toArray] w fun v w'=>v=.bool (p y)∧Below w.heap.size w w'):Does Tryz.prog 67 [.agg #[.int .i64 pl.lo,.int .i64 pl.hi,.slice pA1 pn1 pc1,.slice pA2 pn2 pc2,.slice pA3 pn3 pc3,.int .i64 pl.geese],fv] w0 fun v w=>GivesPlot (keepP p pl) w0 v w:=by
 have hm1:=hP.m1; have hm2:=hP.m2; have hm3:=hP.m3; have hs1:=hS.s1; have hs2:=hS.s2; have hs3:=hS.s3
 refine calls_of (n:=23) Tryz.func67 rfl Tryz.ntmps67 rfl ?_
 have hI:=Inv.start w0
 refine wp_seq (rgn rfl (seq_c (s_boxI hI [iv pl.lo,iv pl.hi,.slice pA1 pn1 pc1,.slice pA2 pn2 pc2,.slice pA3 pn3 pc3,iv pl.geese] rfl ?_)))
 intro b1 w hI
 refine seq_c (s_boxI hI [fv] hfc ?_)
 intro b2 w hI
 refine seq_c (s_allocI hI [iv 0,iv 0,.slice none 0 0,.slice none 0 0,.slice none 0 0,iv 0] Tryz.zeroValue28 rfl ?_)
 intro b3 w hI
 refine seq_nil (wp_seq (rgn rfl (seq_c (s_loadK hI 2 6 [iv pl.lo,iv pl.hi,.slice pA1 pn1 pc1,.slice pA2 pn2 pc2,.slice pA3 pn3 pc3,iv pl.geese] Tryz.isAgg28 Tryz.sizeOf28 rfl rfl rfl rfl ?_))))
 refine seq_c (s_callPlot hI (q:=pl) 62 [.agg #[iv pl.lo,iv pl.hi,.slice pA1 pn1 pc1,.slice pA2 pn2 pc2,.slice pA3 pn3 pc3,iv pl.geese]] (by kernel_rfl) (copyOf_c _ pl pA1 pn1 pc1 pA2 pn2 pc2 pA3 pn3 pc3 (hP.inv0 hI) hS) ?_)
 intro g4 c5 cl6 g8 c9 cl10 g12 c13 cl14 w hI r7 r11 r15
 refine seq_c (s_store hI 5 6 [iv pl.lo,iv pl.hi,slv g4 pl.loads.length c5,slv g8 pl.stands.length c9,slv g12 pl.spells.length c13,iv pl.geese] Tryz.sizeOf28 rfl rfl rfl rfl rfl (Nat.le_of_ble_eq_true rfl) ?_)
 intro w hI
 refine seq_nil (wp_seq (rgn rfl (pu (.pointer (some ⟨b1,2,none⟩)) rfl (seq_c (s_load1 hI 5 (slv g4 pl.loads.length c5) Tryz.isAgg24 rfl rfl rfl ?_)))))
 refine pu (.func (.func 129) #[] #[.pointer (some ⟨b2,0,none⟩)]) (by kernel_rfl) (seq_c (s_callGivesIn hI 128 [slv g4 pl.loads.length c5,.func (.func 129) #[] #[.pointer (some ⟨b2,0,none⟩)]] 0 rfl (by kernel_rfl) (DeleteLoads_c _ g4 pl.loads.length c5 cl6 pl.loads (.func (.func 129) #[] #[.pointer (some ⟨b2,0,none⟩)]) (fun x:Ld=>!p (ntL x)) (hI.hasg 0 rfl) r7 (by omega) (fun w1 hb x _=>CallV.of (args':=[.agg (eLd x).toArray,.pointer (some ⟨b2,0,none⟩)]) rfl (filtered1_c w1 x b2 fv p (but_blk hb (hI.has 4 _ _ rfl).1 (hI.ne 0 4 (by decide) rfl rfl)) (fun w2 h2=>hf w2 ((hI.butBelow 0 rfl hb).trans (h2.mono (hI.butBelow 0 rfl hb).size)) (ntL x))))) ?_))
 intro cl16 w hI r17
 have r17:Row 6 g4 (((pl.loads).filter (fun y=>!(fun x:Ld=>!p (ntL x)) y)).length) c5 cl16 (flat eLd ((pl.loads).filter (fun y=>!(fun x:Ld=>!p (ntL x)) y))):=r17
 refine pu (.pointer (some ⟨b1,2,none⟩)) rfl (seq_c (s_store hI 6 1 [slv g4 (((pl.loads).filter (fun y=>!(fun x:Ld=>!p (ntL x)) y)).length) c5] Tryz.sizeOf24 rfl rfl rfl rfl rfl (Nat.le_of_ble_eq_true rfl) ?_))
 intro w hI
 refine seq_nil (wp_seq (rgn rfl (pu (.pointer (some ⟨b1,3,none⟩)) rfl (seq_c (s_load1 hI 6 (slv g8 pl.stands.length c9) Tryz.isAgg25 rfl rfl rfl ?_)))))
 refine pu (.func (.func 131) #[] #[.pointer (some ⟨b2,0,none⟩)]) (by kernel_rfl) (seq_c (s_callGivesIn hI 130 [slv g8 pl.stands.length c9,.func (.func 131) #[] #[.pointer (some ⟨b2,0,none⟩)]] 2 rfl (by kernel_rfl) (DeleteStands_c _ g8 pl.stands.length c9 cl10 pl.stands (.func (.func 131) #[] #[.pointer (some ⟨b2,0,none⟩)]) (fun x:Ld=>!p (ntL x)) (hI.hasg 2 rfl) r11 (by omega) (fun w1 hb x _=>CallV.of (args':=[.agg (eLd x).toArray,.pointer (some ⟨b2,0,none⟩)]) rfl (filtered2_c w1 x b2 fv p (but_blk hb (hI.has 5 _ _ rfl).1 (hI.ne 2 5 (by decide) rfl rfl)) (fun w2 h2=>hf w2 ((hI.butBelow 2 rfl hb).trans (h2.mono (hI.butBelow 2 rfl hb).size)) (ntL x))))) ?_))
 intro cl18 w hI r19
 have r19:Row 6 g8 (((pl.stands).filter (fun y=>!(fun x:Ld=>!p (ntL x)) y)).length) c9 cl18 (flat eLd ((pl.stands).filter (fun y=>!(fun x:Ld=>!p (ntL x)) y))):=r19
 refine pu (.pointer (some ⟨b1,3,none⟩)) rfl (seq_c (s_store hI 7 1 [slv g8 (((pl.stands).filter (fun y=>!(fun x:Ld=>!p (ntL x)) y)).length) c9] Tryz.sizeOf25 rfl rfl rfl rfl rfl (Nat.le_of_ble_eq_true rfl) ?_))
 intro w hI
 refine seq_nil (wp_seq (rgn rfl (pu (.pointer (some ⟨b1,4,none⟩)) rfl (seq_c (s_load1 hI 7 (slv g12 pl.spells.length c13) Tryz.isAgg26 rfl rfl rfl ?_)))))
 refine pu (.func (.func 133) #[] #[.pointer (some ⟨b2,0,none⟩)]) (by kernel_rfl) (seq_c (s_callGivesIn hI 132 [slv g12 pl.spells.length c13,.func (.func 133) #[] #[.pointer (some ⟨b2,0,none⟩)]] 4 rfl (by kernel_rfl) (DeleteSpells_c _ g12 pl.spells.length c13 cl14 pl.spells (.func (.func 133) #[] #[.pointer (some ⟨b2,0,none⟩)]) (fun x:Sp=>!p (ntS x)) (hI.hasg 4 rfl) r15 (by omega) (fun w1 hb x _=>CallV.of (args':=[.agg (eSp x).toArray,.pointer (some ⟨b2,0,none⟩)]) rfl (filtered3_c w1 x b2 fv p (but_blk hb (hI.has 6 _ _ rfl).1 (hI.ne 4 6 (by decide) rfl rfl)) (fun w2 h2=>hf w2 ((hI.butBelow 4 rfl hb).trans (h2.mono (hI.butBelow 4 rfl hb).size)) (ntS x))))) ?_))
 intro cl20 w hI r21
 have r21:Row 6 g12 (((pl.spells).filter (fun y=>!(fun x:Sp=>!p (ntS x)) y)).length) c13 cl20 (flat eSp ((pl.spells).filter (fun y=>!(fun x:Sp=>!p (ntS x)) y))):=r21
 refine pu (.pointer (some ⟨b1,4,none⟩)) rfl (seq_c (s_store hI 8 1 [slv g12 (((pl.spells).filter (fun y=>!(fun x:Sp=>!p (ntS x)) y)).length) c13] Tryz.sizeOf26 rfl rfl rfl rfl rfl (Nat.le_of_ble_eq_true rfl) ?_))
 intro w hI
 refine seq_nil (wp_seq (rgn rfl (seq_c (s_loadK hI 8 6 [iv pl.lo,iv pl.hi,slv g4 (((pl.loads).filter (fun y=>!(fun x:Ld=>!p (ntL x)) y)).length) c5,slv g8 (((pl.stands).filter (fun y=>!(fun x:Ld=>!p (ntL x)) y)).length) c9,slv g12 (((pl.spells).filter (fun y=>!(fun x:Sp=>!p (ntS x)) y)).length) c13,iv pl.geese] Tryz.isAgg28 Tryz.sizeOf28 rfl rfl rfl rfl ?_))))
 refine seq_c (s_store hI 6 6 [iv pl.lo,iv pl.hi,slv g4 (((pl.loads).filter (fun y=>!(fun x:Ld=>!p (ntL x)) y)).length) c5,slv g8 (((pl.stands).filter (fun y=>!(fun x:Ld=>!p (ntL x)) y)).length) c9,slv g12 (((pl.spells).filter (fun y=>!(fun x:Sp=>!p (ntS x)) y)).length) c13,iv pl.geese] Tryz.sizeOf28 rfl rfl rfl rfl rfl (Nat.le_of_ble_eq_true rfl) ?_)
 intro w hI
 refine seq_nil (wp_ret ?_)
 exact ⟨.agg #[iv pl.lo,iv pl.hi,slv g4 (((pl.loads).filter (fun y=>!(fun x:Ld=>!p (ntL x)) y)).length) c5,slv g8 (((pl.stands).filter (fun y=>!(fun x:Ld=>!p (ntL x)) y)).length) c9,slv g12 (((pl.spells).filter (fun y=>!(fun x:Sp=>!p (ntS x)) y)).length) c13,iv pl.geese],Ret.c rfl rfl (run_loadK hI 6 6 [iv pl.lo,iv pl.hi,slv g4 (((pl.loads).filter (fun y=>!(fun x:Ld=>!p (ntL x)) y)).length) c5,slv g8 (((pl.stands).filter (fun y=>!(fun x:Ld=>!p (ntL x)) y)).length) c9,slv g12 (((pl.spells).filter (fun y=>!(fun x:Sp=>!p (ntS x)) y)).length) c13,iv pl.geese] Tryz.isAgg28 Tryz.sizeOf28 rfl rfl rfl),⟨g4,c5,cl16,g8,c9,cl18,g12,c13,cl20,(by first | rfl | (simp only [plv,← hm1,← hm2,← hm3]; done) | (simp [plv,keepP]; done)),hI.pickL [2,1,0] (by decide) rfl,(r17.to (by first | rfl | simp [keepP]) (by first | rfl | assumption | simp [keepP])),(r19.to (by first | rfl | simp [keepP]) (by first | rfl | assumption | simp [keepP])),(r21.to (by first | rfl | simp [keepP]) (by first | rfl | assumption | simp [keepP]))⟩⟩

theorem codeI_no {b:Bool} {e:Int} (h:¬ codeI b e=0):b=false:=by
  cases b with
  | true=>exact absurd rfl h
  | false=>rfl


theorem Without_c (w0:World) (pl:Pl) (pA1:Option Addr) (pn1 pc1:Nat) (pA2:Option Addr) (pn2 pc2:Nat) (pA3:Option Addr) (pn3 pc3:Nat) (hP:PlotIn w0 pl pA1 pn1 pA2 pn2 pA3 pn3) (s:Int):Does Tryz.prog 16 [.agg #[.int .i64 pl.lo,.int .i64 pl.hi,.slice pA1 pn1 pc1,.slice pA2 pn2 pc2,.slice pA3 pn3 pc3,.int .i64 pl.geese],.int .i64 s] w0 fun v w=>∃ v1,v=.tuple #[v1,.int .i64 (withoutF pl s).2]∧GivesPlot (withoutF pl s).1 w0 v1 w:=by
 refine calls_of (n:=23) Tryz.func16 rfl Tryz.ntmps16 rfl ?_
 have hI:=Inv.start w0
 refine wp_seq (rgn rfl (seq_c (s_boxI hI [iv pl.lo,iv pl.hi,.slice pA1 pn1 pc1,.slice pA2 pn2 pc2,.slice pA3 pn3 pc3,iv pl.geese] rfl ?_)))
 intro b1 w hI
 refine seq_c (s_boxI hI [iv s] rfl ?_)
 intro b2 w hI
 refine seq_c (s_allocI hI [iv 0,iv 0,.slice none 0 0,.slice none 0 0,.slice none 0 0,iv 0] Tryz.zeroValue28 rfl ?_)
 intro b3 w hI
 refine pu (iv 0) rfl (seq_nil (wp_seq (wp_seq (rgn rfl (seq_c (s_loadK hI 2 6 [iv pl.lo,iv pl.hi,.slice pA1 pn1 pc1,.slice pA2 pn2 pc2,.slice pA3 pn3 pc3,iv pl.geese] Tryz.isAgg28 Tryz.sizeOf28 rfl rfl rfl rfl ?_))))))
 refine seq_c (s_callv hI 22 [.agg #[iv pl.lo,iv pl.hi,.slice pA1 pn1 pc1,.slice pA2 pn2 pc2,.slice pA3 pn3 pc3,iv pl.geese]] (iv (codeI (plotB pl) 13)) (by kernel_rfl) (Check_c _ pl pA1 pn1 pc1 pA2 pn2 pc2 pA3 pn3 pc3 (hP.inv0 hI)) ?_)
 intro w hI
 refine pu (iv (codeI (plotB pl) 13)) rfl (seq_nil (wp_seq (rgn rfl (pu (iv (codeI (plotB pl) 13)) rfl (seq_c (s_neq rfl rfl ?_ ?_))))))
 ·intro h1
  refine seq_nil (wp_condT rfl (wp_seq (rgn rfl (pu (.agg #[iv 0,iv 0,.slice none 0 0,.slice none 0 0,.slice none 0 0,iv 0]) (by kernel_rfl) (pu (iv (codeI (plotB pl) 13)) rfl (seq_c (s_store hI 0 6 [iv 0,iv 0,.slice none 0 0,.slice none 0 0,.slice none 0 0,iv 0] Tryz.sizeOf28 rfl rfl rfl rfl rfl (Nat.le_of_ble_eq_true rfl) ?_)))))))
  intro w hI
  refine pu (iv (codeI (plotB pl) 13)) rfl (seq_nil (wp_ret ?_))
  have hI:=hI.nilRow 33
  have hI:=hI.nilRow 31
  have hI:=hI.nilRow 30
  have e:withoutF pl s=(zeroPl,codeI (plotB pl) 13):=by simp [withoutF,codeI,codeI_no h1]
  exact ⟨.tuple #[.agg #[iv 0,iv 0,.slice none 0 0,.slice none 0 0,.slice none 0 0,iv 0],iv (codeI (plotB pl) 13)],Ret.ct rfl rfl (run_loadK hI 3 6 [iv 0,iv 0,.slice none 0 0,.slice none 0 0,.slice none 0 0,iv 0] Tryz.isAgg28 Tryz.sizeOf28 rfl rfl rfl) rfl,(by rw [e]; exact ⟨.agg #[iv 0,iv 0,.slice none 0 0,.slice none 0 0,.slice none 0 0,iv 0],rfl,⟨none,0,[],none,0,[],none,0,[],rfl,hI.pickL [0,1,2] (by decide) rfl,Row.nil_ 6,Row.nil_ 6,Row.nil_ 6⟩⟩)⟩
 ·intro h2
  refine seq_nil (wp_condF rfl (wp_skip (wp_seq (wp_seq (rgn rfl (seq_c (s_loadK hI 2 6 [iv pl.lo,iv pl.hi,.slice pA1 pn1 pc1,.slice pA2 pn2 pc2,.slice pA3 pn3 pc3,iv pl.geese] Tryz.isAgg28 Tryz.sizeOf28 rfl rfl rfl rfl ?_)))))))
  refine seq_c (s_load1 hI 1 (iv s) Tryz.isAgg3 rfl rfl rfl ?_)
  refine seq_c (s_callb hI 61 [.agg #[iv pl.lo,iv pl.hi,.slice pA1 pn1 pc1,.slice pA2 pn2 pc2,.slice pA3 pn3 pc3,iv pl.geese],iv s] (hasB pl s) (by kernel_rfl) (hasSource_c _ pl pA1 pn1 pc1 pA2 pn2 pc2 pA3 pn3 pc3 (hP.inv0 hI) (plotB_small (codeI_ok h2 (by decide))) s) ?_ ?_)
  ·intro h3 w hI
   refine pu (.bool false) rfl (seq_nil (wp_condF rfl (wp_skip (wp_seq (rgn rfl (pu (.func (.func 66) #[] #[.pointer (some ⟨b2,0,none⟩)]) (by kernel_rfl) (pu (.func (.func 66) #[] #[.pointer (some ⟨b2,0,none⟩)]) rfl (seq_nil (wp_seq ?_)))))))))
   refine rgn rfl (seq_c (s_loadK hI 2 6 [iv pl.lo,iv pl.hi,.slice pA1 pn1 pc1,.slice pA2 pn2 pc2,.slice pA3 pn3 pc3,iv pl.geese] Tryz.isAgg28 Tryz.sizeOf28 rfl rfl rfl rfl ?_))
   refine pu (.func (.func 66) #[] #[.pointer (some ⟨b2,0,none⟩)]) rfl (seq_c (s_callPlot hI (q:=keepP (fun y:Nt=>decide (y.s≠s)) pl) 67 [.agg #[iv pl.lo,iv pl.hi,.slice pA1 pn1 pc1,.slice pA2 pn2 pc2,.slice pA3 pn3 pc3,iv pl.geese],.func (.func 66) #[] #[.pointer (some ⟨b2,0,none⟩)]] (by kernel_rfl) (filtered_c _ pl pA1 pn1 pc1 pA2 pn2 pc2 pA3 pn3 pc3 (hP.inv0 hI) (plotB_small (codeI_ok h2 (by decide))) (.func (.func 66) #[] #[.pointer (some ⟨b2,0,none⟩)]) (fun y:Nt=>decide (y.s≠s)) rfl (fun w1 hb y=>CallV.of (args':=[.agg (eNt y).toArray,.pointer (some ⟨b2,0,none⟩)]) rfl (Without1_c w1 y s b2 (below_blk hb (hI.has 1 _ _ rfl).1)))) ?_))
   intro g4 c5 cl6 g8 c9 cl10 g12 c13 cl14 w hI r7 r11 r15
   refine seq_c (s_store hI 3 6 [iv ((keepP (fun y:Nt=>decide (y.s≠s)) pl).lo),iv ((keepP (fun y:Nt=>decide (y.s≠s)) pl).hi),slv g4 ((keepP (fun y:Nt=>decide (y.s≠s)) pl).loads.length) c5,slv g8 ((keepP (fun y:Nt=>decide (y.s≠s)) pl).stands.length) c9,slv g12 ((keepP (fun y:Nt=>decide (y.s≠s)) pl).spells.length) c13,iv ((keepP (fun y:Nt=>decide (y.s≠s)) pl).geese)] Tryz.sizeOf28 rfl rfl rfl rfl rfl (Nat.le_of_ble_eq_true rfl) ?_)
   intro w hI
   refine pu (iv 0) rfl (seq_nil (wp_ret ?_))
   have e:withoutF pl s=(keepP (fun y=>decide (y.s≠s)) pl,0):=by simp [withoutF,codeI,codeI_ok h2 (by decide),h3]
   exact ⟨.tuple #[.agg #[iv ((keepP (fun y:Nt=>decide (y.s≠s)) pl).lo),iv ((keepP (fun y:Nt=>decide (y.s≠s)) pl).hi),slv g4 ((keepP (fun y:Nt=>decide (y.s≠s)) pl).loads.length) c5,slv g8 ((keepP (fun y:Nt=>decide (y.s≠s)) pl).stands.length) c9,slv g12 ((keepP (fun y:Nt=>decide (y.s≠s)) pl).spells.length) c13,iv ((keepP (fun y:Nt=>decide (y.s≠s)) pl).geese)],iv 0],Ret.ct rfl rfl (run_loadK hI 3 6 [iv ((keepP (fun y:Nt=>decide (y.s≠s)) pl).lo),iv ((keepP (fun y:Nt=>decide (y.s≠s)) pl).hi),slv g4 ((keepP (fun y:Nt=>decide (y.s≠s)) pl).loads.length) c5,slv g8 ((keepP (fun y:Nt=>decide (y.s≠s)) pl).stands.length) c9,slv g12 ((keepP (fun y:Nt=>decide (y.s≠s)) pl).spells.length) c13,iv ((keepP (fun y:Nt=>decide (y.s≠s)) pl).geese)] Tryz.isAgg28 Tryz.sizeOf28 rfl rfl rfl) rfl,(by rw [e]; exact ⟨.agg #[iv ((keepP (fun y:Nt=>decide (y.s≠s)) pl).lo),iv ((keepP (fun y:Nt=>decide (y.s≠s)) pl).hi),slv g4 ((keepP (fun y:Nt=>decide (y.s≠s)) pl).loads.length) c5,slv g8 ((keepP (fun y:Nt=>decide (y.s≠s)) pl).stands.length) c9,slv g12 ((keepP (fun y:Nt=>decide (y.s≠s)) pl).spells.length) c13,iv ((keepP (fun y:Nt=>decide (y.s≠s)) pl).geese)],rfl,⟨g4,c5,cl6,g8,c9,cl10,g12,c13,cl14,(by first | rfl | (simp only [plv,← hm1,← hm2,← hm3]; done) | (simp [plv,keepP]; done)),hI.pickL [0,1,2] (by decide) rfl,(r7.to (by first | rfl | simp [keepP]) (by first | rfl | assumption | simp [keepP])),(r11.to (by first | rfl | simp [keepP]) (by first | rfl | assumption | simp [keepP])),(r15.to (by first | rfl | simp [keepP]) (by first | rfl | assumption | simp [keepP]))⟩⟩)⟩
  ·intro h4 w hI
   refine pu (.bool true) rfl (seq_nil (wp_condT rfl (wp_seq (rgn rfl (pu (.agg #[iv 0,iv 0,.slice none 0 0,.slice none 0 0,.slice none 0 0,iv 0]) (by kernel_rfl) (seq_c (s_store hI 0 6 [iv 0,iv 0,.slice none 0 0,.slice none 0 0,.slice none 0 0,iv 0] Tryz.sizeOf28 rfl rfl rfl rfl rfl (Nat.le_of_ble_eq_true rfl) ?_)))))))
   intro w hI
   refine pu (iv 3) rfl (seq_nil (wp_ret ?_))
   have hI:=hI.nilRow 33
   have hI:=hI.nilRow 31
   have hI:=hI.nilRow 30
   have e:withoutF pl s=(zeroPl,3):=by simp [withoutF,codeI,codeI_ok h2 (by decide),h4]
   exact ⟨.tuple #[.agg #[iv 0,iv 0,.slice none 0 0,.slice none 0 0,.slice none 0 0,iv 0],iv 3],Ret.ct rfl rfl (run_loadK hI 3 6 [iv 0,iv 0,.slice none 0 0,.slice none 0 0,.slice none 0 0,iv 0] Tryz.isAgg28 Tryz.sizeOf28 rfl rfl rfl) rfl,(by rw [e]; exact ⟨.agg #[iv 0,iv 0,.slice none 0 0,.slice none 0 0,.slice none 0 0,iv 0],rfl,⟨none,0,[],none,0,[],none,0,[],rfl,hI.pickL [0,1,2] (by decide) rfl,Row.nil_ 6,Row.nil_ 6,Row.nil_ 6⟩⟩)⟩

end Go.K
