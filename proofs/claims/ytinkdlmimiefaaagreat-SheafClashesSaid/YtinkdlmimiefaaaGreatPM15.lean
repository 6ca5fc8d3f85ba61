/- Scenes of plots; what stood at an hour, what was carted. -/
import Derived.Test.YtinkdlmimiefaaaGreatProg
import Derived.Test.YtinkdlmimiefaaaGreatPM14
import Derived.Test.YtinkdlmimiefaaaGreatPM32
namespace Go.K
open Go.Proofs Go.RowKit
set_option linter.unusedVariables false
set_option linter.unusedSimpArgs false
set_option maxRecDepth 100000
attribute [local irreducible] Seq Step CallV AnyE opX


theorem insertion_c0 (w0:World) (cl:List Value) (hr0:Row 6 none 0 0 cl (flat eLd ([]:List Ld))):Does Tryz.prog 183 [slv none 0 0,.int .i64 0,.int .i64 0,.func (.func 144) #[] #[]] w0 fun v w=>TurnsIn 6 30 none 0 0 (flat eLd (sortF [])) w0 v w:=by
 refine calls_of (n:=53) Tryz.func183 rfl Tryz.ntmps183 rfl ?_
 have hI:=Inv.lent w0 none (blk cl 30) (fun b h=>by cases h)
 refine wp_seq (rgn rfl (pu (iv 0) rfl (seq_c (s_add rfl rfl (by omega) ?_))))
 refine pu (iv (0+1)) rfl (seq_nil (wp_block ?_))
 refine wp_loop (fun m ρ w=>Agree ρ [(0,slv none 0 0),(1,iv 0),(2,iv 0),(3,.func (.func 144) #[] #[]),(8,iv (0+1))]∧Inv []  w0 w [(none,blk cl 30)]∧m=0) (m:=0) ⟨⟨rfl,rfl,rfl,rfl,rfl,trivial⟩,hI.pickL [0] (by decide) rfl,rfl⟩ ?_
 rintro m ρ w ⟨hag,hI,hm⟩
 obtain ⟨ρ,rfl⟩:=hag.form; clear hag
 refine wp_seq (wp_seq (rgn rfl (pu (iv (0+1)) rfl (pu (iv 0) rfl (seq_c (s_lss rfl rfl ?_ ?_))))))
 ·intro h1
  exact absurd h1 (by omega)
 ·intro h2
  refine seq_nil (wp_condF rfl (wp_exit ?_))
  exact ⟨.tuple #[],Ret.r0 rfl , ⟨cl,rfl,hI.pickL [0] (by decide) rfl,hr0⟩⟩

theorem insertion_c (w0:World) (g:Option Nat) (n c:Nat) (cl:List Value) (l:List Ld) (hg:∀ b,g=some b→w0.heap[b]?=some (blk cl 30)) (hr:Row 6 g n c cl (flat eLd l)) (hmax:n≤1000000000):Does Tryz.prog 183 [slv g n c,.int .i64 0,.int .i64 (n:Int),.func (.func 144) #[] #[]] w0 fun v w=>TurnsIn 6 30 g c n (flat eLd (sortF l)) w0 v w:=by
  cases g with
  | none =>
    have hc:=hr.nil rfl
    have hn:n=0:=by have:=hr.cap; omega
    subst hc; subst hn
    have hl:l=[]:=List.eq_nil_of_length_eq_zero (hr.n_eq eLd_len (by decide)).symm
    subst hl
    exact insertion_c0 w0 cl hr
  | some b=>exact insertion_c1 w0 b n c cl l hg hr hmax


theorem stable_c (w0:World) (g:Option Nat) (n c:Nat) (cl:List Value) (l:List Ld) (hg:∀ b,g=some b→w0.heap[b]?=some (blk cl 30)) (hr:Row 6 g n c cl (flat eLd l)) (hmax:n < 20):Does Tryz.prog 174 [slv g n c,.int .i64 (n:Int),.func (.func 144) #[] #[]] w0 fun v w=>TurnsIn 6 30 g c n (flat eLd (sortF l)) w0 v w:=by
 have hnl:=hr.n_eq eLd_len (by decide)
 refine calls_of (n:=63) Tryz.func174 rfl Tryz.ntmps174 rfl ?_
 have hI:=Inv.lent w0 g (blk cl 30) hg
 refine wp_seq (rgn rfl (pu (iv 20) rfl (seq_nil (wp_seq (rgn rfl (pu (iv 20) rfl (pu (iv 0) rfl (pu (iv 20) rfl (seq_nil ?_)))))))))
 refine wp_seq (wp_block ?_)
 refine wp_loop (fun m ρ w=>Agree ρ [(0,slv g n c),(1,iv (n:Int)),(2,.func (.func 144) #[] #[]),(6,iv 20),(7,iv 0),(8,iv 20)]∧Inv g.toList w0 w [(g,blk cl 30)]∧m=0) (m:=0) ⟨⟨rfl,rfl,rfl,rfl,rfl,rfl,trivial⟩,hI.pickL [0] (by decide) rfl,rfl⟩ ?_
 rintro m ρ w ⟨hag,hI,hm⟩
 obtain ⟨ρ,rfl⟩:=hag.form; clear hag
 refine wp_seq (wp_seq (rgn rfl (pu (iv 20) rfl (pu (iv (n:Int)) rfl (seq_c (s_leq rfl rfl ?_ ?_))))))
 ·intro h1
  exact absurd h1 (by omega)
 ·intro h2
  refine seq_nil (wp_condF rfl (wp_exit ?_))
  refine wp_seq (rgn rfl (pu (slv g n c) rfl (pu (iv 0) rfl (pu (iv (n:Int)) rfl (pu (.func (.func 144) #[] #[]) rfl (seq_c (s_callTurns hI 183 [slv g n c,iv 0,iv (n:Int),.func (.func 144) #[] #[]] 0 rfl (by kernel_rfl) (insertion_c _ g n c cl l (hI.hasg 0 rfl) hr (by omega)) ?_)))))))
  intro cl1 w hI r2
  have r2:Row 6 g (n) c cl1 (flat eLd (sortF l)):=r2
  refine seq_nil (wp_block ?_)
  refine wp_loop (fun m ρ w=>Agree ρ [(0,slv g n c),(1,iv (n:Int)),(2,.func (.func 144) #[] #[]),(6,iv 20)]∧Inv g.toList w0 w [(g,blk cl1 30),(none,blk cl 30)]∧m=0) (m:=0) ⟨⟨rfl,rfl,rfl,rfl,trivial⟩,hI.pickL [0,1] (by decide) rfl,rfl⟩ ?_
  rintro m ρ w ⟨hag,hI,hm⟩
  obtain ⟨ρ,rfl⟩:=hag.form; clear hag
  refine wp_seq (wp_seq (rgn rfl (pu (iv 20) rfl (pu (iv (n:Int)) rfl (seq_c (s_lss rfl rfl ?_ ?_))))))
  ·intro h3
   exact absurd h3 (by omega)
  ·intro h4
   refine seq_nil (wp_condF rfl (wp_exit ?_))
   exact ⟨.tuple #[],Ret.r0 rfl , ⟨cl1,rfl,hI.pickL [0] (by decide) rfl,r2⟩⟩


theorem stable60_c (w0:World) (g:Option Nat) (n c:Nat) (cl:List Value) (l:List Ld) (hg:∀ b,g=some b→w0.heap[b]?=some (blk cl 30)) (hr:Row 6 g n c cl (flat eLd l)) (hmax:n≤60):Does Tryz.prog 174 [slv g n c,.int .i64 (n:Int),.func (.func 144) #[] #[]] w0 fun v w=>TurnsIn 6 30 g c n (flat eLd (sortF l)) w0 v w:=by
  rcases Nat.lt_or_ge n 20 with h | h
  · exact stable_c w0 g n c cl l hg hr h
  · obtain ⟨b,rfl⟩:=hr.some_ (by omega)
    exact stable60_c1 w0 b n c cl l hg hr hmax

theorem SortStable_c (w0:World) (g:Option Nat) (n c:Nat) (cl:List Value) (l:List Ld) (hg:∀ b,g=some b→w0.heap[b]?=some (blk cl 30)) (hr:Row 6 g n c cl (flat eLd l)) (hmax:n≤60):Does Tryz.prog 143 [slv g n c,.func (.func 144) #[] #[]] w0 fun v w=>TurnsIn 6 30 g c n (flat eLd (sortF l)) w0 v w:=by
 have hnl:=hr.n_eq eLd_len (by decide)
 refine calls_of (n:=9) Tryz.func143 rfl Tryz.ntmps143 rfl ?_
 have hI:=Inv.lent w0 g (blk cl 30) hg
 refine rgn rfl (pu (slv g n c) rfl (pu (slv g n c) rfl (pu (iv ((n:Nat):Int)) (by kernel_rfl) (pu (.func (.func 144) #[] #[]) rfl (seq_c (s_callTurns hI 174 [slv g n c,iv (n:Int),.func (.func 144) #[] #[]] 0 rfl (by kernel_rfl) (stable60_c _ g n c cl l (hI.hasg 0 rfl) hr (by omega)) ?_))))))
 intro cl1 w hI r2
 have r2:Row 6 g (n) c cl1 (flat eLd (sortF l)):=r2
 refine seq_nil ?_
 exact ⟨.tuple #[],Ret.r0 rfl , ⟨cl1,rfl,hI.pickL [0] (by decide) rfl,r2⟩⟩

def scnF (p:Pl) (dy:Int):Pl:=keepP (fun y:Nt=>countsB y.k y.u dy) p
def crtF (p:Pl) (dy:Int):List Ld:=sortF (scnF p dy).loads
theorem scn_len (p:Pl) (dy:Int):(scnF p dy).loads.length≤p.loads.length∧(scnF p dy).stands.length≤p.stands.length∧(scnF p dy).spells.length≤p.spells.length :=
  ⟨List.length_filter_le _ _,List.length_filter_le _ _,List.length_filter_le _ _⟩
theorem crt_len (p:Pl) (dy:Int):(crtF p dy).length=(scnF p dy).loads.length:=sortF_len _
theorem okL_sh {e:Int} {x:Ld} (he:e≠0) (h:okL e x=0):Fd x∧0≤x.hr∧x.hr≤99999:=by
  have:=codeI_ok h he
  simp only [loadB,areSheavesB,isHourB,Bool.and_eq_true,decide_eq_true_eq] at this
  exact ⟨⟨by omega,by omega,by omega,by omega⟩,by omega,by omega⟩
theorem scn_ok {p:Pl} (h:plotB p=true) (dy:Int):ScOk (scnF p dy) (crtF p dy):=by
  have hr:=(plotB_iff p).1 h
  refine ⟨?_,fun x hx=>?_,fun x hx=>?_⟩
  · have:=hr.sown
    simp only [areSheavesB,Bool.and_eq_true,decide_eq_true_eq] at this
    exact ⟨by show _≤p.lo; omega,by show p.lo≤_; omega,by show _≤p.hi; omega,by show p.hi≤_; omega⟩
  · obtain ⟨⟨a,b,c,d⟩,_⟩:=okL_sh (by decide) (hr.o2 x (List.mem_filter.1 hx).1)
    exact ⟨by show _≤x.lo; omega,by show x.lo≤_; omega,by show _≤x.hi; omega,by show x.hi≤_; omega⟩
  · exact (okL_sh (by decide) (hr.o1 x (List.mem_filter.1 (sortF_mem.1 hx)).1)).1
def scv (q:Pl) (cs:List Ld) (g1:Option Nat) (c1:Nat) (g2:Option Nat) (c2:Nat) (g3:Option Nat) (c3:Nat) (g4:Option Nat) (c4:Nat):Value :=
  .agg #[.int .i64 q.lo,.int .i64 q.hi,slv g1 q.loads.length c1,slv g2 q.stands.length c2,slv g3 q.spells.length c3,.int .i64 q.geese,slv g4 cs.length c4]
def GivesScene (q:Pl) (cs:List Ld) (w0:World) (v:Value) (w:World):Prop :=
  ∃ g1 c1 cl1 g2 c2 cl2 g3 c3 cl3 g4 c4 cl4,v=scv q cs g1 c1 g2 c2 g3 c3 g4 c4∧Inv []  w0 w [(g1,blk cl1 30),(g2,blk cl2 31),(g3,blk cl3 33),(g4,blk cl4 30)]
    ∧ Row 6 g1 q.loads.length c1 cl1 (flat eLd q.loads)∧Row 6 g2 q.stands.length c2 cl2 (flat eLd q.stands)∧Row 6 g3 q.spells.length c3 cl3 (flat eSp q.spells)∧Row 6 g4 cs.length c4 cl4 (flat eLd cs)
section steps
variable {P:Program} {ρ:Env} {B:List Nat} {w w0 w':World} {L N:List (Option Nat × Obj)} {R:Value→World→Prop}
theorem s_callScene (hI:Inv B w0 w L) {o:Oper} (f:FuncId) (args:List Value) {q:Pl} {cs:List Ld} (h:(execOp (ev ρ) o).run P w=.ok (.enter f args.toArray) w)
    (hc:Does P f args w fun v w'=>GivesScene q cs w v w') (kk:∀ g1 c1 cl1 g2 c2 cl2 g3 c3 cl3 g4 c4 cl4 w',Inv B w0 w' ((g1,blk cl1 30) :: (g2,blk cl2 31) :: (g3,blk cl3 33) :: (g4,blk cl4 30) :: L)→Row 6 g1 q.loads.length c1 cl1 (flat eLd q.loads)→Row 6 g2 q.stands.length c2 cl2 (flat eLd q.stands)→Row 6 g3 q.spells.length c3 cl3 (flat eSp q.spells)→Row 6 g4 cs.length c4 cl4 (flat eLd cs)→R (scv q cs g1 c1 g2 c2 g3 c3 g4 c4) w'):Step P o ρ w R :=
  s_call f args h hc fun v w' ⟨g1,c1,cl1,g2,c2,cl2,g3,c3,cl3,g4,c4,cl4,hv,hN,r1,r2,r3,r4⟩=>by
    subst hv
    exact kk g1 c1 cl1 g2 c2 cl2 g3 c3 cl3 g4 c4 cl4 w' (hI.join hN) r1 r2 r3 r4
end steps
def dayI (p:Pl) (dy:Int):Int:=if plotB p then if isDayB dy then 0 else 6 else 13
def hourI (p:Pl) (h dy:Int):Int:=if plotB p then if isHourB h then if isDayB dy then 0 else 6 else 7 else 13
theorem dayI_ok {p:Pl} {dy:Int} (h:dayI p dy=0):plotB p=true∧isDayB dy=true:=by
  unfold dayI at h
  cases h1:plotB p <;> cases h2:isDayB dy <;> simp [h1,h2] at h ⊢
set_option maxHeartbeats 800000 in
theorem sceneOf_c (w0:World) (pl:Pl) (pA1:Option Addr) (pn1 pc1:Nat) (pA2:Option Addr) (pn2 pc2:Nat) (pA3:Option Addr) (pn3 pc3:Nat) (hP:PlotIn w0 pl pA1 pn1 pA2 pn2 pA3 pn3) (hS:Small pl) (dy:Int):Does Tryz.prog 86 [.agg #[.int .i64 pl.lo,.int .i64 pl.hi,.slice pA1 pn1 pc1,.slice pA2 pn2 pc2,.slice pA3 pn3 pc3,.int .i64 pl.geese],.int .i64 dy] w0 fun v w=>GivesScene (scnF pl dy) (crtF pl dy) w0 v w:=by
 have hm1:=hP.m1; have hm2:=hP.m2; have hm3:=hP.m3; have hs1:=hS.s1; have hs2:=hS.s2; have hs3:=hS.s3
 refine calls_of (n:=19) Tryz.func86 rfl Tryz.ntmps86 rfl ?_
 have hI:=Inv.start w0
 refine wp_seq (rgn rfl (seq_c (s_boxI hI [iv pl.lo,iv pl.hi,.slice pA1 pn1 pc1,.slice pA2 pn2 pc2,.slice pA3 pn3 pc3,iv pl.geese] rfl ?_)))
 intro b1 w hI
 refine seq_c (s_boxI hI [iv dy] rfl ?_)
 intro b2 w hI
 refine seq_c (s_allocI hI [iv 0,iv 0,.slice none 0 0,.slice none 0 0,.slice none 0 0,iv 0,.slice none 0 0] Tryz.zeroValue116 rfl ?_)
 intro b3 w hI
 refine seq_nil (wp_seq (rgn rfl (seq_c (s_loadK hI 2 6 [iv pl.lo,iv pl.hi,.slice pA1 pn1 pc1,.slice pA2 pn2 pc2,.slice pA3 pn3 pc3,iv pl.geese] Tryz.isAgg28 Tryz.sizeOf28 rfl rfl rfl rfl ?_))))
 refine pu (.func (.func 141) #[] #[.pointer (some ⟨b2,0,none⟩)]) (by kernel_rfl) (seq_c (s_callPlot hI (q:=keepP (fun y:Nt=>countsB y.k y.u dy) pl) 67 [.agg #[iv pl.lo,iv pl.hi,.slice pA1 pn1 pc1,.slice pA2 pn2 pc2,.slice pA3 pn3 pc3,iv pl.geese],.func (.func 141) #[] #[.pointer (some ⟨b2,0,none⟩)]] (by kernel_rfl) (filtered_c _ pl pA1 pn1 pc1 pA2 pn2 pc2 pA3 pn3 pc3 (hP.inv0 hI) hS (.func (.func 141) #[] #[.pointer (some ⟨b2,0,none⟩)]) (fun y:Nt=>countsB y.k y.u dy) rfl (fun w1 hb y=>CallV.of (args':=[.agg (eNt y).toArray,.pointer (some ⟨b2,0,none⟩)]) rfl (sceneOf1_c w1 y dy b2 (below_blk hb (hI.has 1 _ _ rfl).1)))) ?_))
 intro g4 c5 cl6 g8 c9 cl10 g12 c13 cl14 w hI r7 r11 r15
 refine pu (.agg #[iv ((keepP (fun y:Nt=>countsB y.k y.u dy) pl).lo),iv ((keepP (fun y:Nt=>countsB y.k y.u dy) pl).hi),slv g4 ((keepP (fun y:Nt=>countsB y.k y.u dy) pl).loads.length) c5,slv g8 ((keepP (fun y:Nt=>countsB y.k y.u dy) pl).stands.length) c9,slv g12 ((keepP (fun y:Nt=>countsB y.k y.u dy) pl).spells.length) c13,iv ((keepP (fun y:Nt=>countsB y.k y.u dy) pl).geese),.slice none 0 0]) (by kernel_rfl) (seq_c (s_allocI hI [iv 0,iv 0,.slice none 0 0,.slice none 0 0,.slice none 0 0,iv 0,.slice none 0 0] Tryz.zeroValue116 rfl ?_))
 intro b16 w hI
 refine seq_c (s_store hI 0 7 [iv ((keepP (fun y:Nt=>countsB y.k y.u dy) pl).lo),iv ((keepP (fun y:Nt=>countsB y.k y.u dy) pl).hi),slv g4 ((keepP (fun y:Nt=>countsB y.k y.u dy) pl).loads.length) c5,slv g8 ((keepP (fun y:Nt=>countsB y.k y.u dy) pl).stands.length) c9,slv g12 ((keepP (fun y:Nt=>countsB y.k y.u dy) pl).spells.length) c13,iv ((keepP (fun y:Nt=>countsB y.k y.u dy) pl).geese),.slice none 0 0] Tryz.sizeOf116 rfl rfl rfl rfl rfl (Nat.le_of_ble_eq_true rfl) ?_)
 intro w hI
 refine seq_nil (wp_seq (rgn rfl (pu (.pointer (some ⟨b16,0,none⟩)) rfl (pu (.pointer (some ⟨b16,2,none⟩)) rfl (seq_c (s_load1 hI 0 (slv g4 ((keepP (fun y:Nt=>countsB y.k y.u dy) pl).loads.length) c5) Tryz.isAgg24 rfl rfl rfl ?_))))))
 have hsc:=scn_len pl dy; have hs9:=hsc.1; have hs8:(keepP (fun y:Nt=>countsB y.k y.u dy) pl).loads.length≤pl.loads.length:=hs9
 refine seq_c (s_callNew hI 123 [slv g4 ((keepP (fun y:Nt=>countsB y.k y.u dy) pl).loads.length) c5] (by kernel_rfl) (CloneLoads_c _ ((keepP (fun y:Nt=>countsB y.k y.u dy) pl).loads) (g4.map fun b=>⟨b,0,none⟩) ((keepP (fun y:Nt=>countsB y.k y.u dy) pl).loads.length) c5 rfl (by omega) (hI.rowCells 1 rfl r7)) ?_)
 intro g17 c18 cl19 w hI r20
 have r20:Row 6 g17 ((keepP (fun y:Nt=>countsB y.k y.u dy) pl).loads.length) c18 cl19 (flat eLd ((keepP (fun y:Nt=>countsB y.k y.u dy) pl).loads)):=r20
 refine pu (.pointer (some ⟨b16,6,none⟩)) rfl (seq_c (s_store hI 1 1 [slv g17 ((keepP (fun y:Nt=>countsB y.k y.u dy) pl).loads.length) c18] Tryz.sizeOf24 rfl rfl rfl rfl rfl (Nat.le_of_ble_eq_true rfl) ?_))
 intro w hI
 refine seq_nil (wp_seq (rgn rfl (pu (.pointer (some ⟨b16,6,none⟩)) rfl (seq_c (s_load1 hI 1 (slv g17 ((keepP (fun y:Nt=>countsB y.k y.u dy) pl).loads.length) c18) Tryz.isAgg24 rfl rfl rfl ?_)))))
 refine seq_c (s_callTurns hI 143 [slv g17 ((keepP (fun y:Nt=>countsB y.k y.u dy) pl).loads.length) c18,.func (.func 144) #[] #[]] 0 rfl (by kernel_rfl) (SortStable_c _ g17 ((keepP (fun y:Nt=>countsB y.k y.u dy) pl).loads.length) c18 cl19 ((keepP (fun y:Nt=>countsB y.k y.u dy) pl).loads) (hI.hasg 0 rfl) r20 (by omega)) ?_)
 intro cl21 w hI r22
 have r22:Row 6 g17 ((keepP (fun y:Nt=>countsB y.k y.u dy) pl).loads.length) c18 cl21 (flat eLd (sortF ((keepP (fun y:Nt=>countsB y.k y.u dy) pl).loads))):=r22
 refine seq_nil (wp_seq (rgn rfl (seq_c (s_loadK hI 2 7 [iv ((keepP (fun y:Nt=>countsB y.k y.u dy) pl).lo),iv ((keepP (fun y:Nt=>countsB y.k y.u dy) pl).hi),slv g4 ((keepP (fun y:Nt=>countsB y.k y.u dy) pl).loads.length) c5,slv g8 ((keepP (fun y:Nt=>countsB y.k y.u dy) pl).stands.length) c9,slv g12 ((keepP (fun y:Nt=>countsB y.k y.u dy) pl).spells.length) c13,iv ((keepP (fun y:Nt=>countsB y.k y.u dy) pl).geese),slv g17 ((keepP (fun y:Nt=>countsB y.k y.u dy) pl).loads.length) c18] Tryz.isAgg116 Tryz.sizeOf116 rfl rfl rfl rfl ?_))))
 refine seq_c (s_store hI 6 7 [iv ((keepP (fun y:Nt=>countsB y.k y.u dy) pl).lo),iv ((keepP (fun y:Nt=>countsB y.k y.u dy) pl).hi),slv g4 ((keepP (fun y:Nt=>countsB y.k y.u dy) pl).loads.length) c5,slv g8 ((keepP (fun y:Nt=>countsB y.k y.u dy) pl).stands.length) c9,slv g12 ((keepP (fun y:Nt=>countsB y.k y.u dy) pl).spells.length) c13,iv ((keepP (fun y:Nt=>countsB y.k y.u dy) pl).geese),slv g17 ((keepP (fun y:Nt=>countsB y.k y.u dy) pl).loads.length) c18] Tryz.sizeOf116 rfl rfl rfl rfl rfl (Nat.le_of_ble_eq_true rfl) ?_)
 intro w hI
 refine seq_nil (wp_ret ?_)
 exact ⟨.agg #[iv ((keepP (fun y:Nt=>countsB y.k y.u dy) pl).lo),iv ((keepP (fun y:Nt=>countsB y.k y.u dy) pl).hi),slv g4 ((keepP (fun y:Nt=>countsB y.k y.u dy) pl).loads.length) c5,slv g8 ((keepP (fun y:Nt=>countsB y.k y.u dy) pl).stands.length) c9,slv g12 ((keepP (fun y:Nt=>countsB y.k y.u dy) pl).spells.length) c13,iv ((keepP (fun y:Nt=>countsB y.k y.u dy) pl).geese),slv g17 ((keepP (fun y:Nt=>countsB y.k y.u dy) pl).loads.length) c18],Ret.c rfl rfl (run_loadK hI 6 7 [iv ((keepP (fun y:Nt=>countsB y.k y.u dy) pl).lo),iv ((keepP (fun y:Nt=>countsB y.k y.u dy) pl).hi),slv g4 ((keepP (fun y:Nt=>countsB y.k y.u dy) pl).loads.length) c5,slv g8 ((keepP (fun y:Nt=>countsB y.k y.u dy) pl).stands.length) c9,slv g12 ((keepP (fun y:Nt=>countsB y.k y.u dy) pl).spells.length) c13,iv ((keepP (fun y:Nt=>countsB y.k y.u dy) pl).geese),slv g17 ((keepP (fun y:Nt=>countsB y.k y.u dy) pl).loads.length) c18] Tryz.isAgg116 Tryz.sizeOf116 rfl rfl rfl),⟨g4,c5,cl6,g8,c9,cl10,g12,c13,cl14,g17,c18,cl21,(by simp only [scv,crt_len]; rfl),hI.pickL [3,4,5,0] (by decide) rfl,r7.to rfl rfl,r11.to rfl rfl,r15.to rfl rfl,r22.to rfl (by rw [crt_len]; rfl)⟩⟩


theorem checkDay_c (w0:World) (pl:Pl) (pA1:Option Addr) (pn1 pc1:Nat) (pA2:Option Addr) (pn2 pc2:Nat) (pA3:Option Addr) (pn3 pc3:Nat) (hP:PlotIn w0 pl pA1 pn1 pA2 pn2 pA3 pn3) (dy:Int):Does Tryz.prog 85 [.agg #[.int .i64 pl.lo,.int .i64 pl.hi,.slice pA1 pn1 pc1,.slice pA2 pn2 pc2,.slice pA3 pn3 pc3,.int .i64 pl.geese],.int .i64 dy] w0 fun v w=>v=.int .i64 (dayI pl dy)∧Below w0.heap.size w0 w:=by
 refine calls_of (n:=14) Tryz.func85 rfl Tryz.ntmps85 rfl ?_
 have hI:=Inv.start w0
 refine wp_seq (rgn rfl (seq_c (s_boxI hI [iv pl.lo,iv pl.hi,.slice pA1 pn1 pc1,.slice pA2 pn2 pc2,.slice pA3 pn3 pc3,iv pl.geese] rfl ?_)))
 intro b1 w hI
 refine pu (iv 0) rfl (seq_nil (wp_seq (wp_seq (rgn rfl (seq_c (s_loadK hI 0 6 [iv pl.lo,iv pl.hi,.slice pA1 pn1 pc1,.slice pA2 pn2 pc2,.slice pA3 pn3 pc3,iv pl.geese] Tryz.isAgg28 Tryz.sizeOf28 rfl rfl rfl rfl ?_))))))
 refine seq_c (s_callv hI 22 [.agg #[iv pl.lo,iv pl.hi,.slice pA1 pn1 pc1,.slice pA2 pn2 pc2,.slice pA3 pn3 pc3,iv pl.geese]] (iv (codeI (plotB pl) 13)) (by kernel_rfl) (Check_c _ pl pA1 pn1 pc1 pA2 pn2 pc2 pA3 pn3 pc3 (hP.inv0 hI)) ?_)
 intro w hI
 refine pu (iv (codeI (plotB pl) 13)) rfl (seq_nil (wp_seq (rgn rfl (pu (iv (codeI (plotB pl) 13)) rfl (seq_c (s_neq rfl rfl ?_ ?_))))))
 ·intro h1
  refine seq_nil (wp_condT rfl (wp_seq (rgn rfl (pu (iv (codeI (plotB pl) 13)) rfl (pu (iv (codeI (plotB pl) 13)) rfl (seq_nil (wp_ret ?_)))))))
  exact ⟨iv (codeI (plotB pl) 13),Ret.r1 rfl rfl,⟨by refine congrArg (Value.int .i64) ?_; simp [dayI,codeI,codeI_no h1],hI.below⟩⟩
 ·intro h2
  refine seq_nil (wp_condF rfl (wp_skip (wp_seq (wp_seq (rgn rfl (pu (iv dy) rfl (seq_c (s_callb hI 139 [iv dy] (isDayB dy) (by kernel_rfl) (isDay_c dy _) ?_ ?_))))))))
  ·intro h3 w hI
   refine pu (.bool false) rfl (seq_nil (wp_condF rfl (wp_skip (wp_seq (rgn rfl (pu (iv 0) rfl (seq_nil (wp_ret ?_))))))))
   exact ⟨iv 0,Ret.r1 rfl rfl,⟨by refine congrArg (Value.int .i64) ?_; simp [dayI,codeI,codeI_ok h2 (by decide),h3],hI.below⟩⟩
  ·intro h4 w hI
   refine pu (.bool true) rfl (seq_nil (wp_condT rfl (wp_seq (rgn rfl (pu (iv 6) rfl (seq_nil (wp_ret ?_)))))))
   exact ⟨iv 6,Ret.r1 rfl rfl,⟨by refine congrArg (Value.int .i64) ?_; simp [dayI,codeI,codeI_ok h2 (by decide),h4],hI.below⟩⟩


theorem checkHour_c (w0:World) (pl:Pl) (pA1:Option Addr) (pn1 pc1:Nat) (pA2:Option Addr) (pn2 pc2:Nat) (pA3:Option Addr) (pn3 pc3:Nat) (hP:PlotIn w0 pl pA1 pn1 pA2 pn2 pA3 pn3) (h dy:Int):Does Tryz.prog 97 [.agg #[.int .i64 pl.lo,.int .i64 pl.hi,.slice pA1 pn1 pc1,.slice pA2 pn2 pc2,.slice pA3 pn3 pc3,.int .i64 pl.geese],.int .i64 h,.int .i64 dy] w0 fun v w=>v=.int .i64 (hourI pl h dy)∧Below w0.heap.size w0 w:=by
 refine calls_of (n:=19) Tryz.func97 rfl Tryz.ntmps97 rfl ?_
 have hI:=Inv.start w0
 refine wp_seq (rgn rfl (seq_c (s_boxI hI [iv pl.lo,iv pl.hi,.slice pA1 pn1 pc1,.slice pA2 pn2 pc2,.slice pA3 pn3 pc3,iv pl.geese] rfl ?_)))
 intro b1 w hI
 refine pu (iv 0) rfl (seq_nil (wp_seq (wp_seq (rgn rfl (seq_c (s_loadK hI 0 6 [iv pl.lo,iv pl.hi,.slice pA1 pn1 pc1,.slice pA2 pn2 pc2,.slice pA3 pn3 pc3,iv pl.geese] Tryz.isAgg28 Tryz.sizeOf28 rfl rfl rfl rfl ?_))))))
 refine seq_c (s_callv hI 22 [.agg #[iv pl.lo,iv pl.hi,.slice pA1 pn1 pc1,.slice pA2 pn2 pc2,.slice pA3 pn3 pc3,iv pl.geese]] (iv (codeI (plotB pl) 13)) (by kernel_rfl) (Check_c _ pl pA1 pn1 pc1 pA2 pn2 pc2 pA3 pn3 pc3 (hP.inv0 hI)) ?_)
 intro w hI
 refine pu (iv (codeI (plotB pl) 13)) rfl (seq_nil (wp_seq (rgn rfl (pu (iv (codeI (plotB pl) 13)) rfl (seq_c (s_neq rfl rfl ?_ ?_))))))
 ·intro h1
  refine seq_nil (wp_condT rfl (wp_seq (rgn rfl (pu (iv (codeI (plotB pl) 13)) rfl (pu (iv (codeI (plotB pl) 13)) rfl (seq_nil (wp_ret ?_)))))))
  exact ⟨iv (codeI (plotB pl) 13),Ret.r1 rfl rfl,⟨by refine congrArg (Value.int .i64) ?_; simp [hourI,dayI,codeI,codeI_no h1],hI.below⟩⟩
 ·intro h2
  refine seq_nil (wp_condF rfl (wp_skip (wp_seq (wp_seq (rgn rfl (pu (iv h) rfl (seq_c (s_callb hI 82 [iv h] (isHourB h) (by kernel_rfl) (isHour_c h _) ?_ ?_))))))))
  ·intro h3 w hI
   refine pu (.bool false) rfl (seq_nil (wp_condF rfl (wp_skip (wp_seq (rgn rfl (seq_c (s_loadK hI 0 6 [iv pl.lo,iv pl.hi,.slice pA1 pn1 pc1,.slice pA2 pn2 pc2,.slice pA3 pn3 pc3,iv pl.geese] Tryz.isAgg28 Tryz.sizeOf28 rfl rfl rfl rfl ?_)))))))
   refine pu (iv dy) rfl (seq_c (s_callv hI 85 [.agg #[iv pl.lo,iv pl.hi,.slice pA1 pn1 pc1,.slice pA2 pn2 pc2,.slice pA3 pn3 pc3,iv pl.geese],iv dy] (iv (dayI pl dy)) (by kernel_rfl) (checkDay_c _ pl pA1 pn1 pc1 pA2 pn2 pc2 pA3 pn3 pc3 (hP.inv0 hI) dy) ?_))
   intro w hI
   refine pu (iv (dayI pl dy)) rfl (seq_nil (wp_ret ?_))
   exact ⟨iv (dayI pl dy),Ret.r1 rfl rfl,⟨by refine congrArg (Value.int .i64) ?_; simp [hourI,dayI,codeI,codeI_ok h2 (by decide),h3],hI.below⟩⟩
  ·intro h4 w hI
   refine pu (.bool true) rfl (seq_nil (wp_condT rfl (wp_seq (rgn rfl (pu (iv 7) rfl (seq_nil (wp_ret ?_)))))))
   exact ⟨iv 7,Ret.r1 rfl rfl,⟨by refine congrArg (Value.int .i64) ?_; simp [hourI,dayI,codeI,codeI_ok h2 (by decide),h4],hI.below⟩⟩

end Go.K
