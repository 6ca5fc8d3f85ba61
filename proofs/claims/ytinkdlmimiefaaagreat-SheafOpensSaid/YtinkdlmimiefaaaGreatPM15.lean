import Derived.Test.YtinkdlmimiefaaaGreatProg
import Derived.Test.YtinkdlmimiefaaaGreatPM14
import Derived.Test.YtinkdlmimiefaaaGreatPM32
namespace Go.K
open Go.Proofs.Tryz
open Go.Proofs Go.RowKit
set_option linter.unusedVariables false
set_option linter.unusedSimpArgs false
set_option maxRecDepth 100000
attribute [local irreducible] Seq cw cx fl opX


theorem insertion_c0 (w0:World) (cl:List Value) (hr0:Row 6 none 0 0 cl (al eLd ([]:List Ld))):bn Tryz.prog 183 [slv none 0 0,.int .i64 0,.int .i64 0,.func (.func 144) #[] #[]] w0 fun v w=>ex 6 30 none 0 0 (al eLd (ed [])) w0 v w:=by
 refine az (n:=53) func183 rfl ntmps183 rfl ?_
 have hI:=Inv.lent w0 none (blk cl 30) (fun b h=>by cases h)
 refine ab (rgn rfl (pu (iv 0) rfl (ac (cj rfl rfl (by omega) ?_))))
 refine pu (iv (0+1)) rfl (aa (au ?_))
 refine cb (fun m ρ w=>cd ρ [(0,slv none 0 0),(1,iv 0),(2,iv 0),(3,.func (.func 144) #[] #[]),(8,iv (0+1))]∧Inv []  w0 w [(none,blk cl 30)]∧m=0) (m:=0) ⟨⟨rfl,rfl,rfl,rfl,rfl,trivial⟩,hI.pk [0] rfl rfl,rfl⟩ ?_
 rintro m ρ w ⟨hag,hI,hm⟩
 obtain ⟨ρ,rfl⟩:=hag.form; clear hag
 refine ab (ab (rgn rfl (pu (iv (0+1)) rfl (pu (iv 0) rfl (ac (cm rfl rfl ?_ ?_))))))
 ·intro h1
  exact absurd h1 (by omega)
 intro h2
 refine aa (ai rfl (bw ?_))
 exact ⟨.tuple #[],Ret.r0 rfl , ⟨cl,rfl,hI.pk [0] rfl rfl,hr0⟩⟩

theorem insertion_c (w0:World) (g:Option Nat) (n c:Nat) (cl:List Value) (l:List Ld) (hg:∀ b,g=some b→w0.heap[b]?=some (blk cl 30)) (hr:Row 6 g n c cl (al eLd l)) (hmax:n≤1000000000):bn Tryz.prog 183 [slv g n c,.int .i64 0,.int .i64 (n:Int),.func (.func 144) #[] #[]] w0 fun v w=>ex 6 30 g c n (al eLd (ed l)) w0 v w:=by
  cases g with
  | none =>
    have hc:=hr.nil rfl
    have hn:n=0:=by have:=hr.cap; omega
    subst hc; subst hn
    have hl:l=[]:=List.eq_nil_of_length_eq_zero (hr.n_eq bf (by decide)).symm
    subst hl
    exact insertion_c0 w0 cl hr
  | some b=>exact insertion_c1 w0 b n c cl l hg hr hmax


theorem stable_c (w0:World) (g:Option Nat) (n c:Nat) (cl:List Value) (l:List Ld) (hg:∀ b,g=some b→w0.heap[b]?=some (blk cl 30)) (hr:Row 6 g n c cl (al eLd l)) (hmax:n < 20):bn Tryz.prog 174 [slv g n c,.int .i64 (n:Int),.func (.func 144) #[] #[]] w0 fun v w=>ex 6 30 g c n (al eLd (ed l)) w0 v w:=by
 have hnl:=hr.n_eq bf (by decide)
 refine az (n:=63) func174 rfl ntmps174 rfl ?_
 have hI:=Inv.lent w0 g (blk cl 30) hg
 refine ab (rgn rfl (pu (iv 20) rfl (aa (ab (rgn rfl (pu (iv 20) rfl (pu (iv 0) rfl (pu (iv 20) rfl (aa ?_)))))))))
 refine ab (au ?_)
 refine cb (fun m ρ w=>cd ρ [(0,slv g n c),(1,iv (n:Int)),(2,.func (.func 144) #[] #[]),(6,iv 20),(7,iv 0),(8,iv 20)]∧Inv g.toList w0 w [(g,blk cl 30)]∧m=0) (m:=0) ⟨⟨rfl,rfl,rfl,rfl,rfl,rfl,trivial⟩,hI.pk [0] rfl rfl,rfl⟩ ?_
 rintro m ρ w ⟨hag,hI,hm⟩
 obtain ⟨ρ,rfl⟩:=hag.form; clear hag
 refine ab (ab (rgn rfl (pu (iv 20) rfl (pu (iv (n:Int)) rfl (ac (fq rfl rfl ?_ ?_))))))
 ·intro h1
  exact absurd h1 (by omega)
 intro h2
 refine aa (ai rfl (bw ?_))
 refine ab (rgn rfl (pu (slv g n c) rfl (pu (iv 0) rfl (pu (iv (n:Int)) rfl (pu (.func (.func 144) #[] #[]) rfl (ac (ee hI 183 [slv g n c,iv 0,iv (n:Int),.func (.func 144) #[] #[]] 0 rfl (by kernel_rfl) (insertion_c _ g n c cl l (hI.hasg 0 rfl) hr (by omega)) ?_)))))))
 intro cl1 w hI r2
 have r2:Row 6 g (n) c cl1 (al eLd (ed l)):=r2
 refine aa (au ?_)
 refine cb (fun m ρ w=>cd ρ [(0,slv g n c),(1,iv (n:Int)),(2,.func (.func 144) #[] #[]),(6,iv 20)]∧Inv g.toList w0 w [(g,blk cl1 30),(none,blk cl 30)]∧m=0) (m:=0) ⟨⟨rfl,rfl,rfl,rfl,trivial⟩,hI.pk [0,1] rfl rfl,rfl⟩ ?_
 rintro m ρ w ⟨hag,hI,hm⟩
 obtain ⟨ρ,rfl⟩:=hag.form; clear hag
 refine ab (ab (rgn rfl (pu (iv 20) rfl (pu (iv (n:Int)) rfl (ac (cm rfl rfl ?_ ?_))))))
 ·intro h3
  exact absurd h3 (by omega)
 intro h4
 refine aa (ai rfl (bw ?_))
 exact ⟨.tuple #[],Ret.r0 rfl , ⟨cl1,rfl,hI.pk [0] rfl rfl,r2⟩⟩


theorem stable60_c (w0:World) (g:Option Nat) (n c:Nat) (cl:List Value) (l:List Ld) (hg:∀ b,g=some b→w0.heap[b]?=some (blk cl 30)) (hr:Row 6 g n c cl (al eLd l)) (hmax:n≤60):bn Tryz.prog 174 [slv g n c,.int .i64 (n:Int),.func (.func 144) #[] #[]] w0 fun v w=>ex 6 30 g c n (al eLd (ed l)) w0 v w:=by
  rcases Nat.lt_or_ge n 20 with h | h
  · exact stable_c w0 g n c cl l hg hr h
  obtain ⟨b,rfl⟩:=hr.some_ (by omega)
  exact stable60_c1 w0 b n c cl l hg hr hmax

theorem SortStable_c (w0:World) (g:Option Nat) (n c:Nat) (cl:List Value) (l:List Ld) (hg:∀ b,g=some b→w0.heap[b]?=some (blk cl 30)) (hr:Row 6 g n c cl (al eLd l)) (hmax:n≤60):bn Tryz.prog 143 [slv g n c,.func (.func 144) #[] #[]] w0 fun v w=>ex 6 30 g c n (al eLd (ed l)) w0 v w:=by
 have hnl:=hr.n_eq bf (by decide)
 refine az (n:=9) func143 rfl ntmps143 rfl ?_
 have hI:=Inv.lent w0 g (blk cl 30) hg
 refine rgn rfl (pu (slv g n c) rfl (pu (slv g n c) rfl (pu (iv ((n:Nat):Int)) (by kernel_rfl) (pu (.func (.func 144) #[] #[]) rfl (ac (ee hI 174 [slv g n c,iv (n:Int),.func (.func 144) #[] #[]] 0 rfl (by kernel_rfl) (stable60_c _ g n c cl l (hI.hasg 0 rfl) hr (by omega)) ?_))))))
 intro cl1 w hI r2
 have r2:Row 6 g (n) c cl1 (al eLd (ed l)):=r2
 refine aa ?_
 exact ⟨.tuple #[],Ret.r0 rfl , ⟨cl1,rfl,hI.pk [0] rfl rfl,r2⟩⟩

def ae (p:Pl) (dy:Int):Pl:=cv (fun y:Nt=>bo y.k y.u dy) p
def ax (p:Pl) (dy:Int):List Ld:=ed (ae p dy).loads
theorem jn (p:Pl) (dy:Int):(ae p dy).loads.length≤p.loads.length∧(ae p dy).stands.length≤p.stands.length∧(ae p dy).spells.length≤p.spells.length :=
  ⟨List.length_filter_le _ _,List.length_filter_le _ _,List.length_filter_le _ _⟩
theorem ij (p:Pl) (dy:Int):(ax p dy).length=(ae p dy).loads.length:=fm _
theorem okL_sh {e:Int} {x:Ld} (he:e≠0) (h:okL e x=0):Fd x∧0≤x.hr∧x.hr≤99999:=by
  have:=ia h he
  simp only [fk,cu,dx,Bool.and_eq_true,decide_eq_true_eq] at this
  exact ⟨⟨by omega,by omega,by omega,by omega⟩,by omega,by omega⟩
theorem scn_ok {p:Pl} (h:dw p=true) (dy:Int):ScOk (ae p dy) (ax p dy):=by
  have hr:=(ek p).1 h
  refine ⟨?_,fun x hx=>?_,fun x hx=>?_⟩
  · have:=hr.sown
    simp only [cu,Bool.and_eq_true,decide_eq_true_eq] at this
    exact ⟨by show _≤p.lo; omega,by show p.lo≤_; omega,by show _≤p.hi; omega,by show p.hi≤_; omega⟩
  · obtain ⟨⟨a,b,c,d⟩,_⟩:=okL_sh (by decide) (hr.o2 x (List.mem_filter.1 hx).1)
    exact ⟨by show _≤x.lo; omega,by show x.lo≤_; omega,by show _≤x.hi; omega,by show x.hi≤_; omega⟩
  exact (okL_sh (by decide) (hr.o1 x (List.mem_filter.1 (sortF_mem.1 hx)).1)).1
def scv (q:Pl) (cs:List Ld) (g1:Option Nat) (c1:Nat) (g2:Option Nat) (c2:Nat) (g3:Option Nat) (c3:Nat) (g4:Option Nat) (c4:Nat):Value :=
  .agg #[.int .i64 q.lo,.int .i64 q.hi,slv g1 q.loads.length c1,slv g2 q.stands.length c2,slv g3 q.spells.length c3,.int .i64 q.geese,slv g4 cs.length c4]
def GivesScene (q:Pl) (cs:List Ld) (w0:World) (v:Value) (w:World):Prop :=
  ∃ g1 c1 cl1 g2 c2 cl2 g3 c3 cl3 g4 c4 cl4,v=scv q cs g1 c1 g2 c2 g3 c3 g4 c4∧Inv []  w0 w [(g1,blk cl1 30),(g2,blk cl2 31),(g3,blk cl3 33),(g4,blk cl4 30)]
    ∧ Row 6 g1 q.loads.length c1 cl1 (al eLd q.loads)∧Row 6 g2 q.stands.length c2 cl2 (al eLd q.stands)∧Row 6 g3 q.spells.length c3 cl3 (al eSp q.spells)∧Row 6 g4 cs.length c4 cl4 (al eLd cs)
section steps
variable {P:Program} {ρ:Env} {B:List Nat} {w w0 w':World} {L N:List (Option Nat × Obj)} {R:Value→World→Prop}
theorem jh (hI:Inv B w0 w L) {o:Oper} (f:FuncId) (args:List Value) {q:Pl} {cs:List Ld} (h:(execOp (ev ρ) o).run P w=.ok (.enter f args.toArray) w)
    (hc:bn P f args w fun v w'=>GivesScene q cs w v w') (kk:∀ g1 c1 cl1 g2 c2 cl2 g3 c3 cl3 g4 c4 cl4 w',Inv B w0 w' ((g1,blk cl1 30) :: (g2,blk cl2 31) :: (g3,blk cl3 33) :: (g4,blk cl4 30) :: L)→Row 6 g1 q.loads.length c1 cl1 (al eLd q.loads)→Row 6 g2 q.stands.length c2 cl2 (al eLd q.stands)→Row 6 g3 q.spells.length c3 cl3 (al eSp q.spells)→Row 6 g4 cs.length c4 cl4 (al eLd cs)→R (scv q cs g1 c1 g2 c2 g3 c3 g4 c4) w'):cw P o ρ w R :=
  co f args h hc fun v w' ⟨g1,c1,cl1,g2,c2,cl2,g3,c3,cl3,g4,c4,cl4,hv,hN,r1,r2,r3,r4⟩=>by
    subst hv
    exact kk g1 c1 cl1 g2 c2 cl2 g3 c3 cl3 g4 c4 cl4 w' (hI.join hN) r1 r2 r3 r4
end steps
def fi (p:Pl) (dy:Int):Int:=if dw p then if ci dy then 0 else 6 else 13
def ec (p:Pl) (h dy:Int):Int:=if dw p then if dx h then if ci dy then 0 else 6 else 7 else 13
theorem dayI_ok {p:Pl} {dy:Int} (h:fi p dy=0):dw p=true∧ci dy=true:=by
  unfold fi at h
  cases h1:dw p <;> cases h2:ci dy <;> simp [h1,h2] at h ⊢
theorem ip {p:Pl} {h dy:Int} (hh:ec p h dy=0):dw p=true∧dx h=true∧ci dy=true:=by
  unfold ec at hh
  cases h1:dw p <;> cases h2:ci dy <;> cases h3:dx h <;> simp [h1,h2,h3] at hh ⊢
theorem isHour_bd {h:Int} (hh:dx h=true):0≤h∧h≤100000:=by
  simp only [dx,Bool.and_eq_true,decide_eq_true_eq] at hh; omega

set_option maxHeartbeats 800000 in
theorem sceneOf_c (w0:World) (pl:Pl) (g:Option Addr) (h o:Nat) (i:Option Addr) (j p:Nat) (l:Option Addr) (m r:Nat) (hP:gz w0 pl g h i j l m) (hS:Small pl) (dy:Int):bn Tryz.prog 86 [.agg (qn6 pl.lo pl.hi g h o i j p l m r pl.geese).toArray,.int .i64 dy] w0 fun v w=>GivesScene (ae pl dy) (ax pl dy) w0 v w:=by
 have hm1:=hP.m1; have hm2:=hP.m2; have hm3:=hP.m3; have hs1:=hS.s1; have hs2:=hS.s2; have hs3:=hS.s3
 refine az (n:=19) func86 rfl ntmps86 rfl ?_
 have hI:=Inv.start w0
 refine ab (rgn rfl (ac (ca hI (qn6 pl.lo pl.hi g h o i j p l m r pl.geese) rfl fun b1 w hI=>ac (ca hI [iv dy] rfl fun b2 w hI=>ac (bh hI (qn7 0 0 none 0 0 none 0 0 none 0 0 0 none 0 0) zeroValue116 rfl fun b3 w hI=>aa (ab (rgn rfl (ac (ar hI 2 6 (qn6 pl.lo pl.hi g h o i j p l m r pl.geese) isAgg28 sizeOf28 rfl rfl rfl rfl ?_)))))))))
 refine pu (.func (.func 141) #[] #[.pointer (some ⟨b2,0,none⟩)]) (by kernel_rfl) (ac (s_callPlot hI (q:=cv (fun y:Nt=>bo y.k y.u dy) pl) 67 [.agg (qn6 pl.lo pl.hi g h o i j p l m r pl.geese).toArray,.func (.func 141) #[] #[.pointer (some ⟨b2,0,none⟩)]] (by kernel_rfl) (filtered_c _ pl g h o i j p l m r (hP.inv0 hI) hS (.func (.func 141) #[] #[.pointer (some ⟨b2,0,none⟩)]) (fun y:Nt=>bo y.k y.u dy) rfl (fun w1 hb y=>cx.of (args':=[.agg (eNt y).toArray,.pointer (some ⟨b2,0,none⟩)]) rfl (sceneOf1_c w1 y dy b2 (jy hb (hI.has 1 _ _ rfl).1)))) fun g4 c5 cl6 g8 c9 B e f C w hI r7 D E=>pu (.agg #[iv ((cv (fun y:Nt=>bo y.k y.u dy) pl).lo),iv ((cv (fun y:Nt=>bo y.k y.u dy) pl).hi),slv g4 ((cv (fun y:Nt=>bo y.k y.u dy) pl).loads.length) c5,slv g8 ((cv (fun y:Nt=>bo y.k y.u dy) pl).stands.length) c9,slv e ((cv (fun y:Nt=>bo y.k y.u dy) pl).spells.length) f,iv ((cv (fun y:Nt=>bo y.k y.u dy) pl).geese),.slice none 0 0]) (by kernel_rfl) (ac (bh hI (qn7 0 0 none 0 0 none 0 0 none 0 0 0 none 0 0) zeroValue116 rfl fun s w hI=>ac (aq hI 0 7 [iv ((cv (fun y:Nt=>bo y.k y.u dy) pl).lo),iv ((cv (fun y:Nt=>bo y.k y.u dy) pl).hi),slv g4 ((cv (fun y:Nt=>bo y.k y.u dy) pl).loads.length) c5,slv g8 ((cv (fun y:Nt=>bo y.k y.u dy) pl).stands.length) c9,slv e ((cv (fun y:Nt=>bo y.k y.u dy) pl).spells.length) f,iv ((cv (fun y:Nt=>bo y.k y.u dy) pl).geese),.slice none 0 0] sizeOf116 rfl rfl rfl rfl rfl (kh rfl) fun w hI=>aa (ab (rgn rfl (pu (.pointer (some ⟨s,0,none⟩)) rfl (pu (.pointer (some ⟨s,2,none⟩)) rfl (ac (ag hI 0 (slv g4 ((cv (fun y:Nt=>bo y.k y.u dy) pl).loads.length) c5) isAgg24 rfl rfl rfl ?_)))))))))))
 have hsc:=jn pl dy; have hs9:=hsc.1; have hs8:(cv (fun y:Nt=>bo y.k y.u dy) pl).loads.length≤pl.loads.length:=hs9
 refine ac (gj hI 123 [slv g4 ((cv (fun y:Nt=>bo y.k y.u dy) pl).loads.length) c5] (by kernel_rfl) (CloneLoads_c _ ((cv (fun y:Nt=>bo y.k y.u dy) pl).loads) (g4.map fun b=>⟨b,0,none⟩) ((cv (fun y:Nt=>bo y.k y.u dy) pl).loads.length) c5 rfl (by omega) (hI.rowCells 1 rfl r7)) ?_)
 intro a d z w hI t
 have t:Row 6 a ((cv (fun y:Nt=>bo y.k y.u dy) pl).loads.length) d z (al eLd ((cv (fun y:Nt=>bo y.k y.u dy) pl).loads)):=t
 refine pu (.pointer (some ⟨s,6,none⟩)) rfl (ac (aq hI 1 1 [slv a ((cv (fun y:Nt=>bo y.k y.u dy) pl).loads.length) d] sizeOf24 rfl rfl rfl rfl rfl (kh rfl) fun w hI=>aa (ab (rgn rfl (pu (.pointer (some ⟨s,6,none⟩)) rfl (ac (ag hI 1 (slv a ((cv (fun y:Nt=>bo y.k y.u dy) pl).loads.length) d) isAgg24 rfl rfl rfl ?_)))))))
 refine ac (ee hI 143 [slv a ((cv (fun y:Nt=>bo y.k y.u dy) pl).loads.length) d,.func (.func 144) #[] #[]] 0 rfl (by kernel_rfl) (SortStable_c _ a ((cv (fun y:Nt=>bo y.k y.u dy) pl).loads.length) d z ((cv (fun y:Nt=>bo y.k y.u dy) pl).loads) (hI.hasg 0 rfl) t (by omega)) ?_)
 intro A w hI x
 have x:Row 6 a ((cv (fun y:Nt=>bo y.k y.u dy) pl).loads.length) d A (al eLd (ed ((cv (fun y:Nt=>bo y.k y.u dy) pl).loads))):=x
 refine aa (ab (rgn rfl (ac (ar hI 2 7 [iv ((cv (fun y:Nt=>bo y.k y.u dy) pl).lo),iv ((cv (fun y:Nt=>bo y.k y.u dy) pl).hi),slv g4 ((cv (fun y:Nt=>bo y.k y.u dy) pl).loads.length) c5,slv g8 ((cv (fun y:Nt=>bo y.k y.u dy) pl).stands.length) c9,slv e ((cv (fun y:Nt=>bo y.k y.u dy) pl).spells.length) f,iv ((cv (fun y:Nt=>bo y.k y.u dy) pl).geese),slv a ((cv (fun y:Nt=>bo y.k y.u dy) pl).loads.length) d] isAgg116 sizeOf116 rfl rfl rfl rfl ?_))))
 refine ac (aq hI 6 7 [iv ((cv (fun y:Nt=>bo y.k y.u dy) pl).lo),iv ((cv (fun y:Nt=>bo y.k y.u dy) pl).hi),slv g4 ((cv (fun y:Nt=>bo y.k y.u dy) pl).loads.length) c5,slv g8 ((cv (fun y:Nt=>bo y.k y.u dy) pl).stands.length) c9,slv e ((cv (fun y:Nt=>bo y.k y.u dy) pl).spells.length) f,iv ((cv (fun y:Nt=>bo y.k y.u dy) pl).geese),slv a ((cv (fun y:Nt=>bo y.k y.u dy) pl).loads.length) d] sizeOf116 rfl rfl rfl rfl rfl (kh rfl) fun w hI=>aa (aj ?_))
 exact ⟨.agg #[iv ((cv (fun y:Nt=>bo y.k y.u dy) pl).lo),iv ((cv (fun y:Nt=>bo y.k y.u dy) pl).hi),slv g4 ((cv (fun y:Nt=>bo y.k y.u dy) pl).loads.length) c5,slv g8 ((cv (fun y:Nt=>bo y.k y.u dy) pl).stands.length) c9,slv e ((cv (fun y:Nt=>bo y.k y.u dy) pl).spells.length) f,iv ((cv (fun y:Nt=>bo y.k y.u dy) pl).geese),slv a ((cv (fun y:Nt=>bo y.k y.u dy) pl).loads.length) d],Ret.c rfl rfl (ce hI 6 7 [iv ((cv (fun y:Nt=>bo y.k y.u dy) pl).lo),iv ((cv (fun y:Nt=>bo y.k y.u dy) pl).hi),slv g4 ((cv (fun y:Nt=>bo y.k y.u dy) pl).loads.length) c5,slv g8 ((cv (fun y:Nt=>bo y.k y.u dy) pl).stands.length) c9,slv e ((cv (fun y:Nt=>bo y.k y.u dy) pl).spells.length) f,iv ((cv (fun y:Nt=>bo y.k y.u dy) pl).geese),slv a ((cv (fun y:Nt=>bo y.k y.u dy) pl).loads.length) d] isAgg116 sizeOf116 rfl rfl rfl),⟨g4,c5,cl6,g8,c9,B,e,f,C,a,d,A,(by simp only [scv,ij]; rfl),hI.pk [3,4,5,0] rfl rfl,r7.to rfl rfl,D.to rfl rfl,E.to rfl rfl,x.to rfl (by rw [ij]; rfl)⟩⟩


theorem checkDay_c (w0:World) (pl:Pl) (a:Option Addr) (b h:Nat) (d:Option Addr) (e i:Nat) (f:Option Addr) (g j:Nat) (hP:gz w0 pl a b d e f g) (dy:Int):bn Tryz.prog 85 [.agg (qn6 pl.lo pl.hi a b h d e i f g j pl.geese).toArray,.int .i64 dy] w0 fun v w=>v=.int .i64 (fi pl dy)∧Below w0.heap.size w0 w:=by
 refine az (n:=14) func85 rfl ntmps85 rfl ?_
 have hI:=Inv.start w0
 refine ab (rgn rfl (ac (ca hI (qn6 pl.lo pl.hi a b h d e i f g j pl.geese) rfl fun b1 w hI=>pu (iv 0) rfl (aa (ab (ab (rgn rfl (ac (ar hI 0 6 (qn6 pl.lo pl.hi a b h d e i f g j pl.geese) isAgg28 sizeOf28 rfl rfl rfl rfl ?_)))))))))
 refine ac (bg hI 22 [.agg (qn6 pl.lo pl.hi a b h d e i f g j pl.geese).toArray] (iv (cg (dw pl) 13)) (by kernel_rfl) (Check_c _ pl a b h d e i f g j (hP.inv0 hI)) fun w hI=>pu (iv (cg (dw pl) 13)) rfl (aa (ab (rgn rfl (pu (iv (cg (dw pl) 13)) rfl (ac (de rfl rfl ?_ ?_)))))))
 ·intro h1
  refine aa (ah rfl (ab (rgn rfl (pu (iv (cg (dw pl) 13)) rfl (pu (iv (cg (dw pl) 13)) rfl (aa (aj ?_)))))))
  exact ⟨iv (cg (dw pl) 13),Ret.r1 rfl rfl,⟨by refine congrArg (Value.int .i64) ?_; simp [fi,cg,codeI_no h1],hI.below⟩⟩
 intro h2
 refine aa (ai rfl (ak (ab (ab (rgn rfl (pu (iv dy) rfl (ac (fc hI 139 [iv dy] (ci dy) (by kernel_rfl) (isDay_c dy _) ?_ ?_))))))))
 ·intro h3 w hI
  refine pu kf rfl (aa (ai rfl (ak (ab (rgn rfl (pu (iv 0) rfl (aa (aj ?_))))))))
  exact ⟨iv 0,Ret.r1 rfl rfl,⟨by refine congrArg (Value.int .i64) ?_; simp [fi,cg,ia h2 (by decide),h3],hI.below⟩⟩
 intro h4 w hI
 refine pu kg rfl (aa (ah rfl (ab (rgn rfl (pu (iv 6) rfl (aa (aj ?_)))))))
 exact ⟨iv 6,Ret.r1 rfl rfl,⟨by refine congrArg (Value.int .i64) ?_; simp [fi,cg,ia h2 (by decide),h4],hI.below⟩⟩


theorem checkHour_c (w0:World) (pl:Pl) (a:Option Addr) (b i:Nat) (d:Option Addr) (e j:Nat) (f:Option Addr) (g k:Nat) (hP:gz w0 pl a b d e f g) (h dy:Int):bn Tryz.prog 97 [.agg (qn6 pl.lo pl.hi a b i d e j f g k pl.geese).toArray,.int .i64 h,.int .i64 dy] w0 fun v w=>v=.int .i64 (ec pl h dy)∧Below w0.heap.size w0 w:=by
 refine az (n:=19) func97 rfl ntmps97 rfl ?_
 have hI:=Inv.start w0
 refine ab (rgn rfl (ac (ca hI (qn6 pl.lo pl.hi a b i d e j f g k pl.geese) rfl fun b1 w hI=>pu (iv 0) rfl (aa (ab (ab (rgn rfl (ac (ar hI 0 6 (qn6 pl.lo pl.hi a b i d e j f g k pl.geese) isAgg28 sizeOf28 rfl rfl rfl rfl ?_)))))))))
 refine ac (bg hI 22 [.agg (qn6 pl.lo pl.hi a b i d e j f g k pl.geese).toArray] (iv (cg (dw pl) 13)) (by kernel_rfl) (Check_c _ pl a b i d e j f g k (hP.inv0 hI)) fun w hI=>pu (iv (cg (dw pl) 13)) rfl (aa (ab (rgn rfl (pu (iv (cg (dw pl) 13)) rfl (ac (de rfl rfl ?_ ?_)))))))
 ·intro h1
  refine aa (ah rfl (ab (rgn rfl (pu (iv (cg (dw pl) 13)) rfl (pu (iv (cg (dw pl) 13)) rfl (aa (aj ?_)))))))
  exact ⟨iv (cg (dw pl) 13),Ret.r1 rfl rfl,⟨by refine congrArg (Value.int .i64) ?_; simp [ec,fi,cg,codeI_no h1],hI.below⟩⟩
 intro h2
 refine aa (ai rfl (ak (ab (ab (rgn rfl (pu (iv h) rfl (ac (fc hI 82 [iv h] (dx h) (by kernel_rfl) (isHour_c h _) ?_ ?_))))))))
 ·intro h3 w hI
  refine pu kf rfl (aa (ai rfl (ak (ab (rgn rfl (ac (ar hI 0 6 (qn6 pl.lo pl.hi a b i d e j f g k pl.geese) isAgg28 sizeOf28 rfl rfl rfl rfl ?_)))))))
  refine pu (iv dy) rfl (ac (bg hI 85 [.agg (qn6 pl.lo pl.hi a b i d e j f g k pl.geese).toArray,iv dy] (iv (fi pl dy)) (by kernel_rfl) (checkDay_c _ pl a b i d e j f g k (hP.inv0 hI) dy) fun w hI=>pu (iv (fi pl dy)) rfl (aa (aj ?_))))
  exact ⟨iv (fi pl dy),Ret.r1 rfl rfl,⟨by refine congrArg (Value.int .i64) ?_; simp [ec,fi,cg,ia h2 (by decide),h3],hI.below⟩⟩
 intro h4 w hI
 refine pu kg rfl (aa (ah rfl (ab (rgn rfl (pu (iv 7) rfl (aa (aj ?_)))))))
 exact ⟨iv 7,Ret.r1 rfl rfl,⟨by refine congrArg (Value.int .i64) ?_; simp [ec,fi,cg,ia h2 (by decide),h4],hI.below⟩⟩

end Go.K
