import Derived.Test.YtinkdlmimiefaaaGreatProg
import Derived.Test.YtinkdlmimiefaaaGreatPM31
import Derived.Test.YtinkdlmimiefaaaGreatPSS
namespace Go.K
open Go.Proofs Go.RowKit
set_option linter.unusedVariables false
set_option linter.unusedSimpArgs false
set_option maxRecDepth 100000
attribute [local irreducible] Seq cw cx fl opX

set_option maxHeartbeats 3200000 in
theorem stable60_c1 (w0:World) (b0 n c:Nat) (cl:List Value) (l:List Ld) (hg:∀ b,some b0=some b→w0.heap[b]?=some (blk cl 30)) (hr:Row 6 (some b0) n c cl (al eLd l)) (hmax:n≤60):bn Tryz.prog 174 [slv (some b0) n c,.int .i64 (n:Int),.func (.func 144) #[] #[]] w0 fun v w=>ex 6 30 (some b0) c n (al eLd (ed l)) w0 v w:=by
 have hnl:=hr.n_eq bf (by decide)
 refine az (n:=63) Tryz.func174 rfl Tryz.ntmps174 rfl ?_
 have hI:=Inv.lent w0 (some b0) (blk cl 30) hg
 refine ab (rgn rfl (pu (iv 20) rfl (aa (ab (rgn rfl (pu (iv 20) rfl (pu (iv 0) rfl (pu (iv 20) rfl (aa ?_)))))))))
 refine ab (au ?_)
 refine cb (fun m ρ w=>∃ (k:Nat) (av1:Int) (bv1:Int) (ccl:List Value) (M:List Ld),cd ρ [(0,slv (some b0) n c),(1,iv (n:Int)),(2,.func (.func 144) #[] #[]),(6,iv 20),(7,iv av1),(8,iv bv1)]∧Inv [b0] w0 w [(some b0,blk ccl 30)]∧(av1=((20 * k:Nat):Int))∧(bv1=((20 * (k+1):Nat):Int))∧(20 * k≤n)∧(InsOk M k)∧(Sam Ld.hr M l)∧(Row 6 (some b0) n c ccl (al eLd M))∧m=n - 20 * k) (m:=n - 20 * 0) ⟨0,0,20,cl,l,⟨rfl,rfl,rfl,rfl,rfl,rfl,trivial⟩,hI.pk [0] rfl rfl,(by omega),(by omega),(by omega),(fun t h=>absurd h (by omega)),(Sam.refl l),hr,rfl⟩ ?_
 rintro m ρ w ⟨k,av1,bv1,ccl,M,hag,hI,hav1,hbv1,hk,hins,hsam,hrr,hm⟩
 obtain ⟨ρ,rfl⟩:=hag.form; clear hag
 have hml:=hrr.n_eq bf (by decide)
 refine ab (ab (rgn rfl (pu (iv bv1) rfl (pu (iv (n:Int)) rfl (ac (fq rfl rfl ?_ ?_))))))
 ·intro h1
  refine aa (ah rfl (ak (au ?_)))
  refine ab (rgn rfl (pu (slv (some b0) n c) rfl (pu (iv av1) rfl (pu (iv bv1) rfl (pu (.func (.func 144) #[] #[]) rfl (ac (ee hI 183 [slv (some b0) n c,iv av1,iv bv1,.func (.func 144) #[] #[]] 0 rfl (by kernel_rfl) (by rw [show av1=((20 * k:Nat):Int) by omega,show bv1=((20 * (k+1):Nat):Int) by omega]; exact insertSeg_c _ b0 n c ccl M (20 * k) (20 * (k+1)) (hI.hasg 0 rfl) hrr (by omega) (by omega) (by omega)) ?_)))))))
  intro cl1 w hI r2
  have r2:Row 6 (some b0) (n) c cl1 (al eLd (en M (20 * k) (20 * (k+1)))):=r2
  refine aa (ab (rgn rfl (pu (iv bv1) rfl (pu (iv bv1) rfl (aa (rgn rfl (pu (iv bv1) rfl (pu (iv 20) rfl (ac (cj rfl rfl (by omega) ?_))))))))))
  refine pu (iv (bv1+20)) rfl (aa ?_)
  exact ⟨rfl,_,(by omega),⟨k+1,bv1,bv1+20,cl1,(en M (20 * k) (20 * (k+1))),⟨rfl,rfl,rfl,rfl,rfl,rfl,trivial⟩,hI.pk [0] rfl rfl,(by omega),(by omega),(by omega),(hins.step (by omega)),((seg_sam (by omega) (by omega)).trans hsam),r2,rfl⟩⟩
 intro h2
 refine aa (ai rfl (bw ?_))
 refine ab (rgn rfl (pu (slv (some b0) n c) rfl (pu (iv av1) rfl (pu (iv (n:Int)) rfl (pu (.func (.func 144) #[] #[]) rfl (ac (ee hI 183 [slv (some b0) n c,iv av1,iv (n:Int),.func (.func 144) #[] #[]] 0 rfl (by kernel_rfl) (by rw [show av1=((20 * k:Nat):Int) by omega]; exact insertSeg_c _ b0 n c ccl M (20 * k) n (hI.hasg 0 rfl) hrr (by omega) (by omega) (by omega)) ?_)))))))
 intro cl3 w hI r4
 have r4:Row 6 (some b0) (n) c cl3 (al eLd (en M (20 * k) n)):=r4
 refine aa (au ?_)
 have hB0:BlkOk (en M (20 * k) n) 20:=by have e9:n=M.length:=hml; rw [e9]; exact hins.last (by omega) (by omega) (by omega)
 have hsam0:Sam Ld.hr (en M (20 * k) n) l:=(seg_sam (by omega) (by omega)).trans hsam
 refine cb (fun m ρ w=>∃ (s:Nat) (sv:Int) (ccl2:List Value) (N:List Ld),cd ρ [(0,slv (some b0) n c),(1,iv (n:Int)),(2,.func (.func 144) #[] #[]),(6,iv sv)]∧Inv [b0] w0 w [(some b0,blk ccl2 30)]∧(sv=((s:Nat):Int))∧(20≤s)∧(BlkOk N s)∧(Sam Ld.hr N l)∧(Row 6 (some b0) n c ccl2 (al eLd N))∧m=n - s) (m:=n - 20) ⟨20,20,cl3,(en M (20 * k) n),⟨rfl,rfl,rfl,rfl,trivial⟩,hI.pk [0] rfl rfl,(by omega),(by omega),hB0,hsam0,r4,rfl⟩ ?_
 rintro m ρ w ⟨s,sv,ccl2,N,hag,hI,hsv,hs20,hB,hsam2,hrr2,hm⟩
 obtain ⟨ρ,rfl⟩:=hag.form; clear hag
 have hml2:=hrr2.n_eq bf (by decide)
 refine ab (ab (rgn rfl (pu (iv sv) rfl (pu (iv (n:Int)) rfl (ac (cm rfl rfl ?_ ?_))))))
 ·intro h3
  refine aa (ah rfl (ak (au ?_)))
  refine ab (rgn rfl (pu (iv sv) rfl (ac (s_mul rfl rfl (by omega) ?_))))
  refine pu (iv 0) rfl (pu (iv (2 * sv)) rfl (aa (ab (au ?_))))
  refine cb (fun m ρ w=>∃ (a:Nat) (b:Nat) (av:Int) (bv:Int) (ccl3:List Value) (Q:List Ld),cd ρ [(0,slv (some b0) n c),(1,iv (n:Int)),(2,.func (.func 144) #[] #[]),(6,iv sv),(7,iv av),(8,iv bv)]∧Inv [b0] w0 w [(some b0,blk ccl3 30)]∧(av=((a:Nat):Int))∧(bv=((b:Nat):Int))∧(a≤60∧b≤200)∧(InOk Q s a b)∧(Sam Ld.hr Q l)∧(Row 6 (some b0) n c ccl3 (al eLd Q))∧m=n+1 - b) (m:=n+1 - (2 * s)) ⟨0,2 * s,0,2 * sv,ccl2,N,⟨rfl,rfl,rfl,rfl,rfl,rfl,trivial⟩,hI.pk [0] rfl rfl,(by omega),(by omega),(by omega),(hB.start (by omega) (by omega)),hsam2,hrr2,rfl⟩ ?_
  rintro m ρ w ⟨a,b,av,bv,ccl3,Q,hag,hI,hav,hbv,hab,hIn,hsam3,hrr3,hm⟩
  obtain ⟨ρ,rfl⟩:=hag.form; clear hag
  have hml3:=hrr3.n_eq bf (by decide)
  refine ab (ab (rgn rfl (pu (iv bv) rfl (pu (iv (n:Int)) rfl (ac (fq rfl rfl ?_ ?_))))))
  ·intro h4
   refine aa (ah rfl (ak (au ?_)))
   refine ab (rgn rfl (pu (slv (some b0) n c) rfl (pu (iv av) rfl (pu (iv av) rfl (pu (iv sv) rfl (ac (cj rfl rfl (by omega) ?_)))))))
   refine pu (iv bv) rfl (pu (.func (.func 144) #[] #[]) rfl ?_)
   have hst:=hIn.step (by omega) (by omega); have hst0:=hst.1; have hst1:=hst.2.1
   refine ac (ee hI 184 [slv (some b0) n c,iv av,iv (av+sv),iv bv,.func (.func 144) #[] #[]] 0 rfl (by kernel_rfl) (by rw [show av+sv=((a+s:Nat):Int) by omega,show av=((a:Nat):Int) by omega,show bv=((b:Nat):Int) by omega]; exact sym_c _ b0 n c ccl3 Q a (a+s) b (hI.hasg 0 rfl) hrr3 (by omega) (by omega) (by omega) (by omega) hst.2.2.1 hst.2.2.2.1) ?_)
   intro cl5 w hI r6
   have r6:Row 6 (some b0) (n) c cl5 (al eLd (en Q a b)):=r6
   refine aa (ab (rgn rfl (pu (iv bv) rfl (pu (iv bv) rfl (aa (rgn rfl (pu (iv bv) rfl (pu (iv sv) rfl (ac (s_mul rfl rfl (by omega) ?_))))))))))
   refine ac (cj rfl rfl (by omega) ?_)
   refine pu (iv (bv+(2 * sv))) rfl (aa ?_)
   exact ⟨rfl,_,(by omega),⟨b,b+2 * s,bv,bv+(2 * sv),cl5,(en Q a b),⟨rfl,rfl,rfl,rfl,rfl,rfl,trivial⟩,hI.pk [0] rfl rfl,(by omega),(by omega),(by omega),hst.2.2.2.2,((seg_sam (by omega) (by omega)).trans hsam3),r6,rfl⟩⟩
  intro h5
  refine aa (ai rfl (bw ?_))
  refine ab (ab (rgn rfl (pu (iv av) rfl (pu (iv sv) rfl (ac (cj rfl rfl (by omega) ?_))))))
  refine pu (iv (av+sv)) rfl (aa (ab (rgn rfl (pu (iv (av+sv)) rfl (pu (iv (n:Int)) rfl (ac (cm rfl rfl ?_ ?_)))))))
  ·intro h6
   refine aa (ah rfl (rgn rfl (pu (slv (some b0) n c) rfl (pu (iv av) rfl (pu (iv (av+sv)) rfl (pu (iv (n:Int)) rfl (pu (.func (.func 144) #[] #[]) rfl ?_)))))))
   have hla:=hIn.last (by omega) (by omega) (by omega); have hla0:=hla.1
   refine ac (ee hI 184 [slv (some b0) n c,iv av,iv (av+sv),iv (n:Int),.func (.func 144) #[] #[]] 0 rfl (by kernel_rfl) (by rw [show av+sv=((a+s:Nat):Int) by omega,show av=((a:Nat):Int) by omega]; exact sym_c _ b0 n c ccl3 Q a (a+s) n (hI.hasg 0 rfl) hrr3 (by omega) (by omega) (by omega) (by omega) hla.2.1 (by have e9:n=Q.length:=hml3; rw [e9]; exact hla.2.2.1)) ?_)
   intro cl7 w hI r8
   have r8:Row 6 (some b0) (n) c cl7 (al eLd (en Q a n)):=r8
   refine aa (rgn rfl (pu (iv sv) rfl (ac (s_mul rfl rfl (by omega) ?_))))
   refine pu (iv (sv * 2)) rfl (aa ?_)
   exact ⟨rfl,_,(by omega),⟨s * 2,sv * 2,cl7,(en Q a n),⟨rfl,rfl,rfl,rfl,trivial⟩,hI.pk [0] rfl rfl,(by omega),(by omega),(by have e9:n=Q.length:=hml3; rw [e9]; exact hla.2.2.2),((seg_sam (by omega) (by omega)).trans hsam3),r8,rfl⟩⟩
  intro h7
  refine aa (ai rfl (ak (rgn rfl (pu (iv sv) rfl (ac (s_mul rfl rfl (by omega) ?_))))))
  refine pu (iv (sv * 2)) rfl (aa ?_)
  exact ⟨rfl,_,(by omega),⟨s * 2,sv * 2,ccl3,Q,⟨rfl,rfl,rfl,rfl,trivial⟩,hI.pk [0] rfl rfl,(by omega),(by omega),(hIn.none (by omega) (by omega) (by omega)),hsam3,hrr3,rfl⟩⟩
 intro h8
 refine aa (ai rfl (bw ?_))
 exact ⟨.tuple #[],Ret.r0 rfl , ⟨ccl2,rfl,hI.pk [0] rfl rfl,hrr2.to (stable_end hsam2 (hB.done (by omega) (by omega)) (by omega)) rfl⟩⟩

end Go.K
