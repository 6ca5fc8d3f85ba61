import Derived.Test.YtinkdlmimiefaaaGreatProg
import Derived.Test.YtinkdlmimiefaaaGreatPSS
namespace Go.K
open Go.Proofs.Tryz
open Go.Proofs Go.RowKit
set_option linter.unusedVariables false
set_option linter.unusedSimpArgs false
set_option maxRecDepth 100000
attribute [local irreducible] Seq cw cx fl opX

set_option maxHeartbeats 3200000 in
theorem swapRange_c (w0:World) (b0 n c:Nat) (cl:List Value) (l:List Ld) (a b k:Nat) (hg:∀ b,some b0=some b→w0.heap[b]?=some (blk cl 30)) (hr:Row 6 (some b0) n c cl (al eLd l)) (hmax:n≤1000000000) (ha:a+k≤n) (hb:b+k≤n) (fv:Value):bn Tryz.prog 187 [slv (some b0) n c,.int .i64 (a:Int),.int .i64 (b:Int),.int .i64 (k:Int),fv] w0 fun v w=>ex 6 30 (some b0) c n (al eLd (fw l a b k)) w0 v w:=by
 have hnl:=hr.n_eq bf (by decide)
 refine az (n:=38) func187 rfl ntmps187 rfl ?_
 have hI:=Inv.lent w0 (some b0) (blk cl 30) hg
 refine ab (rgn rfl (pu (iv 0) rfl (aa (au ?_))))
 refine cb (fun m ρ w=>∃ (i:Nat) (ccl:List Value),cd ρ [(0,slv (some b0) n c),(1,iv (a:Int)),(2,iv (b:Int)),(3,iv (k:Int)),(10,iv (i:Int))]∧Inv [b0] w0 w [(some b0,blk ccl 30)]∧(i≤k)∧(Row 6 (some b0) n c ccl (al eLd (fw l a b i)))∧m=k - i) (m:=k - 0) ⟨0,cl,⟨rfl,rfl,rfl,rfl,rfl,trivial⟩,hI.pk [0] rfl rfl,(by omega),hr,rfl⟩ ?_
 rintro m ρ w ⟨i,ccl,hag,hI,hi,hrr,hm⟩
 obtain ⟨ρ,rfl⟩:=hag.form; clear hag
 have hsl:=swapS_len l a b i
 refine ab (ab (rgn rfl (pu (iv (i:Int)) rfl (pu (iv (k:Int)) rfl (ac (cm rfl rfl ?_ ?_))))))
 ·intro h1
  refine aa (ah rfl (ak (ab (au ?_))))
  obtain ⟨x1,hx2⟩:=bq (l:=(fw l a b i)) (i:=a+i) (by omega)
  have he3:=hrr.atS bf (by decide) hx2
  obtain ⟨x4,hx5⟩:=bq (l:=(fw l a b i)) (i:=b+i) (by omega)
  have he6:=hrr.atS bf (by decide) hx5
  replace hI:=hI.pk [0] rfl rfl
  refine dh hI [] (by decide) rfl rfl rfl fun hsub=>alp 0 (slv (some b0) n c) hsub rfl (by kernel_rfl) (fun _=>rfl) ?_
  refine alp 1 (iv (a:Int)) hsub rfl (by kernel_rfl) (fun _=>rfl) ?_
  refine alp 2 (iv (i:Int)) hsub rfl (by kernel_rfl) (fun _=>rfl) ?_
  refine ap 3 (iv ((a:Int)+(i:Int))) hsub rfl (by kernel_rfl) (fun w hI=>cj rfl rfl (by omega) br) ?_
  refine alp 4 (slv (some b0) n c) hsub rfl (by kernel_rfl) (fun _=>rfl) ?_
  refine alp 5 (iv (b:Int)) hsub rfl (by kernel_rfl) (fun _=>rfl) ?_
  refine alp 6 (iv (i:Int)) hsub rfl (by kernel_rfl) (fun _=>rfl) ?_
  refine ap 7 (iv ((b:Int)+(i:Int))) hsub rfl (by kernel_rfl) (fun w hI=>cj rfl rfl (by omega) br) ?_
  refine alp 8 (slv (some b0) n c) hsub rfl (by kernel_rfl) (fun _=>rfl) ?_
  refine alp 9 (iv (b:Int)) hsub rfl (by kernel_rfl) (fun _=>rfl) ?_
  refine alp 10 (iv (i:Int)) hsub rfl (by kernel_rfl) (fun _=>rfl) ?_
  refine ap 11 (iv ((b:Int)+(i:Int))) hsub rfl (by kernel_rfl) (fun w hI=>cj rfl rfl (by omega) br) ?_
  refine ap 12 (.pointer (some ⟨b0,(b+i) * 6,none⟩)) hsub rfl (by kernel_rfl) (fun w hI=>be (b+i) underlying24 sizeOf30 rfl rfl (by omega) (by omega) br) ?_
  refine alp 14 (slv (some b0) n c) hsub rfl (by kernel_rfl) (fun _=>rfl) ?_
  refine alp 15 (iv (a:Int)) hsub rfl (by kernel_rfl) (fun _=>rfl) ?_
  refine alp 16 (iv (i:Int)) hsub rfl (by kernel_rfl) (fun _=>rfl) ?_
  refine ap 17 (iv ((a:Int)+(i:Int))) hsub rfl (by kernel_rfl) (fun w hI=>cj rfl rfl (by omega) br) ?_
  refine ap 18 (.pointer (some ⟨b0,(a+i) * 6,none⟩)) hsub rfl (by kernel_rfl) (fun w hI=>be (a+i) underlying24 sizeOf30 rfl rfl (by omega) (by omega) br) ?_
  refine bc [13,19] (by kernel_rfl) rfl (each2 ?_ ?_)
  ·intro w hI
   refine dg rfl (cq hI 0 (eLd x4) isAgg30 sizeOf30 rfl rfl rfl he6 ?_)
   refine ⟨_,hI,dc (fun _ h=>h.pk [] rfl rfl) ?_⟩
   intro hsub
   refine bc [19] (by kernel_rfl) rfl (cz fun w hI=>dg rfl (cq hI 0 (eLd x1) isAgg30 sizeOf30 rfl rfl rfl he3 ?_))
   refine ⟨_,hI,dc (fun _ h=>h.pk [] rfl rfl) ?_⟩
   intro hsub
   refine ap 20 (.pointer (some ⟨b0,(a+i) * 6,none⟩)) hsub rfl (by kernel_rfl) (fun w hI=>be (a+i) underlying24 sizeOf30 rfl rfl (by omega) (by omega) br) ?_
   refine bc [21] (by kernel_rfl) rfl (cz fun w hI=>dg rfl (aq hI 0 6 (eLd x4) sizeOf30 rfl rfl rfl rfl rfl (hrr.room (by omega)) fun w hI=>⟨_,hI,dc (fun _ h=>h.pk [] rfl rfl) ?_⟩))
   intro hsub
   have r7:=hrr.put bf (by decide) (a+i) x4 (by omega)
   obtain ⟨x9,f⟩:=bq (l:=((fw l a b i)).set (a+i) x4) (i:=b+i) (by first | omega | (simp only [List.length_set]; omega))
   have p:=r7.atS bf (by decide) f
   refine ap 22 (.pointer (some ⟨b0,(b+i) * 6,none⟩)) hsub rfl (by kernel_rfl) (fun w hI=>be (b+i) underlying24 sizeOf30 rfl rfl (by omega) (by omega) br) ?_
   refine bc [23] (by kernel_rfl) rfl (cz fun w hI=>dg rfl (aq hI 0 6 (eLd x1) sizeOf30 rfl rfl rfl rfl rfl (r7.room (by omega)) fun w hI=>⟨_,hI,dc (fun _ h=>h.pk [] rfl rfl) ?_⟩))
   intro hsub
   have g:=r7.put bf (by decide) (b+i) (⟨x1.src,x1.hr,x1.lo,x1.hi,x1.kn,x1.un⟩:Ld) (by omega)
   refine cp rfl (fun w hI=>?_)
   refine rgn rfl (pu (iv (i:Int)) rfl (ac (cj rfl rfl (by omega) ?_)))
   refine pu (iv ((i:Int)+1)) rfl (aa ?_)
   exact ⟨rfl,_,(by omega),⟨i+1,putCells (putCells ccl ((a+i) * 6) (eLd x4)) ((b+i) * 6) (eLd (⟨x1.src,x1.hr,x1.lo,x1.hi,x1.kn,x1.un⟩:Ld)),⟨rfl,rfl,rfl,rfl,rfl,trivial⟩,hI.pk [0] rfl rfl,(by omega),(by rw [swapS_step hx2 hx5]; exact g),rfl⟩⟩
  intro w hI
  refine dg rfl (cq hI 0 (eLd x1) isAgg30 sizeOf30 rfl rfl rfl he3 ?_)
  refine ⟨_,hI,dc (fun _ h=>h.pk [] rfl rfl) ?_⟩
  intro hsub
  refine bc [13] (by kernel_rfl) rfl (cz fun w hI=>dg rfl (cq hI 0 (eLd x4) isAgg30 sizeOf30 rfl rfl rfl he6 ?_))
  refine ⟨_,hI,dc (fun _ h=>h.pk [] rfl rfl) ?_⟩
  intro hsub
  refine ap 20 (.pointer (some ⟨b0,(a+i) * 6,none⟩)) hsub rfl (by kernel_rfl) (fun w hI=>be (a+i) underlying24 sizeOf30 rfl rfl (by omega) (by omega) br) ?_
  refine bc [21] (by kernel_rfl) rfl (cz fun w hI=>dg rfl (aq hI 0 6 (eLd x4) sizeOf30 rfl rfl rfl rfl rfl (hrr.room (by omega)) fun w hI=>⟨_,hI,dc (fun _ h=>h.pk [] rfl rfl) ?_⟩))
  intro hsub
  have d:=hrr.put bf (by decide) (a+i) x4 (by omega)
  obtain ⟨q,j⟩:=bq (l:=((fw l a b i)).set (a+i) x4) (i:=b+i) (by first | omega | (simp only [List.length_set]; omega))
  have r:=d.atS bf (by decide) j
  refine ap 22 (.pointer (some ⟨b0,(b+i) * 6,none⟩)) hsub rfl (by kernel_rfl) (fun w hI=>be (b+i) underlying24 sizeOf30 rfl rfl (by omega) (by omega) br) ?_
  refine bc [23] (by kernel_rfl) rfl (cz fun w hI=>dg rfl (aq hI 0 6 (eLd x1) sizeOf30 rfl rfl rfl rfl rfl (d.room (by omega)) fun w hI=>⟨_,hI,dc (fun _ h=>h.pk [] rfl rfl) ?_⟩))
  intro hsub
  have o:=d.put bf (by decide) (b+i) (⟨x1.src,x1.hr,x1.lo,x1.hi,x1.kn,x1.un⟩:Ld) (by omega)
  refine cp rfl (fun w hI=>?_)
  refine rgn rfl (pu (iv (i:Int)) rfl (ac (cj rfl rfl (by omega) ?_)))
  refine pu (iv ((i:Int)+1)) rfl (aa ?_)
  exact ⟨rfl,_,(by omega),⟨i+1,putCells (putCells ccl ((a+i) * 6) (eLd x4)) ((b+i) * 6) (eLd (⟨x1.src,x1.hr,x1.lo,x1.hi,x1.kn,x1.un⟩:Ld)),⟨rfl,rfl,rfl,rfl,rfl,trivial⟩,hI.pk [0] rfl rfl,(by omega),(by rw [swapS_step hx2 hx5]; exact o),rfl⟩⟩
 intro h2
 refine aa (ai rfl (bw ?_))
 exact ⟨.tuple #[],Ret.r0 rfl , ⟨ccl,rfl,hI.pk [0] rfl rfl,(by have e:i=k:=(by omega); subst e; exact hrr)⟩⟩

set_option maxHeartbeats 3200000 in
theorem rotate_c (w0:World) (b0 n c:Nat) (cl:List Value) (l:List Ld) (a q b:Nat) (hg:∀ b,some b0=some b→w0.heap[b]?=some (blk cl 30)) (hr:Row 6 (some b0) n c cl (al eLd l)) (hmax:n≤1000000000) (ha:a < q) (hb:q < b) (hbn:b≤n) (fv:Value):bn Tryz.prog 186 [slv (some b0) n c,.int .i64 (a:Int),.int .i64 (q:Int),.int .i64 (b:Int),fv] w0 fun v w=>ex 6 30 (some b0) c n (al eLd (fj l a q b)) w0 v w:=by
 have hnl:=hr.n_eq bf (by decide)
 refine az (n:=58) func186 rfl ntmps186 rfl ?_
 have hI:=Inv.lent w0 (some b0) (blk cl 30) hg
 refine ab (rgn rfl (pu (iv (q:Int)) rfl (pu (iv (a:Int)) rfl (ac (dm rfl rfl (by omega) ?_)))))
 refine pu (iv ((q:Int) - (a:Int))) rfl (aa (ab (rgn rfl (pu (iv (b:Int)) rfl (pu (iv (q:Int)) rfl (ac (dm rfl rfl (by omega) ?_)))))))
 refine pu (iv ((b:Int) - (q:Int))) rfl (aa (ab (au ?_)))
 refine cb (fun m ρ w=>∃ (i:Nat) (j:Nat) (ix:Int) (jx:Int) (ccl:List Value) (M:List Ld),cd ρ [(0,slv (some b0) n c),(2,iv (q:Int)),(4,fv),(10,iv ix),(11,iv jx)]∧Inv [b0] w0 w [(some b0,blk ccl 30)]∧(ix=((i:Nat):Int))∧(jx=((j:Nat):Int))∧(1≤i∧i≤q)∧(1≤j∧q+j≤n)∧(fj M (q - i) q (q+j)=fj l a q b)∧(Row 6 (some b0) n c ccl (al eLd M))∧m=i+j) (m:=(q - a)+(b - q)) ⟨q - a,b - q,(q:Int) - (a:Int),(b:Int) - (q:Int),cl,l,⟨rfl,rfl,rfl,rfl,rfl,trivial⟩,hI.pk [0] rfl rfl,(by omega),(by omega),(by omega),(by omega),(by rw [show q - (q - a)=a by omega,show q+(b - q)=b by omega]),hr,rfl⟩ ?_
 rintro m ρ w ⟨i,j,ix,jx,ccl,M,hag,hI,hix,hjx,hi,hj,hrot,hrr,hm⟩
 obtain ⟨ρ,rfl⟩:=hag.form; clear hag
 have hml:=hrr.n_eq bf (by decide)
 refine ab (ab (rgn rfl (pu (iv ix) rfl (pu (iv jx) rfl (ac (de rfl rfl ?_ ?_))))))
 ·intro h1
  refine aa (ah rfl (ak (au ?_)))
  refine ab (rgn rfl (pu (iv ix) rfl (pu (iv jx) rfl (ac (fh rfl rfl ?_ ?_)))))
  ·intro h2
   refine aa (ah rfl (ab (rgn rfl (pu (slv (some b0) n c) rfl (pu (iv (q:Int)) rfl (pu (iv ix) rfl (ac (dm rfl rfl (by omega) ?_))))))))
   refine pu (iv (q:Int)) rfl (pu (iv jx) rfl (pu (fv) rfl (ac (ee hI 187 [slv (some b0) n c,iv ((q:Int) - ix),iv (q:Int),iv jx,fv] 0 rfl (by kernel_rfl) (by rw [show (q:Int) - ix=((q - i:Nat):Int) by omega,show jx=((j:Nat):Int) by omega]; exact swapRange_c _ b0 n c ccl M (q - i) q j (hI.hasg 0 rfl) hrr (by omega) (by omega) (by omega) (fv)) ?_))))
   intro cl1 w hI r2
   have r2:Row 6 (some b0) (n) c cl1 (al eLd (fw M (q - i) q j)):=r2
   refine aa (rgn rfl (pu (iv ix) rfl (pu (iv jx) rfl (ac (dm rfl rfl (by omega) ?_)))))
   refine pu (iv (ix - jx)) rfl (aa ?_)
   exact ⟨rfl,_,(by omega),⟨i - j,j,ix - jx,jx,cl1,(fw M (q - i) q j),⟨rfl,rfl,rfl,rfl,rfl,trivial⟩,hI.pk [0] rfl rfl,(by omega),(by omega),(by omega),(by omega),(by rw [show q - (i - j)=q - i+j by omega,rot_left (by omega) (by omega) (by omega)]; exact hrot),r2,rfl⟩⟩
  intro h3
  refine aa (ai rfl (ab (rgn rfl (pu (slv (some b0) n c) rfl (pu (iv (q:Int)) rfl (pu (iv ix) rfl (ac (dm rfl rfl (by omega) ?_))))))))
  refine pu (iv (q:Int)) rfl (pu (iv jx) rfl (ac (cj rfl rfl (by omega) ?_)))
  refine pu (iv ix) rfl (ac (dm rfl rfl (by omega) ?_))
  refine pu (iv ix) rfl (pu (fv) rfl (ac (ee hI 187 [slv (some b0) n c,iv ((q:Int) - ix),iv (((q:Int)+jx) - ix),iv ix,fv] 0 rfl (by kernel_rfl) (by rw [show (q:Int) - ix=((q - i:Nat):Int) by omega,show ((q:Int)+jx) - ix=((q+j - i:Nat):Int) by omega,show ix=((i:Nat):Int) by omega]; exact swapRange_c _ b0 n c ccl M (q - i) (q+j - i) i (hI.hasg 0 rfl) hrr (by omega) (by omega) (by omega) (fv)) ?_)))
  intro cl3 w hI r4
  have r4:Row 6 (some b0) (n) c cl3 (al eLd (fw M (q - i) (q+j - i) i)):=r4
  refine aa (rgn rfl (pu (iv jx) rfl (pu (iv ix) rfl (ac (dm rfl rfl (by omega) ?_)))))
  refine pu (iv (jx - ix)) rfl (aa ?_)
  exact ⟨rfl,_,(by omega),⟨i,j - i,ix,jx - ix,cl3,(fw M (q - i) (q+j - i) i),⟨rfl,rfl,rfl,rfl,rfl,trivial⟩,hI.pk [0] rfl rfl,(by omega),(by omega),(by omega),(by omega),(by rw [rot_right (by omega) (by omega) (by omega)]; exact hrot),r4,rfl⟩⟩
 intro h4
 refine aa (ai rfl (bw ?_))
 refine rgn rfl (pu (slv (some b0) n c) rfl (pu (iv (q:Int)) rfl (pu (iv ix) rfl (ac (dm rfl rfl (by omega) ?_)))))
 refine pu (iv (q:Int)) rfl (pu (iv ix) rfl (pu (fv) rfl (ac (ee hI 187 [slv (some b0) n c,iv ((q:Int) - ix),iv (q:Int),iv ix,fv] 0 rfl (by kernel_rfl) (by rw [show (q:Int) - ix=((q - i:Nat):Int) by omega,show ix=((i:Nat):Int) by omega]; exact swapRange_c _ b0 n c ccl M (q - i) q i (hI.hasg 0 rfl) hrr (by omega) (by omega) (by omega) (fv)) ?_))))
 intro cl5 w hI r6
 have r6:Row 6 (some b0) (n) c cl5 (al eLd (fw M (q - i) q i)):=r6
 refine aa ?_
 exact ⟨.tuple #[],Ret.r0 rfl , ⟨cl5,rfl,hI.pk [0] rfl rfl,(by have e:i=j:=(by omega); subst e; rw [rot_even (by omega) (by omega)] at *; rw [← hrot]; exact r6)⟩⟩

end Go.K
