import Derived.Test.YtinkdlmimiefaaaGreatProg
import Derived.Test.YtinkdlmimiefaaaGreatPM30
import Derived.Test.YtinkdlmimiefaaaGreatPSS
namespace Go.K
open Go.Proofs.Tryz
open Go.Proofs Go.RowKit
set_option linter.unusedVariables false
set_option linter.unusedSimpArgs false
set_option maxRecDepth 100000
attribute [local irreducible] Seq cw cx fl opX

set_option maxHeartbeats 3200000 in
theorem insertSeg_c (w0:World) (b0 n c:Nat) (cl:List Value) (l:List Ld) (a b:Nat) (hg:∀ b,some b0=some b→w0.heap[b]?=some (blk cl 30)) (hr:Row 6 (some b0) n c cl (al eLd l)) (hmax:n≤1000000000) (ha:a≤b) (hbn:b≤n):bn Tryz.prog 183 [slv (some b0) n c,.int .i64 (a:Int),.int .i64 (b:Int),.func (.func 144) #[] #[]] w0 fun v w=>ex 6 30 (some b0) c n (al eLd (en l a b)) w0 v w:=by
 have hnl:=hr.n_eq bf (by decide)
 refine az (n:=53) func183 rfl ntmps183 rfl ?_
 have hI:=Inv.lent w0 (some b0) (blk cl 30) hg
 refine ab (rgn rfl (pu (iv (a:Int)) rfl (ac (cj rfl rfl (by omega) ?_))))
 refine pu (iv ((a:Int)+1)) rfl (aa (au ?_))
 refine cb (fun m ρ w=>∃ (i:Nat) (ccl:List Value),cd ρ [(0,slv (some b0) n c),(1,iv (a:Int)),(2,iv (b:Int)),(3,.func (.func 144) #[] #[]),(8,iv (i:Int))]∧Inv [b0] w0 w [(some b0,blk ccl 30)]∧(a+1≤i∧(i≤b∨i=a+1))∧(Row 6 (some b0) n c ccl (al eLd (en l a i)))∧m=b - i) (m:=b - (a+1)) ⟨a+1,cl,⟨rfl,rfl,rfl,rfl,rfl,trivial⟩,hI.pk [0] rfl rfl,(by omega),(by rw [seg_one]; exact hr),rfl⟩ ?_
 rintro m ρ w ⟨i,ccl,hag,hI,hi,hrr,hm⟩
 obtain ⟨ρ,rfl⟩:=hag.form; clear hag
 refine ab (ab (rgn rfl (pu (iv (i:Int)) rfl (pu (iv (b:Int)) rfl (ac (cm rfl rfl ?_ ?_))))))
 ·intro h1
  refine aa (ah rfl (ak (ab (au ?_))))
  refine ab (rgn rfl (pu (iv (i:Int)) rfl (pu (iv (i:Int)) rfl (aa (au ?_)))))
  have hsl:=segF_len (l:=l) (a:=a) (b:=i) (by omega) (by omega)
  obtain ⟨xi,hxi⟩:=bq (l:=en l a i) (i:=i) (by omega)
  refine cb (fun m ρ w=>∃ (j:Nat) (jv:Int) (ccl2:List Value),cd ρ [(0,slv (some b0) n c),(1,iv (a:Int)),(2,iv (b:Int)),(3,.func (.func 144) #[] #[]),(8,iv (i:Int)),(9,iv jv)]∧Inv [b0] w0 w [(some b0,blk ccl2 30)]∧(jv=((j:Nat):Int))∧(a≤j∧j≤i)∧(∀ p y,j≤p→p < i→(en l a i)[p]?=some y→xi.hr < y.hr)∧(Row 6 (some b0) n c ccl2 (al eLd (fj (en l a i) j i (i+1))))∧m=j) (m:=i) ⟨i,(i:Int),ccl,⟨rfl,rfl,rfl,rfl,rfl,rfl,trivial⟩,hI.pk [0] rfl rfl,rfl,(by omega),(fun p y h1 h2 _=>by omega),(by rw [rot_same (by omega) (by omega) (by omega) (.inl rfl)]; exact hrr),rfl⟩ ?_
  rintro m ρ w ⟨j,jv,ccl2,hag,hI,hjv,hj,hgt,hrr2,hm⟩
  obtain ⟨ρ,rfl⟩:=hag.form; clear hag
  have hml2:=rotL_len (l:=en l a i) (a:=j) (m:=i) (b:=i+1) (by omega) (by omega) (by omega)
  refine ab (ab (dh hI [0] (by decide) rfl rfl rfl fun hsub=>alp 0 (iv jv) hsub rfl (by kernel_rfl) (fun _=>rfl) ?_))
  refine alp 1 (iv (a:Int)) hsub rfl (by kernel_rfl) (fun _=>rfl) ?_
  by_cases h2:(a:Int) < jv
  ·refine ap 2 kg hsub rfl (by kernel_rfl) (fun w hI=>fh rfl rfl (fun _=>br) (fun h=>absurd h2 h)) ?_
   refine alp 3 kg hsub rfl (by kernel_rfl) (fun _=>rfl) ?_
   refine ie 4 (.func (.func 144) #[] #[]) hsub rfl (by kernel_rfl) rfl (fun w hI=>kl (.func (.func 144) #[] #[]) rfl br) ?_
   refine ie 5 (slv (some b0) n c) hsub rfl (by kernel_rfl) rfl (fun w hI=>kl (slv (some b0) n c) rfl br) ?_
   refine ie 6 (iv jv) hsub rfl (by kernel_rfl) rfl (fun w hI=>kl (iv jv) rfl br) ?_
   obtain ⟨x1,hx2⟩:=bq (l:=(fj (en l a i) j i (i+1))) (i:=j) (by omega)
   have he3:=hrr2.atS bf (by decide) hx2
   refine ie 7 (.pointer (some ⟨b0,j * 6,none⟩)) hsub rfl (by kernel_rfl) rfl (fun w hI=>be j underlying24 sizeOf30 rfl rfl (by omega) (by omega) br) ?_
   refine ie 8 (.agg (eLd x1).toArray) hsub rfl (by kernel_rfl) rfl (fun w hI=>cq hI 0 (eLd x1) isAgg30 sizeOf30 rfl rfl rfl he3 br) ?_
   refine ie 9 (slv (some b0) n c) hsub rfl (by kernel_rfl) rfl (fun w hI=>kl (slv (some b0) n c) rfl br) ?_
   refine ie 10 (iv jv) hsub rfl (by kernel_rfl) rfl (fun w hI=>kl (iv jv) rfl br) ?_
   refine ie 11 (iv (jv - 1)) hsub rfl (by kernel_rfl) rfl (fun w hI=>dm rfl rfl (by omega) br) ?_
   obtain ⟨x4,hx5⟩:=bq (l:=(fj (en l a i) j i (i+1))) (i:=j - 1) (by omega)
   have he6:=hrr2.atS bf (by decide) hx5
   refine ie 12 (.pointer (some ⟨b0,(j - 1) * 6,none⟩)) hsub rfl (by kernel_rfl) rfl (fun w hI=>be (j - 1) underlying24 sizeOf30 rfl rfl (by omega) (by omega) br) ?_
   refine ie 13 (.agg (eLd x4).toArray) hsub rfl (by kernel_rfl) rfl (fun w hI=>cq hI 0 (eLd x4) isAgg30 sizeOf30 rfl rfl rfl he6 br) ?_
   refine ie 14 (iv (cmpI x1.hr x4.hr)) hsub rfl (by kernel_rfl) rfl (fun w hI=>im [.agg (eLd x1).toArray,.agg (eLd x4).toArray] rfl (by kernel_rfl) (cx.of (args':=[.agg (eLd x1).toArray,.agg (eLd x4).toArray]) rfl (sceneOf2_c w x1 x4)) (fun v' w' h=>h)) ?_
   by_cases h3:(cmpI x1.hr x4.hr) < 0
   ·refine ie 15 kg hsub rfl (by kernel_rfl) rfl (fun w hI=>cm rfl rfl (fun _=>br) (fun h=>absurd h3 h)) ?_
    refine alp 16 kg hsub rfl (by kernel_rfl) (fun _=>rfl) ?_
    refine cp rfl (fun w hI=>?_)
    refine ah rfl (ak (ab (au ?_)))
    replace hI:=hI.pk [0] rfl rfl
    refine dh hI [] (by decide) rfl rfl rfl fun hsub=>alp 0 (slv (some b0) n c) hsub rfl (by kernel_rfl) (fun _=>rfl) ?_
    refine alp 1 (iv jv) hsub rfl (by kernel_rfl) (fun _=>rfl) ?_
    refine alp 2 (slv (some b0) n c) hsub rfl (by kernel_rfl) (fun _=>rfl) ?_
    refine alp 3 (iv jv) hsub rfl (by kernel_rfl) (fun _=>rfl) ?_
    refine ap 4 (iv (jv - 1)) hsub rfl (by kernel_rfl) (fun w hI=>dm rfl rfl (by omega) br) ?_
    refine alp 5 (slv (some b0) n c) hsub rfl (by kernel_rfl) (fun _=>rfl) ?_
    refine alp 6 (iv jv) hsub rfl (by kernel_rfl) (fun _=>rfl) ?_
    refine ap 7 (iv (jv - 1)) hsub rfl (by kernel_rfl) (fun w hI=>dm rfl rfl (by omega) br) ?_
    refine ap 8 (.pointer (some ⟨b0,(j - 1) * 6,none⟩)) hsub rfl (by kernel_rfl) (fun w hI=>be (j - 1) underlying24 sizeOf30 rfl rfl (by omega) (by omega) br) ?_
    refine alp 10 (slv (some b0) n c) hsub rfl (by kernel_rfl) (fun _=>rfl) ?_
    refine alp 11 (iv jv) hsub rfl (by kernel_rfl) (fun _=>rfl) ?_
    refine ap 12 (.pointer (some ⟨b0,j * 6,none⟩)) hsub rfl (by kernel_rfl) (fun w hI=>be j underlying24 sizeOf30 rfl rfl (by omega) (by omega) br) ?_
    refine bc [9,13] (by kernel_rfl) rfl (each2 ?_ ?_)
    ·intro w hI
     refine dg rfl (cq hI 0 (eLd x4) isAgg30 sizeOf30 rfl rfl rfl he6 ?_)
     refine ⟨_,hI,dc (fun _ h=>h.pk [] rfl rfl) ?_⟩
     intro hsub
     refine bc [13] (by kernel_rfl) rfl (cz fun w hI=>dg rfl (cq hI 0 (eLd x1) isAgg30 sizeOf30 rfl rfl rfl he3 ?_))
     refine ⟨_,hI,dc (fun _ h=>h.pk [] rfl rfl) ?_⟩
     intro hsub
     refine ap 14 (.pointer (some ⟨b0,j * 6,none⟩)) hsub rfl (by kernel_rfl) (fun w hI=>be j underlying24 sizeOf30 rfl rfl (by omega) (by omega) br) ?_
     refine bc [15] (by kernel_rfl) rfl (cz fun w hI=>dg rfl (aq hI 0 6 (eLd x4) sizeOf30 rfl rfl rfl rfl rfl (hrr2.room (by omega)) fun w hI=>⟨_,hI,dc (fun _ h=>h.pk [] rfl rfl) ?_⟩))
     intro hsub
     have r7:=hrr2.put bf (by decide) j x4 (by omega)
     obtain ⟨x9,f⟩:=bq (l:=((fj (en l a i) j i (i+1))).set j x4) (i:=j - 1) (by first | omega | (simp only [List.length_set]; omega))
     have q:=r7.atS bf (by decide) f
     refine ap 16 (.pointer (some ⟨b0,(j - 1) * 6,none⟩)) hsub rfl (by kernel_rfl) (fun w hI=>be (j - 1) underlying24 sizeOf30 rfl rfl (by omega) (by omega) br) ?_
     refine bc [17] (by kernel_rfl) rfl (cz fun w hI=>dg rfl (aq hI 0 6 (eLd x1) sizeOf30 rfl rfl rfl rfl rfl (r7.room (by omega)) fun w hI=>⟨_,hI,dc (fun _ h=>h.pk [] rfl rfl) ?_⟩))
     intro hsub
     have g:=r7.put bf (by decide) (j - 1) (⟨x1.src,x1.hr,x1.lo,x1.hi,x1.kn,x1.un⟩:Ld) (by omega)
     refine cp rfl (fun w hI=>?_)
     refine rgn rfl (pu (iv jv) rfl (ac (dm rfl rfl (by omega) ?_)))
     refine pu (iv (jv - 1)) rfl (aa ?_)
     exact ⟨rfl,_,(by omega),⟨j - 1,jv - 1,putCells (putCells ccl2 (j * 6) (eLd x4)) ((j - 1) * 6) (eLd (⟨x1.src,x1.hr,x1.lo,x1.hi,x1.kn,x1.un⟩:Ld)),⟨rfl,rfl,rfl,rfl,rfl,rfl,trivial⟩,hI.pk [0] rfl rfl,(by omega),(by omega),(fun p y h1 h2 h3=>by have e1:=Option.some.inj (hxi.symm.trans ((rot_at (by omega) (by omega)).symm.trans hx2)); by_cases e:p=j - 1; (have e2:=Option.some.inj (((rot_before (by omega) (by omega) (by omega) (by omega)).trans (e ▸ h3)).symm.trans hx5); rw [e1,e2]; exact ju.1 (by assumption)); exact hgt p y (by omega) h2 h3),(by rw [← move_left (by omega) (by omega) hx2 hx5 (by omega)]; exact g),rfl⟩⟩
    intro w hI
    refine dg rfl (cq hI 0 (eLd x1) isAgg30 sizeOf30 rfl rfl rfl he3 ?_)
    refine ⟨_,hI,dc (fun _ h=>h.pk [] rfl rfl) ?_⟩
    intro hsub
    refine bc [9] (by kernel_rfl) rfl (cz fun w hI=>dg rfl (cq hI 0 (eLd x4) isAgg30 sizeOf30 rfl rfl rfl he6 ?_))
    refine ⟨_,hI,dc (fun _ h=>h.pk [] rfl rfl) ?_⟩
    intro hsub
    refine ap 14 (.pointer (some ⟨b0,j * 6,none⟩)) hsub rfl (by kernel_rfl) (fun w hI=>be j underlying24 sizeOf30 rfl rfl (by omega) (by omega) br) ?_
    refine bc [15] (by kernel_rfl) rfl (cz fun w hI=>dg rfl (aq hI 0 6 (eLd x4) sizeOf30 rfl rfl rfl rfl rfl (hrr2.room (by omega)) fun w hI=>⟨_,hI,dc (fun _ h=>h.pk [] rfl rfl) ?_⟩))
    intro hsub
    have d:=hrr2.put bf (by decide) j x4 (by omega)
    obtain ⟨r,k⟩:=bq (l:=((fj (en l a i) j i (i+1))).set j x4) (i:=j - 1) (by first | omega | (simp only [List.length_set]; omega))
    have s:=d.atS bf (by decide) k
    refine ap 16 (.pointer (some ⟨b0,(j - 1) * 6,none⟩)) hsub rfl (by kernel_rfl) (fun w hI=>be (j - 1) underlying24 sizeOf30 rfl rfl (by omega) (by omega) br) ?_
    refine bc [17] (by kernel_rfl) rfl (cz fun w hI=>dg rfl (aq hI 0 6 (eLd x1) sizeOf30 rfl rfl rfl rfl rfl (d.room (by omega)) fun w hI=>⟨_,hI,dc (fun _ h=>h.pk [] rfl rfl) ?_⟩))
    intro hsub
    have o:=d.put bf (by decide) (j - 1) (⟨x1.src,x1.hr,x1.lo,x1.hi,x1.kn,x1.un⟩:Ld) (by omega)
    refine cp rfl (fun w hI=>?_)
    refine rgn rfl (pu (iv jv) rfl (ac (dm rfl rfl (by omega) ?_)))
    refine pu (iv (jv - 1)) rfl (aa ?_)
    exact ⟨rfl,_,(by omega),⟨j - 1,jv - 1,putCells (putCells ccl2 (j * 6) (eLd x4)) ((j - 1) * 6) (eLd (⟨x1.src,x1.hr,x1.lo,x1.hi,x1.kn,x1.un⟩:Ld)),⟨rfl,rfl,rfl,rfl,rfl,rfl,trivial⟩,hI.pk [0] rfl rfl,(by omega),(by omega),(fun p y h1 h2 h3=>by have e1:=Option.some.inj (hxi.symm.trans ((rot_at (by omega) (by omega)).symm.trans hx2)); by_cases e:p=j - 1; (have e2:=Option.some.inj (((rot_before (by omega) (by omega) (by omega) (by omega)).trans (e ▸ h3)).symm.trans hx5); rw [e1,e2]; exact ju.1 (by assumption)); exact hgt p y (by omega) h2 h3),(by rw [← move_left (by omega) (by omega) hx2 hx5 (by omega)]; exact o),rfl⟩⟩
   refine ie 15 kf hsub rfl (by kernel_rfl) rfl (fun w hI=>cm rfl rfl (fun h=>absurd h h3) (fun _=>br)) ?_
   refine alp 16 kf hsub rfl (by kernel_rfl) (fun _=>rfl) ?_
   refine cp rfl (fun w hI=>?_)
   refine ai rfl ?_
   have hfin:fj (en l a i) j i (i+1)=en l a (i+1):=ins_end hxi (by omega) (by omega) (by omega) hgt (fun y _ hy hlt=>by have e1:=Option.some.inj (hxi.symm.trans ((rot_at (by omega) (by omega)).symm.trans hx2)); have e2:=Option.some.inj (((rot_before (by omega) (by omega) (by omega) (by omega)).trans hy).symm.trans hx5); rw [e1,e2] at hlt; exact absurd (ju.2 hlt) (by assumption))
   refine bw ?_
   refine rgn rfl (pu (iv (i:Int)) rfl (ac (cj rfl rfl (by omega) ?_)))
   refine pu (iv ((i:Int)+1)) rfl (aa ?_)
   exact ⟨rfl,_,(by omega),⟨i+1,ccl2,⟨rfl,rfl,rfl,rfl,rfl,trivial⟩,hI.pk [0] rfl rfl,(by omega),(by rw [← hfin]; exact hrr2),rfl⟩⟩
  refine ap 2 kf hsub rfl (by kernel_rfl) (fun w hI=>fh rfl rfl (fun h=>absurd h h2) (fun _=>br)) ?_
  refine alp 3 kf hsub rfl (by kernel_rfl) (fun _=>rfl) ?_
  refine ga 4 hsub rfl (by kernel_rfl) rfl ?_
  refine ga 5 hsub rfl (by kernel_rfl) rfl ?_
  refine ga 6 hsub rfl (by kernel_rfl) rfl ?_
  refine ga 7 hsub rfl (by kernel_rfl) rfl ?_
  refine ga 8 hsub rfl (by kernel_rfl) rfl ?_
  refine ga 9 hsub rfl (by kernel_rfl) rfl ?_
  refine ga 10 hsub rfl (by kernel_rfl) rfl ?_
  refine ga 11 hsub rfl (by kernel_rfl) rfl ?_
  refine ga 12 hsub rfl (by kernel_rfl) rfl ?_
  refine ga 13 hsub rfl (by kernel_rfl) rfl ?_
  refine ga 14 hsub rfl (by kernel_rfl) rfl ?_
  refine ga 15 hsub rfl (by kernel_rfl) rfl ?_
  refine alp 16 kf hsub rfl (by kernel_rfl) (fun _=>rfl) ?_
  refine cp rfl (fun w hI=>?_)
  refine ai rfl ?_
  have hfin:fj (en l a i) j i (i+1)=en l a (i+1):=ins_end hxi (by omega) (by omega) (by omega) hgt (fun y hj _=>by omega)
  refine bw ?_
  refine rgn rfl (pu (iv (i:Int)) rfl (ac (cj rfl rfl (by omega) ?_)))
  refine pu (iv ((i:Int)+1)) rfl (aa ?_)
  exact ⟨rfl,_,(by omega),⟨i+1,ccl2,⟨rfl,rfl,rfl,rfl,rfl,trivial⟩,hI.pk [0] rfl rfl,(by omega),(by rw [← hfin]; exact hrr2),rfl⟩⟩
 intro h4
 refine aa (ai rfl (bw ?_))
 exact ⟨.tuple #[],Ret.r0 rfl , ⟨ccl,rfl,hI.pk [0] rfl rfl,hrr.to (by by_cases e:a=b; (subst e; rw [show i=a+1 by omega,seg_one,seg_none]); rw [show i=b by omega]) rfl⟩⟩

end Go.K
