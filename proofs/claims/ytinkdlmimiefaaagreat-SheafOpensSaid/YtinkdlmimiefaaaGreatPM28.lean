import Derived.Test.YtinkdlmimiefaaaGreatProg
import Derived.Test.YtinkdlmimiefaaaGreatPM27
import Derived.Test.YtinkdlmimiefaaaGreatPSS
namespace Go.K
open Go.Proofs.Tryz
open Go.Proofs Go.RowKit
set_option linter.unusedVariables false
set_option linter.unusedSimpArgs false
set_option maxRecDepth 100000
attribute [local irreducible] Seq cw cx fl opX

set_option maxHeartbeats 3200000 in
theorem symOne_c (w0:World) (b0 n c:Nat) (cl:List Value) (l:List Ld) (a q b:Nat) (hg:∀ b,some b0=some b→w0.heap[b]?=some (blk cl 30)) (hr:Row 6 (some b0) n c cl (al eLd l)) (hmax:n≤1000000000) (ha:a < q) (hb:q < b) (hbn:b≤n) (hL:dp l a q) (hR:dp l q b) (hone:q=a+1∨b=q+1):bn Tryz.prog 184 [slv (some b0) n c,.int .i64 (a:Int),.int .i64 (q:Int),.int .i64 (b:Int),.func (.func 144) #[] #[]] w0 fun v w=>ex 6 30 (some b0) c n (al eLd (en l a b)) w0 v w:=by
 have hnl:=hr.n_eq bf (by decide)
 refine az (n:=220) func184 rfl ntmps184 rfl ?_
 have hI:=Inv.lent w0 (some b0) (blk cl 30) hg
 refine ab (ab (rgn rfl (pu (iv (q:Int)) rfl (pu (iv (a:Int)) rfl (ac (dm rfl rfl (by omega) ?_))))))
 refine ac (di rfl rfl ?_ ?_)
 ·intro h1
  refine aa (ah rfl (ab (rgn rfl (pu (iv (q:Int)) rfl (pu (iv (q:Int)) rfl (aa (ab (rgn rfl (pu (iv (b:Int)) rfl ?_)))))))))
  refine pu (iv (b:Int)) rfl (aa (ab (au ?_)))
  obtain ⟨x1,hx2⟩:=bq (l:=l) (i:=a) (by omega)
  have he3:=hr.atS bf (by decide) hx2
  refine cb (fun m ρ w=>∃ (i:Nat) (j:Nat),cd ρ [(0,slv (some b0) n c),(1,iv (a:Int)),(4,.func (.func 144) #[] #[]),(10,iv (i:Int)),(11,iv (j:Int))]∧Inv [b0] w0 w [(some b0,blk cl 30)]∧(q≤i∧i≤j∧j≤b)∧(∀ p y,q≤p→p < i→l[p]?=some y→y.hr < x1.hr)∧(∀ p y,j≤p→p < b→l[p]?=some y→x1.hr≤y.hr)∧m=j - i) (m:=b - q) ⟨q,b,⟨rfl,rfl,rfl,rfl,rfl,trivial⟩,hI.pk [0] rfl rfl,(by omega),(fun p y h1 h2 _=>by omega),(fun p y h1 h2 _=>by omega),rfl⟩ ?_
  rintro m ρ w ⟨i,j,hag,hI,hij,f1,f2,hm⟩
  obtain ⟨ρ,rfl⟩:=hag.form; clear hag
  refine ab (ab (rgn rfl (pu (iv (i:Int)) rfl (pu (iv (j:Int)) rfl (ac (cm rfl rfl ?_ ?_))))))
  ·intro h2
   refine aa (ah rfl (ak (au ?_)))
   refine ab (rgn rfl (pu (iv (i:Int)) rfl (pu (iv (j:Int)) rfl (ac (cj rfl rfl (by omega) ?_)))))
   refine ac (s_toUM underlying3 underlying178 rfl (by omega) (by omega) ?_)
   refine ac (s_halfM rfl rfl ?_)
   refine ac (s_toIM underlying178 underlying3 rfl (by omega) (by omega) ?_)
   refine pu (iv (((i:Int)+(j:Int)) / 2)) rfl (aa (ab (dh hI [0] (by decide) rfl rfl rfl fun hsub=>alp 0 (.func (.func 144) #[] #[]) hsub rfl (by kernel_rfl) (fun _=>rfl) ?_)))
   refine alp 1 (slv (some b0) n c) hsub rfl (by kernel_rfl) (fun _=>rfl) ?_
   refine alp 2 (iv (((i:Int)+(j:Int)) / 2)) hsub rfl (by kernel_rfl) (fun _=>rfl) ?_
   obtain ⟨x4,hx5⟩:=bq (l:=l) (i:=(i+j) / 2) (by omega)
   have he6:=hr.atS bf (by decide) hx5
   refine ap 3 (.pointer (some ⟨b0,((i+j) / 2) * 6,none⟩)) hsub rfl (by kernel_rfl) (fun w hI=>be ((i+j) / 2) underlying24 sizeOf30 rfl rfl (by omega) (by omega) br) ?_
   refine ap 4 (.agg (eLd x4).toArray) hsub rfl (by kernel_rfl) (fun w hI=>cq hI 0 (eLd x4) isAgg30 sizeOf30 rfl rfl rfl he6 br) ?_
   refine alp 5 (slv (some b0) n c) hsub rfl (by kernel_rfl) (fun _=>rfl) ?_
   refine alp 6 (iv (a:Int)) hsub rfl (by kernel_rfl) (fun _=>rfl) ?_
   obtain ⟨x7,hx8⟩:=bq (l:=l) (i:=a) (by omega)
   have he9:=hr.atS bf (by decide) hx8
   refine ap 7 (.pointer (some ⟨b0,a * 6,none⟩)) hsub rfl (by kernel_rfl) (fun w hI=>be a underlying24 sizeOf30 rfl rfl rfl (by omega) br) ?_
   refine ap 8 (.agg (eLd x7).toArray) hsub rfl (by kernel_rfl) (fun w hI=>cq hI 0 (eLd x7) isAgg30 sizeOf30 rfl rfl rfl he9 br) ?_
   refine ap 9 (iv (cmpI x4.hr x7.hr)) hsub rfl (by kernel_rfl) (fun w hI=>im [.agg (eLd x4).toArray,.agg (eLd x7).toArray] rfl (by kernel_rfl) (cx.of (args':=[.agg (eLd x4).toArray,.agg (eLd x7).toArray]) rfl (sceneOf2_c w x4 x7)) (fun v' w' h=>h)) ?_
   by_cases h3:(cmpI x4.hr x7.hr) < 0
   ·refine ap 10 kg hsub rfl (by kernel_rfl) (fun w hI=>cm rfl rfl (fun _=>br) (fun h=>absurd h3 h)) ?_
    refine cp rfl (fun w hI=>?_)
    refine ah rfl (rgn rfl (pu (iv (((i:Int)+(j:Int)) / 2)) rfl (ac (cj rfl rfl (by omega) ?_))))
    refine pu (iv ((((i:Int)+(j:Int)) / 2)+1)) rfl (aa ?_)
    exact ⟨rfl,_,(by omega),⟨(i+j) / 2+1,j,⟨rfl,rfl,rfl,rfl,rfl,trivial⟩,hI.pk [0] rfl rfl,(by omega),(fun p y h1 h2 h3=>Int.lt_of_le_of_lt (hR p ((i+j) / 2) y x4 h1 (by omega) (by omega) h3 hx5) (ju.1 (by first | assumption | (have e9:=Option.some.inj (hx8.symm.trans hx2); rw [← e9]; assumption)))),f2,rfl⟩⟩
   refine ap 10 kf hsub rfl (by kernel_rfl) (fun w hI=>cm rfl rfl (fun h=>absurd h h3) (fun _=>br)) ?_
   refine cp rfl (fun w hI=>?_)
   refine ai rfl (rgn rfl (pu (iv (((i:Int)+(j:Int)) / 2)) rfl (pu (iv (((i:Int)+(j:Int)) / 2)) rfl (aa ?_))))
   exact ⟨rfl,_,(by omega),⟨i,(i+j) / 2,⟨rfl,rfl,rfl,rfl,rfl,trivial⟩,hI.pk [0] rfl rfl,(by omega),f1,(fun p y h1 h2 h3=>Int.le_trans (Int.not_lt.1 fun hc=>absurd (ju.2 hc) (by first | assumption | (have e9:=Option.some.inj (hx8.symm.trans hx2); rw [← e9]; assumption))) (hR ((i+j) / 2) p x4 y (by omega) h1 h2 hx5 h3)),rfl⟩⟩
  intro h4
  refine aa (ai rfl (bw ?_))
  refine ab (ab (rgn rfl (pu (iv (a:Int)) rfl (pu (iv (a:Int)) rfl (aa (au ?_))))))
  refine cb (fun m ρ w=>∃ (k:Nat) (ccl:List Value),cd ρ [(0,slv (some b0) n c),(10,iv (i:Int)),(13,iv (k:Int))]∧Inv [b0] w0 w [(some b0,blk ccl 30)]∧(a≤k∧k+1≤i)∧(Row 6 (some b0) n c ccl (al eLd (fj l a (a+1) (k+1))))∧m=i - k) (m:=i - a) ⟨a,cl,⟨rfl,rfl,rfl,trivial⟩,hI.pk [0] rfl rfl,(by omega),(by rw [rot_same (by omega) (by omega) (by omega) (.inr rfl)]; exact hr),rfl⟩ ?_
  rintro m ρ w ⟨k,ccl,hag,hI,hk,hrr,hm⟩
  obtain ⟨ρ,rfl⟩:=hag.form; clear hag
  have hml:=rotL_len (l:=l) (a:=a) (m:=a+1) (b:=k+1) (by omega) (by omega) (by omega)
  refine ab (ab (rgn rfl (pu (iv (k:Int)) rfl (pu (iv (i:Int)) rfl (ac (dm rfl rfl (by omega) ?_))))))
  refine ac (cm rfl rfl ?_ ?_)
  ·intro h5
   refine aa (ah rfl (ak (ab (au ?_))))
   obtain ⟨d,u⟩:=bq (l:=(fj l a (a+1) (k+1))) (i:=k) (by omega)
   have H:=hrr.atS bf (by decide) u
   obtain ⟨g,x⟩:=bq (l:=(fj l a (a+1) (k+1))) (i:=k+1) (by omega)
   have I:=hrr.atS bf (by decide) x
   replace hI:=hI.pk [0] rfl rfl
   refine dh hI [] (by decide) rfl rfl rfl fun hsub=>alp 0 (slv (some b0) n c) hsub rfl (by kernel_rfl) (fun _=>rfl) ?_
   refine alp 1 (iv (k:Int)) hsub rfl (by kernel_rfl) (fun _=>rfl) ?_
   refine alp 2 (slv (some b0) n c) hsub rfl (by kernel_rfl) (fun _=>rfl) ?_
   refine alp 3 (iv (k:Int)) hsub rfl (by kernel_rfl) (fun _=>rfl) ?_
   refine ap 4 (iv ((k:Int)+1)) hsub rfl (by kernel_rfl) (fun w hI=>cj rfl rfl (by omega) br) ?_
   refine alp 5 (slv (some b0) n c) hsub rfl (by kernel_rfl) (fun _=>rfl) ?_
   refine alp 6 (iv (k:Int)) hsub rfl (by kernel_rfl) (fun _=>rfl) ?_
   refine ap 7 (iv ((k:Int)+1)) hsub rfl (by kernel_rfl) (fun w hI=>cj rfl rfl (by omega) br) ?_
   refine ap 8 (.pointer (some ⟨b0,(k+1) * 6,none⟩)) hsub rfl (by kernel_rfl) (fun w hI=>be (k+1) underlying24 sizeOf30 rfl rfl (by omega) (by omega) br) ?_
   refine alp 10 (slv (some b0) n c) hsub rfl (by kernel_rfl) (fun _=>rfl) ?_
   refine alp 11 (iv (k:Int)) hsub rfl (by kernel_rfl) (fun _=>rfl) ?_
   refine ap 12 (.pointer (some ⟨b0,k * 6,none⟩)) hsub rfl (by kernel_rfl) (fun w hI=>be k underlying24 sizeOf30 rfl rfl rfl (by omega) br) ?_
   refine bc [9,13] (by kernel_rfl) rfl (each2 ?_ ?_)
   ·intro w hI
    refine dg rfl (cq hI 0 (eLd g) isAgg30 sizeOf30 rfl rfl rfl I ?_)
    refine ⟨_,hI,dc (fun _ h=>h.pk [] rfl rfl) ?_⟩
    intro hsub
    refine bc [13] (by kernel_rfl) rfl (cz fun w hI=>dg rfl (cq hI 0 (eLd d) isAgg30 sizeOf30 rfl rfl rfl H ?_))
    refine ⟨_,hI,dc (fun _ h=>h.pk [] rfl rfl) ?_⟩
    intro hsub
    refine ap 14 (.pointer (some ⟨b0,k * 6,none⟩)) hsub rfl (by kernel_rfl) (fun w hI=>be k underlying24 sizeOf30 rfl rfl rfl (by omega) br) ?_
    refine bc [15] (by kernel_rfl) rfl (cz fun w hI=>dg rfl (aq hI 0 6 (eLd g) sizeOf30 rfl rfl rfl rfl rfl (hrr.room (by omega)) fun w hI=>⟨_,hI,dc (fun _ h=>h.pk [] rfl rfl) ?_⟩))
    intro hsub
    have z:=hrr.put bf (by decide) k g (by omega)
    obtain ⟨Y,N⟩:=bq (l:=((fj l a (a+1) (k+1))).set k g) (i:=k+1) (by first | omega | (simp only [List.length_set]; omega))
    have Z:=z.atS bf (by decide) N
    refine ap 16 (.pointer (some ⟨b0,(k+1) * 6,none⟩)) hsub rfl (by kernel_rfl) (fun w hI=>be (k+1) underlying24 sizeOf30 rfl rfl (by omega) (by omega) br) ?_
    refine bc [17] (by kernel_rfl) rfl (cz fun w hI=>dg rfl (aq hI 0 6 (eLd d) sizeOf30 rfl rfl rfl rfl rfl (z.room (by omega)) fun w hI=>⟨_,hI,dc (fun _ h=>h.pk [] rfl rfl) ?_⟩))
    intro hsub
    have O:=z.put bf (by decide) (k+1) (⟨d.src,d.hr,d.lo,d.hi,d.kn,d.un⟩:Ld) (by omega)
    refine cp rfl (fun w hI=>?_)
    refine rgn rfl (pu (iv (k:Int)) rfl (ac (cj rfl rfl (by omega) ?_)))
    refine pu (iv ((k:Int)+1)) rfl (aa ?_)
    exact ⟨rfl,_,(by omega),⟨k+1,putCells (putCells ccl (k * 6) (eLd g)) ((k+1) * 6) (eLd (⟨d.src,d.hr,d.lo,d.hi,d.kn,d.un⟩:Ld)),⟨rfl,rfl,rfl,trivial⟩,hI.pk [0] rfl rfl,(by omega),(by rw [← move_right (by omega) u x (by omega)]; exact O),rfl⟩⟩
   intro w hI
   refine dg rfl (cq hI 0 (eLd d) isAgg30 sizeOf30 rfl rfl rfl H ?_)
   refine ⟨_,hI,dc (fun _ h=>h.pk [] rfl rfl) ?_⟩
   intro hsub
   refine bc [9] (by kernel_rfl) rfl (cz fun w hI=>dg rfl (cq hI 0 (eLd g) isAgg30 sizeOf30 rfl rfl rfl I ?_))
   refine ⟨_,hI,dc (fun _ h=>h.pk [] rfl rfl) ?_⟩
   intro hsub
   refine ap 14 (.pointer (some ⟨b0,k * 6,none⟩)) hsub rfl (by kernel_rfl) (fun w hI=>be k underlying24 sizeOf30 rfl rfl rfl (by omega) br) ?_
   refine bc [15] (by kernel_rfl) rfl (cz fun w hI=>dg rfl (aq hI 0 6 (eLd g) sizeOf30 rfl rfl rfl rfl rfl (hrr.room (by omega)) fun w hI=>⟨_,hI,dc (fun _ h=>h.pk [] rfl rfl) ?_⟩))
   intro hsub
   have A:=hrr.put bf (by decide) k g (by omega)
   obtain ⟨a0,P⟩:=bq (l:=((fj l a (a+1) (k+1))).set k g) (i:=k+1) (by first | omega | (simp only [List.length_set]; omega))
   have a1:=A.atS bf (by decide) P
   refine ap 16 (.pointer (some ⟨b0,(k+1) * 6,none⟩)) hsub rfl (by kernel_rfl) (fun w hI=>be (k+1) underlying24 sizeOf30 rfl rfl (by omega) (by omega) br) ?_
   refine bc [17] (by kernel_rfl) rfl (cz fun w hI=>dg rfl (aq hI 0 6 (eLd d) sizeOf30 rfl rfl rfl rfl rfl (A.room (by omega)) fun w hI=>⟨_,hI,dc (fun _ h=>h.pk [] rfl rfl) ?_⟩))
   intro hsub
   have Q:=A.put bf (by decide) (k+1) (⟨d.src,d.hr,d.lo,d.hi,d.kn,d.un⟩:Ld) (by omega)
   refine cp rfl (fun w hI=>?_)
   refine rgn rfl (pu (iv (k:Int)) rfl (ac (cj rfl rfl (by omega) ?_)))
   refine pu (iv ((k:Int)+1)) rfl (aa ?_)
   exact ⟨rfl,_,(by omega),⟨k+1,putCells (putCells ccl (k * 6) (eLd g)) ((k+1) * 6) (eLd (⟨d.src,d.hr,d.lo,d.hi,d.kn,d.un⟩:Ld)),⟨rfl,rfl,rfl,trivial⟩,hI.pk [0] rfl rfl,(by omega),(by rw [← move_right (by omega) u x (by omega)]; exact Q),rfl⟩⟩
  intro h6
  refine aa (ai rfl (bw ?_))
  refine aj ?_
  exact ⟨.tuple #[],Ret.r0 rfl , ⟨ccl,rfl,hI.pk [0] rfl rfl,(by have e:q=a+1:=(by omega); subst e; have ej:j=i:=(by omega); subst ej; have e2:k+1=j:=(by omega); subst e2; rw [← one_left hx2 (by omega) (by omega) (by omega) hR f1 f2]; exact hrr)⟩⟩
 intro h7
 refine aa (ai rfl (ak (ab (ab (rgn rfl (pu (iv (b:Int)) rfl (pu (iv (q:Int)) rfl (ac (dm rfl rfl (by omega) ?_)))))))))
 refine ac (di rfl rfl ?_ ?_)
 ·intro h8
  refine aa (ah rfl (ab (rgn rfl (pu (iv (a:Int)) rfl (pu (iv (a:Int)) rfl (aa (ab (rgn rfl (pu (iv (q:Int)) rfl ?_)))))))))
  refine pu (iv (q:Int)) rfl (aa (ab (au ?_)))
  obtain ⟨J,t⟩:=bq (l:=l) (i:=q) (by omega)
  have a2:=hr.atS bf (by decide) t
  refine cb (fun m ρ w=>∃ (i:Nat) (j:Nat),cd ρ [(0,slv (some b0) n c),(2,iv (q:Int)),(4,.func (.func 144) #[] #[]),(14,iv (i:Int)),(15,iv (j:Int))]∧Inv [b0] w0 w [(some b0,blk cl 30)]∧(a≤i∧i≤j∧j≤q)∧(∀ p y,a≤p→p < i→l[p]?=some y→y.hr≤J.hr)∧(∀ p y,j≤p→p < q→l[p]?=some y→J.hr < y.hr)∧m=j - i) (m:=q - a) ⟨a,q,⟨rfl,rfl,rfl,rfl,rfl,trivial⟩,hI.pk [0] rfl rfl,(by omega),(fun p y h1 h2 _=>by omega),(fun p y h1 h2 _=>by omega),rfl⟩ ?_
  rintro m ρ w ⟨i,j,hag,hI,hij,f1,f2,hm⟩
  obtain ⟨ρ,rfl⟩:=hag.form; clear hag
  refine ab (ab (rgn rfl (pu (iv (i:Int)) rfl (pu (iv (j:Int)) rfl (ac (cm rfl rfl ?_ ?_))))))
  ·intro h9
   refine aa (ah rfl (ak (au ?_)))
   refine ab (rgn rfl (pu (iv (i:Int)) rfl (pu (iv (j:Int)) rfl (ac (cj rfl rfl (by omega) ?_)))))
   refine ac (s_toUM underlying3 underlying178 rfl (by omega) (by omega) ?_)
   refine ac (s_halfM rfl rfl ?_)
   refine ac (s_toIM underlying178 underlying3 rfl (by omega) (by omega) ?_)
   refine pu (iv (((i:Int)+(j:Int)) / 2)) rfl (aa (ab (dh hI [0] (by decide) rfl rfl rfl fun hsub=>alp 0 (.func (.func 144) #[] #[]) hsub rfl (by kernel_rfl) (fun _=>rfl) ?_)))
   refine alp 1 (slv (some b0) n c) hsub rfl (by kernel_rfl) (fun _=>rfl) ?_
   refine alp 2 (iv (q:Int)) hsub rfl (by kernel_rfl) (fun _=>rfl) ?_
   obtain ⟨s,B⟩:=bq (l:=l) (i:=q) (by omega)
   have R:=hr.atS bf (by decide) B
   refine ap 3 (.pointer (some ⟨b0,q * 6,none⟩)) hsub rfl (by kernel_rfl) (fun w hI=>be q underlying24 sizeOf30 rfl rfl rfl (by omega) br) ?_
   refine ap 4 (.agg (eLd s).toArray) hsub rfl (by kernel_rfl) (fun w hI=>cq hI 0 (eLd s) isAgg30 sizeOf30 rfl rfl rfl R br) ?_
   refine alp 5 (slv (some b0) n c) hsub rfl (by kernel_rfl) (fun _=>rfl) ?_
   refine alp 6 (iv (((i:Int)+(j:Int)) / 2)) hsub rfl (by kernel_rfl) (fun _=>rfl) ?_
   obtain ⟨r,C⟩:=bq (l:=l) (i:=(i+j) / 2) (by omega)
   have S:=hr.atS bf (by decide) C
   refine ap 7 (.pointer (some ⟨b0,((i+j) / 2) * 6,none⟩)) hsub rfl (by kernel_rfl) (fun w hI=>be ((i+j) / 2) underlying24 sizeOf30 rfl rfl (by omega) (by omega) br) ?_
   refine ap 8 (.agg (eLd r).toArray) hsub rfl (by kernel_rfl) (fun w hI=>cq hI 0 (eLd r) isAgg30 sizeOf30 rfl rfl rfl S br) ?_
   refine ap 9 (iv (cmpI s.hr r.hr)) hsub rfl (by kernel_rfl) (fun w hI=>im [.agg (eLd s).toArray,.agg (eLd r).toArray] rfl (by kernel_rfl) (cx.of (args':=[.agg (eLd s).toArray,.agg (eLd r).toArray]) rfl (sceneOf2_c w s r)) (fun v' w' h=>h)) ?_
   by_cases K:(cmpI s.hr r.hr) < 0
   ·refine ap 10 kg hsub rfl (by kernel_rfl) (fun w hI=>cm rfl rfl (fun _=>br) (fun h=>absurd K h)) ?_
    refine alp 11 kf hsub rfl (by kernel_rfl) (fun _=>rfl) ?_
    refine cp rfl (fun w hI=>?_)
    refine ai rfl (rgn rfl (pu (iv (((i:Int)+(j:Int)) / 2)) rfl (pu (iv (((i:Int)+(j:Int)) / 2)) rfl (aa ?_))))
    exact ⟨rfl,_,(by omega),⟨i,(i+j) / 2,⟨rfl,rfl,rfl,rfl,rfl,trivial⟩,hI.pk [0] rfl rfl,(by omega),f1,(fun p y h1 h2 h3=>Int.lt_of_lt_of_le (ju.1 (by first | assumption | (have e9:=Option.some.inj (B.symm.trans t); rw [← e9]; assumption))) (hL ((i+j) / 2) p r y (by omega) h1 h2 C h3)),rfl⟩⟩
   refine ap 10 kf hsub rfl (by kernel_rfl) (fun w hI=>cm rfl rfl (fun h=>absurd h K) (fun _=>br)) ?_
   refine alp 11 kg hsub rfl (by kernel_rfl) (fun _=>rfl) ?_
   refine cp rfl (fun w hI=>?_)
   refine ah rfl (rgn rfl (pu (iv (((i:Int)+(j:Int)) / 2)) rfl (ac (cj rfl rfl (by omega) ?_))))
   refine pu (iv ((((i:Int)+(j:Int)) / 2)+1)) rfl (aa ?_)
   exact ⟨rfl,_,(by omega),⟨(i+j) / 2+1,j,⟨rfl,rfl,rfl,rfl,rfl,trivial⟩,hI.pk [0] rfl rfl,(by omega),(fun p y h1 h2 h3=>Int.le_trans (hL p ((i+j) / 2) y r h1 (by omega) (by omega) h3 C) (Int.not_lt.1 fun hc=>absurd (ju.2 hc) (by first | assumption | (have e9:=Option.some.inj (B.symm.trans t); rw [← e9]; assumption)))),f2,rfl⟩⟩
  intro a3
  refine aa (ai rfl (bw ?_))
  refine ab (ab (rgn rfl (pu (iv (q:Int)) rfl (pu (iv (q:Int)) rfl (aa (au ?_))))))
  refine cb (fun m ρ w=>∃ (k:Nat) (kv:Int) (ccl:List Value),cd ρ [(0,slv (some b0) n c),(14,iv (i:Int)),(17,iv kv)]∧Inv [b0] w0 w [(some b0,blk ccl 30)]∧(kv=((k:Nat):Int))∧(i≤k∧k≤q)∧(Row 6 (some b0) n c ccl (al eLd (fj l k q (q+1))))∧m=k - i) (m:=q - i) ⟨q,(q:Int),cl,⟨rfl,rfl,rfl,trivial⟩,hI.pk [0] rfl rfl,rfl,(by omega),(by rw [rot_same (by omega) (by omega) (by omega) (.inl rfl)]; exact hr),rfl⟩ ?_
  rintro m ρ w ⟨k,kv,ccl,hag,hI,hkv,hk,hrr,hm⟩
  obtain ⟨ρ,rfl⟩:=hag.form; clear hag
  have hml:=rotL_len (l:=l) (a:=k) (m:=q) (b:=q+1) (by omega) (by omega) (by omega)
  refine ab (ab (rgn rfl (pu (iv kv) rfl (pu (iv (i:Int)) rfl (ac (fh rfl rfl ?_ ?_))))))
  ·intro a4
   refine aa (ah rfl (ak (ab (au ?_))))
   obtain ⟨f,D⟩:=bq (l:=(fj l k q (q+1))) (i:=k) (by omega)
   have L:=hrr.atS bf (by decide) D
   obtain ⟨o,E⟩:=bq (l:=(fj l k q (q+1))) (i:=k - 1) (by omega)
   have M:=hrr.atS bf (by decide) E
   replace hI:=hI.pk [0] rfl rfl
   refine dh hI [] (by decide) rfl rfl rfl fun hsub=>alp 0 (slv (some b0) n c) hsub rfl (by kernel_rfl) (fun _=>rfl) ?_
   refine alp 1 (iv kv) hsub rfl (by kernel_rfl) (fun _=>rfl) ?_
   refine alp 2 (slv (some b0) n c) hsub rfl (by kernel_rfl) (fun _=>rfl) ?_
   refine alp 3 (iv kv) hsub rfl (by kernel_rfl) (fun _=>rfl) ?_
   refine ap 4 (iv (kv - 1)) hsub rfl (by kernel_rfl) (fun w hI=>dm rfl rfl (by omega) br) ?_
   refine alp 5 (slv (some b0) n c) hsub rfl (by kernel_rfl) (fun _=>rfl) ?_
   refine alp 6 (iv kv) hsub rfl (by kernel_rfl) (fun _=>rfl) ?_
   refine ap 7 (iv (kv - 1)) hsub rfl (by kernel_rfl) (fun w hI=>dm rfl rfl (by omega) br) ?_
   refine ap 8 (.pointer (some ⟨b0,(k - 1) * 6,none⟩)) hsub rfl (by kernel_rfl) (fun w hI=>be (k - 1) underlying24 sizeOf30 rfl rfl (by omega) (by omega) br) ?_
   refine alp 10 (slv (some b0) n c) hsub rfl (by kernel_rfl) (fun _=>rfl) ?_
   refine alp 11 (iv kv) hsub rfl (by kernel_rfl) (fun _=>rfl) ?_
   refine ap 12 (.pointer (some ⟨b0,k * 6,none⟩)) hsub rfl (by kernel_rfl) (fun w hI=>be k underlying24 sizeOf30 rfl rfl (by omega) (by omega) br) ?_
   refine bc [9,13] (by kernel_rfl) rfl (each2 ?_ ?_)
   ·intro w hI
    refine dg rfl (cq hI 0 (eLd o) isAgg30 sizeOf30 rfl rfl rfl M ?_)
    refine ⟨_,hI,dc (fun _ h=>h.pk [] rfl rfl) ?_⟩
    intro hsub
    refine bc [13] (by kernel_rfl) rfl (cz fun w hI=>dg rfl (cq hI 0 (eLd f) isAgg30 sizeOf30 rfl rfl rfl L ?_))
    refine ⟨_,hI,dc (fun _ h=>h.pk [] rfl rfl) ?_⟩
    intro hsub
    refine ap 14 (.pointer (some ⟨b0,k * 6,none⟩)) hsub rfl (by kernel_rfl) (fun w hI=>be k underlying24 sizeOf30 rfl rfl (by omega) (by omega) br) ?_
    refine bc [15] (by kernel_rfl) rfl (cz fun w hI=>dg rfl (aq hI 0 6 (eLd o) sizeOf30 rfl rfl rfl rfl rfl (hrr.room (by omega)) fun w hI=>⟨_,hI,dc (fun _ h=>h.pk [] rfl rfl) ?_⟩))
    intro hsub
    have F:=hrr.put bf (by decide) k o (by omega)
    obtain ⟨a5,T⟩:=bq (l:=((fj l k q (q+1))).set k o) (i:=k - 1) (by first | omega | (simp only [List.length_set]; omega))
    have a6:=F.atS bf (by decide) T
    refine ap 16 (.pointer (some ⟨b0,(k - 1) * 6,none⟩)) hsub rfl (by kernel_rfl) (fun w hI=>be (k - 1) underlying24 sizeOf30 rfl rfl (by omega) (by omega) br) ?_
    refine bc [17] (by kernel_rfl) rfl (cz fun w hI=>dg rfl (aq hI 0 6 (eLd f) sizeOf30 rfl rfl rfl rfl rfl (F.room (by omega)) fun w hI=>⟨_,hI,dc (fun _ h=>h.pk [] rfl rfl) ?_⟩))
    intro hsub
    have U:=F.put bf (by decide) (k - 1) (⟨f.src,f.hr,f.lo,f.hi,f.kn,f.un⟩:Ld) (by omega)
    refine cp rfl (fun w hI=>?_)
    refine rgn rfl (pu (iv kv) rfl (ac (dm rfl rfl (by omega) ?_)))
    refine pu (iv (kv - 1)) rfl (aa ?_)
    exact ⟨rfl,_,(by omega),⟨k - 1,kv - 1,putCells (putCells ccl (k * 6) (eLd o)) ((k - 1) * 6) (eLd (⟨f.src,f.hr,f.lo,f.hi,f.kn,f.un⟩:Ld)),⟨rfl,rfl,rfl,trivial⟩,hI.pk [0] rfl rfl,(by omega),(by omega),(by rw [← move_left (by omega) (by omega) D E (by omega)]; exact U),rfl⟩⟩
   intro w hI
   refine dg rfl (cq hI 0 (eLd f) isAgg30 sizeOf30 rfl rfl rfl L ?_)
   refine ⟨_,hI,dc (fun _ h=>h.pk [] rfl rfl) ?_⟩
   intro hsub
   refine bc [9] (by kernel_rfl) rfl (cz fun w hI=>dg rfl (cq hI 0 (eLd o) isAgg30 sizeOf30 rfl rfl rfl M ?_))
   refine ⟨_,hI,dc (fun _ h=>h.pk [] rfl rfl) ?_⟩
   intro hsub
   refine ap 14 (.pointer (some ⟨b0,k * 6,none⟩)) hsub rfl (by kernel_rfl) (fun w hI=>be k underlying24 sizeOf30 rfl rfl (by omega) (by omega) br) ?_
   refine bc [15] (by kernel_rfl) rfl (cz fun w hI=>dg rfl (aq hI 0 6 (eLd o) sizeOf30 rfl rfl rfl rfl rfl (hrr.room (by omega)) fun w hI=>⟨_,hI,dc (fun _ h=>h.pk [] rfl rfl) ?_⟩))
   intro hsub
   have G:=hrr.put bf (by decide) k o (by omega)
   obtain ⟨a7,V⟩:=bq (l:=((fj l k q (q+1))).set k o) (i:=k - 1) (by first | omega | (simp only [List.length_set]; omega))
   have a8:=G.atS bf (by decide) V
   refine ap 16 (.pointer (some ⟨b0,(k - 1) * 6,none⟩)) hsub rfl (by kernel_rfl) (fun w hI=>be (k - 1) underlying24 sizeOf30 rfl rfl (by omega) (by omega) br) ?_
   refine bc [17] (by kernel_rfl) rfl (cz fun w hI=>dg rfl (aq hI 0 6 (eLd f) sizeOf30 rfl rfl rfl rfl rfl (G.room (by omega)) fun w hI=>⟨_,hI,dc (fun _ h=>h.pk [] rfl rfl) ?_⟩))
   intro hsub
   have W:=G.put bf (by decide) (k - 1) (⟨f.src,f.hr,f.lo,f.hi,f.kn,f.un⟩:Ld) (by omega)
   refine cp rfl (fun w hI=>?_)
   refine rgn rfl (pu (iv kv) rfl (ac (dm rfl rfl (by omega) ?_)))
   refine pu (iv (kv - 1)) rfl (aa ?_)
   exact ⟨rfl,_,(by omega),⟨k - 1,kv - 1,putCells (putCells ccl (k * 6) (eLd o)) ((k - 1) * 6) (eLd (⟨f.src,f.hr,f.lo,f.hi,f.kn,f.un⟩:Ld)),⟨rfl,rfl,rfl,trivial⟩,hI.pk [0] rfl rfl,(by omega),(by omega),(by rw [← move_left (by omega) (by omega) D E (by omega)]; exact W),rfl⟩⟩
  intro a9
  refine aa (ai rfl (bw ?_))
  refine aj ?_
  exact ⟨.tuple #[],Ret.r0 rfl , ⟨ccl,rfl,hI.pk [0] rfl rfl,(by have e:b=q+1:=(by omega); subst e; have ej:j=i:=(by omega); subst ej; have e2:k=j:=(by omega); subst e2; rw [← one_right t (by omega) (by omega) hL f1 f2]; exact hrr)⟩⟩
 intro X
 exact absurd X (by omega)

end Go.K
