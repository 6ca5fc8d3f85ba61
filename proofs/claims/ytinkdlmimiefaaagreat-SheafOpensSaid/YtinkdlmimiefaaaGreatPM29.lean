import Derived.Test.YtinkdlmimiefaaaGreatProg
import Derived.Test.YtinkdlmimiefaaaGreatPM28
import Derived.Test.YtinkdlmimiefaaaGreatPKK1
namespace Go.K
open Go.Proofs.Tryz
open Go.Proofs Go.RowKit
set_option linter.unusedVariables false
set_option linter.unusedSimpArgs false
set_option maxRecDepth 100000
attribute [local irreducible] Seq cw cx fl opX

theorem Mid.lo {l:List Ld} {a s m e b mid:Nat} (h:Mid l a s m e b mid) (c:s≤a∨mid≤s):en (fj l s m e) a mid=fj l s m e:=by
 have ⟨h1,h2,h3,h4,h5,h6,_,_,_,_⟩:=h
 have hl:=rotL_len (l:=l) h2 h3 (by omega)
 rcases c with c | c
 · exact segSrt_id (by omega) (by omega) (h.all.2.2.1.sub (by omega) (by omega))
 exact segSrt_id (by omega) (by omega) (h.all.2.1.sub (by omega) (by omega))
theorem Mid.hi {l:List Ld} {a s m e b mid:Nat} (h:Mid l a s m e b mid) (c:e≤mid∨b≤e):en (en (fj l s m e) a mid) mid b=en (fj l s m e) a mid:=by
 have ⟨h1,h2,h3,h4,h5,h6,_,_,_,_⟩:=h
 have hl:=rotL_len (l:=l) h2 h3 (by omega)
 have hk:=segF_len (l:=fj l s m e) (a:=a) (b:=mid) (by omega) (by omega)
 rcases c with c | c
 · exact segSrt_id (by omega) (by omega) (h.all.2.2.2.2.sub (by omega) (by omega))
 exact segSrt_id (by omega) (by omega) (h.all.2.2.2.1.sub (by omega) (by omega))

set_option maxHeartbeats 6400000 in
theorem symStep_c (w0:World) (b0 n c:Nat) (cl:List Value) (l:List Ld) (a q b:Nat) (hg:∀ b,some b0=some b→w0.heap[b]?=some (blk cl 30)) (hr:Row 6 (some b0) n c cl (al eLd l)) (hmax:n≤1000000000) (ha:a+1 < q) (hb:q+1 < b) (hbn:b≤n) (hL:dp l a q) (hR:dp l q b) (IH:∀ (w1:World) (cl1:List Value) (l1:List Ld) (a1 q1 b1:Nat),(∀ b,some b0=some b→w1.heap[b]?=some (blk cl1 30))→Row 6 (some b0) n c cl1 (al eLd l1)→a1 < q1→q1 < b1→b1≤n→b1 - a1 < b - a→dp l1 a1 q1→dp l1 q1 b1→bn Tryz.prog 184 [slv (some b0) n c,.int .i64 (a1:Int),.int .i64 (q1:Int),.int .i64 (b1:Int),.func (.func 144) #[] #[]] w1 fun v w=>ex 6 30 (some b0) c n (al eLd (en l1 a1 b1)) w1 v w):bn Tryz.prog 184 [slv (some b0) n c,.int .i64 (a:Int),.int .i64 (q:Int),.int .i64 (b:Int),.func (.func 144) #[] #[]] w0 fun v w=>ex 6 30 (some b0) c n (al eLd (en l a b)) w0 v w:=by
 have hnl:=hr.n_eq bf (by decide)
 refine az (n:=220) func184 rfl ntmps184 rfl ?_
 have hI:=Inv.lent w0 (some b0) (blk cl 30) hg
 refine ab (ab (rgn (by kernel_rfl) (pu (iv (q:Int)) (by kernel_rfl) (pu (iv (a:Int)) (by kernel_rfl) (ac (dm rfl rfl (by omega) ?_))))))
 refine ac (di rfl rfl ?_ ?_)
 ·intro h1
  exact absurd h1 (by omega)
 intro h2
 refine aa (ai rfl (ak (ab (ab (rgn (by kernel_rfl) (pu (iv (b:Int)) (by kernel_rfl) (pu (iv (q:Int)) (by kernel_rfl) (ac (dm rfl rfl (by omega) ?_)))))))))
 refine ac (di rfl rfl ?_ ?_)
 ·intro h3
  exact absurd h3 (by omega)
 intro h4
 refine aa (ai rfl (ak (ab (rgn (by kernel_rfl) (pu (iv (a:Int)) (by kernel_rfl) (pu (iv (b:Int)) (by kernel_rfl) (ac (cj rfl rfl (by omega) ?_))))))))
 refine ac (s_toUM underlying3 underlying178 rfl (by omega) (by omega) ?_)
 refine ac (s_halfM rfl rfl ?_)
 refine ac (s_toIM underlying178 underlying3 rfl (by omega) (by omega) ?_)
 refine pu (iv (((a:Int)+(b:Int)) / 2)) (by kernel_rfl) (aa (ab (rgn (by kernel_rfl) (pu (iv (((a:Int)+(b:Int)) / 2)) (by kernel_rfl) (pu (iv (q:Int)) (by kernel_rfl) (ac (cj rfl rfl (by omega) ?_)))))))
 refine pu (iv ((((a:Int)+(b:Int)) / 2)+(q:Int))) (by kernel_rfl) (aa (ab (rgn (by kernel_rfl) (pu (iv 0) (by kernel_rfl) (pu (iv 0) (by kernel_rfl) (aa (wp_cut (fun ρ w=>∃ (s0:Nat) (r0:Nat) (su:Int) (ru:Int),cd ρ [(0,slv (some b0) n c),(1,iv (a:Int)),(2,iv (q:Int)),(3,iv (b:Int)),(4,.func (.func 144) #[] #[]),(18,iv (((a:Int)+(b:Int)) / 2)),(19,iv ((((a:Int)+(b:Int)) / 2)+(q:Int))),(20,iv su),(21,iv ru)]∧Inv [b0] w0 w [(some b0,blk cl 30)]∧(su=((s0:Nat):Int))∧(ru=((r0:Nat):Int))∧((a+b) / 2 < q∧s0=(a+b) / 2+q - b∧r0=(a+b) / 2∨q≤(a+b) / 2∧s0=a∧r0=q)) ?_ ?_)))))))
 ·
  refine ab (rgn (by kernel_rfl) (pu (iv (q:Int)) (by kernel_rfl) (pu (iv (((a:Int)+(b:Int)) / 2)) (by kernel_rfl) (ac (fh rfl rfl ?_ ?_)))))
  ·intro h5
   refine aa (ah rfl (ab (rgn (by kernel_rfl) (pu (iv ((((a:Int)+(b:Int)) / 2)+(q:Int))) (by kernel_rfl) (pu (iv (b:Int)) (by kernel_rfl) (ac (dm rfl rfl (by omega) ?_)))))))
   refine pu (iv (((((a:Int)+(b:Int)) / 2)+(q:Int)) - (b:Int))) (by kernel_rfl) (aa (rgn (by kernel_rfl) (pu (iv (((a:Int)+(b:Int)) / 2)) (by kernel_rfl) (pu (iv (((a:Int)+(b:Int)) / 2)) (by kernel_rfl) (aa ?_)))))
   exact ⟨rfl,((a+b) / 2+q - b),((a+b) / 2),((((a:Int)+(b:Int)) / 2)+(q:Int)) - (b:Int),((a:Int)+(b:Int)) / 2,⟨rfl,rfl,rfl,rfl,rfl,rfl,rfl,rfl,rfl,trivial⟩,hI.pk [0] rfl rfl,(by omega),(by omega),(by omega)⟩
  intro h6
  refine aa (ai rfl (ab (rgn (by kernel_rfl) (pu (iv (a:Int)) (by kernel_rfl) (pu (iv (a:Int)) (by kernel_rfl) (aa (rgn (by kernel_rfl) (pu (iv (q:Int)) (by kernel_rfl) (pu (iv (q:Int)) (by kernel_rfl) ?_)))))))))
  refine aa ?_
  exact ⟨rfl,a,q,(a:Int),(q:Int),⟨rfl,rfl,rfl,rfl,rfl,rfl,rfl,rfl,rfl,trivial⟩,hI.pk [0] rfl rfl,(by omega),(by omega),(by omega)⟩
 rintro ρ w ⟨s0,r0,su,ru,hag,hI,hsu,hru,hcs⟩
 obtain ⟨ρ,rfl⟩:=hag.form; clear hag
 refine ab (rgn (by kernel_rfl) (pu (iv ((((a:Int)+(b:Int)) / 2)+(q:Int))) (by kernel_rfl) (ac (dm rfl rfl (by omega) ?_))))
 refine pu (iv (((((a:Int)+(b:Int)) / 2)+(q:Int)) - 1)) (by kernel_rfl) (aa (ab (au ?_)))
 refine cb (fun m ρ w=>∃ (s:Nat) (r:Nat) (sv:Int) (rv:Int),cd ρ [(0,slv (some b0) n c),(1,iv (a:Int)),(2,iv (q:Int)),(3,iv (b:Int)),(4,.func (.func 144) #[] #[]),(18,iv (((a:Int)+(b:Int)) / 2)),(19,iv ((((a:Int)+(b:Int)) / 2)+(q:Int))),(20,iv sv),(21,iv rv),(22,iv (((((a:Int)+(b:Int)) / 2)+(q:Int)) - 1))]∧Inv [b0] w0 w [(some b0,blk cl 30)]∧(sv=((s:Nat):Int))∧(rv=((r:Nat):Int))∧(s0≤s∧s≤r∧r≤r0)∧(∀ x y,s0 < s→l[s - 1]?=some x→l[(a+b) / 2+q - s]?=some y→x.hr≤y.hr)∧(∀ x y,r < r0→l[r]?=some x→l[(a+b) / 2+q - 1 - r]?=some y→y.hr < x.hr)∧m=r - s) (m:=r0 - s0) ⟨s0,r0,su,ru,⟨rfl,rfl,rfl,rfl,rfl,rfl,rfl,rfl,rfl,rfl,trivial⟩,hI.pk [0] rfl rfl,(by omega),(by omega),(by omega),(fun x y h=>absurd h (by omega)),(fun x y h=>absurd h (by omega)),rfl⟩ ?_
 rintro m ρ w ⟨s,r,sv,rv,hag,hI,hsv,hrv,hsr,f1,f2,hm⟩
 obtain ⟨ρ,rfl⟩:=hag.form; clear hag
 refine ab (ab (rgn (by kernel_rfl) (pu (iv sv) (by kernel_rfl) (pu (iv rv) (by kernel_rfl) (ac (cm rfl rfl ?_ ?_))))))
 ·intro h7
  refine aa (ah rfl (ak (au ?_)))
  refine ab (rgn (by kernel_rfl) (pu (iv sv) (by kernel_rfl) (pu (iv rv) (by kernel_rfl) (ac (cj rfl rfl (by omega) ?_)))))
  refine ac (s_toUM underlying3 underlying178 rfl (by omega) (by omega) ?_)
  refine ac (s_halfM rfl rfl ?_)
  refine ac (s_toIM underlying178 underlying3 rfl (by omega) (by omega) ?_)
  refine pu (iv ((sv+rv) / 2)) (by kernel_rfl) (aa (ab (dh hI [0] (by decide) rfl (by kernel_rfl) (by kernel_rfl) fun hsub=>alp 0 (.func (.func 144) #[] #[]) hsub rfl (by kernel_rfl) (fun _=>(by kernel_rfl)) ?_)))
  refine alp 1 (slv (some b0) n c) hsub rfl (by kernel_rfl) (fun _=>(by kernel_rfl)) ?_
  refine alp 2 (iv (((((a:Int)+(b:Int)) / 2)+(q:Int)) - 1)) hsub rfl (by kernel_rfl) (fun _=>(by kernel_rfl)) ?_
  refine alp 3 (iv ((sv+rv) / 2)) hsub rfl (by kernel_rfl) (fun _=>(by kernel_rfl)) ?_
  refine ap 4 (iv ((((((a:Int)+(b:Int)) / 2)+(q:Int)) - 1) - ((sv+rv) / 2))) hsub rfl (by kernel_rfl) (fun w hI=>dm rfl rfl (by omega) br) ?_
  obtain ⟨x1,hx2⟩:=bq (l:=l) (i:=((((a+b) / 2)+q) - 1) - ((s+r) / 2)) (by omega)
  have he3:=hr.atS bf (by decide) hx2
  refine ap 5 (.pointer (some ⟨b0,(((((a+b) / 2)+q) - 1) - ((s+r) / 2)) * 6,none⟩)) hsub rfl (by kernel_rfl) (fun w hI=>be (((((a+b) / 2)+q) - 1) - ((s+r) / 2)) underlying24 sizeOf30 rfl rfl (by omega) (by omega) br) ?_
  refine ap 6 (.agg (eLd x1).toArray) hsub rfl (by kernel_rfl) (fun w hI=>cq hI 0 (eLd x1) isAgg30 sizeOf30 rfl rfl rfl he3 br) ?_
  refine alp 7 (slv (some b0) n c) hsub rfl (by kernel_rfl) (fun _=>(by kernel_rfl)) ?_
  refine alp 8 (iv ((sv+rv) / 2)) hsub rfl (by kernel_rfl) (fun _=>(by kernel_rfl)) ?_
  obtain ⟨x4,hx5⟩:=bq (l:=l) (i:=(s+r) / 2) (by omega)
  have he6:=hr.atS bf (by decide) hx5
  refine ap 9 (.pointer (some ⟨b0,((s+r) / 2) * 6,none⟩)) hsub rfl (by kernel_rfl) (fun w hI=>be ((s+r) / 2) underlying24 sizeOf30 rfl rfl (by omega) (by omega) br) ?_
  refine ap 10 (.agg (eLd x4).toArray) hsub rfl (by kernel_rfl) (fun w hI=>cq hI 0 (eLd x4) isAgg30 sizeOf30 rfl rfl rfl he6 br) ?_
  refine ap 11 (iv (cmpI x1.hr x4.hr)) hsub rfl (by kernel_rfl) (fun w hI=>im [.agg (eLd x1).toArray,.agg (eLd x4).toArray] rfl (by kernel_rfl) (cx.of (args':=[.agg (eLd x1).toArray,.agg (eLd x4).toArray]) (by kernel_rfl) (sceneOf2_c w x1 x4)) (fun v' w' h=>h)) ?_
  by_cases h8:(cmpI x1.hr x4.hr) < 0
  ·refine ap 12 kg hsub rfl (by kernel_rfl) (fun w hI=>cm rfl rfl (fun _=>br) (fun h=>absurd h8 h)) ?_
   refine alp 13 kf hsub rfl (by kernel_rfl) (fun _=>(by kernel_rfl)) ?_
   refine cp (by kernel_rfl) (fun w hI=>?_)
   refine ai rfl (rgn (by kernel_rfl) (pu (iv ((sv+rv) / 2)) (by kernel_rfl) (pu (iv ((sv+rv) / 2)) (by kernel_rfl) (aa ?_))))
   exact ⟨rfl,_,(by omega),⟨s,(s+r) / 2,sv,(sv+rv) / 2,⟨rfl,rfl,rfl,rfl,rfl,rfl,rfl,rfl,rfl,rfl,trivial⟩,hI.pk [0] rfl rfl,(by omega),(by omega),(by omega),f1,(fun x y _ h1 h2=>by have e1:=Option.some.inj (hx5.symm.trans h1); have e2:=Option.some.inj (hx2.symm.trans h2); subst e1; subst e2; exact ju.1 (by assumption)),rfl⟩⟩
  refine ap 12 kf hsub rfl (by kernel_rfl) (fun w hI=>cm rfl rfl (fun h=>absurd h h8) (fun _=>br)) ?_
  refine alp 13 kg hsub rfl (by kernel_rfl) (fun _=>(by kernel_rfl)) ?_
  refine cp (by kernel_rfl) (fun w hI=>?_)
  refine ah rfl (rgn (by kernel_rfl) (pu (iv ((sv+rv) / 2)) (by kernel_rfl) (ac (cj rfl rfl (by omega) ?_))))
  refine pu (iv (((sv+rv) / 2)+1)) (by kernel_rfl) (aa ?_)
  exact ⟨rfl,_,(by omega),⟨(s+r) / 2+1,r,((sv+rv) / 2)+1,rv,⟨rfl,rfl,rfl,rfl,rfl,rfl,rfl,rfl,rfl,rfl,trivial⟩,hI.pk [0] rfl rfl,(by omega),(by omega),(by omega),(fun x y _ h1 h2=>by rw [Nat.add_sub_cancel] at h1; rw [show (a+b) / 2+q - ((s+r) / 2+1)=(a+b) / 2+q - 1 - (s+r) / 2 by omega] at h2; have e1:=Option.some.inj (hx5.symm.trans h1); have e2:=Option.some.inj (hx2.symm.trans h2); subst e1; subst e2; exact Int.not_lt.1 fun hc=>absurd (ju.2 hc) (by assumption)),f2,rfl⟩⟩
 intro h9
 refine aa (ai rfl ?_)
 have hM:Mid l a s q ((a+b) / 2+q - s) b ((a+b) / 2):=⟨by omega,by omega,by omega,by omega,by omega,by omega,hL,hR,fun x y _ _ hx hy=>f1 x y (by omega) hx hy,fun x y _ _ hy hx=>f2 x y (by omega) (by rw [show r=s by omega]; exact hx) (by rw [show (a+b) / 2+q - 1 - r=(a+b) / 2+q - s - 1 by omega]; exact hy)⟩
 refine bw ?_
 refine ab (rgn (by kernel_rfl) (pu (iv ((((a:Int)+(b:Int)) / 2)+(q:Int))) (by kernel_rfl) (pu (iv sv) (by kernel_rfl) (ac (dm rfl rfl (by omega) ?_)))))
 refine pu (iv (((((a:Int)+(b:Int)) / 2)+(q:Int)) - sv)) (by kernel_rfl) (aa (wp_cut (fun ρ w=>∃ (cl1:List Value),cd ρ [(0,slv (some b0) n c),(1,iv (a:Int)),(3,iv (b:Int)),(4,.func (.func 144) #[] #[]),(18,iv (((a:Int)+(b:Int)) / 2)),(20,iv sv),(24,iv (((((a:Int)+(b:Int)) / 2)+(q:Int)) - sv))]∧Inv [b0] w0 w [(some b0,blk cl1 30)]∧(Row 6 (some b0) n c cl1 (al eLd (fj l s q ((a+b) / 2+q - s))))) ?_ ?_))
 ·
  refine ab (rgn (by kernel_rfl) (pu (iv sv) (by kernel_rfl) (pu (iv (q:Int)) (by kernel_rfl) (ac (cm rfl rfl ?_ ?_)))))
  ·intro g
   refine pu kg (by kernel_rfl) (puo (iv (q:Int)) ⟨(by kernel_rfl),(by kernel_rfl)⟩ (puo (iv (((((a:Int)+(b:Int)) / 2)+(q:Int)) - sv)) ⟨(by kernel_rfl),(by kernel_rfl)⟩ (aw (by kernel_rfl) (cm rfl rfl ?_ ?_))))
   ·intro j
    refine pu kg (by kernel_rfl) (aa (ah rfl (rgn (by kernel_rfl) (pu (slv (some b0) n c) (by kernel_rfl) (pu (iv sv) (by kernel_rfl) (pu (iv (q:Int)) (by kernel_rfl) (pu (iv (((((a:Int)+(b:Int)) / 2)+(q:Int)) - sv)) (by kernel_rfl) (pu (.func (.func 144) #[] #[]) (by kernel_rfl) (ac (ee hI 186 [slv (some b0) n c,iv sv,iv (q:Int),iv (((((a:Int)+(b:Int)) / 2)+(q:Int)) - sv),.func (.func 144) #[] #[]] 0 rfl (by kernel_rfl) (by rw [show ((((a:Int)+(b:Int)) / 2)+(q:Int)) - sv=(((((a+b) / 2)+q) - s:Nat):Int) by omega,show sv=((s:Nat):Int) by omega]; exact rotate_c _ b0 n c cl l s q ((((a+b) / 2)+q) - s) (hI.hasg 0 rfl) hr (by omega) (by omega) (by omega) (by omega) (.func (.func 144) #[] #[])) ?_))))))))))
    intro cl7 w hI r8
    have r8:Row 6 (some b0) (n) c cl7 (al eLd (fj l s q ((((a+b) / 2)+q) - s))):=r8
    refine aa ?_
    exact ⟨rfl,cl7,⟨rfl,rfl,rfl,rfl,rfl,rfl,rfl,trivial⟩,hI.pk [0] rfl rfl,(r8)⟩
   intro k
   refine pu kf (by kernel_rfl) (aa (ai rfl (ak ?_)))
   exact ⟨rfl,cl,⟨rfl,rfl,rfl,rfl,rfl,rfl,rfl,trivial⟩,hI.pk [0] rfl rfl,(hr.to (rot_same (by omega) (by omega) (by omega) (by omega)).symm rfl)⟩
  intro o
  refine pu kf (by kernel_rfl) (sf 3 (by kernel_rfl) (pu kf (by kernel_rfl) (aa (ai rfl (ak ?_)))))
  exact ⟨rfl,cl,⟨rfl,rfl,rfl,rfl,rfl,rfl,rfl,trivial⟩,hI.pk [0] rfl rfl,(hr.to (rot_same (by omega) (by omega) (by omega) (by omega)).symm rfl)⟩
 rintro ρ w ⟨cl1,hag,hI,hr1⟩
 obtain ⟨ρ,rfl⟩:=hag.form; clear hag
 refine wp_cut (fun ρ w=>∃ (cl2:List Value),cd ρ [(0,slv (some b0) n c),(3,iv (b:Int)),(4,.func (.func 144) #[] #[]),(18,iv (((a:Int)+(b:Int)) / 2)),(24,iv (((((a:Int)+(b:Int)) / 2)+(q:Int)) - sv))]∧Inv [b0] w0 w [(some b0,blk cl2 30)]∧(Row 6 (some b0) n c cl2 (al eLd (en (fj l s q ((a+b) / 2+q - s)) a ((a+b) / 2))))) ?_ ?_
 ·
  refine ab (rgn (by kernel_rfl) (pu (iv (a:Int)) (by kernel_rfl) (pu (iv sv) (by kernel_rfl) (ac (cm rfl rfl ?_ ?_)))))
  ·intro p
   refine pu kg (by kernel_rfl) (puo (iv sv) ⟨(by kernel_rfl),(by kernel_rfl)⟩ (puo (iv (((a:Int)+(b:Int)) / 2)) ⟨(by kernel_rfl),(by kernel_rfl)⟩ (aw (by kernel_rfl) (cm rfl rfl ?_ ?_))))
   ·intro t
    refine pu kg (by kernel_rfl) (aa (ah rfl (rgn (by kernel_rfl) (pu (slv (some b0) n c) (by kernel_rfl) (pu (iv (a:Int)) (by kernel_rfl) (pu (iv sv) (by kernel_rfl) (pu (iv (((a:Int)+(b:Int)) / 2)) (by kernel_rfl) (pu (.func (.func 144) #[] #[]) (by kernel_rfl) (ac (ee hI 184 [slv (some b0) n c,iv (a:Int),iv sv,iv (((a:Int)+(b:Int)) / 2),.func (.func 144) #[] #[]] 0 rfl (by kernel_rfl) (by rw [show ((a:Int)+(b:Int)) / 2=(((a+b) / 2:Nat):Int) by omega,show sv=((s:Nat):Int) by omega]; exact IH _ cl1 (fj l s q ((a+b) / 2+q - s)) a s ((a+b) / 2) (hI.hasg 0 rfl) hr1 (by omega) (by omega) (by omega) (by omega) hM.all.2.1 hM.all.2.2.1) ?_))))))))))
    intro cl9 w hI d
    have d:Row 6 (some b0) (n) c cl9 (al eLd (en (fj l s q ((a+b) / 2+q - s)) a ((a+b) / 2))):=d
    refine aa ?_
    exact ⟨rfl,cl9,⟨rfl,rfl,rfl,rfl,rfl,trivial⟩,hI.pk [0] rfl rfl,(d)⟩
   intro u
   refine pu kf (by kernel_rfl) (aa (ai rfl (ak ?_)))
   exact ⟨rfl,cl1,⟨rfl,rfl,rfl,rfl,rfl,trivial⟩,hI.pk [0] rfl rfl,(hr1.to (hM.lo (by omega)).symm rfl)⟩
  intro z
  refine pu kf (by kernel_rfl) (sf 3 (by kernel_rfl) (pu kf (by kernel_rfl) (aa (ai rfl (ak ?_)))))
  exact ⟨rfl,cl1,⟨rfl,rfl,rfl,rfl,rfl,trivial⟩,hI.pk [0] rfl rfl,(hr1.to (hM.lo (by omega)).symm rfl)⟩
 rintro ρ w ⟨cl2,hag,hI,hr2⟩
 obtain ⟨ρ,rfl⟩:=hag.form; clear hag
 refine ab (rgn (by kernel_rfl) (pu (iv (((a:Int)+(b:Int)) / 2)) (by kernel_rfl) (pu (iv (((((a:Int)+(b:Int)) / 2)+(q:Int)) - sv)) (by kernel_rfl) (ac (cm rfl rfl ?_ ?_)))))
 ·intro A
  refine pu kg (by kernel_rfl) (puo (iv (((((a:Int)+(b:Int)) / 2)+(q:Int)) - sv)) ⟨(by kernel_rfl),(by kernel_rfl)⟩ (puo (iv (b:Int)) ⟨(by kernel_rfl),(by kernel_rfl)⟩ (aw (by kernel_rfl) (cm rfl rfl ?_ ?_))))
  ·intro B
   refine pu kg (by kernel_rfl) (aa (ah rfl (rgn (by kernel_rfl) (pu (slv (some b0) n c) (by kernel_rfl) (pu (iv (((a:Int)+(b:Int)) / 2)) (by kernel_rfl) (pu (iv (((((a:Int)+(b:Int)) / 2)+(q:Int)) - sv)) (by kernel_rfl) (pu (iv (b:Int)) (by kernel_rfl) (pu (.func (.func 144) #[] #[]) (by kernel_rfl) (ac (ee hI 184 [slv (some b0) n c,iv (((a:Int)+(b:Int)) / 2),iv (((((a:Int)+(b:Int)) / 2)+(q:Int)) - sv),iv (b:Int),.func (.func 144) #[] #[]] 0 rfl (by kernel_rfl) (by rw [show ((((a:Int)+(b:Int)) / 2)+(q:Int)) - sv=(((((a+b) / 2)+q) - s:Nat):Int) by omega,show ((a:Int)+(b:Int)) / 2=(((a+b) / 2:Nat):Int) by omega]; exact IH _ cl2 (en (fj l s q ((a+b) / 2+q - s)) a ((a+b) / 2)) ((a+b) / 2) ((((a+b) / 2)+q) - s) b (hI.hasg 0 rfl) hr2 (by omega) (by omega) (by omega) (by omega) hM.all.2.2.2.1 hM.all.2.2.2.2) ?_))))))))))
   intro f w hI e
   have e:Row 6 (some b0) (n) c f (al eLd (en (en (fj l s q ((a+b) / 2+q - s)) a ((a+b) / 2)) ((a+b) / 2) b)):=e
   refine aa ?_
   exact ⟨.tuple #[],Ret.r0 rfl , ⟨f,rfl,hI.pk [0] rfl rfl,e.to hM.all.1 rfl⟩⟩
  intro C
  refine pu kf (by kernel_rfl) (aa (ai rfl (ak ?_)))
  exact ⟨.tuple #[],Ret.r0 rfl , ⟨cl2,rfl,hI.pk [0] rfl rfl,hr2.to ((hM.hi (by omega)).symm.trans hM.all.1) rfl⟩⟩
 intro D
 refine pu kf (by kernel_rfl) (sf 3 (by kernel_rfl) (pu kf (by kernel_rfl) (aa (ai rfl (ak ?_)))))
 exact ⟨.tuple #[],Ret.r0 rfl , ⟨cl2,rfl,hI.pk [0] rfl rfl,hr2.to ((hM.hi (by omega)).symm.trans hM.all.1) rfl⟩⟩

end Go.K
