/- The merge of two stretches of loads, whole. -/
import Derived.Test.YtinkdlmimiefaaaGreatProg
import Derived.Test.YtinkdlmimiefaaaGreatPM28
namespace Go.K
open Go.Proofs Go.RowKit
set_option linter.unusedVariables false
set_option linter.unusedSimpArgs false
set_option maxRecDepth 100000
attribute [local irreducible] Seq Step CallV AnyE opX

theorem Mid.lo {l:List Ld} {a s m e b mid:Nat} {R} (h:Mid l a s m e b mid) (r:rotL l s m e=R) (c:s≤a∨mid≤s):segF R a mid=R:=by
 subst r
 have ⟨h1,h2,h3,h4,h5,h6,_,_,_,_⟩:=h
 have hl:=rotL_len (l:=l) h2 h3 (by omega)
 rcases c with c | c
 · exact segSrt_id (by omega) (by omega) (h.all.2.2.1.sub (by omega) (by omega))
 · exact segSrt_id (by omega) (by omega) (h.all.2.1.sub (by omega) (by omega))
theorem Mid.hi {l:List Ld} {a s m e b mid:Nat} {R} (h:Mid l a s m e b mid) (r:rotL l s m e=R) (c:e≤mid∨b≤e):segF (segF R a mid) mid b=segF R a mid:=by
 subst r
 have ⟨h1,h2,h3,h4,h5,h6,_,_,_,_⟩:=h
 have hl:=rotL_len (l:=l) h2 h3 (by omega)
 have hk:=segF_len (l:=rotL l s m e) (a:=a) (b:=mid) (by omega) (by omega)
 rcases c with c | c
 · exact segSrt_id (by omega) (by omega) (h.all.2.2.2.2.sub (by omega) (by omega))
 · exact segSrt_id (by omega) (by omega) (h.all.2.2.2.1.sub (by omega) (by omega))
theorem Mid.hi2 {l:List Ld} {a s m e b mid:Nat} {R} (h:Mid l a s m e b mid) (r:rotL l s m e=R) (c:s≤a∨mid≤s) (d:e≤mid∨b≤e):segF R mid b=R:=by
 have q:=h.hi r d
 rwa [h.lo r c] at q
set_option maxHeartbeats 6400000 in
theorem symStep_c (w0:World) (b0 n c:Nat) (cl:List Value) (l:List Ld) (a q b:Nat) (hg:∀ b,some b0=some b→w0.heap[b]?=some (blk cl 30)) (hr:Row 6 (some b0) n c cl (flat eLd l)) (hmax:n≤1000000000) (ha:a+1 < q) (hb:q+1 < b) (hbn:b≤n) (hL:SegSrt l a q) (hR:SegSrt l q b) (IH:∀ (w1:World) (cl1:List Value) (l1:List Ld) (a1 q1 b1:Nat),(∀ b,some b0=some b→w1.heap[b]?=some (blk cl1 30))→Row 6 (some b0) n c cl1 (flat eLd l1)→a1 < q1→q1 < b1→b1≤n→b1 - a1 < b - a→SegSrt l1 a1 q1→SegSrt l1 q1 b1→Does Tryz.prog 184 [slv (some b0) n c,.int .i64 (a1:Int),.int .i64 (q1:Int),.int .i64 (b1:Int),.func (.func 144) #[] #[]] w1 fun v w=>TurnsIn 6 30 (some b0) c n (flat eLd (segF l1 a1 b1)) w1 v w):Does Tryz.prog 184 [slv (some b0) n c,.int .i64 (a:Int),.int .i64 (q:Int),.int .i64 (b:Int),.func (.func 144) #[] #[]] w0 fun v w=>TurnsIn 6 30 (some b0) c n (flat eLd (segF l a b)) w0 v w:=by
 have hnl:=hr.n_eq eLd_len (by decide)
 refine calls_of (n:=220) Tryz.func184 rfl Tryz.ntmps184 rfl ?_
 have hI:=Inv.lent w0 (some b0) (blk cl 30) hg
 refine wp_seq (wp_seq (rgn rfl (pu (iv (q:Int)) rfl (pu (iv (a:Int)) rfl (seq_c (s_sub rfl rfl (by omega) ?_))))))
 refine seq_c (s_eql rfl rfl ?_ ?_)
 ·intro h1
  exact absurd h1 (by omega)
 ·intro h2
  refine seq_nil (wp_condF rfl (wp_skip (wp_seq (wp_seq (rgn rfl (pu (iv (b:Int)) rfl (pu (iv (q:Int)) rfl (seq_c (s_sub rfl rfl (by omega) ?_)))))))))
  refine seq_c (s_eql rfl rfl ?_ ?_)
  ·intro h3
   exact absurd h3 (by omega)
  ·intro h4
   refine seq_nil (wp_condF rfl (wp_skip (wp_seq (rgn rfl (pu (iv (a:Int)) rfl (pu (iv (b:Int)) rfl (seq_c (s_add rfl rfl (by omega) ?_))))))))
   refine seq_c (s_toUM Tryz.underlying3 Tryz.underlying178 rfl (by omega) (by omega) ?_)
   refine seq_c (s_halfM rfl rfl ?_)
   refine seq_c (s_toIM Tryz.underlying178 Tryz.underlying3 rfl (by omega) (by omega) ?_)
   refine pu (iv (((a:Int)+(b:Int)) / 2)) rfl (seq_nil (wp_seq (rgn rfl (pu (iv (((a:Int)+(b:Int)) / 2)) rfl (pu (iv (q:Int)) rfl (seq_c (s_add rfl rfl (by omega) ?_)))))))
   refine pu (iv ((((a:Int)+(b:Int)) / 2)+(q:Int))) rfl (seq_nil (wp_seq (rgn rfl (pu (iv 0) rfl (pu (iv 0) rfl (seq_nil (wp_seq (wp_seq (rgn rfl ?_)))))))))
   refine pu (iv (q:Int)) rfl (pu (iv (((a:Int)+(b:Int)) / 2)) rfl (seq_c (s_gtr rfl rfl ?_ ?_)))
   ·intro h5
    refine seq_nil (wp_condT rfl (wp_seq (rgn rfl (pu (iv ((((a:Int)+(b:Int)) / 2)+(q:Int))) rfl (pu (iv (b:Int)) rfl (seq_c (s_sub rfl rfl (by omega) ?_)))))))
    refine pu (iv (((((a:Int)+(b:Int)) / 2)+(q:Int)) - (b:Int))) rfl (seq_nil (rgn rfl (pu (iv (((a:Int)+(b:Int)) / 2)) rfl (pu (iv (((a:Int)+(b:Int)) / 2)) rfl (seq_nil (wp_seq (rgn rfl (pu (iv ((((a:Int)+(b:Int)) / 2)+(q:Int))) rfl (seq_c (s_sub rfl rfl (by omega) ?_))))))))))
    refine pu (iv (((((a:Int)+(b:Int)) / 2)+(q:Int)) - 1)) rfl (seq_nil (wp_seq (wp_block ?_)))
    refine wp_loop (fun m ρ w=>∃ (s:Nat) (r:Nat) (sv:Int) (rv:Int),Agree ρ [(0,slv (some b0) n c),(1,iv (a:Int)),(2,iv (q:Int)),(3,iv (b:Int)),(4,.func (.func 144) #[] #[]),(18,iv (((a:Int)+(b:Int)) / 2)),(19,iv ((((a:Int)+(b:Int)) / 2)+(q:Int))),(20,iv sv),(21,iv rv),(22,iv (((((a:Int)+(b:Int)) / 2)+(q:Int)) - 1))]∧Inv [b0] w0 w [(some b0,blk cl 30)]∧(sv=((s:Nat):Int))∧(rv=((r:Nat):Int))∧((a+b) / 2+q - b≤s∧s≤r∧r≤(a+b) / 2)∧(∀ x y,(a+b) / 2+q - b < s→l[s - 1]?=some x→l[(a+b) / 2+q - s]?=some y→x.hr≤y.hr)∧(∀ x y,r < (a+b) / 2→l[r]?=some x→l[(a+b) / 2+q - 1 - r]?=some y→y.hr < x.hr)∧m=r - s) (m:=((a+b) / 2) - ((a+b) / 2+q - b)) ⟨(a+b) / 2+q - b,(a+b) / 2,((((a:Int)+(b:Int)) / 2)+(q:Int)) - (b:Int),((a:Int)+(b:Int)) / 2,⟨rfl,rfl,rfl,rfl,rfl,rfl,rfl,rfl,rfl,rfl,trivial⟩,hI.pickL [0] (by decide) rfl,(by omega),(by omega),(by omega),(fun x y h=>absurd h (by omega)),(fun x y h=>absurd h (by omega)),rfl⟩ ?_
    rintro m ρ w ⟨s,r,sv,rv,hag,hI,hsv,hrv,hsr,f1,f2,hm⟩
    obtain ⟨ρ,rfl⟩:=hag.form; clear hag
    refine wp_seq (wp_seq (rgn rfl (pu (iv sv) rfl (pu (iv rv) rfl (seq_c (s_lss rfl rfl ?_ ?_))))))
    ·intro h6
     refine seq_nil (wp_condT rfl (wp_skip (wp_block ?_)))
     refine wp_seq (rgn rfl (pu (iv sv) rfl (pu (iv rv) rfl (seq_c (s_add rfl rfl (by omega) ?_)))))
     refine seq_c (s_toUM Tryz.underlying3 Tryz.underlying178 rfl (by omega) (by omega) ?_)
     refine seq_c (s_halfM rfl rfl ?_)
     refine seq_c (s_toIM Tryz.underlying178 Tryz.underlying3 rfl (by omega) (by omega) ?_)
     refine pu (iv ((sv+rv) / 2)) rfl (seq_nil (wp_seq (wp_drawn2 hI [0] (by decide) rfl rfl rfl ?_)))
     intro hsub
     refine alp 0 (.func (.func 144) #[] #[]) hsub rfl (by kernel_rfl) (fun _=>rfl) ?_
     refine alp 1 (slv (some b0) n c) hsub rfl (by kernel_rfl) (fun _=>rfl) ?_
     refine alp 2 (iv (((((a:Int)+(b:Int)) / 2)+(q:Int)) - 1)) hsub rfl (by kernel_rfl) (fun _=>rfl) ?_
     refine alp 3 (iv ((sv+rv) / 2)) hsub rfl (by kernel_rfl) (fun _=>rfl) ?_
     refine al_light 4 (iv ((((((a:Int)+(b:Int)) / 2)+(q:Int)) - 1) - ((sv+rv) / 2))) hsub rfl (by kernel_rfl) (fun w hI=>s_sub rfl rfl (by omega) ⟨rfl,Below.refl _ _⟩) ?_
     obtain ⟨x1,hx2⟩:=get_lt (l:=l) (i:=((((a+b) / 2)+q) - 1) - ((s+r) / 2)) (by omega)
     have he3:=hr.atS eLd_len (by decide) hx2
     refine al_light 5 (.pointer (some ⟨b0,(((((a+b) / 2)+q) - 1) - ((s+r) / 2)) * 6,none⟩)) hsub rfl (by kernel_rfl) (fun w hI=>s_indexR (((((a+b) / 2)+q) - 1) - ((s+r) / 2)) Tryz.underlying24 Tryz.sizeOf30 rfl rfl (by omega) (by omega) ⟨rfl,Below.refl _ _⟩) ?_
     refine al_light 6 (.agg #[iv x1.src,iv x1.hr,iv x1.lo,iv x1.hi,iv x1.kn,iv x1.un]) hsub rfl (by kernel_rfl) (fun w hI=>s_loadRK hI 0 [iv x1.src,iv x1.hr,iv x1.lo,iv x1.hi,iv x1.kn,iv x1.un] Tryz.isAgg30 Tryz.sizeOf30 rfl rfl rfl he3 ⟨rfl,Below.refl _ _⟩) ?_
     refine alp 7 (slv (some b0) n c) hsub rfl (by kernel_rfl) (fun _=>rfl) ?_
     refine alp 8 (iv ((sv+rv) / 2)) hsub rfl (by kernel_rfl) (fun _=>rfl) ?_
     obtain ⟨x4,hx5⟩:=get_lt (l:=l) (i:=(s+r) / 2) (by omega)
     have he6:=hr.atS eLd_len (by decide) hx5
     refine al_light 9 (.pointer (some ⟨b0,((s+r) / 2) * 6,none⟩)) hsub rfl (by kernel_rfl) (fun w hI=>s_indexR ((s+r) / 2) Tryz.underlying24 Tryz.sizeOf30 rfl rfl (by omega) (by omega) ⟨rfl,Below.refl _ _⟩) ?_
     refine al_light 10 (.agg #[iv x4.src,iv x4.hr,iv x4.lo,iv x4.hi,iv x4.kn,iv x4.un]) hsub rfl (by kernel_rfl) (fun w hI=>s_loadRK hI 0 [iv x4.src,iv x4.hr,iv x4.lo,iv x4.hi,iv x4.kn,iv x4.un] Tryz.isAgg30 Tryz.sizeOf30 rfl rfl rfl he6 ⟨rfl,Below.refl _ _⟩) ?_
     refine al_light 11 (iv (cmpI x1.hr x4.hr)) hsub rfl (by kernel_rfl) (fun w hI=>s_callV [.agg #[iv x1.src,iv x1.hr,iv x1.lo,iv x1.hi,iv x1.kn,iv x1.un],.agg #[iv x4.src,iv x4.hr,iv x4.lo,iv x4.hi,iv x4.kn,iv x4.un]] rfl (by kernel_rfl) (CallV.of (args':=[.agg (eLd x1).toArray,.agg (eLd x4).toArray]) rfl (sceneOf2_c w x1 x4)) (fun v' w' h=>h)) ?_
     by_cases h7:(cmpI x1.hr x4.hr) < 0
     ·refine al_light 12 (.bool true) hsub rfl (by kernel_rfl) (fun w hI=>s_lss rfl rfl (fun _=>⟨rfl,Below.refl _ _⟩) (fun h=>absurd h7 h)) ?_
      refine alp 13 (.bool false) hsub rfl (by kernel_rfl) (fun _=>rfl) ?_
      refine any_end rfl (fun w hI=>?_)
      refine wp_condF rfl (rgn rfl (pu (iv ((sv+rv) / 2)) rfl (pu (iv ((sv+rv) / 2)) rfl (seq_nil ?_))))
      exact ⟨rfl,_,(by omega),⟨s,(s+r) / 2,sv,(sv+rv) / 2,⟨rfl,rfl,rfl,rfl,rfl,rfl,rfl,rfl,rfl,rfl,trivial⟩,hI.pickL [0] (by decide) rfl,(by omega),(by omega),(by omega),f1,(fun x y _ h1 h2=>by have e1:=Option.some.inj (hx5.symm.trans h1); have e2:=Option.some.inj (hx2.symm.trans h2); subst e1; subst e2; exact cmpI_lt.1 (by assumption)),rfl⟩⟩
     ·refine al_light 12 (.bool false) hsub rfl (by kernel_rfl) (fun w hI=>s_lss rfl rfl (fun h=>absurd h h7) (fun _=>⟨rfl,Below.refl _ _⟩)) ?_
      refine alp 13 (.bool true) hsub rfl (by kernel_rfl) (fun _=>rfl) ?_
      refine any_end rfl (fun w hI=>?_)
      refine wp_condT rfl (rgn rfl (pu (iv ((sv+rv) / 2)) rfl (seq_c (s_add rfl rfl (by omega) ?_))))
      refine pu (iv (((sv+rv) / 2)+1)) rfl (seq_nil ?_)
      exact ⟨rfl,_,(by omega),⟨(s+r) / 2+1,r,((sv+rv) / 2)+1,rv,⟨rfl,rfl,rfl,rfl,rfl,rfl,rfl,rfl,rfl,rfl,trivial⟩,hI.pickL [0] (by decide) rfl,(by omega),(by omega),(by omega),(fun x y _ h1 h2=>by rw [Nat.add_sub_cancel] at h1; rw [show (a+b) / 2+q - ((s+r) / 2+1)=(a+b) / 2+q - 1 - (s+r) / 2 by omega] at h2; have e1:=Option.some.inj (hx5.symm.trans h1); have e2:=Option.some.inj (hx2.symm.trans h2); subst e1; subst e2; exact Int.not_lt.1 fun hc=>absurd (cmpI_lt.2 hc) (by assumption)),f2,rfl⟩⟩
    ·intro h8
     refine seq_nil (wp_condF rfl ?_)
     have hM:Mid l a s q ((a+b) / 2+q - s) b ((a+b) / 2):=⟨by omega,by omega,by omega,by omega,by omega,by omega,hL,hR,fun x y _ _ hx hy=>f1 x y (by omega) hx hy,fun x y _ _ hy hx=>f2 x y (by omega) (by rw [show r=s by omega]; exact hx) (by rw [show (a+b) / 2+q - 1 - r=(a+b) / 2+q - s - 1 by omega]; exact hy)⟩
     have hAll:=hM.all
     refine wp_exit ?_
     refine wp_seq (rgn rfl (pu (iv ((((a:Int)+(b:Int)) / 2)+(q:Int))) rfl (pu (iv sv) rfl (seq_c (s_sub rfl rfl (by omega) ?_)))))
     refine pu (iv (((((a:Int)+(b:Int)) / 2)+(q:Int)) - sv)) rfl (seq_nil (wp_seq (wp_seq (rgn rfl (pu (iv sv) rfl (pu (iv (q:Int)) rfl (seq_c (s_lss rfl rfl ?_ ?_))))))))
     ·intro h9
      refine pu (.bool true) rfl (puo (iv (q:Int)) ⟨rfl,rfl⟩ (puo (iv (((((a:Int)+(b:Int)) / 2)+(q:Int)) - sv)) ⟨rfl,rfl⟩ (seq_on rfl (s_lss rfl rfl ?_ ?_))))
      ·intro h10
       refine pu (.bool true) rfl (seq_nil (wp_condT rfl (rgn rfl (pu (slv (some b0) n c) rfl (pu (iv sv) rfl (pu (iv (q:Int)) rfl (pu (iv (((((a:Int)+(b:Int)) / 2)+(q:Int)) - sv)) rfl (pu (.func (.func 144) #[] #[]) rfl (seq_c (s_callTurns hI 186 [slv (some b0) n c,iv sv,iv (q:Int),iv (((((a:Int)+(b:Int)) / 2)+(q:Int)) - sv),.func (.func 144) #[] #[]] 0 rfl (by kernel_rfl) (by rw [show ((((a:Int)+(b:Int)) / 2)+(q:Int)) - sv=(((((a+b) / 2)+q) - s:Nat):Int) by omega,show sv=((s:Nat):Int) by omega]; exact rotate_c _ b0 n c cl l s q ((((a+b) / 2)+q) - s) (hI.hasg 0 rfl) hr (by omega) (by omega) (by omega) (by omega) (.func (.func 144) #[] #[])) ?_))))))))))
       intro cl7 w hI r8
       have r8:Row 6 (some b0) (n) c cl7 (flat eLd (rotL l s q ((((a+b) / 2)+q) - s))):=r8
       refine seq_nil (wp_seq (wp_seq (rgn rfl (pu (iv (a:Int)) rfl (pu (iv sv) rfl (seq_c (s_lss rfl rfl ?_ ?_)))))))
       ·intro h11
        refine pu (.bool true) rfl (puo (iv sv) ⟨rfl,rfl⟩ (puo (iv (((a:Int)+(b:Int)) / 2)) ⟨rfl,rfl⟩ (seq_on rfl (s_lss rfl rfl ?_ ?_))))
        ·intro h12
         refine pu (.bool true) rfl (seq_nil (wp_condT rfl (rgn rfl (pu (slv (some b0) n c) rfl (pu (iv (a:Int)) rfl (pu (iv sv) rfl (pu (iv (((a:Int)+(b:Int)) / 2)) rfl (pu (.func (.func 144) #[] #[]) rfl (seq_c (s_callTurns hI 184 [slv (some b0) n c,iv (a:Int),iv sv,iv (((a:Int)+(b:Int)) / 2),.func (.func 144) #[] #[]] 0 rfl (by kernel_rfl) (by rw [show ((a:Int)+(b:Int)) / 2=(((a+b) / 2:Nat):Int) by omega,show sv=((s:Nat):Int) by omega]; exact IH _ cl7 (rotL l s q ((((a+b) / 2)+q) - s)) a s ((a+b) / 2) (hI.hasg 0 rfl) r8 (by omega) (by omega) (by omega) (by omega) hAll.2.1 hAll.2.2.1) ?_))))))))))
         intro cl9 w hI r10
         have r10:Row 6 (some b0) (n) c cl9 (flat eLd (segF (rotL l s q ((((a+b) / 2)+q) - s)) a ((a+b) / 2))):=r10
         refine seq_nil (wp_seq (rgn rfl (pu (iv (((a:Int)+(b:Int)) / 2)) rfl (pu (iv (((((a:Int)+(b:Int)) / 2)+(q:Int)) - sv)) rfl (seq_c (s_lss rfl rfl ?_ ?_))))))
         ·intro h13
          refine pu (.bool true) rfl (puo (iv (((((a:Int)+(b:Int)) / 2)+(q:Int)) - sv)) ⟨rfl,rfl⟩ (puo (iv (b:Int)) ⟨rfl,rfl⟩ (seq_on rfl (s_lss rfl rfl ?_ ?_))))
          ·intro h14
           refine pu (.bool true) rfl (seq_nil (wp_condT rfl (rgn rfl (pu (slv (some b0) n c) rfl (pu (iv (((a:Int)+(b:Int)) / 2)) rfl (pu (iv (((((a:Int)+(b:Int)) / 2)+(q:Int)) - sv)) rfl (pu (iv (b:Int)) rfl (pu (.func (.func 144) #[] #[]) rfl (seq_c (s_callTurns hI 184 [slv (some b0) n c,iv (((a:Int)+(b:Int)) / 2),iv (((((a:Int)+(b:Int)) / 2)+(q:Int)) - sv),iv (b:Int),.func (.func 144) #[] #[]] 0 rfl (by kernel_rfl) (by rw [show ((((a:Int)+(b:Int)) / 2)+(q:Int)) - sv=(((((a+b) / 2)+q) - s:Nat):Int) by omega,show ((a:Int)+(b:Int)) / 2=(((a+b) / 2:Nat):Int) by omega]; exact IH _ cl9 (segF (rotL l s q ((((a+b) / 2)+q) - s)) a ((a+b) / 2)) ((a+b) / 2) ((((a+b) / 2)+q) - s) b (hI.hasg 0 rfl) r10 (by omega) (by omega) (by omega) (by omega) hAll.2.2.2.1 hAll.2.2.2.2) ?_))))))))))
           intro cl11 w hI r12
           have r12:Row 6 (some b0) (n) c cl11 (flat eLd (segF (segF (rotL l s q ((((a+b) / 2)+q) - s)) a ((a+b) / 2)) ((a+b) / 2) b)):=r12
           refine seq_nil ?_
           exact ⟨.tuple #[],Ret.r0 rfl , ⟨cl11,rfl,hI.pickL [0] (by decide) rfl,r12.to hAll.1 rfl⟩⟩
          ·intro h15
           refine pu (.bool false) rfl (seq_nil (wp_condF rfl (wp_skip ?_)))
           rw [hM.hi rfl (by omega)] at hAll
           exact ⟨.tuple #[],Ret.r0 rfl , ⟨cl9,rfl,hI.pickL [0] (by decide) rfl,r10.to hAll.1 rfl⟩⟩
         ·intro h16
          refine pu (.bool false) rfl (of_ rfl (of_ rfl (of_ rfl (pu (.bool false) rfl (seq_nil (wp_condF rfl (wp_skip ?_)))))))
          rw [hM.hi rfl (by omega)] at hAll
          exact ⟨.tuple #[],Ret.r0 rfl , ⟨cl9,rfl,hI.pickL [0] (by decide) rfl,r10.to hAll.1 rfl⟩⟩
        ·intro h17
         refine pu (.bool false) rfl (seq_nil (wp_condF rfl (wp_skip (wp_seq (rgn rfl (pu (iv (((a:Int)+(b:Int)) / 2)) rfl (pu (iv (((((a:Int)+(b:Int)) / 2)+(q:Int)) - sv)) rfl (seq_c (s_lss rfl rfl ?_ ?_)))))))))
         ·intro h18
          refine pu (.bool true) rfl (puo (iv (((((a:Int)+(b:Int)) / 2)+(q:Int)) - sv)) ⟨rfl,rfl⟩ (puo (iv (b:Int)) ⟨rfl,rfl⟩ (seq_on rfl (s_lss rfl rfl ?_ ?_))))
          ·intro h19
           refine pu (.bool true) rfl (seq_nil (wp_condT rfl (rgn rfl (pu (slv (some b0) n c) rfl (pu (iv (((a:Int)+(b:Int)) / 2)) rfl (pu (iv (((((a:Int)+(b:Int)) / 2)+(q:Int)) - sv)) rfl (pu (iv (b:Int)) rfl (pu (.func (.func 144) #[] #[]) rfl ?_))))))))
           rw [hM.lo rfl (by omega)] at hAll
           refine seq_c (s_callTurns hI 184 [slv (some b0) n c,iv (((a:Int)+(b:Int)) / 2),iv (((((a:Int)+(b:Int)) / 2)+(q:Int)) - sv),iv (b:Int),.func (.func 144) #[] #[]] 0 rfl (by kernel_rfl) (by rw [show ((((a:Int)+(b:Int)) / 2)+(q:Int)) - sv=(((((a+b) / 2)+q) - s:Nat):Int) by omega,show ((a:Int)+(b:Int)) / 2=(((a+b) / 2:Nat):Int) by omega]; exact IH _ cl7 (rotL l s q ((((a+b) / 2)+q) - s)) ((a+b) / 2) ((((a+b) / 2)+q) - s) b (hI.hasg 0 rfl) r8 (by omega) (by omega) (by omega) (by omega) hAll.2.2.2.1 hAll.2.2.2.2) ?_)
           intro cl13 w hI r14
           have r14:Row 6 (some b0) (n) c cl13 (flat eLd (segF (rotL l s q ((((a+b) / 2)+q) - s)) ((a+b) / 2) b)):=r14
           refine seq_nil ?_
           exact ⟨.tuple #[],Ret.r0 rfl , ⟨cl13,rfl,hI.pickL [0] (by decide) rfl,r14.to hAll.1 rfl⟩⟩
          ·intro h20
           refine pu (.bool false) rfl (seq_nil (wp_condF rfl (wp_skip ?_)))
           rw [hM.lo rfl (by omega),hM.hi2 rfl (by omega) (by omega)] at hAll
           exact ⟨.tuple #[],Ret.r0 rfl , ⟨cl7,rfl,hI.pickL [0] (by decide) rfl,r8.to hAll.1 rfl⟩⟩
         ·intro h21
          refine pu (.bool false) rfl (of_ rfl (of_ rfl (of_ rfl (pu (.bool false) rfl (seq_nil (wp_condF rfl (wp_skip ?_)))))))
          rw [hM.lo rfl (by omega),hM.hi2 rfl (by omega) (by omega)] at hAll
          exact ⟨.tuple #[],Ret.r0 rfl , ⟨cl7,rfl,hI.pickL [0] (by decide) rfl,r8.to hAll.1 rfl⟩⟩
       ·intro h22
        refine pu (.bool false) rfl (of_ rfl (of_ rfl (of_ rfl (pu (.bool false) rfl (seq_nil (wp_condF rfl (wp_skip (wp_seq (rgn rfl ?_)))))))))
        refine pu (iv (((a:Int)+(b:Int)) / 2)) rfl (pu (iv (((((a:Int)+(b:Int)) / 2)+(q:Int)) - sv)) rfl (seq_c (s_lss rfl rfl ?_ ?_)))
        ·intro h23
         refine pu (.bool true) rfl (puo (iv (((((a:Int)+(b:Int)) / 2)+(q:Int)) - sv)) ⟨rfl,rfl⟩ (puo (iv (b:Int)) ⟨rfl,rfl⟩ (seq_on rfl (s_lss rfl rfl ?_ ?_))))
         ·intro h24
          refine pu (.bool true) rfl (seq_nil (wp_condT rfl (rgn rfl (pu (slv (some b0) n c) rfl (pu (iv (((a:Int)+(b:Int)) / 2)) rfl (pu (iv (((((a:Int)+(b:Int)) / 2)+(q:Int)) - sv)) rfl (pu (iv (b:Int)) rfl (pu (.func (.func 144) #[] #[]) rfl ?_))))))))
          rw [hM.lo rfl (by omega)] at hAll
          refine seq_c (s_callTurns hI 184 [slv (some b0) n c,iv (((a:Int)+(b:Int)) / 2),iv (((((a:Int)+(b:Int)) / 2)+(q:Int)) - sv),iv (b:Int),.func (.func 144) #[] #[]] 0 rfl (by kernel_rfl) (by rw [show ((((a:Int)+(b:Int)) / 2)+(q:Int)) - sv=(((((a+b) / 2)+q) - s:Nat):Int) by omega,show ((a:Int)+(b:Int)) / 2=(((a+b) / 2:Nat):Int) by omega]; exact IH _ cl7 (rotL l s q ((((a+b) / 2)+q) - s)) ((a+b) / 2) ((((a+b) / 2)+q) - s) b (hI.hasg 0 rfl) r8 (by omega) (by omega) (by omega) (by omega) hAll.2.2.2.1 hAll.2.2.2.2) ?_)
          intro cl15 w hI r16
          have r16:Row 6 (some b0) (n) c cl15 (flat eLd (segF (rotL l s q ((((a+b) / 2)+q) - s)) ((a+b) / 2) b)):=r16
          refine seq_nil ?_
          exact ⟨.tuple #[],Ret.r0 rfl , ⟨cl15,rfl,hI.pickL [0] (by decide) rfl,r16.to hAll.1 rfl⟩⟩
         ·intro h25
          refine pu (.bool false) rfl (seq_nil (wp_condF rfl (wp_skip ?_)))
          rw [hM.lo rfl (by omega),hM.hi2 rfl (by omega) (by omega)] at hAll
          exact ⟨.tuple #[],Ret.r0 rfl , ⟨cl7,rfl,hI.pickL [0] (by decide) rfl,r8.to hAll.1 rfl⟩⟩
        ·intro h26
         refine pu (.bool false) rfl (of_ rfl (of_ rfl (of_ rfl (pu (.bool false) rfl (seq_nil (wp_condF rfl (wp_skip ?_)))))))
         rw [hM.lo rfl (by omega),hM.hi2 rfl (by omega) (by omega)] at hAll
         exact ⟨.tuple #[],Ret.r0 rfl , ⟨cl7,rfl,hI.pickL [0] (by decide) rfl,r8.to hAll.1 rfl⟩⟩
      ·intro h27
       refine pu (.bool false) rfl (seq_nil (wp_condF rfl (wp_skip (wp_seq (wp_seq (rgn rfl (pu (iv (a:Int)) rfl (pu (iv sv) rfl (seq_c (s_lss rfl rfl ?_ ?_))))))))))
       ·intro h28
        refine pu (.bool true) rfl (puo (iv sv) ⟨rfl,rfl⟩ (puo (iv (((a:Int)+(b:Int)) / 2)) ⟨rfl,rfl⟩ (seq_on rfl (s_lss rfl rfl ?_ ?_))))
        ·intro h29
         refine pu (.bool true) rfl (seq_nil (wp_condT rfl (rgn rfl (pu (slv (some b0) n c) rfl (pu (iv (a:Int)) rfl (pu (iv sv) rfl (pu (iv (((a:Int)+(b:Int)) / 2)) rfl (pu (.func (.func 144) #[] #[]) rfl ?_))))))))
         rw [rot_same (by omega) (by omega) (by omega) (by omega)] at hAll
         refine seq_c (s_callTurns hI 184 [slv (some b0) n c,iv (a:Int),iv sv,iv (((a:Int)+(b:Int)) / 2),.func (.func 144) #[] #[]] 0 rfl (by kernel_rfl) (by rw [show ((a:Int)+(b:Int)) / 2=(((a+b) / 2:Nat):Int) by omega,show sv=((s:Nat):Int) by omega]; exact IH _ cl l a s ((a+b) / 2) (hI.hasg 0 rfl) hr (by omega) (by omega) (by omega) (by omega) hAll.2.1 hAll.2.2.1) ?_)
         intro cl17 w hI r18
         have r18:Row 6 (some b0) (n) c cl17 (flat eLd (segF l a ((a+b) / 2))):=r18
         refine seq_nil (wp_seq (rgn rfl (pu (iv (((a:Int)+(b:Int)) / 2)) rfl (pu (iv (((((a:Int)+(b:Int)) / 2)+(q:Int)) - sv)) rfl (seq_c (s_lss rfl rfl ?_ ?_))))))
         ·intro h30
          refine pu (.bool true) rfl (puo (iv (((((a:Int)+(b:Int)) / 2)+(q:Int)) - sv)) ⟨rfl,rfl⟩ (puo (iv (b:Int)) ⟨rfl,rfl⟩ (seq_on rfl (s_lss rfl rfl ?_ ?_))))
          ·intro h31
           refine pu (.bool true) rfl (seq_nil (wp_condT rfl (rgn rfl (pu (slv (some b0) n c) rfl (pu (iv (((a:Int)+(b:Int)) / 2)) rfl (pu (iv (((((a:Int)+(b:Int)) / 2)+(q:Int)) - sv)) rfl (pu (iv (b:Int)) rfl (pu (.func (.func 144) #[] #[]) rfl (seq_c (s_callTurns hI 184 [slv (some b0) n c,iv (((a:Int)+(b:Int)) / 2),iv (((((a:Int)+(b:Int)) / 2)+(q:Int)) - sv),iv (b:Int),.func (.func 144) #[] #[]] 0 rfl (by kernel_rfl) (by rw [show ((((a:Int)+(b:Int)) / 2)+(q:Int)) - sv=(((((a+b) / 2)+q) - s:Nat):Int) by omega,show ((a:Int)+(b:Int)) / 2=(((a+b) / 2:Nat):Int) by omega]; exact IH _ cl17 (segF l a ((a+b) / 2)) ((a+b) / 2) ((((a+b) / 2)+q) - s) b (hI.hasg 0 rfl) r18 (by omega) (by omega) (by omega) (by omega) hAll.2.2.2.1 hAll.2.2.2.2) ?_))))))))))
           intro cl19 w hI r20
           have r20:Row 6 (some b0) (n) c cl19 (flat eLd (segF (segF l a ((a+b) / 2)) ((a+b) / 2) b)):=r20
           refine seq_nil ?_
           exact ⟨.tuple #[],Ret.r0 rfl , ⟨cl19,rfl,hI.pickL [0] (by decide) rfl,r20.to hAll.1 rfl⟩⟩
          ·intro h32
           refine pu (.bool false) rfl (seq_nil (wp_condF rfl (wp_skip ?_)))
           rw [hM.hi (rot_same (by omega) (by omega) (by omega) (by omega)) (by omega)] at hAll
           exact ⟨.tuple #[],Ret.r0 rfl , ⟨cl17,rfl,hI.pickL [0] (by decide) rfl,r18.to hAll.1 rfl⟩⟩
         ·intro h33
          refine pu (.bool false) rfl (of_ rfl (of_ rfl (of_ rfl (pu (.bool false) rfl (seq_nil (wp_condF rfl (wp_skip ?_)))))))
          rw [hM.hi (rot_same (by omega) (by omega) (by omega) (by omega)) (by omega)] at hAll
          exact ⟨.tuple #[],Ret.r0 rfl , ⟨cl17,rfl,hI.pickL [0] (by decide) rfl,r18.to hAll.1 rfl⟩⟩
        ·intro h34
         refine pu (.bool false) rfl (seq_nil (wp_condF rfl (wp_skip (wp_seq (rgn rfl (pu (iv (((a:Int)+(b:Int)) / 2)) rfl (pu (iv (((((a:Int)+(b:Int)) / 2)+(q:Int)) - sv)) rfl (seq_c (s_lss rfl rfl ?_ ?_)))))))))
         ·intro h35
          refine pu (.bool true) rfl (puo (iv (((((a:Int)+(b:Int)) / 2)+(q:Int)) - sv)) ⟨rfl,rfl⟩ (puo (iv (b:Int)) ⟨rfl,rfl⟩ (seq_on rfl (s_lss rfl rfl ?_ ?_))))
          ·intro h36
           refine pu (.bool true) rfl (seq_nil (wp_condT rfl (rgn rfl (pu (slv (some b0) n c) rfl (pu (iv (((a:Int)+(b:Int)) / 2)) rfl (pu (iv (((((a:Int)+(b:Int)) / 2)+(q:Int)) - sv)) rfl (pu (iv (b:Int)) rfl (pu (.func (.func 144) #[] #[]) rfl ?_))))))))
           rw [rot_same (by omega) (by omega) (by omega) (by omega)] at hAll
           rw [hM.lo (rot_same (by omega) (by omega) (by omega) (by omega)) (by omega)] at hAll
           refine seq_c (s_callTurns hI 184 [slv (some b0) n c,iv (((a:Int)+(b:Int)) / 2),iv (((((a:Int)+(b:Int)) / 2)+(q:Int)) - sv),iv (b:Int),.func (.func 144) #[] #[]] 0 rfl (by kernel_rfl) (by rw [show ((((a:Int)+(b:Int)) / 2)+(q:Int)) - sv=(((((a+b) / 2)+q) - s:Nat):Int) by omega,show ((a:Int)+(b:Int)) / 2=(((a+b) / 2:Nat):Int) by omega]; exact IH _ cl l ((a+b) / 2) ((((a+b) / 2)+q) - s) b (hI.hasg 0 rfl) hr (by omega) (by omega) (by omega) (by omega) hAll.2.2.2.1 hAll.2.2.2.2) ?_)
           intro cl21 w hI r22
           have r22:Row 6 (some b0) (n) c cl21 (flat eLd (segF l ((a+b) / 2) b)):=r22
           refine seq_nil ?_
           exact ⟨.tuple #[],Ret.r0 rfl , ⟨cl21,rfl,hI.pickL [0] (by decide) rfl,r22.to hAll.1 rfl⟩⟩
          ·intro h37
           refine pu (.bool false) rfl (seq_nil (wp_condF rfl (wp_skip ?_)))
           rw [rot_same (by omega) (by omega) (by omega) (by omega)] at hAll
           rw [hM.lo (rot_same (by omega) (by omega) (by omega) (by omega)) (by omega),hM.hi2 (rot_same (by omega) (by omega) (by omega) (by omega)) (by omega) (by omega)] at hAll
           exact ⟨.tuple #[],Ret.r0 rfl , ⟨cl,rfl,hI.pickL [0] (by decide) rfl,hr.to hAll.1 rfl⟩⟩
         ·intro h38
          refine pu (.bool false) rfl (of_ rfl (of_ rfl (of_ rfl (pu (.bool false) rfl (seq_nil (wp_condF rfl (wp_skip ?_)))))))
          rw [rot_same (by omega) (by omega) (by omega) (by omega)] at hAll
          rw [hM.lo (rot_same (by omega) (by omega) (by omega) (by omega)) (by omega),hM.hi2 (rot_same (by omega) (by omega) (by omega) (by omega)) (by omega) (by omega)] at hAll
          exact ⟨.tuple #[],Ret.r0 rfl , ⟨cl,rfl,hI.pickL [0] (by decide) rfl,hr.to hAll.1 rfl⟩⟩
       ·intro h39
        refine pu (.bool false) rfl (of_ rfl (of_ rfl (of_ rfl (pu (.bool false) rfl (seq_nil (wp_condF rfl (wp_skip (wp_seq (rgn rfl ?_)))))))))
        refine pu (iv (((a:Int)+(b:Int)) / 2)) rfl (pu (iv (((((a:Int)+(b:Int)) / 2)+(q:Int)) - sv)) rfl (seq_c (s_lss rfl rfl ?_ ?_)))
        ·intro h40
         refine pu (.bool true) rfl (puo (iv (((((a:Int)+(b:Int)) / 2)+(q:Int)) - sv)) ⟨rfl,rfl⟩ (puo (iv (b:Int)) ⟨rfl,rfl⟩ (seq_on rfl (s_lss rfl rfl ?_ ?_))))
         ·intro h41
          refine pu (.bool true) rfl (seq_nil (wp_condT rfl (rgn rfl (pu (slv (some b0) n c) rfl (pu (iv (((a:Int)+(b:Int)) / 2)) rfl (pu (iv (((((a:Int)+(b:Int)) / 2)+(q:Int)) - sv)) rfl (pu (iv (b:Int)) rfl (pu (.func (.func 144) #[] #[]) rfl ?_))))))))
          rw [rot_same (by omega) (by omega) (by omega) (by omega)] at hAll
          rw [hM.lo (rot_same (by omega) (by omega) (by omega) (by omega)) (by omega)] at hAll
          refine seq_c (s_callTurns hI 184 [slv (some b0) n c,iv (((a:Int)+(b:Int)) / 2),iv (((((a:Int)+(b:Int)) / 2)+(q:Int)) - sv),iv (b:Int),.func (.func 144) #[] #[]] 0 rfl (by kernel_rfl) (by rw [show ((((a:Int)+(b:Int)) / 2)+(q:Int)) - sv=(((((a+b) / 2)+q) - s:Nat):Int) by omega,show ((a:Int)+(b:Int)) / 2=(((a+b) / 2:Nat):Int) by omega]; exact IH _ cl l ((a+b) / 2) ((((a+b) / 2)+q) - s) b (hI.hasg 0 rfl) hr (by omega) (by omega) (by omega) (by omega) hAll.2.2.2.1 hAll.2.2.2.2) ?_)
          intro cl23 w hI r24
          have r24:Row 6 (some b0) (n) c cl23 (flat eLd (segF l ((a+b) / 2) b)):=r24
          refine seq_nil ?_
          exact ⟨.tuple #[],Ret.r0 rfl , ⟨cl23,rfl,hI.pickL [0] (by decide) rfl,r24.to hAll.1 rfl⟩⟩
         ·intro h42
          refine pu (.bool false) rfl (seq_nil (wp_condF rfl (wp_skip ?_)))
          rw [rot_same (by omega) (by omega) (by omega) (by omega)] at hAll
          rw [hM.lo (rot_same (by omega) (by omega) (by omega) (by omega)) (by omega),hM.hi2 (rot_same (by omega) (by omega) (by omega) (by omega)) (by omega) (by omega)] at hAll
          exact ⟨.tuple #[],Ret.r0 rfl , ⟨cl,rfl,hI.pickL [0] (by decide) rfl,hr.to hAll.1 rfl⟩⟩
        ·intro h43
         refine pu (.bool false) rfl (of_ rfl (of_ rfl (of_ rfl (pu (.bool false) rfl (seq_nil (wp_condF rfl (wp_skip ?_)))))))
         rw [rot_same (by omega) (by omega) (by omega) (by omega)] at hAll
         rw [hM.lo (rot_same (by omega) (by omega) (by omega) (by omega)) (by omega),hM.hi2 (rot_same (by omega) (by omega) (by omega) (by omega)) (by omega) (by omega)] at hAll
         exact ⟨.tuple #[],Ret.r0 rfl , ⟨cl,rfl,hI.pickL [0] (by decide) rfl,hr.to hAll.1 rfl⟩⟩
     ·intro h44
      refine pu (.bool false) rfl (of_ rfl (of_ rfl (of_ rfl (pu (.bool false) rfl (seq_nil (wp_condF rfl (wp_skip (wp_seq (wp_seq ?_)))))))))
      refine rgn rfl (pu (iv (a:Int)) rfl (pu (iv sv) rfl (seq_c (s_lss rfl rfl ?_ ?_))))
      ·intro h45
       refine pu (.bool true) rfl (puo (iv sv) ⟨rfl,rfl⟩ (puo (iv (((a:Int)+(b:Int)) / 2)) ⟨rfl,rfl⟩ (seq_on rfl (s_lss rfl rfl ?_ ?_))))
       ·intro h46
        refine pu (.bool true) rfl (seq_nil (wp_condT rfl (rgn rfl (pu (slv (some b0) n c) rfl (pu (iv (a:Int)) rfl (pu (iv sv) rfl (pu (iv (((a:Int)+(b:Int)) / 2)) rfl (pu (.func (.func 144) #[] #[]) rfl ?_))))))))
        rw [rot_same (by omega) (by omega) (by omega) (by omega)] at hAll
        refine seq_c (s_callTurns hI 184 [slv (some b0) n c,iv (a:Int),iv sv,iv (((a:Int)+(b:Int)) / 2),.func (.func 144) #[] #[]] 0 rfl (by kernel_rfl) (by rw [show ((a:Int)+(b:Int)) / 2=(((a+b) / 2:Nat):Int) by omega,show sv=((s:Nat):Int) by omega]; exact IH _ cl l a s ((a+b) / 2) (hI.hasg 0 rfl) hr (by omega) (by omega) (by omega) (by omega) hAll.2.1 hAll.2.2.1) ?_)
        intro cl25 w hI r26
        have r26:Row 6 (some b0) (n) c cl25 (flat eLd (segF l a ((a+b) / 2))):=r26
        refine seq_nil (wp_seq (rgn rfl (pu (iv (((a:Int)+(b:Int)) / 2)) rfl (pu (iv (((((a:Int)+(b:Int)) / 2)+(q:Int)) - sv)) rfl (seq_c (s_lss rfl rfl ?_ ?_))))))
        ·intro h47
         refine pu (.bool true) rfl (puo (iv (((((a:Int)+(b:Int)) / 2)+(q:Int)) - sv)) ⟨rfl,rfl⟩ (puo (iv (b:Int)) ⟨rfl,rfl⟩ (seq_on rfl (s_lss rfl rfl ?_ ?_))))
         ·intro h48
          refine pu (.bool true) rfl (seq_nil (wp_condT rfl (rgn rfl (pu (slv (some b0) n c) rfl (pu (iv (((a:Int)+(b:Int)) / 2)) rfl (pu (iv (((((a:Int)+(b:Int)) / 2)+(q:Int)) - sv)) rfl (pu (iv (b:Int)) rfl (pu (.func (.func 144) #[] #[]) rfl (seq_c (s_callTurns hI 184 [slv (some b0) n c,iv (((a:Int)+(b:Int)) / 2),iv (((((a:Int)+(b:Int)) / 2)+(q:Int)) - sv),iv (b:Int),.func (.func 144) #[] #[]] 0 rfl (by kernel_rfl) (by rw [show ((((a:Int)+(b:Int)) / 2)+(q:Int)) - sv=(((((a+b) / 2)+q) - s:Nat):Int) by omega,show ((a:Int)+(b:Int)) / 2=(((a+b) / 2:Nat):Int) by omega]; exact IH _ cl25 (segF l a ((a+b) / 2)) ((a+b) / 2) ((((a+b) / 2)+q) - s) b (hI.hasg 0 rfl) r26 (by omega) (by omega) (by omega) (by omega) hAll.2.2.2.1 hAll.2.2.2.2) ?_))))))))))
          intro cl27 w hI r28
          have r28:Row 6 (some b0) (n) c cl27 (flat eLd (segF (segF l a ((a+b) / 2)) ((a+b) / 2) b)):=r28
          refine seq_nil ?_
          exact ⟨.tuple #[],Ret.r0 rfl , ⟨cl27,rfl,hI.pickL [0] (by decide) rfl,r28.to hAll.1 rfl⟩⟩
         ·intro h49
          refine pu (.bool false) rfl (seq_nil (wp_condF rfl (wp_skip ?_)))
          rw [hM.hi (rot_same (by omega) (by omega) (by omega) (by omega)) (by omega)] at hAll
          exact ⟨.tuple #[],Ret.r0 rfl , ⟨cl25,rfl,hI.pickL [0] (by decide) rfl,r26.to hAll.1 rfl⟩⟩
        ·intro h50
         refine pu (.bool false) rfl (of_ rfl (of_ rfl (of_ rfl (pu (.bool false) rfl (seq_nil (wp_condF rfl (wp_skip ?_)))))))
         rw [hM.hi (rot_same (by omega) (by omega) (by omega) (by omega)) (by omega)] at hAll
         exact ⟨.tuple #[],Ret.r0 rfl , ⟨cl25,rfl,hI.pickL [0] (by decide) rfl,r26.to hAll.1 rfl⟩⟩
       ·intro h51
        refine pu (.bool false) rfl (seq_nil (wp_condF rfl (wp_skip (wp_seq (rgn rfl (pu (iv (((a:Int)+(b:Int)) / 2)) rfl (pu (iv (((((a:Int)+(b:Int)) / 2)+(q:Int)) - sv)) rfl (seq_c (s_lss rfl rfl ?_ ?_)))))))))
        ·intro h52
         refine pu (.bool true) rfl (puo (iv (((((a:Int)+(b:Int)) / 2)+(q:Int)) - sv)) ⟨rfl,rfl⟩ (puo (iv (b:Int)) ⟨rfl,rfl⟩ (seq_on rfl (s_lss rfl rfl ?_ ?_))))
         ·intro h53
          refine pu (.bool true) rfl (seq_nil (wp_condT rfl (rgn rfl (pu (slv (some b0) n c) rfl (pu (iv (((a:Int)+(b:Int)) / 2)) rfl (pu (iv (((((a:Int)+(b:Int)) / 2)+(q:Int)) - sv)) rfl (pu (iv (b:Int)) rfl (pu (.func (.func 144) #[] #[]) rfl ?_))))))))
          rw [rot_same (by omega) (by omega) (by omega) (by omega)] at hAll
          rw [hM.lo (rot_same (by omega) (by omega) (by omega) (by omega)) (by omega)] at hAll
          refine seq_c (s_callTurns hI 184 [slv (some b0) n c,iv (((a:Int)+(b:Int)) / 2),iv (((((a:Int)+(b:Int)) / 2)+(q:Int)) - sv),iv (b:Int),.func (.func 144) #[] #[]] 0 rfl (by kernel_rfl) (by rw [show ((((a:Int)+(b:Int)) / 2)+(q:Int)) - sv=(((((a+b) / 2)+q) - s:Nat):Int) by omega,show ((a:Int)+(b:Int)) / 2=(((a+b) / 2:Nat):Int) by omega]; exact IH _ cl l ((a+b) / 2) ((((a+b) / 2)+q) - s) b (hI.hasg 0 rfl) hr (by omega) (by omega) (by omega) (by omega) hAll.2.2.2.1 hAll.2.2.2.2) ?_)
          intro cl29 w hI r30
          have r30:Row 6 (some b0) (n) c cl29 (flat eLd (segF l ((a+b) / 2) b)):=r30
          refine seq_nil ?_
          exact ⟨.tuple #[],Ret.r0 rfl , ⟨cl29,rfl,hI.pickL [0] (by decide) rfl,r30.to hAll.1 rfl⟩⟩
         ·intro h54
          refine pu (.bool false) rfl (seq_nil (wp_condF rfl (wp_skip ?_)))
          rw [rot_same (by omega) (by omega) (by omega) (by omega)] at hAll
          rw [hM.lo (rot_same (by omega) (by omega) (by omega) (by omega)) (by omega),hM.hi2 (rot_same (by omega) (by omega) (by omega) (by omega)) (by omega) (by omega)] at hAll
          exact ⟨.tuple #[],Ret.r0 rfl , ⟨cl,rfl,hI.pickL [0] (by decide) rfl,hr.to hAll.1 rfl⟩⟩
        ·intro h55
         refine pu (.bool false) rfl (of_ rfl (of_ rfl (of_ rfl (pu (.bool false) rfl (seq_nil (wp_condF rfl (wp_skip ?_)))))))
         rw [rot_same (by omega) (by omega) (by omega) (by omega)] at hAll
         rw [hM.lo (rot_same (by omega) (by omega) (by omega) (by omega)) (by omega),hM.hi2 (rot_same (by omega) (by omega) (by omega) (by omega)) (by omega) (by omega)] at hAll
         exact ⟨.tuple #[],Ret.r0 rfl , ⟨cl,rfl,hI.pickL [0] (by decide) rfl,hr.to hAll.1 rfl⟩⟩
      ·intro h56
       refine pu (.bool false) rfl (of_ rfl (of_ rfl (of_ rfl (pu (.bool false) rfl (seq_nil (wp_condF rfl (wp_skip (wp_seq (rgn rfl ?_)))))))))
       refine pu (iv (((a:Int)+(b:Int)) / 2)) rfl (pu (iv (((((a:Int)+(b:Int)) / 2)+(q:Int)) - sv)) rfl (seq_c (s_lss rfl rfl ?_ ?_)))
       ·intro h57
        refine pu (.bool true) rfl (puo (iv (((((a:Int)+(b:Int)) / 2)+(q:Int)) - sv)) ⟨rfl,rfl⟩ (puo (iv (b:Int)) ⟨rfl,rfl⟩ (seq_on rfl (s_lss rfl rfl ?_ ?_))))
        ·intro h58
         refine pu (.bool true) rfl (seq_nil (wp_condT rfl (rgn rfl (pu (slv (some b0) n c) rfl (pu (iv (((a:Int)+(b:Int)) / 2)) rfl (pu (iv (((((a:Int)+(b:Int)) / 2)+(q:Int)) - sv)) rfl (pu (iv (b:Int)) rfl (pu (.func (.func 144) #[] #[]) rfl ?_))))))))
         rw [rot_same (by omega) (by omega) (by omega) (by omega)] at hAll
         rw [hM.lo (rot_same (by omega) (by omega) (by omega) (by omega)) (by omega)] at hAll
         refine seq_c (s_callTurns hI 184 [slv (some b0) n c,iv (((a:Int)+(b:Int)) / 2),iv (((((a:Int)+(b:Int)) / 2)+(q:Int)) - sv),iv (b:Int),.func (.func 144) #[] #[]] 0 rfl (by kernel_rfl) (by rw [show ((((a:Int)+(b:Int)) / 2)+(q:Int)) - sv=(((((a+b) / 2)+q) - s:Nat):Int) by omega,show ((a:Int)+(b:Int)) / 2=(((a+b) / 2:Nat):Int) by omega]; exact IH _ cl l ((a+b) / 2) ((((a+b) / 2)+q) - s) b (hI.hasg 0 rfl) hr (by omega) (by omega) (by omega) (by omega) hAll.2.2.2.1 hAll.2.2.2.2) ?_)
         intro cl31 w hI r32
         have r32:Row 6 (some b0) (n) c cl31 (flat eLd (segF l ((a+b) / 2) b)):=r32
         refine seq_nil ?_
         exact ⟨.tuple #[],Ret.r0 rfl , ⟨cl31,rfl,hI.pickL [0] (by decide) rfl,r32.to hAll.1 rfl⟩⟩
        ·intro h59
         refine pu (.bool false) rfl (seq_nil (wp_condF rfl (wp_skip ?_)))
         rw [rot_same (by omega) (by omega) (by omega) (by omega)] at hAll
         rw [hM.lo (rot_same (by omega) (by omega) (by omega) (by omega)) (by omega),hM.hi2 (rot_same (by omega) (by omega) (by omega) (by omega)) (by omega) (by omega)] at hAll
         exact ⟨.tuple #[],Ret.r0 rfl , ⟨cl,rfl,hI.pickL [0] (by decide) rfl,hr.to hAll.1 rfl⟩⟩
       ·intro h60
        refine pu (.bool false) rfl (of_ rfl (of_ rfl (of_ rfl (pu (.bool false) rfl (seq_nil (wp_condF rfl (wp_skip ?_)))))))
        rw [rot_same (by omega) (by omega) (by omega) (by omega)] at hAll
        rw [hM.lo (rot_same (by omega) (by omega) (by omega) (by omega)) (by omega),hM.hi2 (rot_same (by omega) (by omega) (by omega) (by omega)) (by omega) (by omega)] at hAll
        exact ⟨.tuple #[],Ret.r0 rfl , ⟨cl,rfl,hI.pickL [0] (by decide) rfl,hr.to hAll.1 rfl⟩⟩
   ·intro h61
    refine seq_nil (wp_condF rfl (wp_seq (rgn rfl (pu (iv (a:Int)) rfl (pu (iv (a:Int)) rfl (seq_nil (rgn rfl (pu (iv (q:Int)) rfl (pu (iv (q:Int)) rfl ?_)))))))))
    refine seq_nil (wp_seq (rgn rfl (pu (iv ((((a:Int)+(b:Int)) / 2)+(q:Int))) rfl (seq_c (s_sub rfl rfl (by omega) ?_)))))
    refine pu (iv (((((a:Int)+(b:Int)) / 2)+(q:Int)) - 1)) rfl (seq_nil (wp_seq (wp_block ?_)))
    refine wp_loop (fun m ρ w=>∃ (s:Nat) (r:Nat) (sv:Int) (rv:Int),Agree ρ [(0,slv (some b0) n c),(1,iv (a:Int)),(2,iv (q:Int)),(3,iv (b:Int)),(4,.func (.func 144) #[] #[]),(18,iv (((a:Int)+(b:Int)) / 2)),(19,iv ((((a:Int)+(b:Int)) / 2)+(q:Int))),(20,iv sv),(21,iv rv),(22,iv (((((a:Int)+(b:Int)) / 2)+(q:Int)) - 1))]∧Inv [b0] w0 w [(some b0,blk cl 30)]∧(sv=((s:Nat):Int))∧(rv=((r:Nat):Int))∧(a≤s∧s≤r∧r≤q)∧(∀ x y,a < s→l[s - 1]?=some x→l[(a+b) / 2+q - s]?=some y→x.hr≤y.hr)∧(∀ x y,r < q→l[r]?=some x→l[(a+b) / 2+q - 1 - r]?=some y→y.hr < x.hr)∧m=r - s) (m:=q - a) ⟨a,q,(a:Int),(q:Int),⟨rfl,rfl,rfl,rfl,rfl,rfl,rfl,rfl,rfl,rfl,trivial⟩,hI.pickL [0] (by decide) rfl,(by omega),(by omega),(by omega),(fun x y h=>absurd h (by omega)),(fun x y h=>absurd h (by omega)),rfl⟩ ?_
    rintro m ρ w ⟨s,r,sv,rv,hag,hI,hsv,hrv,hsr,f1,f2,hm⟩
    obtain ⟨ρ,rfl⟩:=hag.form; clear hag
    refine wp_seq (wp_seq (rgn rfl (pu (iv sv) rfl (pu (iv rv) rfl (seq_c (s_lss rfl rfl ?_ ?_))))))
    ·intro h62
     refine seq_nil (wp_condT rfl (wp_skip (wp_block ?_)))
     refine wp_seq (rgn rfl (pu (iv sv) rfl (pu (iv rv) rfl (seq_c (s_add rfl rfl (by omega) ?_)))))
     refine seq_c (s_toUM Tryz.underlying3 Tryz.underlying178 rfl (by omega) (by omega) ?_)
     refine seq_c (s_halfM rfl rfl ?_)
     refine seq_c (s_toIM Tryz.underlying178 Tryz.underlying3 rfl (by omega) (by omega) ?_)
     refine pu (iv ((sv+rv) / 2)) rfl (seq_nil (wp_seq (wp_drawn2 hI [0] (by decide) rfl rfl rfl ?_)))
     intro hsub
     refine alp 0 (.func (.func 144) #[] #[]) hsub rfl (by kernel_rfl) (fun _=>rfl) ?_
     refine alp 1 (slv (some b0) n c) hsub rfl (by kernel_rfl) (fun _=>rfl) ?_
     refine alp 2 (iv (((((a:Int)+(b:Int)) / 2)+(q:Int)) - 1)) hsub rfl (by kernel_rfl) (fun _=>rfl) ?_
     refine alp 3 (iv ((sv+rv) / 2)) hsub rfl (by kernel_rfl) (fun _=>rfl) ?_
     refine al_light 4 (iv ((((((a:Int)+(b:Int)) / 2)+(q:Int)) - 1) - ((sv+rv) / 2))) hsub rfl (by kernel_rfl) (fun w hI=>s_sub rfl rfl (by omega) ⟨rfl,Below.refl _ _⟩) ?_
     obtain ⟨x33,hx34⟩:=get_lt (l:=l) (i:=((((a+b) / 2)+q) - 1) - ((s+r) / 2)) (by omega)
     have he35:=hr.atS eLd_len (by decide) hx34
     refine al_light 5 (.pointer (some ⟨b0,(((((a+b) / 2)+q) - 1) - ((s+r) / 2)) * 6,none⟩)) hsub rfl (by kernel_rfl) (fun w hI=>s_indexR (((((a+b) / 2)+q) - 1) - ((s+r) / 2)) Tryz.underlying24 Tryz.sizeOf30 rfl rfl (by omega) (by omega) ⟨rfl,Below.refl _ _⟩) ?_
     refine al_light 6 (.agg #[iv x33.src,iv x33.hr,iv x33.lo,iv x33.hi,iv x33.kn,iv x33.un]) hsub rfl (by kernel_rfl) (fun w hI=>s_loadRK hI 0 [iv x33.src,iv x33.hr,iv x33.lo,iv x33.hi,iv x33.kn,iv x33.un] Tryz.isAgg30 Tryz.sizeOf30 rfl rfl rfl he35 ⟨rfl,Below.refl _ _⟩) ?_
     refine alp 7 (slv (some b0) n c) hsub rfl (by kernel_rfl) (fun _=>rfl) ?_
     refine alp 8 (iv ((sv+rv) / 2)) hsub rfl (by kernel_rfl) (fun _=>rfl) ?_
     obtain ⟨x36,hx37⟩:=get_lt (l:=l) (i:=(s+r) / 2) (by omega)
     have he38:=hr.atS eLd_len (by decide) hx37
     refine al_light 9 (.pointer (some ⟨b0,((s+r) / 2) * 6,none⟩)) hsub rfl (by kernel_rfl) (fun w hI=>s_indexR ((s+r) / 2) Tryz.underlying24 Tryz.sizeOf30 rfl rfl (by omega) (by omega) ⟨rfl,Below.refl _ _⟩) ?_
     refine al_light 10 (.agg #[iv x36.src,iv x36.hr,iv x36.lo,iv x36.hi,iv x36.kn,iv x36.un]) hsub rfl (by kernel_rfl) (fun w hI=>s_loadRK hI 0 [iv x36.src,iv x36.hr,iv x36.lo,iv x36.hi,iv x36.kn,iv x36.un] Tryz.isAgg30 Tryz.sizeOf30 rfl rfl rfl he38 ⟨rfl,Below.refl _ _⟩) ?_
     refine al_light 11 (iv (cmpI x33.hr x36.hr)) hsub rfl (by kernel_rfl) (fun w hI=>s_callV [.agg #[iv x33.src,iv x33.hr,iv x33.lo,iv x33.hi,iv x33.kn,iv x33.un],.agg #[iv x36.src,iv x36.hr,iv x36.lo,iv x36.hi,iv x36.kn,iv x36.un]] rfl (by kernel_rfl) (CallV.of (args':=[.agg (eLd x33).toArray,.agg (eLd x36).toArray]) rfl (sceneOf2_c w x33 x36)) (fun v' w' h=>h)) ?_
     by_cases h63:(cmpI x33.hr x36.hr) < 0
     ·refine al_light 12 (.bool true) hsub rfl (by kernel_rfl) (fun w hI=>s_lss rfl rfl (fun _=>⟨rfl,Below.refl _ _⟩) (fun h=>absurd h63 h)) ?_
      refine alp 13 (.bool false) hsub rfl (by kernel_rfl) (fun _=>rfl) ?_
      refine any_end rfl (fun w hI=>?_)
      refine wp_condF rfl (rgn rfl (pu (iv ((sv+rv) / 2)) rfl (pu (iv ((sv+rv) / 2)) rfl (seq_nil ?_))))
      exact ⟨rfl,_,(by omega),⟨s,(s+r) / 2,sv,(sv+rv) / 2,⟨rfl,rfl,rfl,rfl,rfl,rfl,rfl,rfl,rfl,rfl,trivial⟩,hI.pickL [0] (by decide) rfl,(by omega),(by omega),(by omega),f1,(fun x y _ h1 h2=>by have e1:=Option.some.inj (hx37.symm.trans h1); have e2:=Option.some.inj (hx34.symm.trans h2); subst e1; subst e2; exact cmpI_lt.1 (by assumption)),rfl⟩⟩
     ·refine al_light 12 (.bool false) hsub rfl (by kernel_rfl) (fun w hI=>s_lss rfl rfl (fun h=>absurd h h63) (fun _=>⟨rfl,Below.refl _ _⟩)) ?_
      refine alp 13 (.bool true) hsub rfl (by kernel_rfl) (fun _=>rfl) ?_
      refine any_end rfl (fun w hI=>?_)
      refine wp_condT rfl (rgn rfl (pu (iv ((sv+rv) / 2)) rfl (seq_c (s_add rfl rfl (by omega) ?_))))
      refine pu (iv (((sv+rv) / 2)+1)) rfl (seq_nil ?_)
      exact ⟨rfl,_,(by omega),⟨(s+r) / 2+1,r,((sv+rv) / 2)+1,rv,⟨rfl,rfl,rfl,rfl,rfl,rfl,rfl,rfl,rfl,rfl,trivial⟩,hI.pickL [0] (by decide) rfl,(by omega),(by omega),(by omega),(fun x y _ h1 h2=>by rw [Nat.add_sub_cancel] at h1; rw [show (a+b) / 2+q - ((s+r) / 2+1)=(a+b) / 2+q - 1 - (s+r) / 2 by omega] at h2; have e1:=Option.some.inj (hx37.symm.trans h1); have e2:=Option.some.inj (hx34.symm.trans h2); subst e1; subst e2; exact Int.not_lt.1 fun hc=>absurd (cmpI_lt.2 hc) (by assumption)),f2,rfl⟩⟩
    ·intro h64
     refine seq_nil (wp_condF rfl ?_)
     have hM:Mid l a s q ((a+b) / 2+q - s) b ((a+b) / 2):=⟨by omega,by omega,by omega,by omega,by omega,by omega,hL,hR,fun x y _ _ hx hy=>f1 x y (by omega) hx hy,fun x y _ _ hy hx=>f2 x y (by omega) (by rw [show r=s by omega]; exact hx) (by rw [show (a+b) / 2+q - 1 - r=(a+b) / 2+q - s - 1 by omega]; exact hy)⟩
     have hAll:=hM.all
     refine wp_exit ?_
     refine wp_seq (rgn rfl (pu (iv ((((a:Int)+(b:Int)) / 2)+(q:Int))) rfl (pu (iv sv) rfl (seq_c (s_sub rfl rfl (by omega) ?_)))))
     refine pu (iv (((((a:Int)+(b:Int)) / 2)+(q:Int)) - sv)) rfl (seq_nil (wp_seq (wp_seq (rgn rfl (pu (iv sv) rfl (pu (iv (q:Int)) rfl (seq_c (s_lss rfl rfl ?_ ?_))))))))
     ·intro h65
      refine pu (.bool true) rfl (puo (iv (q:Int)) ⟨rfl,rfl⟩ (puo (iv (((((a:Int)+(b:Int)) / 2)+(q:Int)) - sv)) ⟨rfl,rfl⟩ (seq_on rfl (s_lss rfl rfl ?_ ?_))))
      ·intro h66
       refine pu (.bool true) rfl (seq_nil (wp_condT rfl (rgn rfl (pu (slv (some b0) n c) rfl (pu (iv sv) rfl (pu (iv (q:Int)) rfl (pu (iv (((((a:Int)+(b:Int)) / 2)+(q:Int)) - sv)) rfl (pu (.func (.func 144) #[] #[]) rfl (seq_c (s_callTurns hI 186 [slv (some b0) n c,iv sv,iv (q:Int),iv (((((a:Int)+(b:Int)) / 2)+(q:Int)) - sv),.func (.func 144) #[] #[]] 0 rfl (by kernel_rfl) (by rw [show ((((a:Int)+(b:Int)) / 2)+(q:Int)) - sv=(((((a+b) / 2)+q) - s:Nat):Int) by omega,show sv=((s:Nat):Int) by omega]; exact rotate_c _ b0 n c cl l s q ((((a+b) / 2)+q) - s) (hI.hasg 0 rfl) hr (by omega) (by omega) (by omega) (by omega) (.func (.func 144) #[] #[])) ?_))))))))))
       intro cl39 w hI r40
       have r40:Row 6 (some b0) (n) c cl39 (flat eLd (rotL l s q ((((a+b) / 2)+q) - s))):=r40
       refine seq_nil (wp_seq (wp_seq (rgn rfl (pu (iv (a:Int)) rfl (pu (iv sv) rfl (seq_c (s_lss rfl rfl ?_ ?_)))))))
       ·intro h67
        refine pu (.bool true) rfl (puo (iv sv) ⟨rfl,rfl⟩ (puo (iv (((a:Int)+(b:Int)) / 2)) ⟨rfl,rfl⟩ (seq_on rfl (s_lss rfl rfl ?_ ?_))))
        ·intro h68
         refine pu (.bool true) rfl (seq_nil (wp_condT rfl (rgn rfl (pu (slv (some b0) n c) rfl (pu (iv (a:Int)) rfl (pu (iv sv) rfl (pu (iv (((a:Int)+(b:Int)) / 2)) rfl (pu (.func (.func 144) #[] #[]) rfl (seq_c (s_callTurns hI 184 [slv (some b0) n c,iv (a:Int),iv sv,iv (((a:Int)+(b:Int)) / 2),.func (.func 144) #[] #[]] 0 rfl (by kernel_rfl) (by rw [show ((a:Int)+(b:Int)) / 2=(((a+b) / 2:Nat):Int) by omega,show sv=((s:Nat):Int) by omega]; exact IH _ cl39 (rotL l s q ((((a+b) / 2)+q) - s)) a s ((a+b) / 2) (hI.hasg 0 rfl) r40 (by omega) (by omega) (by omega) (by omega) hAll.2.1 hAll.2.2.1) ?_))))))))))
         intro cl41 w hI r42
         have r42:Row 6 (some b0) (n) c cl41 (flat eLd (segF (rotL l s q ((((a+b) / 2)+q) - s)) a ((a+b) / 2))):=r42
         refine seq_nil (wp_seq (rgn rfl (pu (iv (((a:Int)+(b:Int)) / 2)) rfl (pu (iv (((((a:Int)+(b:Int)) / 2)+(q:Int)) - sv)) rfl (seq_c (s_lss rfl rfl ?_ ?_))))))
         ·intro h69
          refine pu (.bool true) rfl (puo (iv (((((a:Int)+(b:Int)) / 2)+(q:Int)) - sv)) ⟨rfl,rfl⟩ (puo (iv (b:Int)) ⟨rfl,rfl⟩ (seq_on rfl (s_lss rfl rfl ?_ ?_))))
          ·intro h70
           refine pu (.bool true) rfl (seq_nil (wp_condT rfl (rgn rfl (pu (slv (some b0) n c) rfl (pu (iv (((a:Int)+(b:Int)) / 2)) rfl (pu (iv (((((a:Int)+(b:Int)) / 2)+(q:Int)) - sv)) rfl (pu (iv (b:Int)) rfl (pu (.func (.func 144) #[] #[]) rfl (seq_c (s_callTurns hI 184 [slv (some b0) n c,iv (((a:Int)+(b:Int)) / 2),iv (((((a:Int)+(b:Int)) / 2)+(q:Int)) - sv),iv (b:Int),.func (.func 144) #[] #[]] 0 rfl (by kernel_rfl) (by rw [show ((((a:Int)+(b:Int)) / 2)+(q:Int)) - sv=(((((a+b) / 2)+q) - s:Nat):Int) by omega,show ((a:Int)+(b:Int)) / 2=(((a+b) / 2:Nat):Int) by omega]; exact IH _ cl41 (segF (rotL l s q ((((a+b) / 2)+q) - s)) a ((a+b) / 2)) ((a+b) / 2) ((((a+b) / 2)+q) - s) b (hI.hasg 0 rfl) r42 (by omega) (by omega) (by omega) (by omega) hAll.2.2.2.1 hAll.2.2.2.2) ?_))))))))))
           intro cl43 w hI r44
           have r44:Row 6 (some b0) (n) c cl43 (flat eLd (segF (segF (rotL l s q ((((a+b) / 2)+q) - s)) a ((a+b) / 2)) ((a+b) / 2) b)):=r44
           refine seq_nil ?_
           exact ⟨.tuple #[],Ret.r0 rfl , ⟨cl43,rfl,hI.pickL [0] (by decide) rfl,r44.to hAll.1 rfl⟩⟩
          ·intro h71
           refine pu (.bool false) rfl (seq_nil (wp_condF rfl (wp_skip ?_)))
           rw [hM.hi rfl (by omega)] at hAll
           exact ⟨.tuple #[],Ret.r0 rfl , ⟨cl41,rfl,hI.pickL [0] (by decide) rfl,r42.to hAll.1 rfl⟩⟩
         ·intro h72
          refine pu (.bool false) rfl (of_ rfl (of_ rfl (of_ rfl (pu (.bool false) rfl (seq_nil (wp_condF rfl (wp_skip ?_)))))))
          rw [hM.hi rfl (by omega)] at hAll
          exact ⟨.tuple #[],Ret.r0 rfl , ⟨cl41,rfl,hI.pickL [0] (by decide) rfl,r42.to hAll.1 rfl⟩⟩
        ·intro h73
         refine pu (.bool false) rfl (seq_nil (wp_condF rfl (wp_skip (wp_seq (rgn rfl (pu (iv (((a:Int)+(b:Int)) / 2)) rfl (pu (iv (((((a:Int)+(b:Int)) / 2)+(q:Int)) - sv)) rfl (seq_c (s_lss rfl rfl ?_ ?_)))))))))
         ·intro h74
          refine pu (.bool true) rfl (puo (iv (((((a:Int)+(b:Int)) / 2)+(q:Int)) - sv)) ⟨rfl,rfl⟩ (puo (iv (b:Int)) ⟨rfl,rfl⟩ (seq_on rfl (s_lss rfl rfl ?_ ?_))))
          ·intro h75
           refine pu (.bool true) rfl (seq_nil (wp_condT rfl (rgn rfl (pu (slv (some b0) n c) rfl (pu (iv (((a:Int)+(b:Int)) / 2)) rfl (pu (iv (((((a:Int)+(b:Int)) / 2)+(q:Int)) - sv)) rfl (pu (iv (b:Int)) rfl (pu (.func (.func 144) #[] #[]) rfl ?_))))))))
           rw [hM.lo rfl (by omega)] at hAll
           refine seq_c (s_callTurns hI 184 [slv (some b0) n c,iv (((a:Int)+(b:Int)) / 2),iv (((((a:Int)+(b:Int)) / 2)+(q:Int)) - sv),iv (b:Int),.func (.func 144) #[] #[]] 0 rfl (by kernel_rfl) (by rw [show ((((a:Int)+(b:Int)) / 2)+(q:Int)) - sv=(((((a+b) / 2)+q) - s:Nat):Int) by omega,show ((a:Int)+(b:Int)) / 2=(((a+b) / 2:Nat):Int) by omega]; exact IH _ cl39 (rotL l s q ((((a+b) / 2)+q) - s)) ((a+b) / 2) ((((a+b) / 2)+q) - s) b (hI.hasg 0 rfl) r40 (by omega) (by omega) (by omega) (by omega) hAll.2.2.2.1 hAll.2.2.2.2) ?_)
           intro cl45 w hI r46
           have r46:Row 6 (some b0) (n) c cl45 (flat eLd (segF (rotL l s q ((((a+b) / 2)+q) - s)) ((a+b) / 2) b)):=r46
           refine seq_nil ?_
           exact ⟨.tuple #[],Ret.r0 rfl , ⟨cl45,rfl,hI.pickL [0] (by decide) rfl,r46.to hAll.1 rfl⟩⟩
          ·intro h76
           refine pu (.bool false) rfl (seq_nil (wp_condF rfl (wp_skip ?_)))
           rw [hM.lo rfl (by omega),hM.hi2 rfl (by omega) (by omega)] at hAll
           exact ⟨.tuple #[],Ret.r0 rfl , ⟨cl39,rfl,hI.pickL [0] (by decide) rfl,r40.to hAll.1 rfl⟩⟩
         ·intro h77
          refine pu (.bool false) rfl (of_ rfl (of_ rfl (of_ rfl (pu (.bool false) rfl (seq_nil (wp_condF rfl (wp_skip ?_)))))))
          rw [hM.lo rfl (by omega),hM.hi2 rfl (by omega) (by omega)] at hAll
          exact ⟨.tuple #[],Ret.r0 rfl , ⟨cl39,rfl,hI.pickL [0] (by decide) rfl,r40.to hAll.1 rfl⟩⟩
       ·intro h78
        refine pu (.bool false) rfl (of_ rfl (of_ rfl (of_ rfl (pu (.bool false) rfl (seq_nil (wp_condF rfl (wp_skip (wp_seq (rgn rfl ?_)))))))))
        refine pu (iv (((a:Int)+(b:Int)) / 2)) rfl (pu (iv (((((a:Int)+(b:Int)) / 2)+(q:Int)) - sv)) rfl (seq_c (s_lss rfl rfl ?_ ?_)))
        ·intro h79
         refine pu (.bool true) rfl (puo (iv (((((a:Int)+(b:Int)) / 2)+(q:Int)) - sv)) ⟨rfl,rfl⟩ (puo (iv (b:Int)) ⟨rfl,rfl⟩ (seq_on rfl (s_lss rfl rfl ?_ ?_))))
         ·intro h80
          refine pu (.bool true) rfl (seq_nil (wp_condT rfl (rgn rfl (pu (slv (some b0) n c) rfl (pu (iv (((a:Int)+(b:Int)) / 2)) rfl (pu (iv (((((a:Int)+(b:Int)) / 2)+(q:Int)) - sv)) rfl (pu (iv (b:Int)) rfl (pu (.func (.func 144) #[] #[]) rfl ?_))))))))
          rw [hM.lo rfl (by omega)] at hAll
          refine seq_c (s_callTurns hI 184 [slv (some b0) n c,iv (((a:Int)+(b:Int)) / 2),iv (((((a:Int)+(b:Int)) / 2)+(q:Int)) - sv),iv (b:Int),.func (.func 144) #[] #[]] 0 rfl (by kernel_rfl) (by rw [show ((((a:Int)+(b:Int)) / 2)+(q:Int)) - sv=(((((a+b) / 2)+q) - s:Nat):Int) by omega,show ((a:Int)+(b:Int)) / 2=(((a+b) / 2:Nat):Int) by omega]; exact IH _ cl39 (rotL l s q ((((a+b) / 2)+q) - s)) ((a+b) / 2) ((((a+b) / 2)+q) - s) b (hI.hasg 0 rfl) r40 (by omega) (by omega) (by omega) (by omega) hAll.2.2.2.1 hAll.2.2.2.2) ?_)
          intro cl47 w hI r48
          have r48:Row 6 (some b0) (n) c cl47 (flat eLd (segF (rotL l s q ((((a+b) / 2)+q) - s)) ((a+b) / 2) b)):=r48
          refine seq_nil ?_
          exact ⟨.tuple #[],Ret.r0 rfl , ⟨cl47,rfl,hI.pickL [0] (by decide) rfl,r48.to hAll.1 rfl⟩⟩
         ·intro h81
          refine pu (.bool false) rfl (seq_nil (wp_condF rfl (wp_skip ?_)))
          rw [hM.lo rfl (by omega),hM.hi2 rfl (by omega) (by omega)] at hAll
          exact ⟨.tuple #[],Ret.r0 rfl , ⟨cl39,rfl,hI.pickL [0] (by decide) rfl,r40.to hAll.1 rfl⟩⟩
        ·intro h82
         refine pu (.bool false) rfl (of_ rfl (of_ rfl (of_ rfl (pu (.bool false) rfl (seq_nil (wp_condF rfl (wp_skip ?_)))))))
         rw [hM.lo rfl (by omega),hM.hi2 rfl (by omega) (by omega)] at hAll
         exact ⟨.tuple #[],Ret.r0 rfl , ⟨cl39,rfl,hI.pickL [0] (by decide) rfl,r40.to hAll.1 rfl⟩⟩
      ·intro h83
       refine pu (.bool false) rfl (seq_nil (wp_condF rfl (wp_skip (wp_seq (wp_seq (rgn rfl (pu (iv (a:Int)) rfl (pu (iv sv) rfl (seq_c (s_lss rfl rfl ?_ ?_))))))))))
       ·intro h84
        refine pu (.bool true) rfl (puo (iv sv) ⟨rfl,rfl⟩ (puo (iv (((a:Int)+(b:Int)) / 2)) ⟨rfl,rfl⟩ (seq_on rfl (s_lss rfl rfl ?_ ?_))))
        ·intro h85
         refine pu (.bool true) rfl (seq_nil (wp_condT rfl (rgn rfl (pu (slv (some b0) n c) rfl (pu (iv (a:Int)) rfl (pu (iv sv) rfl (pu (iv (((a:Int)+(b:Int)) / 2)) rfl (pu (.func (.func 144) #[] #[]) rfl ?_))))))))
         rw [rot_same (by omega) (by omega) (by omega) (by omega)] at hAll
         refine seq_c (s_callTurns hI 184 [slv (some b0) n c,iv (a:Int),iv sv,iv (((a:Int)+(b:Int)) / 2),.func (.func 144) #[] #[]] 0 rfl (by kernel_rfl) (by rw [show ((a:Int)+(b:Int)) / 2=(((a+b) / 2:Nat):Int) by omega,show sv=((s:Nat):Int) by omega]; exact IH _ cl l a s ((a+b) / 2) (hI.hasg 0 rfl) hr (by omega) (by omega) (by omega) (by omega) hAll.2.1 hAll.2.2.1) ?_)
         intro cl49 w hI r50
         have r50:Row 6 (some b0) (n) c cl49 (flat eLd (segF l a ((a+b) / 2))):=r50
         refine seq_nil (wp_seq (rgn rfl (pu (iv (((a:Int)+(b:Int)) / 2)) rfl (pu (iv (((((a:Int)+(b:Int)) / 2)+(q:Int)) - sv)) rfl (seq_c (s_lss rfl rfl ?_ ?_))))))
         ·intro h86
          refine pu (.bool true) rfl (puo (iv (((((a:Int)+(b:Int)) / 2)+(q:Int)) - sv)) ⟨rfl,rfl⟩ (puo (iv (b:Int)) ⟨rfl,rfl⟩ (seq_on rfl (s_lss rfl rfl ?_ ?_))))
          ·intro h87
           refine pu (.bool true) rfl (seq_nil (wp_condT rfl (rgn rfl (pu (slv (some b0) n c) rfl (pu (iv (((a:Int)+(b:Int)) / 2)) rfl (pu (iv (((((a:Int)+(b:Int)) / 2)+(q:Int)) - sv)) rfl (pu (iv (b:Int)) rfl (pu (.func (.func 144) #[] #[]) rfl (seq_c (s_callTurns hI 184 [slv (some b0) n c,iv (((a:Int)+(b:Int)) / 2),iv (((((a:Int)+(b:Int)) / 2)+(q:Int)) - sv),iv (b:Int),.func (.func 144) #[] #[]] 0 rfl (by kernel_rfl) (by rw [show ((((a:Int)+(b:Int)) / 2)+(q:Int)) - sv=(((((a+b) / 2)+q) - s:Nat):Int) by omega,show ((a:Int)+(b:Int)) / 2=(((a+b) / 2:Nat):Int) by omega]; exact IH _ cl49 (segF l a ((a+b) / 2)) ((a+b) / 2) ((((a+b) / 2)+q) - s) b (hI.hasg 0 rfl) r50 (by omega) (by omega) (by omega) (by omega) hAll.2.2.2.1 hAll.2.2.2.2) ?_))))))))))
           intro cl51 w hI r52
           have r52:Row 6 (some b0) (n) c cl51 (flat eLd (segF (segF l a ((a+b) / 2)) ((a+b) / 2) b)):=r52
           refine seq_nil ?_
           exact ⟨.tuple #[],Ret.r0 rfl , ⟨cl51,rfl,hI.pickL [0] (by decide) rfl,r52.to hAll.1 rfl⟩⟩
          ·intro h88
           refine pu (.bool false) rfl (seq_nil (wp_condF rfl (wp_skip ?_)))
           rw [hM.hi (rot_same (by omega) (by omega) (by omega) (by omega)) (by omega)] at hAll
           exact ⟨.tuple #[],Ret.r0 rfl , ⟨cl49,rfl,hI.pickL [0] (by decide) rfl,r50.to hAll.1 rfl⟩⟩
         ·intro h89
          refine pu (.bool false) rfl (of_ rfl (of_ rfl (of_ rfl (pu (.bool false) rfl (seq_nil (wp_condF rfl (wp_skip ?_)))))))
          rw [hM.hi (rot_same (by omega) (by omega) (by omega) (by omega)) (by omega)] at hAll
          exact ⟨.tuple #[],Ret.r0 rfl , ⟨cl49,rfl,hI.pickL [0] (by decide) rfl,r50.to hAll.1 rfl⟩⟩
        ·intro h90
         refine pu (.bool false) rfl (seq_nil (wp_condF rfl (wp_skip (wp_seq (rgn rfl (pu (iv (((a:Int)+(b:Int)) / 2)) rfl (pu (iv (((((a:Int)+(b:Int)) / 2)+(q:Int)) - sv)) rfl (seq_c (s_lss rfl rfl ?_ ?_)))))))))
         ·intro h91
          refine pu (.bool true) rfl (puo (iv (((((a:Int)+(b:Int)) / 2)+(q:Int)) - sv)) ⟨rfl,rfl⟩ (puo (iv (b:Int)) ⟨rfl,rfl⟩ (seq_on rfl (s_lss rfl rfl ?_ ?_))))
          ·intro h92
           refine pu (.bool true) rfl (seq_nil (wp_condT rfl (rgn rfl (pu (slv (some b0) n c) rfl (pu (iv (((a:Int)+(b:Int)) / 2)) rfl (pu (iv (((((a:Int)+(b:Int)) / 2)+(q:Int)) - sv)) rfl (pu (iv (b:Int)) rfl (pu (.func (.func 144) #[] #[]) rfl ?_))))))))
           rw [rot_same (by omega) (by omega) (by omega) (by omega)] at hAll
           rw [hM.lo (rot_same (by omega) (by omega) (by omega) (by omega)) (by omega)] at hAll
           refine seq_c (s_callTurns hI 184 [slv (some b0) n c,iv (((a:Int)+(b:Int)) / 2),iv (((((a:Int)+(b:Int)) / 2)+(q:Int)) - sv),iv (b:Int),.func (.func 144) #[] #[]] 0 rfl (by kernel_rfl) (by rw [show ((((a:Int)+(b:Int)) / 2)+(q:Int)) - sv=(((((a+b) / 2)+q) - s:Nat):Int) by omega,show ((a:Int)+(b:Int)) / 2=(((a+b) / 2:Nat):Int) by omega]; exact IH _ cl l ((a+b) / 2) ((((a+b) / 2)+q) - s) b (hI.hasg 0 rfl) hr (by omega) (by omega) (by omega) (by omega) hAll.2.2.2.1 hAll.2.2.2.2) ?_)
           intro cl53 w hI r54
           have r54:Row 6 (some b0) (n) c cl53 (flat eLd (segF l ((a+b) / 2) b)):=r54
           refine seq_nil ?_
           exact ⟨.tuple #[],Ret.r0 rfl , ⟨cl53,rfl,hI.pickL [0] (by decide) rfl,r54.to hAll.1 rfl⟩⟩
          ·intro h93
           refine pu (.bool false) rfl (seq_nil (wp_condF rfl (wp_skip ?_)))
           rw [rot_same (by omega) (by omega) (by omega) (by omega)] at hAll
           rw [hM.lo (rot_same (by omega) (by omega) (by omega) (by omega)) (by omega),hM.hi2 (rot_same (by omega) (by omega) (by omega) (by omega)) (by omega) (by omega)] at hAll
           exact ⟨.tuple #[],Ret.r0 rfl , ⟨cl,rfl,hI.pickL [0] (by decide) rfl,hr.to hAll.1 rfl⟩⟩
         ·intro h94
          refine pu (.bool false) rfl (of_ rfl (of_ rfl (of_ rfl (pu (.bool false) rfl (seq_nil (wp_condF rfl (wp_skip ?_)))))))
          rw [rot_same (by omega) (by omega) (by omega) (by omega)] at hAll
          rw [hM.lo (rot_same (by omega) (by omega) (by omega) (by omega)) (by omega),hM.hi2 (rot_same (by omega) (by omega) (by omega) (by omega)) (by omega) (by omega)] at hAll
          exact ⟨.tuple #[],Ret.r0 rfl , ⟨cl,rfl,hI.pickL [0] (by decide) rfl,hr.to hAll.1 rfl⟩⟩
       ·intro h95
        refine pu (.bool false) rfl (of_ rfl (of_ rfl (of_ rfl (pu (.bool false) rfl (seq_nil (wp_condF rfl (wp_skip (wp_seq (rgn rfl ?_)))))))))
        refine pu (iv (((a:Int)+(b:Int)) / 2)) rfl (pu (iv (((((a:Int)+(b:Int)) / 2)+(q:Int)) - sv)) rfl (seq_c (s_lss rfl rfl ?_ ?_)))
        ·intro h96
         refine pu (.bool true) rfl (puo (iv (((((a:Int)+(b:Int)) / 2)+(q:Int)) - sv)) ⟨rfl,rfl⟩ (puo (iv (b:Int)) ⟨rfl,rfl⟩ (seq_on rfl (s_lss rfl rfl ?_ ?_))))
         ·intro h97
          refine pu (.bool true) rfl (seq_nil (wp_condT rfl (rgn rfl (pu (slv (some b0) n c) rfl (pu (iv (((a:Int)+(b:Int)) / 2)) rfl (pu (iv (((((a:Int)+(b:Int)) / 2)+(q:Int)) - sv)) rfl (pu (iv (b:Int)) rfl (pu (.func (.func 144) #[] #[]) rfl ?_))))))))
          rw [rot_same (by omega) (by omega) (by omega) (by omega)] at hAll
          rw [hM.lo (rot_same (by omega) (by omega) (by omega) (by omega)) (by omega)] at hAll
          refine seq_c (s_callTurns hI 184 [slv (some b0) n c,iv (((a:Int)+(b:Int)) / 2),iv (((((a:Int)+(b:Int)) / 2)+(q:Int)) - sv),iv (b:Int),.func (.func 144) #[] #[]] 0 rfl (by kernel_rfl) (by rw [show ((((a:Int)+(b:Int)) / 2)+(q:Int)) - sv=(((((a+b) / 2)+q) - s:Nat):Int) by omega,show ((a:Int)+(b:Int)) / 2=(((a+b) / 2:Nat):Int) by omega]; exact IH _ cl l ((a+b) / 2) ((((a+b) / 2)+q) - s) b (hI.hasg 0 rfl) hr (by omega) (by omega) (by omega) (by omega) hAll.2.2.2.1 hAll.2.2.2.2) ?_)
          intro cl55 w hI r56
          have r56:Row 6 (some b0) (n) c cl55 (flat eLd (segF l ((a+b) / 2) b)):=r56
          refine seq_nil ?_
          exact ⟨.tuple #[],Ret.r0 rfl , ⟨cl55,rfl,hI.pickL [0] (by decide) rfl,r56.to hAll.1 rfl⟩⟩
         ·intro h98
          refine pu (.bool false) rfl (seq_nil (wp_condF rfl (wp_skip ?_)))
          rw [rot_same (by omega) (by omega) (by omega) (by omega)] at hAll
          rw [hM.lo (rot_same (by omega) (by omega) (by omega) (by omega)) (by omega),hM.hi2 (rot_same (by omega) (by omega) (by omega) (by omega)) (by omega) (by omega)] at hAll
          exact ⟨.tuple #[],Ret.r0 rfl , ⟨cl,rfl,hI.pickL [0] (by decide) rfl,hr.to hAll.1 rfl⟩⟩
        ·intro h99
         refine pu (.bool false) rfl (of_ rfl (of_ rfl (of_ rfl (pu (.bool false) rfl (seq_nil (wp_condF rfl (wp_skip ?_)))))))
         rw [rot_same (by omega) (by omega) (by omega) (by omega)] at hAll
         rw [hM.lo (rot_same (by omega) (by omega) (by omega) (by omega)) (by omega),hM.hi2 (rot_same (by omega) (by omega) (by omega) (by omega)) (by omega) (by omega)] at hAll
         exact ⟨.tuple #[],Ret.r0 rfl , ⟨cl,rfl,hI.pickL [0] (by decide) rfl,hr.to hAll.1 rfl⟩⟩
     ·intro h100
      refine pu (.bool false) rfl (of_ rfl (of_ rfl (of_ rfl (pu (.bool false) rfl (seq_nil (wp_condF rfl (wp_skip (wp_seq (wp_seq ?_)))))))))
      refine rgn rfl (pu (iv (a:Int)) rfl (pu (iv sv) rfl (seq_c (s_lss rfl rfl ?_ ?_))))
      ·intro h101
       refine pu (.bool true) rfl (puo (iv sv) ⟨rfl,rfl⟩ (puo (iv (((a:Int)+(b:Int)) / 2)) ⟨rfl,rfl⟩ (seq_on rfl (s_lss rfl rfl ?_ ?_))))
       ·intro h102
        refine pu (.bool true) rfl (seq_nil (wp_condT rfl (rgn rfl (pu (slv (some b0) n c) rfl (pu (iv (a:Int)) rfl (pu (iv sv) rfl (pu (iv (((a:Int)+(b:Int)) / 2)) rfl (pu (.func (.func 144) #[] #[]) rfl ?_))))))))
        rw [rot_same (by omega) (by omega) (by omega) (by omega)] at hAll
        refine seq_c (s_callTurns hI 184 [slv (some b0) n c,iv (a:Int),iv sv,iv (((a:Int)+(b:Int)) / 2),.func (.func 144) #[] #[]] 0 rfl (by kernel_rfl) (by rw [show ((a:Int)+(b:Int)) / 2=(((a+b) / 2:Nat):Int) by omega,show sv=((s:Nat):Int) by omega]; exact IH _ cl l a s ((a+b) / 2) (hI.hasg 0 rfl) hr (by omega) (by omega) (by omega) (by omega) hAll.2.1 hAll.2.2.1) ?_)
        intro cl57 w hI r58
        have r58:Row 6 (some b0) (n) c cl57 (flat eLd (segF l a ((a+b) / 2))):=r58
        refine seq_nil (wp_seq (rgn rfl (pu (iv (((a:Int)+(b:Int)) / 2)) rfl (pu (iv (((((a:Int)+(b:Int)) / 2)+(q:Int)) - sv)) rfl (seq_c (s_lss rfl rfl ?_ ?_))))))
        ·intro h103
         refine pu (.bool true) rfl (puo (iv (((((a:Int)+(b:Int)) / 2)+(q:Int)) - sv)) ⟨rfl,rfl⟩ (puo (iv (b:Int)) ⟨rfl,rfl⟩ (seq_on rfl (s_lss rfl rfl ?_ ?_))))
         ·intro h104
          refine pu (.bool true) rfl (seq_nil (wp_condT rfl (rgn rfl (pu (slv (some b0) n c) rfl (pu (iv (((a:Int)+(b:Int)) / 2)) rfl (pu (iv (((((a:Int)+(b:Int)) / 2)+(q:Int)) - sv)) rfl (pu (iv (b:Int)) rfl (pu (.func (.func 144) #[] #[]) rfl (seq_c (s_callTurns hI 184 [slv (some b0) n c,iv (((a:Int)+(b:Int)) / 2),iv (((((a:Int)+(b:Int)) / 2)+(q:Int)) - sv),iv (b:Int),.func (.func 144) #[] #[]] 0 rfl (by kernel_rfl) (by rw [show ((((a:Int)+(b:Int)) / 2)+(q:Int)) - sv=(((((a+b) / 2)+q) - s:Nat):Int) by omega,show ((a:Int)+(b:Int)) / 2=(((a+b) / 2:Nat):Int) by omega]; exact IH _ cl57 (segF l a ((a+b) / 2)) ((a+b) / 2) ((((a+b) / 2)+q) - s) b (hI.hasg 0 rfl) r58 (by omega) (by omega) (by omega) (by omega) hAll.2.2.2.1 hAll.2.2.2.2) ?_))))))))))
          intro cl59 w hI r60
          have r60:Row 6 (some b0) (n) c cl59 (flat eLd (segF (segF l a ((a+b) / 2)) ((a+b) / 2) b)):=r60
          refine seq_nil ?_
          exact ⟨.tuple #[],Ret.r0 rfl , ⟨cl59,rfl,hI.pickL [0] (by decide) rfl,r60.to hAll.1 rfl⟩⟩
         ·intro h105
          refine pu (.bool false) rfl (seq_nil (wp_condF rfl (wp_skip ?_)))
          rw [hM.hi (rot_same (by omega) (by omega) (by omega) (by omega)) (by omega)] at hAll
          exact ⟨.tuple #[],Ret.r0 rfl , ⟨cl57,rfl,hI.pickL [0] (by decide) rfl,r58.to hAll.1 rfl⟩⟩
        ·intro h106
         refine pu (.bool false) rfl (of_ rfl (of_ rfl (of_ rfl (pu (.bool false) rfl (seq_nil (wp_condF rfl (wp_skip ?_)))))))
         rw [hM.hi (rot_same (by omega) (by omega) (by omega) (by omega)) (by omega)] at hAll
         exact ⟨.tuple #[],Ret.r0 rfl , ⟨cl57,rfl,hI.pickL [0] (by decide) rfl,r58.to hAll.1 rfl⟩⟩
       ·intro h107
        refine pu (.bool false) rfl (seq_nil (wp_condF rfl (wp_skip (wp_seq (rgn rfl (pu (iv (((a:Int)+(b:Int)) / 2)) rfl (pu (iv (((((a:Int)+(b:Int)) / 2)+(q:Int)) - sv)) rfl (seq_c (s_lss rfl rfl ?_ ?_)))))))))
        ·intro h108
         refine pu (.bool true) rfl (puo (iv (((((a:Int)+(b:Int)) / 2)+(q:Int)) - sv)) ⟨rfl,rfl⟩ (puo (iv (b:Int)) ⟨rfl,rfl⟩ (seq_on rfl (s_lss rfl rfl ?_ ?_))))
         ·intro h109
          refine pu (.bool true) rfl (seq_nil (wp_condT rfl (rgn rfl (pu (slv (some b0) n c) rfl (pu (iv (((a:Int)+(b:Int)) / 2)) rfl (pu (iv (((((a:Int)+(b:Int)) / 2)+(q:Int)) - sv)) rfl (pu (iv (b:Int)) rfl (pu (.func (.func 144) #[] #[]) rfl ?_))))))))
          rw [rot_same (by omega) (by omega) (by omega) (by omega)] at hAll
          rw [hM.lo (rot_same (by omega) (by omega) (by omega) (by omega)) (by omega)] at hAll
          refine seq_c (s_callTurns hI 184 [slv (some b0) n c,iv (((a:Int)+(b:Int)) / 2),iv (((((a:Int)+(b:Int)) / 2)+(q:Int)) - sv),iv (b:Int),.func (.func 144) #[] #[]] 0 rfl (by kernel_rfl) (by rw [show ((((a:Int)+(b:Int)) / 2)+(q:Int)) - sv=(((((a+b) / 2)+q) - s:Nat):Int) by omega,show ((a:Int)+(b:Int)) / 2=(((a+b) / 2:Nat):Int) by omega]; exact IH _ cl l ((a+b) / 2) ((((a+b) / 2)+q) - s) b (hI.hasg 0 rfl) hr (by omega) (by omega) (by omega) (by omega) hAll.2.2.2.1 hAll.2.2.2.2) ?_)
          intro cl61 w hI r62
          have r62:Row 6 (some b0) (n) c cl61 (flat eLd (segF l ((a+b) / 2) b)):=r62
          refine seq_nil ?_
          exact ⟨.tuple #[],Ret.r0 rfl , ⟨cl61,rfl,hI.pickL [0] (by decide) rfl,r62.to hAll.1 rfl⟩⟩
         ·intro h110
          refine pu (.bool false) rfl (seq_nil (wp_condF rfl (wp_skip ?_)))
          rw [rot_same (by omega) (by omega) (by omega) (by omega)] at hAll
          rw [hM.lo (rot_same (by omega) (by omega) (by omega) (by omega)) (by omega),hM.hi2 (rot_same (by omega) (by omega) (by omega) (by omega)) (by omega) (by omega)] at hAll
          exact ⟨.tuple #[],Ret.r0 rfl , ⟨cl,rfl,hI.pickL [0] (by decide) rfl,hr.to hAll.1 rfl⟩⟩
        ·intro h111
         refine pu (.bool false) rfl (of_ rfl (of_ rfl (of_ rfl (pu (.bool false) rfl (seq_nil (wp_condF rfl (wp_skip ?_)))))))
         rw [rot_same (by omega) (by omega) (by omega) (by omega)] at hAll
         rw [hM.lo (rot_same (by omega) (by omega) (by omega) (by omega)) (by omega),hM.hi2 (rot_same (by omega) (by omega) (by omega) (by omega)) (by omega) (by omega)] at hAll
         exact ⟨.tuple #[],Ret.r0 rfl , ⟨cl,rfl,hI.pickL [0] (by decide) rfl,hr.to hAll.1 rfl⟩⟩
      ·intro h112
       refine pu (.bool false) rfl (of_ rfl (of_ rfl (of_ rfl (pu (.bool false) rfl (seq_nil (wp_condF rfl (wp_skip (wp_seq (rgn rfl ?_)))))))))
       refine pu (iv (((a:Int)+(b:Int)) / 2)) rfl (pu (iv (((((a:Int)+(b:Int)) / 2)+(q:Int)) - sv)) rfl (seq_c (s_lss rfl rfl ?_ ?_)))
       ·intro h113
        refine pu (.bool true) rfl (puo (iv (((((a:Int)+(b:Int)) / 2)+(q:Int)) - sv)) ⟨rfl,rfl⟩ (puo (iv (b:Int)) ⟨rfl,rfl⟩ (seq_on rfl (s_lss rfl rfl ?_ ?_))))
        ·intro h114
         refine pu (.bool true) rfl (seq_nil (wp_condT rfl (rgn rfl (pu (slv (some b0) n c) rfl (pu (iv (((a:Int)+(b:Int)) / 2)) rfl (pu (iv (((((a:Int)+(b:Int)) / 2)+(q:Int)) - sv)) rfl (pu (iv (b:Int)) rfl (pu (.func (.func 144) #[] #[]) rfl ?_))))))))
         rw [rot_same (by omega) (by omega) (by omega) (by omega)] at hAll
         rw [hM.lo (rot_same (by omega) (by omega) (by omega) (by omega)) (by omega)] at hAll
         refine seq_c (s_callTurns hI 184 [slv (some b0) n c,iv (((a:Int)+(b:Int)) / 2),iv (((((a:Int)+(b:Int)) / 2)+(q:Int)) - sv),iv (b:Int),.func (.func 144) #[] #[]] 0 rfl (by kernel_rfl) (by rw [show ((((a:Int)+(b:Int)) / 2)+(q:Int)) - sv=(((((a+b) / 2)+q) - s:Nat):Int) by omega,show ((a:Int)+(b:Int)) / 2=(((a+b) / 2:Nat):Int) by omega]; exact IH _ cl l ((a+b) / 2) ((((a+b) / 2)+q) - s) b (hI.hasg 0 rfl) hr (by omega) (by omega) (by omega) (by omega) hAll.2.2.2.1 hAll.2.2.2.2) ?_)
         intro cl63 w hI r64
         have r64:Row 6 (some b0) (n) c cl63 (flat eLd (segF l ((a+b) / 2) b)):=r64
         refine seq_nil ?_
         exact ⟨.tuple #[],Ret.r0 rfl , ⟨cl63,rfl,hI.pickL [0] (by decide) rfl,r64.to hAll.1 rfl⟩⟩
        ·intro h115
         refine pu (.bool false) rfl (seq_nil (wp_condF rfl (wp_skip ?_)))
         rw [rot_same (by omega) (by omega) (by omega) (by omega)] at hAll
         rw [hM.lo (rot_same (by omega) (by omega) (by omega) (by omega)) (by omega),hM.hi2 (rot_same (by omega) (by omega) (by omega) (by omega)) (by omega) (by omega)] at hAll
         exact ⟨.tuple #[],Ret.r0 rfl , ⟨cl,rfl,hI.pickL [0] (by decide) rfl,hr.to hAll.1 rfl⟩⟩
       ·intro h116
        refine pu (.bool false) rfl (of_ rfl (of_ rfl (of_ rfl (pu (.bool false) rfl (seq_nil (wp_condF rfl (wp_skip ?_)))))))
        rw [rot_same (by omega) (by omega) (by omega) (by omega)] at hAll
        rw [hM.lo (rot_same (by omega) (by omega) (by omega) (by omega)) (by omega),hM.hi2 (rot_same (by omega) (by omega) (by omega) (by omega)) (by omega) (by omega)] at hAll
        exact ⟨.tuple #[],Ret.r0 rfl , ⟨cl,rfl,hI.pickL [0] (by decide) rfl,hr.to hAll.1 rfl⟩⟩

end Go.K
