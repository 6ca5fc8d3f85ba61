/- The merge of two stretches of loads. -/
import Derived.Test.YtinkdlmimiefaaaGreatProg
import Derived.Test.YtinkdlmimiefaaaGreatPM27
import Derived.Test.YtinkdlmimiefaaaGreatPSS
namespace Go.K
open Go.Proofs Go.RowKit
set_option linter.unusedVariables false
set_option linter.unusedSimpArgs false
set_option maxRecDepth 100000
attribute [local irreducible] Seq Step CallV AnyE opX

set_option maxHeartbeats 3200000 in
theorem symOne_c (w0:World) (b0 n c:Nat) (cl:List Value) (l:List Ld) (a q b:Nat) (hg:∀ b,some b0=some b→w0.heap[b]?=some (blk cl 30)) (hr:Row 6 (some b0) n c cl (flat eLd l)) (hmax:n≤1000000000) (ha:a < q) (hb:q < b) (hbn:b≤n) (hL:SegSrt l a q) (hR:SegSrt l q b) (hone:q=a+1∨b=q+1):Does Tryz.prog 184 [slv (some b0) n c,.int .i64 (a:Int),.int .i64 (q:Int),.int .i64 (b:Int),.func (.func 144) #[] #[]] w0 fun v w=>TurnsIn 6 30 (some b0) c n (flat eLd (segF l a b)) w0 v w:=by
 have hnl:=hr.n_eq eLd_len (by decide)
 refine calls_of (n:=220) Tryz.func184 rfl Tryz.ntmps184 rfl ?_
 have hI:=Inv.lent w0 (some b0) (blk cl 30) hg
 refine wp_seq (wp_seq (rgn rfl (pu (iv (q:Int)) rfl (pu (iv (a:Int)) rfl (seq_c (s_sub rfl rfl (by omega) ?_))))))
 refine seq_c (s_eql rfl rfl ?_ ?_)
 ·intro h1
  refine seq_nil (wp_condT rfl (wp_seq (rgn rfl (pu (iv (q:Int)) rfl (pu (iv (q:Int)) rfl (seq_nil (wp_seq (rgn rfl (pu (iv (b:Int)) rfl ?_)))))))))
  refine pu (iv (b:Int)) rfl (seq_nil (wp_seq (wp_block ?_)))
  obtain ⟨x1,hx2⟩:=get_lt (l:=l) (i:=a) (by omega)
  have he3:=hr.atS eLd_len (by decide) hx2
  refine wp_loop (fun m ρ w=>∃ (i:Nat) (j:Nat),Agree ρ [(0,slv (some b0) n c),(1,iv (a:Int)),(4,.func (.func 144) #[] #[]),(10,iv (i:Int)),(11,iv (j:Int))]∧Inv [b0] w0 w [(some b0,blk cl 30)]∧(q≤i∧i≤j∧j≤b)∧(∀ p y,q≤p→p < i→l[p]?=some y→y.hr < x1.hr)∧(∀ p y,j≤p→p < b→l[p]?=some y→x1.hr≤y.hr)∧m=j - i) (m:=b - q) ⟨q,b,⟨rfl,rfl,rfl,rfl,rfl,trivial⟩,hI.pickL [0] (by decide) rfl,(by omega),(fun p y h1 h2 _=>by omega),(fun p y h1 h2 _=>by omega),rfl⟩ ?_
  rintro m ρ w ⟨i,j,hag,hI,hij,f1,f2,hm⟩
  obtain ⟨ρ,rfl⟩:=hag.form; clear hag
  refine wp_seq (wp_seq (rgn rfl (pu (iv (i:Int)) rfl (pu (iv (j:Int)) rfl (seq_c (s_lss rfl rfl ?_ ?_))))))
  ·intro h2
   refine seq_nil (wp_condT rfl (wp_skip (wp_block ?_)))
   refine wp_seq (rgn rfl (pu (iv (i:Int)) rfl (pu (iv (j:Int)) rfl (seq_c (s_add rfl rfl (by omega) ?_)))))
   refine seq_c (s_toUM Tryz.underlying3 Tryz.underlying178 rfl (by omega) (by omega) ?_)
   refine seq_c (s_halfM rfl rfl ?_)
   refine seq_c (s_toIM Tryz.underlying178 Tryz.underlying3 rfl (by omega) (by omega) ?_)
   refine pu (iv (((i:Int)+(j:Int)) / 2)) rfl (seq_nil (wp_seq (wp_drawn2 hI [0] (by decide) rfl rfl rfl ?_)))
   intro hsub
   refine alp 0 (.func (.func 144) #[] #[]) hsub rfl (by kernel_rfl) (fun _=>rfl) ?_
   refine alp 1 (slv (some b0) n c) hsub rfl (by kernel_rfl) (fun _=>rfl) ?_
   refine alp 2 (iv (((i:Int)+(j:Int)) / 2)) hsub rfl (by kernel_rfl) (fun _=>rfl) ?_
   obtain ⟨x4,hx5⟩:=get_lt (l:=l) (i:=(i+j) / 2) (by omega)
   have he6:=hr.atS eLd_len (by decide) hx5
   refine al_light 3 (.pointer (some ⟨b0,((i+j) / 2) * 6,none⟩)) hsub rfl (by kernel_rfl) (fun w hI=>s_indexR ((i+j) / 2) Tryz.underlying24 Tryz.sizeOf30 rfl rfl (by omega) (by omega) ⟨rfl,Below.refl _ _⟩) ?_
   refine al_light 4 (.agg #[iv x4.src,iv x4.hr,iv x4.lo,iv x4.hi,iv x4.kn,iv x4.un]) hsub rfl (by kernel_rfl) (fun w hI=>s_loadRK hI 0 [iv x4.src,iv x4.hr,iv x4.lo,iv x4.hi,iv x4.kn,iv x4.un] Tryz.isAgg30 Tryz.sizeOf30 rfl rfl rfl he6 ⟨rfl,Below.refl _ _⟩) ?_
   refine alp 5 (slv (some b0) n c) hsub rfl (by kernel_rfl) (fun _=>rfl) ?_
   refine alp 6 (iv (a:Int)) hsub rfl (by kernel_rfl) (fun _=>rfl) ?_
   obtain ⟨x7,hx8⟩:=get_lt (l:=l) (i:=a) (by omega)
   have he9:=hr.atS eLd_len (by decide) hx8
   refine al_light 7 (.pointer (some ⟨b0,a * 6,none⟩)) hsub rfl (by kernel_rfl) (fun w hI=>s_indexR a Tryz.underlying24 Tryz.sizeOf30 rfl rfl rfl (by omega) ⟨rfl,Below.refl _ _⟩) ?_
   refine al_light 8 (.agg #[iv x7.src,iv x7.hr,iv x7.lo,iv x7.hi,iv x7.kn,iv x7.un]) hsub rfl (by kernel_rfl) (fun w hI=>s_loadRK hI 0 [iv x7.src,iv x7.hr,iv x7.lo,iv x7.hi,iv x7.kn,iv x7.un] Tryz.isAgg30 Tryz.sizeOf30 rfl rfl rfl he9 ⟨rfl,Below.refl _ _⟩) ?_
   refine al_light 9 (iv (cmpI x4.hr x7.hr)) hsub rfl (by kernel_rfl) (fun w hI=>s_callV [.agg #[iv x4.src,iv x4.hr,iv x4.lo,iv x4.hi,iv x4.kn,iv x4.un],.agg #[iv x7.src,iv x7.hr,iv x7.lo,iv x7.hi,iv x7.kn,iv x7.un]] rfl (by kernel_rfl) (CallV.of (args':=[.agg (eLd x4).toArray,.agg (eLd x7).toArray]) rfl (sceneOf2_c w x4 x7)) (fun v' w' h=>h)) ?_
   by_cases h3:(cmpI x4.hr x7.hr) < 0
   ·refine al_light 10 (.bool true) hsub rfl (by kernel_rfl) (fun w hI=>s_lss rfl rfl (fun _=>⟨rfl,Below.refl _ _⟩) (fun h=>absurd h3 h)) ?_
    refine any_end rfl (fun w hI=>?_)
    refine wp_condT rfl (rgn rfl (pu (iv (((i:Int)+(j:Int)) / 2)) rfl (seq_c (s_add rfl rfl (by omega) ?_))))
    refine pu (iv ((((i:Int)+(j:Int)) / 2)+1)) rfl (seq_nil ?_)
    exact ⟨rfl,_,(by omega),⟨(i+j) / 2+1,j,⟨rfl,rfl,rfl,rfl,rfl,trivial⟩,hI.pickL [0] (by decide) rfl,(by omega),(fun p y h1 h2 h3=>Int.lt_of_le_of_lt (hR p ((i+j) / 2) y x4 h1 (by omega) (by omega) h3 hx5) (cmpI_lt.1 (by first | assumption | (have e9:=Option.some.inj (hx8.symm.trans hx2); rw [← e9]; assumption)))),f2,rfl⟩⟩
   ·refine al_light 10 (.bool false) hsub rfl (by kernel_rfl) (fun w hI=>s_lss rfl rfl (fun h=>absurd h h3) (fun _=>⟨rfl,Below.refl _ _⟩)) ?_
    refine any_end rfl (fun w hI=>?_)
    refine wp_condF rfl (rgn rfl (pu (iv (((i:Int)+(j:Int)) / 2)) rfl (pu (iv (((i:Int)+(j:Int)) / 2)) rfl (seq_nil ?_))))
    exact ⟨rfl,_,(by omega),⟨i,(i+j) / 2,⟨rfl,rfl,rfl,rfl,rfl,trivial⟩,hI.pickL [0] (by decide) rfl,(by omega),f1,(fun p y h1 h2 h3=>Int.le_trans (Int.not_lt.1 fun hc=>absurd (cmpI_lt.2 hc) (by first | assumption | (have e9:=Option.some.inj (hx8.symm.trans hx2); rw [← e9]; assumption))) (hR ((i+j) / 2) p x4 y (by omega) h1 h2 hx5 h3)),rfl⟩⟩
  ·intro h4
   refine seq_nil (wp_condF rfl (wp_exit ?_))
   refine wp_seq (wp_seq (rgn rfl (pu (iv (a:Int)) rfl (pu (iv (a:Int)) rfl (seq_nil (wp_block ?_))))))
   refine wp_loop (fun m ρ w=>∃ (k:Nat) (ccl:List Value),Agree ρ [(0,slv (some b0) n c),(10,iv (i:Int)),(13,iv (k:Int))]∧Inv [b0] w0 w [(some b0,blk ccl 30)]∧(a≤k∧k+1≤i)∧(Row 6 (some b0) n c ccl (flat eLd (rotL l a (a+1) (k+1))))∧m=i - k) (m:=i - a) ⟨a,cl,⟨rfl,rfl,rfl,trivial⟩,hI.pickL [0] (by decide) rfl,(by omega),(by rw [rot_same (by omega) (by omega) (by omega) (.inr rfl)]; exact hr),rfl⟩ ?_
   rintro m ρ w ⟨k,ccl,hag,hI,hk,hrr,hm⟩
   obtain ⟨ρ,rfl⟩:=hag.form; clear hag
   have hml:=rotL_len (l:=l) (a:=a) (m:=a+1) (b:=k+1) (by omega) (by omega) (by omega)
   refine wp_seq (wp_seq (rgn rfl (pu (iv (k:Int)) rfl (pu (iv (i:Int)) rfl (seq_c (s_sub rfl rfl (by omega) ?_))))))
   refine seq_c (s_lss rfl rfl ?_ ?_)
   ·intro h5
    refine seq_nil (wp_condT rfl (wp_skip (wp_seq (wp_block ?_))))
    obtain ⟨x10,hx11⟩:=get_lt (l:=(rotL l a (a+1) (k+1))) (i:=k) (by omega)
    have he12:=hrr.atS eLd_len (by decide) hx11
    obtain ⟨x13,hx14⟩:=get_lt (l:=(rotL l a (a+1) (k+1))) (i:=k+1) (by omega)
    have he15:=hrr.atS eLd_len (by decide) hx14
    replace hI:=hI.pickL [0] (by decide) rfl
    refine wp_drawn2 hI [] (by decide) rfl rfl rfl ?_
    intro hsub
    refine alp 0 (slv (some b0) n c) hsub rfl (by kernel_rfl) (fun _=>rfl) ?_
    refine alp 1 (iv (k:Int)) hsub rfl (by kernel_rfl) (fun _=>rfl) ?_
    refine alp 2 (slv (some b0) n c) hsub rfl (by kernel_rfl) (fun _=>rfl) ?_
    refine alp 3 (iv (k:Int)) hsub rfl (by kernel_rfl) (fun _=>rfl) ?_
    refine al_light 4 (iv ((k:Int)+1)) hsub rfl (by kernel_rfl) (fun w hI=>s_add rfl rfl (by omega) ⟨rfl,Below.refl _ _⟩) ?_
    refine alp 5 (slv (some b0) n c) hsub rfl (by kernel_rfl) (fun _=>rfl) ?_
    refine alp 6 (iv (k:Int)) hsub rfl (by kernel_rfl) (fun _=>rfl) ?_
    refine al_light 7 (iv ((k:Int)+1)) hsub rfl (by kernel_rfl) (fun w hI=>s_add rfl rfl (by omega) ⟨rfl,Below.refl _ _⟩) ?_
    refine al_light 8 (.pointer (some ⟨b0,(k+1) * 6,none⟩)) hsub rfl (by kernel_rfl) (fun w hI=>s_indexR (k+1) Tryz.underlying24 Tryz.sizeOf30 rfl rfl (by omega) (by omega) ⟨rfl,Below.refl _ _⟩) ?_
    refine alp 10 (slv (some b0) n c) hsub rfl (by kernel_rfl) (fun _=>rfl) ?_
    refine alp 11 (iv (k:Int)) hsub rfl (by kernel_rfl) (fun _=>rfl) ?_
    refine al_light 12 (.pointer (some ⟨b0,k * 6,none⟩)) hsub rfl (by kernel_rfl) (fun w hI=>s_indexR k Tryz.underlying24 Tryz.sizeOf30 rfl rfl rfl (by omega) ⟨rfl,Below.refl _ _⟩) ?_
    refine any_heavy [9,13] (by kernel_rfl) rfl (each2 ?_ ?_)
    ·intro w hI
     refine ol_c rfl (s_loadRK hI 0 [iv x13.src,iv x13.hr,iv x13.lo,iv x13.hi,iv x13.kn,iv x13.un] Tryz.isAgg30 Tryz.sizeOf30 rfl rfl rfl he15 ?_)
     refine ⟨_,hI,subk (fun _ h=>h.pickL [] (by decide) rfl) ?_⟩
     intro hsub
     refine any_heavy [13] (by kernel_rfl) rfl (each1 ?_)
     intro w hI
     refine ol_c rfl (s_loadRK hI 0 [iv x10.src,iv x10.hr,iv x10.lo,iv x10.hi,iv x10.kn,iv x10.un] Tryz.isAgg30 Tryz.sizeOf30 rfl rfl rfl he12 ?_)
     refine ⟨_,hI,subk (fun _ h=>h.pickL [] (by decide) rfl) ?_⟩
     intro hsub
     refine al_light 14 (.pointer (some ⟨b0,k * 6,none⟩)) hsub rfl (by kernel_rfl) (fun w hI=>s_indexR k Tryz.underlying24 Tryz.sizeOf30 rfl rfl rfl (by omega) ⟨rfl,Below.refl _ _⟩) ?_
     refine any_heavy [15] (by kernel_rfl) rfl (each1 ?_)
     intro w hI
     refine ol_c rfl (s_store hI 0 6 [iv x13.src,iv x13.hr,iv x13.lo,iv x13.hi,iv x13.kn,iv x13.un] Tryz.sizeOf30 rfl rfl rfl rfl rfl (hrr.room (by omega)) ?_)
     intro w hI
     refine ⟨_,hI,subk (fun _ h=>h.pickL [] (by decide) rfl) ?_⟩
     intro hsub
     have r16:=hrr.put eLd_len (by decide) k x13 (by omega)
     obtain ⟨x18,hx19⟩:=get_lt (l:=((rotL l a (a+1) (k+1))).set k x13) (i:=k+1) (by first | omega | (simp only [List.length_set]; omega))
     have he20:=r16.atS eLd_len (by decide) hx19
     refine al_light 16 (.pointer (some ⟨b0,(k+1) * 6,none⟩)) hsub rfl (by kernel_rfl) (fun w hI=>s_indexR (k+1) Tryz.underlying24 Tryz.sizeOf30 rfl rfl (by omega) (by omega) ⟨rfl,Below.refl _ _⟩) ?_
     refine any_heavy [17] (by kernel_rfl) rfl (each1 ?_)
     intro w hI
     refine ol_c rfl (s_store hI 0 6 [iv x10.src,iv x10.hr,iv x10.lo,iv x10.hi,iv x10.kn,iv x10.un] Tryz.sizeOf30 rfl rfl rfl rfl rfl (r16.room (by omega)) ?_)
     intro w hI
     refine ⟨_,hI,subk (fun _ h=>h.pickL [] (by decide) rfl) ?_⟩
     intro hsub
     have r21:=r16.put eLd_len (by decide) (k+1) (⟨x10.src,x10.hr,x10.lo,x10.hi,x10.kn,x10.un⟩:Ld) (by omega)
     refine any_end rfl (fun w hI=>?_)
     refine rgn rfl (pu (iv (k:Int)) rfl (seq_c (s_add rfl rfl (by omega) ?_)))
     refine pu (iv ((k:Int)+1)) rfl (seq_nil ?_)
     exact ⟨rfl,_,(by omega),⟨k+1,putCells (putCells ccl (k * 6) (eLd x13)) ((k+1) * 6) (eLd (⟨x10.src,x10.hr,x10.lo,x10.hi,x10.kn,x10.un⟩:Ld)),⟨rfl,rfl,rfl,trivial⟩,hI.pickL [0] (by decide) rfl,(by omega),(by rw [← move_right (by omega) hx11 hx14 (by omega)]; exact r21),rfl⟩⟩
    ·intro w hI
     refine ol_c rfl (s_loadRK hI 0 [iv x10.src,iv x10.hr,iv x10.lo,iv x10.hi,iv x10.kn,iv x10.un] Tryz.isAgg30 Tryz.sizeOf30 rfl rfl rfl he12 ?_)
     refine ⟨_,hI,subk (fun _ h=>h.pickL [] (by decide) rfl) ?_⟩
     intro hsub
     refine any_heavy [9] (by kernel_rfl) rfl (each1 ?_)
     intro w hI
     refine ol_c rfl (s_loadRK hI 0 [iv x13.src,iv x13.hr,iv x13.lo,iv x13.hi,iv x13.kn,iv x13.un] Tryz.isAgg30 Tryz.sizeOf30 rfl rfl rfl he15 ?_)
     refine ⟨_,hI,subk (fun _ h=>h.pickL [] (by decide) rfl) ?_⟩
     intro hsub
     refine al_light 14 (.pointer (some ⟨b0,k * 6,none⟩)) hsub rfl (by kernel_rfl) (fun w hI=>s_indexR k Tryz.underlying24 Tryz.sizeOf30 rfl rfl rfl (by omega) ⟨rfl,Below.refl _ _⟩) ?_
     refine any_heavy [15] (by kernel_rfl) rfl (each1 ?_)
     intro w hI
     refine ol_c rfl (s_store hI 0 6 [iv x13.src,iv x13.hr,iv x13.lo,iv x13.hi,iv x13.kn,iv x13.un] Tryz.sizeOf30 rfl rfl rfl rfl rfl (hrr.room (by omega)) ?_)
     intro w hI
     refine ⟨_,hI,subk (fun _ h=>h.pickL [] (by decide) rfl) ?_⟩
     intro hsub
     have r23:=hrr.put eLd_len (by decide) k x13 (by omega)
     obtain ⟨x25,hx26⟩:=get_lt (l:=((rotL l a (a+1) (k+1))).set k x13) (i:=k+1) (by first | omega | (simp only [List.length_set]; omega))
     have he27:=r23.atS eLd_len (by decide) hx26
     refine al_light 16 (.pointer (some ⟨b0,(k+1) * 6,none⟩)) hsub rfl (by kernel_rfl) (fun w hI=>s_indexR (k+1) Tryz.underlying24 Tryz.sizeOf30 rfl rfl (by omega) (by omega) ⟨rfl,Below.refl _ _⟩) ?_
     refine any_heavy [17] (by kernel_rfl) rfl (each1 ?_)
     intro w hI
     refine ol_c rfl (s_store hI 0 6 [iv x10.src,iv x10.hr,iv x10.lo,iv x10.hi,iv x10.kn,iv x10.un] Tryz.sizeOf30 rfl rfl rfl rfl rfl (r23.room (by omega)) ?_)
     intro w hI
     refine ⟨_,hI,subk (fun _ h=>h.pickL [] (by decide) rfl) ?_⟩
     intro hsub
     have r28:=r23.put eLd_len (by decide) (k+1) (⟨x10.src,x10.hr,x10.lo,x10.hi,x10.kn,x10.un⟩:Ld) (by omega)
     refine any_end rfl (fun w hI=>?_)
     refine rgn rfl (pu (iv (k:Int)) rfl (seq_c (s_add rfl rfl (by omega) ?_)))
     refine pu (iv ((k:Int)+1)) rfl (seq_nil ?_)
     exact ⟨rfl,_,(by omega),⟨k+1,putCells (putCells ccl (k * 6) (eLd x13)) ((k+1) * 6) (eLd (⟨x10.src,x10.hr,x10.lo,x10.hi,x10.kn,x10.un⟩:Ld)),⟨rfl,rfl,rfl,trivial⟩,hI.pickL [0] (by decide) rfl,(by omega),(by rw [← move_right (by omega) hx11 hx14 (by omega)]; exact r28),rfl⟩⟩
   ·intro h6
    refine seq_nil (wp_condF rfl (wp_exit ?_))
    refine wp_ret ?_
    exact ⟨.tuple #[],Ret.r0 rfl , ⟨ccl,rfl,hI.pickL [0] (by decide) rfl,(by have e:q=a+1:=(by omega); subst e; have ej:j=i:=(by omega); subst ej; have e2:k+1=j:=(by omega); subst e2; rw [← one_left hx2 (by omega) (by omega) (by omega) hR f1 f2]; exact hrr)⟩⟩
 ·intro h7
  refine seq_nil (wp_condF rfl (wp_skip (wp_seq (wp_seq (rgn rfl (pu (iv (b:Int)) rfl (pu (iv (q:Int)) rfl (seq_c (s_sub rfl rfl (by omega) ?_)))))))))
  refine seq_c (s_eql rfl rfl ?_ ?_)
  ·intro h8
   refine seq_nil (wp_condT rfl (wp_seq (rgn rfl (pu (iv (a:Int)) rfl (pu (iv (a:Int)) rfl (seq_nil (wp_seq (rgn rfl (pu (iv (q:Int)) rfl ?_)))))))))
   refine pu (iv (q:Int)) rfl (seq_nil (wp_seq (wp_block ?_)))
   obtain ⟨x30,hx31⟩:=get_lt (l:=l) (i:=q) (by omega)
   have he32:=hr.atS eLd_len (by decide) hx31
   refine wp_loop (fun m ρ w=>∃ (i:Nat) (j:Nat),Agree ρ [(0,slv (some b0) n c),(2,iv (q:Int)),(4,.func (.func 144) #[] #[]),(14,iv (i:Int)),(15,iv (j:Int))]∧Inv [b0] w0 w [(some b0,blk cl 30)]∧(a≤i∧i≤j∧j≤q)∧(∀ p y,a≤p→p < i→l[p]?=some y→y.hr≤x30.hr)∧(∀ p y,j≤p→p < q→l[p]?=some y→x30.hr < y.hr)∧m=j - i) (m:=q - a) ⟨a,q,⟨rfl,rfl,rfl,rfl,rfl,trivial⟩,hI.pickL [0] (by decide) rfl,(by omega),(fun p y h1 h2 _=>by omega),(fun p y h1 h2 _=>by omega),rfl⟩ ?_
   rintro m ρ w ⟨i,j,hag,hI,hij,f1,f2,hm⟩
   obtain ⟨ρ,rfl⟩:=hag.form; clear hag
   refine wp_seq (wp_seq (rgn rfl (pu (iv (i:Int)) rfl (pu (iv (j:Int)) rfl (seq_c (s_lss rfl rfl ?_ ?_))))))
   ·intro h9
    refine seq_nil (wp_condT rfl (wp_skip (wp_block ?_)))
    refine wp_seq (rgn rfl (pu (iv (i:Int)) rfl (pu (iv (j:Int)) rfl (seq_c (s_add rfl rfl (by omega) ?_)))))
    refine seq_c (s_toUM Tryz.underlying3 Tryz.underlying178 rfl (by omega) (by omega) ?_)
    refine seq_c (s_halfM rfl rfl ?_)
    refine seq_c (s_toIM Tryz.underlying178 Tryz.underlying3 rfl (by omega) (by omega) ?_)
    refine pu (iv (((i:Int)+(j:Int)) / 2)) rfl (seq_nil (wp_seq (wp_drawn2 hI [0] (by decide) rfl rfl rfl ?_)))
    intro hsub
    refine alp 0 (.func (.func 144) #[] #[]) hsub rfl (by kernel_rfl) (fun _=>rfl) ?_
    refine alp 1 (slv (some b0) n c) hsub rfl (by kernel_rfl) (fun _=>rfl) ?_
    refine alp 2 (iv (q:Int)) hsub rfl (by kernel_rfl) (fun _=>rfl) ?_
    obtain ⟨x33,hx34⟩:=get_lt (l:=l) (i:=q) (by omega)
    have he35:=hr.atS eLd_len (by decide) hx34
    refine al_light 3 (.pointer (some ⟨b0,q * 6,none⟩)) hsub rfl (by kernel_rfl) (fun w hI=>s_indexR q Tryz.underlying24 Tryz.sizeOf30 rfl rfl rfl (by omega) ⟨rfl,Below.refl _ _⟩) ?_
    refine al_light 4 (.agg #[iv x33.src,iv x33.hr,iv x33.lo,iv x33.hi,iv x33.kn,iv x33.un]) hsub rfl (by kernel_rfl) (fun w hI=>s_loadRK hI 0 [iv x33.src,iv x33.hr,iv x33.lo,iv x33.hi,iv x33.kn,iv x33.un] Tryz.isAgg30 Tryz.sizeOf30 rfl rfl rfl he35 ⟨rfl,Below.refl _ _⟩) ?_
    refine alp 5 (slv (some b0) n c) hsub rfl (by kernel_rfl) (fun _=>rfl) ?_
    refine alp 6 (iv (((i:Int)+(j:Int)) / 2)) hsub rfl (by kernel_rfl) (fun _=>rfl) ?_
    obtain ⟨x36,hx37⟩:=get_lt (l:=l) (i:=(i+j) / 2) (by omega)
    have he38:=hr.atS eLd_len (by decide) hx37
    refine al_light 7 (.pointer (some ⟨b0,((i+j) / 2) * 6,none⟩)) hsub rfl (by kernel_rfl) (fun w hI=>s_indexR ((i+j) / 2) Tryz.underlying24 Tryz.sizeOf30 rfl rfl (by omega) (by omega) ⟨rfl,Below.refl _ _⟩) ?_
    refine al_light 8 (.agg #[iv x36.src,iv x36.hr,iv x36.lo,iv x36.hi,iv x36.kn,iv x36.un]) hsub rfl (by kernel_rfl) (fun w hI=>s_loadRK hI 0 [iv x36.src,iv x36.hr,iv x36.lo,iv x36.hi,iv x36.kn,iv x36.un] Tryz.isAgg30 Tryz.sizeOf30 rfl rfl rfl he38 ⟨rfl,Below.refl _ _⟩) ?_
    refine al_light 9 (iv (cmpI x33.hr x36.hr)) hsub rfl (by kernel_rfl) (fun w hI=>s_callV [.agg #[iv x33.src,iv x33.hr,iv x33.lo,iv x33.hi,iv x33.kn,iv x33.un],.agg #[iv x36.src,iv x36.hr,iv x36.lo,iv x36.hi,iv x36.kn,iv x36.un]] rfl (by kernel_rfl) (CallV.of (args':=[.agg (eLd x33).toArray,.agg (eLd x36).toArray]) rfl (sceneOf2_c w x33 x36)) (fun v' w' h=>h)) ?_
    by_cases h10:(cmpI x33.hr x36.hr) < 0
    ·refine al_light 10 (.bool true) hsub rfl (by kernel_rfl) (fun w hI=>s_lss rfl rfl (fun _=>⟨rfl,Below.refl _ _⟩) (fun h=>absurd h10 h)) ?_
     refine alp 11 (.bool false) hsub rfl (by kernel_rfl) (fun _=>rfl) ?_
     refine any_end rfl (fun w hI=>?_)
     refine wp_condF rfl (rgn rfl (pu (iv (((i:Int)+(j:Int)) / 2)) rfl (pu (iv (((i:Int)+(j:Int)) / 2)) rfl (seq_nil ?_))))
     exact ⟨rfl,_,(by omega),⟨i,(i+j) / 2,⟨rfl,rfl,rfl,rfl,rfl,trivial⟩,hI.pickL [0] (by decide) rfl,(by omega),f1,(fun p y h1 h2 h3=>Int.lt_of_lt_of_le (cmpI_lt.1 (by first | assumption | (have e9:=Option.some.inj (hx34.symm.trans hx31); rw [← e9]; assumption))) (hL ((i+j) / 2) p x36 y (by omega) h1 h2 hx37 h3)),rfl⟩⟩
    ·refine al_light 10 (.bool false) hsub rfl (by kernel_rfl) (fun w hI=>s_lss rfl rfl (fun h=>absurd h h10) (fun _=>⟨rfl,Below.refl _ _⟩)) ?_
     refine alp 11 (.bool true) hsub rfl (by kernel_rfl) (fun _=>rfl) ?_
     refine any_end rfl (fun w hI=>?_)
     refine wp_condT rfl (rgn rfl (pu (iv (((i:Int)+(j:Int)) / 2)) rfl (seq_c (s_add rfl rfl (by omega) ?_))))
     refine pu (iv ((((i:Int)+(j:Int)) / 2)+1)) rfl (seq_nil ?_)
     exact ⟨rfl,_,(by omega),⟨(i+j) / 2+1,j,⟨rfl,rfl,rfl,rfl,rfl,trivial⟩,hI.pickL [0] (by decide) rfl,(by omega),(fun p y h1 h2 h3=>Int.le_trans (hL p ((i+j) / 2) y x36 h1 (by omega) (by omega) h3 hx37) (Int.not_lt.1 fun hc=>absurd (cmpI_lt.2 hc) (by first | assumption | (have e9:=Option.some.inj (hx34.symm.trans hx31); rw [← e9]; assumption)))),f2,rfl⟩⟩
   ·intro h11
    refine seq_nil (wp_condF rfl (wp_exit ?_))
    refine wp_seq (wp_seq (rgn rfl (pu (iv (q:Int)) rfl (pu (iv (q:Int)) rfl (seq_nil (wp_block ?_))))))
    refine wp_loop (fun m ρ w=>∃ (k:Nat) (kv:Int) (ccl:List Value),Agree ρ [(0,slv (some b0) n c),(14,iv (i:Int)),(17,iv kv)]∧Inv [b0] w0 w [(some b0,blk ccl 30)]∧(kv=((k:Nat):Int))∧(i≤k∧k≤q)∧(Row 6 (some b0) n c ccl (flat eLd (rotL l k q (q+1))))∧m=k - i) (m:=q - i) ⟨q,(q:Int),cl,⟨rfl,rfl,rfl,trivial⟩,hI.pickL [0] (by decide) rfl,rfl,(by omega),(by rw [rot_same (by omega) (by omega) (by omega) (.inl rfl)]; exact hr),rfl⟩ ?_
    rintro m ρ w ⟨k,kv,ccl,hag,hI,hkv,hk,hrr,hm⟩
    obtain ⟨ρ,rfl⟩:=hag.form; clear hag
    have hml:=rotL_len (l:=l) (a:=k) (m:=q) (b:=q+1) (by omega) (by omega) (by omega)
    refine wp_seq (wp_seq (rgn rfl (pu (iv kv) rfl (pu (iv (i:Int)) rfl (seq_c (s_gtr rfl rfl ?_ ?_))))))
    ·intro h12
     refine seq_nil (wp_condT rfl (wp_skip (wp_seq (wp_block ?_))))
     obtain ⟨x39,hx40⟩:=get_lt (l:=(rotL l k q (q+1))) (i:=k) (by omega)
     have he41:=hrr.atS eLd_len (by decide) hx40
     obtain ⟨x42,hx43⟩:=get_lt (l:=(rotL l k q (q+1))) (i:=k - 1) (by omega)
     have he44:=hrr.atS eLd_len (by decide) hx43
     replace hI:=hI.pickL [0] (by decide) rfl
     refine wp_drawn2 hI [] (by decide) rfl rfl rfl ?_
     intro hsub
     refine alp 0 (slv (some b0) n c) hsub rfl (by kernel_rfl) (fun _=>rfl) ?_
     refine alp 1 (iv kv) hsub rfl (by kernel_rfl) (fun _=>rfl) ?_
     refine alp 2 (slv (some b0) n c) hsub rfl (by kernel_rfl) (fun _=>rfl) ?_
     refine alp 3 (iv kv) hsub rfl (by kernel_rfl) (fun _=>rfl) ?_
     refine al_light 4 (iv (kv - 1)) hsub rfl (by kernel_rfl) (fun w hI=>s_sub rfl rfl (by omega) ⟨rfl,Below.refl _ _⟩) ?_
     refine alp 5 (slv (some b0) n c) hsub rfl (by kernel_rfl) (fun _=>rfl) ?_
     refine alp 6 (iv kv) hsub rfl (by kernel_rfl) (fun _=>rfl) ?_
     refine al_light 7 (iv (kv - 1)) hsub rfl (by kernel_rfl) (fun w hI=>s_sub rfl rfl (by omega) ⟨rfl,Below.refl _ _⟩) ?_
     refine al_light 8 (.pointer (some ⟨b0,(k - 1) * 6,none⟩)) hsub rfl (by kernel_rfl) (fun w hI=>s_indexR (k - 1) Tryz.underlying24 Tryz.sizeOf30 rfl rfl (by omega) (by omega) ⟨rfl,Below.refl _ _⟩) ?_
     refine alp 10 (slv (some b0) n c) hsub rfl (by kernel_rfl) (fun _=>rfl) ?_
     refine alp 11 (iv kv) hsub rfl (by kernel_rfl) (fun _=>rfl) ?_
     refine al_light 12 (.pointer (some ⟨b0,k * 6,none⟩)) hsub rfl (by kernel_rfl) (fun w hI=>s_indexR k Tryz.underlying24 Tryz.sizeOf30 rfl rfl (by omega) (by omega) ⟨rfl,Below.refl _ _⟩) ?_
     refine any_heavy [9,13] (by kernel_rfl) rfl (each2 ?_ ?_)
     ·intro w hI
      refine ol_c rfl (s_loadRK hI 0 [iv x42.src,iv x42.hr,iv x42.lo,iv x42.hi,iv x42.kn,iv x42.un] Tryz.isAgg30 Tryz.sizeOf30 rfl rfl rfl he44 ?_)
      refine ⟨_,hI,subk (fun _ h=>h.pickL [] (by decide) rfl) ?_⟩
      intro hsub
      refine any_heavy [13] (by kernel_rfl) rfl (each1 ?_)
      intro w hI
      refine ol_c rfl (s_loadRK hI 0 [iv x39.src,iv x39.hr,iv x39.lo,iv x39.hi,iv x39.kn,iv x39.un] Tryz.isAgg30 Tryz.sizeOf30 rfl rfl rfl he41 ?_)
      refine ⟨_,hI,subk (fun _ h=>h.pickL [] (by decide) rfl) ?_⟩
      intro hsub
      refine al_light 14 (.pointer (some ⟨b0,k * 6,none⟩)) hsub rfl (by kernel_rfl) (fun w hI=>s_indexR k Tryz.underlying24 Tryz.sizeOf30 rfl rfl (by omega) (by omega) ⟨rfl,Below.refl _ _⟩) ?_
      refine any_heavy [15] (by kernel_rfl) rfl (each1 ?_)
      intro w hI
      refine ol_c rfl (s_store hI 0 6 [iv x42.src,iv x42.hr,iv x42.lo,iv x42.hi,iv x42.kn,iv x42.un] Tryz.sizeOf30 rfl rfl rfl rfl rfl (hrr.room (by omega)) ?_)
      intro w hI
      refine ⟨_,hI,subk (fun _ h=>h.pickL [] (by decide) rfl) ?_⟩
      intro hsub
      have r45:=hrr.put eLd_len (by decide) k x42 (by omega)
      obtain ⟨x47,hx48⟩:=get_lt (l:=((rotL l k q (q+1))).set k x42) (i:=k - 1) (by first | omega | (simp only [List.length_set]; omega))
      have he49:=r45.atS eLd_len (by decide) hx48
      refine al_light 16 (.pointer (some ⟨b0,(k - 1) * 6,none⟩)) hsub rfl (by kernel_rfl) (fun w hI=>s_indexR (k - 1) Tryz.underlying24 Tryz.sizeOf30 rfl rfl (by omega) (by omega) ⟨rfl,Below.refl _ _⟩) ?_
      refine any_heavy [17] (by kernel_rfl) rfl (each1 ?_)
      intro w hI
      refine ol_c rfl (s_store hI 0 6 [iv x39.src,iv x39.hr,iv x39.lo,iv x39.hi,iv x39.kn,iv x39.un] Tryz.sizeOf30 rfl rfl rfl rfl rfl (r45.room (by omega)) ?_)
      intro w hI
      refine ⟨_,hI,subk (fun _ h=>h.pickL [] (by decide) rfl) ?_⟩
      intro hsub
      have r50:=r45.put eLd_len (by decide) (k - 1) (⟨x39.src,x39.hr,x39.lo,x39.hi,x39.kn,x39.un⟩:Ld) (by omega)
      refine any_end rfl (fun w hI=>?_)
      refine rgn rfl (pu (iv kv) rfl (seq_c (s_sub rfl rfl (by omega) ?_)))
      refine pu (iv (kv - 1)) rfl (seq_nil ?_)
      exact ⟨rfl,_,(by omega),⟨k - 1,kv - 1,putCells (putCells ccl (k * 6) (eLd x42)) ((k - 1) * 6) (eLd (⟨x39.src,x39.hr,x39.lo,x39.hi,x39.kn,x39.un⟩:Ld)),⟨rfl,rfl,rfl,trivial⟩,hI.pickL [0] (by decide) rfl,(by omega),(by omega),(by rw [← move_left (by omega) (by omega) hx40 hx43 (by omega)]; exact r50),rfl⟩⟩
     ·intro w hI
      refine ol_c rfl (s_loadRK hI 0 [iv x39.src,iv x39.hr,iv x39.lo,iv x39.hi,iv x39.kn,iv x39.un] Tryz.isAgg30 Tryz.sizeOf30 rfl rfl rfl he41 ?_)
      refine ⟨_,hI,subk (fun _ h=>h.pickL [] (by decide) rfl) ?_⟩
      intro hsub
      refine any_heavy [9] (by kernel_rfl) rfl (each1 ?_)
      intro w hI
      refine ol_c rfl (s_loadRK hI 0 [iv x42.src,iv x42.hr,iv x42.lo,iv x42.hi,iv x42.kn,iv x42.un] Tryz.isAgg30 Tryz.sizeOf30 rfl rfl rfl he44 ?_)
      refine ⟨_,hI,subk (fun _ h=>h.pickL [] (by decide) rfl) ?_⟩
      intro hsub
      refine al_light 14 (.pointer (some ⟨b0,k * 6,none⟩)) hsub rfl (by kernel_rfl) (fun w hI=>s_indexR k Tryz.underlying24 Tryz.sizeOf30 rfl rfl (by omega) (by omega) ⟨rfl,Below.refl _ _⟩) ?_
      refine any_heavy [15] (by kernel_rfl) rfl (each1 ?_)
      intro w hI
      refine ol_c rfl (s_store hI 0 6 [iv x42.src,iv x42.hr,iv x42.lo,iv x42.hi,iv x42.kn,iv x42.un] Tryz.sizeOf30 rfl rfl rfl rfl rfl (hrr.room (by omega)) ?_)
      intro w hI
      refine ⟨_,hI,subk (fun _ h=>h.pickL [] (by decide) rfl) ?_⟩
      intro hsub
      have r52:=hrr.put eLd_len (by decide) k x42 (by omega)
      obtain ⟨x54,hx55⟩:=get_lt (l:=((rotL l k q (q+1))).set k x42) (i:=k - 1) (by first | omega | (simp only [List.length_set]; omega))
      have he56:=r52.atS eLd_len (by decide) hx55
      refine al_light 16 (.pointer (some ⟨b0,(k - 1) * 6,none⟩)) hsub rfl (by kernel_rfl) (fun w hI=>s_indexR (k - 1) Tryz.underlying24 Tryz.sizeOf30 rfl rfl (by omega) (by omega) ⟨rfl,Below.refl _ _⟩) ?_
      refine any_heavy [17] (by kernel_rfl) rfl (each1 ?_)
      intro w hI
      refine ol_c rfl (s_store hI 0 6 [iv x39.src,iv x39.hr,iv x39.lo,iv x39.hi,iv x39.kn,iv x39.un] Tryz.sizeOf30 rfl rfl rfl rfl rfl (r52.room (by omega)) ?_)
      intro w hI
      refine ⟨_,hI,subk (fun _ h=>h.pickL [] (by decide) rfl) ?_⟩
      intro hsub
      have r57:=r52.put eLd_len (by decide) (k - 1) (⟨x39.src,x39.hr,x39.lo,x39.hi,x39.kn,x39.un⟩:Ld) (by omega)
      refine any_end rfl (fun w hI=>?_)
      refine rgn rfl (pu (iv kv) rfl (seq_c (s_sub rfl rfl (by omega) ?_)))
      refine pu (iv (kv - 1)) rfl (seq_nil ?_)
      exact ⟨rfl,_,(by omega),⟨k - 1,kv - 1,putCells (putCells ccl (k * 6) (eLd x42)) ((k - 1) * 6) (eLd (⟨x39.src,x39.hr,x39.lo,x39.hi,x39.kn,x39.un⟩:Ld)),⟨rfl,rfl,rfl,trivial⟩,hI.pickL [0] (by decide) rfl,(by omega),(by omega),(by rw [← move_left (by omega) (by omega) hx40 hx43 (by omega)]; exact r57),rfl⟩⟩
    ·intro h13
     refine seq_nil (wp_condF rfl (wp_exit ?_))
     refine wp_ret ?_
     exact ⟨.tuple #[],Ret.r0 rfl , ⟨ccl,rfl,hI.pickL [0] (by decide) rfl,(by have e:b=q+1:=(by omega); subst e; have ej:j=i:=(by omega); subst ej; have e2:k=j:=(by omega); subst e2; rw [← one_right hx31 (by omega) (by omega) hL f1 f2]; exact hrr)⟩⟩
  ·intro h14
   exact absurd h14 (by omega)

end Go.K
