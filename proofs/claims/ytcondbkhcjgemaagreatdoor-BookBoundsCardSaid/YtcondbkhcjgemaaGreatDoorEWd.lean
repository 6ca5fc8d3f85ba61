import Derived.Test.YtcondbkhcjgemaaGreatDoorEWc
namespace Go.K
open Go.Proofs.Tryz
open Go.Proofs Go.RowKit
set_option linter.unusedVariables false
set_option linter.unusedSimpArgs false
set_option maxRecDepth 100000
attribute [local irreducible] Seq cw cx fl opX
set_option maxHeartbeats 8000000 in
theorem L112 (w0:World) (s:Option Addr) (o:Nat) (j:List Sp3) (u:Option Addr) (p:Nat) (i:List Sp3) (x:Option Addr) (q:Nat) (g:List Sp3) (f:Int) (d:Int) (a:Int) (bW:bi w0 s (al bb j)) (e5:j.length≤9223372036854775807) (bX:j.length≤o) (bY:bi w0 u (al bb i)) (e6:i.length≤9223372036854775807) (bZ:i.length≤p) (c0:bi w0 x (al bb g)) (e7:g.length≤9223372036854775807) (c1:g.length≤q) (N:Nat) (r:List Sp3) (F:F112 N j i g f d a=some r):bn Tryz.prog 112 [.agg #[uM s j o,uM u i p,uM x g q,iv f,iv d,iv a]] w0 fun v w=>v=.agg (al bb r).toArray∧Below w0.heap.size w0 w:=by
 refine az (n:=52) func112 rfl ntmps112 rfl ?_
 have I:=Inv.start w0
 unfold F112 at F
 refine uL rfl (ph (ca I _ rfl fun L w I=>ph (bh I (al bb (List.replicate 180 (⟨0,0,[]⟩:Sp3))) zeroValue169 rfl fun M w I=>aa (uL rfl (ph (bh I (al bb (List.replicate 180 (⟨0,0,[]⟩:Sp3))) zeroValue169 rfl fun A w I=>aa (ab (uL rfl (xm I 2 mt mi rfl (ph (gr 118 [.agg #[uM s j o,uM u i p,uM x g q,iv f,iv d,iv a]] (by kernel_rfl) (az (n:=4) func118 rfl ntmps118 rfl (uL rfl (ph (ca I _ rfl fun B w I=>pu (.nilFunc) rfl (aa (uL rfl (pu2 (.func (.func 157) #[] #[pt B]) (.func (.func 157) #[] #[pt B]) (by kernel_rfl) (aa (aj (⟨.func (.func 157) #[] #[pt B],Ret.r1 rfl rfl,?_⟩)))))))))))))))))))))
 refine aa (au (wp_rangeFunc I (first := #[]) (cap := #[pt B]) rfl 157 (fun y=>[y,pt B]) (fun l W=>by kernel_rfl) fun rcq120586 lqq120586 w hpsq120586 hasq120586 hboq120586 hofq120586 I=>az (n:=32) func157 rfl ntmps157 rfl (uL rfl (pu (pt B) rfl (xr I 2 3 [uM s j o,uM u i p,uM x g q] zi60 zs60 rfl (pu (iv 0) rfl (aa (au (jx 4 (lh (uL rfl (xl rfl (fun _=>?_) (fun h=>absurd (by decide) h)))))))))))))
 refine aa (ab (ah rfl (ak (ab (au (uL rfl (pu3 (iv 0) (uM s j o) (iv 0) (by kernel_rfl) (pu (uM s j o) rfl (aa (uL rfl (pu3 (iv 0) (uF B 3) (uF B 3) (by kernel_rfl) (xg I 2 (iv f) zi3 rfl (pu3 (iv (if 0 > f then 0 else f)) (uM s j o) (iv ((j.length:Nat):Int)) (by kernel_rfl) (pu2 (iv (qa j f)) (iv (qa j f)) (by kernel_rfl) (aa (dn (fun ρ w=>∃ (aS:List Sp3),cd ρ [(0,yfn lqq120586),(1,pt B),(7,.agg #[uM s j o,uM u i p,uM x g q]),(8,iv 0),(30,bF)]∧Inv [] w0 w [(some lqq120586,rcq120586.at .ready none),(some B,blk [uM s j o,uM u i p,uM x g q,iv f,iv d,iv a] 63),(some rcq120586.defers,.deferred (some [])),(some L,blk [uM s j o,uM u i p,uM x g q,iv f,iv d,iv a] 63),(some M,blk (al bb (List.replicate 180 (⟨0,0,[]⟩:Sp3))) 169),(some A,blk (al bb aS) 169)]∧F112j1 i g d a N aS=some r) ?_ ?_))))))))))))))))
 ·
  refine gm 9 I (by kernel_rfl) (zB (yfn lqq120586) (iv 0) rfl (zB (uM s j o) (iv (qa j f)) rfl (gdE F (fun c2 F=>gdE F (fun cZ F=>?_)))))
  obtain ⟨O,hC159941,d0⟩:=cutA (enc:=bb) (l:=j) (lo:=0) (hi:=(qd j f)) (c:=o) (k:=3) bk bW cZ bX
  refine zc (.slice O ((qc j f).length) (o - 0)) (fun w I=>d0 mj mc rfl (.inr ⟨rfl,rfl⟩) (.inl (congrArg (fun z=>some (Value.int .i64 z)) (Int.toNat_of_nonneg c2).symm)) br) (zB (uM s j o) (iv (qa j f)) rfl (gdE F (fun d1 F=>?_)))
  obtain ⟨P,hC159943,d2⟩:=cutA (enc:=bb) (l:=j) (lo:=(qd j f)) (hi:=j.length) (c:=o) (k:=3) bk bW d1 bX
  refine zc (.slice P ((qb j f).length) (o - (qd j f))) (fun w I=>d2 mj mc rfl (.inl (congrArg (fun z=>some (Value.int .i64 z)) (Int.toNat_of_nonneg c2).symm)) (.inr ⟨rfl,rfl⟩) br) (zP (.agg #[.slice O ((qc j f).length) (o - 0),.slice P ((qb j f).length) (o - (qd j f))]) (by kernel_rfl) (zh (fun w I=>ph (li (fv:=yfn lqq120586) [iv 0,.agg #[.slice O ((qc j f).length) (o - 0),.slice P ((qb j f).length) (o - (qd j f))]] rfl (by kernel_rfl) ?_))))
  have I:=I.pk [0,1,2,3,4,5] rfl
  refine eu I hofq120586 [12,13] hpsq120586 rfl (by decide) ?_
  rw [hasq120586]
  refine uL rfl (pu (iv 0) rfl (aa (rgn rfl (ph (bh I _ zeroValue179 rfl fun c4 w I=>xi I 0 _ zs179 rfl fun w I=>aa (⟨rfl,_,I.pk [1,0,2,3,4,5,6] rfl,?_⟩))))))
  intro w I
  rw [hboq120586]
  refine au (uL rfl (pu (pt c4) rfl (xg I 1 (.slice O ((qc j f).length) (o - 0)) mq rfl (pu (uF c4 1) rfl (xg I 1 (.slice P ((qb j f).length) (o - (qd j f))) mq rfl (ph (fu I [.slice O ((qc j f).length) (o - 0),.slice P ((qb j f).length) (o - (qd j f))] 38 (fun b=>slv (some b) 2 2) (by kernel_rfl) fun U w I=>pu2 (iv ((2:Nat):Int)) (iv 0) (by kernel_rfl) (aa (au (jx 3 (lh (uL rfl (xl rfl (fun _=>?_) (fun h=>absurd (by decide) h))))))))))))))
  refine aa (ab (ah rfl (ak (dn (fun ρ w=>∃ (aT:List Sp3),cd ρ [(3,pt A),(4,iv 0),(18,.slice (some ⟨U,0,none⟩) 2 2),(19,iv 2),(20,iv 0)]∧Inv [] w0 w [(some A,blk (al bb aT) 169),(some U,blk [.slice O ((qc j f).length) (o - 0),.slice P ((qb j f).length) (o - (qd j f))] 38),(some lqq120586,rcq120586.at .busy none),(some rcq120586.defers,.deferred (some [])),(some L,blk [uM s j o,uM u i p,uM x g q,iv f,iv d,iv a] 63),(some M,blk (al bb (List.replicate 180 (⟨0,0,[]⟩:Sp3))) 169),(some B,blk [uM s j o,uM u i p,uM x g q,iv f,iv d,iv a] 63)]∧F112j20 j i g f d a N aT=some r) ?_ ?_))))
  ·
   refine au (uL rfl (ph (lj 0 0 zu210 mw rfl rfl (by decide) rfl (xg I 0 (.slice O ((qc j f).length) (o - 0)) mq rfl (pu (.slice O ((qc j f).length) (o - 0)) rfl (aa (uL rfl (pu3 (.slice O ((qc j f).length) (o - 0)) (iv (((qc j f).length:Nat):Int)) (iv 0) (by kernel_rfl) (aa (au (cb (fun m ρ w=>∃ (a4:List Sp3) (aA mm:_),cd ρ [(3,pt A),(4,iv 0),(18,.slice (some ⟨U,0,none⟩) 2 2),(19,iv 2),(20,iv 0),(24,.slice O ((qc j f).length) (o - 0)),(25,iv ((qc j f).length:Int)),(26,iv aA)]∧Inv [] w0 w [(some A,blk (al bb a4) 169),(some U,blk [.slice O ((qc j f).length) (o - 0),.slice P ((qb j f).length) (o - (qd j f))] 38),(some lqq120586,rcq120586.at .busy none),(some rcq120586.defers,.deferred (some [])),(some L,blk [uM s j o,uM u i p,uM x g q,iv f,iv d,iv a] 63),(some M,blk (al bb (List.replicate 180 (⟨0,0,[]⟩:Sp3))) 169),(some B,blk [uM s j o,uM u i p,uM x g q,iv f,iv d,iv a] 63)]∧F112l25 j i g f d a N mm a4 aA=some r∧mm=m) (m:=N) ⟨List.replicate 180 (⟨0,0,[]⟩:Sp3),0,N,(uK rfl),I.pk [5,0,1,3,7,6,4] rfl,F,rfl⟩ ?_)))))))))))
   rintro m ρ w ⟨a4,aA,mm,hag,I,F,hm⟩
   subst hm; obtain ⟨ρ,rfl⟩:=hag.form
   obtain _ | aI:=mm
   ·cases (show (none:Option (List Sp3))=some r from F)
   replace F:F112b25 j i g f d a N (F112l25 j i g f d a N aI) a4 aA=some r:=F; unfold F112b25 at F
   refine uL rfl (ifN F (fun b6 F=>?_) (fun b6 F=>?_))
   ·
    refine xl rfl (uP b6) (fun _=>aa (ab (ai rfl (bw (.inl ⟨rfl,⟨a4,(uK rfl),I.pk [0,1,2,3,4,5,6] rfl,F⟩⟩)))))
   refine xl rfl (fun _=>?_) (uO b6)
   refine aa (ab (ah rfl (ak (dn (fun ρ w=>∃ (aU:List Sp3),cd ρ [(3,pt A),(4,iv 0),(18,.slice (some ⟨U,0,none⟩) 2 2),(19,iv 2),(20,iv 0),(24,.slice O ((qc j f).length) (o - 0)),(25,iv ((qc j f).length:Int)),(26,iv aA)]∧Inv [] w0 w [(some A,blk (al bb aU) 169),(some U,blk [.slice O ((qc j f).length) (o - 0),.slice P ((qb j f).length) (o - (qd j f))] 38),(some lqq120586,rcq120586.at .busy none),(some rcq120586.defers,.deferred (some [])),(some L,blk [uM s j o,uM u i p,uM x g q,iv f,iv d,iv a] 63),(some M,blk (al bb (List.replicate 180 (⟨0,0,[]⟩:Sp3))) 169),(some B,blk [uM s j o,uM u i p,uM x g q,iv f,iv d,iv a] 63)]∧F112j26 (F112l25 j i g f d a N aI) aA aU=some r) ?_ ?_))))
   ·
    refine au (uL rfl (gdE F (fun d3 F=>bt F (fun C c5 F=>?_))))
    obtain ⟨e8,e9,d4,d5,d6⟩:=hC159941.at_ bk (by decide) c5
    refine ph (cn (aA).toNat mj mc rfl d4 rfl (Int.toNat_of_nonneg d3).symm (fa c5 rfl) (ph (ef I (qh C) me mc rfl rfl d5 (by simp) d6 (ph (bh I _ zeroValue35 rfl fun aJ w I=>xi I 0 _ mc rfl fun w I=>aa (dn (fun ρ w=>cd ρ [(3,pt A),(4,iv 0),(9,pt aJ),(18,.slice (some ⟨U,0,none⟩) 2 2),(19,iv 2),(20,iv 0),(24,.slice O ((qc j f).length) (o - 0)),(25,iv ((qc j f).length:Int)),(26,iv aA),(42,bF)]∧Inv [] w0 w [(some A,blk (al bb a4) 169),(some aJ,blk (qh C) 35),(some U,blk [.slice O ((qc j f).length) (o - 0),.slice P ((qb j f).length) (o - (qd j f))] 38),(some lqq120586,rcq120586.at .busy none),(some rcq120586.defers,.deferred (some [])),(some L,blk [uM s j o,uM u i p,uM x g q,iv f,iv d,iv a] 63),(some M,blk (al bb (List.replicate 180 (⟨0,0,[]⟩:Sp3))) 169),(some B,blk [uM s j o,uM u i p,uM x g q,iv f,iv d,iv a] 63)]∧F112j27 (F112l25 j i g f d a N aI) a4 aA=some r) ?_ ?_))))))
    ·
     refine rgn rfl (pu (iv 0) rfl (xm I 0 me mc rfl (bt F (fun eA c6 F=>ifN F (fun b7 F=>?_) (fun b7 F=>?_)))))
     ·
      refine ph (bg I 91 _ _ (by kernel_rfl) (bn.mono (L91 _ 0 C N _ c6) (uH (Bool.eq_false_iff.2 b7))) fun w I=>pu bF (by kernel_rfl) (sf 8 (by kernel_rfl) (pu bF (by kernel_rfl) (aa (.inl ⟨rfl,⟨(uK rfl),I.pk [1,0,2,3,4,5,6,7] rfl,F⟩⟩)))))
     refine ph (bg I 91 _ _ (by kernel_rfl) (bn.mono (L91 _ 0 C N _ c6) (uH b7)) fun w I=>pu bT (by kernel_rfl) (pup (pt aJ) (by kernel_rfl) (aw (by kernel_rfl) (ag I 0 (iv C.no) zi3 rfl rfl rfl (pup (iv 0) (by kernel_rfl) (gdE F (fun c7 F=>gdE F (fun c8 F=>aw (by kernel_rfl) (av ((C.no).toNat) zu169 zs168 rfl rfl (Int.toNat_of_nonneg c7).symm c8 (((C.no).toNat) * 9) (Nat.zero_add _) (bt F (fun Y b8 F=>aw (by kernel_rfl) (av 0 zu168 mc rfl rfl rfl (by decide) ((((C.no).toNat) * 3+0) * 3) (by omega) (aw (by kernel_rfl) (cq I 1 (qh Y) me mc rfl rfl rfl (big_at bk b8) (pup (.agg #[iv 0,iv 0,uE []]) (by kernel_rfl) (ifN F (fun b9 F=>?_) (fun b9 F=>?_)))))))))))))))))
     ·
      refine aw rfl (kz (b:=decide (Y.no=0) && decide (Y.sz=0) && decide (Y.t=[])) rfl rfl (by kernel_rfl) (fun w=>eq35 _ Y.no Y.sz Y.t 0 0 [] w) (uP b9) (fun _=>pu bF rfl (aa (.inl ⟨rfl,⟨(uK rfl),I.pk [1,0,2,3,4,5,6,7] rfl,F⟩⟩))))
     refine aw rfl (kz (b:=decide (Y.no=0) && decide (Y.sz=0) && decide (Y.t=[])) rfl rfl (by kernel_rfl) (fun w=>eq35 _ Y.no Y.sz Y.t 0 0 [] w) (fun _=>?_) (uO b9))
     refine pu bT rfl (aa (.inr (ah rfl (gm 6 I (by kernel_rfl) (zP (pt aJ) rfl (zg 0 (iv C.no) zi3 rfl (zP (iv 0) rfl (zm 0 (qh C) me mc rfl (zc (uF A (((C.no).toNat) * 9)) (fun w I=>av ((C.no).toNat) zu169 zs168 rfl rfl (Int.toNat_of_nonneg c7).symm c8 (((C.no).toNat) * 9) (Nat.zero_add _) br) (zc (uF A ((((C.no).toNat) * 3+0) * 3)) (fun w I=>av 0 zu168 mc rfl rfl rfl (by decide) ((((C.no).toNat) * 3+0) * 3) (by omega) br) (zh (fun w I=>xq I 1 3 (qh C) mc rfl (big_room bk b8) ?_))))))))))))
     intro w I
     have I:Inv [] w0 w [(some aJ,blk (qh C) 35),(some A,blk (al bb ((a4).set (((C.no).toNat) * 3+0) (⟨C.no,C.sz,C.t⟩:Sp3))) 169),(some U,blk [.slice O ((qc j f).length) (o - 0),.slice P ((qb j f).length) (o - (qd j f))] 38),(some lqq120586,rcq120586.at .busy none),(some rcq120586.defers,.deferred (some [])),(some L,blk [uM s j o,uM u i p,uM x g q,iv f,iv d,iv a] 63),(some M,blk (al bb (List.replicate 180 (⟨0,0,[]⟩:Sp3))) 169),(some B,blk [uM s j o,uM u i p,uM x g q,iv f,iv d,iv a] 63)]:=by have e:putCells (al bb a4) ((((C.no).toNat) * 3+0) * 3) (qh C)=al bb ((a4).set (((C.no).toNat) * 3+0) (⟨C.no,C.sz,C.t⟩:Sp3)):=big_put bk b8 (⟨C.no,C.sz,C.t⟩:Sp3); rw [e] at I; exact I
     refine aa (.inl ⟨rfl,⟨(a4).set (((C.no).toNat) * 3+0) (⟨C.no,C.sz,C.t⟩:Sp3),(uK rfl),I.pk [1,2,3,4,5,6,7] rfl,F⟩⟩)
    intro ρ w hJ
    obtain ⟨hag,I,F⟩:=hJ
    obtain ⟨ρ,rfl⟩:=hag.form
    unfold F112j27 at F
    refine ai rfl (ak (.inl ⟨rfl,⟨a4,(uK rfl),I.pk [0,2,3,4,5,6,7] rfl,F⟩⟩))
   intro ρ w hJ
   obtain ⟨aU,hag,I,F⟩:=hJ
   obtain ⟨ρ,rfl⟩:=hag.form
   unfold F112j26 at F
   refine rgn rfl (ckE F (fun d7 F=>xa rfl d7 (pu (iv (aA+1)) rfl (aa (⟨rfl,aI,Nat.lt_succ_self _,⟨aU,aA+1,aI,(uK rfl),I.pk [0,1,2,3,4,5,6] rfl,F,rfl⟩⟩)))))
  intro ρ w hJ
  obtain ⟨aT,hag,I,F⟩:=hJ
  obtain ⟨ρ,rfl⟩:=hag.form
  unfold F112j20 at F
  refine rgn rfl (pu2 (iv 1) (iv 1) rfl (aa (⟨rfl,lh ?_⟩)))
  refine uL rfl (xl rfl (fun _=>?_) (fun h=>absurd (by decide) h))
  refine aa (ab (ah rfl (ak (dn (fun ρ w=>∃ (aV:List Sp3),cd ρ [(3,pt A),(4,iv 0),(18,.slice (some ⟨U,0,none⟩) 2 2),(19,iv 2),(20,iv 1)]∧Inv [] w0 w [(some A,blk (al bb aV) 169),(some U,blk [.slice O ((qc j f).length) (o - 0),.slice P ((qb j f).length) (o - (qd j f))] 38),(some lqq120586,rcq120586.at .busy none),(some rcq120586.defers,.deferred (some [])),(some L,blk [uM s j o,uM u i p,uM x g q,iv f,iv d,iv a] 63),(some M,blk (al bb (List.replicate 180 (⟨0,0,[]⟩:Sp3))) 169),(some B,blk [uM s j o,uM u i p,uM x g q,iv f,iv d,iv a] 63)]∧F112j21 i g d a N aV=some r) ?_ ?_))))
  ·
   refine au (uL rfl (ph (lj 1 1 zu210 mw rfl rfl (by decide) rfl (xg I 1 (.slice P ((qb j f).length) (o - (qd j f))) mq rfl (pu (.slice P ((qb j f).length) (o - (qd j f))) rfl (aa (uL rfl (pu3 (.slice P ((qb j f).length) (o - (qd j f))) (iv (((qb j f).length:Nat):Int)) (iv 0) (by kernel_rfl) (aa (au (cb (fun m ρ w=>∃ (a5:List Sp3) (aB mm:_),cd ρ [(3,pt A),(4,iv 0),(18,.slice (some ⟨U,0,none⟩) 2 2),(19,iv 2),(20,iv 1),(24,.slice P ((qb j f).length) (o - (qd j f))),(25,iv ((qb j f).length:Int)),(26,iv aB)]∧Inv [] w0 w [(some A,blk (al bb a5) 169),(some U,blk [.slice O ((qc j f).length) (o - 0),.slice P ((qb j f).length) (o - (qd j f))] 38),(some lqq120586,rcq120586.at .busy none),(some rcq120586.defers,.deferred (some [])),(some L,blk [uM s j o,uM u i p,uM x g q,iv f,iv d,iv a] 63),(some M,blk (al bb (List.replicate 180 (⟨0,0,[]⟩:Sp3))) 169),(some B,blk [uM s j o,uM u i p,uM x g q,iv f,iv d,iv a] 63)]∧F112l22 j i g f d a N mm a5 aB=some r∧mm=m) (m:=N) ⟨aT,0,N,(uK rfl),I.pk [0,1,2,3,4,5,6] rfl,F,rfl⟩ ?_)))))))))))
   rintro m ρ w ⟨a5,aB,mm,hag,I,F,hm⟩
   subst hm; obtain ⟨ρ,rfl⟩:=hag.form
   obtain _ | aK:=mm
   ·cases (show (none:Option (List Sp3))=some r from F)
   replace F:F112b22 j i g f d a N (F112l22 j i g f d a N aK) a5 aB=some r:=F; unfold F112b22 at F
   refine uL rfl (ifN F (fun bA F=>?_) (fun bA F=>?_))
   ·
    refine xl rfl (uP bA) (fun _=>aa (ab (ai rfl (bw (.inl ⟨rfl,⟨a5,(uK rfl),I.pk [0,1,2,3,4,5,6] rfl,F⟩⟩)))))
   refine xl rfl (fun _=>?_) (uO bA)
   refine aa (ab (ah rfl (ak (dn (fun ρ w=>∃ (aW:List Sp3),cd ρ [(3,pt A),(4,iv 0),(18,.slice (some ⟨U,0,none⟩) 2 2),(19,iv 2),(20,iv 1),(24,.slice P ((qb j f).length) (o - (qd j f))),(25,iv ((qb j f).length:Int)),(26,iv aB)]∧Inv [] w0 w [(some A,blk (al bb aW) 169),(some U,blk [.slice O ((qc j f).length) (o - 0),.slice P ((qb j f).length) (o - (qd j f))] 38),(some lqq120586,rcq120586.at .busy none),(some rcq120586.defers,.deferred (some [])),(some L,blk [uM s j o,uM u i p,uM x g q,iv f,iv d,iv a] 63),(some M,blk (al bb (List.replicate 180 (⟨0,0,[]⟩:Sp3))) 169),(some B,blk [uM s j o,uM u i p,uM x g q,iv f,iv d,iv a] 63)]∧F112j23 (F112l22 j i g f d a N aK) aB aW=some r) ?_ ?_))))
   ·
    refine au (uL rfl (gdE F (fun d8 F=>bt F (fun E cA F=>?_))))
    obtain ⟨eC,eD,d9,dA,dB⟩:=hC159943.at_ bk (by decide) cA
    refine ph (cn (aB).toNat mj mc rfl d9 rfl (Int.toNat_of_nonneg d8).symm (fa cA rfl) (ph (ef I (qh E) me mc rfl rfl dA (by simp) dB (ph (bh I _ zeroValue35 rfl fun aL w I=>xi I 0 _ mc rfl fun w I=>aa (dn (fun ρ w=>cd ρ [(3,pt A),(4,iv 0),(9,pt aL),(18,.slice (some ⟨U,0,none⟩) 2 2),(19,iv 2),(20,iv 1),(24,.slice P ((qb j f).length) (o - (qd j f))),(25,iv ((qb j f).length:Int)),(26,iv aB),(42,bF)]∧Inv [] w0 w [(some A,blk (al bb a5) 169),(some aL,blk (qh E) 35),(some U,blk [.slice O ((qc j f).length) (o - 0),.slice P ((qb j f).length) (o - (qd j f))] 38),(some lqq120586,rcq120586.at .busy none),(some rcq120586.defers,.deferred (some [])),(some L,blk [uM s j o,uM u i p,uM x g q,iv f,iv d,iv a] 63),(some M,blk (al bb (List.replicate 180 (⟨0,0,[]⟩:Sp3))) 169),(some B,blk [uM s j o,uM u i p,uM x g q,iv f,iv d,iv a] 63)]∧F112j24 (F112l22 j i g f d a N aK) a5 aB=some r) ?_ ?_))))))
    ·
     refine rgn rfl (pu (iv 0) rfl (xm I 0 me mc rfl (bt F (fun eE cB F=>ifN F (fun bB F=>?_) (fun bB F=>?_)))))
     ·
      refine ph (bg I 91 _ _ (by kernel_rfl) (bn.mono (L91 _ 0 E N _ cB) (uH (Bool.eq_false_iff.2 bB))) fun w I=>pu bF (by kernel_rfl) (sf 8 (by kernel_rfl) (pu bF (by kernel_rfl) (aa (.inl ⟨rfl,⟨(uK rfl),I.pk [1,0,2,3,4,5,6,7] rfl,F⟩⟩)))))
     refine ph (bg I 91 _ _ (by kernel_rfl) (bn.mono (L91 _ 0 E N _ cB) (uH bB)) fun w I=>pu bT (by kernel_rfl) (pup (pt aL) (by kernel_rfl) (aw (by kernel_rfl) (ag I 0 (iv E.no) zi3 rfl rfl rfl (pup (iv 0) (by kernel_rfl) (gdE F (fun cC F=>gdE F (fun cD F=>aw (by kernel_rfl) (av ((E.no).toNat) zu169 zs168 rfl rfl (Int.toNat_of_nonneg cC).symm cD (((E.no).toNat) * 9) (Nat.zero_add _) (bt F (fun Z bC F=>aw (by kernel_rfl) (av 0 zu168 mc rfl rfl rfl (by decide) ((((E.no).toNat) * 3+0) * 3) (by omega) (aw (by kernel_rfl) (cq I 1 (qh Z) me mc rfl rfl rfl (big_at bk bC) (pup (.agg #[iv 0,iv 0,uE []]) (by kernel_rfl) (ifN F (fun bD F=>?_) (fun bD F=>?_)))))))))))))))))
     ·
      refine aw rfl (kz (b:=decide (Z.no=0) && decide (Z.sz=0) && decide (Z.t=[])) rfl rfl (by kernel_rfl) (fun w=>eq35 _ Z.no Z.sz Z.t 0 0 [] w) (uP bD) (fun _=>pu bF rfl (aa (.inl ⟨rfl,⟨(uK rfl),I.pk [1,0,2,3,4,5,6,7] rfl,F⟩⟩))))
     refine aw rfl (kz (b:=decide (Z.no=0) && decide (Z.sz=0) && decide (Z.t=[])) rfl rfl (by kernel_rfl) (fun w=>eq35 _ Z.no Z.sz Z.t 0 0 [] w) (fun _=>?_) (uO bD))
     refine pu bT rfl (aa (.inr (ah rfl (gm 6 I (by kernel_rfl) (zP (pt aL) rfl (zg 0 (iv E.no) zi3 rfl (zP (iv 0) rfl (zm 0 (qh E) me mc rfl (zc (uF A (((E.no).toNat) * 9)) (fun w I=>av ((E.no).toNat) zu169 zs168 rfl rfl (Int.toNat_of_nonneg cC).symm cD (((E.no).toNat) * 9) (Nat.zero_add _) br) (zc (uF A ((((E.no).toNat) * 3+0) * 3)) (fun w I=>av 0 zu168 mc rfl rfl rfl (by decide) ((((E.no).toNat) * 3+0) * 3) (by omega) br) (zh (fun w I=>xq I 1 3 (qh E) mc rfl (big_room bk bC) ?_))))))))))))
     intro w I
     have I:Inv [] w0 w [(some aL,blk (qh E) 35),(some A,blk (al bb ((a5).set (((E.no).toNat) * 3+0) (⟨E.no,E.sz,E.t⟩:Sp3))) 169),(some U,blk [.slice O ((qc j f).length) (o - 0),.slice P ((qb j f).length) (o - (qd j f))] 38),(some lqq120586,rcq120586.at .busy none),(some rcq120586.defers,.deferred (some [])),(some L,blk [uM s j o,uM u i p,uM x g q,iv f,iv d,iv a] 63),(some M,blk (al bb (List.replicate 180 (⟨0,0,[]⟩:Sp3))) 169),(some B,blk [uM s j o,uM u i p,uM x g q,iv f,iv d,iv a] 63)]:=by have e:putCells (al bb a5) ((((E.no).toNat) * 3+0) * 3) (qh E)=al bb ((a5).set (((E.no).toNat) * 3+0) (⟨E.no,E.sz,E.t⟩:Sp3)):=big_put bk bC (⟨E.no,E.sz,E.t⟩:Sp3); rw [e] at I; exact I
     refine aa (.inl ⟨rfl,⟨(a5).set (((E.no).toNat) * 3+0) (⟨E.no,E.sz,E.t⟩:Sp3),(uK rfl),I.pk [1,2,3,4,5,6,7] rfl,F⟩⟩)
    intro ρ w hJ
    obtain ⟨hag,I,F⟩:=hJ
    obtain ⟨ρ,rfl⟩:=hag.form
    unfold F112j24 at F
    refine ai rfl (ak (.inl ⟨rfl,⟨a5,(uK rfl),I.pk [0,2,3,4,5,6,7] rfl,F⟩⟩))
   intro ρ w hJ
   obtain ⟨aW,hag,I,F⟩:=hJ
   obtain ⟨ρ,rfl⟩:=hag.form
   unfold F112j23 at F
   refine rgn rfl (ckE F (fun dC F=>xa rfl dC (pu (iv (aB+1)) rfl (aa (⟨rfl,aK,Nat.lt_succ_self _,⟨aW,aB+1,aK,(uK rfl),I.pk [0,1,2,3,4,5,6] rfl,F,rfl⟩⟩)))))
  intro ρ w hJ
  obtain ⟨aV,hag,I,F⟩:=hJ
  obtain ⟨ρ,rfl⟩:=hag.form
  unfold F112j21 at F
  refine rgn rfl (pu2 (iv 2) (iv 2) rfl (aa (⟨rfl,lh ?_⟩)))
  refine uL rfl (xl rfl (fun h=>absurd h (by decide)) (fun _=>aa (ab (ai rfl (bw (⟨_,I.pk [2,0,1,3,4,5,6] rfl,fun w I=>?_⟩))))))
  refine pu bF rfl (aa (.inl ⟨rfl,⟨aV,(uK rfl),I.pk [0,6,3,4,5,1] rfl,F⟩⟩))
 intro ρ w hJ
 obtain ⟨aS,hag,I,F⟩:=hJ
 obtain ⟨ρ,rfl⟩:=hag.form
 unfold F112j1 at F
 refine ai rfl (ak (rgn rfl (pu2 (iv 1) (iv 1) rfl (aa (⟨rfl,lh ?_⟩)))))
 refine uL rfl (xl rfl (fun _=>?_) (fun h=>absurd (by decide) h))
 refine aa (ab (ah rfl (ak (ab (au (uL rfl (pu3 (iv 1) (uM u i p) (iv 1) (by kernel_rfl) (pu (uM u i p) rfl (aa (uL rfl (pu3 (iv 1) (uF B 3) (uF B 4) (by kernel_rfl) (xg I 1 (iv d) zi3 rfl (pu3 (iv (if 0 > d then 0 else d)) (uM u i p) (iv ((i.length:Nat):Int)) (by kernel_rfl) (pu2 (iv (qa i d)) (iv (qa i d)) (by kernel_rfl) (aa (dn (fun ρ w=>∃ (aX:List Sp3),cd ρ [(0,yfn lqq120586),(1,pt B),(7,.agg #[uM s j o,uM u i p,uM x g q]),(8,iv 1),(30,bF)]∧Inv [] w0 w [(some lqq120586,rcq120586.at .ready none),(some B,blk [uM s j o,uM u i p,uM x g q,iv f,iv d,iv a] 63),(some rcq120586.defers,.deferred (some [])),(some L,blk [uM s j o,uM u i p,uM x g q,iv f,iv d,iv a] 63),(some M,blk (al bb (List.replicate 180 (⟨0,0,[]⟩:Sp3))) 169),(some A,blk (al bb aX) 169)]∧F112j2 g a N aX=some r) ?_ ?_))))))))))))))))
 ·
  refine gm 9 I (by kernel_rfl) (zB (yfn lqq120586) (iv 1) rfl (zB (uM u i p) (iv (qa i d)) rfl (gdE F (fun cE F=>gdE F (fun dD F=>?_)))))
  obtain ⟨Q,hC158267,dE⟩:=cutA (enc:=bb) (l:=i) (lo:=0) (hi:=(qd i d)) (c:=p) (k:=3) bk bY dD bZ
  refine zc (.slice Q ((qc i d).length) (p - 0)) (fun w I=>dE mj mc rfl (.inr ⟨rfl,rfl⟩) (.inl (congrArg (fun z=>some (Value.int .i64 z)) (Int.toNat_of_nonneg cE).symm)) br) (zB (uM u i p) (iv (qa i d)) rfl (gdE F (fun dF F=>?_)))
  obtain ⟨R,hC158269,dG⟩:=cutA (enc:=bb) (l:=i) (lo:=(qd i d)) (hi:=i.length) (c:=p) (k:=3) bk bY dF bZ
  refine zc (.slice R ((qb i d).length) (p - (qd i d))) (fun w I=>dG mj mc rfl (.inl (congrArg (fun z=>some (Value.int .i64 z)) (Int.toNat_of_nonneg cE).symm)) (.inr ⟨rfl,rfl⟩) br) (zP (.agg #[.slice Q ((qc i d).length) (p - 0),.slice R ((qb i d).length) (p - (qd i d))]) (by kernel_rfl) (zh (fun w I=>ph (li (fv:=yfn lqq120586) [iv 1,.agg #[.slice Q ((qc i d).length) (p - 0),.slice R ((qb i d).length) (p - (qd i d))]] rfl (by kernel_rfl) ?_))))
  have I:=I.pk [0,1,2,3,4,5] rfl
  refine eu I hofq120586 [12,13] hpsq120586 rfl (by decide) ?_
  rw [hasq120586]
  refine uL rfl (pu (iv 1) rfl (aa (rgn rfl (ph (bh I _ zeroValue179 rfl fun cF w I=>xi I 0 _ zs179 rfl fun w I=>aa (⟨rfl,_,I.pk [1,0,2,3,4,5,6] rfl,?_⟩))))))
  intro w I
  rw [hboq120586]
  refine au (uL rfl (pu (pt cF) rfl (xg I 1 (.slice Q ((qc i d).length) (p - 0)) mq rfl (pu (uF cF 1) rfl (xg I 1 (.slice R ((qb i d).length) (p - (qd i d))) mq rfl (ph (fu I [.slice Q ((qc i d).length) (p - 0),.slice R ((qb i d).length) (p - (qd i d))] 38 (fun b=>slv (some b) 2 2) (by kernel_rfl) fun V w I=>pu2 (iv ((2:Nat):Int)) (iv 0) (by kernel_rfl) (aa (au (jx 3 (lh (uL rfl (xl rfl (fun _=>?_) (fun h=>absurd (by decide) h))))))))))))))
  refine aa (ab (ah rfl (ak (dn (fun ρ w=>∃ (aY:List Sp3),cd ρ [(3,pt A),(4,iv 1),(18,.slice (some ⟨V,0,none⟩) 2 2),(19,iv 2),(20,iv 0)]∧Inv [] w0 w [(some A,blk (al bb aY) 169),(some V,blk [.slice Q ((qc i d).length) (p - 0),.slice R ((qb i d).length) (p - (qd i d))] 38),(some lqq120586,rcq120586.at .busy none),(some rcq120586.defers,.deferred (some [])),(some L,blk [uM s j o,uM u i p,uM x g q,iv f,iv d,iv a] 63),(some M,blk (al bb (List.replicate 180 (⟨0,0,[]⟩:Sp3))) 169),(some B,blk [uM s j o,uM u i p,uM x g q,iv f,iv d,iv a] 63)]∧F112j12 i g d a N aY=some r) ?_ ?_))))
  ·
   refine au (uL rfl (ph (lj 0 0 zu210 mw rfl rfl (by decide) rfl (xg I 0 (.slice Q ((qc i d).length) (p - 0)) mq rfl (pu (.slice Q ((qc i d).length) (p - 0)) rfl (aa (uL rfl (pu3 (.slice Q ((qc i d).length) (p - 0)) (iv (((qc i d).length:Nat):Int)) (iv 0) (by kernel_rfl) (aa (au (cb (fun m ρ w=>∃ (a6:List Sp3) (aC mm:_),cd ρ [(3,pt A),(4,iv 1),(18,.slice (some ⟨V,0,none⟩) 2 2),(19,iv 2),(20,iv 0),(24,.slice Q ((qc i d).length) (p - 0)),(25,iv ((qc i d).length:Int)),(26,iv aC)]∧Inv [] w0 w [(some A,blk (al bb a6) 169),(some V,blk [.slice Q ((qc i d).length) (p - 0),.slice R ((qb i d).length) (p - (qd i d))] 38),(some lqq120586,rcq120586.at .busy none),(some rcq120586.defers,.deferred (some [])),(some L,blk [uM s j o,uM u i p,uM x g q,iv f,iv d,iv a] 63),(some M,blk (al bb (List.replicate 180 (⟨0,0,[]⟩:Sp3))) 169),(some B,blk [uM s j o,uM u i p,uM x g q,iv f,iv d,iv a] 63)]∧F112l17 i g d a N mm a6 aC=some r∧mm=m) (m:=N) ⟨aS,0,N,(uK rfl),I.pk [7,0,1,4,5,6,3] rfl,F,rfl⟩ ?_)))))))))))
   rintro m ρ w ⟨a6,aC,mm,hag,I,F,hm⟩
   subst hm; obtain ⟨ρ,rfl⟩:=hag.form
   obtain _ | aM:=mm
   ·cases (show (none:Option (List Sp3))=some r from F)
   replace F:F112b17 i g d a N (F112l17 i g d a N aM) a6 aC=some r:=F; unfold F112b17 at F
   refine uL rfl (ifN F (fun bE F=>?_) (fun bE F=>?_))
   ·
    refine xl rfl (uP bE) (fun _=>aa (ab (ai rfl (bw (.inl ⟨rfl,⟨a6,(uK rfl),I.pk [0,1,2,3,4,5,6] rfl,F⟩⟩)))))
   refine xl rfl (fun _=>?_) (uO bE)
   refine aa (ab (ah rfl (ak (dn (fun ρ w=>∃ (aZ:List Sp3),cd ρ [(3,pt A),(4,iv 1),(18,.slice (some ⟨V,0,none⟩) 2 2),(19,iv 2),(20,iv 0),(24,.slice Q ((qc i d).length) (p - 0)),(25,iv ((qc i d).length:Int)),(26,iv aC)]∧Inv [] w0 w [(some A,blk (al bb aZ) 169),(some V,blk [.slice Q ((qc i d).length) (p - 0),.slice R ((qb i d).length) (p - (qd i d))] 38),(some lqq120586,rcq120586.at .busy none),(some rcq120586.defers,.deferred (some [])),(some L,blk [uM s j o,uM u i p,uM x g q,iv f,iv d,iv a] 63),(some M,blk (al bb (List.replicate 180 (⟨0,0,[]⟩:Sp3))) 169),(some B,blk [uM s j o,uM u i p,uM x g q,iv f,iv d,iv a] 63)]∧F112j18 (F112l17 i g d a N aM) aC aZ=some r) ?_ ?_))))
   ·
    refine au (uL rfl (gdE F (fun dH F=>bt F (fun G cG F=>?_))))
    obtain ⟨eF,eG,dI,dJ,dK⟩:=hC158267.at_ bk (by decide) cG
    refine ph (cn (aC).toNat mj mc rfl dI rfl (Int.toNat_of_nonneg dH).symm (fa cG rfl) (ph (ef I (qh G) me mc rfl rfl dJ (by simp) dK (ph (bh I _ zeroValue35 rfl fun aN w I=>xi I 0 _ mc rfl fun w I=>aa (dn (fun ρ w=>cd ρ [(3,pt A),(4,iv 1),(9,pt aN),(18,.slice (some ⟨V,0,none⟩) 2 2),(19,iv 2),(20,iv 0),(24,.slice Q ((qc i d).length) (p - 0)),(25,iv ((qc i d).length:Int)),(26,iv aC),(42,bF)]∧Inv [] w0 w [(some A,blk (al bb a6) 169),(some aN,blk (qh G) 35),(some V,blk [.slice Q ((qc i d).length) (p - 0),.slice R ((qb i d).length) (p - (qd i d))] 38),(some lqq120586,rcq120586.at .busy none),(some rcq120586.defers,.deferred (some [])),(some L,blk [uM s j o,uM u i p,uM x g q,iv f,iv d,iv a] 63),(some M,blk (al bb (List.replicate 180 (⟨0,0,[]⟩:Sp3))) 169),(some B,blk [uM s j o,uM u i p,uM x g q,iv f,iv d,iv a] 63)]∧F112j19 (F112l17 i g d a N aM) a6 aC=some r) ?_ ?_))))))
    ·
     refine rgn rfl (pu (iv 1) rfl (xm I 0 me mc rfl (bt F (fun eH cH F=>ifN F (fun bG F=>?_) (fun bG F=>?_)))))
     ·
      refine ph (bg I 91 _ _ (by kernel_rfl) (bn.mono (L91 _ 1 G N _ cH) (uH (Bool.eq_false_iff.2 bG))) fun w I=>pu bF (by kernel_rfl) (sf 8 (by kernel_rfl) (pu bF (by kernel_rfl) (aa (.inl ⟨rfl,⟨(uK rfl),I.pk [1,0,2,3,4,5,6,7] rfl,F⟩⟩)))))
     refine ph (bg I 91 _ _ (by kernel_rfl) (bn.mono (L91 _ 1 G N _ cH) (uH bG)) fun w I=>pu bT (by kernel_rfl) (pup (pt aN) (by kernel_rfl) (aw (by kernel_rfl) (ag I 0 (iv G.no) zi3 rfl rfl rfl (pup (iv 1) (by kernel_rfl) (gdE F (fun cI F=>gdE F (fun cJ F=>aw (by kernel_rfl) (av ((G.no).toNat) zu169 zs168 rfl rfl (Int.toNat_of_nonneg cI).symm cJ (((G.no).toNat) * 9) (Nat.zero_add _) (bt F (fun a0 bH F=>aw (by kernel_rfl) (av 1 zu168 mc rfl rfl rfl (by decide) ((((G.no).toNat) * 3+1) * 3) (by omega) (aw (by kernel_rfl) (cq I 1 (qh a0) me mc rfl rfl rfl (big_at bk bH) (pup (.agg #[iv 0,iv 0,uE []]) (by kernel_rfl) (ifN F (fun bI F=>?_) (fun bI F=>?_)))))))))))))))))
     ·
      refine aw rfl (kz (b:=decide (a0.no=0) && decide (a0.sz=0) && decide (a0.t=[])) rfl rfl (by kernel_rfl) (fun w=>eq35 _ a0.no a0.sz a0.t 0 0 [] w) (uP bI) (fun _=>pu bF rfl (aa (.inl ⟨rfl,⟨(uK rfl),I.pk [1,0,2,3,4,5,6,7] rfl,F⟩⟩))))
     refine aw rfl (kz (b:=decide (a0.no=0) && decide (a0.sz=0) && decide (a0.t=[])) rfl rfl (by kernel_rfl) (fun w=>eq35 _ a0.no a0.sz a0.t 0 0 [] w) (fun _=>?_) (uO bI))
     refine pu bT rfl (aa (.inr (ah rfl (gm 6 I (by kernel_rfl) (zP (pt aN) rfl (zg 0 (iv G.no) zi3 rfl (zP (iv 1) rfl (zm 0 (qh G) me mc rfl (zc (uF A (((G.no).toNat) * 9)) (fun w I=>av ((G.no).toNat) zu169 zs168 rfl rfl (Int.toNat_of_nonneg cI).symm cJ (((G.no).toNat) * 9) (Nat.zero_add _) br) (zc (uF A ((((G.no).toNat) * 3+1) * 3)) (fun w I=>av 1 zu168 mc rfl rfl rfl (by decide) ((((G.no).toNat) * 3+1) * 3) (by omega) br) (zh (fun w I=>xq I 1 3 (qh G) mc rfl (big_room bk bH) ?_))))))))))))
     intro w I
     have I:Inv [] w0 w [(some aN,blk (qh G) 35),(some A,blk (al bb ((a6).set (((G.no).toNat) * 3+1) (⟨G.no,G.sz,G.t⟩:Sp3))) 169),(some V,blk [.slice Q ((qc i d).length) (p - 0),.slice R ((qb i d).length) (p - (qd i d))] 38),(some lqq120586,rcq120586.at .busy none),(some rcq120586.defers,.deferred (some [])),(some L,blk [uM s j o,uM u i p,uM x g q,iv f,iv d,iv a] 63),(some M,blk (al bb (List.replicate 180 (⟨0,0,[]⟩:Sp3))) 169),(some B,blk [uM s j o,uM u i p,uM x g q,iv f,iv d,iv a] 63)]:=by have e:putCells (al bb a6) ((((G.no).toNat) * 3+1) * 3) (qh G)=al bb ((a6).set (((G.no).toNat) * 3+1) (⟨G.no,G.sz,G.t⟩:Sp3)):=big_put bk bH (⟨G.no,G.sz,G.t⟩:Sp3); rw [e] at I; exact I
     refine aa (.inl ⟨rfl,⟨(a6).set (((G.no).toNat) * 3+1) (⟨G.no,G.sz,G.t⟩:Sp3),(uK rfl),I.pk [1,2,3,4,5,6,7] rfl,F⟩⟩)
    intro ρ w hJ
    obtain ⟨hag,I,F⟩:=hJ
    obtain ⟨ρ,rfl⟩:=hag.form
    unfold F112j19 at F
    refine ai rfl (ak (.inl ⟨rfl,⟨a6,(uK rfl),I.pk [0,2,3,4,5,6,7] rfl,F⟩⟩))
   intro ρ w hJ
   obtain ⟨aZ,hag,I,F⟩:=hJ
   obtain ⟨ρ,rfl⟩:=hag.form
   unfold F112j18 at F
   refine rgn rfl (ckE F (fun dL F=>xa rfl dL (pu (iv (aC+1)) rfl (aa (⟨rfl,aM,Nat.lt_succ_self _,⟨aZ,aC+1,aM,(uK rfl),I.pk [0,1,2,3,4,5,6] rfl,F,rfl⟩⟩)))))
  intro ρ w hJ
  obtain ⟨aY,hag,I,F⟩:=hJ
  obtain ⟨ρ,rfl⟩:=hag.form
  unfold F112j12 at F
  refine rgn rfl (pu2 (iv 1) (iv 1) rfl (aa (⟨rfl,lh ?_⟩)))
  refine uL rfl (xl rfl (fun _=>?_) (fun h=>absurd (by decide) h))
  refine aa (ab (ah rfl (ak (dn (fun ρ w=>∃ (b0:List Sp3),cd ρ [(3,pt A),(4,iv 1),(18,.slice (some ⟨V,0,none⟩) 2 2),(19,iv 2),(20,iv 1)]∧Inv [] w0 w [(some A,blk (al bb b0) 169),(some V,blk [.slice Q ((qc i d).length) (p - 0),.slice R ((qb i d).length) (p - (qd i d))] 38),(some lqq120586,rcq120586.at .busy none),(some rcq120586.defers,.deferred (some [])),(some L,blk [uM s j o,uM u i p,uM x g q,iv f,iv d,iv a] 63),(some M,blk (al bb (List.replicate 180 (⟨0,0,[]⟩:Sp3))) 169),(some B,blk [uM s j o,uM u i p,uM x g q,iv f,iv d,iv a] 63)]∧F112j13 g a N b0=some r) ?_ ?_))))
  ·
   refine au (uL rfl (ph (lj 1 1 zu210 mw rfl rfl (by decide) rfl (xg I 1 (.slice R ((qb i d).length) (p - (qd i d))) mq rfl (pu (.slice R ((qb i d).length) (p - (qd i d))) rfl (aa (uL rfl (pu3 (.slice R ((qb i d).length) (p - (qd i d))) (iv (((qb i d).length:Nat):Int)) (iv 0) (by kernel_rfl) (aa (au (cb (fun m ρ w=>∃ (a7:List Sp3) (aD mm:_),cd ρ [(3,pt A),(4,iv 1),(18,.slice (some ⟨V,0,none⟩) 2 2),(19,iv 2),(20,iv 1),(24,.slice R ((qb i d).length) (p - (qd i d))),(25,iv ((qb i d).length:Int)),(26,iv aD)]∧Inv [] w0 w [(some A,blk (al bb a7) 169),(some V,blk [.slice Q ((qc i d).length) (p - 0),.slice R ((qb i d).length) (p - (qd i d))] 38),(some lqq120586,rcq120586.at .busy none),(some rcq120586.defers,.deferred (some [])),(some L,blk [uM s j o,uM u i p,uM x g q,iv f,iv d,iv a] 63),(some M,blk (al bb (List.replicate 180 (⟨0,0,[]⟩:Sp3))) 169),(some B,blk [uM s j o,uM u i p,uM x g q,iv f,iv d,iv a] 63)]∧F112l14 i g d a N mm a7 aD=some r∧mm=m) (m:=N) ⟨aY,0,N,(uK rfl),I.pk [0,1,2,3,4,5,6] rfl,F,rfl⟩ ?_)))))))))))
   rintro m ρ w ⟨a7,aD,mm,hag,I,F,hm⟩
   subst hm; obtain ⟨ρ,rfl⟩:=hag.form
   obtain _ | aO:=mm
   ·cases (show (none:Option (List Sp3))=some r from F)
   replace F:F112b14 i g d a N (F112l14 i g d a N aO) a7 aD=some r:=F; unfold F112b14 at F
   refine uL rfl (ifN F (fun bJ F=>?_) (fun bJ F=>?_))
   ·
    refine xl rfl (uP bJ) (fun _=>aa (ab (ai rfl (bw (.inl ⟨rfl,⟨a7,(uK rfl),I.pk [0,1,2,3,4,5,6] rfl,F⟩⟩)))))
   refine xl rfl (fun _=>?_) (uO bJ)
   refine aa (ab (ah rfl (ak (dn (fun ρ w=>∃ (b1:List Sp3),cd ρ [(3,pt A),(4,iv 1),(18,.slice (some ⟨V,0,none⟩) 2 2),(19,iv 2),(20,iv 1),(24,.slice R ((qb i d).length) (p - (qd i d))),(25,iv ((qb i d).length:Int)),(26,iv aD)]∧Inv [] w0 w [(some A,blk (al bb b1) 169),(some V,blk [.slice Q ((qc i d).length) (p - 0),.slice R ((qb i d).length) (p - (qd i d))] 38),(some lqq120586,rcq120586.at .busy none),(some rcq120586.defers,.deferred (some [])),(some L,blk [uM s j o,uM u i p,uM x g q,iv f,iv d,iv a] 63),(some M,blk (al bb (List.replicate 180 (⟨0,0,[]⟩:Sp3))) 169),(some B,blk [uM s j o,uM u i p,uM x g q,iv f,iv d,iv a] 63)]∧F112j15 (F112l14 i g d a N aO) aD b1=some r) ?_ ?_))))
   ·
    refine au (uL rfl (gdE F (fun dM F=>bt F (fun H cK F=>?_))))
    obtain ⟨eI,eJ,dN,dO,dP⟩:=hC158269.at_ bk (by decide) cK
    refine ph (cn (aD).toNat mj mc rfl dN rfl (Int.toNat_of_nonneg dM).symm (fa cK rfl) (ph (ef I (qh H) me mc rfl rfl dO (by simp) dP (ph (bh I _ zeroValue35 rfl fun aP w I=>xi I 0 _ mc rfl fun w I=>aa (dn (fun ρ w=>cd ρ [(3,pt A),(4,iv 1),(9,pt aP),(18,.slice (some ⟨V,0,none⟩) 2 2),(19,iv 2),(20,iv 1),(24,.slice R ((qb i d).length) (p - (qd i d))),(25,iv ((qb i d).length:Int)),(26,iv aD),(42,bF)]∧Inv [] w0 w [(some A,blk (al bb a7) 169),(some aP,blk (qh H) 35),(some V,blk [.slice Q ((qc i d).length) (p - 0),.slice R ((qb i d).length) (p - (qd i d))] 38),(some lqq120586,rcq120586.at .busy none),(some rcq120586.defers,.deferred (some [])),(some L,blk [uM s j o,uM u i p,uM x g q,iv f,iv d,iv a] 63),(some M,blk (al bb (List.replicate 180 (⟨0,0,[]⟩:Sp3))) 169),(some B,blk [uM s j o,uM u i p,uM x g q,iv f,iv d,iv a] 63)]∧F112j16 (F112l14 i g d a N aO) a7 aD=some r) ?_ ?_))))))
    ·
     refine rgn rfl (pu (iv 1) rfl (xm I 0 me mc rfl (bt F (fun eK cL F=>ifN F (fun bK F=>?_) (fun bK F=>?_)))))
     ·
      refine ph (bg I 91 _ _ (by kernel_rfl) (bn.mono (L91 _ 1 H N _ cL) (uH (Bool.eq_false_iff.2 bK))) fun w I=>pu bF (by kernel_rfl) (sf 8 (by kernel_rfl) (pu bF (by kernel_rfl) (aa (.inl ⟨rfl,⟨(uK rfl),I.pk [1,0,2,3,4,5,6,7] rfl,F⟩⟩)))))
     refine ph (bg I 91 _ _ (by kernel_rfl) (bn.mono (L91 _ 1 H N _ cL) (uH bK)) fun w I=>pu bT (by kernel_rfl) (pup (pt aP) (by kernel_rfl) (aw (by kernel_rfl) (ag I 0 (iv H.no) zi3 rfl rfl rfl (pup (iv 1) (by kernel_rfl) (gdE F (fun cM F=>gdE F (fun cN F=>aw (by kernel_rfl) (av ((H.no).toNat) zu169 zs168 rfl rfl (Int.toNat_of_nonneg cM).symm cN (((H.no).toNat) * 9) (Nat.zero_add _) (bt F (fun a1 bL F=>aw (by kernel_rfl) (av 1 zu168 mc rfl rfl rfl (by decide) ((((H.no).toNat) * 3+1) * 3) (by omega) (aw (by kernel_rfl) (cq I 1 (qh a1) me mc rfl rfl rfl (big_at bk bL) (pup (.agg #[iv 0,iv 0,uE []]) (by kernel_rfl) (ifN F (fun bM F=>?_) (fun bM F=>?_)))))))))))))))))
     ·
      refine aw rfl (kz (b:=decide (a1.no=0) && decide (a1.sz=0) && decide (a1.t=[])) rfl rfl (by kernel_rfl) (fun w=>eq35 _ a1.no a1.sz a1.t 0 0 [] w) (uP bM) (fun _=>pu bF rfl (aa (.inl ⟨rfl,⟨(uK rfl),I.pk [1,0,2,3,4,5,6,7] rfl,F⟩⟩))))
     refine aw rfl (kz (b:=decide (a1.no=0) && decide (a1.sz=0) && decide (a1.t=[])) rfl rfl (by kernel_rfl) (fun w=>eq35 _ a1.no a1.sz a1.t 0 0 [] w) (fun _=>?_) (uO bM))
     refine pu bT rfl (aa (.inr (ah rfl (gm 6 I (by kernel_rfl) (zP (pt aP) rfl (zg 0 (iv H.no) zi3 rfl (zP (iv 1) rfl (zm 0 (qh H) me mc rfl (zc (uF A (((H.no).toNat) * 9)) (fun w I=>av ((H.no).toNat) zu169 zs168 rfl rfl (Int.toNat_of_nonneg cM).symm cN (((H.no).toNat) * 9) (Nat.zero_add _) br) (zc (uF A ((((H.no).toNat) * 3+1) * 3)) (fun w I=>av 1 zu168 mc rfl rfl rfl (by decide) ((((H.no).toNat) * 3+1) * 3) (by omega) br) (zh (fun w I=>xq I 1 3 (qh H) mc rfl (big_room bk bL) ?_))))))))))))
     intro w I
     have I:Inv [] w0 w [(some aP,blk (qh H) 35),(some A,blk (al bb ((a7).set (((H.no).toNat) * 3+1) (⟨H.no,H.sz,H.t⟩:Sp3))) 169),(some V,blk [.slice Q ((qc i d).length) (p - 0),.slice R ((qb i d).length) (p - (qd i d))] 38),(some lqq120586,rcq120586.at .busy none),(some rcq120586.defers,.deferred (some [])),(some L,blk [uM s j o,uM u i p,uM x g q,iv f,iv d,iv a] 63),(some M,blk (al bb (List.replicate 180 (⟨0,0,[]⟩:Sp3))) 169),(some B,blk [uM s j o,uM u i p,uM x g q,iv f,iv d,iv a] 63)]:=by have e:putCells (al bb a7) ((((H.no).toNat) * 3+1) * 3) (qh H)=al bb ((a7).set (((H.no).toNat) * 3+1) (⟨H.no,H.sz,H.t⟩:Sp3)):=big_put bk bL (⟨H.no,H.sz,H.t⟩:Sp3); rw [e] at I; exact I
     refine aa (.inl ⟨rfl,⟨(a7).set (((H.no).toNat) * 3+1) (⟨H.no,H.sz,H.t⟩:Sp3),(uK rfl),I.pk [1,2,3,4,5,6,7] rfl,F⟩⟩)
    intro ρ w hJ
    obtain ⟨hag,I,F⟩:=hJ
    obtain ⟨ρ,rfl⟩:=hag.form
    unfold F112j16 at F
    refine ai rfl (ak (.inl ⟨rfl,⟨a7,(uK rfl),I.pk [0,2,3,4,5,6,7] rfl,F⟩⟩))
   intro ρ w hJ
   obtain ⟨b1,hag,I,F⟩:=hJ
   obtain ⟨ρ,rfl⟩:=hag.form
   unfold F112j15 at F
   refine rgn rfl (ckE F (fun dQ F=>xa rfl dQ (pu (iv (aD+1)) rfl (aa (⟨rfl,aO,Nat.lt_succ_self _,⟨b1,aD+1,aO,(uK rfl),I.pk [0,1,2,3,4,5,6] rfl,F,rfl⟩⟩)))))
  intro ρ w hJ
  obtain ⟨b0,hag,I,F⟩:=hJ
  obtain ⟨ρ,rfl⟩:=hag.form
  unfold F112j13 at F
  refine rgn rfl (pu2 (iv 2) (iv 2) rfl (aa (⟨rfl,lh ?_⟩)))
  refine uL rfl (xl rfl (fun h=>absurd h (by decide)) (fun _=>aa (ab (ai rfl (bw (⟨_,I.pk [2,0,1,3,4,5,6] rfl,fun w I=>?_⟩))))))
  refine pu bF rfl (aa (.inl ⟨rfl,⟨b0,(uK rfl),I.pk [0,6,3,4,5,1] rfl,F⟩⟩))
 intro ρ w hJ
 obtain ⟨aX,hag,I,F⟩:=hJ
 obtain ⟨ρ,rfl⟩:=hag.form
 unfold F112j2 at F
 refine ai rfl (ak (rgn rfl (pu2 (iv 2) (iv 2) rfl (aa (⟨rfl,lh ?_⟩)))))
 refine uL rfl (xl rfl (fun _=>?_) (fun h=>absurd (by decide) h))
 refine aa (ab (ah rfl (ak (ab (au (uL rfl (pu3 (iv 2) (uM x g q) (iv 2) (by kernel_rfl) (pu (uM x g q) rfl (aa (uL rfl (pu3 (iv 2) (uF B 3) (uF B 5) (by kernel_rfl) (xg I 1 (iv a) zi3 rfl (pu3 (iv (if 0 > a then 0 else a)) (uM x g q) (iv ((g.length:Nat):Int)) (by kernel_rfl) (pu2 (iv (qa g a)) (iv (qa g a)) (by kernel_rfl) (aa (dn (fun ρ w=>∃ (aG:List Sp3),cd ρ [(0,yfn lqq120586),(1,pt B),(7,.agg #[uM s j o,uM u i p,uM x g q]),(8,iv 2),(30,bF)]∧Inv [] w0 w [(some lqq120586,rcq120586.at .ready none),(some B,blk [uM s j o,uM u i p,uM x g q,iv f,iv d,iv a] 63),(some rcq120586.defers,.deferred (some [])),(some L,blk [uM s j o,uM u i p,uM x g q,iv f,iv d,iv a] 63),(some M,blk (al bb (List.replicate 180 (⟨0,0,[]⟩:Sp3))) 169),(some A,blk (al bb aG) 169)]∧F112j3 aG=some r) ?_ ?_))))))))))))))))
 ·
  refine gm 9 I (by kernel_rfl) (zB (yfn lqq120586) (iv 2) rfl (zB (uM x g q) (iv (qa g a)) rfl (gdE F (fun cO F=>gdE F (fun dR F=>?_)))))
  obtain ⟨S,hC156593,dS⟩:=cutA (enc:=bb) (l:=g) (lo:=0) (hi:=(qd g a)) (c:=q) (k:=3) bk c0 dR c1
  refine zc (.slice S ((qc g a).length) (q - 0)) (fun w I=>dS mj mc rfl (.inr ⟨rfl,rfl⟩) (.inl (congrArg (fun z=>some (Value.int .i64 z)) (Int.toNat_of_nonneg cO).symm)) br) (zB (uM x g q) (iv (qa g a)) rfl (gdE F (fun dT F=>?_)))
  obtain ⟨T,hC156595,dU⟩:=cutA (enc:=bb) (l:=g) (lo:=(qd g a)) (hi:=g.length) (c:=q) (k:=3) bk c0 dT c1
  refine zc (.slice T ((qb g a).length) (q - (qd g a))) (fun w I=>dU mj mc rfl (.inl (congrArg (fun z=>some (Value.int .i64 z)) (Int.toNat_of_nonneg cO).symm)) (.inr ⟨rfl,rfl⟩) br) (zP (.agg #[.slice S ((qc g a).length) (q - 0),.slice T ((qb g a).length) (q - (qd g a))]) (by kernel_rfl) (zh (fun w I=>ph (li (fv:=yfn lqq120586) [iv 2,.agg #[.slice S ((qc g a).length) (q - 0),.slice T ((qb g a).length) (q - (qd g a))]] rfl (by kernel_rfl) ?_))))
  have I:=I.pk [0,1,2,3,4,5] rfl
  refine eu I hofq120586 [12,13] hpsq120586 rfl (by decide) ?_
  rw [hasq120586]
  refine uL rfl (pu (iv 2) rfl (aa (rgn rfl (ph (bh I _ zeroValue179 rfl fun cP w I=>xi I 0 _ zs179 rfl fun w I=>aa (⟨rfl,_,I.pk [1,0,2,3,4,5,6] rfl,?_⟩))))))
  intro w I
  rw [hboq120586]
  refine au (uL rfl (pu (pt cP) rfl (xg I 1 (.slice S ((qc g a).length) (q - 0)) mq rfl (pu (uF cP 1) rfl (xg I 1 (.slice T ((qb g a).length) (q - (qd g a))) mq rfl (ph (fu I [.slice S ((qc g a).length) (q - 0),.slice T ((qb g a).length) (q - (qd g a))] 38 (fun b=>slv (some b) 2 2) (by kernel_rfl) fun X w I=>pu2 (iv ((2:Nat):Int)) (iv 0) (by kernel_rfl) (aa (au (jx 3 (lh (uL rfl (xl rfl (fun _=>?_) (fun h=>absurd (by decide) h))))))))))))))
  refine aa (ab (ah rfl (ak (dn (fun ρ w=>∃ (b2:List Sp3),cd ρ [(3,pt A),(4,iv 2),(18,.slice (some ⟨X,0,none⟩) 2 2),(19,iv 2),(20,iv 0)]∧Inv [] w0 w [(some A,blk (al bb b2) 169),(some X,blk [.slice S ((qc g a).length) (q - 0),.slice T ((qb g a).length) (q - (qd g a))] 38),(some lqq120586,rcq120586.at .busy none),(some rcq120586.defers,.deferred (some [])),(some L,blk [uM s j o,uM u i p,uM x g q,iv f,iv d,iv a] 63),(some M,blk (al bb (List.replicate 180 (⟨0,0,[]⟩:Sp3))) 169),(some B,blk [uM s j o,uM u i p,uM x g q,iv f,iv d,iv a] 63)]∧F112j4 g a N b2=some r) ?_ ?_))))
  ·
   refine au (uL rfl (ph (lj 0 0 zu210 mw rfl rfl (by decide) rfl (xg I 0 (.slice S ((qc g a).length) (q - 0)) mq rfl (pu (.slice S ((qc g a).length) (q - 0)) rfl (aa (uL rfl (pu3 (.slice S ((qc g a).length) (q - 0)) (iv (((qc g a).length:Nat):Int)) (iv 0) (by kernel_rfl) (aa (au (cb (fun m ρ w=>∃ (a8:List Sp3) (aE mm:_),cd ρ [(3,pt A),(4,iv 2),(18,.slice (some ⟨X,0,none⟩) 2 2),(19,iv 2),(20,iv 0),(24,.slice S ((qc g a).length) (q - 0)),(25,iv ((qc g a).length:Int)),(26,iv aE)]∧Inv [] w0 w [(some A,blk (al bb a8) 169),(some X,blk [.slice S ((qc g a).length) (q - 0),.slice T ((qb g a).length) (q - (qd g a))] 38),(some lqq120586,rcq120586.at .busy none),(some rcq120586.defers,.deferred (some [])),(some L,blk [uM s j o,uM u i p,uM x g q,iv f,iv d,iv a] 63),(some M,blk (al bb (List.replicate 180 (⟨0,0,[]⟩:Sp3))) 169),(some B,blk [uM s j o,uM u i p,uM x g q,iv f,iv d,iv a] 63)]∧F112l9 g a N mm a8 aE=some r∧mm=m) (m:=N) ⟨aX,0,N,(uK rfl),I.pk [7,0,1,4,5,6,3] rfl,F,rfl⟩ ?_)))))))))))
   rintro m ρ w ⟨a8,aE,mm,hag,I,F,hm⟩
   subst hm; obtain ⟨ρ,rfl⟩:=hag.form
   obtain _ | m9:=mm
   ·cases (show (none:Option (List Sp3))=some r from F)
   replace F:F112b9 g a N (F112l9 g a N m9) a8 aE=some r:=F; unfold F112b9 at F
   refine uL rfl (ifN F (fun bN F=>?_) (fun bN F=>?_))
   ·
    refine xl rfl (uP bN) (fun _=>aa (ab (ai rfl (bw (.inl ⟨rfl,⟨a8,(uK rfl),I.pk [0,1,2,3,4,5,6] rfl,F⟩⟩)))))
   refine xl rfl (fun _=>?_) (uO bN)
   refine aa (ab (ah rfl (ak (dn (fun ρ w=>∃ (b3:List Sp3),cd ρ [(3,pt A),(4,iv 2),(18,.slice (some ⟨X,0,none⟩) 2 2),(19,iv 2),(20,iv 0),(24,.slice S ((qc g a).length) (q - 0)),(25,iv ((qc g a).length:Int)),(26,iv aE)]∧Inv [] w0 w [(some A,blk (al bb b3) 169),(some X,blk [.slice S ((qc g a).length) (q - 0),.slice T ((qb g a).length) (q - (qd g a))] 38),(some lqq120586,rcq120586.at .busy none),(some rcq120586.defers,.deferred (some [])),(some L,blk [uM s j o,uM u i p,uM x g q,iv f,iv d,iv a] 63),(some M,blk (al bb (List.replicate 180 (⟨0,0,[]⟩:Sp3))) 169),(some B,blk [uM s j o,uM u i p,uM x g q,iv f,iv d,iv a] 63)]∧F112j10 (F112l9 g a N m9) aE b3=some r) ?_ ?_))))
   ·
    refine au (uL rfl (gdE F (fun dV F=>bt F (fun J cQ F=>?_))))
    obtain ⟨eL,eM,dW,dX,dY⟩:=hC156593.at_ bk (by decide) cQ
    refine ph (cn (aE).toNat mj mc rfl dW rfl (Int.toNat_of_nonneg dV).symm (fa cQ rfl) (ph (ef I (qh J) me mc rfl rfl dX (by simp) dY (ph (bh I _ zeroValue35 rfl fun aQ w I=>xi I 0 _ mc rfl fun w I=>aa (dn (fun ρ w=>cd ρ [(3,pt A),(4,iv 2),(9,pt aQ),(18,.slice (some ⟨X,0,none⟩) 2 2),(19,iv 2),(20,iv 0),(24,.slice S ((qc g a).length) (q - 0)),(25,iv ((qc g a).length:Int)),(26,iv aE),(42,bF)]∧Inv [] w0 w [(some A,blk (al bb a8) 169),(some aQ,blk (qh J) 35),(some X,blk [.slice S ((qc g a).length) (q - 0),.slice T ((qb g a).length) (q - (qd g a))] 38),(some lqq120586,rcq120586.at .busy none),(some rcq120586.defers,.deferred (some [])),(some L,blk [uM s j o,uM u i p,uM x g q,iv f,iv d,iv a] 63),(some M,blk (al bb (List.replicate 180 (⟨0,0,[]⟩:Sp3))) 169),(some B,blk [uM s j o,uM u i p,uM x g q,iv f,iv d,iv a] 63)]∧F112j11 (F112l9 g a N m9) a8 aE=some r) ?_ ?_))))))
    ·
     refine rgn rfl (pu (iv 2) rfl (xm I 0 me mc rfl (bt F (fun eN cR F=>ifN F (fun bO F=>?_) (fun bO F=>?_)))))
     ·
      refine ph (bg I 91 _ _ (by kernel_rfl) (bn.mono (L91 _ 2 J N _ cR) (uH (Bool.eq_false_iff.2 bO))) fun w I=>pu bF (by kernel_rfl) (sf 8 (by kernel_rfl) (pu bF (by kernel_rfl) (aa (.inl ⟨rfl,⟨(uK rfl),I.pk [1,0,2,3,4,5,6,7] rfl,F⟩⟩)))))
     refine ph (bg I 91 _ _ (by kernel_rfl) (bn.mono (L91 _ 2 J N _ cR) (uH bO)) fun w I=>pu bT (by kernel_rfl) (pup (pt aQ) (by kernel_rfl) (aw (by kernel_rfl) (ag I 0 (iv J.no) zi3 rfl rfl rfl (pup (iv 2) (by kernel_rfl) (gdE F (fun cS F=>gdE F (fun cT F=>aw (by kernel_rfl) (av ((J.no).toNat) zu169 zs168 rfl rfl (Int.toNat_of_nonneg cS).symm cT (((J.no).toNat) * 9) (Nat.zero_add _) (bt F (fun a2 bP F=>aw (by kernel_rfl) (av 2 zu168 mc rfl rfl rfl (by decide) ((((J.no).toNat) * 3+2) * 3) (by omega) (aw (by kernel_rfl) (cq I 1 (qh a2) me mc rfl rfl rfl (big_at bk bP) (pup (.agg #[iv 0,iv 0,uE []]) (by kernel_rfl) (ifN F (fun bQ F=>?_) (fun bQ F=>?_)))))))))))))))))
     ·
      refine aw rfl (kz (b:=decide (a2.no=0) && decide (a2.sz=0) && decide (a2.t=[])) rfl rfl (by kernel_rfl) (fun w=>eq35 _ a2.no a2.sz a2.t 0 0 [] w) (uP bQ) (fun _=>pu bF rfl (aa (.inl ⟨rfl,⟨(uK rfl),I.pk [1,0,2,3,4,5,6,7] rfl,F⟩⟩))))
     refine aw rfl (kz (b:=decide (a2.no=0) && decide (a2.sz=0) && decide (a2.t=[])) rfl rfl (by kernel_rfl) (fun w=>eq35 _ a2.no a2.sz a2.t 0 0 [] w) (fun _=>?_) (uO bQ))
     refine pu bT rfl (aa (.inr (ah rfl (gm 6 I (by kernel_rfl) (zP (pt aQ) rfl (zg 0 (iv J.no) zi3 rfl (zP (iv 2) rfl (zm 0 (qh J) me mc rfl (zc (uF A (((J.no).toNat) * 9)) (fun w I=>av ((J.no).toNat) zu169 zs168 rfl rfl (Int.toNat_of_nonneg cS).symm cT (((J.no).toNat) * 9) (Nat.zero_add _) br) (zc (uF A ((((J.no).toNat) * 3+2) * 3)) (fun w I=>av 2 zu168 mc rfl rfl rfl (by decide) ((((J.no).toNat) * 3+2) * 3) (by omega) br) (zh (fun w I=>xq I 1 3 (qh J) mc rfl (big_room bk bP) ?_))))))))))))
     intro w I
     have I:Inv [] w0 w [(some aQ,blk (qh J) 35),(some A,blk (al bb ((a8).set (((J.no).toNat) * 3+2) (⟨J.no,J.sz,J.t⟩:Sp3))) 169),(some X,blk [.slice S ((qc g a).length) (q - 0),.slice T ((qb g a).length) (q - (qd g a))] 38),(some lqq120586,rcq120586.at .busy none),(some rcq120586.defers,.deferred (some [])),(some L,blk [uM s j o,uM u i p,uM x g q,iv f,iv d,iv a] 63),(some M,blk (al bb (List.replicate 180 (⟨0,0,[]⟩:Sp3))) 169),(some B,blk [uM s j o,uM u i p,uM x g q,iv f,iv d,iv a] 63)]:=by have e:putCells (al bb a8) ((((J.no).toNat) * 3+2) * 3) (qh J)=al bb ((a8).set (((J.no).toNat) * 3+2) (⟨J.no,J.sz,J.t⟩:Sp3)):=big_put bk bP (⟨J.no,J.sz,J.t⟩:Sp3); rw [e] at I; exact I
     refine aa (.inl ⟨rfl,⟨(a8).set (((J.no).toNat) * 3+2) (⟨J.no,J.sz,J.t⟩:Sp3),(uK rfl),I.pk [1,2,3,4,5,6,7] rfl,F⟩⟩)
    intro ρ w hJ
    obtain ⟨hag,I,F⟩:=hJ
    obtain ⟨ρ,rfl⟩:=hag.form
    unfold F112j11 at F
    refine ai rfl (ak (.inl ⟨rfl,⟨a8,(uK rfl),I.pk [0,2,3,4,5,6,7] rfl,F⟩⟩))
   intro ρ w hJ
   obtain ⟨b3,hag,I,F⟩:=hJ
   obtain ⟨ρ,rfl⟩:=hag.form
   unfold F112j10 at F
   refine rgn rfl (ckE F (fun dZ F=>xa rfl dZ (pu (iv (aE+1)) rfl (aa (⟨rfl,m9,Nat.lt_succ_self _,⟨b3,aE+1,m9,(uK rfl),I.pk [0,1,2,3,4,5,6] rfl,F,rfl⟩⟩)))))
  intro ρ w hJ
  obtain ⟨b2,hag,I,F⟩:=hJ
  obtain ⟨ρ,rfl⟩:=hag.form
  unfold F112j4 at F
  refine rgn rfl (pu2 (iv 1) (iv 1) rfl (aa (⟨rfl,lh ?_⟩)))
  refine uL rfl (xl rfl (fun _=>?_) (fun h=>absurd (by decide) h))
  refine aa (ab (ah rfl (ak (dn (fun ρ w=>∃ (b4:List Sp3),cd ρ [(3,pt A),(4,iv 2),(18,.slice (some ⟨X,0,none⟩) 2 2),(19,iv 2),(20,iv 1)]∧Inv [] w0 w [(some A,blk (al bb b4) 169),(some X,blk [.slice S ((qc g a).length) (q - 0),.slice T ((qb g a).length) (q - (qd g a))] 38),(some lqq120586,rcq120586.at .busy none),(some rcq120586.defers,.deferred (some [])),(some L,blk [uM s j o,uM u i p,uM x g q,iv f,iv d,iv a] 63),(some M,blk (al bb (List.replicate 180 (⟨0,0,[]⟩:Sp3))) 169),(some B,blk [uM s j o,uM u i p,uM x g q,iv f,iv d,iv a] 63)]∧F112j5 b4=some r) ?_ ?_))))
  ·
   refine au (uL rfl (ph (lj 1 1 zu210 mw rfl rfl (by decide) rfl (xg I 1 (.slice T ((qb g a).length) (q - (qd g a))) mq rfl (pu (.slice T ((qb g a).length) (q - (qd g a))) rfl (aa (uL rfl (pu3 (.slice T ((qb g a).length) (q - (qd g a))) (iv (((qb g a).length:Nat):Int)) (iv 0) (by kernel_rfl) (aa (au (cb (fun m ρ w=>∃ (a9:List Sp3) (aF mm:_),cd ρ [(3,pt A),(4,iv 2),(18,.slice (some ⟨X,0,none⟩) 2 2),(19,iv 2),(20,iv 1),(24,.slice T ((qb g a).length) (q - (qd g a))),(25,iv ((qb g a).length:Int)),(26,iv aF)]∧Inv [] w0 w [(some A,blk (al bb a9) 169),(some X,blk [.slice S ((qc g a).length) (q - 0),.slice T ((qb g a).length) (q - (qd g a))] 38),(some lqq120586,rcq120586.at .busy none),(some rcq120586.defers,.deferred (some [])),(some L,blk [uM s j o,uM u i p,uM x g q,iv f,iv d,iv a] 63),(some M,blk (al bb (List.replicate 180 (⟨0,0,[]⟩:Sp3))) 169),(some B,blk [uM s j o,uM u i p,uM x g q,iv f,iv d,iv a] 63)]∧F112l6 g a N mm a9 aF=some r∧mm=m) (m:=N) ⟨b2,0,N,(uK rfl),I.pk [0,1,2,3,4,5,6] rfl,F,rfl⟩ ?_)))))))))))
   rintro m ρ w ⟨a9,aF,mm,hag,I,F,hm⟩
   subst hm; obtain ⟨ρ,rfl⟩:=hag.form
   obtain _ | m6:=mm
   ·cases (show (none:Option (List Sp3))=some r from F)
   replace F:F112b6 g a N (F112l6 g a N m6) a9 aF=some r:=F; unfold F112b6 at F
   refine uL rfl (ifN F (fun bR F=>?_) (fun bR F=>?_))
   ·
    refine xl rfl (uP bR) (fun _=>aa (ab (ai rfl (bw (.inl ⟨rfl,⟨a9,(uK rfl),I.pk [0,1,2,3,4,5,6] rfl,F⟩⟩)))))
   refine xl rfl (fun _=>?_) (uO bR)
   refine aa (ab (ah rfl (ak (dn (fun ρ w=>∃ (b5:List Sp3),cd ρ [(3,pt A),(4,iv 2),(18,.slice (some ⟨X,0,none⟩) 2 2),(19,iv 2),(20,iv 1),(24,.slice T ((qb g a).length) (q - (qd g a))),(25,iv ((qb g a).length:Int)),(26,iv aF)]∧Inv [] w0 w [(some A,blk (al bb b5) 169),(some X,blk [.slice S ((qc g a).length) (q - 0),.slice T ((qb g a).length) (q - (qd g a))] 38),(some lqq120586,rcq120586.at .busy none),(some rcq120586.defers,.deferred (some [])),(some L,blk [uM s j o,uM u i p,uM x g q,iv f,iv d,iv a] 63),(some M,blk (al bb (List.replicate 180 (⟨0,0,[]⟩:Sp3))) 169),(some B,blk [uM s j o,uM u i p,uM x g q,iv f,iv d,iv a] 63)]∧F112j7 (F112l6 g a N m6) aF b5=some r) ?_ ?_))))
   ·
    refine au (uL rfl (gdE F (fun e0 F=>bt F (fun K cU F=>?_))))
    obtain ⟨eO,eP,e1,e2,e3⟩:=hC156595.at_ bk (by decide) cU
    refine ph (cn (aF).toNat mj mc rfl e1 rfl (Int.toNat_of_nonneg e0).symm (fa cU rfl) (ph (ef I (qh K) me mc rfl rfl e2 (by simp) e3 (ph (bh I _ zeroValue35 rfl fun aR w I=>xi I 0 _ mc rfl fun w I=>aa (dn (fun ρ w=>cd ρ [(3,pt A),(4,iv 2),(9,pt aR),(18,.slice (some ⟨X,0,none⟩) 2 2),(19,iv 2),(20,iv 1),(24,.slice T ((qb g a).length) (q - (qd g a))),(25,iv ((qb g a).length:Int)),(26,iv aF),(42,bF)]∧Inv [] w0 w [(some A,blk (al bb a9) 169),(some aR,blk (qh K) 35),(some X,blk [.slice S ((qc g a).length) (q - 0),.slice T ((qb g a).length) (q - (qd g a))] 38),(some lqq120586,rcq120586.at .busy none),(some rcq120586.defers,.deferred (some [])),(some L,blk [uM s j o,uM u i p,uM x g q,iv f,iv d,iv a] 63),(some M,blk (al bb (List.replicate 180 (⟨0,0,[]⟩:Sp3))) 169),(some B,blk [uM s j o,uM u i p,uM x g q,iv f,iv d,iv a] 63)]∧F112j8 (F112l6 g a N m6) a9 aF=some r) ?_ ?_))))))
    ·
     refine rgn rfl (pu (iv 2) rfl (xm I 0 me mc rfl (bt F (fun eQ cV F=>ifN F (fun bS F=>?_) (fun bS F=>?_)))))
     ·
      refine ph (bg I 91 _ _ (by kernel_rfl) (bn.mono (L91 _ 2 K N _ cV) (uH (Bool.eq_false_iff.2 bS))) fun w I=>pu bF (by kernel_rfl) (sf 8 (by kernel_rfl) (pu bF (by kernel_rfl) (aa (.inl ⟨rfl,⟨(uK rfl),I.pk [1,0,2,3,4,5,6,7] rfl,F⟩⟩)))))
     refine ph (bg I 91 _ _ (by kernel_rfl) (bn.mono (L91 _ 2 K N _ cV) (uH bS)) fun w I=>pu bT (by kernel_rfl) (pup (pt aR) (by kernel_rfl) (aw (by kernel_rfl) (ag I 0 (iv K.no) zi3 rfl rfl rfl (pup (iv 2) (by kernel_rfl) (gdE F (fun cW F=>gdE F (fun cX F=>aw (by kernel_rfl) (av ((K.no).toNat) zu169 zs168 rfl rfl (Int.toNat_of_nonneg cW).symm cX (((K.no).toNat) * 9) (Nat.zero_add _) (bt F (fun a3 bU F=>aw (by kernel_rfl) (av 2 zu168 mc rfl rfl rfl (by decide) ((((K.no).toNat) * 3+2) * 3) (by omega) (aw (by kernel_rfl) (cq I 1 (qh a3) me mc rfl rfl rfl (big_at bk bU) (pup (.agg #[iv 0,iv 0,uE []]) (by kernel_rfl) (ifN F (fun bV F=>?_) (fun bV F=>?_)))))))))))))))))
     ·
      refine aw rfl (kz (b:=decide (a3.no=0) && decide (a3.sz=0) && decide (a3.t=[])) rfl rfl (by kernel_rfl) (fun w=>eq35 _ a3.no a3.sz a3.t 0 0 [] w) (uP bV) (fun _=>pu bF rfl (aa (.inl ⟨rfl,⟨(uK rfl),I.pk [1,0,2,3,4,5,6,7] rfl,F⟩⟩))))
     refine aw rfl (kz (b:=decide (a3.no=0) && decide (a3.sz=0) && decide (a3.t=[])) rfl rfl (by kernel_rfl) (fun w=>eq35 _ a3.no a3.sz a3.t 0 0 [] w) (fun _=>?_) (uO bV))
     refine pu bT rfl (aa (.inr (ah rfl (gm 6 I (by kernel_rfl) (zP (pt aR) rfl (zg 0 (iv K.no) zi3 rfl (zP (iv 2) rfl (zm 0 (qh K) me mc rfl (zc (uF A (((K.no).toNat) * 9)) (fun w I=>av ((K.no).toNat) zu169 zs168 rfl rfl (Int.toNat_of_nonneg cW).symm cX (((K.no).toNat) * 9) (Nat.zero_add _) br) (zc (uF A ((((K.no).toNat) * 3+2) * 3)) (fun w I=>av 2 zu168 mc rfl rfl rfl (by decide) ((((K.no).toNat) * 3+2) * 3) (by omega) br) (zh (fun w I=>xq I 1 3 (qh K) mc rfl (big_room bk bU) ?_))))))))))))
     intro w I
     have I:Inv [] w0 w [(some aR,blk (qh K) 35),(some A,blk (al bb ((a9).set (((K.no).toNat) * 3+2) (⟨K.no,K.sz,K.t⟩:Sp3))) 169),(some X,blk [.slice S ((qc g a).length) (q - 0),.slice T ((qb g a).length) (q - (qd g a))] 38),(some lqq120586,rcq120586.at .busy none),(some rcq120586.defers,.deferred (some [])),(some L,blk [uM s j o,uM u i p,uM x g q,iv f,iv d,iv a] 63),(some M,blk (al bb (List.replicate 180 (⟨0,0,[]⟩:Sp3))) 169),(some B,blk [uM s j o,uM u i p,uM x g q,iv f,iv d,iv a] 63)]:=by have e:putCells (al bb a9) ((((K.no).toNat) * 3+2) * 3) (qh K)=al bb ((a9).set (((K.no).toNat) * 3+2) (⟨K.no,K.sz,K.t⟩:Sp3)):=big_put bk bU (⟨K.no,K.sz,K.t⟩:Sp3); rw [e] at I; exact I
     refine aa (.inl ⟨rfl,⟨(a9).set (((K.no).toNat) * 3+2) (⟨K.no,K.sz,K.t⟩:Sp3),(uK rfl),I.pk [1,2,3,4,5,6,7] rfl,F⟩⟩)
    intro ρ w hJ
    obtain ⟨hag,I,F⟩:=hJ
    obtain ⟨ρ,rfl⟩:=hag.form
    unfold F112j8 at F
    refine ai rfl (ak (.inl ⟨rfl,⟨a9,(uK rfl),I.pk [0,2,3,4,5,6,7] rfl,F⟩⟩))
   intro ρ w hJ
   obtain ⟨b5,hag,I,F⟩:=hJ
   obtain ⟨ρ,rfl⟩:=hag.form
   unfold F112j7 at F
   refine rgn rfl (ckE F (fun e4 F=>xa rfl e4 (pu (iv (aF+1)) rfl (aa (⟨rfl,m6,Nat.lt_succ_self _,⟨b5,aF+1,m6,(uK rfl),I.pk [0,1,2,3,4,5,6] rfl,F,rfl⟩⟩)))))
  intro ρ w hJ
  obtain ⟨b4,hag,I,F⟩:=hJ
  obtain ⟨ρ,rfl⟩:=hag.form
  unfold F112j5 at F
  refine rgn rfl (pu2 (iv 2) (iv 2) rfl (aa (⟨rfl,lh ?_⟩)))
  refine uL rfl (xl rfl (fun h=>absurd h (by decide)) (fun _=>aa (ab (ai rfl (bw (⟨_,I.pk [2,0,1,3,4,5,6] rfl,fun w I=>?_⟩))))))
  refine pu bF rfl (aa (.inl ⟨rfl,⟨b4,(uK rfl),I.pk [0,6,3,4,5,1] rfl,F⟩⟩))
 intro ρ w hJ
 obtain ⟨aG,hag,I,F⟩:=hJ
 obtain ⟨ρ,rfl⟩:=hag.form
 unfold F112j3 at F
 refine ai rfl (ak (rgn rfl (pu2 (iv 3) (iv 3) rfl (aa (⟨rfl,lh ?_⟩)))))
 refine uL rfl (xl rfl (fun h=>absurd h (by decide)) (fun _=>aa (ab (ai rfl (bw (⟨.tuple #[],Ret.r0 rfl,?_⟩))))))
 refine ⟨_,.inl ⟨I.pk [0,1,2,3,4,5] rfl,fun w I=>?_⟩⟩
 refine uL rfl (gdE F (fun aH F=>ph (ar I 5 540 (al bb aG) zi169 zs169 rfl rfl (big_take bk aH rfl) (big_len bk aH rfl) (gdE F (fun cY F=>ph (aq I 4 540 (al bb aG) zs169 rfl rfl (big_len bk aH rfl) (big_all eSp3_cell _) rfl (by rw [big_len bk cY rfl]; decide) ?_))))))
 intro w I
 have I:Inv [] w0 w [(some lqq120586,rcq120586.at .exhausted none),(some B,blk [uM s j o,uM u i p,uM x g q,iv f,iv d,iv a] 63),(some rcq120586.defers,.deferred (some [])),(some L,blk [uM s j o,uM u i p,uM x g q,iv f,iv d,iv a] 63),(some M,blk (al bb aG) 169),(some A,blk (al bb aG) 169)]:=by have e:putCells (al bb (List.replicate 180 (⟨0,0,[]⟩:Sp3))) 0 (al bb aG)=al bb aG:=big_over bk aH cY; rw [e] at I; exact I
 refine aa (aj (cf.mark (D:=rcq120586.defers) (I.pk [2,0,1,3,4,5] rfl) ?_))
 intro w I
 replace F:=Option.some.inj F; subst F
 exact ⟨_,Ret.c rfl rfl (ce I 3 540 (al bb aG) zi169 zs169 rfl (big_take bk aH rfl) (big_len bk aH rfl)),⟨rfl,I.below⟩⟩

set_option maxHeartbeats 8000000 in
theorem L113 (w0:World) (i:Int) (j:Int) (k:Str) (a:Int) (b:Int) (d:Str) (e:Int) (f:Int) (g:Str) (N:Nat) (r:Str) (F:F113 N i j k a b d e f g=some r):bn Tryz.prog 113 [.agg #[iv i,iv j,uE k,iv a,iv b,uE d,iv e,iv f,uE g]] w0 fun v w=>v=uE r∧Below w0.heap.size w0 w:=by
 refine az (n:=32) func113 rfl ntmps113 rfl ?_
 have I:=Inv.start w0
 unfold F113 at F
 refine uL rfl (ph (ca I _ rfl fun p w I=>pu (uE []) rfl (aa (ab (uL rfl (pu (iv 0) rfl (aa (au (jx 4 (lh (uL rfl (xl rfl (fun _=>?_) (fun h=>absurd (by decide) h)))))))))))))
 refine aa (ab (ah rfl (ak (dn (fun ρ w=>cd ρ [(1,pt p),(7,iv 0)]∧Inv [] w0 w [(some p,blk [iv i,iv j,uE k,iv a,iv b,uE d,iv e,iv f,uE g] 168)]∧F113j1 a b d e f g N=some r) ?_ ?_))))
 ·
  refine au (uL rfl (pu2 (iv 0) (iv 0) rfl (aa (uL rfl (pu3 (iv 0) (iv 1) (iv 1) (by kernel_rfl) (aa (au (jx 3 (lh (ab (uL rfl (pu (iv 1) rfl (xl rfl (fun _=>?_) (fun h=>absurd (by decide) h))))))))))))))
  refine aa (ah rfl (ak (ab (au (ab (gm 14 I (by kernel_rfl) (zB (iv 0) (iv 0) rfl (zP (pt p) rfl (zc (.agg #[iv i,iv j,uE k]) (fun w I=>ar I 0 3 [iv i,iv j,uE k] me mc rfl rfl rfl rfl br) (zB (iv 1) (iv 1) rfl (zP (uF p 3) rfl (zc (.agg #[iv a,iv b,uE d]) (fun w I=>ar I 0 3 [iv a,iv b,uE d] me mc rfl rfl rfl rfl br) (bt F (fun l u F=>zc (.tuple #[uE l.1,iv l.2]) (fun w I=>co 22 [iv 0,.agg #[iv i,iv j,uE k],iv 1,.agg #[iv a,iv b,uE d]] (by kernel_rfl) (L22 _ 0 (⟨i,j,k⟩:Sp3) 1 (⟨a,b,d⟩:Sp3) N _ u) uI) (zB (.tuple #[uE l.1,iv l.2]) (uE l.1) rfl (zB (iv l.2) (uE l.1) rfl (zP (iv l.2) rfl (zh (fun w I=>aa (uL rfl (pu (iv l.2) rfl (ifE F (fun q F=>?_) (fun q F=>?_)))))))))))))))))))))))
  ·
   refine xe rfl (fun _=>?_) (uO q)
   refine aa (ah rfl (uL rfl (pu2 (uE l.1) (uE l.1) rfl (aa (aj ?_)))))
   cases F
   exact uJ I rfl
  refine xe rfl (uP q) (fun _=>aa (ai rfl (ak (rgn rfl (pu3 (iv 1) (iv 2) (iv 2) (by kernel_rfl) (aa (⟨rfl,lh ?_⟩)))))))
  refine ab (uL rfl (pu (iv 2) rfl (xl rfl (fun _=>?_) (fun h=>absurd (by decide) h))))
  refine aa (ah rfl (ak (ab (au (ab (gm 14 I (by kernel_rfl) (zB (iv 0) (iv 0) rfl (zP (pt p) rfl (zc (.agg #[iv i,iv j,uE k]) (fun w I=>ar I 0 3 [iv i,iv j,uE k] me mc rfl rfl rfl rfl br) (zB (iv 2) (iv 2) rfl (zP (uF p 6) rfl (zc (.agg #[iv e,iv f,uE g]) (fun w I=>ar I 0 3 [iv e,iv f,uE g] me mc rfl rfl rfl rfl br) (bt F (fun m x F=>zc (.tuple #[uE m.1,iv m.2]) (fun w I=>co 22 [iv 0,.agg #[iv i,iv j,uE k],iv 2,.agg #[iv e,iv f,uE g]] (by kernel_rfl) (L22 _ 0 (⟨i,j,k⟩:Sp3) 2 (⟨e,f,g⟩:Sp3) N _ x) uI) (zB (.tuple #[uE m.1,iv m.2]) (uE m.1) rfl (zB (iv m.2) (uE m.1) rfl (zP (iv m.2) rfl (zh (fun w I=>aa (uL rfl (pu (iv m.2) rfl (ifE F (fun s F=>?_) (fun s F=>?_)))))))))))))))))))))))
  ·
   refine xe rfl (fun _=>?_) (uO s)
   refine aa (ah rfl (uL rfl (pu2 (uE m.1) (uE m.1) rfl (aa (aj ?_)))))
   cases F
   exact uJ I rfl
  refine xe rfl (uP s) (fun _=>aa (ai rfl (ak (rgn rfl (pu3 (iv 2) (iv 3) (iv 3) (by kernel_rfl) (aa (⟨rfl,lh ?_⟩)))))))
  refine ab (uL rfl (pu (iv 3) rfl (xl rfl (fun h=>absurd h (by decide)) (fun _=>aa (ai rfl (bw (.inl ⟨rfl,⟨⟨rfl,rfl,trivial⟩,I.pk [0] rfl,F⟩⟩)))))))
 intro ρ w hJ
 obtain ⟨hag,I,F⟩:=hJ
 obtain ⟨ρ,rfl⟩:=hag.form
 unfold F113j1 at F
 refine rgn rfl (pu2 (iv 1) (iv 1) rfl (aa (⟨rfl,lh ?_⟩)))
 refine uL rfl (xl rfl (fun _=>?_) (fun h=>absurd (by decide) h))
 refine aa (ab (ah rfl (ak (ab (au (uL rfl (pu2 (iv 1) (iv 1) rfl (aa (uL rfl (pu3 (iv 1) (iv 2) (iv 2) (by kernel_rfl) (aa (au (jx 2 (lh (ab (uL rfl (pu (iv 2) rfl (xl rfl (fun _=>?_) (fun h=>absurd (by decide) h)))))))))))))))))))
 refine aa (ah rfl (ak (ab (au (ab (gm 14 I (by kernel_rfl) (zB (iv 1) (iv 1) rfl (zP (uF p 3) rfl (zc (.agg #[iv a,iv b,uE d]) (fun w I=>ar I 0 3 [iv a,iv b,uE d] me mc rfl rfl rfl rfl br) (zB (iv 2) (iv 2) rfl (zP (uF p 6) rfl (zc (.agg #[iv e,iv f,uE g]) (fun w I=>ar I 0 3 [iv e,iv f,uE g] me mc rfl rfl rfl rfl br) (bt F (fun o y F=>zc (.tuple #[uE o.1,iv o.2]) (fun w I=>co 22 [iv 1,.agg #[iv a,iv b,uE d],iv 2,.agg #[iv e,iv f,uE g]] (by kernel_rfl) (L22 _ 1 (⟨a,b,d⟩:Sp3) 2 (⟨e,f,g⟩:Sp3) N _ y) uI) (zB (.tuple #[uE o.1,iv o.2]) (uE o.1) rfl (zB (iv o.2) (uE o.1) rfl (zP (iv o.2) rfl (zh (fun w I=>aa (uL rfl (pu (iv o.2) rfl (ifE F (fun t F=>?_) (fun t F=>?_)))))))))))))))))))))))
 ·
  refine xe rfl (fun _=>?_) (uO t)
  refine aa (ah rfl (uL rfl (pu2 (uE o.1) (uE o.1) rfl (aa (aj ?_)))))
  cases F
  exact uJ I rfl
 refine xe rfl (uP t) (fun _=>aa (ai rfl (ak (rgn rfl (pu3 (iv 2) (iv 3) (iv 3) (by kernel_rfl) (aa (⟨rfl,lh ?_⟩)))))))
 refine ab (uL rfl (pu (iv 3) rfl (xl rfl (fun h=>absurd h (by decide)) (fun _=>aa (ai rfl (bw (rgn rfl (pu2 (iv 2) (iv 2) rfl (aa (⟨rfl,lh ?_⟩))))))))))
 refine uL rfl (xl rfl (fun _=>?_) (fun h=>absurd (by decide) h))
 refine aa (ab (ah rfl (ak (ab (au (uL rfl (pu2 (iv 2) (iv 2) rfl (aa (uL rfl (pu3 (iv 2) (iv 3) (iv 3) (by kernel_rfl) (aa (au (jx 1 (lh (ab (uL rfl (pu (iv 3) rfl (xl rfl (fun h=>absurd h (by decide)) (fun _=>aa (ai rfl (bw (rgn rfl (pu2 (iv 3) (iv 3) rfl (aa (⟨rfl,lh ?_⟩)))))))))))))))))))))))))
 refine uL rfl (xl rfl (fun h=>absurd h (by decide)) (fun _=>aa (ab (ai rfl (bw (uL rfl (pu (uE []) rfl (aa (aj ?_)))))))))
 cases F
 exact uJ I rfl


theorem L40 (w0:World) (W:Option Addr) (X:Nat) (C:List Sp3) (Y:Option Addr) (Z:Nat) (D:List Sp3) (a0:Option Addr) (a1:Nat) (E:List Sp3) (a2:Int) (a3:Int) (a4:Int) (hG:Gl w0) (aU:bi w0 W (al bb C)) (aV:C.length≤9223372036854775807) (aW:C.length≤X) (aX:bi w0 Y (al bb D)) (aY:D.length≤9223372036854775807) (aZ:D.length≤Z) (b0:bi w0 a0 (al bb E)) (b1:E.length≤9223372036854775807) (b2:E.length≤a1) (N:Nat) (r:(List Sp3 × List Sp3 × List Sp3 × Int × Int × Int × List Rc)) (F:F40 N C D E a2 a3 a4=some r):bn Tryz.prog 40 [.agg #[uM W C X,uM Y D Z,uM a0 E a1,iv a2,iv a3,iv a4]] w0 fun v w=>∃ z0 z1 z2 z3 z4 z5 z6 z7 z8 z9 aG aH,v=.tuple #[.agg #[uN z0 r.1 z1,uN z3 r.2.1 z4,uN z6 r.2.2.1 z7,iv r.2.2.2.1,iv r.2.2.2.2.1,iv r.2.2.2.2.2.1],uN z9 r.2.2.2.2.2.2 aG]∧Inv [] w0 w [(z0,blk z2 35),(z3,blk z5 35),(z6,blk z8 35),(z9,blk aH 25)]∧Row 3 z0 r.1.length z1 z2 (al bb r.1)∧Row 3 z3 r.2.1.length z4 z5 (al bb r.2.1)∧Row 3 z6 r.2.2.1.length z7 z8 (al bb r.2.2.1)∧Row 8 z9 r.2.2.2.2.2.2.length aG aH (al eRc r.2.2.2.2.2.2):=by
 refine az (n:=39) func40 rfl ntmps40 rfl ?_
 have I:=Inv.start w0
 unfold F40 at F
 refine uL (by kernel_rfl) (ph (ca I _ rfl fun bW w I=>ph (bh I _ zeroValue63 rfl fun G w I=>pu uD (by kernel_rfl) (aa (uL (by kernel_rfl) (pu uD (by kernel_rfl) (aa (dn (fun ρ w=>∃ (q y R:_) (s:List Rc),cd ρ [(2,pt G),(4,uN q s y)]∧Inv [] w0 w [(some G,blk [uD,uD,uD,iv 0,iv 0,iv 0] 63),(q,blk R 25)]∧(Row 8 q (s.length) y R (al eRc s))∧F40j1 N s=some r) ?_ ?_))))))))
 ·
  refine uL (by kernel_rfl) (xm I 1 mt mi rfl (bt F (fun O b3 F=>ph (bg I 112 _ _ (by kernel_rfl) (L112 _ W X C Y Z D a0 a1 E a2 a3 a4 (aU.inv0 I) aV aW (aX.inv0 I) aY aZ (b0.inv0 I) b1 b2 N _ b3) fun w I=>pu (iv 0) (by kernel_rfl) (aa (au ?_))))))
  have I:=I.nilRow 25
  refine cb (fun m ρ w=>∃ (x A P:_) (a:List Rc) (B mm:_),cd ρ [(2,pt G),(4,uN x a A),(10,.agg (al bb O).toArray),(11,iv B)]∧Inv [] w0 w [(some G,blk [uD,uD,uD,iv 0,iv 0,iv 0] 63),(x,blk P 25)]∧(Row 8 x (a.length) A P (al eRc a))∧F40l2 N O mm a B=some r∧mm=m) (m:=N) ⟨none,0,[],[],0,N,(uK rfl),I.pk [1,0] rfl,(Row.nil_ 8),F,rfl⟩ ?_
  rintro m ρ w ⟨x,A,P,a,B,mm,hag,I,a5,F,hm⟩
  subst hm; obtain ⟨ρ,rfl⟩:=hag.form
  obtain _ | m2:=mm
  ·cases (show (none:Option (List Sp3 × List Sp3 × List Sp3 × Int × Int × Int × List Rc))=some r from F)
  replace F:F40b2 N O (F40l2 N O m2) a B=some r:=F; unfold F40b2 at F
  refine uL (by kernel_rfl) (ifN F (fun a6 F=>?_) (fun a6 F=>?_))
  ·
   refine xl rfl (uP a6) (fun _=>aa (ab (ai rfl (bw (.inl ⟨rfl,⟨x,A,P,a,⟨rfl,rfl,trivial⟩,I.pk [0,1] rfl,(a5.to rfl rfl),F⟩⟩)))))
  refine xl rfl (fun _=>?_) (uO a6)
  refine aa (ab (ah rfl (ak (ab (au (uL (by kernel_rfl) (gdE F (fun b4 F=>gdE F (fun b5 F=>bt F (fun H b6 F=>bt F (fun J b7 F=>bt F (fun K b8 F=>ph (s_ixBig (vs:=[iv H.no,iv H.sz,uE H.t,iv J.no,iv J.sz,uE J.t,iv K.no,iv K.sz,uE K.t]) zu169 zs168 zi168 rfl rfl (Int.toNat_of_nonneg b4).symm b5 (big_sub3 bk b6 b7 b8 rfl) (ph (bh I _ zeroValue168 rfl fun bX w I=>xi I 0 _ zs168 rfl fun w I=>aa (uL (by kernel_rfl) (xm I 0 zi168 zs168 rfl (bt F (fun b9 bA F=>ph (bg I 113 _ _ (by kernel_rfl) (L113 _ H.no H.sz H.t J.no J.sz J.t K.no K.sz K.t N _ bA) fun w I=>bt F (fun bB bC F=>?_)))))))))))))))))))))
  obtain ⟨d,e,f,g,i,l,o,p,S⟩:=bB
  refine ph (bg I 15 _ _ (by kernel_rfl) (L15 _ b9 (hG.up I) N _ bC) fun w I=>pu3 (.tuple #[.agg #[iv d,iv e,iv f,iv g,iv i,iv l,iv o,uE p],iv S]) (.agg #[iv d,iv e,iv f,iv g,iv i,iv l,iv o,uE p]) (iv S) (by kernel_rfl) (ph (bh I _ zeroValue25 rfl fun aI w I=>xi I 0 _ md rfl fun w I=>pu (iv S) (by kernel_rfl) (aa (ab (dn (fun ρ w=>∃ Q T U,cd ρ [(2,pt G),(4,uN Q a T),(7,pt aI),(10,.agg (al bb O).toArray),(11,iv B),(29,bT)]∧Inv [] w0 w [(some G,blk [uD,uD,uD,iv 0,iv 0,iv 0] 63),(Q,blk U 25),(some aI,blk [iv d,iv e,iv f,iv g,iv i,iv l,iv o,uE p] 25)]∧(Row 8 Q (a.length) T U (al eRc a))∧F40j3 N a=some r) ?_ ?_))))))
  ·
   refine rgn (by rfl) (pu (iv S) (by rfl) (ifN F (fun a7 F=>?_) (fun a7 F=>?_)))
   ·
    refine xn rfl (fun _=>?_) (uP a7)
    refine pu bT (by kernel_rfl) (sf 6 (by kernel_rfl) (pu bT (by kernel_rfl) (aa (.inl ⟨rfl,⟨x,A,P,(uK rfl),I.pk [2,3,0] rfl,(a5.to rfl rfl),F⟩⟩))))
   refine xn rfl (uO a7) (fun _=>pu bF (by rfl) (pup (uN x a A) (by rfl) (aw (by rfl) (ma I 0 mh md rfl rfl rfl (aw (by rfl) (fu I [iv d,iv e,iv f,iv g,iv i,iv l,iv o,uE p] 25 (fun b=>slv (some b) 1 1) (by kernel_rfl) fun bY w I=>gdE F (fun bZ F=>aw (by rfl) (s_appKeep I nt (z:=.agg #[iv 0,iv 0,iv 0,iv 0,iv 0,iv 0,iv 0,uE []]) (k:=8) (bytes:=72) (by rfl) rfl rfl 4 rfl rfl a5 [iv d,iv e,iv f,iv g,iv i,iv l,iv o,uE p] rfl rfl (I.cells 0 (off:=0) rfl (fun j u h=>by rw [Nat.zero_add]; exact h)) (by simp [Value.oneCell']) (by omega) (by omega) (n2:=(a++[(⟨d,e,f,g,i,l,o,p⟩:Rc)]).length) (kr rfl rfl) ?_))))))))
   intro a8 aJ bD c0 c1 w I aK hc2325 aL hK2327
   have hc2325:bi w a8 (al eRc (a++[(⟨d,e,f,g,i,l,o,p⟩:Rc)])):=hc2325.snoc _ rfl
   refine bt F (fun c2 aM F=>ifN F (fun a9 F=>?_) (fun a9 F=>?_))
   ·
    refine aw (by kernel_rfl) (bg I 96 _ _ (by kernel_rfl) (bn.mono (L96 _ a8 aJ (a++[(⟨d,e,f,g,i,l,o,p⟩:Rc)]) hc2325 aL hK2327 N _ aM) (uH (Bool.eq_false_iff.2 a9))) fun w I=>pup bT (by kernel_rfl) (pu bT (by kernel_rfl) (aa (.inl ⟨rfl,⟨x,A,bD,(uK rfl),I.pk [4,5,2] rfl,(aK.to rfl rfl),F⟩⟩))))
   refine aw (by kernel_rfl) (bg I 96 _ _ (by kernel_rfl) (bn.mono (L96 _ a8 aJ (a++[(⟨d,e,f,g,i,l,o,p⟩:Rc)]) hc2325 aL hK2327 N _ aM) (uH a9)) fun w I=>pup bF (by kernel_rfl) (pu bF (by kernel_rfl) (aa (.inr (ai rfl (ak (rgn (by kernel_rfl) (pu (uN x a A) (by kernel_rfl) (xm I 2 mh md rfl (ph (fu I [iv d,iv e,iv f,iv g,iv i,iv l,iv o,uE p] 25 (fun b=>slv (some b) 1 1) (by kernel_rfl) fun c4 w I=>ph (xk I xf 6 aK (⟨d,e,f,g,i,l,o,p⟩:Rc) 0 rfl (by omega) ?_))))))))))))
   intro aA aB aN w I aC
   refine pu (slv aA ((a++[(⟨d,e,f,g,i,l,o,p⟩:Rc)]).length) aB) (by rfl) (aa (rgn (by rfl) (ckE F (fun bE F=>xa rfl bE (pu (iv (B+1)) (by rfl) (aa (⟨rfl,m2,Nat.lt_succ_self _,⟨aA,aB,aN,a++[(⟨d,e,f,g,i,l,o,p⟩:Rc)],B+1,m2,(uK rfl),I.pk [5,6] rfl,(aC.to rfl rfl),F,rfl⟩⟩)))))))
  intro ρ w hJ
  obtain ⟨Q,T,U,hag,I,bG,F⟩:=hJ
  obtain ⟨ρ,rfl⟩:=hag.form
  unfold F40j3 at F
  refine ah rfl (bw (.inl ⟨rfl,⟨Q,T,U,a,⟨rfl,rfl,trivial⟩,I.pk [0,1] rfl,(bG.to rfl rfl),F⟩⟩))
 intro ρ w hJ
 obtain ⟨q,y,R,s,hag,I,V,F⟩:=hJ
 obtain ⟨ρ,rfl⟩:=hag.form
 unfold F40j1 at F
 refine uL (by kernel_rfl) (pu (uN q s y) (by kernel_rfl) (bt F (fun L bH F=>ph (co 114 _ (by kernel_rfl) (L114 _ (uG q) y s (hG.up I) (I.rowCells 1 rfl V) (am rfl V.big) (am rfl V.cap) N _ bH) ?_))))
 rintro v w ⟨bI,bJ,c5,bK,bL,c6,bM,bN,c7,rfl,hN,aD,aE,aF⟩
 have I:=I.join hN; clear hN
 refine bt F (fun M bO F=>ph (co 43 _ (by kernel_rfl) (L43 _ (uG bI) bJ L.1 (uG bK) bL L.2.1 (uG bM) bN L.2.2.1 L.2.2.2.1 L.2.2.2.2.1 L.2.2.2.2.2 (I.rowCells 0 rfl aD) (am rfl aD.big) (am rfl aD.cap) (I.rowCells 1 rfl aE) (am rfl aE.big) (am rfl aE.cap) (I.rowCells 2 rfl aF) (am rfl aF.big) (am rfl aF.cap) _ bO) ?_))
 rintro v w ⟨aO,aP,bP,aQ,aR,bQ,aS,aT,bR,rfl,hN,bS,bU,bV⟩
 have I:=I.join hN; clear hN
 refine pu (uN q s y) (by rfl) (xi I 6 _ mi rfl fun w I=>pu (uN q s y) (by rfl) (aa (aj ?_)))
 cases F
 exact ⟨_,Ret.ct rfl rfl (ce I 6 6 [uN aO M.1 aP,uN aQ M.2.1 aR,uN aS M.2.2.1 aT,iv M.2.2.2.1,iv M.2.2.2.2.1,iv M.2.2.2.2.2] mt mi rfl rfl rfl) rfl,⟨aO,aP,bP,aQ,aR,bQ,aS,aT,bR,q,y,R,rfl,I.pk [0,1,2,7] rfl,bS.to rfl rfl,bU.to rfl rfl,bV.to rfl rfl,V.to rfl rfl⟩⟩


theorem L158 (N:Nat) (w0:World) (bPk:Nat) (bNx:Nat) (Apk:Option Addr) (cpk:Nat) (lpk:List Int) (nx:Int) (hL0:Inv [bPk,bNx] w0 w0 [(some bPk,blk [uM Apk lpk cpk] 64),(some bNx,blk [iv nx] 3)]) (hCpk:jq [bPk,bNx] w0 Apk (al eInt lpk)) (hMpk:lpk.length≤9223372036854775807) (hKpk:lpk.length≤cpk) (r:(Int × Int)) (F:F158 N lpk nx=some r):bn Tryz.prog 158 [pt bPk,pt bNx] w0 fun v w=>v=iv r.1∧Inv [bPk,bNx] w0 w [(some bPk,blk [uM Apk lpk cpk] 64),(some bNx,blk [iv r.2] 3)]:=by
 refine az (n:=17) func158 rfl ntmps158 rfl ?_
 have I:Inv [bPk,bNx] w0 w0 [(some bPk,blk [uM Apk lpk cpk] 64),(some bNx,blk [iv nx] 3)]:=hL0
 unfold F158 at F
 refine uL rfl (pu (iv 0) rfl (aa (ab (uL rfl (xg I 0 (uM Apk lpk cpk) zi64 rfl (pu (iv ((lpk.length:Nat):Int)) (by kernel_rfl) (ifE F (fun h4 F=>?_) (fun h4 F=>?_))))))))
 ·
  refine xe rfl (fun _=>?_) (uO h4)
  refine aa (ah rfl (uL rfl (pu (iv 0) rfl (aa (aj ?_)))))
  cases F
  exact ⟨_,Ret.r1 rfl rfl,⟨rfl,I.pk [0,1] rfl⟩⟩
 refine xe rfl (uP h4) (fun _=>aa (ai rfl (ak (ab (gm 8 I (by kernel_rfl) (zg 0 (uM Apk lpk cpk) zi64 rfl (zg 1 (iv nx) zi3 rfl (zg 0 (uM Apk lpk cpk) zi64 rfl (zc (iv (lpk.length:Int)) (fun w I=>kl (iv ((lpk.length:Nat):Int)) (by kernel_rfl) br) (gdE F (fun d F=>zc (iv (nx.tmod (lpk.length:Int))) (fun w I=>s_rem rfl rfl d br) (gdE F (fun e F=>bt F (fun a b F=>?_))))))))))))))
 obtain ⟨f,g,i,j,k,l⟩:=hCpk.at_ cy (by decide) b
 refine zc (uF f (g+((nx.tmod (lpk.length:Int)).toNat) * 1)) (fun w I=>cn ((nx.tmod (lpk.length:Int)).toNat) zu64 zs3 rfl i rfl (Int.toNat_of_nonneg e).symm (fa b rfl) br) (zc (iv a) (fun w I=>dj I (iv a) zi3 rfl j k (l 0 _ rfl) br) (zP (iv a) rfl (zh (fun w I=>aa (uL rfl (xg I 1 (iv nx) zi3 rfl (ckE F (fun m F=>xa rfl m (xi I 1 _ zs3 rfl fun w I=>aa (uL rfl (pu2 (iv a) (iv a) rfl (aa (aj ?_)))))))))))))
 cases F
 exact ⟨_,Ret.r1 rfl rfl,⟨rfl,I.pk [0,1] rfl⟩⟩


theorem L121 (w0:World) (b:Int) (a:Int) (r:Int) (F:F121 b a=some r):bn Tryz.prog 121 [iv b,iv a] w0 fun v w=>v=iv r∧Below w0.heap.size w0 w:=by
 refine az (n:=12) func121 rfl ntmps121 rfl ?_
 have I:=Inv.start w0
 unfold F121 at F
 refine uL rfl (pu (iv 0) rfl (aa (uL rfl (pu2 (iv b) (iv a) rfl (gdE F (fun h3 F=>ph (s_rem rfl rfl h3 (pu (iv a) rfl (ckE F (fun h4 F=>xa rfl h4 (pu (iv a) rfl (ph (s_rem rfl rfl h3 (pu (iv (((b.tmod a)+a).tmod a)) rfl (aa (aj ?_))))))))))))))))
 cases F
 exact uJ I rfl


theorem L122 (N:Nat) (w0:World) (bPk:Nat) (bNx:Nat) (Alo:Option Addr) (clo:Nat) (llo:List Sp3) (Apk:Option Addr) (cpk:Nat) (lpk:List Int) (nx:Int) (hL0:Inv [bPk,bNx] w0 w0 [(some bPk,blk [uM Apk lpk cpk] 64),(some bNx,blk [iv nx] 3)]) (hClo:jq [bPk,bNx] w0 Alo (al bb llo)) (hMlo:llo.length≤9223372036854775807) (hKlo:llo.length≤clo) (hCpk:jq [bPk,bNx] w0 Apk (al eInt lpk)) (hMpk:lpk.length≤9223372036854775807) (hKpk:lpk.length≤cpk) (r:(List Sp3 × Int)) (F:F122 N llo lpk nx=some r):bn Tryz.prog 122 [uM Alo llo clo,.func (.func 158) #[] #[pt bPk,pt bNx]] w0 fun v w=>∃ z0 z1 z2,v=uN z0 r.1 z1∧Inv [bPk,bNx] w0 w [(z0,blk z2 35),(some bPk,blk [uM Apk lpk cpk] 64),(some bNx,blk [iv r.2] 3)]∧Row 3 z0 r.1.length z1 z2 (al bb r.1):=by
 refine az (n:=46) func122 rfl ntmps122 rfl ?_
 have I:Inv [bPk,bNx] w0 w0 [(some bPk,blk [uM Apk lpk cpk] 64),(some bNx,blk [iv nx] 3)]:=hL0
 unfold F122 at F
 refine uL rfl (pu uD rfl (aa (uL rfl (pu uD rfl (aa (ab (uL rfl (pu3 (uM Alo llo clo) (iv ((llo.length:Nat):Int)) (iv 0) (by kernel_rfl) (aa (au ?_))))))))))
 have I:=I.nilRow 35
 refine cb (fun m ρ w=>∃ (g i s x:_) (e:List Sp3) (o mm:_),cd ρ [(1,.func (.func 158) #[] #[pt bPk,pt bNx]),(5,uN g e i),(10,uM Alo llo clo),(11,iv (llo.length:Int)),(12,iv o)]∧Inv [bPk,bNx] w0 w [(some bPk,blk [uM Apk lpk cpk] 64),(some bNx,blk [iv x] 3),(g,blk s 35)]∧(Row 3 g (e.length) i s (al bb e))∧F122l1 llo lpk N mm x e o=some r∧mm=m) (m:=N) ⟨none,0,[],nx,[],0,N,(uK rfl),I.pk [1,2,0] rfl,(Row.nil_ 3),F,rfl⟩ ?_
 rintro m ρ w ⟨g,i,s,x,e,o,mm,hag,I,A,F,hm⟩
 subst hm; obtain ⟨ρ,rfl⟩:=hag.form
 obtain _ | m1:=mm
 ·cases (show (none:Option (List Sp3 × Int))=some r from F)
 replace F:F122b1 llo lpk N (F122l1 llo lpk N m1) x e o=some r:=F; unfold F122b1 at F
 refine uL rfl (ifN F (fun E F=>?_) (fun E F=>?_))
 ·
  refine xl rfl (uP E) (fun _=>aa (ab (ai rfl (bw (uL rfl (pu2 (uN g e i) (uN g e i) rfl (aa (aj ?_))))))))
  cases F
  exact ⟨_,Ret.r1 rfl rfl,⟨g,i,s,rfl,I.pk [2,0,1] rfl,A.to rfl rfl⟩⟩


 refine xl rfl (fun _=>?_) (uO E)
 refine aa (ab (ah rfl (ak (dn (fun ρ w=>∃ (y B C D:_) (q:List Sp3),cd ρ [(1,.func (.func 158) #[] #[pt bPk,pt bNx]),(5,uN y q B),(10,uM Alo llo clo),(11,iv (llo.length:Int)),(12,iv o)]∧Inv [bPk,bNx] w0 w [(some bPk,blk [uM Apk lpk cpk] 64),(some bNx,blk [iv D] 3),(y,blk C 35)]∧(Row 3 y (q.length) B C (al bb q))∧F122j2 (F122l1 llo lpk N m1) o D q=some r) ?_ ?_))))
 ·
  refine au (uL rfl (gdE F (fun W F=>bt F (fun d R F=>?_))))
  obtain ⟨a9,aA,X,Y,Z,a0⟩:=hClo.at_ bk (by decide) R
  refine ph (cn (o).toNat mj mc rfl X rfl (Int.toNat_of_nonneg W).symm (fa R rfl) (ph (ef I (qh d) me mc rfl rfl Y Z a0 (ph (bh I _ zeroValue35 rfl fun G w I=>xi I 0 _ mc rfl fun w I=>aa (uL rfl (pu (.func (.func 158) #[] #[pt bPk,pt bNx]) rfl (bt F (fun S a1 F=>ph (co 158 [pt bPk,pt bNx] (by kernel_rfl) (L158 N _ bPk bNx Apk cpk lpk x (I.lend [1,2] (by decide) rfl rfl) (I.apartL [1,2] rfl rfl hCpk) hMpk hKpk _ a1) ?_))))))))))
  rintro v w ⟨hv,hN⟩
  subst hv
  have I:=I.backsL [1,2] [0,3] (by decide) rfl rfl rfl hN; clear hN
  refine bt F (fun T a2 F=>ph (bg I 121 _ _ (by kernel_rfl) (L121 _ S.1 3 _ a2) fun w I=>pu (iv T) (by kernel_rfl) (aa (uL (by kernel_rfl) (pu (.func (.func 158) #[] #[pt bPk,pt bNx]) (by kernel_rfl) (bt F (fun p a3 F=>ph (co 158 [pt bPk,pt bNx] (by kernel_rfl) (L158 N _ bPk bNx Apk cpk lpk S.2 (I.lend [0,1] (by decide) rfl rfl) (I.apartL [0,1] rfl rfl hCpk) hMpk hKpk _ a3) ?_))))))))
  rintro v w ⟨hv,hN⟩
  subst hv
  have I:=I.backsL [0,1] [2,3] (by decide) rfl rfl rfl hN; clear hN
  refine pu (iv p.1) rfl (aa (uL rfl (pu (iv T) rfl (aa (au (uL rfl (ifN F (fun H F=>?_) (fun H F=>?_))))))))
  ·
   refine xe rfl (uP H) (fun _=>pu bF rfl (aa (ai rfl (uL rfl (ifN F (fun J F=>?_) (fun J F=>?_))))))
   ·
    refine xe rfl (uP J) (fun _=>pu bF rfl (aa (ai rfl (ak (.inl ⟨rfl,⟨g,i,s,p.2,e,(uK rfl),I.pk [0,1,3] rfl,(A.to rfl rfl),F⟩⟩)))))
   refine xe rfl (fun _=>?_) (uO J)
   refine pu bT rfl (aa (ah rfl (rgn rfl (pu (uN g e i) rfl (xm I 2 me mc rfl (ph (fu I (qh d) 35 (fun b=>slv (some b) 1 1) (by kernel_rfl) fun aB w I=>gdE F (fun aC F=>ph (xk I xd 4 A (⟨d.no,d.sz,d.t⟩:Sp3) 0 rfl (by omega) ?_)))))))))
   intro K L U w I M
   refine pu (slv K ((e++[(⟨d.no,d.sz,d.t⟩:Sp3)]).length) L) rfl (aa (.inl ⟨rfl,⟨K,L,U,p.2,e++[(⟨d.no,d.sz,d.t⟩:Sp3)],(uK rfl),I.pk [1,2,4] rfl,(M.to rfl rfl),F⟩⟩))
  refine xe rfl (fun _=>?_) (uO H)
  refine pu bT rfl (aa (ah rfl (ab (gm 10 I (by kernel_rfl) (zP (uF G 2) rfl (zg 2 (uE d.t) zi9 rfl (zB (iv p.1) (uF G 2) rfl (zg 2 (uE d.t) zi9 rfl (zB (iv (d.t.length:Int)) (iv (if 1 > (d.t.length:Int) then 1 else (d.t.length:Int))) (by kernel_rfl) (bt F (fun f a4 F=>zc (iv f) (fun w I=>co 121 [iv p.1,iv (if 1 > (d.t.length:Int) then 1 else (d.t.length:Int))] (by kernel_rfl) (L121 _ p.1 (if 1 > (d.t.length:Int) then 1 else (d.t.length:Int)) _ a4) uI) (gdE F (fun a5 F=>gdE F (fun a6 F=>zc (uE (d.t.take (f).toNat)) (fun w I=>nq (l:=d.t) (m:=d.t.take (f).toNat) (a:=0) (b:=(f).toNat) zu9 rfl (.inr ⟨rfl,rfl⟩) (.inl (congrArg (fun z=>some (Value.int .i64 z)) (Int.toNat_of_nonneg a5).symm)) a6 rfl br) (zP (uF G 2) rfl (zh (fun w I=>xq I 2 1 [uE (d.t.take (f).toNat)] zs9 rfl (mx rfl) fun w I=>aa (rgn rfl (pu (uN g e i) rfl (xm I 2 me mc rfl (ph (fu I [iv d.no,iv d.sz,uE (d.t.take (f).toNat)] 35 (fun b=>slv (some b) 1 1) (by kernel_rfl) fun aD w I=>gdE F (fun aE F=>ph (xk I xd 4 A (⟨d.no,d.sz,d.t.take (f).toNat⟩:Sp3) 0 rfl (by omega) ?_))))))))))))))))))))))))
  intro O P V w I Q
  refine pu (slv O ((e++[(⟨d.no,d.sz,d.t.take (f).toNat⟩:Sp3)]).length) P) rfl (aa (.inl ⟨rfl,⟨O,P,V,p.2,e++[(⟨d.no,d.sz,d.t.take (f).toNat⟩:Sp3)],(uK rfl),I.pk [1,2,4] rfl,(Q.to rfl rfl),F⟩⟩))
 intro ρ w hJ
 obtain ⟨y,B,C,D,q,hag,I,a7,F⟩:=hJ
 obtain ⟨ρ,rfl⟩:=hag.form
 unfold F122j2 at F
 refine rgn rfl (ckE F (fun a8 F=>xa rfl a8 (pu (iv (o+1)) rfl (aa (⟨rfl,m1,Nat.lt_succ_self _,⟨y,B,C,D,q,o+1,m1,(uK rfl),I.pk [0,1,2] rfl,(a7.to rfl rfl),F,rfl⟩⟩)))))
theorem L123 (w0:World) (j:Option Addr) (l:Nat) (a:List (List Sp3)) (C:List Dst) (S:bi w0 j (al eDst C)) (T:C.map Dst.p=a) (a1:∀ d∈C,okDst w0 d) (aJ:a.length≤9223372036854775807) (aK:a.length≤l) (N:Nat) (r:List Sp3) (F:F123 N a=some r):bn Tryz.prog 123 [uM j a l] w0 fun v w=>∃ z0 z1 z2,v=uN z0 r z1∧Inv [] w0 w [(z0,blk z2 35)]∧Row 3 z0 r.length z1 z2 (al bb r):=by
 refine az (n:=36) func123 rfl ntmps123 rfl ?_
 have I:=Inv.start w0
 unfold F123 at F
 refine uL rfl (pu uD rfl (aa (uL rfl (pu (iv 0) rfl (aa (dn (fun ρ w=>∃ e,cd ρ [(0,uM j a l),(3,iv e)]∧Inv [] w0 w []∧F123j1 a N e=some r) ?_ ?_))))))
 ·
  refine uL rfl (pu3 (uM j a l) (iv ((a.length:Nat):Int)) (iv 0) (by kernel_rfl) (aa (au (cb (fun m ρ w=>∃ f s mm,cd ρ [(0,uM j a l),(3,iv f),(9,uM j a l),(10,iv (a.length:Int)),(11,iv s)]∧Inv [] w0 w []∧F123l4 a N mm f s=some r∧mm=m) (m:=N) ⟨0,0,N,(uK rfl),I.pk [] rfl,F,rfl⟩ ?_))))
  rintro m ρ w ⟨f,s,mm,hag,I,F,hm⟩
  subst hm; obtain ⟨ρ,rfl⟩:=hag.form
  obtain _ | m4:=mm
  ·cases (show (none:Option (List Sp3))=some r from F)
  replace F:F123b4 a N (F123l4 a N m4) f s=some r:=F; unfold F123b4 at F
  refine uL rfl (ifN F (fun D F=>?_) (fun D F=>?_))
  ·
   refine xl rfl (uP D) (fun _=>aa (ab (ai rfl (bw (.inl ⟨rfl,⟨f,⟨rfl,rfl,trivial⟩,I.pk [] rfl,F⟩⟩)))))
  refine xl rfl (fun _=>?_) (uO D)
  refine aa (ab (ah rfl (ak (ab (au (uL rfl (gdE F (fun a2 F=>bt F (fun t U F=>?_)))))))))
  obtain ⟨E,G,a3⟩:=getDst T U
  obtain ⟨aL,aM,a4,a5,a6⟩:=S.at_ eDst_len (by decide) a3
  refine ph (cn (s).toNat zu210 mw rfl a4 rfl (Int.toNat_of_nonneg a2).symm (fa U rfl) (ph (dj I (uM E t G) mq rfl a5 (by simp) (a6 0 _ rfl) (pu (uM E t G) rfl (aa (uL rfl (pu3 (iv f) (uM E t G) (iv ((t.length:Nat):Int)) (by kernel_rfl) (ckE F (fun a7 F=>xa rfl a7 (pu (iv (f+(t.length:Int))) rfl (aa (uL rfl (pu (iv (f+(t.length:Int))) rfl (ifE F (fun H F=>?_) (fun H F=>?_)))))))))))))))
  ·
   refine xl rfl (fun _=>?_) (uO H)
   refine aa (ah rfl (rgn rfl ?_))
   cases F
  refine xl rfl (uP H) (fun _=>aa (ai rfl (ak (rgn rfl (ckE F (fun a8 F=>xa rfl a8 (pu (iv (s+1)) rfl (aa (⟨rfl,m4,Nat.lt_succ_self _,⟨f+(t.length:Int),s+1,m4,(uK rfl),I.pk [] rfl,F,rfl⟩⟩)))))))))
 intro ρ w hJ
 obtain ⟨e,hag,I,F⟩:=hJ
 obtain ⟨ρ,rfl⟩:=hag.form
 unfold F123j1 at F
 refine uL rfl (pu (iv e) rfl (ph (gr 159 [uD,iv e] (by kernel_rfl) (az (n:=27) func159 rfl ntmps159 rfl (uL rfl (pu uD rfl (aa (ab (uL rfl (pu (iv e) rfl (ifE F (fun J F=>?_) (fun J F=>?_))))))))))))
 ·
  refine xl rfl (fun _=>?_) (uO J)
  refine aa (ah rfl (rgn rfl ?_))
  cases F
 refine xl rfl (uP J) (fun _=>aa (ai rfl (ak (dn (fun ρ w=>∃ g o y,cd ρ [(0,slv g (([]:List Sp3).length) o)]∧Inv [] w0 w [(g,blk y 35)]∧(Row 3 g (([]:List Sp3).length) o y (al bb ([]:List Sp3)))∧F123j2 a N=some r) ?_ ?_))))
 ·
  refine uL rfl (pu3 (iv e) uD (iv 0) (by kernel_rfl) (pu2 uD (iv ((0:Nat):Int)) (by kernel_rfl) (ph (s_sub rfl rfl (by decide) (ckE F (fun a9 F=>ph (s_sub rfl rfl a9 (pu (iv (e - (0 - 0))) rfl (aa (uL rfl (pu (iv (e - (0 - 0))) rfl (ifN F (fun A F=>?_) (fun A F=>?_)))))))))))))
  ·
   refine ph (fh rfl rfl (uP A) (fun _=>aa (ai rfl (ak ?_))))
   have I:=I.nilRow 35
   exact .inl ⟨rfl,⟨none,0,[],⟨rfl,trivial⟩,I.pk [0] rfl,(Row.nil_ 3),F⟩⟩
  refine ph (fh rfl rfl (fun _=>?_) (uO A))
  refine aa (ah rfl (rgn rfl (pu3 uD uD (iv 0) (by kernel_rfl) (pu2 uD (iv (e - (0 - 0))) rfl (gdE F (fun aA F=>ph (s_appMakeNil I (z:=.agg #[iv 0,iv 0,uE []]) (k:=3) (bytes:=32) mj zu3 rfl rfl rfl rfl rfl A (M:=4398046511104) aA (by decide) (by decide) fun V W aB w I aC=>pu2 uD (iv ((0:Nat):Int)) (by kernel_rfl) (ph (s_sliceHi 0 mj mc rfl rfl (Nat.zero_le _) (pu (slv (some V) 0 W) rfl (aa (.inl ⟨rfl,⟨some V,W,aB,⟨rfl,trivial⟩,I.pk [0] rfl,(aC.to rfl rfl),F⟩⟩))))))))))))
 intro ρ w hJ
 obtain ⟨g,o,y,hag,I,aD,F⟩:=hJ
 obtain ⟨ρ,rfl⟩:=hag.form
 unfold F123j2 at F
 refine uL rfl (pu2 (slv g (([]:List Sp3).length) o) (slv g (([]:List Sp3).length) o) rfl (aa (aj (⟨slv g (([]:List Sp3).length) o,Ret.r1 rfl rfl,?_⟩))))
 refine pu (slv g (([]:List Sp3).length) o) rfl (aa (ab (uL rfl (pu3 (uM j a l) (iv ((a.length:Nat):Int)) (iv 0) (by kernel_rfl) (aa (au (cb (fun m ρ w=>∃ (q u B:_) (b:List Sp3) (x mm:_),cd ρ [(6,uN q b u),(25,uM j a l),(26,iv (a.length:Int)),(27,iv x)]∧Inv [] w0 w [(q,blk B 35)]∧(Row 3 q (b.length) u B (al bb b))∧F123l3 a mm b x=some r∧mm=m) (m:=N) ⟨g,o,y,([]:List Sp3),0,N,(uK rfl),I.pk [0] rfl,(aD.to rfl rfl),F,rfl⟩ ?_)))))))
 rintro m ρ w ⟨q,u,B,b,x,mm,hag,I,X,F,hm⟩
 subst hm; obtain ⟨ρ,rfl⟩:=hag.form
 obtain _ | m3:=mm
 ·cases (show (none:Option (List Sp3))=some r from F)
 replace F:F123b3 a (F123l3 a m3) b x=some r:=F; unfold F123b3 at F
 refine uL rfl (ifN F (fun K F=>?_) (fun K F=>?_))
 ·
  refine xl rfl (uP K) (fun _=>aa (ab (ai rfl (bw (uL rfl (pu2 (uN q b u) (uN q b u) rfl (aa (aj ?_))))))))
  cases F
  exact ⟨_,Ret.r1 rfl rfl,⟨q,u,B,rfl,I.pk [0] rfl,X.to rfl rfl⟩⟩


 refine xl rfl (fun _=>?_) (uO K)
 refine aa (ab (ah rfl (ak (ab (au (uL rfl (gdE F (fun aE F=>bt F (fun i Y F=>?_)))))))))
 obtain ⟨L,O,Z⟩:=getDst T Y
 obtain ⟨aN,aO,aF,aG,aH⟩:=S.at_ eDst_len (by decide) Z
 refine ph (cn (x).toNat zu210 mw rfl aF rfl (Int.toNat_of_nonneg aE).symm (fa Y rfl) (ph (dj I (uM L i O) mq rfl aG (by simp) (aH 0 _ rfl) (pu (uM L i O) rfl (aa (rgn rfl (pu2 (uN q b u) (uM L i O) rfl (gdE F (fun aP F=>ph (ks I mj (z:=.agg #[iv 0,iv 0,uE []]) (k:=3) (bytes:=32) rfl rfl rfl 0 rfl rfl X (al bb i) rfl (dt bk _) (((a1 _ (mem_of_get Z))).1.inv0 I) (nz eSp3_cell _) (by omega) (by omega) (n2:=(b++i).length) (kr rfl rfl) ?_))))))))))
 intro P Q a0 w I R
 have R:Row 3 P ((b++i).length) Q a0 (al bb (b++i)):=R.more
 refine pu (slv P ((b++i).length) Q) rfl (aa (rgn rfl (ckE F (fun aI F=>xa rfl aI (pu (iv (x+1)) rfl (aa (⟨rfl,m3,Nat.lt_succ_self _,⟨P,Q,a0,b++i,x+1,m3,(uK rfl),I.pk [0] rfl,(R.to rfl rfl),F,rfl⟩⟩)))))))
end Go.K
