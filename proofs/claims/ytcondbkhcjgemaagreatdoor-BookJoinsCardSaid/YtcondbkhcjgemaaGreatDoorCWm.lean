import Derived.Test.YtcondbkhcjgemaaGreatDoorCWl
namespace Go.K
open Go.Proofs.Tryz
open Go.Proofs Go.RowKit
set_option linter.unusedVariables false
set_option linter.unusedSimpArgs false
set_option maxRecDepth 100000
attribute [local irreducible] Seq cw cx fl opX
theorem L62 (w0:World) (q:Option Addr) (s:Nat) (f:List Rc) (j:Option Addr) (l:Nat) (g:List Rc) (C:bi w0 q (al eRc f)) (V:f.length≤9223372036854775807) (W:f.length≤s) (z:bi w0 j (al eRc g)) (D:g.length≤9223372036854775807) (E:g.length≤l) (N:Nat) (r:Bool) (F:F62 N f g=some r):bn Tryz.prog 62 [.slice q f.length s,.slice j g.length l] w0 fun v w=>v=.bool r∧Below w0.heap.size w0 w:=by
 refine az (n:=29) func62 rfl ntmps62 rfl ?_
 have I:=Inv.start w0
 unfold F62 at F
 refine ab (rgn (by kernel_rfl) (pu bF (by kernel_rfl) (aa (ab (ab (rgn (by kernel_rfl) (pu3 (.slice q f.length s) (iv ((f.length:Nat):Int)) (iv 0) (by kernel_rfl) (aa (au (cb (fun m ρ w=>∃ (i:Int) (mm:Nat),cd ρ [(1,.slice j g.length l),(8,.slice q f.length s),(9,iv (f.length:Int)),(10,iv i)]∧Inv [] w0 w []∧F62l1 f g N mm i=some r∧mm=m) (m:=N) ⟨0,N,⟨rfl,rfl,rfl,rfl,trivial⟩,I.pk [] rfl rfl,F,rfl⟩ ?_))))))))))
 rintro m ρ w ⟨i,mm,hag,I,F,hm⟩
 subst hm; obtain ⟨ρ,rfl⟩:=hag.form; clear hag
 obtain _ | m1:=mm
 ·cases (show (none:Option Bool)=some r from F)
 replace F:F62b1 f g N (F62l1 f g N m1) i=some r:=F; unfold F62b1 at F
 refine ab (rgn (by kernel_rfl) (ifN F (fun u F=>?_) (fun u F=>?_)))
 ·
  refine ac (cm rfl rfl (fun h=>absurd h u) (fun _=>aa (ab (ai rfl (bw (ab (rgn (by kernel_rfl) (pu bT (by kernel_rfl) (aa (aj ?_))))))))))
  cases F
  exact ⟨_,Ret.r1 rfl rfl,⟨rfl,I.below⟩⟩


 refine ac (cm rfl rfl (fun _=>?_) (fun h=>absurd u h))
 refine aa (ab (ah rfl (ak (ab (au (ab (rgn (by kernel_rfl) (gdE F (fun G F=>bt F (fun a A F=>?_))))))))))
 obtain ⟨X,Y,H,J,K⟩:=C.at_ bx (by decide) A
 refine ac (cn (i).toNat nt md rfl H rfl (Int.toNat_of_nonneg G).symm (fa A rfl) (ac (ef I (qg a) mh md rfl rfl J (by simp) K (ac (bh I _ zeroValue25 rfl fun L w I=>ac (mb I 0 _ md rfl rfl rfl rfl rfl rfl fun w I=>aa (ab (rgn (by kernel_rfl) (pu2 (.slice j g.length l) (pt L) (by kernel_rfl) (ac (ar I 0 2 [iv a.p,iv a.n] zi23 zs23 rfl rfl rfl rfl (bt F (fun o M F=>ac (bg I 105 _ _ (by kernel_rfl) (L105 _ j l g (⟨a.p,a.n⟩:It) (z.inv0 I) D E N _ M) fun w I=>pu (iv o) (by kernel_rfl) (aa (ab (gm 10 I (by kernel_rfl) (zp (iv o) (fun _=>(by kernel_rfl)) (ifE F (fun x F=>?_) (fun x F=>?_))))))))))))))))))))
 ·
  refine zc bT (fun w I=>cm rfl rfl (fun _=>br) (fun h=>absurd x h)) (zp bT (fun _=>(by kernel_rfl)) (zf 6 (by kernel_rfl) (zp bT (fun _=>(by kernel_rfl)) (zh (fun w I=>aa (ah rfl (ab (rgn (by kernel_rfl) (pu bF (by kernel_rfl) (aa (aj ?_)))))))))))
  cases F
  exact ⟨_,Ret.r1 rfl rfl,⟨rfl,I.below⟩⟩
 refine zc bF (fun w I=>cm rfl rfl (fun h=>absurd h x) (fun _=>br)) (zp bF (fun _=>(by kernel_rfl)) (zq (.slice j g.length l) (by kernel_rfl) (fun _=>(by kernel_rfl)) (zq (iv o) (by kernel_rfl) (fun _=>(by kernel_rfl)) (gdE F (fun O F=>bt F (fun e B F=>?_))))))
 obtain ⟨P,Q,R,S,T⟩:=z.at_ bx (by decide) B
 refine zo (.pointer (some ⟨P,Q+(o).toNat * 8,none⟩)) (by kernel_rfl) (fun w I=>cn (o).toNat nt md rfl R rfl (Int.toNat_of_nonneg O).symm (fa B rfl) br) (zo (.agg (qg e).toArray) (by kernel_rfl) (fun w I=>ef I (qg e) mh md rfl rfl S (by simp) T br) (zo (.agg (qg a).toArray) (by kernel_rfl) (fun w I=>ma I 0 mh md rfl rfl rfl br) (ifN F (fun y F=>?_) (fun y F=>?_))))
 ·
  refine zo bT (by kernel_rfl) (fun w I=>lg (b:=decide (e.p=a.p) && decide (e.n=a.n) && decide (e.k=a.k) && decide (e.d=a.d) && decide (e.kn=a.kn) && decide (e.op=a.op) && decide (e.on=a.on) && decide (e.t=a.t)) rfl rfl (by kernel_rfl) (fun w=>eq25 _ e.p e.n e.k e.d e.kn e.op e.on e.t a.p a.n a.k a.d a.kn a.op a.on a.t w) (fun _=>br) (fun h=>absurd h y)) (zp bT (fun _=>(by kernel_rfl)) (zh (fun w I=>aa (ah rfl (ab (rgn (by kernel_rfl) (pu bF (by kernel_rfl) (aa (aj ?_)))))))))
  cases F
  exact ⟨_,Ret.r1 rfl rfl,⟨rfl,I.below⟩⟩
 refine zo bF (by kernel_rfl) (fun w I=>lg (b:=decide (e.p=a.p) && decide (e.n=a.n) && decide (e.k=a.k) && decide (e.d=a.d) && decide (e.kn=a.kn) && decide (e.op=a.op) && decide (e.on=a.on) && decide (e.t=a.t)) rfl rfl (by kernel_rfl) (fun w=>eq25 _ e.p e.n e.k e.d e.kn e.op e.on e.t a.p a.n a.k a.d a.kn a.op a.on a.t w) (fun h=>absurd y h) (fun _=>br)) (zp bF (fun _=>(by kernel_rfl)) (zh (fun w I=>aa (ai rfl (ak (rgn (by kernel_rfl) (ckE F (fun U F=>ac (cj rfl rfl U (pu (iv (i+1)) (by kernel_rfl) (aa (⟨rfl,m1,Nat.lt_succ_self _,⟨i+1,m1,⟨rfl,rfl,rfl,rfl,trivial⟩,I.pk [] rfl rfl,F,rfl⟩⟩))))))))))))
theorem L8 (w0:World) (o:Option Addr) (q:Nat) (e:List Rc) (B:Option Addr) (C:Nat) (i:List Rc) (hG:Gl w0) (H:bi w0 o (al eRc e)) (J:e.length≤9223372036854775807) (K:e.length≤q) (T:bi w0 B (al eRc i)) (U:i.length≤9223372036854775807) (V:i.length≤C) (N:Nat) (r:Bool) (F:F8 N e i=some r):bn Tryz.prog 8 [.agg #[.slice o e.length q],.agg #[.slice B i.length C]] w0 fun v w=>v=.bool r∧Below w0.heap.size w0 w:=by
 refine az (n:=158) func8 rfl ntmps8 rfl ?_
 have I:=Inv.start w0
 unfold F8 at F
 refine ab (rgn (by kernel_rfl) (ac (ca I _ rfl fun x w I=>ac (ca I _ rfl fun G w I=>pu bF (by kernel_rfl) (aa (ab (dn (fun ρ w=>cd ρ [(2,pt x),(3,pt G),(25,bT)]∧Inv [] w0 w [(some x,blk [.slice o e.length q] 47),(some G,blk [.slice B i.length C] 47)]∧F8j1 N=some r) ?_ ?_)))))))
 ·
  refine rgn (by kernel_rfl) (ac (ma I 1 zi47 nm rfl rfl rfl (bt F (fun cK bW F=>ac (bg I 37 _ _ (by kernel_rfl) (L37 _ o q e (H.inv0 I) J K N _ bW) fun w I=>ifN F (fun aP F=>?_) (fun aP F=>?_))))))
  ·
   refine ac (de rfl rfl (fun _=>?_) (fun h=>absurd h aP))
   refine pu bT (by kernel_rfl) (sf 3 (by kernel_rfl) (pu bT (by kernel_rfl) (aa (.inl ⟨rfl,⟨⟨rfl,rfl,rfl,trivial⟩,I.pk [1,0] rfl rfl,F⟩⟩))))
  refine ac (de rfl rfl (fun h=>absurd aP h) (fun _=>pu bF (by kernel_rfl) (aw (by kernel_rfl) (ma I 0 zi47 nm rfl rfl rfl (bt F (fun cL bX F=>aw (by kernel_rfl) (bg I 37 _ _ (by kernel_rfl) (L37 _ B C i (T.inv0 I) U V N _ bX) fun w I=>ifN F (fun aQ F=>?_) (fun aQ F=>?_))))))))
  ·
   refine aw (by kernel_rfl) (de rfl rfl (fun _=>?_) (fun h=>absurd h aQ))
   refine pu bT (by kernel_rfl) (aa (.inl ⟨rfl,⟨⟨rfl,rfl,rfl,trivial⟩,I.pk [1,0] rfl rfl,F⟩⟩))
  refine aw (by kernel_rfl) (de rfl rfl (fun h=>absurd aQ h) (fun _=>pu bF (by kernel_rfl) (aa (.inr (ai rfl (ak (ab (rgn (by kernel_rfl) (ac (ma I 1 zi47 nm rfl rfl rfl (ac (ma I 0 zi47 nm rfl rfl rfl (bt F (fun f bY F=>ac (co 31 _ (by kernel_rfl) (L31 _ o q e B C i (H.inv0 I) J K (T.inv0 I) U V N _ bY) ?_)))))))))))))))
  rintro v w ⟨l,s,a5,rfl,hN,g⟩
  have I:=I.join hN; clear hN
  refine pu3 (.tuple #[.agg #[slv l f.1.length s],iv f.2]) (.agg #[slv l f.1.length s]) (iv f.2) (by kernel_rfl) (ac (bh I _ zeroValue47 rfl fun D w I=>ac (mb I 0 _ nm rfl rfl rfl rfl rfl rfl fun w I=>pu (iv f.2) (by kernel_rfl) (aa (ab (rgn (by kernel_rfl) (ac (ma I 2 zi47 nm rfl rfl rfl (ac (ma I 3 zi47 nm rfl rfl rfl (bt F (fun L bZ F=>ac (co 31 _ (by kernel_rfl) (L31 _ B C i o q e (T.inv0 I) U V (H.inv0 I) J K N _ bZ) ?_)))))))))))))
  rintro v w ⟨a6,a7,cM,rfl,hN,W⟩
  have I:=I.join hN; clear hN
  refine pu3 (.tuple #[.agg #[slv a6 L.1.length a7],iv L.2]) (.agg #[slv a6 L.1.length a7]) (iv L.2) (by kernel_rfl) (ac (bh I _ zeroValue47 rfl fun c0 w I=>ac (mb I 0 _ nm rfl rfl rfl rfl rfl rfl fun w I=>pu (iv L.2) (by kernel_rfl) (aa (ab (ab (rgn (by kernel_rfl) (pu (pt D) (by kernel_rfl) (ac (ag I 2 (slv l f.1.length s) mv rfl rfl rfl (pu (pt c0) (by kernel_rfl) (ac (ag I 0 (slv a6 L.1.length a7) mv rfl rfl rfl (bt F (fun cN bE F=>ifN F (fun aR F=>?_) (fun aR F=>?_))))))))))))))))
  ·
   refine ac (bg I 35 _ _ (by kernel_rfl) (bn.mono (L35 _ (l.map fun b=>⟨b,0,none⟩) s f.1 (a6.map fun b=>⟨b,0,none⟩) a7 L.1 (I.rowCells 3 rfl g) (am rfl g.big) (am rfl g.cap) (I.rowCells 1 rfl W) (am rfl W.big) (am rfl W.cap) N _ bE) (fun v' w' h=>⟨h.1.trans (congrArg Value.bool (Bool.eq_false_iff.2 aR)),h.2⟩)) fun w I=>pu2 bT bT (by kernel_rfl) (sf 3 (by kernel_rfl) (pu bT (by kernel_rfl) (aa (ah rfl (ab (rgn (by kernel_rfl) (pu bF (by kernel_rfl) (aa (aj ?_))))))))))
   cases F
   exact ⟨_,Ret.r1 rfl rfl,⟨rfl,I.below⟩⟩
  refine ac (bg I 35 _ _ (by kernel_rfl) (bn.mono (L35 _ (l.map fun b=>⟨b,0,none⟩) s f.1 (a6.map fun b=>⟨b,0,none⟩) a7 L.1 (I.rowCells 3 rfl g) (am rfl g.big) (am rfl g.cap) (I.rowCells 1 rfl W) (am rfl W.big) (am rfl W.cap) N _ bE) (fun v' w' h=>⟨h.1.trans (congrArg Value.bool aR),h.2⟩)) fun w I=>pu2 bF bF (by kernel_rfl) (pup (iv f.2) (by kernel_rfl) (pup (iv L.2) (by kernel_rfl) (ifN F (fun aS F=>?_) (fun aS F=>?_)))))
  ·
   refine aw (by kernel_rfl) (de rfl rfl (fun _=>?_) (fun h=>absurd h aS))
   refine pu bT (by kernel_rfl) (aa (ah rfl (ab (rgn (by kernel_rfl) (pu bF (by kernel_rfl) (aa (aj ?_)))))))
   cases F
   exact ⟨_,Ret.r1 rfl rfl,⟨rfl,I.below⟩⟩
  refine aw (by kernel_rfl) (de rfl rfl (fun h=>absurd aS h) (fun _=>pu bF (by kernel_rfl) (aa (ai rfl (ak (ab (rgn (by kernel_rfl) (ac (ma I 5 zi47 nm rfl rfl rfl (ac (ma I 5 zi47 nm rfl rfl rfl (bt F (fun M c1 F=>ac (co 31 _ (by kernel_rfl) (L31 _ o q e o q e (H.inv0 I) J K (H.inv0 I) J K N _ c1) ?_))))))))))))))
  rintro v w ⟨a8,a9,cO,rfl,hN,X⟩
  have I:=I.join hN; clear hN
  refine pu3 (.tuple #[.agg #[slv a8 M.1.length a9],iv M.2]) (.agg #[slv a8 M.1.length a9]) (iv M.2) (by kernel_rfl) (ac (bh I _ zeroValue47 rfl fun c2 w I=>ac (mb I 0 _ nm rfl rfl rfl rfl rfl rfl fun w I=>pu (iv M.2) (by kernel_rfl) (aa (ab (ab (rgn (by kernel_rfl) (pu (iv M.2) (by kernel_rfl) (ifN F (fun aT F=>?_) (fun aT F=>?_))))))))))
  ·
   refine ac (de rfl rfl (fun _=>?_) (fun h=>absurd h aT))
   refine pu bT (by kernel_rfl) (sf 6 (by kernel_rfl) (pu bT (by kernel_rfl) (aa (ah rfl (ab (rgn (by kernel_rfl) (pu bF (by kernel_rfl) (aa (aj ?_)))))))))
   cases F
   exact ⟨_,Ret.r1 rfl rfl,⟨rfl,I.below⟩⟩
  refine ac (de rfl rfl (fun h=>absurd aT h) (fun _=>pu bF (by kernel_rfl) (pup (pt c2) (by kernel_rfl) (aw (by kernel_rfl) (ag I 0 (slv a8 M.1.length a9) mv rfl rfl rfl (pup (pt x) (by kernel_rfl) (aw (by kernel_rfl) (ag I 7 (.slice o e.length q) mv rfl rfl rfl (bt F (fun cP bG F=>ifN F (fun aU F=>?_) (fun aU F=>?_)))))))))))
  ·
   refine aw (by kernel_rfl) (bg I 35 _ _ (by kernel_rfl) (bn.mono (L35 _ (a8.map fun b=>⟨b,0,none⟩) a9 M.1 o q e (I.rowCells 1 rfl X) (am rfl X.big) (am rfl X.cap) (H.inv0 I) J K N _ bG) (fun v' w' h=>⟨h.1.trans (congrArg Value.bool (Bool.eq_false_iff.2 aU)),h.2⟩)) fun w I=>pup bT (by kernel_rfl) (pu bT (by kernel_rfl) (aa (ah rfl (ab (rgn (by kernel_rfl) (pu bF (by kernel_rfl) (aa (aj ?_)))))))))
   cases F
   exact ⟨_,Ret.r1 rfl rfl,⟨rfl,I.below⟩⟩
  refine aw (by kernel_rfl) (bg I 35 _ _ (by kernel_rfl) (bn.mono (L35 _ (a8.map fun b=>⟨b,0,none⟩) a9 M.1 o q e (I.rowCells 1 rfl X) (am rfl X.big) (am rfl X.cap) (H.inv0 I) J K N _ bG) (fun v' w' h=>⟨h.1.trans (congrArg Value.bool aU),h.2⟩)) fun w I=>pup bF (by kernel_rfl) (pu bF (by kernel_rfl) (aa (ai rfl (ak (ab (rgn (by kernel_rfl) (pu (.slice none 0 0) (by kernel_rfl) (aa (dn (fun ρ w=>∃ (Y:Option Nat) (aA:Nat) (aV:List Value) (R:List Rc),cd ρ [(2,pt x),(3,pt G),(5,pt D),(6,iv f.2),(11,slv Y R.length aA)]∧Inv [] w0 w [(some x,blk [.slice o e.length q] 47),(some G,blk [.slice B i.length C] 47),(some D,blk [slv l f.1.length s] 47),(l,blk a5 25),(Y,blk aV 25)]∧(Row 8 Y (R.length) aA aV (al eRc R))∧F8j2 e i N f R=some r) ?_ ?_))))))))))
  ·
   refine ab (rgn (by kernel_rfl) (pu (iv 0) (by kernel_rfl) (aa (au ?_))))
   have I:=I.nilRow 25
   refine cb (fun m ρ w=>∃ (Z:Option Nat) (aB:Nat) (aC:List Value) (Q:List Rc) (y:Int) (mm:Nat),cd ρ [(2,pt x),(3,pt G),(5,pt D),(6,iv f.2),(11,slv Z Q.length aB),(12,iv y)]∧Inv [] w0 w [(some x,blk [.slice o e.length q] 47),(some G,blk [.slice B i.length C] 47),(some D,blk [slv l f.1.length s] 47),(l,blk a5 25),(Z,blk aC 25)]∧(Row 8 Z (Q.length) aB aC (al eRc Q))∧F8l3 e i N f mm Q y=some r∧mm=m) (m:=N) ⟨none,0,[],[],0,N,⟨rfl,rfl,rfl,rfl,rfl,rfl,trivial⟩,I.pk [8,7,5,6,0] rfl rfl,(Row.nil_ 8),F,rfl⟩ ?_
   rintro m ρ w ⟨Z,aB,aC,Q,y,mm,hag,I,bH,F,hm⟩
   subst hm; obtain ⟨ρ,rfl⟩:=hag.form; clear hag
   obtain _ | m3:=mm
   ·cases (show (none:Option Bool)=some r from F)
   replace F:F8b3 e i N f (F8l3 e i N f m3) Q y=some r:=F; unfold F8b3 at F
   refine ab (ab (rgn (by kernel_rfl) (pu (iv y) (by kernel_rfl) (ifN F (fun aW F=>?_) (fun aW F=>?_)))))
   ·
    refine ac (cm rfl rfl (fun h=>absurd h aW) (fun _=>aa (ai rfl (bw (.inl ⟨rfl,⟨Z,aB,aC,Q,⟨rfl,rfl,rfl,rfl,rfl,trivial⟩,I.pk [0,1,2,3,4] rfl rfl,(bH.to rfl rfl),F⟩⟩)))))
   refine ac (cm rfl rfl (fun _=>?_) (fun h=>absurd aW h))
   refine aa (ah rfl (ak (dn (fun ρ w=>∃ (aD:Option Nat) (aL:Nat) (aM:List Value) (a0:List Rc),cd ρ [(2,pt x),(3,pt G),(5,pt D),(6,iv f.2),(11,slv aD a0.length aL),(12,iv y)]∧Inv [] w0 w [(some x,blk [.slice o e.length q] 47),(some G,blk [.slice B i.length C] 47),(some D,blk [slv l f.1.length s] 47),(l,blk a5 25),(aD,blk aM 25)]∧(Row 8 aD (a0.length) aL aM (al eRc a0))∧F8j4 (F8l3 e i N f m3) y a0=some r) ?_ ?_)))
   ·
    refine au (ab (rgn (by kernel_rfl) (pu (pt x) (by kernel_rfl) (ac (ag I 0 (.slice o e.length q) mv rfl rfl rfl (pu (iv ((e.length:Nat):Int)) (by kernel_rfl) (ckE F (fun c4 F=>ac (s_sub rfl rfl c4 (pu (iv ((e.length:Int) - 1)) (by kernel_rfl) (aa (au (cb (fun m ρ w=>∃ (S:Option Nat) (a1:Nat) (aE:List Value) (E:List Rc) (A:Int) (mm:Nat),cd ρ [(2,pt x),(3,pt G),(5,pt D),(6,iv f.2),(11,slv S E.length a1),(12,iv y),(13,iv A)]∧Inv [] w0 w [(some x,blk [.slice o e.length q] 47),(some G,blk [.slice B i.length C] 47),(some D,blk [slv l f.1.length s] 47),(l,blk a5 25),(S,blk aE 25)]∧(Row 8 S (E.length) a1 aE (al eRc E))∧F8l5 e (F8l3 e i N f m3) y mm E A=some r∧mm=m) (m:=N) ⟨Z,aB,aC,Q,(e.length:Int) - 1,N,⟨rfl,rfl,rfl,rfl,rfl,rfl,rfl,trivial⟩,I.pk [0,1,2,3,4] rfl rfl,(bH.to rfl rfl),F,rfl⟩ ?_)))))))))))))
    rintro m ρ w ⟨S,a1,aE,E,A,mm,hag,I,aX,F,hm⟩
    subst hm; obtain ⟨ρ,rfl⟩:=hag.form; clear hag
    obtain _ | m5:=mm
    ·cases (show (none:Option Bool)=some r from F)
    replace F:F8b5 e (F8l3 e i N f m3) y (F8l5 e (F8l3 e i N f m3) y m5) E A=some r:=F; unfold F8b5 at F
    refine ab (ab (rgn (by kernel_rfl) (pu (iv A) (by kernel_rfl) (ifN F (fun aF F=>?_) (fun aF F=>?_)))))
    ·
     refine ac (s_geq rfl rfl (fun h=>absurd h aF) (fun _=>aa (ai rfl (bw (.inl ⟨rfl,⟨S,a1,aE,E,⟨rfl,rfl,rfl,rfl,rfl,rfl,trivial⟩,I.pk [0,1,2,3,4] rfl rfl,(aX.to rfl rfl),F⟩⟩)))))
    refine ac (s_geq rfl rfl (fun _=>?_) (fun h=>absurd aF h))
    refine aa (ah rfl (ak (dn (fun ρ w=>∃ (aG:Option Nat) (aN:Nat) (aO:List Value) (a2:List Rc),cd ρ [(2,pt x),(3,pt G),(5,pt D),(6,iv f.2),(11,slv aG a2.length aN),(12,iv y),(13,iv A)]∧Inv [] w0 w [(some x,blk [.slice o e.length q] 47),(some G,blk [.slice B i.length C] 47),(some D,blk [slv l f.1.length s] 47),(l,blk a5 25),(aG,blk aO 25)]∧(Row 8 aG (a2.length) aN aO (al eRc a2))∧F8j6 (F8l5 e (F8l3 e i N f m3) y m5) A a2=some r) ?_ ?_)))
    ·
     refine au (ab (rgn (by kernel_rfl) (pu (pt x) (by kernel_rfl) (ac (ag I 0 (.slice o e.length q) mv rfl rfl rfl (pu (iv A) (by kernel_rfl) (bt F (fun a aY F=>?_))))))))
     obtain ⟨bI,bJ,bK,bL,bM⟩:=H.at_ bx (by decide) aY
     refine ac (cn (A).toNat nt md rfl bK rfl (Int.toNat_of_nonneg aF).symm (fa aY rfl) (pu2 (.pointer (some ⟨bI,bJ+(A).toNat * 8,none⟩)) (.pointer (some ⟨bI,bJ+(A).toNat * 8+1,none⟩)) (by kernel_rfl) (ac (dj I (iv a.n) zi3 rfl bL (by simp) (bM 1 _ rfl) (pu (iv y) (by kernel_rfl) (ifN F (fun aZ F=>?_) (fun aZ F=>?_)))))))
     ·
      refine ac (di rfl rfl (fun h=>absurd h aZ) (fun _=>aa (ai rfl (ak (.inl ⟨rfl,⟨S,a1,aE,E,⟨rfl,rfl,rfl,rfl,rfl,rfl,rfl,trivial⟩,I.pk [0,1,2,3,4] rfl rfl,(aX.to rfl rfl),F⟩⟩)))))
     refine ac (di rfl rfl (fun _=>?_) (fun h=>absurd aZ h))
     refine aa (ah rfl (rgn (by kernel_rfl) (pu2 (slv S E.length a1) (pt x) (by kernel_rfl) (ac (ag I 0 (.slice o e.length q) mv rfl rfl rfl (pu (iv A) (by kernel_rfl) (ac (cn (A).toNat nt md rfl bK rfl (Int.toNat_of_nonneg aF).symm (fa aY rfl) (ac (ef I (qg a) mh md rfl rfl bL (by simp) bM (ac (fu I (qg a) 25 (fun b=>slv (some b) 1 1) (by kernel_rfl) fun cQ w I=>gdE F (fun cR F=>ac (ks I nt (z:=.agg #[iv 0,iv 0,iv 0,iv 0,iv 0,iv 0,iv 0,.string (bts [])]) (k:=8) (bytes:=72) (by kernel_rfl) rfl rfl 5 rfl rfl aX (qg a) rfl rfl (I.cells 0 (off:=0) rfl (fun j u h=>by rw [Nat.zero_add]; exact h)) (by simp [Value.oneCell']) (by omega) (by omega) (n2:=(E++[(⟨a.p,a.n,a.k,a.d,a.kn,a.op,a.on,a.t⟩:Rc)]).length) (kr rfl rfl) ?_))))))))))))))
     intro b0 b1 bN w I b2
     have b2:Row 8 b0 ((E++[(⟨a.p,a.n,a.k,a.d,a.kn,a.op,a.on,a.t⟩:Rc)]).length) b1 bN (al eRc (E++[(⟨a.p,a.n,a.k,a.d,a.kn,a.op,a.on,a.t⟩:Rc)])):=b2.snoc _ rfl
     refine pu (slv b0 ((E++[(⟨a.p,a.n,a.k,a.d,a.kn,a.op,a.on,a.t⟩:Rc)]).length) b1) (by kernel_rfl) (aa (.inl ⟨rfl,⟨b0,b1,bN,E++[(⟨a.p,a.n,a.k,a.d,a.kn,a.op,a.on,a.t⟩:Rc)],⟨rfl,rfl,rfl,rfl,rfl,rfl,rfl,trivial⟩,I.pk [1,2,3,4,5] rfl rfl,(b2.to rfl rfl),F⟩⟩))
    intro ρ w hJ
    obtain ⟨aG,aN,aO,a2,hag,I,c5,F⟩:=hJ
    obtain ⟨ρ,rfl⟩:=hag.form; clear hag
    unfold F8j6 at F
    refine rgn (by kernel_rfl) (pu (iv A) (by kernel_rfl) (ckE F (fun c6 F=>ac (s_sub rfl rfl c6 (pu (iv (A - 1)) (by kernel_rfl) (aa (⟨rfl,m5,Nat.lt_succ_self _,⟨aG,aN,aO,a2,A - 1,m5,⟨rfl,rfl,rfl,rfl,rfl,rfl,rfl,trivial⟩,I.pk [0,1,2,3,4] rfl rfl,(c5.to rfl rfl),F,rfl⟩⟩)))))))
   intro ρ w hJ
   obtain ⟨aD,aL,aM,a0,hag,I,c7,F⟩:=hJ
   obtain ⟨ρ,rfl⟩:=hag.form; clear hag
   unfold F8j4 at F
   refine rgn (by kernel_rfl) (pu (iv y) (by kernel_rfl) (ckE F (fun c8 F=>ac (cj rfl rfl c8 (pu (iv (y+1)) (by kernel_rfl) (aa (⟨rfl,m3,Nat.lt_succ_self _,⟨aD,aL,aM,a0,y+1,m3,⟨rfl,rfl,rfl,rfl,rfl,rfl,trivial⟩,I.pk [0,1,2,3,4] rfl rfl,(c7.to rfl rfl),F,rfl⟩⟩)))))))
  intro ρ w hJ
  obtain ⟨Y,aA,aV,R,hag,I,b3,F⟩:=hJ
  obtain ⟨ρ,rfl⟩:=hag.form; clear hag
  unfold F8j2 at F
  refine ab (rgn (by kernel_rfl) (pu (slv Y R.length aA) (by kernel_rfl) (bt F (fun O cA F=>ac (co 27 _ (by kernel_rfl) (L27 _ (Y.map fun b=>⟨b,0,none⟩) aA R (I.rowCells 4 rfl b3) (am rfl b3.big) (am rfl b3.cap) N _ cA) ?_)))))
  rintro v w ⟨aH,aI,cS,rfl,hN,a3⟩
  have I:=I.join hN; clear hN
  refine pu3 (.tuple #[.agg #[slv aH O.1.length aI],iv O.2]) (.agg #[slv aH O.1.length aI]) (iv O.2) (by kernel_rfl) (ac (bh I _ zeroValue47 rfl fun cB w I=>ac (mb I 0 _ nm rfl rfl rfl rfl rfl rfl fun w I=>pu (iv O.2) (by kernel_rfl) (aa (ab (ab (rgn (by kernel_rfl) (pu (iv O.2) (by kernel_rfl) (ifN F (fun b4 F=>?_) (fun b4 F=>?_))))))))))
  ·
   refine ac (de rfl rfl (fun _=>?_) (fun h=>absurd h b4))
   refine pu bT (by kernel_rfl) (sf 6 (by kernel_rfl) (pu bT (by kernel_rfl) (aa (ah rfl (ab (rgn (by kernel_rfl) (pu bF (by kernel_rfl) (aa (aj ?_)))))))))
   cases F
   exact ⟨_,Ret.r1 rfl rfl,⟨rfl,I.below⟩⟩
  refine ac (de rfl rfl (fun h=>absurd b4 h) (fun _=>pu bF (by kernel_rfl) (pup (pt cB) (by kernel_rfl) (aw (by kernel_rfl) (ag I 0 (slv aH O.1.length aI) mv rfl rfl rfl (pup (pt x) (by kernel_rfl) (aw (by kernel_rfl) (ag I 2 (.slice o e.length q) mv rfl rfl rfl (bt F (fun cT bO F=>ifN F (fun b5 F=>?_) (fun b5 F=>?_)))))))))))
  ·
   refine aw (by kernel_rfl) (bg I 35 _ _ (by kernel_rfl) (bn.mono (L35 _ (aH.map fun b=>⟨b,0,none⟩) aI O.1 o q e (I.rowCells 1 rfl a3) (am rfl a3.big) (am rfl a3.cap) (H.inv0 I) J K N _ bO) (fun v' w' h=>⟨h.1.trans (congrArg Value.bool (Bool.eq_false_iff.2 b5)),h.2⟩)) fun w I=>pup bT (by kernel_rfl) (pu bT (by kernel_rfl) (aa (ah rfl (ab (rgn (by kernel_rfl) (pu bF (by kernel_rfl) (aa (aj ?_)))))))))
   cases F
   exact ⟨_,Ret.r1 rfl rfl,⟨rfl,I.below⟩⟩
  refine aw (by kernel_rfl) (bg I 35 _ _ (by kernel_rfl) (bn.mono (L35 _ (aH.map fun b=>⟨b,0,none⟩) aI O.1 o q e (I.rowCells 1 rfl a3) (am rfl a3.big) (am rfl a3.cap) (H.inv0 I) J K N _ bO) (fun v' w' h=>⟨h.1.trans (congrArg Value.bool b5),h.2⟩)) fun w I=>pup bF (by kernel_rfl) (pu bF (by kernel_rfl) (aa (ai rfl (ak (ab (ab (rgn (by kernel_rfl) (pu (iv f.2) (by kernel_rfl) (ifN F (fun b6 F=>?_) (fun b6 F=>?_)))))))))))
  ·
   refine ac (de rfl rfl (fun _=>?_) (fun h=>absurd h b6))
   refine aa (ah rfl (ab (rgn (by kernel_rfl) (pu (iv f.2) (by kernel_rfl) (ifE F (fun b7 F=>?_) (fun b7 F=>?_))))))
   ·
    refine ac (di rfl rfl (fun _=>?_) (fun h=>absurd b7 h))
    refine pu bT (by kernel_rfl) (sf 2 (by kernel_rfl) (pu2 bT bT (by kernel_rfl) (bt F (fun bP cC F=>aw (by kernel_rfl) (bg I 19 _ _ (by kernel_rfl) (L19 _ (hG.up I) N _ cC) fun w I=>pu2 (.bool bP) (.bool bP) (by kernel_rfl) (aa (aj ?_)))))))
    cases F
    exact ⟨_,Ret.r1 rfl rfl,⟨rfl,I.below⟩⟩
   refine ac (di rfl rfl (fun h=>absurd h b7) (fun _=>pu bF (by kernel_rfl) (pup (iv f.2) (by kernel_rfl) (ifN F (fun b8 F=>?_) (fun b8 F=>?_)))))
   ·
    refine aw (by kernel_rfl) (di rfl rfl (fun h=>absurd h b8) (fun _=>pu2 bF bF (by kernel_rfl) (of_ (by kernel_rfl) (pu2 bF bF (by kernel_rfl) (aa (aj ?_))))))
    cases F
    exact ⟨_,Ret.r1 rfl rfl,⟨rfl,I.below⟩⟩
   refine aw (by kernel_rfl) (di rfl rfl (fun _=>?_) (fun h=>absurd b8 h))
   refine pu2 bT bT (by kernel_rfl) (bt F (fun bQ cD F=>aw (by kernel_rfl) (bg I 19 _ _ (by kernel_rfl) (L19 _ (hG.up I) N _ cD) fun w I=>pu2 (.bool bQ) (.bool bQ) (by kernel_rfl) (aa (aj ?_)))))
   cases F
   exact ⟨_,Ret.r1 rfl rfl,⟨rfl,I.below⟩⟩
  refine ac (de rfl rfl (fun h=>absurd b6 h) (fun _=>aa (ai rfl (ak (ab (rgn (by kernel_rfl) (ac (ma I 4 zi47 nm rfl rfl rfl (ac (ma I 3 zi47 nm rfl rfl rfl (bt F (fun P cE F=>ac (co 31 _ (by kernel_rfl) (L31 _ (l.map fun b=>⟨b,0,none⟩) s f.1 B C i (I.rowCells 5 rfl g) (am rfl g.big) (am rfl g.cap) (T.inv0 I) U V N _ cE) ?_)))))))))))))
  rintro v w ⟨aJ,aK,cU,rfl,hN,a4⟩
  have I:=I.join hN; clear hN
  refine pu3 (.tuple #[.agg #[slv aJ P.1.length aK],iv P.2]) (.agg #[slv aJ P.1.length aK]) (iv P.2) (by kernel_rfl) (ac (bh I _ zeroValue47 rfl fun cF w I=>ac (mb I 0 _ nm rfl rfl rfl rfl rfl rfl fun w I=>pu (iv P.2) (by kernel_rfl) (aa (ab (rgn (by kernel_rfl) (pu (iv P.2) (by kernel_rfl) (ifN F (fun b9 F=>?_) (fun b9 F=>?_)))))))))
  ·
   refine ac (di rfl rfl (fun h=>absurd h b9) (fun _=>pu bF (by kernel_rfl) (sf 5 (by kernel_rfl) (pu2 bF bF (by kernel_rfl) (sf 3 (by kernel_rfl) (pu2 bF bF (by kernel_rfl) (sf 5 (by kernel_rfl) (pu2 bF bF (by kernel_rfl) (sf 5 (by kernel_rfl) (pu2 bF bF (by kernel_rfl) (of_ (by kernel_rfl) (pu2 bF bF (by kernel_rfl) (aa (aj ?_))))))))))))))
   cases F
   exact ⟨_,Ret.r1 rfl rfl,⟨rfl,I.below⟩⟩
  refine ac (di rfl rfl (fun _=>?_) (fun h=>absurd b9 h))
  refine pu bT (by kernel_rfl) (pup (pt cF) (by kernel_rfl) (aw (by kernel_rfl) (ag I 0 (slv aJ P.1.length aK) mv rfl rfl rfl (pup (pt D) (by kernel_rfl) (aw (by kernel_rfl) (ag I 6 (slv l f.1.length s) mv rfl rfl rfl (bt F (fun cV bR F=>ifN F (fun bA F=>?_) (fun bA F=>?_)))))))))
  ·
   refine aw (by kernel_rfl) (bg I 35 _ _ (by kernel_rfl) (bn.mono (L35 _ (aJ.map fun b=>⟨b,0,none⟩) aK P.1 (l.map fun b=>⟨b,0,none⟩) s f.1 (I.rowCells 1 rfl a4) (am rfl a4.big) (am rfl a4.cap) (I.rowCells 7 rfl g) (am rfl g.big) (am rfl g.cap) N _ bR) (fun v' w' h=>⟨h.1.trans (congrArg Value.bool (Bool.eq_false_iff.2 bA)),h.2⟩)) fun w I=>pu2 bF bF (by kernel_rfl) (sf 3 (by kernel_rfl) (pu2 bF bF (by kernel_rfl) (sf 5 (by kernel_rfl) (pu2 bF bF (by kernel_rfl) (sf 5 (by kernel_rfl) (pu2 bF bF (by kernel_rfl) (of_ (by kernel_rfl) (pu2 bF bF (by kernel_rfl) (aa (aj ?_)))))))))))
   cases F
   exact ⟨_,Ret.r1 rfl rfl,⟨rfl,I.below⟩⟩
  refine aw (by kernel_rfl) (bg I 35 _ _ (by kernel_rfl) (bn.mono (L35 _ (aJ.map fun b=>⟨b,0,none⟩) aK P.1 (l.map fun b=>⟨b,0,none⟩) s f.1 (I.rowCells 1 rfl a4) (am rfl a4.big) (am rfl a4.cap) (I.rowCells 7 rfl g) (am rfl g.big) (am rfl g.cap) N _ bR) (fun v' w' h=>⟨h.1.trans (congrArg Value.bool bA),h.2⟩)) fun w I=>pu2 bT bT (by kernel_rfl) (aw (by kernel_rfl) (ma I 6 zi47 nm rfl rfl rfl (bt F (fun cW cG F=>aw (by kernel_rfl) (bg I 36 _ _ (by kernel_rfl) (L36 _ (l.map fun b=>⟨b,0,none⟩) s f.1 (I.rowCells 7 rfl g) (am rfl g.big) (am rfl g.cap) N _ cG) fun w I=>ifN F (fun bB F=>?_) (fun bB F=>?_)))))))
  ·
   refine aw (by kernel_rfl) (di rfl rfl (fun h=>absurd h bB) (fun _=>pu2 bF bF (by kernel_rfl) (sf 5 (by kernel_rfl) (pu2 bF bF (by kernel_rfl) (sf 5 (by kernel_rfl) (pu2 bF bF (by kernel_rfl) (of_ (by kernel_rfl) (pu2 bF bF (by kernel_rfl) (aa (aj ?_))))))))))
   cases F
   exact ⟨_,Ret.r1 rfl rfl,⟨rfl,I.below⟩⟩
  refine aw (by kernel_rfl) (di rfl rfl (fun _=>?_) (fun h=>absurd bB h))
  refine pu2 bT bT (by kernel_rfl) (pup (pt x) (by kernel_rfl) (aw (by kernel_rfl) (ag I 4 (.slice o e.length q) mv rfl rfl rfl (pup (pt D) (by kernel_rfl) (aw (by kernel_rfl) (ag I 6 (slv l f.1.length s) mv rfl rfl rfl (bt F (fun cX bS F=>ifN F (fun bC F=>?_) (fun bC F=>?_)))))))))
  ·
   refine aw (by kernel_rfl) (bg I 62 _ _ (by kernel_rfl) (bn.mono (L62 _ o q e (l.map fun b=>⟨b,0,none⟩) s f.1 (H.inv0 I) J K (I.rowCells 7 rfl g) (am rfl g.big) (am rfl g.cap) N _ bS) (fun v' w' h=>⟨h.1.trans (congrArg Value.bool (Bool.eq_false_iff.2 bC)),h.2⟩)) fun w I=>pu2 bF bF (by kernel_rfl) (sf 5 (by kernel_rfl) (pu2 bF bF (by kernel_rfl) (of_ (by kernel_rfl) (pu2 bF bF (by kernel_rfl) (aa (aj ?_)))))))
   cases F
   exact ⟨_,Ret.r1 rfl rfl,⟨rfl,I.below⟩⟩
  refine aw (by kernel_rfl) (bg I 62 _ _ (by kernel_rfl) (bn.mono (L62 _ o q e (l.map fun b=>⟨b,0,none⟩) s f.1 (H.inv0 I) J K (I.rowCells 7 rfl g) (am rfl g.big) (am rfl g.cap) N _ bS) (fun v' w' h=>⟨h.1.trans (congrArg Value.bool bC),h.2⟩)) fun w I=>pu2 bT bT (by kernel_rfl) (pup (pt G) (by kernel_rfl) (aw (by kernel_rfl) (ag I 5 (.slice B i.length C) mv rfl rfl rfl (pup (pt D) (by kernel_rfl) (aw (by kernel_rfl) (ag I 6 (slv l f.1.length s) mv rfl rfl rfl (bt F (fun cY bU F=>ifN F (fun bD F=>?_) (fun bD F=>?_))))))))))
  ·
   refine aw (by kernel_rfl) (bg I 62 _ _ (by kernel_rfl) (bn.mono (L62 _ B C i (l.map fun b=>⟨b,0,none⟩) s f.1 (T.inv0 I) U V (I.rowCells 7 rfl g) (am rfl g.big) (am rfl g.cap) N _ bU) (fun v' w' h=>⟨h.1.trans (congrArg Value.bool (Bool.eq_false_iff.2 bD)),h.2⟩)) fun w I=>pu2 bF bF (by kernel_rfl) (of_ (by kernel_rfl) (pu2 bF bF (by kernel_rfl) (aa (aj ?_)))))
   cases F
   exact ⟨_,Ret.r1 rfl rfl,⟨rfl,I.below⟩⟩
  refine aw (by kernel_rfl) (bg I 62 _ _ (by kernel_rfl) (bn.mono (L62 _ B C i (l.map fun b=>⟨b,0,none⟩) s f.1 (T.inv0 I) U V (I.rowCells 7 rfl g) (am rfl g.big) (am rfl g.cap) N _ bU) (fun v' w' h=>⟨h.1.trans (congrArg Value.bool bD),h.2⟩)) fun w I=>pu2 bT bT (by kernel_rfl) (bt F (fun bV cH F=>aw (by kernel_rfl) (bg I 19 _ _ (by kernel_rfl) (L19 _ (hG.up I) N _ cH) fun w I=>pu2 (.bool bV) (.bool bV) (by kernel_rfl) (aa (aj ?_))))))
  cases F
  exact ⟨_,Ret.r1 rfl rfl,⟨rfl,I.below⟩⟩
 intro ρ w hJ
 obtain ⟨hag,I,F⟩:=hJ
 obtain ⟨ρ,rfl⟩:=hag.form; clear hag
 unfold F8j1 at F
 refine ah rfl (ab (rgn (by kernel_rfl) (bt F (fun cI cJ F=>ac (bg I 19 _ _ (by kernel_rfl) (L19 _ (hG.up I) N _ cJ) fun w I=>pu (.bool cI) (by kernel_rfl) (aa (aj ?_)))))))
 cases F
 exact ⟨_,Ret.r1 rfl rfl,⟨rfl,I.below⟩⟩


end Go.K
