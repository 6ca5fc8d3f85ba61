import Derived.Test.YtcondbkhcjgemaaGreatDoorUWl
namespace Go.K
open Go.Proofs.Tryz
open Go.Proofs Go.RowKit
set_option linter.unusedVariables false
set_option linter.unusedSimpArgs false
set_option maxRecDepth 100000
attribute [local irreducible] Seq cw cx fl opX
theorem L9 (w0:World) (u:Rc) (M:Int) (o:Int) (hG:Gl w0) (N:Nat) (r:Bool) (F:F9 N u M o=some r):bn Tryz.prog 9 [.agg #[iv u.p,iv u.n,iv u.k,iv u.d,iv u.kn,iv u.op,iv u.on,.string (bts u.t)],iv M,iv o] w0 fun v w=>v=.bool r∧Below w0.heap.size w0 w:=by
 refine az (n:=131) func9 rfl ntmps9 rfl ?_
 have I:=Inv.start w0
 unfold F9 at F
 refine ab (rgn (by kernel_rfl) (ac (ca I _ rfl fun aX w I=>pu bF (by kernel_rfl) (aa (ab (rgn (by kernel_rfl) (pu (iv M) (by kernel_rfl) (bt F (fun j aB F=>ac (bg I 63 _ _ (by kernel_rfl) (L63 _ M 60 _ aB) fun w I=>pu (iv j) (by kernel_rfl) (aa (ab (ab (rgn (by kernel_rfl) (ac (ma I 0 mh md rfl rfl rfl (bt F (fun aY aC F=>ac (bg I 18 _ _ (by kernel_rfl) (L18 _ u N _ aC) fun w I=>ifN F (fun S F=>?_) (fun S F=>?_))))))))))))))))))))
 ·
  refine ac (de rfl rfl (fun _=>?_) (fun h=>absurd h S))
  refine aa (ah rfl (ab (rgn (by kernel_rfl) (ac (ma I 0 mh md rfl rfl rfl (pu (iv j) (by kernel_rfl) (bt F (fun B aD F=>ac (co 20 _ (by kernel_rfl) (L20 _ u j (hG.up I) N _ aD) ?_)))))))))
  rintro v w ⟨T,U,aZ,rfl,hN,b0⟩
  have I:=I.join hN; clear hN
  refine pu3 (.tuple #[slv T B.1.length U,iv B.2]) (slv T B.1.length U) (iv B.2) (by kernel_rfl) (pu2 (slv T B.1.length U) (iv B.2) (by kernel_rfl) (aa (ab (rgn (by kernel_rfl) (pu (iv B.2) (by kernel_rfl) (ifN F (fun V F=>?_) (fun V F=>?_)))))))
  ·
   refine ac (di rfl rfl (fun h=>absurd h V) (fun _=>pu bF (by kernel_rfl) (of_ (by kernel_rfl) (pu2 bF bF (by kernel_rfl) (aa (aj ?_))))))
   cases F
   exact ⟨_,Ret.r1 rfl rfl,⟨rfl,I.below⟩⟩

  refine ac (di rfl rfl (fun _=>?_) (fun h=>absurd V h))
  refine pu bT (by kernel_rfl) (bt F (fun a9 aE F=>aw (by kernel_rfl) (bg I 19 _ _ (by kernel_rfl) (L19 _ (hG.up I) N _ aE) fun w I=>pu2 (.bool a9) (.bool a9) (by kernel_rfl) (aa (aj ?_)))))
  cases F
  exact ⟨_,Ret.r1 rfl rfl,⟨rfl,I.below⟩⟩
 refine ac (de rfl rfl (fun h=>absurd S h) (fun _=>aa (ai rfl (ak (ab (rgn (by kernel_rfl) (ac (ma I 0 mh md rfl rfl rfl (bt F (fun i aF F=>ac (bg I 13 _ _ (by kernel_rfl) (L13 _ u (hG.up I) N _ aF) fun w I=>pu3 (.tuple #[.string (bts i.1),iv i.2]) (.string (bts i.1)) (iv i.2) (by kernel_rfl) (pu2 (.string (bts i.1)) (iv i.2) (by kernel_rfl) (aa (ab (rgn (by kernel_rfl) (ac (ma I 0 mh md rfl rfl rfl (pu (iv j) (by kernel_rfl) (bt F (fun g aG F=>ac (co 20 _ (by kernel_rfl) (L20 _ u j (hG.up I) N _ aG) ?_)))))))))))))))))))))
 rintro v w ⟨G,H,aH,rfl,hN,aI⟩
 have I:=I.join hN; clear hN
 refine pu3 (.tuple #[slv G g.1.length H,iv g.2]) (slv G g.1.length H) (iv g.2) (by kernel_rfl) (pu2 (slv G g.1.length H) (iv g.2) (by kernel_rfl) (aa (ab (ab (rgn (by kernel_rfl) (pu (iv i.2) (by kernel_rfl) (ifN F (fun W F=>?_) (fun W F=>?_))))))))
 ·
  refine ac (de rfl rfl (fun _=>?_) (fun h=>absurd h W))
  refine pu bT (by kernel_rfl) (sf 2 (by kernel_rfl) (pu2 bT bT (by kernel_rfl) (sf 3 (by kernel_rfl) (pu bT (by kernel_rfl) (aa (ah rfl (ab (rgn (by kernel_rfl) (pu bF (by kernel_rfl) (aa (aj ?_)))))))))))
  cases F
  exact ⟨_,Ret.r1 rfl rfl,⟨rfl,I.below⟩⟩
 refine ac (de rfl rfl (fun h=>absurd W h) (fun _=>pu bF (by kernel_rfl) (pup (iv g.2) (by kernel_rfl) (ifN F (fun X F=>?_) (fun X F=>?_)))))
 ·
  refine aw (by kernel_rfl) (de rfl rfl (fun _=>?_) (fun h=>absurd h X))
  refine pu2 bT bT (by kernel_rfl) (sf 3 (by kernel_rfl) (pu bT (by kernel_rfl) (aa (ah rfl (ab (rgn (by kernel_rfl) (pu bF (by kernel_rfl) (aa (aj ?_)))))))))
  cases F
  exact ⟨_,Ret.r1 rfl rfl,⟨rfl,I.below⟩⟩
 refine aw (by kernel_rfl) (de rfl rfl (fun h=>absurd X h) (fun _=>pu2 bF bF (by kernel_rfl) (pup (slv G g.1.length H) (by kernel_rfl) (pup (iv ((g.1.length:Nat):Int)) (by kernel_rfl) (ifN F (fun Y F=>?_) (fun Y F=>?_))))))
 ·
  refine aw (by kernel_rfl) (de rfl rfl (fun _=>?_) (fun h=>absurd h Y))
  refine pu bT (by kernel_rfl) (aa (ah rfl (ab (rgn (by kernel_rfl) (pu bF (by kernel_rfl) (aa (aj ?_)))))))
  cases F
  exact ⟨_,Ret.r1 rfl rfl,⟨rfl,I.below⟩⟩
 refine aw (by kernel_rfl) (de rfl rfl (fun h=>absurd Y h) (fun _=>pu bF (by kernel_rfl) (aa (ai rfl (ak (dn (fun ρ w=>cd ρ []∧Inv [] w0 w []∧F9j1 N=some r) ?_ ?_))))))
 ·
  refine ab (rgn (by kernel_rfl) (pu (iv 0) (by kernel_rfl) (aa (au (cb (fun m ρ w=>∃ (J:Option Nat) (x:Nat) (D:List Value) (f:Int) (mm:Nat),cd ρ [(1,iv j),(2,iv o),(9,.string (bts i.1)),(11,slv J g.1.length x),(13,iv f)]∧Inv [] w0 w [(J,blk D 35)]∧(Row 3 J (g.1.length) x D (al bb g.1))∧F9l2 o N j i g mm f=some r∧mm=m) (m:=N) ⟨G,H,aH,0,N,⟨rfl,rfl,rfl,rfl,rfl,trivial⟩,I.pk [0] rfl rfl,(aI.to rfl rfl),F,rfl⟩ ?_)))))
  rintro m ρ w ⟨J,x,D,f,mm,hag,I,O,F,hm⟩
  subst hm; obtain ⟨ρ,rfl⟩:=hag.form; clear hag
  obtain _ | m2:=mm
  ·cases (show (none:Option Bool)=some r from F)
  replace F:F9b2 o N j i g (F9l2 o N j i g m2) f=some r:=F; unfold F9b2 at F
  refine ab (ab (rgn (by kernel_rfl) (pu (iv f) (by kernel_rfl) (ifN F (fun Z F=>?_) (fun Z F=>?_)))))
  ·
   refine ac (cm rfl rfl (fun h=>absurd h Z) (fun _=>aa (ai rfl (bw (.inl ⟨rfl,⟨trivial,I.pk [] rfl rfl,F⟩⟩)))))
  refine ac (cm rfl rfl (fun _=>?_) (fun h=>absurd Z h))
  refine aa (ah rfl (ak (dn (fun ρ w=>∃ (K:Option Nat) (P:Nat) (Q:List Value),cd ρ [(1,iv j),(2,iv o),(9,.string (bts i.1)),(11,slv K g.1.length P),(13,iv f)]∧Inv [] w0 w [(K,blk Q 35)]∧(Row 3 K (g.1.length) P Q (al bb g.1))∧F9j3 (F9l2 o N j i g m2) f=some r) ?_ ?_)))
  ·
   refine au (ab (ab (rgn (by kernel_rfl) (pu3 (iv f) (slv J g.1.length x) (iv f) (by kernel_rfl) (gdE F (fun L F=>bt F (fun e C F=>?_)))))))
   obtain ⟨s,rfl,R⟩:=O.at_ bk (by decide) C
   refine ac (be (f).toNat mj mc rfl rfl (Int.toNat_of_nonneg L).symm (fa C rfl) (ac (cq I 0 [iv e.no,iv e.sz,.string (bts e.t)] me mc rfl rfl rfl R (bt F (fun b1 aJ F=>ac (bg I 25 _ _ (by kernel_rfl) (L25 _ f e N _ aJ) fun w I=>ifN F (fun a0 F=>?_) (fun a0 F=>?_)))))))
   ·
    refine ac (de rfl rfl (fun _=>?_) (fun h=>absurd h a0))
    refine pu bT (by kernel_rfl) (sf 7 (by kernel_rfl) (pu2 bT bT (by kernel_rfl) (sf 7 (by kernel_rfl) (pu bT (by kernel_rfl) (aa (ah rfl (ab (rgn (by kernel_rfl) (pu bF (by kernel_rfl) (aa (aj ?_)))))))))))
    cases F
    exact ⟨_,Ret.r1 rfl rfl,⟨rfl,I.below⟩⟩
   refine ac (de rfl rfl (fun h=>absurd a0 h) (fun _=>pu bF (by kernel_rfl) (pup (slv (some s) g.1.length x) (by kernel_rfl) (pup (iv f) (by kernel_rfl) (aw (by kernel_rfl) (be (f).toNat mj mc rfl rfl (Int.toNat_of_nonneg L).symm (fa C rfl) (pup (.pointer (some ⟨s,(f).toNat * 3,none⟩)) (by kernel_rfl) (aw (by kernel_rfl) (s_loadR1 I 0 (iv e.no) zi3 rfl rfl (R 0 _ rfl) (pup (iv j) (by kernel_rfl) (ifN F (fun a1 F=>?_) (fun a1 F=>?_))))))))))))
   ·
    refine aw (by kernel_rfl) (de rfl rfl (fun _=>?_) (fun h=>absurd h a1))
    refine pu2 bT bT (by kernel_rfl) (sf 7 (by kernel_rfl) (pu bT (by kernel_rfl) (aa (ah rfl (ab (rgn (by kernel_rfl) (pu bF (by kernel_rfl) (aa (aj ?_)))))))))
    cases F
    exact ⟨_,Ret.r1 rfl rfl,⟨rfl,I.below⟩⟩
   refine aw (by kernel_rfl) (de rfl rfl (fun h=>absurd a1 h) (fun _=>pu2 bF bF (by kernel_rfl) (pup (slv (some s) g.1.length x) (by kernel_rfl) (pup (iv f) (by kernel_rfl) (aw (by kernel_rfl) (be (f).toNat mj mc rfl rfl (Int.toNat_of_nonneg L).symm (fa C rfl) (pup (.pointer (some ⟨s,(f).toNat * 3+2,none⟩)) (by kernel_rfl) (aw (by kernel_rfl) (s_loadR1 I 0 (.string (bts e.t)) zi9 rfl rfl (R 2 _ rfl) (pup (iv (e.t.length:Int)) (by kernel_rfl) (ifE F (fun a2 F=>?_) (fun a2 F=>?_))))))))))))
   ·
    refine aw (by kernel_rfl) (di rfl rfl (fun _=>?_) (fun h=>absurd a2 h))
    refine pu bT (by kernel_rfl) (aa (ah rfl (ab (rgn (by kernel_rfl) (pu bF (by kernel_rfl) (aa (aj ?_)))))))
    cases F
    exact ⟨_,Ret.r1 rfl rfl,⟨rfl,I.below⟩⟩
   refine aw (by kernel_rfl) (di rfl rfl (fun h=>absurd h a2) (fun _=>pu bF (by kernel_rfl) (aa (ai rfl (ak (ab (rgn (by kernel_rfl) (pu2 (slv (some s) g.1.length x) (iv f) (by kernel_rfl) (ac (be (f).toNat mj mc rfl rfl (Int.toNat_of_nonneg L).symm (fa C rfl) (ac (cq I 0 [iv e.no,iv e.sz,.string (bts e.t)] me mc rfl rfl rfl R (ac (bh I _ zeroValue35 rfl fun a3 w I=>ac (mb I 0 _ mc rfl rfl rfl rfl rfl rfl fun w I=>aa (ab (gm 9 I (by kernel_rfl) (zp (.pointer (some ⟨a3,2,none⟩)) (fun _=>(by kernel_rfl)) (zc (.string (bts e.t)) (fun w I=>ag I 0 (.string (bts e.t)) zi9 rfl rfl rfl br) (zp2 (iv o) (.pointer (some ⟨a3,2,none⟩)) (fun _=>(by kernel_rfl)) (zc (.string (bts e.t)) (fun w I=>ag I 0 (.string (bts e.t)) zi9 rfl rfl rfl br) (zp (iv (e.t.length:Int)) (fun _=>(by kernel_rfl)) (bt F (fun E aK F=>zc (iv E) (fun w I=>co 63 [iv o,iv (e.t.length:Int)] (by kernel_rfl) (L63 _ o (e.t.length:Int) _ aK) (fun v' w' h=>h)) (gdE F (fun aL F=>gdE F (fun aM F=>zc (.string (bts (e.t.take (E).toNat))) (fun w I=>ej (l:=e.t) (m:=e.t.take (E).toNat) (a:=0) (b:=(E).toNat) zu9 rfl (.inr ⟨rfl,rfl⟩) (.inl (congrArg (fun z=>some (Value.int .i64 z)) (Int.toNat_of_nonneg aL).symm)) aM rfl br) (zp (.pointer (some ⟨a3,2,none⟩)) (fun _=>(by kernel_rfl)) (zh (fun w I=>ac (aq I 0 1 [.string (bts (e.t.take (E).toNat))] zs9 rfl rfl rfl rfl rfl (mx rfl) fun w I=>aa (ab (ab (rgn (by kernel_rfl) (pu (iv f) (by kernel_rfl) (ac (ma I 0 me mc rfl rfl rfl (bt F (fun b2 aN F=>ac (bg I 25 _ _ (by kernel_rfl) (L25 _ f (⟨e.no,e.sz,e.t.take (E).toNat⟩:Sp3) N _ aN) fun w I=>ifN F (fun a4 F=>?_) (fun a4 F=>?_)))))))))))))))))))))))))))))))))))))))))
   ·
    refine ac (de rfl rfl (fun _=>?_) (fun h=>absurd h a4))
    refine aa (ah rfl (ab (rgn (by kernel_rfl) (pu bF (by kernel_rfl) (aa (aj ?_))))))
    cases F
    exact ⟨_,Ret.r1 rfl rfl,⟨rfl,I.below⟩⟩
   refine ac (de rfl rfl (fun h=>absurd a4 h) (fun _=>aa (ai rfl (ak (ab (rgn (by kernel_rfl) (pu (iv 0) (by kernel_rfl) (aa (au (cb (fun m ρ w=>∃ (q:Int) (mm:Nat),cd ρ [(1,iv j),(2,iv o),(9,.string (bts i.1)),(11,slv (some s) g.1.length x),(13,iv f),(15,iv q)]∧Inv [] w0 w [(some s,blk D 35)]∧F9l4 N (F9l2 o N j i g m2) i g f e mm q=some r∧mm=m) (m:=N) ⟨0,N,⟨rfl,rfl,rfl,rfl,rfl,rfl,trivial⟩,I.pk [1] rfl rfl,F,rfl⟩ ?_))))))))))
   rintro m ρ w ⟨q,mm,hag,I,F,hm⟩
   subst hm; obtain ⟨ρ,rfl⟩:=hag.form; clear hag
   obtain _ | m4:=mm
   ·cases (show (none:Option Bool)=some r from F)
   replace F:F9b4 N (F9l2 o N j i g m2) i g f e (F9l4 N (F9l2 o N j i g m2) i g f e m4) q=some r:=F; unfold F9b4 at F
   refine ab (ab (rgn (by kernel_rfl) (pu (iv q) (by kernel_rfl) (ifN F (fun a5 F=>?_) (fun a5 F=>?_)))))
   ·
    refine ac (cm rfl rfl (fun h=>absurd h a5) (fun _=>aa (ai rfl (bw (.inl ⟨rfl,⟨some s,x,D,⟨rfl,rfl,rfl,rfl,rfl,trivial⟩,I.pk [0] rfl rfl,(O.to rfl rfl),F⟩⟩)))))
   refine ac (cm rfl rfl (fun _=>?_) (fun h=>absurd a5 h))
   refine aa (ah rfl (ak (dn (fun ρ w=>cd ρ [(1,iv j),(2,iv o),(9,.string (bts i.1)),(11,slv (some s) g.1.length x),(13,iv f),(15,iv q)]∧Inv [] w0 w [(some s,blk D 35)]∧F9j5 (F9l4 N (F9l2 o N j i g m2) i g f e m4) q=some r) ?_ ?_)))
   ·
    refine au (ab (ab (rgn (by kernel_rfl) (pu2 (iv q) (iv f) (by kernel_rfl) (ifE F (fun a6 F=>?_) (fun a6 F=>?_))))))
    ·
     refine ac (di rfl rfl (fun _=>?_) (fun h=>absurd a6 h))
     refine aa (ah rfl (bw (.inl ⟨rfl,⟨⟨rfl,rfl,rfl,rfl,rfl,rfl,trivial⟩,I.pk [0] rfl rfl,F⟩⟩)))
    refine ac (di rfl rfl (fun h=>absurd h a6) (fun _=>aa (ai rfl (ak (ab (gm 16 I (by kernel_rfl) (zp2 (iv f) (slv (some s) g.1.length x) (fun _=>(by kernel_rfl)) (zp (iv f) (fun _=>(by kernel_rfl)) ?_))))))))
    have aO:=O.atS bk (by decide) C
    refine zc (.pointer (some ⟨s,(f).toNat * 3,none⟩)) (fun w I=>be (f).toNat mj mc rfl rfl (Int.toNat_of_nonneg L).symm (fa C rfl) br) (zc (.agg #[iv e.no,iv e.sz,.string (bts e.t)]) (fun w I=>cq I 0 [iv e.no,iv e.sz,.string (bts e.t)] me mc rfl rfl rfl aO br) (zp2 (iv q) (slv (some s) g.1.length x) (fun _=>(by kernel_rfl)) (zp (iv q) (fun _=>(by kernel_rfl)) (gdE F (fun aP F=>bt F (fun A aA F=>?_))))))
    have aQ:=O.atS bk (by decide) aA
    refine zc (.pointer (some ⟨s,(q).toNat * 3,none⟩)) (fun w I=>be (q).toNat mj mc rfl rfl (Int.toNat_of_nonneg aP).symm (fa aA rfl) br) (zc (.agg #[iv A.no,iv A.sz,.string (bts A.t)]) (fun w I=>cq I 0 [iv A.no,iv A.sz,.string (bts A.t)] me mc rfl rfl rfl aQ br) (bt F (fun y aR F=>zc (.tuple #[.string (bts y.1),iv y.2]) (fun w I=>co 22 [iv f,.agg #[iv e.no,iv e.sz,.string (bts e.t)],iv q,.agg #[iv A.no,iv A.sz,.string (bts A.t)]] (by kernel_rfl) (L22 _ f e q A N _ aR) (fun v' w' h=>h)) (zp2 (.tuple #[.string (bts y.1),iv y.2]) (.string (bts y.1)) (fun _=>(by kernel_rfl)) (zp2 (iv y.2) (.string (bts y.1)) (fun _=>(by kernel_rfl)) (zp (iv y.2) (fun _=>(by kernel_rfl)) (zh (fun w I=>aa (ab (rgn (by kernel_rfl) (pu (iv y.2) (by kernel_rfl) (ifN F (fun a7 F=>?_) (fun a7 F=>?_)))))))))))))
    ·
     refine ac (de rfl rfl (fun _=>?_) (fun h=>absurd h a7))
     refine pu bT (by kernel_rfl) (sf 3 (by kernel_rfl) (pu bT (by kernel_rfl) (aa (ah rfl (ab (rgn (by kernel_rfl) (pu bF (by kernel_rfl) (aa (aj ?_)))))))))
     cases F
     exact ⟨_,Ret.r1 rfl rfl,⟨rfl,I.below⟩⟩
    refine ac (de rfl rfl (fun h=>absurd a7 h) (fun _=>pu bF (by kernel_rfl) (pup (.string (bts y.1)) (by kernel_rfl) (pup (.string (bts i.1)) (by kernel_rfl) (ifE F (fun a8 F=>?_) (fun a8 F=>?_))))))
    ·
     refine aw (by kernel_rfl) (s_strNe (a:=y.1) (b:=i.1) rfl rfl (fun h=>absurd a8 h) (fun _=>pu bF (by kernel_rfl) (aa (ai rfl (ak (.inl ⟨rfl,⟨⟨rfl,rfl,rfl,rfl,rfl,rfl,trivial⟩,I.pk [0] rfl rfl,F⟩⟩))))))
    refine aw (by kernel_rfl) (s_strNe (a:=y.1) (b:=i.1) rfl rfl (fun _=>?_) (fun h=>absurd h a8))
    refine pu bT (by kernel_rfl) (aa (ah rfl (ab (rgn (by kernel_rfl) (pu bF (by kernel_rfl) (aa (aj ?_)))))))
    cases F
    exact ⟨_,Ret.r1 rfl rfl,⟨rfl,I.below⟩⟩
   intro ρ w hJ
   obtain ⟨hag,I,F⟩:=hJ
   obtain ⟨ρ,rfl⟩:=hag.form; clear hag
   unfold F9j5 at F
   refine rgn (by kernel_rfl) (pu (iv q) (by kernel_rfl) (ckE F (fun aS F=>ac (cj rfl rfl aS (pu (iv (q+1)) (by kernel_rfl) (aa (⟨rfl,m4,Nat.lt_succ_self _,⟨q+1,m4,⟨rfl,rfl,rfl,rfl,rfl,rfl,trivial⟩,I.pk [0] rfl rfl,F,rfl⟩⟩)))))))
  intro ρ w hJ
  obtain ⟨K,P,Q,hag,I,aT,F⟩:=hJ
  obtain ⟨ρ,rfl⟩:=hag.form; clear hag
  unfold F9j3 at F
  refine rgn (by kernel_rfl) (pu (iv f) (by kernel_rfl) (ckE F (fun aU F=>ac (cj rfl rfl aU (pu (iv (f+1)) (by kernel_rfl) (aa (⟨rfl,m2,Nat.lt_succ_self _,⟨K,P,Q,f+1,m2,⟨rfl,rfl,rfl,rfl,rfl,trivial⟩,I.pk [0] rfl rfl,(aT.to rfl rfl),F,rfl⟩⟩)))))))
 intro ρ w hJ
 obtain ⟨hag,I,F⟩:=hJ
 obtain ⟨ρ,rfl⟩:=hag.form; clear hag
 unfold F9j1 at F
 refine ab (rgn (by kernel_rfl) (bt F (fun aV aW F=>ac (bg I 19 _ _ (by kernel_rfl) (L19 _ (hG.up I) N _ aW) fun w I=>pu (.bool aV) (by kernel_rfl) (aa (aj ?_))))))
 cases F
 exact ⟨_,Ret.r1 rfl rfl,⟨rfl,I.below⟩⟩
end Go.K
