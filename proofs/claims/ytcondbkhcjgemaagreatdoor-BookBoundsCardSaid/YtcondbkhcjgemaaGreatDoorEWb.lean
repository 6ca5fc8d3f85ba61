import Derived.Test.YtcondbkhcjgemaaGreatDoorEWa
namespace Go.K
open Go.Proofs.Tryz
open Go.Proofs Go.RowKit
set_option linter.unusedVariables false
set_option linter.unusedSimpArgs false
set_option maxRecDepth 100000
attribute [local irreducible] Seq cw cx fl opX
theorem L22 (w0:World) (q:Int) (d:Sp3) (s:Int) (i:Sp3) (N:Nat) (r:(Str × Int)) (F:F22 N q d s i=some r):bn Tryz.prog 22 [iv q,.agg (qh d).toArray,iv s,.agg (qh i).toArray] w0 fun v w=>v=.tuple #[uE r.1,iv r.2]∧Below w0.heap.size w0 w:=by
 refine az (n:=61) func22 rfl ntmps22 rfl ?_
 have I:=Inv.start w0
 unfold F22 at F
 refine uL rfl (ph (ca I _ rfl fun o w I=>ph (ca I _ rfl fun p w I=>pu2 (uE []) (iv 0) rfl (aa (ab (uL rfl (pu (iv q) rfl (bt F (fun dZ b6 F=>ifN F (fun aK F=>?_) (fun aK F=>?_))))))))))
 ·
  refine ph (bg I 90 _ _ (by kernel_rfl) (bn.mono (L90 _ q _ b6) (uH (Bool.eq_false_iff.2 aK))) fun w I=>pu2 bT bT (by kernel_rfl) (sf 3 (by kernel_rfl) (pu2 bT bT (by kernel_rfl) (sf 3 (by kernel_rfl) (pu bT (by kernel_rfl) (aa (ah rfl (uL (by kernel_rfl) (pu2 (uE []) (iv 1) (by kernel_rfl) (aa (aj ?_)))))))))))
  cases F
  exact ⟨_,Ret.r2 rfl rfl rfl,⟨rfl,I.below⟩⟩


 refine ph (bg I 90 _ _ (by kernel_rfl) (bn.mono (L90 _ q _ b6) (uH aK)) fun w I=>pu2 bF bF (by kernel_rfl) (pup (iv s) (by kernel_rfl) (bt F (fun e0 b7 F=>ifN F (fun aL F=>?_) (fun aL F=>?_)))))
 ·
  refine aw (by kernel_rfl) (bg I 90 _ _ (by kernel_rfl) (bn.mono (L90 _ s _ b7) (uH (Bool.eq_false_iff.2 aL))) fun w I=>pup bT (by kernel_rfl) (pu2 bT bT (by kernel_rfl) (sf 3 (by kernel_rfl) (pu bT (by kernel_rfl) (aa (ah rfl (uL (by kernel_rfl) (pu2 (uE []) (iv 1) (by kernel_rfl) (aa (aj ?_))))))))))
  cases F
  exact ⟨_,Ret.r2 rfl rfl rfl,⟨rfl,I.below⟩⟩
 refine aw (by kernel_rfl) (bg I 90 _ _ (by kernel_rfl) (bn.mono (L90 _ s _ b7) (uH aL)) fun w I=>pup bF (by kernel_rfl) (pu2 bF bF (by kernel_rfl) (pup (iv q) (by kernel_rfl) (pup (iv s) (by kernel_rfl) (ifE F (fun aM F=>?_) (fun aM F=>?_))))))
 ·
  refine aw rfl (di rfl rfl (fun _=>?_) (uO aM))
  refine pu bT rfl (aa (ah rfl (uL rfl (pu2 (uE []) (iv 1) rfl (aa (aj ?_))))))
  cases F
  exact ⟨_,Ret.r2 rfl rfl rfl,⟨rfl,I.below⟩⟩
 refine aw rfl (di rfl rfl (uP aM) (fun _=>pu bF rfl (aa (ai rfl (ak (ab (uL rfl (pu (iv q) rfl (xm I 1 me mc rfl (bt F (fun e1 b8 F=>ifN F (fun aN F=>?_) (fun aN F=>?_))))))))))))
 ·
  refine ph (bg I 91 _ _ (by kernel_rfl) (bn.mono (L91 _ q d N _ b8) (uH (Bool.eq_false_iff.2 aN))) fun w I=>pu2 bT bT (by kernel_rfl) (sf 4 (by kernel_rfl) (pu2 bT bT (by kernel_rfl) (sf 5 (by kernel_rfl) (pu2 bT bT (by kernel_rfl) (sf 5 (by kernel_rfl) (pu bT (by kernel_rfl) (aa (ah rfl (uL (by kernel_rfl) (pu2 (uE []) (iv 84) (by kernel_rfl) (aa (aj ?_)))))))))))))
  cases F
  exact ⟨_,Ret.r2 rfl rfl rfl,⟨rfl,I.below⟩⟩
 refine ph (bg I 91 _ _ (by kernel_rfl) (bn.mono (L91 _ q d N _ b8) (uH aN)) fun w I=>pu2 bF bF (by kernel_rfl) (pup (iv s) (by kernel_rfl) (aw rfl (ma I 0 me mc rfl rfl rfl (bt F (fun e2 b9 F=>ifN F (fun aO F=>?_) (fun aO F=>?_)))))))
 ·
  refine aw (by kernel_rfl) (bg I 91 _ _ (by kernel_rfl) (bn.mono (L91 _ s i N _ b9) (uH (Bool.eq_false_iff.2 aO))) fun w I=>pup bT (by kernel_rfl) (pu2 bT bT (by kernel_rfl) (sf 5 (by kernel_rfl) (pu2 bT bT rfl (sf 5 rfl (pu bT rfl (aa (ah rfl (uL rfl (pu2 (uE []) (iv 84) rfl (aa (aj ?_))))))))))))
  cases F
  exact ⟨_,Ret.r2 rfl rfl rfl,⟨rfl,I.below⟩⟩
 refine aw (by kernel_rfl) (bg I 91 _ _ (by kernel_rfl) (bn.mono (L91 _ s i N _ b9) (uH aO)) fun w I=>pup bF (by kernel_rfl) (pu2 bF bF rfl (pup (pt o) rfl (aw rfl (ag I 1 (iv d.no) zi3 rfl rfl rfl (pup (pt p) rfl (aw rfl (ag I 0 (iv i.no) zi3 rfl rfl rfl (ifN F (fun aP F=>?_) (fun aP F=>?_))))))))))
 ·
  refine aw rfl (de rfl rfl (fun _=>?_) (uP aP))
  refine pu2 bT bT rfl (sf 5 rfl (pu bT rfl (aa (ah rfl (uL rfl (pu2 (uE []) (iv 84) rfl (aa (aj ?_))))))))
  cases F
  exact ⟨_,Ret.r2 rfl rfl rfl,⟨rfl,I.below⟩⟩
 refine aw rfl (de rfl rfl (uO aP) (fun _=>pu2 bF bF rfl (pup (uF o 1) rfl (aw rfl (ag I 1 (iv d.sz) zi3 rfl rfl rfl (pup (uF p 1) rfl (aw rfl (ag I 0 (iv i.sz) zi3 rfl rfl rfl (ifN F (fun aQ F=>?_) (fun aQ F=>?_))))))))))
 ·
  refine aw rfl (de rfl rfl (fun _=>?_) (uP aQ))
  refine pu bT rfl (aa (ah rfl (uL rfl (pu2 (uE []) (iv 84) rfl (aa (aj ?_))))))
  cases F
  exact ⟨_,Ret.r2 rfl rfl rfl,⟨rfl,I.below⟩⟩
 refine aw rfl (de rfl rfl (uO aQ) (fun _=>pu bF rfl (aa (ai rfl (ak (uL rfl (ph (bh I _ zeroValue149 rfl fun j w I=>aa (ab (bt F (fun e u F=>bt F (fun f x F=>ifE F (fun aH F=>?_) (fun aH F=>?_)))))))))))))
 ·
  refine ifE F (fun bA F=>?_) (fun bA F=>?_)
  ·
   refine kx [tv (fun _=>(iv q)),tv (fun _=>(iv s)),tr (fun _=>(.agg (qh d).toArray)) [12],⟨fun y=>(slv ((y 3).g 0) e.length ((y 3).c 0)),fun y=>[(((y 3).g 0),blk ((y 3).cl 0) 5)],fun y=>(Row 1 ((y 3).g 0) e.length ((y 3).c 0) ((y 3).cl 0) (al eB e)),[],[]⟩,tr (fun _=>(.agg (qh i).toArray)) [11],⟨fun y=>(slv ((y 5).g 0) f.length ((y 5).c 0)),fun y=>[(((y 5).g 0),blk ((y 5).cl 0) 5)],fun y=>(Row 1 ((y 5).g 0) f.length ((y 5).c 0) ((y 5).cl 0) (al eB f)),[],[]⟩,tr (fun _=>(pt j)) [],tst (fun y=>[(some j,blk [slv ((y 3).g 0) e.length ((y 3).c 0),uD,uD] 149)]) 10,tr (fun _=>(pt j)) [],tst (fun y=>[(some j,blk [slv ((y 5).g 0) f.length ((y 5).c 0),uD,uD] 149)]) 7] (fun _=>[(5,pt o),(10,pt j)]) (fun y=>[(((y 3).g 0),blk ((y 3).cl 0) 5),(((y 5).g 0),blk ((y 5).cl 0) 5),(some j,blk [slv ((y 5).g 0) f.length ((y 5).c 0),uD,uD] 149),(some p,blk (qh i) 35),(some o,blk (qh d) 35)]) I (by kernel_rfl) (fun y=>⟨rfl,rfl⟩) (fun y=>?_) ?_
   ·
    refine tt rfl rfl (tt rfl rfl (tl1 [(some o,blk (qh d) 35)] rfl rfl (fun X w I=>ma I 0 me mc rfl rfl rfl br) (tg (slv ((y 3).g 0) e.length ((y 3).c 0)) [] [] rfl ⟨rfl,rfl,rfl⟩ ?_ ?_)))
    ·intro hp X w I
     refine co 92 _ (by kernel_rfl) (L92 _ d _ u) ?_
     rintro v w ⟨bB,bC,bD,rfl,hN,bE⟩
     have I:=I.join hN; clear hN
     exact ⟨wit 0 [bB] [bC] [bD] [],rfl,Eq.mp rfl bE,I.castL rfl⟩
    refine tl1 [(some p,blk (qh i) 35)] rfl rfl (fun X w I=>ma I 0 me mc rfl rfl rfl br) (tg (slv ((y 5).g 0) f.length ((y 5).c 0)) [] [] rfl ⟨rfl,rfl,rfl⟩ ?_ ?_)
    ·intro hp X w I
     refine co 92 _ (by kernel_rfl) (L92 _ i _ x) ?_
     rintro v w ⟨aR,S,bG,rfl,hN,A⟩
     have I:=I.join hN; clear hN
     exact ⟨wit 0 [aR] [S] [bG] [],rfl,Eq.mp rfl A,I.castL rfl⟩
    refine tl0 rfl (fun X w I=>av 0 zu149 mn rfl rfl aH (by decide) 0 rfl br) (tS [(some j,blk [uD,uD,uD] 149)] rfl ⟨rfl,rfl⟩ (fun X w I=>aq I 0 1 [slv ((y 3).g 0) e.length ((y 3).c 0)] mn rfl rfl rfl rfl rfl (mx rfl) fun w I=>⟨rfl,I.castL rfl⟩) (tl0 rfl (fun X w I=>av 0 zu149 mn rfl rfl bA (by decide) 0 rfl br) (tS [(some j,blk [slv ((y 3).g 0) e.length ((y 3).c 0),uD,uD] 149)] rfl ⟨rfl,rfl⟩ (fun X w I=>aq I 0 1 [slv ((y 5).g 0) f.length ((y 5).c 0)] mn rfl rfl rfl rfl rfl (mx rfl) fun w I=>⟨rfl,I.castL rfl⟩) (tn))))
   intro y hp ρ w hag I
   have bE:Row 1 ((y 3).g 0) e.length ((y 3).c 0) ((y 3).cl 0) (al eB e):=pgl hp (k:=3) (by decide) rfl
   have A:Row 1 ((y 5).g 0) f.length ((y 5).c 0) ((y 5).cl 0) (al eB f):=pgl hp (k:=5) (by decide) rfl
   clear hp
   generalize (y 3).g 0=bB at *
   generalize (y 3).c 0=bC at *
   generalize (y 3).cl 0=bD at *
   generalize (y 5).g 0=aR at *
   generalize (y 5).c 0=S at *
   generalize (y 5).cl 0=bG at *
   obtain ⟨ρ,rfl⟩:=hag.form
   refine ab (gm 7 I (by kernel_rfl) (zc (.agg #[uN aR f S,uD,uD]) (fun w I=>ma I 2 zi149 zs149 rfl rfl rfl br) (gdE F (fun cT F=>?_))))
   obtain ⟨bH,rfl⟩:=A.some_ (ll rfl cT)
   refine bt F (fun T cU F=>zc (uE T) (fun w I=>co 93 [.agg #[uN (some bH) f S,uD,uD]] (by kernel_rfl) (L93 _ ((some bH).map fun b=>⟨b,0,none⟩) S f false none 0 [] true none 0 [] true (I.rowCells 1 rfl A) (am rfl A.big) (am rfl A.cap) rfl bi.nil0 (by decide) (Nat.le_refl _) rfl bi.nil0 (by decide) (Nat.le_refl _) rfl N _ cU) uI) (zP (uF o 1) rfl (zg 4 (iv d.sz) zi3 rfl (gdE F (fun cV F=>gdE F (fun cW F=>zc (uE (T.take ((d.sz).toNat))) (fun w I=>nq (l:=T) (m:=T.take ((d.sz).toNat)) (a:=0) (b:=(d.sz).toNat) zu9 rfl (.inr ⟨rfl,rfl⟩) (.inl (congrArg (fun z=>some (Value.int .i64 z)) (Int.toNat_of_nonneg cV).symm)) cW rfl br) (zB (uE (T.take ((d.sz).toNat))) (iv 0) rfl (zh (fun w I=>aa (aj ?_))))))))))
   cases F
   exact ⟨_,Ret.r2 rfl rfl rfl,⟨rfl,I.below⟩⟩
  refine ifE F (fun bI F=>?_) (fun bI F=>?_)
  ·
   refine kx [tv (fun _=>(iv q)),tv (fun _=>(iv s)),tr (fun _=>(.agg (qh d).toArray)) [12],⟨fun y=>(slv ((y 3).g 0) e.length ((y 3).c 0)),fun y=>[(((y 3).g 0),blk ((y 3).cl 0) 5)],fun y=>(Row 1 ((y 3).g 0) e.length ((y 3).c 0) ((y 3).cl 0) (al eB e)),[],[]⟩,tr (fun _=>(.agg (qh i).toArray)) [11],⟨fun y=>(slv ((y 5).g 0) f.length ((y 5).c 0)),fun y=>[(((y 5).g 0),blk ((y 5).cl 0) 5)],fun y=>(Row 1 ((y 5).g 0) f.length ((y 5).c 0) ((y 5).cl 0) (al eB f)),[],[]⟩,tr (fun _=>(pt j)) [],tst (fun y=>[(some j,blk [slv ((y 3).g 0) e.length ((y 3).c 0),uD,uD] 149)]) 10,tr (fun _=>(uF j 1)) [],tst (fun y=>[(some j,blk [slv ((y 3).g 0) e.length ((y 3).c 0),slv ((y 5).g 0) f.length ((y 5).c 0),uD] 149)]) 7] (fun _=>[(5,pt o),(10,pt j)]) (fun y=>[(((y 3).g 0),blk ((y 3).cl 0) 5),(((y 5).g 0),blk ((y 5).cl 0) 5),(some j,blk [slv ((y 3).g 0) e.length ((y 3).c 0),slv ((y 5).g 0) f.length ((y 5).c 0),uD] 149),(some p,blk (qh i) 35),(some o,blk (qh d) 35)]) I (by kernel_rfl) (fun y=>⟨rfl,rfl⟩) (fun y=>?_) ?_
   ·
    refine tt rfl rfl (tt rfl rfl (tl1 [(some o,blk (qh d) 35)] rfl rfl (fun X w I=>ma I 0 me mc rfl rfl rfl br) (tg (slv ((y 3).g 0) e.length ((y 3).c 0)) [] [] rfl ⟨rfl,rfl,rfl⟩ ?_ ?_)))
    ·intro hp X w I
     refine co 92 _ (by kernel_rfl) (L92 _ d _ u) ?_
     rintro v w ⟨aS,U,bJ,rfl,hN,B⟩
     have I:=I.join hN; clear hN
     exact ⟨wit 0 [aS] [U] [bJ] [],rfl,Eq.mp rfl B,I.castL rfl⟩
    refine tl1 [(some p,blk (qh i) 35)] rfl rfl (fun X w I=>ma I 0 me mc rfl rfl rfl br) (tg (slv ((y 5).g 0) f.length ((y 5).c 0)) [] [] rfl ⟨rfl,rfl,rfl⟩ ?_ ?_)
    ·intro hp X w I
     refine co 92 _ (by kernel_rfl) (L92 _ i _ x) ?_
     rintro v w ⟨aT,V,bK,rfl,hN,C⟩
     have I:=I.join hN; clear hN
     exact ⟨wit 0 [aT] [V] [bK] [],rfl,Eq.mp rfl C,I.castL rfl⟩
    refine tl0 rfl (fun X w I=>av 0 zu149 mn rfl rfl aH (by decide) 0 rfl br) (tS [(some j,blk [uD,uD,uD] 149)] rfl ⟨rfl,rfl⟩ (fun X w I=>aq I 0 1 [slv ((y 3).g 0) e.length ((y 3).c 0)] mn rfl rfl rfl rfl rfl (mx rfl) fun w I=>⟨rfl,I.castL rfl⟩) (tl0 rfl (fun X w I=>av 1 zu149 mn rfl rfl bI (by decide) 1 rfl br) (tS [(some j,blk [slv ((y 3).g 0) e.length ((y 3).c 0),uD,uD] 149)] rfl ⟨rfl,rfl⟩ (fun X w I=>aq I 0 1 [slv ((y 5).g 0) f.length ((y 5).c 0)] mn rfl rfl rfl rfl rfl (mx rfl) fun w I=>⟨rfl,I.castL rfl⟩) (tn))))
   intro y hp ρ w hag I
   have B:Row 1 ((y 3).g 0) e.length ((y 3).c 0) ((y 3).cl 0) (al eB e):=pgl hp (k:=3) (by decide) rfl
   have C:Row 1 ((y 5).g 0) f.length ((y 5).c 0) ((y 5).cl 0) (al eB f):=pgl hp (k:=5) (by decide) rfl
   clear hp
   generalize (y 3).g 0=aS at *
   generalize (y 3).c 0=U at *
   generalize (y 3).cl 0=bJ at *
   generalize (y 5).g 0=aT at *
   generalize (y 5).c 0=V at *
   generalize (y 5).cl 0=bK at *
   obtain ⟨ρ,rfl⟩:=hag.form
   refine ab (gm 7 I (by kernel_rfl) (zc (.agg #[uN aS e U,uN aT f V,uD]) (fun w I=>ma I 2 zi149 zs149 rfl rfl rfl br) (gdE F (fun cX F=>?_))))
   obtain ⟨bL,rfl⟩:=B.some_ (ll rfl cX)
   refine gdE F (fun cY F=>?_)
   obtain ⟨bM,rfl⟩:=C.some_ (ll rfl cY)
   refine bt F (fun W cZ F=>zc (uE W) (fun w I=>co 93 [.agg #[uN (some bL) e U,uN (some bM) f V,uD]] (by kernel_rfl) (L93 _ ((some bL).map fun b=>⟨b,0,none⟩) U e false ((some bM).map fun b=>⟨b,0,none⟩) V f false none 0 [] true (I.rowCells 0 rfl B) (am rfl B.big) (am rfl B.cap) rfl (I.rowCells 1 rfl C) (am rfl C.big) (am rfl C.cap) rfl bi.nil0 (by decide) (Nat.le_refl _) rfl N _ cZ) uI) (zP (uF o 1) rfl (zg 4 (iv d.sz) zi3 rfl (gdE F (fun d0 F=>gdE F (fun d1 F=>zc (uE (W.take ((d.sz).toNat))) (fun w I=>nq (l:=W) (m:=W.take ((d.sz).toNat)) (a:=0) (b:=(d.sz).toNat) zu9 rfl (.inr ⟨rfl,rfl⟩) (.inl (congrArg (fun z=>some (Value.int .i64 z)) (Int.toNat_of_nonneg d0).symm)) d1 rfl br) (zB (uE (W.take ((d.sz).toNat))) (iv 0) rfl (zh (fun w I=>aa (aj ?_))))))))))
   cases F
   exact ⟨_,Ret.r2 rfl rfl rfl,⟨rfl,I.below⟩⟩
  refine ifN F (fun bN F=>?_) (fun bN F=>?_)
  ·
   cases F
  refine kx [tv (fun _=>(iv q)),tv (fun _=>(iv s)),tr (fun _=>(.agg (qh d).toArray)) [12],⟨fun y=>(slv ((y 3).g 0) e.length ((y 3).c 0)),fun y=>[(((y 3).g 0),blk ((y 3).cl 0) 5)],fun y=>(Row 1 ((y 3).g 0) e.length ((y 3).c 0) ((y 3).cl 0) (al eB e)),[],[]⟩,tr (fun _=>(.agg (qh i).toArray)) [11],⟨fun y=>(slv ((y 5).g 0) f.length ((y 5).c 0)),fun y=>[(((y 5).g 0),blk ((y 5).cl 0) 5)],fun y=>(Row 1 ((y 5).g 0) f.length ((y 5).c 0) ((y 5).cl 0) (al eB f)),[],[]⟩,tr (fun _=>(pt j)) [],tst (fun y=>[(some j,blk [slv ((y 3).g 0) e.length ((y 3).c 0),uD,uD] 149)]) 10,tr (fun _=>(uF j 2)) [],tst (fun y=>[(some j,blk [slv ((y 3).g 0) e.length ((y 3).c 0),uD,slv ((y 5).g 0) f.length ((y 5).c 0)] 149)]) 7] (fun _=>[(5,pt o),(10,pt j)]) (fun y=>[(((y 3).g 0),blk ((y 3).cl 0) 5),(((y 5).g 0),blk ((y 5).cl 0) 5),(some j,blk [slv ((y 3).g 0) e.length ((y 3).c 0),uD,slv ((y 5).g 0) f.length ((y 5).c 0)] 149),(some p,blk (qh i) 35),(some o,blk (qh d) 35)]) I (by kernel_rfl) (fun y=>⟨rfl,rfl⟩) (fun y=>?_) ?_
  ·
   refine tt rfl rfl (tt rfl rfl (tl1 [(some o,blk (qh d) 35)] rfl rfl (fun X w I=>ma I 0 me mc rfl rfl rfl br) (tg (slv ((y 3).g 0) e.length ((y 3).c 0)) [] [] rfl ⟨rfl,rfl,rfl⟩ ?_ ?_)))
   ·intro hp X w I
    refine co 92 _ (by kernel_rfl) (L92 _ d _ u) ?_
    rintro v w ⟨aU,Y,bO,rfl,hN,D⟩
    have I:=I.join hN; clear hN
    exact ⟨wit 0 [aU] [Y] [bO] [],rfl,Eq.mp rfl D,I.castL rfl⟩
   refine tl1 [(some p,blk (qh i) 35)] rfl rfl (fun X w I=>ma I 0 me mc rfl rfl rfl br) (tg (slv ((y 5).g 0) f.length ((y 5).c 0)) [] [] rfl ⟨rfl,rfl,rfl⟩ ?_ ?_)
   ·intro hp X w I
    refine co 92 _ (by kernel_rfl) (L92 _ i _ x) ?_
    rintro v w ⟨aV,Z,bP,rfl,hN,E⟩
    have I:=I.join hN; clear hN
    exact ⟨wit 0 [aV] [Z] [bP] [],rfl,Eq.mp rfl E,I.castL rfl⟩
   refine tl0 rfl (fun X w I=>av 0 zu149 mn rfl rfl aH (by decide) 0 rfl br) (tS [(some j,blk [uD,uD,uD] 149)] rfl ⟨rfl,rfl⟩ (fun X w I=>aq I 0 1 [slv ((y 3).g 0) e.length ((y 3).c 0)] mn rfl rfl rfl rfl rfl (mx rfl) fun w I=>⟨rfl,I.castL rfl⟩) (tl0 rfl (fun X w I=>av 2 zu149 mn rfl rfl bN (by decide) 2 rfl br) (tS [(some j,blk [slv ((y 3).g 0) e.length ((y 3).c 0),uD,uD] 149)] rfl ⟨rfl,rfl⟩ (fun X w I=>aq I 0 1 [slv ((y 5).g 0) f.length ((y 5).c 0)] mn rfl rfl rfl rfl rfl (mx rfl) fun w I=>⟨rfl,I.castL rfl⟩) (tn))))
  intro y hp ρ w hag I
  have D:Row 1 ((y 3).g 0) e.length ((y 3).c 0) ((y 3).cl 0) (al eB e):=pgl hp (k:=3) (by decide) (by kernel_rfl)
  have E:Row 1 ((y 5).g 0) f.length ((y 5).c 0) ((y 5).cl 0) (al eB f):=pgl hp (k:=5) (by decide) rfl
  clear hp
  generalize (y 3).g 0=aU at *
  generalize (y 3).c 0=Y at *
  generalize (y 3).cl 0=bO at *
  generalize (y 5).g 0=aV at *
  generalize (y 5).c 0=Z at *
  generalize (y 5).cl 0=bP at *
  obtain ⟨ρ,rfl⟩:=hag.form
  refine ab (gm 7 I (by kernel_rfl) (zc (.agg #[uN aU e Y,uD,uN aV f Z]) (fun w I=>ma I 2 zi149 zs149 rfl rfl rfl br) (gdE F (fun d2 F=>?_))))
  obtain ⟨bQ,rfl⟩:=D.some_ (ll rfl d2)
  refine gdE F (fun d3 F=>?_)
  obtain ⟨bR,rfl⟩:=E.some_ (ll rfl d3)
  refine bt F (fun a0 d4 F=>zc (uE a0) (fun w I=>co 93 [.agg #[uN (some bQ) e Y,uD,uN (some bR) f Z]] (by kernel_rfl) (L93 _ ((some bQ).map fun b=>⟨b,0,none⟩) Y e false none 0 [] true ((some bR).map fun b=>⟨b,0,none⟩) Z f false (I.rowCells 0 rfl D) (am rfl D.big) (am rfl D.cap) rfl bi.nil0 (by decide) (Nat.le_refl _) rfl (I.rowCells 1 rfl E) (am rfl E.big) (am rfl E.cap) rfl N _ d4) uI) (zP (uF o 1) rfl (zg 4 (iv d.sz) zi3 rfl (gdE F (fun d5 F=>gdE F (fun d6 F=>zc (uE (a0.take ((d.sz).toNat))) (fun w I=>nq (l:=a0) (m:=a0.take ((d.sz).toNat)) (a:=0) (b:=(d.sz).toNat) zu9 rfl (.inr ⟨rfl,rfl⟩) (.inl (congrArg (fun z=>some (Value.int .i64 z)) (Int.toNat_of_nonneg d5).symm)) d6 rfl br) (zB (uE (a0.take ((d.sz).toNat))) (iv 0) rfl (zh (fun w I=>aa (aj ?_))))))))))
  cases F
  exact ⟨_,Ret.r2 rfl rfl rfl,⟨rfl,I.below⟩⟩
 refine ifE F (fun aI F=>?_) (fun aI F=>?_)
 ·
  refine ifE F (fun bS F=>?_) (fun bS F=>?_)
  ·
   refine kx [tv (fun _=>(iv q)),tv (fun _=>(iv s)),tr (fun _=>(.agg (qh d).toArray)) [12],⟨fun y=>(slv ((y 3).g 0) e.length ((y 3).c 0)),fun y=>[(((y 3).g 0),blk ((y 3).cl 0) 5)],fun y=>(Row 1 ((y 3).g 0) e.length ((y 3).c 0) ((y 3).cl 0) (al eB e)),[],[]⟩,tr (fun _=>(.agg (qh i).toArray)) [11],⟨fun y=>(slv ((y 5).g 0) f.length ((y 5).c 0)),fun y=>[(((y 5).g 0),blk ((y 5).cl 0) 5)],fun y=>(Row 1 ((y 5).g 0) f.length ((y 5).c 0) ((y 5).cl 0) (al eB f)),[],[]⟩,tr (fun _=>(uF j 1)) [],tst (fun y=>[(some j,blk [uD,slv ((y 3).g 0) e.length ((y 3).c 0),uD] 149)]) 10,tr (fun _=>(pt j)) [],tst (fun y=>[(some j,blk [slv ((y 5).g 0) f.length ((y 5).c 0),slv ((y 3).g 0) e.length ((y 3).c 0),uD] 149)]) 7] (fun _=>[(5,pt o),(10,pt j)]) (fun y=>[(((y 3).g 0),blk ((y 3).cl 0) 5),(((y 5).g 0),blk ((y 5).cl 0) 5),(some j,blk [slv ((y 5).g 0) f.length ((y 5).c 0),slv ((y 3).g 0) e.length ((y 3).c 0),uD] 149),(some p,blk (qh i) 35),(some o,blk (qh d) 35)]) I (by kernel_rfl) (fun y=>⟨rfl,rfl⟩) (fun y=>?_) ?_
   ·
    refine tt rfl rfl (tt rfl rfl (tl1 [(some o,blk (qh d) 35)] rfl rfl (fun X w I=>ma I 0 me mc rfl rfl rfl br) (tg (slv ((y 3).g 0) e.length ((y 3).c 0)) [] [] rfl ⟨rfl,rfl,rfl⟩ ?_ ?_)))
    ·intro hp X w I
     refine co 92 _ (by kernel_rfl) (L92 _ d _ u) ?_
     rintro v w ⟨aW,a1,bU,rfl,hN,G⟩
     have I:=I.join hN; clear hN
     exact ⟨wit 0 [aW] [a1] [bU] [],rfl,Eq.mp rfl G,I.castL rfl⟩
    refine tl1 [(some p,blk (qh i) 35)] rfl rfl (fun X w I=>ma I 0 me mc rfl rfl rfl br) (tg (slv ((y 5).g 0) f.length ((y 5).c 0)) [] [] rfl ⟨rfl,rfl,rfl⟩ ?_ ?_)
    ·intro hp X w I
     refine co 92 _ (by kernel_rfl) (L92 _ i _ x) ?_
     rintro v w ⟨aX,a2,bV,rfl,hN,H⟩
     have I:=I.join hN; clear hN
     exact ⟨wit 0 [aX] [a2] [bV] [],rfl,Eq.mp rfl H,I.castL rfl⟩
    refine tl0 rfl (fun X w I=>av 1 zu149 mn rfl rfl aI (by decide) 1 rfl br) (tS [(some j,blk [uD,uD,uD] 149)] rfl ⟨rfl,rfl⟩ (fun X w I=>aq I 0 1 [slv ((y 3).g 0) e.length ((y 3).c 0)] mn rfl rfl rfl rfl rfl (mx rfl) fun w I=>⟨rfl,I.castL rfl⟩) (tl0 rfl (fun X w I=>av 0 zu149 mn rfl rfl bS (by decide) 0 rfl br) (tS [(some j,blk [uD,slv ((y 3).g 0) e.length ((y 3).c 0),uD] 149)] rfl ⟨rfl,rfl⟩ (fun X w I=>aq I 0 1 [slv ((y 5).g 0) f.length ((y 5).c 0)] mn rfl rfl rfl rfl rfl (mx rfl) fun w I=>⟨rfl,I.castL rfl⟩) (tn))))
   intro y hp ρ w hag I
   have G:Row 1 ((y 3).g 0) e.length ((y 3).c 0) ((y 3).cl 0) (al eB e):=pgl hp (k:=3) (by decide) rfl
   have H:Row 1 ((y 5).g 0) f.length ((y 5).c 0) ((y 5).cl 0) (al eB f):=pgl hp (k:=5) (by decide) rfl
   clear hp
   generalize (y 3).g 0=aW at *
   generalize (y 3).c 0=a1 at *
   generalize (y 3).cl 0=bU at *
   generalize (y 5).g 0=aX at *
   generalize (y 5).c 0=a2 at *
   generalize (y 5).cl 0=bV at *
   obtain ⟨ρ,rfl⟩:=hag.form
   refine ab (gm 7 I (by kernel_rfl) (zc (.agg #[uN aX f a2,uN aW e a1,uD]) (fun w I=>ma I 2 zi149 zs149 rfl rfl rfl br) (gdE F (fun d7 F=>?_))))
   obtain ⟨bW,rfl⟩:=H.some_ (ll rfl d7)
   refine gdE F (fun d8 F=>?_)
   obtain ⟨bX,rfl⟩:=G.some_ (ll rfl d8)
   refine bt F (fun a3 d9 F=>zc (uE a3) (fun w I=>co 93 [.agg #[uN (some bW) f a2,uN (some bX) e a1,uD]] (by kernel_rfl) (L93 _ ((some bW).map fun b=>⟨b,0,none⟩) a2 f false ((some bX).map fun b=>⟨b,0,none⟩) a1 e false none 0 [] true (I.rowCells 1 rfl H) (am rfl H.big) (am rfl H.cap) rfl (I.rowCells 0 rfl G) (am rfl G.big) (am rfl G.cap) rfl bi.nil0 (by decide) (Nat.le_refl _) rfl N _ d9) uI) (zP (uF o 1) rfl (zg 4 (iv d.sz) zi3 rfl (gdE F (fun dA F=>gdE F (fun dB F=>zc (uE (a3.take ((d.sz).toNat))) (fun w I=>nq (l:=a3) (m:=a3.take ((d.sz).toNat)) (a:=0) (b:=(d.sz).toNat) zu9 rfl (.inr ⟨rfl,rfl⟩) (.inl (congrArg (fun z=>some (Value.int .i64 z)) (Int.toNat_of_nonneg dA).symm)) dB rfl br) (zB (uE (a3.take ((d.sz).toNat))) (iv 0) rfl (zh (fun w I=>aa (aj ?_))))))))))
   cases F
   exact ⟨_,Ret.r2 rfl rfl rfl,⟨rfl,I.below⟩⟩
  refine ifE F (fun bY F=>?_) (fun bY F=>?_)
  ·
   refine kx [tv (fun _=>(iv q)),tv (fun _=>(iv s)),tr (fun _=>(.agg (qh d).toArray)) [12],⟨fun y=>(slv ((y 3).g 0) e.length ((y 3).c 0)),fun y=>[(((y 3).g 0),blk ((y 3).cl 0) 5)],fun y=>(Row 1 ((y 3).g 0) e.length ((y 3).c 0) ((y 3).cl 0) (al eB e)),[],[]⟩,tr (fun _=>(.agg (qh i).toArray)) [11],⟨fun y=>(slv ((y 5).g 0) f.length ((y 5).c 0)),fun y=>[(((y 5).g 0),blk ((y 5).cl 0) 5)],fun y=>(Row 1 ((y 5).g 0) f.length ((y 5).c 0) ((y 5).cl 0) (al eB f)),[],[]⟩,tr (fun _=>(uF j 1)) [],tst (fun y=>[(some j,blk [uD,slv ((y 3).g 0) e.length ((y 3).c 0),uD] 149)]) 10,tr (fun _=>(uF j 1)) [],tst (fun y=>[(some j,blk [uD,slv ((y 5).g 0) f.length ((y 5).c 0),uD] 149)]) 7] (fun _=>[(5,pt o),(10,pt j)]) (fun y=>[(((y 3).g 0),blk ((y 3).cl 0) 5),(((y 5).g 0),blk ((y 5).cl 0) 5),(some j,blk [uD,slv ((y 5).g 0) f.length ((y 5).c 0),uD] 149),(some p,blk (qh i) 35),(some o,blk (qh d) 35)]) I (by kernel_rfl) (fun y=>⟨rfl,rfl⟩) (fun y=>?_) ?_
   ·
    refine tt rfl rfl (tt rfl rfl (tl1 [(some o,blk (qh d) 35)] rfl rfl (fun X w I=>ma I 0 me mc rfl rfl rfl br) (tg (slv ((y 3).g 0) e.length ((y 3).c 0)) [] [] rfl ⟨rfl,rfl,rfl⟩ ?_ ?_)))
    ·intro hp X w I
     refine co 92 _ (by kernel_rfl) (L92 _ d _ u) ?_
     rintro v w ⟨bZ,c0,c1,rfl,hN,c2⟩
     have I:=I.join hN; clear hN
     exact ⟨wit 0 [bZ] [c0] [c1] [],rfl,Eq.mp rfl c2,I.castL rfl⟩
    refine tl1 [(some p,blk (qh i) 35)] rfl rfl (fun X w I=>ma I 0 me mc rfl rfl rfl br) (tg (slv ((y 5).g 0) f.length ((y 5).c 0)) [] [] rfl ⟨rfl,rfl,rfl⟩ ?_ ?_)
    ·intro hp X w I
     refine co 92 _ (by kernel_rfl) (L92 _ i _ x) ?_
     rintro v w ⟨aY,a4,c4,rfl,hN,J⟩
     have I:=I.join hN; clear hN
     exact ⟨wit 0 [aY] [a4] [c4] [],rfl,Eq.mp rfl J,I.castL rfl⟩
    refine tl0 rfl (fun X w I=>av 1 zu149 mn rfl rfl aI (by decide) 1 rfl br) (tS [(some j,blk [uD,uD,uD] 149)] rfl ⟨rfl,rfl⟩ (fun X w I=>aq I 0 1 [slv ((y 3).g 0) e.length ((y 3).c 0)] mn rfl rfl rfl rfl rfl (mx rfl) fun w I=>⟨rfl,I.castL rfl⟩) (tl0 rfl (fun X w I=>av 1 zu149 mn rfl rfl bY (by decide) 1 rfl br) (tS [(some j,blk [uD,slv ((y 3).g 0) e.length ((y 3).c 0),uD] 149)] rfl ⟨rfl,rfl⟩ (fun X w I=>aq I 0 1 [slv ((y 5).g 0) f.length ((y 5).c 0)] mn rfl rfl rfl rfl rfl (mx rfl) fun w I=>⟨rfl,I.castL rfl⟩) (tn))))
   intro y hp ρ w hag I
   have c2:Row 1 ((y 3).g 0) e.length ((y 3).c 0) ((y 3).cl 0) (al eB e):=pgl hp (k:=3) (by decide) rfl
   have J:Row 1 ((y 5).g 0) f.length ((y 5).c 0) ((y 5).cl 0) (al eB f):=pgl hp (k:=5) (by decide) rfl
   clear hp
   generalize (y 3).g 0=bZ at *
   generalize (y 3).c 0=c0 at *
   generalize (y 3).cl 0=c1 at *
   generalize (y 5).g 0=aY at *
   generalize (y 5).c 0=a4 at *
   generalize (y 5).cl 0=c4 at *
   obtain ⟨ρ,rfl⟩:=hag.form
   refine ab (gm 7 I (by kernel_rfl) (zc (.agg #[uD,uN aY f a4,uD]) (fun w I=>ma I 2 zi149 zs149 rfl rfl rfl br) (gdE F (fun dC F=>?_))))
   obtain ⟨c5,rfl⟩:=J.some_ (ll rfl dC)
   refine bt F (fun a5 dD F=>zc (uE a5) (fun w I=>co 93 [.agg #[uD,uN (some c5) f a4,uD]] (by kernel_rfl) (L93 _ none 0 [] true ((some c5).map fun b=>⟨b,0,none⟩) a4 f false none 0 [] true bi.nil0 (by decide) (Nat.le_refl _) rfl (I.rowCells 1 rfl J) (am rfl J.big) (am rfl J.cap) rfl bi.nil0 (by decide) (Nat.le_refl _) rfl N _ dD) uI) (zP (uF o 1) rfl (zg 4 (iv d.sz) zi3 rfl (gdE F (fun dE F=>gdE F (fun dF F=>zc (uE (a5.take ((d.sz).toNat))) (fun w I=>nq (l:=a5) (m:=a5.take ((d.sz).toNat)) (a:=0) (b:=(d.sz).toNat) zu9 rfl (.inr ⟨rfl,rfl⟩) (.inl (congrArg (fun z=>some (Value.int .i64 z)) (Int.toNat_of_nonneg dE).symm)) dF rfl br) (zB (uE (a5.take ((d.sz).toNat))) (iv 0) rfl (zh (fun w I=>aa (aj ?_))))))))))
   cases F
   exact ⟨_,Ret.r2 rfl rfl rfl,⟨rfl,I.below⟩⟩
  refine ifN F (fun c6 F=>?_) (fun c6 F=>?_)
  ·
   cases F
  refine kx [tv (fun _=>(iv q)),tv (fun _=>(iv s)),tr (fun _=>(.agg (qh d).toArray)) [12],⟨fun y=>(slv ((y 3).g 0) e.length ((y 3).c 0)),fun y=>[(((y 3).g 0),blk ((y 3).cl 0) 5)],fun y=>(Row 1 ((y 3).g 0) e.length ((y 3).c 0) ((y 3).cl 0) (al eB e)),[],[]⟩,tr (fun _=>(.agg (qh i).toArray)) [11],⟨fun y=>(slv ((y 5).g 0) f.length ((y 5).c 0)),fun y=>[(((y 5).g 0),blk ((y 5).cl 0) 5)],fun y=>(Row 1 ((y 5).g 0) f.length ((y 5).c 0) ((y 5).cl 0) (al eB f)),[],[]⟩,tr (fun _=>(uF j 1)) [],tst (fun y=>[(some j,blk [uD,slv ((y 3).g 0) e.length ((y 3).c 0),uD] 149)]) 10,tr (fun _=>(uF j 2)) [],tst (fun y=>[(some j,blk [uD,slv ((y 3).g 0) e.length ((y 3).c 0),slv ((y 5).g 0) f.length ((y 5).c 0)] 149)]) 7] (fun _=>[(5,pt o),(10,pt j)]) (fun y=>[(((y 3).g 0),blk ((y 3).cl 0) 5),(((y 5).g 0),blk ((y 5).cl 0) 5),(some j,blk [uD,slv ((y 3).g 0) e.length ((y 3).c 0),slv ((y 5).g 0) f.length ((y 5).c 0)] 149),(some p,blk (qh i) 35),(some o,blk (qh d) 35)]) I (by kernel_rfl) (fun y=>⟨rfl,rfl⟩) (fun y=>?_) ?_
  ·
   refine tt rfl rfl (tt rfl rfl (tl1 [(some o,blk (qh d) 35)] rfl rfl (fun X w I=>ma I 0 me mc rfl rfl rfl br) (tg (slv ((y 3).g 0) e.length ((y 3).c 0)) [] [] rfl ⟨rfl,rfl,rfl⟩ ?_ ?_)))
   ·intro hp X w I
    refine co 92 _ (by kernel_rfl) (L92 _ d _ u) ?_
    rintro v w ⟨aZ,a6,c7,rfl,hN,K⟩
    have I:=I.join hN; clear hN
    exact ⟨wit 0 [aZ] [a6] [c7] [],rfl,Eq.mp rfl K,I.castL rfl⟩
   refine tl1 [(some p,blk (qh i) 35)] rfl rfl (fun X w I=>ma I 0 me mc rfl rfl rfl br) (tg (slv ((y 5).g 0) f.length ((y 5).c 0)) [] [] rfl ⟨rfl,rfl,rfl⟩ ?_ ?_)
   ·intro hp X w I
    refine co 92 _ (by kernel_rfl) (L92 _ i _ x) ?_
    rintro v w ⟨b0,a7,c8,rfl,hN,L⟩
    have I:=I.join hN; clear hN
    exact ⟨wit 0 [b0] [a7] [c8] [],rfl,Eq.mp rfl L,I.castL rfl⟩
   refine tl0 rfl (fun X w I=>av 1 zu149 mn rfl rfl aI (by decide) 1 rfl br) (tS [(some j,blk [uD,uD,uD] 149)] rfl ⟨rfl,rfl⟩ (fun X w I=>aq I 0 1 [slv ((y 3).g 0) e.length ((y 3).c 0)] mn rfl rfl rfl rfl rfl (mx rfl) fun w I=>⟨rfl,I.castL rfl⟩) (tl0 rfl (fun X w I=>av 2 zu149 mn rfl rfl c6 (by decide) 2 rfl br) (tS [(some j,blk [uD,slv ((y 3).g 0) e.length ((y 3).c 0),uD] 149)] rfl ⟨rfl,rfl⟩ (fun X w I=>aq I 0 1 [slv ((y 5).g 0) f.length ((y 5).c 0)] mn rfl rfl rfl rfl rfl (mx rfl) fun w I=>⟨rfl,I.castL rfl⟩) (tn))))
  intro y hp ρ w hag I
  have K:Row 1 ((y 3).g 0) e.length ((y 3).c 0) ((y 3).cl 0) (al eB e):=pgl hp (k:=3) (by decide) (by kernel_rfl)
  have L:Row 1 ((y 5).g 0) f.length ((y 5).c 0) ((y 5).cl 0) (al eB f):=pgl hp (k:=5) (by decide) rfl
  clear hp
  generalize (y 3).g 0=aZ at *
  generalize (y 3).c 0=a6 at *
  generalize (y 3).cl 0=c7 at *
  generalize (y 5).g 0=b0 at *
  generalize (y 5).c 0=a7 at *
  generalize (y 5).cl 0=c8 at *
  obtain ⟨ρ,rfl⟩:=hag.form
  refine ab (gm 7 I (by kernel_rfl) (zc (.agg #[uD,uN aZ e a6,uN b0 f a7]) (fun w I=>ma I 2 zi149 zs149 rfl rfl rfl br) (gdE F (fun dG F=>?_))))
  obtain ⟨cA,rfl⟩:=K.some_ (ll rfl dG)
  refine gdE F (fun dH F=>?_)
  obtain ⟨cB,rfl⟩:=L.some_ (ll rfl dH)
  refine bt F (fun a8 dI F=>zc (uE a8) (fun w I=>co 93 [.agg #[uD,uN (some cA) e a6,uN (some cB) f a7]] (by kernel_rfl) (L93 _ none 0 [] true ((some cA).map fun b=>⟨b,0,none⟩) a6 e false ((some cB).map fun b=>⟨b,0,none⟩) a7 f false bi.nil0 (by decide) (Nat.le_refl _) rfl (I.rowCells 0 rfl K) (am rfl K.big) (am rfl K.cap) rfl (I.rowCells 1 rfl L) (am rfl L.big) (am rfl L.cap) rfl N _ dI) uI) (zP (uF o 1) rfl (zg 4 (iv d.sz) zi3 rfl (gdE F (fun dJ F=>gdE F (fun dK F=>zc (uE (a8.take ((d.sz).toNat))) (fun w I=>nq (l:=a8) (m:=a8.take ((d.sz).toNat)) (a:=0) (b:=(d.sz).toNat) zu9 rfl (.inr ⟨rfl,rfl⟩) (.inl (congrArg (fun z=>some (Value.int .i64 z)) (Int.toNat_of_nonneg dJ).symm)) dK rfl br) (zB (uE (a8.take ((d.sz).toNat))) (iv 0) rfl (zh (fun w I=>aa (aj ?_))))))))))
  cases F
  exact ⟨_,Ret.r2 rfl rfl rfl,⟨rfl,I.below⟩⟩
 refine ifN F (fun aJ F=>?_) (fun aJ F=>?_)
 ·
  cases F
 refine ifE F (fun cC F=>?_) (fun cC F=>?_)
 ·
  refine kx [tv (fun _=>(iv q)),tv (fun _=>(iv s)),tr (fun _=>(.agg (qh d).toArray)) [12],⟨fun y=>(slv ((y 3).g 0) e.length ((y 3).c 0)),fun y=>[(((y 3).g 0),blk ((y 3).cl 0) 5)],fun y=>(Row 1 ((y 3).g 0) e.length ((y 3).c 0) ((y 3).cl 0) (al eB e)),[],[]⟩,tr (fun _=>(.agg (qh i).toArray)) [11],⟨fun y=>(slv ((y 5).g 0) f.length ((y 5).c 0)),fun y=>[(((y 5).g 0),blk ((y 5).cl 0) 5)],fun y=>(Row 1 ((y 5).g 0) f.length ((y 5).c 0) ((y 5).cl 0) (al eB f)),[],[]⟩,tr (fun _=>(uF j 2)) [],tst (fun y=>[(some j,blk [uD,uD,slv ((y 3).g 0) e.length ((y 3).c 0)] 149)]) 10,tr (fun _=>(pt j)) [],tst (fun y=>[(some j,blk [slv ((y 5).g 0) f.length ((y 5).c 0),uD,slv ((y 3).g 0) e.length ((y 3).c 0)] 149)]) 7] (fun _=>[(5,pt o),(10,pt j)]) (fun y=>[(((y 3).g 0),blk ((y 3).cl 0) 5),(((y 5).g 0),blk ((y 5).cl 0) 5),(some j,blk [slv ((y 5).g 0) f.length ((y 5).c 0),uD,slv ((y 3).g 0) e.length ((y 3).c 0)] 149),(some p,blk (qh i) 35),(some o,blk (qh d) 35)]) I (by kernel_rfl) (fun y=>⟨rfl,rfl⟩) (fun y=>?_) ?_
  ·
   refine tt rfl rfl (tt rfl rfl (tl1 [(some o,blk (qh d) 35)] rfl rfl (fun X w I=>ma I 0 me mc rfl rfl rfl br) (tg (slv ((y 3).g 0) e.length ((y 3).c 0)) [] [] rfl ⟨rfl,rfl,rfl⟩ ?_ ?_)))
   ·intro hp X w I
    refine co 92 _ (by kernel_rfl) (L92 _ d _ u) ?_
    rintro v w ⟨b1,a9,cD,rfl,hN,M⟩
    have I:=I.join hN; clear hN
    exact ⟨wit 0 [b1] [a9] [cD] [],rfl,Eq.mp rfl M,I.castL rfl⟩
   refine tl1 [(some p,blk (qh i) 35)] rfl rfl (fun X w I=>ma I 0 me mc rfl rfl rfl br) (tg (slv ((y 5).g 0) f.length ((y 5).c 0)) [] [] rfl ⟨rfl,rfl,rfl⟩ ?_ ?_)
   ·intro hp X w I
    refine co 92 _ (by kernel_rfl) (L92 _ i _ x) ?_
    rintro v w ⟨b2,aA,cE,rfl,hN,O⟩
    have I:=I.join hN; clear hN
    exact ⟨wit 0 [b2] [aA] [cE] [],rfl,Eq.mp rfl O,I.castL rfl⟩
   refine tl0 rfl (fun X w I=>av 2 zu149 mn rfl rfl aJ (by decide) 2 rfl br) (tS [(some j,blk [uD,uD,uD] 149)] rfl ⟨rfl,rfl⟩ (fun X w I=>aq I 0 1 [slv ((y 3).g 0) e.length ((y 3).c 0)] mn rfl rfl rfl rfl rfl (mx rfl) fun w I=>⟨rfl,I.castL rfl⟩) (tl0 rfl (fun X w I=>av 0 zu149 mn rfl rfl cC (by decide) 0 rfl br) (tS [(some j,blk [uD,uD,slv ((y 3).g 0) e.length ((y 3).c 0)] 149)] rfl ⟨rfl,rfl⟩ (fun X w I=>aq I 0 1 [slv ((y 5).g 0) f.length ((y 5).c 0)] mn rfl rfl rfl rfl rfl (mx rfl) fun w I=>⟨rfl,I.castL rfl⟩) (tn))))
  intro y hp ρ w hag I
  have M:Row 1 ((y 3).g 0) e.length ((y 3).c 0) ((y 3).cl 0) (al eB e):=pgl hp (k:=3) (by decide) (by kernel_rfl)
  have O:Row 1 ((y 5).g 0) f.length ((y 5).c 0) ((y 5).cl 0) (al eB f):=pgl hp (k:=5) (by decide) rfl
  clear hp
  generalize (y 3).g 0=b1 at *
  generalize (y 3).c 0=a9 at *
  generalize (y 3).cl 0=cD at *
  generalize (y 5).g 0=b2 at *
  generalize (y 5).c 0=aA at *
  generalize (y 5).cl 0=cE at *
  obtain ⟨ρ,rfl⟩:=hag.form
  refine ab (gm 7 I (by kernel_rfl) (zc (.agg #[uN b2 f aA,uD,uN b1 e a9]) (fun w I=>ma I 2 zi149 zs149 rfl rfl rfl br) (gdE F (fun dL F=>?_))))
  obtain ⟨cF,rfl⟩:=O.some_ (ll rfl dL)
  refine gdE F (fun dM F=>?_)
  obtain ⟨cG,rfl⟩:=M.some_ (ll rfl dM)
  refine bt F (fun aB dN F=>zc (uE aB) (fun w I=>co 93 [.agg #[uN (some cF) f aA,uD,uN (some cG) e a9]] (by kernel_rfl) (L93 _ ((some cF).map fun b=>⟨b,0,none⟩) aA f false none 0 [] true ((some cG).map fun b=>⟨b,0,none⟩) a9 e false (I.rowCells 1 rfl O) (am rfl O.big) (am rfl O.cap) rfl bi.nil0 (by decide) (Nat.le_refl _) rfl (I.rowCells 0 rfl M) (am rfl M.big) (am rfl M.cap) rfl N _ dN) uI) (zP (uF o 1) rfl (zg 4 (iv d.sz) zi3 rfl (gdE F (fun dO F=>gdE F (fun dP F=>zc (uE (aB.take ((d.sz).toNat))) (fun w I=>nq (l:=aB) (m:=aB.take ((d.sz).toNat)) (a:=0) (b:=(d.sz).toNat) zu9 rfl (.inr ⟨rfl,rfl⟩) (.inl (congrArg (fun z=>some (Value.int .i64 z)) (Int.toNat_of_nonneg dO).symm)) dP rfl br) (zB (uE (aB.take ((d.sz).toNat))) (iv 0) rfl (zh (fun w I=>aa (aj ?_))))))))))
  cases F
  exact ⟨_,Ret.r2 rfl rfl rfl,⟨rfl,I.below⟩⟩
 refine ifN F (fun cH F=>?_) (fun cH F=>?_)
 ·
  refine ifN F (fun cI F=>?_) (fun cI F=>?_)
  ·
   cases F
  refine kx [tv (fun _=>(iv q)),tv (fun _=>(iv s)),tr (fun _=>(.agg (qh d).toArray)) [12],⟨fun y=>(slv ((y 3).g 0) e.length ((y 3).c 0)),fun y=>[(((y 3).g 0),blk ((y 3).cl 0) 5)],fun y=>(Row 1 ((y 3).g 0) e.length ((y 3).c 0) ((y 3).cl 0) (al eB e)),[],[]⟩,tr (fun _=>(.agg (qh i).toArray)) [11],⟨fun y=>(slv ((y 5).g 0) f.length ((y 5).c 0)),fun y=>[(((y 5).g 0),blk ((y 5).cl 0) 5)],fun y=>(Row 1 ((y 5).g 0) f.length ((y 5).c 0) ((y 5).cl 0) (al eB f)),[],[]⟩,tr (fun _=>(uF j 2)) [],tst (fun y=>[(some j,blk [uD,uD,slv ((y 3).g 0) e.length ((y 3).c 0)] 149)]) 10,tr (fun _=>(uF j 2)) [],tst (fun y=>[(some j,blk [uD,uD,slv ((y 5).g 0) f.length ((y 5).c 0)] 149)]) 7] (fun _=>[(5,pt o),(10,pt j)]) (fun y=>[(((y 3).g 0),blk ((y 3).cl 0) 5),(((y 5).g 0),blk ((y 5).cl 0) 5),(some j,blk [uD,uD,slv ((y 5).g 0) f.length ((y 5).c 0)] 149),(some p,blk (qh i) 35),(some o,blk (qh d) 35)]) I (by kernel_rfl) (fun y=>⟨rfl,rfl⟩) (fun y=>?_) ?_
  ·
   refine tt rfl rfl (tt rfl rfl (tl1 [(some o,blk (qh d) 35)] rfl rfl (fun X w I=>ma I 0 me mc rfl rfl rfl br) (tg (slv ((y 3).g 0) e.length ((y 3).c 0)) [] [] rfl ⟨rfl,rfl,rfl⟩ ?_ ?_)))
   ·intro hp X w I
    refine co 92 _ (by kernel_rfl) (L92 _ d _ u) ?_
    rintro v w ⟨cJ,cK,cL,rfl,hN,cM⟩
    have I:=I.join hN; clear hN
    exact ⟨wit 0 [cJ] [cK] [cL] [],rfl,Eq.mp rfl cM,I.castL rfl⟩
   refine tl1 [(some p,blk (qh i) 35)] rfl rfl (fun X w I=>ma I 0 me mc rfl rfl rfl br) (tg (slv ((y 5).g 0) f.length ((y 5).c 0)) [] [] rfl ⟨rfl,rfl,rfl⟩ ?_ ?_)
   ·intro hp X w I
    refine co 92 _ (by kernel_rfl) (L92 _ i _ x) ?_
    rintro v w ⟨b3,aC,cN,rfl,hN,P⟩
    have I:=I.join hN; clear hN
    exact ⟨wit 0 [b3] [aC] [cN] [],rfl,Eq.mp rfl P,I.castL rfl⟩
   refine tl0 rfl (fun X w I=>av 2 zu149 mn rfl rfl aJ (by decide) 2 rfl br) (tS [(some j,blk [uD,uD,uD] 149)] rfl ⟨rfl,rfl⟩ (fun X w I=>aq I 0 1 [slv ((y 3).g 0) e.length ((y 3).c 0)] mn rfl rfl rfl rfl rfl (mx rfl) fun w I=>⟨rfl,I.castL rfl⟩) (tl0 rfl (fun X w I=>av 2 zu149 mn rfl rfl cI (by decide) 2 rfl br) (tS [(some j,blk [uD,uD,slv ((y 3).g 0) e.length ((y 3).c 0)] 149)] rfl ⟨rfl,rfl⟩ (fun X w I=>aq I 0 1 [slv ((y 5).g 0) f.length ((y 5).c 0)] mn rfl rfl rfl rfl rfl (mx rfl) fun w I=>⟨rfl,I.castL rfl⟩) (tn))))
  intro y hp ρ w hag I
  have cM:Row 1 ((y 3).g 0) e.length ((y 3).c 0) ((y 3).cl 0) (al eB e):=pgl hp (k:=3) (by decide) rfl
  have P:Row 1 ((y 5).g 0) f.length ((y 5).c 0) ((y 5).cl 0) (al eB f):=pgl hp (k:=5) (by decide) rfl
  clear hp
  generalize (y 3).g 0=cJ at *
  generalize (y 3).c 0=cK at *
  generalize (y 3).cl 0=cL at *
  generalize (y 5).g 0=b3 at *
  generalize (y 5).c 0=aC at *
  generalize (y 5).cl 0=cN at *
  obtain ⟨ρ,rfl⟩:=hag.form
  refine ab (gm 7 I (by kernel_rfl) (zc (.agg #[uD,uD,uN b3 f aC]) (fun w I=>ma I 2 zi149 zs149 rfl rfl rfl br) (gdE F (fun dQ F=>?_))))
  obtain ⟨cO,rfl⟩:=P.some_ (ll rfl dQ)
  refine bt F (fun aD dR F=>zc (uE aD) (fun w I=>co 93 [.agg #[uD,uD,uN (some cO) f aC]] (by kernel_rfl) (L93 _ none 0 [] true none 0 [] true ((some cO).map fun b=>⟨b,0,none⟩) aC f false bi.nil0 (by decide) (Nat.le_refl _) rfl bi.nil0 (by decide) (Nat.le_refl _) rfl (I.rowCells 1 rfl P) (am rfl P.big) (am rfl P.cap) rfl N _ dR) uI) (zP (uF o 1) rfl (zg 4 (iv d.sz) zi3 rfl (gdE F (fun dS F=>gdE F (fun dT F=>zc (uE (aD.take ((d.sz).toNat))) (fun w I=>nq (l:=aD) (m:=aD.take ((d.sz).toNat)) (a:=0) (b:=(d.sz).toNat) zu9 rfl (.inr ⟨rfl,rfl⟩) (.inl (congrArg (fun z=>some (Value.int .i64 z)) (Int.toNat_of_nonneg dS).symm)) dT rfl br) (zB (uE (aD.take ((d.sz).toNat))) (iv 0) rfl (zh (fun w I=>aa (aj ?_))))))))))
  cases F
  exact ⟨_,Ret.r2 rfl rfl rfl,⟨rfl,I.below⟩⟩
 refine kx [tv (fun _=>(iv q)),tv (fun _=>(iv s)),tr (fun _=>(.agg (qh d).toArray)) [12],⟨fun y=>(slv ((y 3).g 0) e.length ((y 3).c 0)),fun y=>[(((y 3).g 0),blk ((y 3).cl 0) 5)],fun y=>(Row 1 ((y 3).g 0) e.length ((y 3).c 0) ((y 3).cl 0) (al eB e)),[],[]⟩,tr (fun _=>(.agg (qh i).toArray)) [11],⟨fun y=>(slv ((y 5).g 0) f.length ((y 5).c 0)),fun y=>[(((y 5).g 0),blk ((y 5).cl 0) 5)],fun y=>(Row 1 ((y 5).g 0) f.length ((y 5).c 0) ((y 5).cl 0) (al eB f)),[],[]⟩,tr (fun _=>(uF j 2)) [],tst (fun y=>[(some j,blk [uD,uD,slv ((y 3).g 0) e.length ((y 3).c 0)] 149)]) 10,tr (fun _=>(uF j 1)) [],tst (fun y=>[(some j,blk [uD,slv ((y 5).g 0) f.length ((y 5).c 0),slv ((y 3).g 0) e.length ((y 3).c 0)] 149)]) 7] (fun _=>[(5,pt o),(10,pt j)]) (fun y=>[(((y 3).g 0),blk ((y 3).cl 0) 5),(((y 5).g 0),blk ((y 5).cl 0) 5),(some j,blk [uD,slv ((y 5).g 0) f.length ((y 5).c 0),slv ((y 3).g 0) e.length ((y 3).c 0)] 149),(some p,blk (qh i) 35),(some o,blk (qh d) 35)]) I (by kernel_rfl) (fun y=>⟨rfl,rfl⟩) (fun y=>?_) ?_
 ·
  refine tt rfl rfl (tt rfl rfl (tl1 [(some o,blk (qh d) 35)] rfl rfl (fun X w I=>ma I 0 me mc rfl rfl rfl br) (tg (slv ((y 3).g 0) e.length ((y 3).c 0)) [] [] rfl ⟨rfl,rfl,rfl⟩ ?_ ?_)))
  ·intro hp X w I
   refine co 92 _ (by kernel_rfl) (L92 _ d _ u) ?_
   rintro v w ⟨b4,aE,cP,rfl,hN,Q⟩
   have I:=I.join hN; clear hN
   exact ⟨wit 0 [b4] [aE] [cP] [],rfl,Eq.mp rfl Q,I.castL rfl⟩
  refine tl1 [(some p,blk (qh i) 35)] rfl rfl (fun X w I=>ma I 0 me mc rfl rfl rfl br) (tg (slv ((y 5).g 0) f.length ((y 5).c 0)) [] [] rfl ⟨rfl,rfl,rfl⟩ ?_ ?_)
  ·intro hp X w I
   refine co 92 _ (by kernel_rfl) (L92 _ i _ x) ?_
   rintro v w ⟨b5,aF,cQ,rfl,hN,R⟩
   have I:=I.join hN; clear hN
   exact ⟨wit 0 [b5] [aF] [cQ] [],rfl,Eq.mp rfl R,I.castL rfl⟩
  refine tl0 rfl (fun X w I=>av 2 zu149 mn rfl rfl aJ (by decide) 2 rfl br) (tS [(some j,blk [uD,uD,uD] 149)] rfl ⟨rfl,rfl⟩ (fun X w I=>aq I 0 1 [slv ((y 3).g 0) e.length ((y 3).c 0)] mn rfl rfl rfl rfl rfl (mx rfl) fun w I=>⟨rfl,I.castL rfl⟩) (tl0 rfl (fun X w I=>av 1 zu149 mn rfl rfl cH (by decide) 1 rfl br) (tS [(some j,blk [uD,uD,slv ((y 3).g 0) e.length ((y 3).c 0)] 149)] rfl ⟨rfl,rfl⟩ (fun X w I=>aq I 0 1 [slv ((y 5).g 0) f.length ((y 5).c 0)] mn rfl rfl rfl rfl rfl (mx rfl) fun w I=>⟨rfl,I.castL rfl⟩) (tn))))
 intro y hp ρ w hag I
 have Q:Row 1 ((y 3).g 0) e.length ((y 3).c 0) ((y 3).cl 0) (al eB e):=pgl hp (k:=3) (by decide) rfl
 have R:Row 1 ((y 5).g 0) f.length ((y 5).c 0) ((y 5).cl 0) (al eB f):=pgl hp (k:=5) (by decide) rfl
 clear hp
 generalize (y 3).g 0=b4 at *
 generalize (y 3).c 0=aE at *
 generalize (y 3).cl 0=cP at *
 generalize (y 5).g 0=b5 at *
 generalize (y 5).c 0=aF at *
 generalize (y 5).cl 0=cQ at *
 obtain ⟨ρ,rfl⟩:=hag.form
 refine ab (gm 7 I (by kernel_rfl) (zc (.agg #[uD,uN b5 f aF,uN b4 e aE]) (fun w I=>ma I 2 zi149 zs149 rfl rfl rfl br) (gdE F (fun dU F=>?_))))
 obtain ⟨cR,rfl⟩:=R.some_ (ll rfl dU)
 refine gdE F (fun dV F=>?_)
 obtain ⟨cS,rfl⟩:=Q.some_ (ll rfl dV)
 refine bt F (fun aG dW F=>zc (uE aG) (fun w I=>co 93 [.agg #[uD,uN (some cR) f aF,uN (some cS) e aE]] (by kernel_rfl) (L93 _ none 0 [] true ((some cR).map fun b=>⟨b,0,none⟩) aF f false ((some cS).map fun b=>⟨b,0,none⟩) aE e false bi.nil0 (by decide) (Nat.le_refl _) rfl (I.rowCells 1 rfl R) (am rfl R.big) (am rfl R.cap) rfl (I.rowCells 0 rfl Q) (am rfl Q.big) (am rfl Q.cap) rfl N _ dW) uI) (zP (uF o 1) rfl (zg 4 (iv d.sz) zi3 rfl (gdE F (fun dX F=>gdE F (fun dY F=>zc (uE (aG.take ((d.sz).toNat))) (fun w I=>nq (l:=aG) (m:=aG.take ((d.sz).toNat)) (a:=0) (b:=(d.sz).toNat) zu9 rfl (.inr ⟨rfl,rfl⟩) (.inl (congrArg (fun z=>some (Value.int .i64 z)) (Int.toNat_of_nonneg dX).symm)) dY rfl br) (zB (uE (aG.take ((d.sz).toNat))) (iv 0) rfl (zh (fun w I=>aa (aj ?_))))))))))
 cases F
 exact ⟨_,Ret.r2 rfl rfl rfl,⟨rfl,I.below⟩⟩
theorem L25 (w0:World) (d:Int) (a:Sp3) (N:Nat) (r:Int) (F:F25 N d a=some r):bn Tryz.prog 25 [iv d,.agg (qh a).toArray] w0 fun v w=>v=iv r∧Below w0.heap.size w0 w:=by
 refine az (n:=14) func25 rfl ntmps25 rfl ?_
 have I:=Inv.start w0
 unfold F25 at F
 refine uL (by kernel_rfl) (ph (ca I _ rfl fun x w I=>pu (iv 0) (by kernel_rfl) (aa (ab (gm 7 I (by kernel_rfl) (zP (iv d) (by kernel_rfl) (bt F (fun e k F=>zc (.bool e) (fun w I=>co 90 [iv d] (by kernel_rfl) (L90 _ d _ k) uI) (bt F (fun f l F=>zc (iv f) (fun w I=>co 78 [.bool e,iv 1] (by kernel_rfl) (L78 _ e 1 _ l) uI) (zP (iv d) (by kernel_rfl) (zm 0 (qh a) me mc rfl (bt F (fun g m F=>zc (.bool g) (fun w I=>co 91 [iv d,.agg (qh a).toArray] (by kernel_rfl) (L91 _ d a N _ m) uI) (bt F (fun i o F=>zc (iv i) (fun w I=>co 78 [.bool g,iv 84] (by kernel_rfl) (L78 _ g 84 _ o) uI) (zh (fun w I=>ph (fu I [iv f,iv i] 26 (fun b=>slv (some b) 2 2) (by kernel_rfl) fun p w I=>bt F (fun q s F=>ph (bg I 86 _ _ (by kernel_rfl) (L86 _ (some ⟨p,0,none⟩) 2 [f,i] (I.cells 0 (off:=0) rfl (fun j u h=>by rw [Nat.zero_add]; exact h)) (mx rfl) (Nat.le_refl _) N _ s) fun w I=>pu (iv q) (by kernel_rfl) (aa (aj ?_)))))))))))))))))))))))
 cases F
 exact uJ I rfl


theorem L96 (w0:World) (u:Option Addr) (x:Nat) (b:List Rc) (a3:bi w0 u (al eRc b)) (aH:b.length≤9223372036854775807) (aI:b.length≤x) (N:Nat) (r:Bool) (F:F96 N b=some r):bn Tryz.prog 96 [uM u b x] w0 fun v w=>v=.bool r∧Below w0.heap.size w0 w:=by
 refine az (n:=37) func96 rfl ntmps96 rfl ?_
 have I:=Inv.start w0
 unfold F96 at F
 refine uL rfl (pu bF rfl (aa (ab (uL rfl (pu2 (uM u b x) (iv ((b.length:Nat):Int)) (by kernel_rfl) (ifE F (fun E F=>?_) (fun E F=>?_)))))))
 ·
  refine ph (fh rfl rfl (fun _=>?_) (uO E))
  refine aa (ah rfl (uL rfl (pu bF rfl (aa (aj ?_)))))
  cases F
  exact uJ I rfl
 refine ph (fh rfl rfl (uP E) (fun _=>aa (ai rfl (ak (uL rfl (ph (bh I _ zeroValue54 rfl fun o w I=>aa (ab (uL rfl (pu3 (uM u b x) (iv ((b.length:Nat):Int)) (iv 0) (by kernel_rfl) (aa (au (cb (fun m ρ w=>∃ e f g i j l q mm,cd ρ [(3,pt o),(9,uM u b x),(10,iv (b.length:Int)),(11,iv q)]∧Inv [] w0 w [(some o,blk [iv e,iv f,iv g,iv i,iv j,iv l] 54)]∧F96l1 b N mm e f g i j l q=some r∧mm=m) (m:=N) ⟨0,0,0,0,0,0,0,N,(uK rfl),I.pk [0] rfl,F,rfl⟩ ?_)))))))))))))
 rintro m ρ w ⟨e,f,g,i,j,l,q,mm,hag,I,F,hm⟩
 subst hm; obtain ⟨ρ,rfl⟩:=hag.form
 obtain _ | m1:=mm
 ·cases (show (none:Option Bool)=some r from F)
 replace F:F96b1 b N (F96l1 b N m1) e f g i j l q=some r:=F; unfold F96b1 at F
 refine uL rfl (ifN F (fun G F=>?_) (fun G F=>?_))
 ·
  refine xl rfl (uP G) (fun _=>aa (ab (ai rfl (bw (uL rfl (pu bT rfl (aa (aj ?_))))))))
  cases F
  exact uJ I rfl


 refine xl rfl (fun _=>?_) (uO G)
 refine aa (ab (ah rfl (ak (dn (fun ρ w=>∃ y z A B C D,cd ρ [(3,pt o),(9,uM u b x),(10,iv (b.length:Int)),(11,iv q)]∧Inv [] w0 w [(some o,blk [iv y,iv z,iv A,iv B,iv C,iv D] 54)]∧F96j2 (F96l1 b N m1) q y z A B C D=some r) ?_ ?_))))
 ·
  refine au (uL rfl (gdE F (fun a4 F=>bt F (fun a W F=>?_))))
  obtain ⟨aJ,aK,a5,a6,a7⟩:=a3.at_ bx (by decide) W
  refine ph (cn (q).toNat nt md rfl a5 rfl (Int.toNat_of_nonneg a4).symm (fa W rfl) (ph (ef I (qg a) mh md rfl rfl a6 (by simp) a7 (ph (bh I _ zeroValue25 rfl fun s w I=>xi I 0 _ md rfl fun w I=>aa (ab (dn (fun ρ w=>cd ρ [(3,pt o),(5,pt s),(9,uM u b x),(10,iv (b.length:Int)),(11,iv q),(28,bF)]∧Inv [] w0 w [(some o,blk [iv e,iv f,iv g,iv i,iv j,iv l] 54),(some s,blk (qg a) 25)]∧F96j3 (F96l1 b N m1) e f g i j l q a=some r) ?_ ?_)))))))
  ·
   refine gm 14 I (by kernel_rfl) (zm 0 (qg a) mh md rfl (bt F (fun a8 a9 F=>zc (iv a8) (fun w I=>co 17 [.agg (qg a).toArray] (by kernel_rfl) (L17 _ a N _ a9) uI) (ifN F (fun H F=>?_) (fun H F=>?_)))))
   ·
    refine zc bT (fun w I=>de rfl rfl (fun _=>br) (uP H)) (zP bT rfl (zf 9 rfl (zP bT rfl (zh (fun w I=>aa (.inr (ah rfl (uL rfl (pu bF rfl (aa (aj ?_)))))))))))
    cases F
    exact uJ I rfl
   refine zc bF (fun w I=>de rfl rfl (uO H) (fun _=>br)) (zP bF rfl (zQ (pt s) rfl rfl (zQ (uF s 1) rfl rfl (zG 0 (iv a.n) zi3 rfl rfl (zQ (pt s) rfl rfl (zQ (pt s) rfl rfl (zG 0 (iv a.p) zi3 rfl rfl (ifE F (fun X F=>?_) (fun X F=>?_)))))))))
   ·
    refine zo (pt o) rfl (fun w I=>av 0 zu54 zs3 rfl rfl X (by decide) 0 rfl br) (zG 1 (iv e) zi3 rfl rfl (ifE F (fun J F=>?_) (fun J F=>?_)))
    ·
     refine zo bF rfl (fun w I=>de rfl rfl (uO J) (fun _=>br)) (zP bF rfl (zh (fun w I=>aa (.inl ⟨rfl,⟨(uK rfl),I.pk [1,0] rfl,F⟩⟩))))
    refine zo bT rfl (fun w I=>de rfl rfl (fun _=>br) (uP J)) (zP bT rfl (zh (fun w I=>aa (.inr (ah rfl (uL rfl (pu bF rfl (aa (aj ?_)))))))))
    cases F
    exact uJ I rfl
   refine ifE F (fun Y F=>?_) (fun Y F=>?_)
   ·
    refine zo (uF o 1) rfl (fun w I=>av 1 zu54 zs3 rfl rfl Y (by decide) 1 rfl br) (zG 1 (iv f) zi3 rfl rfl (ifE F (fun K F=>?_) (fun K F=>?_)))
    ·
     refine zo bF rfl (fun w I=>de rfl rfl (uO K) (fun _=>br)) (zP bF rfl (zh (fun w I=>aa (.inl ⟨rfl,⟨(uK rfl),I.pk [1,0] rfl,F⟩⟩))))
    refine zo bT rfl (fun w I=>de rfl rfl (fun _=>br) (uP K)) (zP bT rfl (zh (fun w I=>aa (.inr (ah rfl (uL rfl (pu bF rfl (aa (aj ?_)))))))))
    cases F
    exact uJ I rfl
   refine ifE F (fun Z F=>?_) (fun Z F=>?_)
   ·
    refine zo (uF o 2) rfl (fun w I=>av 2 zu54 zs3 rfl rfl Z (by decide) 2 rfl br) (zG 1 (iv g) zi3 rfl rfl (ifE F (fun L F=>?_) (fun L F=>?_)))
    ·
     refine zo bF rfl (fun w I=>de rfl rfl (uO L) (fun _=>br)) (zP bF rfl (zh (fun w I=>aa (.inl ⟨rfl,⟨(uK rfl),I.pk [1,0] rfl,F⟩⟩))))
    refine zo bT rfl (fun w I=>de rfl rfl (fun _=>br) (uP L)) (zP bT rfl (zh (fun w I=>aa (.inr (ah rfl (uL rfl (pu bF rfl (aa (aj ?_)))))))))
    cases F
    exact uJ I rfl
   refine ifE F (fun a0 F=>?_) (fun a0 F=>?_)
   ·
    refine zo (uF o 3) rfl (fun w I=>av 3 zu54 zs3 rfl rfl a0 (by decide) 3 rfl br) (zG 1 (iv i) zi3 rfl rfl (ifE F (fun M F=>?_) (fun M F=>?_)))
    ·
     refine zo bF rfl (fun w I=>de rfl rfl (uO M) (fun _=>br)) (zP bF rfl (zh (fun w I=>aa (.inl ⟨rfl,⟨(uK rfl),I.pk [1,0] rfl,F⟩⟩))))
    refine zo bT rfl (fun w I=>de rfl rfl (fun _=>br) (uP M)) (zP bT rfl (zh (fun w I=>aa (.inr (ah rfl (uL rfl (pu bF rfl (aa (aj ?_)))))))))
    cases F
    exact uJ I rfl
   refine ifE F (fun a1 F=>?_) (fun a1 F=>?_)
   ·
    refine zo (uF o 4) rfl (fun w I=>av 4 zu54 zs3 rfl rfl a1 (by decide) 4 rfl br) (zG 1 (iv j) zi3 rfl rfl (ifE F (fun O F=>?_) (fun O F=>?_)))
    ·
     refine zo bF rfl (fun w I=>de rfl rfl (uO O) (fun _=>br)) (zP bF rfl (zh (fun w I=>aa (.inl ⟨rfl,⟨(uK rfl),I.pk [1,0] rfl,F⟩⟩))))
    refine zo bT rfl (fun w I=>de rfl rfl (fun _=>br) (uP O)) (zP bT rfl (zh (fun w I=>aa (.inr (ah rfl (uL rfl (pu bF rfl (aa (aj ?_)))))))))
    cases F
    exact uJ I rfl
   refine ifN F (fun a2 F=>?_) (fun a2 F=>?_)
   ·
    cases F
   refine zo (uF o 5) rfl (fun w I=>av 5 zu54 zs3 rfl rfl a2 (by decide) 5 rfl br) (zG 1 (iv l) zi3 rfl rfl (ifE F (fun P F=>?_) (fun P F=>?_)))
   ·
    refine zo bF rfl (fun w I=>de rfl rfl (uO P) (fun _=>br)) (zP bF rfl (zh (fun w I=>aa (.inl ⟨rfl,⟨(uK rfl),I.pk [1,0] rfl,F⟩⟩))))
   refine zo bT rfl (fun w I=>de rfl rfl (fun _=>br) (uP P)) (zP bT rfl (zh (fun w I=>aa (.inr (ah rfl (uL rfl (pu bF rfl (aa (aj ?_)))))))))
   cases F
   exact uJ I rfl
  intro ρ w hJ
  obtain ⟨hag,I,F⟩:=hJ
  obtain ⟨ρ,rfl⟩:=hag.form
  unfold F96j3 at F
  refine ai rfl (ak (rgn rfl (pu2 (pt s) (pt s) rfl (xg I 1 (iv a.p) zi3 rfl (ifE F (fun Q F=>?_) (fun Q F=>?_))))))
  ·
   refine xv 0 zu54 zs3 rfl Q (by decide) 0 rfl (xg I 0 (iv e) zi3 rfl (ckE F (fun aA F=>xa rfl aA (xv 0 zu54 zs3 rfl Q (by decide) 0 rfl (xq I 0 1 [iv (e+1)] zs3 rfl (mx rfl) fun w I=>aa (.inl ⟨rfl,⟨e+1,f,g,i,j,l,(uK rfl),I.pk [0] rfl,F⟩⟩))))))
  refine ifE F (fun R F=>?_) (fun R F=>?_)
  ·
   refine xv 1 zu54 zs3 rfl R (by decide) 1 rfl (xg I 0 (iv f) zi3 rfl (ckE F (fun aB F=>xa rfl aB (xv 1 zu54 zs3 rfl R (by decide) 1 rfl (xq I 0 1 [iv (f+1)] zs3 rfl (mx rfl) fun w I=>aa (.inl ⟨rfl,⟨e,f+1,g,i,j,l,(uK rfl),I.pk [0] rfl,F⟩⟩))))))
  refine ifE F (fun S F=>?_) (fun S F=>?_)
  ·
   refine xv 2 zu54 zs3 rfl S (by decide) 2 rfl (xg I 0 (iv g) zi3 rfl (ckE F (fun aC F=>xa rfl aC (xv 2 zu54 zs3 rfl S (by decide) 2 rfl (xq I 0 1 [iv (g+1)] zs3 rfl (mx rfl) fun w I=>aa (.inl ⟨rfl,⟨e,f,g+1,i,j,l,(uK rfl),I.pk [0] rfl,F⟩⟩))))))
  refine ifE F (fun T F=>?_) (fun T F=>?_)
  ·
   refine xv 3 zu54 zs3 rfl T (by decide) 3 rfl (xg I 0 (iv i) zi3 rfl (ckE F (fun aD F=>xa rfl aD (xv 3 zu54 zs3 rfl T (by decide) 3 rfl (xq I 0 1 [iv (i+1)] zs3 rfl (mx rfl) fun w I=>aa (.inl ⟨rfl,⟨e,f,g,i+1,j,l,(uK rfl),I.pk [0] rfl,F⟩⟩))))))
  refine ifE F (fun U F=>?_) (fun U F=>?_)
  ·
   refine xv 4 zu54 zs3 rfl U (by decide) 4 rfl (xg I 0 (iv j) zi3 rfl (ckE F (fun aE F=>xa rfl aE (xv 4 zu54 zs3 rfl U (by decide) 4 rfl (xq I 0 1 [iv (j+1)] zs3 rfl (mx rfl) fun w I=>aa (.inl ⟨rfl,⟨e,f,g,i,j+1,l,(uK rfl),I.pk [0] rfl,F⟩⟩))))))
  refine ifN F (fun V F=>?_) (fun V F=>?_)
  ·
   cases F
  refine xv 5 zu54 zs3 rfl V (by decide) 5 rfl (xg I 0 (iv l) zi3 rfl (ckE F (fun aF F=>xa rfl aF (xv 5 zu54 zs3 rfl V (by decide) 5 rfl (xq I 0 1 [iv (l+1)] zs3 rfl (mx rfl) fun w I=>aa (.inl ⟨rfl,⟨e,f,g,i,j,l+1,(uK rfl),I.pk [0] rfl,F⟩⟩))))))
 intro ρ w hJ
 obtain ⟨y,z,A,B,C,D,hag,I,F⟩:=hJ
 obtain ⟨ρ,rfl⟩:=hag.form
 unfold F96j2 at F
 refine rgn rfl (ckE F (fun aG F=>xa rfl aG (pu (iv (q+1)) rfl (aa (⟨rfl,m1,Nat.lt_succ_self _,⟨y,z,A,B,C,D,q+1,m1,(uK rfl),I.pk [0] rfl,F,rfl⟩⟩)))))
theorem L152 (w0:World) (e:Option Addr) (f:Nat) (a:List Int) (k:bi w0 e (al eInt a)) (t:a.length≤9223372036854775807) (u:a.length≤f) (N:Nat) (r:Int) (F:F152 N a=some r):bn Tryz.prog 152 [uM e a f] w0 fun v w=>v=iv r∧Below w0.heap.size w0 w:=by
 refine az (n:=18) func152 rfl ntmps152 rfl ?_
 have I:=Inv.start w0
 unfold F152 at F
 refine uL rfl (pu (iv 0) rfl (aa (uL rfl (pu (iv 0) rfl (aa (ab (uL rfl (pu3 (uM e a f) (iv ((a.length:Nat):Int)) (iv 0) (by kernel_rfl) (aa (au (cb (fun m ρ w=>∃ b mm,cd ρ [(3,iv 0),(6,uM e a f),(7,iv (a.length:Int)),(8,iv b)]∧Inv [] w0 w []∧F152l1 a mm b=some r∧mm=m) (m:=N) ⟨0,N,(uK rfl),I.pk [] rfl,F,rfl⟩ ?_)))))))))))
 rintro m ρ w ⟨b,mm,hag,I,F,hm⟩
 subst hm; obtain ⟨ρ,rfl⟩:=hag.form
 obtain _ | m1:=mm
 ·cases (show (none:Option Int)=some r from F)
 replace F:F152b1 a (F152l1 a m1) b=some r:=F; unfold F152b1 at F
 refine uL rfl (ifN F (fun g F=>?_) (fun g F=>?_))
 ·
  refine xl rfl (uP g) (fun _=>aa (ab (ai rfl (bw (uL rfl (pu2 (iv 0) (iv 0) rfl (aa (aj ?_))))))))
  cases F
  exact uJ I rfl


 refine xl rfl (fun _=>?_) (uO g)
 refine aa (ab (ah rfl (ak (ab (au (uL rfl (gdE F (fun l F=>bt F (fun d j F=>?_)))))))))
 obtain ⟨x,y,o,p,q⟩:=k.at_ cy (by decide) j
 refine ph (cn (b).toNat zu64 zs3 rfl o rfl (Int.toNat_of_nonneg l).symm (fa j rfl) (ph (dj I (iv d) zi3 rfl p (by simp) (q 0 _ rfl) (pu (iv d) rfl (aa (uL rfl (pu2 (iv d) (iv 0) rfl (ifN F (fun i F=>?_) (fun i F=>?_)))))))))
 ·
  refine xn rfl (fun _=>?_) (uP i)
  refine aa (ah rfl (uL rfl (pu2 (iv d) (iv d) rfl (aa (aj ?_)))))
  cases F
  exact uJ I rfl
 refine xn rfl (uO i) (fun _=>aa (ai rfl (ak (rgn rfl (ckE F (fun s F=>xa rfl s (pu (iv (b+1)) rfl (aa (⟨rfl,m1,Nat.lt_succ_self _,⟨b+1,m1,(uK rfl),I.pk [] rfl,F,rfl⟩⟩)))))))))
theorem L168 (w0:World) (a:Int) (r:Bool) (F:F168 a=some r):bn Tryz.prog 168 [iv a] w0 fun v w=>v=.bool r∧Below w0.heap.size w0 w:=by
 refine az (n:=6) func168 rfl ntmps168 rfl ?_
 have I:=Inv.start w0
 unfold F168 at F
 refine uL rfl (pu bF rfl (aa (uL rfl (pu2 (iv a) (iv a) rfl (xn rfl (uO rfl) (fun _=>pu bF rfl (aa (aj ?_))))))))
 cases F
 exact uJ I rfl


theorem L153 (w0:World) (a:Int) (b:Int) (r:Int) (F:F153 a b=some r):bn Tryz.prog 153 [iv a,iv b] w0 fun v w=>v=iv r∧Below w0.heap.size w0 w:=by
 refine az (n:=20) func153 rfl ntmps153 rfl ?_
 have I:=Inv.start w0
 unfold F153 at F
 refine uL rfl (pu (iv 0) rfl (aa (dn (fun ρ w=>∃ xNaN_13,cd ρ [(0,iv a),(1,iv b),(5,.bool xNaN_13)]∧Inv [] w0 w []∧F153j1 a b xNaN_13=some r) ?_ ?_)))
 ·
  refine rgn rfl (pu (iv a) rfl (bt F (fun k i F=>ifE F (fun d F=>?_) (fun d F=>?_))))
  ·
   refine ph (bg I 168 _ _ (by kernel_rfl) (bn.mono (L168 _ a _ i) (uH d)) fun w I=>pu bT (by kernel_rfl) (aa (.inl ⟨rfl,⟨true,⟨rfl,rfl,rfl,trivial⟩,I.pk [] rfl,F⟩⟩)))
  refine ph (bg I 168 _ _ (by kernel_rfl) (bn.mono (L168 _ a _ i) (uH (Bool.eq_false_iff.2 d))) fun w I=>pu bF (by kernel_rfl) (aa (.inl ⟨rfl,⟨false,⟨rfl,rfl,rfl,trivial⟩,I.pk [] rfl,F⟩⟩)))
 intro ρ w hJ
 obtain ⟨xNaN_13,hag,I,F⟩:=hJ
 obtain ⟨ρ,rfl⟩:=hag.form
 unfold F153j1 at F
 refine dn (fun ρ w=>∃ yNaN_16,cd ρ [(0,iv a),(1,iv b),(5,.bool xNaN_13),(6,.bool yNaN_16)]∧Inv [] w0 w []∧F153j2 a b xNaN_13 yNaN_16=some r) ?_ ?_
 ·
  refine rgn rfl (pu (iv b) rfl (bt F (fun l j F=>ifE F (fun e F=>?_) (fun e F=>?_))))
  ·
   refine ph (bg I 168 _ _ (by kernel_rfl) (bn.mono (L168 _ b _ j) (uH e)) fun w I=>pu bT (by kernel_rfl) (aa (.inl ⟨rfl,⟨true,(uK rfl),I.pk [] rfl,F⟩⟩)))
  refine ph (bg I 168 _ _ (by kernel_rfl) (bn.mono (L168 _ b _ j) (uH (Bool.eq_false_iff.2 e))) fun w I=>pu bF (by kernel_rfl) (aa (.inl ⟨rfl,⟨false,(uK rfl),I.pk [] rfl,F⟩⟩)))
 intro ρ w hJ
 obtain ⟨yNaN_16,hag,I,F⟩:=hJ
 obtain ⟨ρ,rfl⟩:=hag.form
 unfold F153j2 at F
 refine ab (ab ?_)
 have hG:=F; rcases Bool.eq_false_or_eq_true xNaN_13 with rfl | rfl
 ·
  have F:=hG; clear hG
  refine ifE F (fun _ F=>?_) (uO rfl)
  refine rgn rfl (pu bT rfl (aa (ah rfl (ab (ab ?_)))))
  have hG:=F; rcases Bool.eq_false_or_eq_true yNaN_16 with rfl | rfl
  ·
   have F:=hG; clear hG
   refine ifE F (fun _ F=>?_) (uO rfl)
   refine rgn rfl (pu bT rfl (aa (ah rfl (uL rfl (pu (iv 0) rfl (aa (aj ?_)))))))
   cases F
   exact uJ I rfl
  have F:=hG; clear hG
  refine ifE F (fun h=>absurd h (by decide)) (fun _ F=>rgn rfl (pu bF rfl (aa (ai rfl (ak (uL rfl (pu (iv (-1)) rfl (aa (aj ?_)))))))))
  cases F
  exact uJ I rfl
 have F:=hG; clear hG
 refine ifE F (fun h=>absurd h (by decide)) (fun _ F=>rgn rfl (pu bF rfl (aa (ai rfl (ak (ab (ab ?_)))))))
 have hG:=F; rcases Bool.eq_false_or_eq_true yNaN_16 with rfl | rfl
 ·
  have F:=hG; clear hG
  refine ifE F (fun _ F=>?_) (uO rfl)
  refine rgn rfl (pu bT rfl (aa (ah rfl (uL rfl (pu (iv 1) rfl (aa (aj ?_)))))))
  cases F
  exact uJ I rfl
 have F:=hG; clear hG
 refine ifE F (fun h=>absurd h (by decide)) (fun _ F=>rgn rfl (pu bF rfl (aa (ai rfl (ak (ab (uL rfl (pu2 (iv a) (iv b) rfl (ifE F (fun f F=>?_) (fun f F=>?_))))))))))
 ·
  refine xl rfl (fun _=>?_) (uO f)
  refine aa (ah rfl (uL rfl (pu (iv (-1)) rfl (aa (aj ?_)))))
  cases F
  exact uJ I rfl
 refine xl rfl (uP f) (fun _=>aa (ai rfl (ak (ab (uL rfl (pu2 (iv a) (iv b) rfl (ifE F (fun g F=>?_) (fun g F=>?_))))))))
 ·
  refine ph (fh rfl rfl (fun _=>?_) (uO g))
  refine aa (ah rfl (uL rfl (pu (iv 1) rfl (aa (aj ?_)))))
  cases F
  exact uJ I rfl
 refine ph (fh rfl rfl (uP g) (fun _=>aa (ai rfl (ak (uL rfl (pu (iv 0) rfl (aa (aj ?_))))))))
 cases F
 exact uJ I rfl


theorem L107 (w0:World) (a:Rc) (e:Rc) (N:Nat) (r:Int) (F:F107 N a e=some r):bn Tryz.prog 107 [.agg (qg a).toArray,.agg (qg e).toArray] w0 fun v w=>v=iv r∧Below w0.heap.size w0 w:=by
 refine az (n:=21) func107 rfl ntmps107 rfl ?_
 have I:=Inv.start w0
 unfold F107 at F
 refine uL (by kernel_rfl) (ph (ca I _ rfl fun f w I=>ph (ca I _ rfl fun g w I=>pu (iv 0) (by kernel_rfl) (aa (ab (gm 14 I (by kernel_rfl) (zB (pt f) (pt f) (by kernel_rfl) (zg 1 (iv a.p) zi3 rfl (zB (pt g) (pt g) (by kernel_rfl) (zg 0 (iv e.p) zi3 rfl (bt F (fun i m F=>zc (iv i) (fun w I=>co 153 [iv a.p,iv e.p] (by kernel_rfl) (L153 _ a.p e.p _ m) uI) (zB (pt f) (uF f 1) (by kernel_rfl) (zg 1 (iv a.n) zi3 rfl (zB (pt g) (uF g 1) (by kernel_rfl) (zg 0 (iv e.n) zi3 rfl (bt F (fun l o F=>zc (iv l) (fun w I=>co 153 [iv a.n,iv e.n] (by kernel_rfl) (L153 _ a.n e.n _ o) uI) (zh (fun w I=>ph (fu I [iv i,iv l] 3 (fun b=>slv (some b) 2 2) (by kernel_rfl) fun q w I=>bt F (fun s x F=>ph (bg I 152 _ _ (by kernel_rfl) (L152 _ (some ⟨q,0,none⟩) 2 [i,l] (I.cells 0 (off:=0) rfl (fun j u h=>by rw [Nat.zero_add]; exact h)) (mx rfl) (Nat.le_refl _) N _ x) fun w I=>pu (iv s) (by kernel_rfl) (aa (aj ?_)))))))))))))))))))))))))
 cases F
 exact uJ I rfl


theorem L36 (w0:World) (g:Option Addr) (i:Nat) (e:List Rc) (j:bi w0 g (al eRc e)) (u:e.length≤9223372036854775807) (x:e.length≤i) (N:Nat) (r:Int) (F:F36 N e=some r):bn Tryz.prog 36 [.agg #[uM g e i]] w0 fun v w=>v=iv r∧Below w0.heap.size w0 w:=by
 refine az (n:=12) func36 rfl ntmps36 rfl ?_
 have I:=Inv.start w0
 unfold F36 at F
 refine uL rfl (ph (ca I _ rfl fun l w I=>pu (iv 0) rfl (aa (uL rfl (pu (pt l) rfl (xg I 0 (uM g e i) mv rfl (bt F (fun a0 y F=>ifN F (fun o F=>?_) (fun o F=>?_)))))))))
 ·
  refine ph (bg I 96 _ _ (by kernel_rfl) (bn.mono (L96 _ g i e (j.inv0 I) u x N _ y) (uH (Bool.eq_false_iff.2 o))) fun w I=>pu bF (by kernel_rfl) (sf 3 (by kernel_rfl) (pu bF (by kernel_rfl) (bt F (fun C D F=>ph (bg I 78 _ _ (by kernel_rfl) (L78 _ false 81 _ D) fun w I=>pu (iv C) (by kernel_rfl) (aa (aj ?_))))))))
  cases F
  exact uJ I rfl

 refine ph (bg I 96 _ _ (by kernel_rfl) (bn.mono (L96 _ g i e (j.inv0 I) u x N _ y) (uH o)) fun w I=>pu bT (by kernel_rfl) (pup (pt l) (by kernel_rfl) (aw (by kernel_rfl) (ag I 0 (uM g e i) mv rfl rfl rfl (aw (by kernel_rfl) (gr 106 [uM g e i,.func (.func 107) #[] #[]] (by kernel_rfl) (az (n:=25) func106 rfl ntmps106 rfl (uL (by kernel_rfl) (pu bF (by kernel_rfl) (aa (dn (fun ρ w=>cd ρ []∧Inv [] w0 w [(some l,blk [uM g e i] 47)]∧F36j1=some r) ?_ ?_)))))))))))
 ·
  refine uL rfl (pu2 (uM g e i) (iv ((e.length:Nat):Int)) (by kernel_rfl) (ckE F (fun E F=>ph (s_sub rfl rfl E (pu (iv ((e.length:Int) - 1)) rfl (aa (au (cb (fun m ρ w=>∃ f mm,cd ρ [(0,uM g e i),(1,.func (.func 107) #[] #[]),(5,iv f)]∧Inv [] w0 w [(some l,blk [uM g e i] 47)]∧F36l2 e N mm f=some r∧mm=m) (m:=N) ⟨(e.length:Int) - 1,N,⟨rfl,rfl,rfl,trivial⟩,I.pk [0] rfl,F,rfl⟩ ?_))))))))
  rintro m ρ w ⟨f,mm,hag,I,F,hm⟩
  subst hm; obtain ⟨ρ,rfl⟩:=hag.form
  obtain _ | m2:=mm
  ·cases (show (none:Option Int)=some r from F)
  replace F:F36b2 e N (F36l2 e N m2) f=some r:=F; unfold F36b2 at F
  refine ab (uL rfl (pu (iv f) rfl (ifN F (fun q F=>?_) (fun q F=>?_))))
  ·
   refine ph (fh rfl rfl (uP q) (fun _=>aa (ai rfl (bw (.inl ⟨rfl,⟨trivial,I.pk [0] rfl,F⟩⟩)))))
  refine ph (fh rfl rfl (fun _=>?_) (uO q))
  refine aa (ah rfl (ak (ab (au (ab (gm 12 I (by kernel_rfl) (zB (.func (.func 107) #[] #[]) (uM g e i) rfl (zP (iv f) rfl (gdE F (fun G F=>bt F (fun a z F=>?_)))))))))))
  obtain ⟨H,J,K,L,M⟩:=j.at_ bx (by decide) z
  refine zc (uF H (J+(f).toNat * 8)) (fun w I=>cn (f).toNat nt md rfl K rfl (Int.toNat_of_nonneg G).symm (fa z rfl) br) (zc (.agg (qg a).toArray) (fun w I=>ef I (qg a) mh md rfl rfl L (by simp) M br) (zB (uM g e i) (iv f) rfl (ckE F (fun A F=>zc (iv (f - 1)) (fun w I=>s_sub rfl rfl A br) (gdE F (fun O F=>bt F (fun b B F=>?_)))))))
  obtain ⟨P,Q,R,S,T⟩:=j.at_ bx (by decide) B
  refine zc (uF P (Q+((f - 1).toNat) * 8)) (fun w I=>cn ((f - 1).toNat) nt md rfl R rfl (Int.toNat_of_nonneg O).symm (fa B rfl) br) (zc (.agg (qg b).toArray) (fun w I=>ef I (qg b) mh md rfl rfl S (by simp) T br) (bt F (fun U V F=>zc (iv U) (fun w I=>co 107 [.agg (qg a).toArray,.agg (qg b).toArray] (by kernel_rfl) (L107 _ a b N _ V) uI) (ifN F (fun s F=>?_) (fun s F=>?_)))))
  ·
   refine zc bF (fun w I=>cm rfl rfl (uP s) (fun _=>br)) (zh (fun w I=>aa (ai rfl (ak (rgn rfl (pu (iv f) rfl (ph (s_sub rfl rfl A (pu (iv (f - 1)) rfl (aa (⟨rfl,m2,Nat.lt_succ_self _,⟨f - 1,m2,⟨rfl,rfl,rfl,trivial⟩,I.pk [0] rfl,F,rfl⟩⟩)))))))))))
  refine zc bT (fun w I=>cm rfl rfl (fun _=>br) (uO s)) (zh (fun w I=>aa (ah rfl (uL rfl (pu bF rfl (aa (aj (⟨bF,Ret.r1 rfl rfl,?_⟩))))))))
  refine pu bF (by kernel_rfl) (bt F (fun W X F=>ph (bg I 78 _ _ (by kernel_rfl) (L78 _ false 81 _ X) fun w I=>pu (iv W) (by kernel_rfl) (aa (aj ?_)))))
  cases F
  exact uJ I rfl
 intro ρ w hJ
 obtain ⟨hag,I,F⟩:=hJ
 obtain ⟨ρ,rfl⟩:=hag.form
 unfold F36j1 at F
 refine uL rfl (pu bT rfl (aa (aj (⟨bT,Ret.r1 rfl rfl,?_⟩))))
 refine pu bT (by kernel_rfl) (bt F (fun Y Z F=>ph (bg I 78 _ _ (by kernel_rfl) (L78 _ true 81 _ Z) fun w I=>pu (iv Y) (by kernel_rfl) (aa (aj ?_)))))
 cases F
 exact uJ I rfl
theorem L102 (w0:World) (d:Option Addr) (e:Nat) (a:List Rc) (f:bi w0 d (al eRc a)) (g:a.length≤9223372036854775807) (h:a.length≤e) (r:List Rc) (F:F102 a=some r):bn Tryz.prog 102 [uM d a e] w0 fun v w=>∃ z0 z1 z2,v=uN z0 r z1∧Inv [] w0 w [(z0,blk z2 25)]∧Row 8 z0 r.length z1 z2 (al eRc r):=by
 refine gdE F (fun hb F=>?_)
 cases F
 refine az (n:=8) func102 rfl ntmps102 rfl ?_
 have I:=Inv.start w0
 refine uL rfl (pu uD rfl (aa (ab (uL rfl (pu (uM d a e) rfl (ph (s_eqnil nt rfl rfl ?_ ?_)))))))
 · intro h1; subst h1
   obtain rfl:=flat_nil_of bx (by decide) f.nil_of
   refine aa (ah rfl (uL rfl (pu uD rfl (aa (aj ?_)))))
   have I:=I.nilRow 25
   exact ⟨uD,Ret.r1 rfl rfl,⟨none,0,[],rfl,I.pk [0] rfl,Row.nil_ 8⟩⟩
 intro h2
 refine aa (ai rfl (ak (uL rfl (ph (fu I [] 25 (fun b=>slv (some b) 0 0) (by kernel_rfl) fun b1 w I=>pu (uM d a e) (by kernel_rfl) (ph (ks I nt (z:=.agg #[iv 0,iv 0,iv 0,iv 0,iv 0,iv 0,iv 0,uE []]) (k:=8) (bytes:=72) rfl rfl rfl 0 rfl rfl (Row.zero_ 8 b1) (al eRc a) rfl (dt bx _) (f.inv0 I) (nz eRc_cell _) (by omega) (by omega) (n2:=a.length) (by omega) fun g2 c3 cl4 w I r5=>pu (uN g2 a c3) rfl (aa (aj (⟨uN g2 a c3,Ret.r1 rfl rfl,⟨g2,c3,cl4,rfl,I.pk [0] rfl,r5⟩⟩))))))))))


theorem L97 (w0:World) (f:Option Addr) (g:Nat) (a:List Rc) (i:bi w0 f (al eRc a)) (j:a.length≤9223372036854775807) (k:a.length≤g) (r:List Rc) (F:F97 a=some r):bn Tryz.prog 97 [.slice f a.length g] w0 fun v w=>∃ z0 z1 z2,v=.agg #[slv z0 r.length z1]∧Inv [] w0 w [(z0,blk z2 25)]∧Row 8 z0 r.length z1 z2 (al eRc r):=by
 refine az (n:=10) func97 rfl ntmps97 rfl ?_
 have I:=Inv.start w0
 unfold F97 at F
 refine uL (by kernel_rfl) (ph (bh I _ zeroValue47 rfl fun p w I=>aa (uL (by kernel_rfl) (pu (.slice f a.length g) (by kernel_rfl) (bt F (fun e l F=>ph (co 102 _ (by kernel_rfl) (L102 _ f g a (i.inv0 I) j k _ l) ?_)))))))
 rintro v w ⟨b,d,q,rfl,hN,m⟩
 have I:=I.join hN; clear hN
 refine pu (slv b e.length d) rfl (aa (uL rfl (pu (slv b e.length d) rfl (gdE F (fun h7 F=>gdE F (fun h8 F=>ph (co 151 [slv b e.length d,.func (.func 107) #[] #[]] (by kernel_rfl) (sortRc_c I 0 rfl m h7 h8) ?_)))))))
 rintro v w ⟨rfl,o,I,h⟩
 refine aa (uL rfl (pu2 (slv b e.length d) (.agg #[slv b e.length d]) (by kernel_rfl) (xi I 1 _ zs47 rfl fun w I=>aa (aj ?_))))
 cases F
 exact ⟨_,Ret.c rfl rfl (ce I 1 1 [slv b e.length d] zi47 zs47 rfl rfl rfl),⟨b,d,o,(by first | rfl | exact slv_n (Row.n_eq (by assumption) ew (by decide)) | (exact slv_n (Row.n_eq (by assumption) bx (by decide))) | (simp only [srtRc_len,List.length_set,sortI_len] <;> rfl)),I.pk [0] rfl,h.to rfl (h.n_eq bx (by decide))⟩⟩


theorem L100 (w0:World) (j:Option Addr) (l:Nat) (f:List Rc) (a:Rc) (z:bi w0 j (al eRc f)) (K:f.length≤9223372036854775807) (L:f.length≤l) (N:Nat) (r:(Bool × Int)) (F:F100 N f a=some r):bn Tryz.prog 100 [uM j f l,.agg (qg a).toArray] w0 fun v w=>v=.tuple #[.bool r.1,iv r.2]∧Below w0.heap.size w0 w:=by
 refine az (n:=27) func100 rfl ntmps100 rfl ?_
 have I:=Inv.start w0
 unfold F100 at F
 refine uL rfl (ph (ca I _ rfl fun o w I=>pu2 bF (iv 0) rfl (aa (ab (uL rfl (pu3 (uM j f l) (iv ((f.length:Nat):Int)) (iv 0) (by kernel_rfl) (aa (au (cb (fun m ρ w=>∃ g mm,cd ρ [(3,pt o),(8,uM j f l),(9,iv (f.length:Int)),(10,iv g)]∧Inv [] w0 w [(some o,blk (qg a) 25)]∧F100l1 f a mm g=some r∧mm=m) (m:=N) ⟨0,N,(uK rfl),I.pk [0] rfl,F,rfl⟩ ?_)))))))))
 rintro m ρ w ⟨g,mm,hag,I,F,hm⟩
 subst hm; obtain ⟨ρ,rfl⟩:=hag.form
 obtain _ | m1:=mm
 ·cases (show (none:Option (Bool × Int))=some r from F)
 replace F:F100b1 f a (F100l1 f a m1) g=some r:=F; unfold F100b1 at F
 refine uL rfl (ifN F (fun q F=>?_) (fun q F=>?_))
 ·
  refine xl rfl (uP q) (fun _=>aa (ab (ai rfl (bw (uL rfl (pu2 bF (iv 0) rfl (aa (aj ?_))))))))
  cases F
  exact ⟨_,Ret.r2 rfl rfl rfl,⟨rfl,I.below⟩⟩


 refine xl rfl (fun _=>?_) (uO q)
 refine aa (ab (ah rfl (ak (ab (au (uL rfl (gdE F (fun A F=>bt F (fun e u F=>?_)))))))))
 obtain ⟨M,O,B,C,D⟩:=z.at_ bx (by decide) u
 refine ph (cn (g).toNat nt md rfl B rfl (Int.toNat_of_nonneg A).symm (fa u rfl) (ph (ef I (qg e) mh md rfl rfl C (by simp) D (ph (bh I _ zeroValue25 rfl fun E w I=>xi I 0 _ md rfl fun w I=>aa (uL rfl (pu (pt E) rfl (xr I 0 2 [iv e.p,iv e.n] zi23 zs23 rfl (pu (pt o) rfl (xr I 1 2 [iv a.p,iv a.n] zi23 zs23 rfl (ifN F (fun s F=>?_) (fun s F=>?_))))))))))))
 ·
  refine ph (kz (b:=decide (e.p=a.p) && decide (e.n=a.n)) rfl rfl (by kernel_rfl) (fun w=>eq23 _ e.p e.n a.p a.n w) (uP s) (fun _=>aa (ai rfl (ak (rgn rfl (ckE F (fun G F=>xa rfl G (pu (iv (g+1)) rfl (aa (⟨rfl,m1,Nat.lt_succ_self _,⟨g+1,m1,(uK rfl),I.pk [1] rfl,F,rfl⟩⟩))))))))))
 refine ph (kz (b:=decide (e.p=a.p) && decide (e.n=a.n)) rfl rfl (by kernel_rfl) (fun w=>eq23 _ e.p e.n a.p a.n w) (fun _=>?_) (uO s))
 refine aa (ah rfl (ab (gm 9 I (by kernel_rfl) (zm 0 (qg e) mh md rfl (zm 1 (qg a) mh md rfl (ifE F (fun i F=>?_) (fun i F=>?_)))))))
 ·
  refine zc bT (fun w I=>kz (b:=decide (e.p=a.p) && decide (e.n=a.n) && decide (e.k=a.k) && decide (e.d=a.d) && decide (e.kn=a.kn) && decide (e.op=a.op) && decide (e.on=a.on) && decide (e.t=a.t)) rfl rfl (by kernel_rfl) (fun w=>eq25 _ e.p e.n e.k e.d e.kn e.op e.on e.t a.p a.n a.k a.d a.kn a.op a.on a.t w) (fun _=>br) (uO i)) (zm 0 (qg e) mh md rfl (zm 1 (qg a) mh md rfl (zc bT (fun w I=>kz (b:=decide (e.p=a.p) && decide (e.n=a.n) && decide (e.k=a.k) && decide (e.d=a.d) && decide (e.kn=a.kn) && decide (e.op=a.op) && decide (e.on=a.on) && decide (e.t=a.t)) rfl rfl (by kernel_rfl) (fun w=>eq25 _ e.p e.n e.k e.d e.kn e.op e.on e.t a.p a.n a.k a.d a.kn a.op a.on a.t w) (fun _=>br) (uO i)) (bt F (fun x H F=>zc (iv x) (fun w I=>co 78 [bT,iv 82] (by kernel_rfl) (L78 _ true 82 _ H) uI) (zB bT (iv x) rfl (zh (fun w I=>aa (aj ?_)))))))))
  cases F
  exact ⟨_,Ret.r2 rfl rfl rfl,⟨rfl,I.below⟩⟩
 refine zc bF (fun w I=>kz (b:=decide (e.p=a.p) && decide (e.n=a.n) && decide (e.k=a.k) && decide (e.d=a.d) && decide (e.kn=a.kn) && decide (e.op=a.op) && decide (e.on=a.on) && decide (e.t=a.t)) rfl rfl (by kernel_rfl) (fun w=>eq25 _ e.p e.n e.k e.d e.kn e.op e.on e.t a.p a.n a.k a.d a.kn a.op a.on a.t w) (uP i) (fun _=>br)) (zm 0 (qg e) mh md rfl (zm 1 (qg a) mh md rfl (zc bF (fun w I=>kz (b:=decide (e.p=a.p) && decide (e.n=a.n) && decide (e.k=a.k) && decide (e.d=a.d) && decide (e.kn=a.kn) && decide (e.op=a.op) && decide (e.on=a.on) && decide (e.t=a.t)) rfl rfl (by kernel_rfl) (fun w=>eq25 _ e.p e.n e.k e.d e.kn e.op e.on e.t a.p a.n a.k a.d a.kn a.op a.on a.t w) (uP i) (fun _=>br)) (bt F (fun y J F=>zc (iv y) (fun w I=>co 78 [bF,iv 82] (by kernel_rfl) (L78 _ false 82 _ J) uI) (zB bF (iv y) rfl (zh (fun w I=>aa (aj ?_)))))))))
 cases F
 exact ⟨_,Ret.r2 rfl rfl rfl,⟨rfl,I.below⟩⟩
theorem L101 (w0:World) (i:Option Addr) (j:Nat) (a:List Rc) (e:Int) (x:bi w0 i (al eRc a)) (E:a.length≤9223372036854775807) (G:a.length≤j) (N:Nat) (r:Int) (F:F101 N a e=some r):bn Tryz.prog 101 [uM i a j,iv e] w0 fun v w=>v=iv r∧Below w0.heap.size w0 w:=by
 refine az (n:=23) func101 rfl ntmps101 rfl ?_
 have I:=Inv.start w0
 unfold F101 at F
 refine uL rfl (pu (iv 0) rfl (aa (uL rfl (pu (iv 0) rfl (aa (ab (uL rfl (pu3 (uM i a j) (iv ((a.length:Nat):Int)) (iv 0) (by kernel_rfl) (aa (au (cb (fun m ρ w=>∃ b f mm,cd ρ [(1,iv e),(5,iv b),(8,uM i a j),(9,iv (a.length:Int)),(10,iv f)]∧Inv [] w0 w []∧F101l1 a e mm b f=some r∧mm=m) (m:=N) ⟨0,0,N,(uK rfl),I.pk [] rfl,F,rfl⟩ ?_)))))))))))
 rintro m ρ w ⟨b,f,mm,hag,I,F,hm⟩
 subst hm; obtain ⟨ρ,rfl⟩:=hag.form
 obtain _ | m1:=mm
 ·cases (show (none:Option Int)=some r from F)
 replace F:F101b1 a e (F101l1 a e m1) b f=some r:=F; unfold F101b1 at F
 refine uL rfl (ifN F (fun o F=>?_) (fun o F=>?_))
 ·
  refine xl rfl (uP o) (fun _=>aa (ab (ai rfl (bw (uL rfl (pu2 (iv b) (iv b) rfl (aa (aj ?_))))))))
  cases F
  exact uJ I rfl


 refine xl rfl (fun _=>?_) (uO o)
 refine aa (ab (ah rfl (ak (dn (fun ρ w=>∃ l,cd ρ [(1,iv e),(5,iv l),(8,uM i a j),(9,iv (a.length:Int)),(10,iv f)]∧Inv [] w0 w []∧F101j2 (F101l1 a e m1) f l=some r) ?_ ?_))))
 ·
  refine au (uL rfl (gdE F (fun y F=>bt F (fun g s F=>?_))))
  obtain ⟨H,J,z,A,B⟩:=x.at_ bx (by decide) s
  refine ph (cn (f).toNat nt md rfl z rfl (Int.toNat_of_nonneg y).symm (fa s rfl) (ph (ef I (qg g) mh md rfl rfl A (by simp) B (ph (bh I _ zeroValue25 rfl fun u w I=>xi I 0 _ md rfl fun w I=>aa (uL rfl (pu2 (pt u) (pt u) rfl (xg I 0 (iv g.p) zi3 rfl (pu (iv e) rfl (ifN F (fun q F=>?_) (fun q F=>?_)))))))))))
  ·
   refine xe rfl (uP q) (fun _=>aa (ai rfl (ak (.inl ⟨rfl,⟨b,(uK rfl),I.pk [] rfl,F⟩⟩))))
  refine xe rfl (fun _=>?_) (uO q)
  refine aa (ah rfl (rgn rfl (pu (iv b) rfl (ckE F (fun C F=>xa rfl C (pu (iv (b+1)) rfl (aa (.inl ⟨rfl,⟨b+1,(uK rfl),I.pk [] rfl,F⟩⟩))))))))
 intro ρ w hJ
 obtain ⟨l,hag,I,F⟩:=hJ
 obtain ⟨ρ,rfl⟩:=hag.form
 unfold F101j2 at F
 refine rgn rfl (ckE F (fun D F=>xa rfl D (pu (iv (f+1)) rfl (aa (⟨rfl,m1,Nat.lt_succ_self _,⟨l,f+1,m1,(uK rfl),I.pk [] rfl,F,rfl⟩⟩)))))
theorem L29 (w0:World) (f:Option Addr) (i:Nat) (e:List Rc) (a:Rc) (D:bi w0 f (al eRc e)) (E:e.length≤9223372036854775807) (G:e.length≤i) (N:Nat) (r:(List Rc × Int)) (F:F29 N e a=some r):bn Tryz.prog 29 [.agg #[uM f e i],.agg (qg a).toArray] w0 fun v w=>∃ z0 z1 z2,v=.tuple #[.agg #[uN z0 r.1 z1],iv r.2]∧Inv [] w0 w [(z0,blk z2 25)]∧Row 8 z0 r.1.length z1 z2 (al eRc r.1):=by
 refine az (n:=65) func29 rfl ntmps29 rfl ?_
 have I:=Inv.start w0
 unfold F29 at F
 refine uL (by kernel_rfl) (ph (ca I _ rfl fun o w I=>ph (ca I _ rfl fun q w I=>ph (bh I _ zeroValue47 rfl fun A w I=>pu (iv 0) (by kernel_rfl) (aa (ab (ab (gm 4 I (by kernel_rfl) (zc (.agg #[uM f e i]) (fun w I=>ma I 2 zi47 zs47 rfl rfl rfl br) (bt F (fun M aC F=>zc (iv M) (fun w I=>co 36 [.agg #[uM f e i]] (by kernel_rfl) (L36 _ f i e (D.inv0 I) E G N _ aC) uI) (zm 1 (qg a) mh md rfl (bt F (fun O aD F=>zc (iv O) (fun w I=>co 17 [.agg (qg a).toArray] (by kernel_rfl) (L17 _ a N _ aD) uI) (zh (fun w I=>ph (fu I [iv M,iv O] 26 (fun b=>slv (some b) 2 2) (by kernel_rfl) fun aE w I=>bt F (fun H aF F=>ph (bg I 86 _ _ (by kernel_rfl) (L86 _ (some ⟨aE,0,none⟩) 2 [M,O] (I.cells 0 (off:=0) rfl (fun j u h=>by rw [Nat.zero_add]; exact h)) (mx rfl) (Nat.le_refl _) N _ aF) fun w I=>pu (iv H) (by kernel_rfl) (aa (uL (by kernel_rfl) (pu (iv H) (by kernel_rfl) (ifN F (fun P F=>?_) (fun P F=>?_))))))))))))))))))))))))
 ·
  refine xn rfl (fun _=>?_) (uP P)
  refine aa (ah rfl (uL rfl (pu2 (.agg #[uD]) (iv H) (by kernel_rfl) (xi I 1 _ zs47 rfl fun w I=>pu (iv H) rfl (aa (aj ?_))))))
  have I:=I.nilRow 25
  cases F
  exact ⟨_,Ret.ct rfl rfl (ce I 2 1 [uD] zi47 zs47 rfl rfl rfl) rfl,⟨none,0,[],rfl,I.pk [0] rfl,Row.nil_ 8⟩⟩


 refine xn rfl (uO P) (fun _=>aa (ai rfl (ak (uL (by kernel_rfl) (pu (pt o) (by kernel_rfl) (xg I 3 (uM f e i) mv rfl (xm I 2 mh md rfl (bt F (fun m aG F=>ph (bg I 100 _ _ (by kernel_rfl) (L100 _ f i e a (D.inv0 I) E G N _ aG) fun w I=>pu3 (.tuple #[.bool m.1,iv m.2]) (.bool m.1) (iv m.2) (by kernel_rfl) (pu2 (.bool m.1) (iv m.2) (by kernel_rfl) (aa (ab (ab (ifE F (fun Q F=>?_) (fun Q F=>?_))))))))))))))))
 ·
  rw [Q]
  refine rgn (by kernel_rfl) (pu bT (by kernel_rfl) (aa (ah rfl (uL (by kernel_rfl) (pu (pt o) (by kernel_rfl) (xg I 3 (uM f e i) mv rfl (bt F (fun aH aI F=>ph (co 97 _ (by kernel_rfl) (L97 _ f i e (D.inv0 I) E G _ aI) ?_)))))))))
  rintro v w ⟨a3,a4,aJ,rfl,hN,aK⟩
  have I:=I.join hN; clear hN
  refine xi I 2 _ zs47 rfl fun w I=>pu (iv 0) rfl (aa (aj ?_))
  cases F
  exact ⟨_,Ret.ct rfl rfl (ce I 2 1 [uN a3 aH a4] zi47 zs47 rfl rfl rfl) rfl,⟨a3,a4,aJ,rfl,I.pk [0] rfl,aK.to rfl rfl⟩⟩
 rw [(Bool.eq_false_iff.2 Q)]
 refine rgn rfl (pu bF rfl (aa (ai rfl (ak (dn (fun ρ w=>∃ x,cd ρ [(2,pt o),(3,pt q),(4,pt A),(8,iv m.2),(9,iv x)]∧Inv [] w0 w [(some o,blk [uM f e i] 47),(some q,blk (qg a) 25),(some A,blk [uD] 47)]∧F29j1 e a N m x=some r) ?_ ?_)))))
 ·
  refine gm 12 I (by kernel_rfl) (zB (pt q) (uF q 1) rfl (zg 2 (iv a.n) zi3 rfl (zP (pt o) rfl (zg 3 (uM f e i) mv rfl (zB (pt q) (pt q) rfl (zg 2 (iv a.p) zi3 rfl (bt F (fun aL aM F=>zc (iv aL) (fun w I=>co 101 [uM f e i,iv a.p] (by kernel_rfl) (L101 _ f i e a.p (D.inv0 I) E G N _ aM) uI) (ifE F (fun R F=>?_) (fun R F=>?_))))))))))
  ·
   refine zc bT (fun w I=>s_leq rfl rfl (fun _=>br) (uO R)) (bt F (fun S aN F=>zc (iv S) (fun w I=>co 78 [bT,iv 83] (by kernel_rfl) (L78 _ true 83 _ aN) uI) (zP (iv S) rfl (zh (fun w I=>aa (.inl ⟨rfl,⟨S,(uK rfl),I.pk [3,2,1] rfl,F⟩⟩))))))
  refine zc bF (fun w I=>s_leq rfl rfl (uP R) (fun _=>br)) (bt F (fun T aO F=>zc (iv T) (fun w I=>co 78 [bF,iv 83] (by kernel_rfl) (L78 _ false 83 _ aO) uI) (zP (iv T) rfl (zh (fun w I=>aa (.inl ⟨rfl,⟨T,(uK rfl),I.pk [3,2,1] rfl,F⟩⟩))))))
 intro ρ w hJ
 obtain ⟨x,hag,I,F⟩:=hJ
 obtain ⟨ρ,rfl⟩:=hag.form
 unfold F29j1 at F
 refine dn (fun ρ w=>∃ C,cd ρ [(2,pt o),(3,pt q),(4,pt A),(8,iv m.2),(9,iv x),(10,iv C)]∧Inv [] w0 w [(some o,blk [uM f e i] 47),(some q,blk (qg a) 25),(some A,blk [uD] 47)]∧F29j2 e a N m x C=some r) ?_ ?_
 ·
  refine rgn rfl (pu (pt o) rfl (xg I 0 (uM f e i) mv rfl (pu (iv ((e.length:Nat):Int)) (by kernel_rfl) (ifE F (fun U F=>?_) (fun U F=>?_)))))
  ·
   refine xl rfl (fun _=>?_) (uO U)
   refine bt F (fun a5 aP F=>ph (bg I 78 _ _ (by kernel_rfl) (L78 _ true 2 _ aP) fun w I=>pu (iv a5) (by kernel_rfl) (aa (.inl ⟨rfl,⟨a5,(uK rfl),I.pk [0,1,2] rfl,F⟩⟩))))
  refine xl rfl (uP U) (fun _=>bt F (fun a6 aQ F=>ph (bg I 78 _ _ (by kernel_rfl) (L78 _ false 2 _ aQ) fun w I=>pu (iv a6) (by kernel_rfl) (aa (.inl ⟨rfl,⟨a6,(uK rfl),I.pk [0,1,2] rfl,F⟩⟩)))))
 intro ρ w hJ
 obtain ⟨C,hag,I,F⟩:=hJ
 obtain ⟨ρ,rfl⟩:=hag.form
 unfold F29j2 at F
 refine ab (uL (by kernel_rfl) (pu3 (iv m.2) (iv x) (iv C) (by kernel_rfl) (ph (fu I [iv m.2,iv x,iv C] 26 (fun b=>slv (some b) 3 3) (by kernel_rfl) fun a7 w I=>bt F (fun J aR F=>ph (bg I 86 _ _ (by kernel_rfl) (L86 _ (some ⟨a7,0,none⟩) 3 [m.2,x,C] (I.cells 0 (off:=0) rfl (fun j u h=>by rw [Nat.zero_add]; exact h)) (mx rfl) (Nat.le_refl _) N _ aR) fun w I=>pu (iv J) (by kernel_rfl) (aa (uL (by kernel_rfl) (pu (iv J) (by kernel_rfl) (ifN F (fun V F=>?_) (fun V F=>?_)))))))))))
 ·
  refine xn rfl (fun _=>?_) (uP V)
  refine aa (ah rfl (uL rfl (pu2 (.agg #[uD]) (iv J) (by kernel_rfl) (xi I 3 _ zs47 rfl fun w I=>pu (iv J) rfl (aa (aj ?_))))))
  have I:=I.nilRow 25
  cases F
  exact ⟨_,Ret.ct rfl rfl (ce I 4 1 [uD] zi47 zs47 rfl rfl rfl) rfl,⟨none,0,[],rfl,I.pk [0] rfl,Row.nil_ 8⟩⟩
 refine xn rfl (uO V) (fun _=>aa (ai rfl (ak (ab (bt F (fun l aS F=>gdE F (fun aU F=>bt F (fun s aT F=>kx [tv (fun _=>(pt o)),tr (fun _=>(uM f e i)) [10],⟨fun y=>(slv ((y 2).g 0) l.length ((y 2).c 0)),fun y=>[(((y 2).g 0),blk ((y 2).cl 0) 25)],fun y=>(Row 8 ((y 2).g 0) l.length ((y 2).c 0) ((y 2).cl 0) (al eRc l)),[],[]⟩,tr (fun _=>(.agg (qg a).toArray)) [11],⟨fun y=>(.slice (some ⟨(y 4).b,0,none⟩) 1 1),fun y=>[(some (y 4).b,blk (qg a) 25)],fun _=>True,[],[]⟩,⟨fun y=>(slv ((y 5).g 0) ((l++[(⟨a.p,a.n,a.k,a.d,a.kn,a.op,a.on,a.t⟩:Rc)]).length) ((y 5).c 0)),fun y=>[(((y 5).g 0),blk ((y 5).cl 0) 25)],fun y=>(Row 8 ((y 5).g 0) ((l++[(⟨a.p,a.n,a.k,a.d,a.kn,a.op,a.on,a.t⟩:Rc)]).length) ((y 5).c 0) ((y 5).cl 0) (al eRc (l++[(⟨a.p,a.n,a.k,a.d,a.kn,a.op,a.on,a.t⟩:Rc)]))),[2],[4]⟩,⟨fun y=>(.agg #[slv ((y 6).g 0) s.length ((y 6).c 0)]),fun y=>[(((y 6).g 0),blk ((y 6).cl 0) 25)],fun y=>(Row 8 ((y 6).g 0) s.length ((y 6).c 0) ((y 6).cl 0) (al eRc s)),[],[5]⟩,tst (fun y=>[(some A,blk [slv ((y 6).g 0) s.length ((y 6).c 0)] 47)]) 12,tv (fun _=>(iv 0))] (fun _=>[(4,pt A),(5,iv 0)]) (fun y=>[(some (y 4).b,blk (qg a) 25),(((y 5).g 0),blk ((y 5).cl 0) 25),(((y 6).g 0),blk ((y 6).cl 0) 25),(some A,blk [slv ((y 6).g 0) s.length ((y 6).c 0)] 47),(some a7,blk [iv m.2,iv x,iv C] 26),(some o,blk [uM f e i] 47),(some q,blk (qg a) 25)]) I (by kernel_rfl) (fun y=>⟨rfl,rfl⟩) (fun y=>?_) ?_))))))))
 ·
  refine tt rfl rfl (tl1 [(some o,blk [uM f e i] 47)] rfl rfl (fun X w I=>ag I 0 (uM f e i) mv rfl rfl rfl br) (tg (slv ((y 2).g 0) l.length ((y 2).c 0)) [] [] rfl ⟨rfl,rfl,rfl⟩ ?_ ?_))
  ·intro hp X w I
   refine co 102 _ (by kernel_rfl) (L102 _ f i e (D.inv0 I) E G _ aS) ?_
   rintro v w ⟨a8,a9,aA,rfl,hN,W⟩
   have I:=I.join hN; clear hN
   exact ⟨wit 0 [a8] [a9] [aA] [],rfl,Eq.mp rfl W,I.castL rfl⟩
  refine tl1 [(some q,blk (qg a) 25)] rfl rfl (fun X w I=>ma I 0 mh md rfl rfl rfl br) (tg (.slice (some ⟨(y 4).b,0,none⟩) 1 1) [] [] rfl ⟨rfl,rfl,rfl⟩ ?_ ?_)
  ·intro hp X w I
   refine fu I (qg a) 25 (fun b=>slv (some b) 1 1) (by kernel_rfl) fun aB w I=>⟨wit aB [] [] [] [],rfl,trivial,I.castL rfl⟩
  refine tg (slv ((y 5).g 0) ((l++[(⟨a.p,a.n,a.k,a.d,a.kn,a.op,a.on,a.t⟩:Rc)]).length) ((y 5).c 0)) [(((y 2).g 0),blk ((y 2).cl 0) 25),(some (y 4).b,blk (qg a) 25)] [(some (y 4).b,blk (qg a) 25)] rfl ⟨rfl,rfl,rfl⟩ ?_ ?_
  ·intro hp X w I
   have W:Row 8 ((y 2).g 0) l.length ((y 2).c 0) ((y 2).cl 0) (al eRc l):=pg hp (k:=2) ⟨rfl,rfl⟩
   refine xk I xf 0 W (⟨a.p,a.n,a.k,a.d,a.kn,a.op,a.on,a.t⟩:Rc) 1 rfl (by omega) ?_
   intro Y Z a0 w I B
   exact ⟨wit 0 [Y] [Z] [a0] [],rfl,Eq.mp rfl B,I.castL rfl⟩
  refine tg (.agg #[slv ((y 6).g 0) s.length ((y 6).c 0)]) [(((y 5).g 0),blk ((y 5).cl 0) 25)] [(((y 5).g 0),blk ((y 5).cl 0) 25)] rfl ⟨rfl,rfl,rfl⟩ ?_ ?_
  ·intro hp X w I
   have B:Row 8 ((y 5).g 0) ((l++[(⟨a.p,a.n,a.k,a.d,a.kn,a.op,a.on,a.t⟩:Rc)]).length) ((y 5).c 0) ((y 5).cl 0) (al eRc (l++[(⟨a.p,a.n,a.k,a.d,a.kn,a.op,a.on,a.t⟩:Rc)])):=pg hp (k:=5) ⟨rfl,rfl⟩
   refine co 97 _ (by kernel_rfl) (L97 _ (((y 5).g 0).map fun b=>⟨b,0,none⟩) ((y 5).c 0) (l++[(⟨a.p,a.n,a.k,a.d,a.kn,a.op,a.on,a.t⟩:Rc)]) (I.rowCells 0 rfl B) (am rfl B.big) (am rfl B.cap) _ aT) ?_
   rintro v w ⟨K,L,a1,rfl,hN,a2⟩
   have I:=I.join hN; clear hN
   exact ⟨wit 0 [K] [L] [a1] [],rfl,Eq.mp rfl a2,I.castL rfl⟩
  refine tS [(some A,blk [uD] 47)] rfl ⟨rfl,rfl⟩ (fun X w I=>aq I 0 1 [slv ((y 6).g 0) s.length ((y 6).c 0)] zs47 rfl rfl rfl rfl rfl (mx rfl) fun w I=>⟨rfl,I.castL rfl⟩) (tt rfl rfl (tn))
 intro y hp ρ w hag I
 have B:Row 8 ((y 5).g 0) ((l++[(⟨a.p,a.n,a.k,a.d,a.kn,a.op,a.on,a.t⟩:Rc)]).length) ((y 5).c 0) ((y 5).cl 0) (al eRc (l++[(⟨a.p,a.n,a.k,a.d,a.kn,a.op,a.on,a.t⟩:Rc)])):=pgl hp (k:=5) (by decide) rfl
 have a2:Row 8 ((y 6).g 0) s.length ((y 6).c 0) ((y 6).cl 0) (al eRc s):=pgl hp (k:=6) (by decide) rfl
 clear hp
 generalize (y 2).g 0=a8 at *
 generalize (y 2).c 0=a9 at *
 generalize (y 2).cl 0=aA at *
 generalize (y 4).b=aB at *
 generalize (y 5).g 0=Y at *
 generalize (y 5).c 0=Z at *
 generalize (y 5).cl 0=a0 at *
 generalize (y 6).g 0=K at *
 generalize (y 6).c 0=L at *
 generalize (y 6).cl 0=a1 at *
 obtain ⟨ρ,rfl⟩:=hag.form
 refine aj ?_
 cases F
 exact ⟨_,Ret.ct rfl rfl (ce I 3 1 [uN K s L] zi47 zs47 rfl rfl rfl) rfl,⟨K,L,a1,rfl,I.pk [2] rfl,a2.to rfl rfl⟩⟩
theorem L114 (w0:World) (a8:Option Addr) (a9:Nat) (B:List Rc) (hG:Gl w0) (bV:bi w0 a8 (al eRc B)) (cI:B.length≤9223372036854775807) (cJ:B.length≤a9) (N:Nat) (r:(List Sp3 × List Sp3 × List Sp3 × Int × Int × Int)) (F:F114 N B=some r):bn Tryz.prog 114 [uM a8 B a9] w0 fun v w=>∃ z0 z1 z2 z3 z4 z5 z6 z7 z8,v=.agg #[uN z0 r.1 z1,uN z3 r.2.1 z4,uN z6 r.2.2.1 z7,iv r.2.2.2.1,iv r.2.2.2.2.1,iv r.2.2.2.2.2]∧Inv [] w0 w [(z0,blk z2 35),(z3,blk z5 35),(z6,blk z8 35)]∧Row 3 z0 r.1.length z1 z2 (al bb r.1)∧Row 3 z3 r.2.1.length z4 z5 (al bb r.2.1)∧Row 3 z6 r.2.2.1.length z7 z8 (al bb r.2.2.1):=by
 refine az (n:=18) func114 rfl ntmps114 rfl ?_
 have I:=Inv.start w0
 unfold F114 at F
 refine uL rfl (ph (bh I _ zeroValue63 rfl fun J w I=>aa (uL rfl (ph (bh I _ zeroValue63 rfl fun f w I=>aa (ab (uL rfl (pu3 (uM a8 B a9) (iv ((B.length:Nat):Int)) (iv 0) (by kernel_rfl) (aa (au ?_))))))))))
 have I:=I.nilRow 35
 have I:=I.nilRow 35
 have I:=I.nilRow 35
 refine cb (fun m ρ w=>∃ (U Y aA V Z aB W a0 aC:_) (R:List Sp3) (S:List Sp3) (T:List Sp3) (C mm:_),cd ρ [(2,pt J),(3,pt f),(6,uM a8 B a9),(7,iv (B.length:Int)),(8,iv C)]∧Inv [] w0 w [(some J,blk [uD,uD,uD,iv 0,iv 0,iv 0] 63),(some f,blk [uN U R Y,uN V S Z,uN W T a0,iv 0,iv 0,iv 0] 63),(U,blk aA 35),(V,blk aB 35),(W,blk aC 35)]∧(Row 3 U (R.length) Y aA (al bb R))∧(Row 3 V (S.length) Z aB (al bb S))∧(Row 3 W (T.length) a0 aC (al bb T))∧F114l1 B N mm R S T C=some r∧mm=m) (m:=N) ⟨none,0,[],none,0,[],none,0,[],[],[],[],0,N,(uK rfl),I.pk [4,3,0,1,2] rfl,(Row.nil_ 3),(Row.nil_ 3),(Row.nil_ 3),F,rfl⟩ ?_
 rintro m ρ w ⟨U,Y,aA,V,Z,aB,W,a0,aC,R,S,T,C,mm,hag,I,bM,bN,bO,F,hm⟩
 subst hm; obtain ⟨ρ,rfl⟩:=hag.form
 obtain _ | m1:=mm
 ·cases (show (none:Option (List Sp3 × List Sp3 × List Sp3 × Int × Int × Int))=some r from F)
 replace F:F114b1 B N (F114l1 B N m1) R S T C=some r:=F; unfold F114b1 at F
 refine uL rfl (ifN F (fun bH F=>?_) (fun bH F=>?_))
 ·
  refine xl rfl (uP bH) (fun _=>aa (ab (ai rfl (bw (uL rfl (xm I 1 mt mi rfl (xi I 0 _ mi rfl fun w I=>aa (aj ?_))))))))
  cases F
  exact ⟨_,Ret.c rfl rfl (ce I 0 6 [uN U R Y,uN V S Z,uN W T a0,iv 0,iv 0,iv 0] mt mi rfl rfl rfl),⟨U,Y,aA,V,Z,aB,W,a0,aC,rfl,I.pk [2,3,4] rfl,bM.to rfl rfl,bN.to rfl rfl,bO.to rfl rfl⟩⟩


 refine xl rfl (fun _=>?_) (uO bH)
 refine aa (ab (ah rfl (ak (dn (fun ρ w=>∃ (aD aO aP aE aQ aR aF aS aT:_) (a1:List Sp3) (a2:List Sp3) (a3:List Sp3),cd ρ [(2,pt J),(3,pt f),(6,uM a8 B a9),(7,iv (B.length:Int)),(8,iv C)]∧Inv [] w0 w [(some J,blk [uD,uD,uD,iv 0,iv 0,iv 0] 63),(some f,blk [uN aD a1 aO,uN aE a2 aQ,uN aF a3 aS,iv 0,iv 0,iv 0] 63),(aD,blk aP 35),(aE,blk aR 35),(aF,blk aT 35)]∧(Row 3 aD (a1.length) aO aP (al bb a1))∧(Row 3 aE (a2.length) aQ aR (al bb a2))∧(Row 3 aF (a3.length) aS aT (al bb a3))∧F114j2 (F114l1 B N m1) C a1 a2 a3=some r) ?_ ?_))))
 ·
  refine au (uL rfl (pu (iv C) rfl (gdE F (fun bW F=>bt F (fun e bP F=>?_)))))
  obtain ⟨cK,cL,bX,bY,bZ⟩:=bV.at_ bx (by decide) bP
  refine ph (cn (C).toNat nt md rfl bX rfl (Int.toNat_of_nonneg bW).symm (fa bP rfl) (ph (ef I (qg e) mh md rfl rfl bY (by simp) bZ (ph (bh I _ zeroValue25 rfl fun aG w I=>pu (iv C) (by kernel_rfl) (xi I 0 _ md rfl fun w I=>aa (rgn (by kernel_rfl) (xm I 0 mh md rfl (pu (iv C) (by kernel_rfl) (ph (gr 111 [pt f,.agg (qg e).toArray,iv C] (by kernel_rfl) (az (n:=32) func111 rfl ntmps111 rfl (uL (by kernel_rfl) (ph (ca I _ rfl fun cM w I=>aa (uL (by kernel_rfl) (xm I 0 mh md rfl (pu (iv C) (by kernel_rfl) (bt F (fun D c0 F=>ph (co 88 _ (by kernel_rfl) (L88 _ e C (hG.up I) N _ c0) ?_)))))))))))))))))))))
  rintro v w ⟨c1,c2,c4,rfl,hN,c5⟩
  have I:=I.join hN; clear hN
  refine pu2 (iv ((D.length:Nat):Int)) (iv 0) (by kernel_rfl) (aa (au (cb (fun m ρ w=>∃ (q E K s G L x H M aU O P:_) (i:List Sp3) (l:List Sp3) (o:List Sp3) (A mm:_),cd ρ [(0,pt f),(10,uN aU D O),(11,iv (D.length:Int)),(12,iv A)]∧Inv [] w0 w [(some f,blk [uN q i E,uN s l G,uN x o H,iv 0,iv 0,iv 0] 63),(q,blk K 35),(s,blk L 35),(x,blk M 35),(aU,blk P 35),(some J,blk [uD,uD,uD,iv 0,iv 0,iv 0] 63),(some aG,blk (qg e) 25)]∧(Row 3 q (i.length) E K (al bb i))∧(Row 3 s (l.length) G L (al bb l))∧(Row 3 x (o.length) H M (al bb o))∧(Row 3 aU (D.length) O P (al bb D))∧F114l3 (F114l1 B N m1) C D mm i l o A=some r∧mm=m) (m:=N) ⟨U,Y,aA,V,Z,aB,W,a0,aC,c1,c2,c4,R,S,T,0,N,(uK rfl),I.pk [4,5,6,7,0,3,2] rfl,(bM.to rfl rfl),(bN.to rfl rfl),(bO.to rfl rfl),(c5.to rfl rfl),F,rfl⟩ ?_)))
  rintro m ρ w ⟨q,E,K,s,G,L,x,H,M,aU,O,P,i,l,o,A,mm,hag,I,aV,aW,aX,aY,F,hm⟩
  subst hm; obtain ⟨ρ,rfl⟩:=hag.form
  obtain _ | m3:=mm
  ·cases (show (none:Option (List Sp3 × List Sp3 × List Sp3 × Int × Int × Int))=some r from F)
  replace F:F114b3 (F114l1 B N m1) C D (F114l3 (F114l1 B N m1) C D m3) i l o A=some r:=F; unfold F114b3 at F
  refine uL rfl (ifN F (fun bI F=>?_) (fun bI F=>?_))
  ·
   refine xl rfl (uP bI) (fun _=>aa (ab (ai rfl (bw (⟨.tuple #[],Ret.r0 rfl , ?_⟩)))))
   refine aa (.inl ⟨rfl,⟨q,E,K,s,G,L,x,H,M,i,l,o,(uK rfl),I.pk [5,0,1,2,3] rfl,(aV.to rfl rfl),(aW.to rfl rfl),(aX.to rfl rfl),F⟩⟩)
  refine xl rfl (fun _=>?_) (uO bI)
  refine aa (ab (ah rfl (ak (dn (fun ρ w=>∃ (aH aZ b0 aI b1 b2 aJ b3 b4 aK b5 b6:_) (a4:List Sp3) (a5:List Sp3) (a6:List Sp3),cd ρ [(0,pt f),(10,uN aK D b5),(11,iv (D.length:Int)),(12,iv A)]∧Inv [] w0 w [(some f,blk [uN aH a4 aZ,uN aI a5 b1,uN aJ a6 b3,iv 0,iv 0,iv 0] 63),(aH,blk b0 35),(aI,blk b2 35),(aJ,blk b4 35),(aK,blk b6 35),(some J,blk [uD,uD,uD,iv 0,iv 0,iv 0] 63),(some aG,blk (qg e) 25)]∧(Row 3 aH (a4.length) aZ b0 (al bb a4))∧(Row 3 aI (a5.length) b1 b2 (al bb a5))∧(Row 3 aJ (a6.length) b3 b4 (al bb a6))∧(Row 3 aK (D.length) b5 b6 (al bb D))∧F114j4 (F114l3 (F114l1 B N m1) C D m3) A a4 a5 a6=some r) ?_ ?_))))
  ·
   refine au (uL rfl (pu (iv A) rfl (gdE F (fun c6 F=>bt F (fun a bQ F=>?_)))))
   obtain ⟨Q,rfl,c7⟩:=aY.at_ bk (by decide) bQ
   refine ph (be (A).toNat mj mc rfl rfl (Int.toNat_of_nonneg c6).symm (fa bQ rfl) (xc I 4 (qh a) me mc rfl c7 (ph (bh I _ zeroValue35 rfl fun a7 w I=>pu (iv A) rfl (xi I 0 _ mc rfl fun w I=>aa (ifE F (fun bJ F=>?_) (fun bJ F=>?_)))))))
   ·
    refine gdE F (fun cN F=>kx [tv (fun _=>(pt f)),tv (fun _=>(iv A)),tv (fun _=>(pt f)),tv (fun _=>(iv A)),tv (fun _=>(pt f)),tv (fun _=>(pt f)),tr (fun _=>(pt f)) [],tr (fun _=>(uN q i E)) [16],tr (fun _=>(.agg (qh a).toArray)) [15],⟨fun y=>(.slice (some ⟨(y 9).b,0,none⟩) 1 1),fun y=>[(some (y 9).b,blk (qh a) 35)],fun _=>True,[],[]⟩,⟨fun y=>(slv ((y 10).g 0) ((i++[(⟨a.no,a.sz,a.t⟩:Sp3)]).length) ((y 10).c 0)),fun y=>[(((y 10).g 0),blk ((y 10).cl 0) 35)],fun y=>(Row 3 ((y 10).g 0) ((i++[(⟨a.no,a.sz,a.t⟩:Sp3)]).length) ((y 10).c 0) ((y 10).cl 0) (al bb (i++[(⟨a.no,a.sz,a.t⟩:Sp3)]))),[17],[9]⟩,tv (fun _=>(pt f)),tv (fun _=>(pt f)),tr (fun _=>(pt f)) [],tst (fun y=>[(some f,blk [slv ((y 10).g 0) ((i++[(⟨a.no,a.sz,a.t⟩:Sp3)]).length) ((y 10).c 0),uN s l G,uN x o H,iv 0,iv 0,iv 0] 63)]) 16] (fun _=>[(0,pt f),(10,uN (some Q) D O),(11,iv (D.length:Int)),(12,iv A)]) (fun y=>[(some (y 9).b,blk (qh a) 35),(((y 10).g 0),blk ((y 10).cl 0) 35),(some f,blk [slv ((y 10).g 0) ((i++[(⟨a.no,a.sz,a.t⟩:Sp3)]).length) ((y 10).c 0),uN s l G,uN x o H,iv 0,iv 0,iv 0] 63),(some a7,blk (qh a) 35),(s,blk L 35),(x,blk M 35),(some Q,blk P 35),(some J,blk [uD,uD,uD,iv 0,iv 0,iv 0] 63),(some aG,blk (qg e) 25)]) I (by kernel_rfl) (fun y=>⟨rfl,rfl⟩) (fun y=>?_) ?_)
    ·
     refine tt rfl rfl (tt rfl rfl (tt rfl rfl (tt rfl rfl (tt rfl rfl (tt rfl rfl (tl0 rfl (fun X w I=>av 0 pf mw rfl rfl bJ (by decide) 0 rfl br) (tl1 [(some f,blk [uN q i E,uN s l G,uN x o H,iv 0,iv 0,iv 0] 63)] rfl rfl (fun X w I=>ag I 0 (uN q i E) mq rfl rfl rfl br) (tl1 [(some a7,blk (qh a) 35)] rfl rfl (fun X w I=>ma I 0 me mc rfl rfl rfl br) (tg (.slice (some ⟨(y 9).b,0,none⟩) 1 1) [] [] rfl ⟨rfl,rfl,rfl⟩ ?_ ?_)))))))))
     ·intro hp X w I
      refine fu I (qh a) 35 (fun b=>slv (some b) 1 1) (by kernel_rfl) fun bR w I=>⟨wit bR [] [] [] [],rfl,trivial,I.castL rfl⟩
     refine tg (slv ((y 10).g 0) ((i++[(⟨a.no,a.sz,a.t⟩:Sp3)]).length) ((y 10).c 0)) [(q,blk K 35),(some (y 9).b,blk (qh a) 35)] [(some (y 9).b,blk (qh a) 35)] rfl ⟨rfl,rfl,rfl⟩ ?_ ?_
     ·intro hp X w I
      refine xk I xd 0 aV (⟨a.no,a.sz,a.t⟩:Sp3) 1 rfl (by omega) ?_
      intro b7 b8 b9 w I aL
      exact ⟨wit 0 [b7] [b8] [b9] [],rfl,Eq.mp rfl aL,I.castL rfl⟩
     refine tt rfl rfl (tt rfl rfl (tl0 rfl (fun X w I=>av 0 pf mw rfl rfl bJ (by decide) 0 rfl br) (tS [(some f,blk [uN q i E,uN s l G,uN x o H,iv 0,iv 0,iv 0] 63)] rfl ⟨rfl,rfl⟩ (fun X w I=>aq I 0 1 [slv ((y 10).g 0) ((i++[(⟨a.no,a.sz,a.t⟩:Sp3)]).length) ((y 10).c 0)] mw rfl rfl rfl rfl rfl (mx rfl) fun w I=>⟨rfl,I.castL rfl⟩) (tn))))
    intro y hp ρ w hag I
    have aL:Row 3 ((y 10).g 0) ((i++[(⟨a.no,a.sz,a.t⟩:Sp3)]).length) ((y 10).c 0) ((y 10).cl 0) (al bb (i++[(⟨a.no,a.sz,a.t⟩:Sp3)])):=pgl hp (k:=10) (by decide) rfl
    clear hp
    generalize (y 9).b=bR at *
    generalize (y 10).g 0=b7 at *
    generalize (y 10).c 0=b8 at *
    generalize (y 10).cl 0=b9 at *
    obtain ⟨ρ,rfl⟩:=hag.form
    exact .inl ⟨rfl,⟨b7,b8,b9,s,G,L,x,H,M,some Q,O,P,i++[(⟨a.no,a.sz,a.t⟩:Sp3)],l,o,(uK rfl),I.pk [2,1,4,5,6,7,8] rfl,(aL.to rfl rfl),(aW.to rfl rfl),(aX.to rfl rfl),(aY.to rfl rfl),F⟩⟩
   refine ifE F (fun bK F=>?_) (fun bK F=>?_)
   ·
    refine gdE F (fun cO F=>kx [tv (fun _=>(pt f)),tv (fun _=>(iv A)),tv (fun _=>(pt f)),tv (fun _=>(iv A)),tv (fun _=>(pt f)),tv (fun _=>(pt f)),tr (fun _=>(uF f 1)) [],tr (fun _=>(uN s l G)) [16],tr (fun _=>(.agg (qh a).toArray)) [15],⟨fun y=>(.slice (some ⟨(y 9).b,0,none⟩) 1 1),fun y=>[(some (y 9).b,blk (qh a) 35)],fun _=>True,[],[]⟩,⟨fun y=>(slv ((y 10).g 0) ((l++[(⟨a.no,a.sz,a.t⟩:Sp3)]).length) ((y 10).c 0)),fun y=>[(((y 10).g 0),blk ((y 10).cl 0) 35)],fun y=>(Row 3 ((y 10).g 0) ((l++[(⟨a.no,a.sz,a.t⟩:Sp3)]).length) ((y 10).c 0) ((y 10).cl 0) (al bb (l++[(⟨a.no,a.sz,a.t⟩:Sp3)]))),[18],[9]⟩,tv (fun _=>(pt f)),tv (fun _=>(pt f)),tr (fun _=>(uF f 1)) [],tst (fun y=>[(some f,blk [uN q i E,slv ((y 10).g 0) ((l++[(⟨a.no,a.sz,a.t⟩:Sp3)]).length) ((y 10).c 0),uN x o H,iv 0,iv 0,iv 0] 63)]) 16] (fun _=>[(0,pt f),(10,uN (some Q) D O),(11,iv (D.length:Int)),(12,iv A)]) (fun y=>[(some (y 9).b,blk (qh a) 35),(((y 10).g 0),blk ((y 10).cl 0) 35),(some f,blk [uN q i E,slv ((y 10).g 0) ((l++[(⟨a.no,a.sz,a.t⟩:Sp3)]).length) ((y 10).c 0),uN x o H,iv 0,iv 0,iv 0] 63),(some a7,blk (qh a) 35),(q,blk K 35),(x,blk M 35),(some Q,blk P 35),(some J,blk [uD,uD,uD,iv 0,iv 0,iv 0] 63),(some aG,blk (qg e) 25)]) I (by kernel_rfl) (fun y=>⟨rfl,rfl⟩) (fun y=>?_) ?_)
    ·
     refine tt rfl rfl (tt rfl rfl (tt rfl rfl (tt rfl rfl (tt rfl rfl (tt rfl rfl (tl0 rfl (fun X w I=>av 1 pf mw rfl rfl bK (by decide) 1 rfl br) (tl1 [(some f,blk [uN q i E,uN s l G,uN x o H,iv 0,iv 0,iv 0] 63)] rfl rfl (fun X w I=>ag I 0 (uN s l G) mq rfl rfl rfl br) (tl1 [(some a7,blk (qh a) 35)] rfl rfl (fun X w I=>ma I 0 me mc rfl rfl rfl br) (tg (.slice (some ⟨(y 9).b,0,none⟩) 1 1) [] [] rfl ⟨rfl,rfl,rfl⟩ ?_ ?_)))))))))
     ·intro hp X w I
      refine fu I (qh a) 35 (fun b=>slv (some b) 1 1) (by kernel_rfl) fun bS w I=>⟨wit bS [] [] [] [],rfl,trivial,I.castL rfl⟩
     refine tg (slv ((y 10).g 0) ((l++[(⟨a.no,a.sz,a.t⟩:Sp3)]).length) ((y 10).c 0)) [(s,blk L 35),(some (y 9).b,blk (qh a) 35)] [(some (y 9).b,blk (qh a) 35)] rfl ⟨rfl,rfl,rfl⟩ ?_ ?_
     ·intro hp X w I
      refine xk I xd 0 aW (⟨a.no,a.sz,a.t⟩:Sp3) 1 rfl (by omega) ?_
      intro bA bB bC w I aM
      exact ⟨wit 0 [bA] [bB] [bC] [],rfl,Eq.mp rfl aM,I.castL rfl⟩
     refine tt rfl rfl (tt rfl rfl (tl0 rfl (fun X w I=>av 1 pf mw rfl rfl bK (by decide) 1 rfl br) (tS [(some f,blk [uN q i E,uN s l G,uN x o H,iv 0,iv 0,iv 0] 63)] rfl ⟨rfl,rfl⟩ (fun X w I=>aq I 0 1 [slv ((y 10).g 0) ((l++[(⟨a.no,a.sz,a.t⟩:Sp3)]).length) ((y 10).c 0)] mw rfl rfl rfl rfl rfl (mx rfl) fun w I=>⟨rfl,I.castL rfl⟩) (tn))))
    intro y hp ρ w hag I
    have aM:Row 3 ((y 10).g 0) ((l++[(⟨a.no,a.sz,a.t⟩:Sp3)]).length) ((y 10).c 0) ((y 10).cl 0) (al bb (l++[(⟨a.no,a.sz,a.t⟩:Sp3)])):=pgl hp (k:=10) (by decide) rfl
    clear hp
    generalize (y 9).b=bS at *
    generalize (y 10).g 0=bA at *
    generalize (y 10).c 0=bB at *
    generalize (y 10).cl 0=bC at *
    obtain ⟨ρ,rfl⟩:=hag.form
    exact .inl ⟨rfl,⟨q,E,K,bA,bB,bC,x,H,M,some Q,O,P,i,l++[(⟨a.no,a.sz,a.t⟩:Sp3)],o,(uK rfl),I.pk [2,4,1,5,6,7,8] rfl,(aV.to rfl rfl),(aM.to rfl rfl),(aX.to rfl rfl),(aY.to rfl rfl),F⟩⟩
   refine ifN F (fun bL F=>?_) (fun bL F=>?_)
   ·
    cases F
   refine gdE F (fun cP F=>kx [tv (fun _=>(pt f)),tv (fun _=>(iv A)),tv (fun _=>(pt f)),tv (fun _=>(iv A)),tv (fun _=>(pt f)),tv (fun _=>(pt f)),tr (fun _=>(uF f 2)) [],tr (fun _=>(uN x o H)) [16],tr (fun _=>(.agg (qh a).toArray)) [15],⟨fun y=>(.slice (some ⟨(y 9).b,0,none⟩) 1 1),fun y=>[(some (y 9).b,blk (qh a) 35)],fun _=>True,[],[]⟩,⟨fun y=>(slv ((y 10).g 0) ((o++[(⟨a.no,a.sz,a.t⟩:Sp3)]).length) ((y 10).c 0)),fun y=>[(((y 10).g 0),blk ((y 10).cl 0) 35)],fun y=>(Row 3 ((y 10).g 0) ((o++[(⟨a.no,a.sz,a.t⟩:Sp3)]).length) ((y 10).c 0) ((y 10).cl 0) (al bb (o++[(⟨a.no,a.sz,a.t⟩:Sp3)]))),[19],[9]⟩,tv (fun _=>(pt f)),tv (fun _=>(pt f)),tr (fun _=>(uF f 2)) [],tst (fun y=>[(some f,blk [uN q i E,uN s l G,slv ((y 10).g 0) ((o++[(⟨a.no,a.sz,a.t⟩:Sp3)]).length) ((y 10).c 0),iv 0,iv 0,iv 0] 63)]) 16] (fun _=>[(0,pt f),(10,uN (some Q) D O),(11,iv (D.length:Int)),(12,iv A)]) (fun y=>[(some (y 9).b,blk (qh a) 35),(((y 10).g 0),blk ((y 10).cl 0) 35),(some f,blk [uN q i E,uN s l G,slv ((y 10).g 0) ((o++[(⟨a.no,a.sz,a.t⟩:Sp3)]).length) ((y 10).c 0),iv 0,iv 0,iv 0] 63),(some a7,blk (qh a) 35),(q,blk K 35),(s,blk L 35),(some Q,blk P 35),(some J,blk [uD,uD,uD,iv 0,iv 0,iv 0] 63),(some aG,blk (qg e) 25)]) I (by kernel_rfl) (fun y=>⟨rfl,rfl⟩) (fun y=>?_) ?_)
   ·
    refine tt rfl rfl (tt rfl rfl (tt rfl rfl (tt rfl rfl (tt rfl rfl (tt rfl rfl (tl0 rfl (fun X w I=>av 2 pf mw rfl rfl bL (by decide) 2 rfl br) (tl1 [(some f,blk [uN q i E,uN s l G,uN x o H,iv 0,iv 0,iv 0] 63)] rfl rfl (fun X w I=>ag I 0 (uN x o H) mq rfl rfl rfl br) (tl1 [(some a7,blk (qh a) 35)] rfl rfl (fun X w I=>ma I 0 me mc rfl rfl rfl br) (tg (.slice (some ⟨(y 9).b,0,none⟩) 1 1) [] [] rfl ⟨rfl,rfl,rfl⟩ ?_ ?_)))))))))
    ·intro hp X w I
     refine fu I (qh a) 35 (fun b=>slv (some b) 1 1) (by kernel_rfl) fun bU w I=>⟨wit bU [] [] [] [],rfl,trivial,I.castL rfl⟩
    refine tg (slv ((y 10).g 0) ((o++[(⟨a.no,a.sz,a.t⟩:Sp3)]).length) ((y 10).c 0)) [(x,blk M 35),(some (y 9).b,blk (qh a) 35)] [(some (y 9).b,blk (qh a) 35)] rfl ⟨rfl,rfl,rfl⟩ ?_ ?_
    ·intro hp X w I
     refine xk I xd 0 aX (⟨a.no,a.sz,a.t⟩:Sp3) 1 rfl (by omega) ?_
     intro bD bE bG w I aN
     exact ⟨wit 0 [bD] [bE] [bG] [],rfl,Eq.mp rfl aN,I.castL rfl⟩
    refine tt rfl rfl (tt rfl rfl (tl0 rfl (fun X w I=>av 2 pf mw rfl rfl bL (by decide) 2 rfl br) (tS [(some f,blk [uN q i E,uN s l G,uN x o H,iv 0,iv 0,iv 0] 63)] rfl ⟨rfl,rfl⟩ (fun X w I=>aq I 0 1 [slv ((y 10).g 0) ((o++[(⟨a.no,a.sz,a.t⟩:Sp3)]).length) ((y 10).c 0)] mw rfl rfl rfl rfl rfl (mx rfl) fun w I=>⟨rfl,I.castL rfl⟩) (tn))))
   intro y hp ρ w hag I
   have aN:Row 3 ((y 10).g 0) ((o++[(⟨a.no,a.sz,a.t⟩:Sp3)]).length) ((y 10).c 0) ((y 10).cl 0) (al bb (o++[(⟨a.no,a.sz,a.t⟩:Sp3)])):=pgl hp (k:=10) (by decide) rfl
   clear hp
   generalize (y 9).b=bU at *
   generalize (y 10).g 0=bD at *
   generalize (y 10).c 0=bE at *
   generalize (y 10).cl 0=bG at *
   obtain ⟨ρ,rfl⟩:=hag.form
   exact .inl ⟨rfl,⟨q,E,K,s,G,L,bD,bE,bG,some Q,O,P,i,l,o++[(⟨a.no,a.sz,a.t⟩:Sp3)],(uK rfl),I.pk [2,4,5,1,6,7,8] rfl,(aV.to rfl rfl),(aW.to rfl rfl),(aN.to rfl rfl),(aY.to rfl rfl),F⟩⟩
  intro ρ w hJ
  obtain ⟨aH,aZ,b0,aI,b1,b2,aJ,b3,b4,aK,b5,b6,a4,a5,a6,hag,I,c8,cA,cB,cC,F⟩:=hJ
  obtain ⟨ρ,rfl⟩:=hag.form
  unfold F114j4 at F
  refine rgn rfl (ckE F (fun cD F=>xa rfl cD (pu (iv (A+1)) rfl (aa (⟨rfl,m3,Nat.lt_succ_self _,⟨aH,aZ,b0,aI,b1,b2,aJ,b3,b4,aK,b5,b6,a4,a5,a6,A+1,m3,(uK rfl),I.pk [0,1,2,3,4,5,6] rfl,(c8.to rfl rfl),(cA.to rfl rfl),(cB.to rfl rfl),(cC.to rfl rfl),F,rfl⟩⟩)))))
 intro ρ w hJ
 obtain ⟨aD,aO,aP,aE,aQ,aR,aF,aS,aT,a1,a2,a3,hag,I,cE,cF,cG,F⟩:=hJ
 obtain ⟨ρ,rfl⟩:=hag.form
 unfold F114j2 at F
 refine rgn rfl (ckE F (fun cH F=>xa rfl cH (pu (iv (C+1)) rfl (aa (⟨rfl,m1,Nat.lt_succ_self _,⟨aD,aO,aP,aE,aQ,aR,aF,aS,aT,a1,a2,a3,C+1,m1,(uK rfl),I.pk [0,1,2,3,4] rfl,(cE.to rfl rfl),(cF.to rfl rfl),(cG.to rfl rfl),F,rfl⟩⟩)))))
theorem L125 (w0:World) (i:Option Addr) (j:Nat) (e:List Sp3) (k:Option Addr) (l:Nat) (g:List Sp3) (y:bi w0 i (al bb e)) (O:e.length≤9223372036854775807) (P:e.length≤j) (z:bi w0 k (al bb g)) (Q:g.length≤9223372036854775807) (R:g.length≤l) (N:Nat) (r:Bool) (F:F125 N e g=some r):bn Tryz.prog 125 [uM i e j,uM k g l] w0 fun v w=>v=.bool r∧Below w0.heap.size w0 w:=by
 refine az (n:=26) func125 rfl ntmps125 rfl ?_
 have I:=Inv.start w0
 unfold F125 at F
 refine uL rfl (pu bF rfl (aa (ab (uL rfl (pu3 (uM i e j) (iv ((e.length:Nat):Int)) (uM k g l) (by kernel_rfl) (pu (iv ((g.length:Nat):Int)) (by kernel_rfl) (ifN F (fun o F=>?_) (fun o F=>?_))))))))
 ·
  refine xn rfl (fun _=>?_) (uP o)
  refine aa (ah rfl (uL rfl (pu bF rfl (aa (aj ?_)))))
  cases F
  exact uJ I rfl


 refine xn rfl (uO o) (fun _=>aa (ai rfl (ak (ab (uL rfl (pu3 (uM i e j) (iv ((e.length:Nat):Int)) (iv 0) (by kernel_rfl) (aa (au (cb (fun m ρ w=>∃ f mm,cd ρ [(0,uM i e j),(1,uM k g l),(12,iv (e.length:Int)),(13,iv f)]∧Inv [] w0 w []∧F125l1 e g mm f=some r∧mm=m) (m:=N) ⟨0,N,(uK rfl),I.pk [] rfl,F,rfl⟩ ?_)))))))))
 rintro m ρ w ⟨f,mm,hag,I,F,hm⟩
 subst hm; obtain ⟨ρ,rfl⟩:=hag.form
 obtain _ | m1:=mm
 ·cases (show (none:Option Bool)=some r from F)
 replace F:F125b1 e g (F125l1 e g m1) f=some r:=F; unfold F125b1 at F
 refine uL rfl (ifN F (fun p F=>?_) (fun p F=>?_))
 ·
  refine xl rfl (uP p) (fun _=>aa (ab (ai rfl (bw (uL rfl (pu bT rfl (aa (aj ?_))))))))
  cases F
  exact uJ I rfl
 refine xl rfl (fun _=>?_) (uO p)
 refine aa (ab (ah rfl (ak (ab (au (uL rfl (pu2 (iv f) (iv f) rfl (aa (ab (gm 9 I (by kernel_rfl) (zB (uM i e j) (iv f) rfl (gdE F (fun s F=>bt F (fun a u F=>?_))))))))))))))
 obtain ⟨A,B,C,D,E⟩:=y.at_ bk (by decide) u
 refine zc (uF A (B+(f).toNat * 3)) (fun w I=>cn (f).toNat mj mc rfl C rfl (Int.toNat_of_nonneg s).symm (fa u rfl) br) (zc (.agg (qh a).toArray) (fun w I=>ef I (qh a) me mc rfl rfl D (by simp) E br) (zB (uM k g l) (iv f) rfl (bt F (fun d x F=>?_))))
 obtain ⟨G,H,J,K,L⟩:=z.at_ bk (by decide) x
 refine zc (uF G (H+(f).toNat * 3)) (fun w I=>cn (f).toNat mj mc rfl J rfl (Int.toNat_of_nonneg s).symm (fa x rfl) br) (zc (.agg (qh d).toArray) (fun w I=>ef I (qh d) me mc rfl rfl K (by simp) L br) (ifN F (fun q F=>?_) (fun q F=>?_)))
 ·
  refine zc bT (fun w I=>lg (b:=decide (a.no=d.no) && decide (a.sz=d.sz) && decide (a.t=d.t)) rfl rfl (by kernel_rfl) (fun w=>eq35 _ a.no a.sz a.t d.no d.sz d.t w) (fun _=>br) (uP q)) (zh (fun w I=>aa (ah rfl (uL rfl (pu bF rfl (aa (aj ?_)))))))
  cases F
  exact uJ I rfl
 refine zc bF (fun w I=>lg (b:=decide (a.no=d.no) && decide (a.sz=d.sz) && decide (a.t=d.t)) rfl rfl (by kernel_rfl) (fun w=>eq35 _ a.no a.sz a.t d.no d.sz d.t w) (uO q) (fun _=>br)) (zh (fun w I=>aa (ai rfl (ak (rgn rfl (ckE F (fun M F=>xa rfl M (pu (iv (f+1)) rfl (aa (⟨rfl,m1,Nat.lt_succ_self _,⟨f+1,m1,(uK rfl),I.pk [] rfl,F,rfl⟩⟩))))))))))
end Go.K
