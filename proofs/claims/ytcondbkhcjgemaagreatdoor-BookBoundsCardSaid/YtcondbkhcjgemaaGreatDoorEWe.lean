import Derived.Test.YtcondbkhcjgemaaGreatDoorEWd
namespace Go.K
open Go.Proofs.Tryz
open Go.Proofs Go.RowKit
set_option linter.unusedVariables false
set_option linter.unusedSimpArgs false
set_option maxRecDepth 100000
attribute [local irreducible] Seq cw cx fl opX
theorem L45 (w0:World) (B:Option Addr) (o:Nat) (m:List Sp3) (C:Option Addr) (p:Nat) (i:List Sp3) (E:Option Addr) (q:Nat) (f:List Sp3) (e:Int) (d:Int) (a:Int) (R:Option Addr) (S:Nat) (J:List Int) (bN:bi w0 B (al bb m)) (bO:m.length≤9223372036854775807) (aN:m.length≤o) (bP:bi w0 C (al bb i)) (bQ:i.length≤9223372036854775807) (aO:i.length≤p) (bR:bi w0 E (al bb f)) (bS:f.length≤9223372036854775807) (aP:f.length≤q) (aQ:bi w0 R (al eInt J)) (aR:J.length≤9223372036854775807) (aS:J.length≤S) (N:Nat) (r:(List Sp3 × List Sp3 × List Sp3 × Int × Int × Int)) (F:F45 N m i f e d a J=some r):bn Tryz.prog 45 [.agg #[uM B m o,uM C i p,uM E f q,iv e,iv d,iv a],uM R J S] w0 fun v w=>∃ z0 z1 z2 z3 z4 z5 z6 z7 z8,v=.agg #[uN z0 r.1 z1,uN z3 r.2.1 z4,uN z6 r.2.2.1 z7,iv r.2.2.2.1,iv r.2.2.2.2.1,iv r.2.2.2.2.2]∧Inv [] w0 w [(z0,blk z2 35),(z3,blk z5 35),(z6,blk z8 35)]∧Row 3 z0 r.1.length z1 z2 (al bb r.1)∧Row 3 z3 r.2.1.length z4 z5 (al bb r.2.1)∧Row 3 z6 r.2.2.1.length z7 z8 (al bb r.2.2.1):=by
 refine az (n:=42) func45 rfl ntmps45 rfl ?_
 have I:=Inv.start w0
 unfold F45 at F
 refine uL rfl (ph (ca I _ rfl fun aJ w I=>ph (bh I _ zeroValue63 rfl fun aK w I=>aa (uL rfl (pu (uM R J S) rfl (ph (gr 120 [uM R J S] (by kernel_rfl) (az (n:=5) func120 rfl ntmps120 rfl (uL rfl (ph (ca I _ rfl fun t w I=>pu (.nilFunc) rfl (aa (uL rfl (ph (bh I _ zeroValue3 rfl fun x w I=>xi I 0 _ zs3 rfl fun w I=>aa (uL rfl (pu2 (.func (.func 158) #[] #[pt t,pt x]) (.func (.func 158) #[] #[pt t,pt x]) (by kernel_rfl) (aa (aj (⟨.func (.func 158) #[] #[pt t,pt x],Ret.r1 rfl rfl,?_⟩))))))))))))))))))))
 refine ph (bh I _ zeroValue180 rfl fun aL w I=>xi I 0 _ zs180 rfl fun w I=>aa (uL rfl (xg I 0 (.func (.func 158) #[] #[pt t,pt x]) zi180 rfl (bt F (fun bU c4 F=>ph (co 158 [pt t,pt x] (by kernel_rfl) (L158 N _ t x R S J 0 (I.lend [2,1] (by decide) rfl rfl) (I.apartL0 [2,1] rfl rfl aQ) aR aS _ c4) ?_))))))
 rintro v w ⟨hv,hN⟩
 subst hv
 have I:=I.backsL [2,1] [0,3,4] (by decide) rfl rfl rfl hN; clear hN
 refine bt F (fun a5 c5 F=>ph (bg I 121 _ _ (by kernel_rfl) (L121 _ bU.1 4 _ c5) fun w I=>ph (bh I _ zeroValue3 rfl fun aM w I=>xi I 0 _ zs3 rfl fun w I=>aa (uL (by kernel_rfl) (ph (bh I _ zeroValue63 rfl fun s w I=>aa (ab (uL (by kernel_rfl) (xm I 6 mt mi rfl (ph (gr 118 [.agg #[uM B m o,uM C i p,uM E f q,iv e,iv d,iv a]] (by kernel_rfl) (az (n:=4) func118 rfl ntmps118 rfl (uL (by kernel_rfl) (ph (ca I _ rfl fun G w I=>pu (.nilFunc) (by kernel_rfl) (aa (uL (by kernel_rfl) (pu2 (.func (.func 157) #[] #[pt G]) (.func (.func 157) #[] #[pt G]) (by kernel_rfl) (aa (aj (⟨.func (.func 157) #[] #[pt G],Ret.r1 rfl rfl,?_⟩)))))))))))))))))))))
 refine aa (au (wp_rangeFunc I (first := #[]) (cap := #[pt G]) rfl 157 (fun y=>[y,pt G]) (fun l W=>by kernel_rfl) fun rcq5096 lqq5096 w hpsq5096 hasq5096 hboq5096 hofq5096 I=>az (n:=32) func157 rfl ntmps157 rfl (uL rfl (pu (pt G) rfl (xr I 2 3 [uM B m o,uM C i p,uM E f q] zi60 zs60 rfl (pu (iv 0) rfl (aa (au (jx 4 (lh (uL rfl (xl rfl (fun _=>?_) (fun h=>absurd (by decide) h)))))))))))))
 refine aa (ab (ah rfl (ak (ab (au (uL rfl (pu3 (iv 0) (uM B m o) (iv 0) (by kernel_rfl) (pu (uM B m o) rfl (aa (uL rfl (pu3 (iv 0) (uF G 3) (uF G 3) (by kernel_rfl) (xg I 2 (iv e) zi3 rfl (pu3 (iv (if 0 > e then 0 else e)) (uM B m o) (iv ((m.length:Nat):Int)) (by kernel_rfl) (pu2 (iv (qa m e)) (iv (qa m e)) (by kernel_rfl) (aa (dn (fun ρ w=>∃ (A K aB aT:_) (H:List Sp3) (L:_),cd ρ [(0,yfn lqq5096),(1,pt G),(7,.agg #[uM B m o,uM C i p,uM E f q]),(8,iv 0),(30,bF)]∧Inv [] w0 w [(some lqq5096,rcq5096.at .ready none),(some G,blk [uM B m o,uM C i p,uM E f q,iv e,iv d,iv a] 63),(some rcq5096.defers,.deferred (some [])),(some aJ,blk [uM B m o,uM C i p,uM E f q,iv e,iv d,iv a] 63),(some aK,blk [uD,uD,uD,iv 0,iv 0,iv 0] 63),(some t,blk [uM R J S] 64),(some x,blk [iv aT] 3),(some aL,blk [.func (.func 158) #[] #[pt t,pt x]] 180),(some aM,blk [iv a5] 3),(some s,blk [uN A H K,uD,uD,iv L,iv 0,iv 0] 63),(A,blk aB 35)]∧(Row 3 A (H.length) K aB (al bb H))∧F45j1 i f d a J N a5 aT H L=some r) ?_ ?_))))))))))))))))
 ·
  refine gm 9 I (by kernel_rfl) (zB (yfn lqq5096) (iv 0) rfl (zB (uM B m o) (iv (qa m e)) rfl (gdE F (fun bV F=>gdE F (fun aX F=>?_)))))
  obtain ⟨M,hC6735,c6⟩:=cutA (enc:=bb) (l:=m) (lo:=0) (hi:=(qd m e)) (c:=o) (k:=3) bk bN aX aN
  refine zc (.slice M ((qc m e).length) (o - 0)) (fun w I=>c6 mj mc rfl (.inr ⟨rfl,rfl⟩) (.inl (congrArg (fun z=>some (Value.int .i64 z)) (Int.toNat_of_nonneg bV).symm)) br) (zB (uM B m o) (iv (qa m e)) rfl (gdE F (fun aY F=>?_)))
  obtain ⟨a8,hC6737,c7⟩:=cutA (enc:=bb) (l:=m) (lo:=(qd m e)) (hi:=m.length) (c:=o) (k:=3) bk bN aY aN
  refine zc (.slice a8 ((qb m e).length) (o - (qd m e))) (fun w I=>c7 mj mc rfl (.inl (congrArg (fun z=>some (Value.int .i64 z)) (Int.toNat_of_nonneg bV).symm)) (.inr ⟨rfl,rfl⟩) br) (zP (.agg #[.slice M ((qc m e).length) (o - 0),.slice a8 ((qb m e).length) (o - (qd m e))]) (by kernel_rfl) (zh (fun w I=>ph (li (fv:=yfn lqq5096) [iv 0,.agg #[.slice M ((qc m e).length) (o - 0),.slice a8 ((qb m e).length) (o - (qd m e))]] rfl (by kernel_rfl) ?_))))
  have I:=I.pk [0,1,2,3,4,5,6,7,8,9] rfl
  refine eu I hofq5096 [18,19] hpsq5096 rfl (by decide) ?_
  rw [hasq5096]
  refine uL rfl (pu (iv 0) rfl (aa (rgn rfl (ph (bh I _ zeroValue179 rfl fun aF w I=>xi I 0 _ zs179 rfl fun w I=>aa (⟨rfl,_,I.pk [1,0,2,3,4,5,6,7,8,9,10] rfl,?_⟩))))))
  intro w I
  rw [hboq5096]
  refine au (uL rfl (pu (uF aF 1) rfl (xg I 1 (.slice a8 ((qb m e).length) (o - (qd m e))) mq rfl (xg I 8 (.func (.func 158) #[] #[pt t,pt x]) zi180 rfl (bt F (fun T c8 F=>ph (co 122 [.slice a8 ((qb m e).length) (o - (qd m e)),.func (.func 158) #[] #[pt t,pt x]] (by kernel_rfl) (L122 N _ t x a8 (o - (qd m e)) (qb m e) R S J bU.2 (I.lend [6,7] (by decide) rfl rfl) (I.apartL0 [6,7] rfl rfl hC6737) (cut_big aY bO) (cut_cap aY aN) (I.apartL0 [6,7] rfl rfl aQ) aR aS _ c8) ?_)))))))
  rintro v w ⟨a2,aC,aZ,hv,hN,b0⟩
  subst hv
  have I:=I.backsL [6,7] [0,1,2,3,4,5,8,9,10] (by decide) rfl rfl rfl hN; clear hN
  refine pu (uN a2 T.1 aC) rfl (aa (uL rfl (pu (iv 0) rfl (xg I 8 (iv a5) zi3 rfl (ifE F (fun b1 F=>?_) (fun b1 F=>?_))))))
  ·
   refine xn rfl (uO b1) (fun _=>aa (ai rfl (ak (⟨_,I.pk [3,0,1,2,4,5,6,7,8,9,10,11] rfl,fun w I=>?_⟩))))
   refine pu bF rfl (aa ?_)
   have I:=I.nilRow 35
   exact .inl ⟨rfl,⟨none,0,[],T.2,[],0,(uK rfl),I.pk [1,7,6,12,11,3,4,10,9,8,0] rfl,(Row.nil_ 3),F⟩⟩
  refine xn rfl (fun _=>?_) (uP b1)
  refine aa (ah rfl (bt F (fun U cA F=>kx [tv (fun _=>(iv 0)),tv (fun _=>(iv 0)),tv (fun _=>(pt aF)),tr (fun _=>(.slice M ((qc m e).length) (o - 0))) [20],tv (fun _=>(uN a2 T.1 aC)),⟨fun y=>(.slice (some ⟨(y 5).b,0,none⟩) 2 2),fun y=>[(some (y 5).b,blk [.slice M ((qc m e).length) (o - 0),uN a2 T.1 aC] 38)],fun _=>True,[],[]⟩,⟨fun y=>(slv ((y 6).g 0) U.length ((y 6).c 0)),fun y=>[(((y 6).g 0),blk ((y 6).cl 0) 35)],fun y=>(Row 3 ((y 6).g 0) U.length ((y 6).c 0) ((y 6).cl 0) (al bb U)),[],[5,16]⟩,tv (fun _=>(pt aF)),tr (fun _=>(.slice M ((qc m e).length) (o - 0))) [20],tv (fun _=>(iv ((qc m e).length:Int))),tv (fun _=>(pt s)),tv (fun _=>(pt s)),tst (fun y=>[(some s,blk [slv ((y 6).g 0) U.length ((y 6).c 0),uD,uD,iv 0,iv 0,iv 0] 63)]) 23,tv (fun _=>(uF s 3)),tv (fun _=>(uF s 3)),tst (fun y=>[(some s,blk [slv ((y 6).g 0) U.length ((y 6).c 0),uD,uD,iv ((qc m e).length:Int),iv 0,iv 0] 63)]) 12] (fun _=>[]) (fun y=>[(some (y 5).b,blk [.slice M ((qc m e).length) (o - 0),uN a2 T.1 aC] 38),(((y 6).g 0),blk ((y 6).cl 0) 35),(some s,blk [slv ((y 6).g 0) U.length ((y 6).c 0),uD,uD,iv ((qc m e).length:Int),iv 0,iv 0] 63),(a2,blk aZ 35),(some t,blk [uM R J S] 64),(some x,blk [iv T.2] 3),(some lqq5096,rcq5096.at .busy none),(some aF,blk [.slice M ((qc m e).length) (o - 0),.slice a8 ((qb m e).length) (o - (qd m e))] 179),(some rcq5096.defers,.deferred (some [])),(some G,blk [uM B m o,uM C i p,uM E f q,iv e,iv d,iv a] 63),(some aM,blk [iv a5] 3),(some aL,blk [.func (.func 158) #[] #[pt t,pt x]] 180),(some aK,blk [uD,uD,uD,iv 0,iv 0,iv 0] 63),(some aJ,blk [uM B m o,uM C i p,uM E f q,iv e,iv d,iv a] 63)]) I (by kernel_rfl) (fun y=>⟨rfl,rfl⟩) (fun y=>?_) ?_)))
  ·
   refine tt rfl rfl (tt rfl rfl (tt rfl rfl (tl1 [(some aF,blk [.slice M ((qc m e).length) (o - 0),.slice a8 ((qb m e).length) (o - (qd m e))] 179)] rfl rfl (fun X w I=>ag I 0 (.slice M ((qc m e).length) (o - 0)) mq rfl rfl rfl br) (tt rfl rfl (tg (.slice (some ⟨(y 5).b,0,none⟩) 2 2) [] [] rfl ⟨rfl,rfl,rfl⟩ ?_ ?_)))))
   ·intro hp X w I
    refine fu I [.slice M ((qc m e).length) (o - 0),uN a2 T.1 aC] 38 (fun b=>slv (some b) 2 2) (by kernel_rfl) fun bW w I=>⟨wit bW [] [] [] [],rfl,trivial,I.castL rfl⟩
   refine tg (slv ((y 6).g 0) U.length ((y 6).c 0)) [(some (y 5).b,blk [.slice M ((qc m e).length) (o - 0),uN a2 T.1 aC] 38),(a2,blk aZ 35)] [(some (y 5).b,blk [.slice M ((qc m e).length) (o - 0),uN a2 T.1 aC] 38),(a2,blk aZ 35)] rfl ⟨rfl,rfl,rfl⟩ ?_ ?_
   ·intro hp X w I
    refine co 123 _ (by kernel_rfl) (L123 _ (some ⟨(y 5).b,0,none⟩) 2 [(m.drop 0).take ((qd m e) - 0),T.1] [(⟨(m.drop 0).take ((qd m e) - 0),M,o - 0⟩:Dst),(⟨T.1,(uG a2),aC⟩:Dst)] (I.cells 0 (off:=0) rfl (fun j u h=>by rw [Nat.zero_add]; exact h)) rfl (fa_cons ⟨(hC6735.inv0 I),(cut_big aX bO),(cut_cap aX aN)⟩ (fa_cons ⟨(I.rowCells 1 rfl b0),am rfl b0.big,am rfl b0.cap⟩ fa_nil)) (mx rfl) (Nat.le_refl _) N _ cA) ?_
    rintro v w ⟨b2,b3,b4,rfl,hN,b5⟩
    have I:=I.join hN; clear hN
    exact ⟨wit 0 [b2] [b3] [b4] [],rfl,Eq.mp rfl b5,I.castL rfl⟩
   refine tt rfl rfl (tl1 [(some aF,blk [.slice M ((qc m e).length) (o - 0),.slice a8 ((qb m e).length) (o - (qd m e))] 179)] rfl rfl (fun X w I=>ag I 0 (.slice M ((qc m e).length) (o - 0)) mq rfl rfl rfl br) (tt rfl (by kernel_rfl) (tt rfl rfl (tt rfl rfl (tS [(some s,blk [uD,uD,uD,iv 0,iv 0,iv 0] 63)] rfl ⟨rfl,rfl⟩ (fun X w I=>aq I 0 1 [slv ((y 6).g 0) U.length ((y 6).c 0)] mw rfl rfl rfl rfl rfl (mx rfl) fun w I=>⟨rfl,I.castL rfl⟩) (tt rfl rfl (tt rfl rfl (tS [(some s,blk [slv ((y 6).g 0) U.length ((y 6).c 0),uD,uD,iv 0,iv 0,iv 0] 63)] rfl ⟨rfl,rfl⟩ (fun X w I=>aq I 0 1 [iv ((qc m e).length:Int)] zs3 rfl rfl rfl rfl rfl (mx rfl) fun w I=>⟨rfl,I.castL rfl⟩) (tn)))))))))
  intro y hp ρ w hag I
  have b5:Row 3 ((y 6).g 0) U.length ((y 6).c 0) ((y 6).cl 0) (al bb U):=pgl hp (k:=6) (by decide) (by kernel_rfl)
  clear hp
  generalize (y 5).b=bW at *
  generalize (y 6).g 0=b2 at *
  generalize (y 6).c 0=b3 at *
  generalize (y 6).cl 0=b4 at *
  obtain ⟨ρ,rfl⟩:=hag.form
  refine ⟨_,I.pk [6,0,1,2,3,4,5,7,8,9,10,11,12,13] rfl,fun w I=>?_⟩
  refine pu bF rfl (aa (.inl ⟨rfl,⟨b2,b3,b4,T.2,U,((qc m e).length:Int),(uK rfl),I.pk [0,9,8,13,12,5,6,11,10,3,2] rfl,(b5.to rfl rfl),F⟩⟩))
 intro ρ w hJ
 obtain ⟨A,K,aB,aT,H,L,hag,I,bX,F⟩:=hJ
 obtain ⟨ρ,rfl⟩:=hag.form
 unfold F45j1 at F
 refine ai rfl (ak (rgn rfl (pu2 (iv 1) (iv 1) rfl (aa (⟨rfl,lh ?_⟩)))))
 refine uL rfl (xl rfl (fun _=>?_) (fun h=>absurd (by decide) h))
 refine aa (ab (ah rfl (ak (ab (au (uL rfl (pu3 (iv 1) (uM C i p) (iv 1) (by kernel_rfl) (pu (uM C i p) rfl (aa (uL rfl (pu3 (iv 1) (uF G 3) (uF G 4) (by kernel_rfl) (xg I 1 (iv d) zi3 rfl (pu3 (iv (if 0 > d then 0 else d)) (uM C i p) (iv ((i.length:Nat):Int)) (by kernel_rfl) (pu2 (iv (qa i d)) (iv (qa i d)) (by kernel_rfl) (aa (dn (fun ρ w=>∃ (Q V aG aU:_) (Y:List Sp3) (a6:_),cd ρ [(0,yfn lqq5096),(1,pt G),(7,.agg #[uM B m o,uM C i p,uM E f q]),(8,iv 1),(30,bF)]∧Inv [] w0 w [(some lqq5096,rcq5096.at .ready none),(some G,blk [uM B m o,uM C i p,uM E f q,iv e,iv d,iv a] 63),(some rcq5096.defers,.deferred (some [])),(some aJ,blk [uM B m o,uM C i p,uM E f q,iv e,iv d,iv a] 63),(some aK,blk [uD,uD,uD,iv 0,iv 0,iv 0] 63),(some t,blk [uM R J S] 64),(some x,blk [iv aU] 3),(some aL,blk [.func (.func 158) #[] #[pt t,pt x]] 180),(some aM,blk [iv a5] 3),(some s,blk [uN A H K,uN Q Y V,uD,iv L,iv a6,iv 0] 63),(A,blk aB 35),(Q,blk aG 35)]∧(Row 3 Q (Y.length) V aG (al bb Y))∧F45j2 f a J N a5 H L aU Y a6=some r) ?_ ?_))))))))))))))))
 ·
  refine gm 9 I (by kernel_rfl) (zB (yfn lqq5096) (iv 1) rfl (zB (uM C i p) (iv (qa i d)) rfl (gdE F (fun bY F=>gdE F (fun b6 F=>?_)))))
  obtain ⟨O,hC6669,cB⟩:=cutA (enc:=bb) (l:=i) (lo:=0) (hi:=(qd i d)) (c:=p) (k:=3) bk bP b6 aO
  refine zc (.slice O ((qc i d).length) (p - 0)) (fun w I=>cB mj mc rfl (.inr ⟨rfl,rfl⟩) (.inl (congrArg (fun z=>some (Value.int .i64 z)) (Int.toNat_of_nonneg bY).symm)) br) (zB (uM C i p) (iv (qa i d)) rfl (gdE F (fun b7 F=>?_)))
  obtain ⟨a9,hC6671,cC⟩:=cutA (enc:=bb) (l:=i) (lo:=(qd i d)) (hi:=i.length) (c:=p) (k:=3) bk bP b7 aO
  refine zc (.slice a9 ((qb i d).length) (p - (qd i d))) (fun w I=>cC mj mc rfl (.inl (congrArg (fun z=>some (Value.int .i64 z)) (Int.toNat_of_nonneg bY).symm)) (.inr ⟨rfl,rfl⟩) br) (zP (.agg #[.slice O ((qc i d).length) (p - 0),.slice a9 ((qb i d).length) (p - (qd i d))]) (by kernel_rfl) (zh (fun w I=>ph (li (fv:=yfn lqq5096) [iv 1,.agg #[.slice O ((qc i d).length) (p - 0),.slice a9 ((qb i d).length) (p - (qd i d))]] rfl (by kernel_rfl) ?_))))
  have I:=I.pk [0,1,2,3,4,5,6,7,8,9,10] rfl
  refine eu I hofq5096 [18,19] hpsq5096 rfl (by decide) ?_
  rw [hasq5096]
  refine uL rfl (pu (iv 1) rfl (aa (rgn rfl (ph (bh I _ zeroValue179 rfl fun aH w I=>xi I 0 _ zs179 rfl fun w I=>aa (⟨rfl,_,I.pk [1,0,2,3,4,5,6,7,8,9,10,11] rfl,?_⟩))))))
  intro w I
  rw [hboq5096]
  refine au (uL rfl (pu (uF aH 1) rfl (xg I 1 (.slice a9 ((qb i d).length) (p - (qd i d))) mq rfl (xg I 8 (.func (.func 158) #[] #[pt t,pt x]) zi180 rfl (bt F (fun Z cD F=>ph (co 122 [.slice a9 ((qb i d).length) (p - (qd i d)),.func (.func 158) #[] #[pt t,pt x]] (by kernel_rfl) (L122 N _ t x a9 (p - (qd i d)) (qb i d) R S J aT (I.lend [6,7] (by decide) rfl rfl) (I.apartL0 [6,7] rfl rfl hC6671) (cut_big b7 bQ) (cut_cap b7 aO) (I.apartL0 [6,7] rfl rfl aQ) aR aS _ cD) ?_)))))))
  rintro v w ⟨a3,aD,b8,hv,hN,b9⟩
  subst hv
  have I:=I.backsL [6,7] [0,1,2,3,4,5,8,9,10,11] (by decide) rfl rfl rfl hN; clear hN
  refine pu (uN a3 Z.1 aD) rfl (aa (uL rfl (pu (iv 1) rfl (xg I 10 (iv a5) zi3 rfl (ifE F (fun bA F=>?_) (fun bA F=>?_))))))
  ·
   refine xn rfl (uO bA) (fun _=>aa (ai rfl (ak (⟨_,I.pk [3,0,1,2,4,5,6,7,8,9,10,11,12] rfl,fun w I=>?_⟩))))
   refine pu bF rfl (aa ?_)
   have I:=I.nilRow 35
   exact .inl ⟨rfl,⟨none,0,[],Z.2,[],0,(uK rfl),I.pk [1,6,7,8,9,3,4,10,11,12,13,0] rfl,(Row.nil_ 3),F⟩⟩
  refine xn rfl (fun _=>?_) (uP bA)
  refine aa (ah rfl (bt F (fun a0 cE F=>kx [tv (fun _=>(iv 1)),tv (fun _=>(iv 1)),tv (fun _=>(pt aH)),tr (fun _=>(.slice O ((qc i d).length) (p - 0))) [20],tv (fun _=>(uN a3 Z.1 aD)),⟨fun y=>(.slice (some ⟨(y 5).b,0,none⟩) 2 2),fun y=>[(some (y 5).b,blk [.slice O ((qc i d).length) (p - 0),uN a3 Z.1 aD] 38)],fun _=>True,[],[]⟩,⟨fun y=>(slv ((y 6).g 0) a0.length ((y 6).c 0)),fun y=>[(((y 6).g 0),blk ((y 6).cl 0) 35)],fun y=>(Row 3 ((y 6).g 0) a0.length ((y 6).c 0) ((y 6).cl 0) (al bb a0)),[],[5,16]⟩,tv (fun _=>(pt aH)),tr (fun _=>(.slice O ((qc i d).length) (p - 0))) [20],tv (fun _=>(iv ((qc i d).length:Int))),tv (fun _=>(pt s)),tv (fun _=>(uF s 1)),tst (fun y=>[(some s,blk [uN A H K,slv ((y 6).g 0) a0.length ((y 6).c 0),uD,iv L,iv 0,iv 0] 63)]) 27,tv (fun _=>(uF s 3)),tv (fun _=>(uF s 4)),tst (fun y=>[(some s,blk [uN A H K,slv ((y 6).g 0) a0.length ((y 6).c 0),uD,iv L,iv ((qc i d).length:Int),iv 0] 63)]) 12] (fun _=>[]) (fun y=>[(some (y 5).b,blk [.slice O ((qc i d).length) (p - 0),uN a3 Z.1 aD] 38),(((y 6).g 0),blk ((y 6).cl 0) 35),(some s,blk [uN A H K,slv ((y 6).g 0) a0.length ((y 6).c 0),uD,iv L,iv ((qc i d).length:Int),iv 0] 63),(a3,blk b8 35),(some t,blk [uM R J S] 64),(some x,blk [iv Z.2] 3),(some lqq5096,rcq5096.at .busy none),(some aH,blk [.slice O ((qc i d).length) (p - 0),.slice a9 ((qb i d).length) (p - (qd i d))] 179),(some G,blk [uM B m o,uM C i p,uM E f q,iv e,iv d,iv a] 63),(some rcq5096.defers,.deferred (some [])),(some aJ,blk [uM B m o,uM C i p,uM E f q,iv e,iv d,iv a] 63),(some aK,blk [uD,uD,uD,iv 0,iv 0,iv 0] 63),(some aL,blk [.func (.func 158) #[] #[pt t,pt x]] 180),(some aM,blk [iv a5] 3),(A,blk aB 35)]) I (by kernel_rfl) (fun y=>⟨rfl,rfl⟩) (fun y=>?_) ?_)))
  ·
   refine tt rfl rfl (tt rfl rfl (tt rfl rfl (tl1 [(some aH,blk [.slice O ((qc i d).length) (p - 0),.slice a9 ((qb i d).length) (p - (qd i d))] 179)] rfl rfl (fun X w I=>ag I 0 (.slice O ((qc i d).length) (p - 0)) mq rfl rfl rfl br) (tt rfl rfl (tg (.slice (some ⟨(y 5).b,0,none⟩) 2 2) [] [] rfl ⟨rfl,rfl,rfl⟩ ?_ ?_)))))
   ·intro hp X w I
    refine fu I [.slice O ((qc i d).length) (p - 0),uN a3 Z.1 aD] 38 (fun b=>slv (some b) 2 2) (by kernel_rfl) fun bZ w I=>⟨wit bZ [] [] [] [],rfl,trivial,I.castL rfl⟩
   refine tg (slv ((y 6).g 0) a0.length ((y 6).c 0)) [(some (y 5).b,blk [.slice O ((qc i d).length) (p - 0),uN a3 Z.1 aD] 38),(a3,blk b8 35)] [(some (y 5).b,blk [.slice O ((qc i d).length) (p - 0),uN a3 Z.1 aD] 38),(a3,blk b8 35)] rfl ⟨rfl,rfl,rfl⟩ ?_ ?_
   ·intro hp X w I
    refine co 123 _ (by kernel_rfl) (L123 _ (some ⟨(y 5).b,0,none⟩) 2 [(i.drop 0).take ((qd i d) - 0),Z.1] [(⟨(i.drop 0).take ((qd i d) - 0),O,p - 0⟩:Dst),(⟨Z.1,(uG a3),aD⟩:Dst)] (I.cells 0 (off:=0) rfl (fun j u h=>by rw [Nat.zero_add]; exact h)) rfl (fa_cons ⟨(hC6669.inv0 I),(cut_big b6 bQ),(cut_cap b6 aO)⟩ (fa_cons ⟨(I.rowCells 1 rfl b9),am rfl b9.big,am rfl b9.cap⟩ fa_nil)) (mx rfl) (Nat.le_refl _) N _ cE) ?_
    rintro v w ⟨bB,bC,bD,rfl,hN,bE⟩
    have I:=I.join hN; clear hN
    exact ⟨wit 0 [bB] [bC] [bD] [],rfl,Eq.mp rfl bE,I.castL rfl⟩
   refine tt rfl rfl (tl1 [(some aH,blk [.slice O ((qc i d).length) (p - 0),.slice a9 ((qb i d).length) (p - (qd i d))] 179)] rfl rfl (fun X w I=>ag I 0 (.slice O ((qc i d).length) (p - 0)) mq rfl rfl rfl br) (tt rfl (by kernel_rfl) (tt rfl rfl (tt rfl rfl (tS [(some s,blk [uN A H K,uD,uD,iv L,iv 0,iv 0] 63)] rfl ⟨rfl,rfl⟩ (fun X w I=>aq I 0 1 [slv ((y 6).g 0) a0.length ((y 6).c 0)] mw rfl rfl rfl rfl rfl (mx rfl) fun w I=>⟨rfl,I.castL rfl⟩) (tt rfl rfl (tt rfl rfl (tS [(some s,blk [uN A H K,slv ((y 6).g 0) a0.length ((y 6).c 0),uD,iv L,iv 0,iv 0] 63)] rfl ⟨rfl,rfl⟩ (fun X w I=>aq I 0 1 [iv ((qc i d).length:Int)] zs3 rfl rfl rfl rfl rfl (mx rfl) fun w I=>⟨rfl,I.castL rfl⟩) (tn)))))))))
  intro y hp ρ w hag I
  have bE:Row 3 ((y 6).g 0) a0.length ((y 6).c 0) ((y 6).cl 0) (al bb a0):=pgl hp (k:=6) (by decide) (by kernel_rfl)
  clear hp
  generalize (y 5).b=bZ at *
  generalize (y 6).g 0=bB at *
  generalize (y 6).c 0=bC at *
  generalize (y 6).cl 0=bD at *
  obtain ⟨ρ,rfl⟩:=hag.form
  refine ⟨_,I.pk [6,0,1,2,3,4,5,7,8,9,10,11,12,13,14] rfl,fun w I=>?_⟩
  refine pu bF rfl (aa (.inl ⟨rfl,⟨bB,bC,bD,Z.2,a0,((qc i d).length:Int),(uK rfl),I.pk [0,8,9,10,11,5,6,12,13,3,14,2] rfl,(bE.to rfl rfl),F⟩⟩))
 intro ρ w hJ
 obtain ⟨Q,V,aG,aU,Y,a6,hag,I,c0,F⟩:=hJ
 obtain ⟨ρ,rfl⟩:=hag.form
 unfold F45j2 at F
 refine ai rfl (ak (rgn rfl (pu2 (iv 2) (iv 2) rfl (aa (⟨rfl,lh ?_⟩)))))
 refine uL rfl (xl rfl (fun _=>?_) (fun h=>absurd (by decide) h))
 refine aa (ab (ah rfl (ak (ab (au (uL rfl (pu3 (iv 2) (uM E f q) (iv 2) (by kernel_rfl) (pu (uM E f q) rfl (aa (uL rfl (pu3 (iv 2) (uF G 3) (uF G 5) (by kernel_rfl) (xg I 1 (iv a) zi3 rfl (pu3 (iv (if 0 > a then 0 else a)) (uM E f q) (iv ((f.length:Nat):Int)) (by kernel_rfl) (pu2 (iv (qa f a)) (iv (qa f a)) (by kernel_rfl) (aa (ab (gm 9 I (by kernel_rfl) (zB (yfn lqq5096) (iv 2) rfl (zB (uM E f q) (iv (qa f a)) rfl (gdE F (fun c1 F=>gdE F (fun bG F=>?_))))))))))))))))))))))
 obtain ⟨P,hC6603,cF⟩:=cutA (enc:=bb) (l:=f) (lo:=0) (hi:=(qd f a)) (c:=q) (k:=3) bk bR bG aP
 refine zc (.slice P ((qc f a).length) (q - 0)) (fun w I=>cF mj mc rfl (.inr ⟨rfl,rfl⟩) (.inl (congrArg (fun z=>some (Value.int .i64 z)) (Int.toNat_of_nonneg c1).symm)) br) (zB (uM E f q) (iv (qa f a)) rfl (gdE F (fun bH F=>?_)))
 obtain ⟨aA,hC6605,cG⟩:=cutA (enc:=bb) (l:=f) (lo:=(qd f a)) (hi:=f.length) (c:=q) (k:=3) bk bR bH aP
 refine zc (.slice aA ((qb f a).length) (q - (qd f a))) (fun w I=>cG mj mc rfl (.inl (congrArg (fun z=>some (Value.int .i64 z)) (Int.toNat_of_nonneg c1).symm)) (.inr ⟨rfl,rfl⟩) br) (zP (.agg #[.slice P ((qc f a).length) (q - 0),.slice aA ((qb f a).length) (q - (qd f a))]) (by kernel_rfl) (zh (fun w I=>ph (li (fv:=yfn lqq5096) [iv 2,.agg #[.slice P ((qc f a).length) (q - 0),.slice aA ((qb f a).length) (q - (qd f a))]] rfl (by kernel_rfl) ?_))))
 have I:=I.pk [0,1,2,3,4,5,6,7,8,9,10,11] rfl
 refine eu I hofq5096 [18,19] hpsq5096 rfl (by decide) ?_
 rw [hasq5096]
 refine uL rfl (pu (iv 2) rfl (aa (rgn rfl (ph (bh I _ zeroValue179 rfl fun aI w I=>xi I 0 _ zs179 rfl fun w I=>aa (⟨rfl,_,I.pk [1,0,2,3,4,5,6,7,8,9,10,11,12] rfl,?_⟩))))))
 intro w I
 rw [hboq5096]
 refine au (uL rfl (pu (uF aI 1) rfl (xg I 1 (.slice aA ((qb f a).length) (q - (qd f a))) mq rfl (xg I 8 (.func (.func 158) #[] #[pt t,pt x]) zi180 rfl (bt F (fun a7 cH F=>ph (co 122 [.slice aA ((qb f a).length) (q - (qd f a)),.func (.func 158) #[] #[pt t,pt x]] (by kernel_rfl) (L122 N _ t x aA (q - (qd f a)) (qb f a) R S J aU (I.lend [6,7] (by decide) rfl rfl) (I.apartL0 [6,7] rfl rfl hC6605) (cut_big bH bS) (cut_cap bH aP) (I.apartL0 [6,7] rfl rfl aQ) aR aS _ cH) ?_)))))))
 rintro v w ⟨a4,aE,bI,hv,hN,bJ⟩
 subst hv
 have I:=I.backsL [6,7] [0,1,2,3,4,5,8,9,10,11,12] (by decide) rfl rfl rfl hN; clear hN
 refine pu (uN a4 a7.1 aE) rfl (aa (uL rfl (pu (iv 2) rfl (xg I 10 (iv a5) zi3 rfl (ifE F (fun bK F=>?_) (fun bK F=>?_))))))
 ·
  refine xn rfl (uO bK) (fun _=>aa (ai rfl (ak (⟨_,I.pk [3,0,1,2,4,5,6,7,8,9,10,11,12,13] rfl,fun w I=>?_⟩))))
  refine pu bF rfl (aa (ai rfl (ak (rgn rfl (pu2 (iv 3) (iv 3) rfl (aa (⟨rfl,lh ?_⟩)))))))
  refine uL rfl (xl rfl (fun h=>absurd h (by decide)) (fun _=>aa (ab (ai rfl (bw (⟨.tuple #[],Ret.r0 rfl,?_⟩))))))
  refine ⟨_,.inl ⟨I.pk [0,1,2,3,4,5,6,7,8,9,10,11,12,13] rfl,fun w I=>?_⟩⟩
  refine uL rfl (xm I 11 mt mi rfl (xi I 8 _ mi rfl fun w I=>aa (aj (cf.mark (D:=rcq5096.defers) (I.pk [6,0,1,2,3,4,5,7,8,9,10,11,12,13] rfl) ?_))))
  intro w I
  have I:=I.nilRow 35
  cases F
  exact ⟨_,Ret.c rfl rfl (ce I 8 6 [uN A H K,uN Q Y V,uD,iv L,iv a6,iv 0] mt mi rfl rfl rfl),⟨A,K,aB,Q,V,aG,none,0,[],rfl,I.pk [12,13,0] rfl,bX.to rfl rfl,c0.to rfl rfl,Row.nil_ 3⟩⟩
 refine xn rfl (fun _=>?_) (uP bK)
 refine aa (ah rfl (bt F (fun a1 cI F=>kx [tv (fun _=>(iv 2)),tv (fun _=>(iv 2)),tv (fun _=>(pt aI)),tr (fun _=>(.slice P ((qc f a).length) (q - 0))) [20],tv (fun _=>(uN a4 a7.1 aE)),⟨fun y=>(.slice (some ⟨(y 5).b,0,none⟩) 2 2),fun y=>[(some (y 5).b,blk [.slice P ((qc f a).length) (q - 0),uN a4 a7.1 aE] 38)],fun _=>True,[],[]⟩,⟨fun y=>(slv ((y 6).g 0) a1.length ((y 6).c 0)),fun y=>[(((y 6).g 0),blk ((y 6).cl 0) 35)],fun y=>(Row 3 ((y 6).g 0) a1.length ((y 6).c 0) ((y 6).cl 0) (al bb a1)),[],[5,16]⟩,tv (fun _=>(pt aI)),tr (fun _=>(.slice P ((qc f a).length) (q - 0))) [20],tv (fun _=>(iv ((qc f a).length:Int))),tv (fun _=>(pt s)),tv (fun _=>(uF s 2)),tst (fun y=>[(some s,blk [uN A H K,uN Q Y V,slv ((y 6).g 0) a1.length ((y 6).c 0),iv L,iv a6,iv 0] 63)]) 27,tv (fun _=>(uF s 3)),tv (fun _=>(uF s 5)),tst (fun y=>[(some s,blk [uN A H K,uN Q Y V,slv ((y 6).g 0) a1.length ((y 6).c 0),iv L,iv a6,iv ((qc f a).length:Int)] 63)]) 12] (fun _=>[]) (fun y=>[(some (y 5).b,blk [.slice P ((qc f a).length) (q - 0),uN a4 a7.1 aE] 38),(((y 6).g 0),blk ((y 6).cl 0) 35),(some s,blk [uN A H K,uN Q Y V,slv ((y 6).g 0) a1.length ((y 6).c 0),iv L,iv a6,iv ((qc f a).length:Int)] 63),(a4,blk bI 35),(some t,blk [uM R J S] 64),(some x,blk [iv a7.2] 3),(some lqq5096,rcq5096.at .busy none),(some aI,blk [.slice P ((qc f a).length) (q - 0),.slice aA ((qb f a).length) (q - (qd f a))] 179),(some G,blk [uM B m o,uM C i p,uM E f q,iv e,iv d,iv a] 63),(some rcq5096.defers,.deferred (some [])),(some aJ,blk [uM B m o,uM C i p,uM E f q,iv e,iv d,iv a] 63),(some aK,blk [uD,uD,uD,iv 0,iv 0,iv 0] 63),(some aL,blk [.func (.func 158) #[] #[pt t,pt x]] 180),(some aM,blk [iv a5] 3),(A,blk aB 35),(Q,blk aG 35)]) I (by kernel_rfl) (fun y=>⟨rfl,rfl⟩) (fun y=>?_) ?_)))
 ·
  refine tt rfl rfl (tt rfl rfl (tt rfl rfl (tl1 [(some aI,blk [.slice P ((qc f a).length) (q - 0),.slice aA ((qb f a).length) (q - (qd f a))] 179)] rfl rfl (fun X w I=>ag I 0 (.slice P ((qc f a).length) (q - 0)) mq rfl rfl rfl br) (tt rfl rfl (tg (.slice (some ⟨(y 5).b,0,none⟩) 2 2) [] [] rfl ⟨rfl,rfl,rfl⟩ ?_ ?_)))))
  ·intro hp X w I
   refine fu I [.slice P ((qc f a).length) (q - 0),uN a4 a7.1 aE] 38 (fun b=>slv (some b) 2 2) (by kernel_rfl) fun c2 w I=>⟨wit c2 [] [] [] [],rfl,trivial,I.castL rfl⟩
  refine tg (slv ((y 6).g 0) a1.length ((y 6).c 0)) [(some (y 5).b,blk [.slice P ((qc f a).length) (q - 0),uN a4 a7.1 aE] 38),(a4,blk bI 35)] [(some (y 5).b,blk [.slice P ((qc f a).length) (q - 0),uN a4 a7.1 aE] 38),(a4,blk bI 35)] rfl ⟨rfl,rfl,rfl⟩ ?_ ?_
  ·intro hp X w I
   refine co 123 _ (by kernel_rfl) (L123 _ (some ⟨(y 5).b,0,none⟩) 2 [(f.drop 0).take ((qd f a) - 0),a7.1] [(⟨(f.drop 0).take ((qd f a) - 0),P,q - 0⟩:Dst),(⟨a7.1,(uG a4),aE⟩:Dst)] (I.cells 0 (off:=0) rfl (fun j u h=>by rw [Nat.zero_add]; exact h)) rfl (fa_cons ⟨(hC6603.inv0 I),(cut_big bG bS),(cut_cap bG aP)⟩ (fa_cons ⟨(I.rowCells 1 rfl bJ),am rfl bJ.big,am rfl bJ.cap⟩ fa_nil)) (mx rfl) (Nat.le_refl _) N _ cI) ?_
   rintro v w ⟨aV,aW,bL,rfl,hN,bM⟩
   have I:=I.join hN; clear hN
   exact ⟨wit 0 [aV] [aW] [bL] [],rfl,Eq.mp rfl bM,I.castL rfl⟩
  refine tt rfl rfl (tl1 [(some aI,blk [.slice P ((qc f a).length) (q - 0),.slice aA ((qb f a).length) (q - (qd f a))] 179)] rfl rfl (fun X w I=>ag I 0 (.slice P ((qc f a).length) (q - 0)) mq rfl rfl rfl br) (tt rfl (by kernel_rfl) (tt rfl rfl (tt rfl rfl (tS [(some s,blk [uN A H K,uN Q Y V,uD,iv L,iv a6,iv 0] 63)] rfl ⟨rfl,rfl⟩ (fun X w I=>aq I 0 1 [slv ((y 6).g 0) a1.length ((y 6).c 0)] mw rfl rfl rfl rfl rfl (mx rfl) fun w I=>⟨rfl,I.castL rfl⟩) (tt rfl rfl (tt rfl rfl (tS [(some s,blk [uN A H K,uN Q Y V,slv ((y 6).g 0) a1.length ((y 6).c 0),iv L,iv a6,iv 0] 63)] rfl ⟨rfl,rfl⟩ (fun X w I=>aq I 0 1 [iv ((qc f a).length:Int)] zs3 rfl rfl rfl rfl rfl (mx rfl) fun w I=>⟨rfl,I.castL rfl⟩) (tn)))))))))
 intro y hp ρ w hag I
 have bM:Row 3 ((y 6).g 0) a1.length ((y 6).c 0) ((y 6).cl 0) (al bb a1):=pgl hp (k:=6) (by decide) rfl
 clear hp
 generalize (y 5).b=c2 at *
 generalize (y 6).g 0=aV at *
 generalize (y 6).c 0=aW at *
 generalize (y 6).cl 0=bL at *
 obtain ⟨ρ,rfl⟩:=hag.form
 refine ⟨_,I.pk [6,0,1,2,3,4,5,7,8,9,10,11,12,13,14,15] rfl,fun w I=>?_⟩
 refine pu bF rfl (aa (ai rfl (ak (rgn rfl (pu2 (iv 3) (iv 3) rfl (aa (⟨rfl,lh ?_⟩)))))))
 refine uL rfl (xl rfl (fun h=>absurd h (by decide)) (fun _=>aa (ab (ai rfl (bw (⟨.tuple #[],Ret.r0 rfl,?_⟩))))))
 refine ⟨_,.inl ⟨I.pk [0,1,2,3,4,5,6,7,8,9,10,11,12,13,14,15] rfl,fun w I=>?_⟩⟩
 refine uL rfl (xm I 3 mt mi rfl (xi I 11 _ mi rfl fun w I=>aa (aj (cf.mark (D:=rcq5096.defers) (I.pk [9,0,1,2,3,4,5,6,7,8,10,11,12,13,14,15] rfl) ?_))))
 intro w I
 cases F
 exact ⟨_,Ret.c rfl rfl (ce I 10 6 [uN A H K,uN Q Y V,uN aV a1 aW,iv L,iv a6,iv ((qc f a).length:Int)] mt mi rfl rfl rfl),⟨A,K,aB,Q,V,aG,aV,aW,bL,rfl,I.pk [13,14,2] rfl,bX.to rfl rfl,c0.to rfl rfl,bM.to rfl rfl⟩⟩

set_option maxHeartbeats 8000000 in
theorem L49 (w0:World) (a:Int) (r:(Int × List Sp3 × List Sp3 × List Sp3 × Int × Int × Int × List Rc × V36 × Int)) (F:F49 a=some r):bn Tryz.prog 49 [iv a] w0 fun v w=>∃ z0 z1 z2 z3 z4 z5 z6 z7 z8 z9 b d,v=.tuple #[.agg ([iv r.1,uN z0 r.2.1 z1,uN z3 r.2.2.1 z4,uN z6 r.2.2.2.1 z7,iv r.2.2.2.2.1,iv r.2.2.2.2.2.1,iv r.2.2.2.2.2.2.1,uN z9 r.2.2.2.2.2.2.2.1 b]++KN r.2.2.2.2.2.2.2.2.1).toArray,iv r.2.2.2.2.2.2.2.2.2]∧Inv [] w0 w [(z0,blk z2 35),(z3,blk z5 35),(z6,blk z8 35),(z9,blk d 25)]∧Row 3 z0 r.2.1.length z1 z2 (al bb r.2.1)∧Row 3 z3 r.2.2.1.length z4 z5 (al bb r.2.2.1)∧Row 3 z6 r.2.2.2.1.length z7 z8 (al bb r.2.2.2.1)∧Row 8 z9 r.2.2.2.2.2.2.2.1.length b d (al eRc r.2.2.2.2.2.2.2.1):=by
 refine az (n:=10) func49 rfl ntmps49 rfl ?_
 have I:=Inv.start w0
 unfold F49 at F
 refine uL rfl (ph (bh I _ zeroValue81 rfl fun f w I=>pu (iv 0) rfl (aa (ab (uL rfl (pu (iv a) rfl (bt F (fun g e F=>ifN F (fun h8 F=>?_) (fun h8 F=>?_)))))))))
 ·
  refine ph (bg I 126 _ _ (by kernel_rfl) (bn.mono (L126 _ a _ e) (uH (Bool.eq_false_iff.2 h8))) fun w I=>pu bT (by kernel_rfl) (aa (ah rfl (uL (by kernel_rfl) (pu (.agg ([iv 0,uD,uD,uD,iv 0,iv 0,iv 0,uD]++KN vz).toArray) (by kernel_rfl) (xi I 0 _ ml rfl fun w I=>pu (iv 1) (by kernel_rfl) (aa (aj ?_))))))))
  have I:=I.nilRow 35
  have I:=I.nilRow 35
  have I:=I.nilRow 35
  have I:=I.nilRow 25
  cases F
  exact ⟨_,Ret.ct rfl rfl (ce I 4 44 ([iv 0,uD,uD,uD,iv 0,iv 0,iv 0,uD]++KN vz) mu ml rfl rfl rfl) rfl,⟨none,0,[],none,0,[],none,0,[],none,0,[],rfl,I.pk [1,2,3,0] rfl,Row.nil_ 3,Row.nil_ 3,Row.nil_ 3,Row.nil_ 8⟩⟩


 refine ph (bg I 126 _ _ (by kernel_rfl) (bn.mono (L126 _ a _ e) (uH h8)) fun w I=>pu bF (by kernel_rfl) (aa (ai rfl (ak (uL (by kernel_rfl) (pu2 (iv a) (.agg ([iv a,uD,uD,uD,iv 0,iv 0,iv 0,uD]++KN vz).toArray) (by kernel_rfl) (xi I 0 _ ml rfl fun w I=>pu (iv 0) (by kernel_rfl) (aa (aj ?_)))))))))
 have I:=I.nilRow 35
 have I:=I.nilRow 35
 have I:=I.nilRow 35
 have I:=I.nilRow 25
 cases F
 exact ⟨_,Ret.ct rfl rfl (ce I 4 44 ([iv a,uD,uD,uD,iv 0,iv 0,iv 0,uD]++KN vz) mu ml rfl rfl rfl) rfl,⟨none,0,[],none,0,[],none,0,[],none,0,[],rfl,I.pk [1,2,3,0] rfl,Row.nil_ 3,Row.nil_ 3,Row.nil_ 3,Row.nil_ 8⟩⟩
theorem L128 (w0:World) (j:Int) (k:Option Addr) (l:Nat) (e:List Sp3) (o:Option Addr) (p:Nat) (f:List Sp3) (q:Option Addr) (s:Nat) (g:List Sp3) (t:Int) (u:Int) (x:Int) (y:Option Addr) (z:Nat) (i:List Rc) (a:V36) (hG:Gl w0) (S:bi w0 k (al bb e)) (T:e.length≤9223372036854775807) (U:e.length≤l) (V:bi w0 o (al bb f)) (W:f.length≤9223372036854775807) (X:f.length≤p) (Y:bi w0 q (al bb g)) (Z:g.length≤9223372036854775807) (a0:g.length≤s) (a1:bi w0 y (al eRc i)) (a2:i.length≤9223372036854775807) (a3:i.length≤z) (N:Nat) (r:Int) (F:F128 N j e f g t u x i a=some r):bn Tryz.prog 128 [.agg ([iv j,uM k e l,uM o f p,uM q g s,iv t,iv u,iv x,uM y i z]++KN a).toArray] w0 fun v w=>v=iv r∧Below w0.heap.size w0 w:=by
 refine az (n:=37) func128 rfl ntmps128 rfl ?_
 have I:=Inv.start w0
 unfold F128 at F
 refine uL rfl (ph (ca I _ rfl fun A w I=>pu (iv 0) rfl (aa (dn (fun ρ w=>∃ D,cd ρ [(1,pt A),(3,.bool D)]∧Inv [] w0 w [(some A,blk ([iv j,uM k e l,uM o f p,uM q g s,iv t,iv u,iv x,uM y i z]++KN a) 81)]∧F128j1 a N D=some r) ?_ ?_))))
 ·
  refine rgn rfl (pu (pt A) rfl (xg I 0 (iv j) zi3 rfl (bt F (fun aE P F=>ifN F (fun J F=>?_) (fun J F=>?_)))))
  ·
   refine ph (bg I 126 _ _ (by kernel_rfl) (bn.mono (L126 _ j _ P) (uH (Bool.eq_false_iff.2 J))) fun w I=>pu bF (by kernel_rfl) (sf 6 (by kernel_rfl) (pu2 bF bF (by kernel_rfl) (aa (.inl ⟨rfl,⟨false,⟨rfl,rfl,trivial⟩,I.pk [0] rfl,F⟩⟩)))))
  refine ph (bg I 126 _ _ (by kernel_rfl) (bn.mono (L126 _ j _ P) (uH J)) fun w I=>pu bT (by kernel_rfl) (pup (uF A 1) (by kernel_rfl) (aw (by kernel_rfl) (ar I 0 6 [uM k e l,uM o f p,uM q g s,iv t,iv u,iv x] mt mi rfl rfl rfl rfl (pup (uF A 7) (by kernel_rfl) (aw (by kernel_rfl) (ag I 0 (uM y i z) mv rfl rfl rfl (bt F (fun aF a4 F=>aw (by kernel_rfl) (bg I 47 _ _ (by kernel_rfl) (L47 _ k l e o p f q s g t u x y z i (hG.up I) (S.inv0 I) T U (V.inv0 I) W X (Y.inv0 I) Z a0 (a1.inv0 I) a2 a3 N _ a4) fun w I=>ifE F (fun K F=>?_) (fun K F=>?_)))))))))))
  ·
   refine aw rfl (di rfl rfl (fun _=>?_) (uO K))
   refine pu2 bT bT rfl (aa (.inl ⟨rfl,⟨true,⟨rfl,rfl,trivial⟩,I.pk [0] rfl,F⟩⟩))
  refine aw rfl (di rfl rfl (uP K) (fun _=>pu2 bF bF rfl (aa (.inl ⟨rfl,⟨false,⟨rfl,rfl,trivial⟩,I.pk [0] rfl,F⟩⟩))))
 intro ρ w hJ
 obtain ⟨D,hag,I,F⟩:=hJ
 obtain ⟨ρ,rfl⟩:=hag.form
 unfold F128j1 at F
 refine dn (fun ρ w=>∃ E,cd ρ [(3,.bool E)]∧Inv [] w0 w []∧F128j2 E=some r) ?_ ?_
 ·
  refine uL rfl (pu (uF A 8) rfl (xr I 0 36 (KN a) zi79 zs79 rfl (pu (iv 0) rfl (aa (au (cb (fun m ρ w=>∃ B b mm,cd ρ [(3,.bool B),(20,.agg (KN a).toArray),(21,iv b)]∧Inv [] w0 w []∧F128l3 a N mm B b=some r∧mm=m) (m:=N) ⟨D,0,N,⟨rfl,rfl,rfl,trivial⟩,I.pk [] rfl,F,rfl⟩ ?_))))))
  rintro m ρ w ⟨B,b,mm,hag,I,F,hm⟩
  subst hm; obtain ⟨ρ,rfl⟩:=hag.form
  obtain _ | m3:=mm
  ·cases (show (none:Option Int)=some r from F)
  replace F:F128b3 a N (F128l3 a N m3) B b=some r:=F; unfold F128b3 at F
  refine uL rfl (ifN F (fun L F=>?_) (fun L F=>?_))
  ·
   refine xl rfl (uP L) (fun _=>aa (ab (ai rfl (bw (.inl ⟨rfl,⟨B,⟨rfl,trivial⟩,I.pk [] rfl,F⟩⟩)))))
  refine xl rfl (fun _=>?_) (uO L)
  refine aa (ab (ah rfl (ak (dn (fun ρ w=>∃ G,cd ρ [(3,.bool G),(20,.agg (KN a).toArray),(21,iv b)]∧Inv [] w0 w []∧F128j4 (F128l3 a N m3) b G=some r) ?_ ?_))))
  ·
   refine au (uL rfl (gdE F (fun a5 F=>gdE F (fun Q F=>ph (s_ixBig (vs:=[iv (a ((b).toNat * 6+0)),iv (a ((b).toNat * 6+1)),iv (a ((b).toNat * 6+2)),iv (a ((b).toNat * 6+3)),iv (a ((b).toNat * 6+4)),iv (a ((b).toNat * 6+5))]) zu79 zs54 zi54 rfl rfl (Int.toNat_of_nonneg a5).symm Q (kn_sub6 a Q) (ph (bh I _ zeroValue54 rfl fun aG w I=>xi I 0 _ zs54 rfl fun w I=>aa (uL rfl (xm I 0 zi54 zs54 rfl (pu (iv 0) rfl (aa (au (cb (fun m ρ w=>∃ C d mm,cd ρ [(3,.bool C),(20,.agg (KN a).toArray),(21,iv b),(24,.agg #[iv (a ((b).toNat * 6+0)),iv (a ((b).toNat * 6+1)),iv (a ((b).toNat * 6+2)),iv (a ((b).toNat * 6+3)),iv (a ((b).toNat * 6+4)),iv (a ((b).toNat * 6+5))]),(25,iv d)]∧Inv [] w0 w []∧F128l5 a (F128l3 a N m3) b mm C d=some r∧mm=m) (m:=N) ⟨B,0,N,(uK rfl),I.pk [] rfl,F,rfl⟩ ?_)))))))))))))
   rintro m ρ w ⟨C,d,mm,hag,I,F,hm⟩
   subst hm; obtain ⟨ρ,rfl⟩:=hag.form
   obtain _ | m5:=mm
   ·cases (show (none:Option Int)=some r from F)
   replace F:F128b5 a (F128l3 a N m3) b (F128l5 a (F128l3 a N m3) b m5) C d=some r:=F; unfold F128b5 at F
   refine uL rfl (ifN F (fun M F=>?_) (fun M F=>?_))
   ·
    refine xl rfl (uP M) (fun _=>aa (ab (ai rfl (bw (.inl ⟨rfl,⟨C,⟨rfl,rfl,rfl,trivial⟩,I.pk [] rfl,F⟩⟩)))))
   refine xl rfl (fun _=>?_) (uO M)
   refine aa (ab (ah rfl (ak (dn (fun ρ w=>∃ H,cd ρ [(3,.bool H),(20,.agg (KN a).toArray),(21,iv b),(24,.agg #[iv (a ((b).toNat * 6+0)),iv (a ((b).toNat * 6+1)),iv (a ((b).toNat * 6+2)),iv (a ((b).toNat * 6+3)),iv (a ((b).toNat * 6+4)),iv (a ((b).toNat * 6+5))]),(25,iv d)]∧Inv [] w0 w []∧F128j6 (F128l5 a (F128l3 a N m3) b m5) d H=some r) ?_ ?_))))
   ·
    refine au (uL rfl (gdE F (fun a6 F=>gdE F (fun a7 F=>ph (s_ixSix (b).toNat (d).toNat a zu54 zs3 zi3 rfl rfl (Int.toNat_of_nonneg a6).symm a7 (pu (iv (a ((b).toNat * 6+(d).toNat))) rfl (aa ?_)))))))
    have hG:=F; rcases Bool.eq_false_or_eq_true C with rfl | rfl
    ·
     have F:=hG; clear hG
     refine ifE F (fun _ F=>?_) (uO rfl)
     refine rgn rfl (pu2 bT bT rfl (pup (iv (a ((b).toNat * 6+(d).toNat))) rfl (bt F (fun aH R F=>ifE F (fun O F=>?_) (fun O F=>?_)))))
     ·
      refine aw (by kernel_rfl) (bg I 76 _ _ (by kernel_rfl) (bn.mono (L76 _ (a ((b).toNat * 6+(d).toNat)) 0 60 _ R) (uH O)) fun w I=>pu2 bT bT (by kernel_rfl) (aa (.inl ⟨rfl,⟨true,(uK rfl),I.pk [] rfl,F⟩⟩)))
     refine aw (by kernel_rfl) (bg I 76 _ _ (by kernel_rfl) (bn.mono (L76 _ (a ((b).toNat * 6+(d).toNat)) 0 60 _ R) (uH (Bool.eq_false_iff.2 O))) fun w I=>pu2 bF bF (by kernel_rfl) (aa (.inl ⟨rfl,⟨false,(uK rfl),I.pk [] rfl,F⟩⟩)))
    have F:=hG; clear hG
    refine ifE F (fun h=>absurd h (by decide)) (fun _ F=>rgn rfl (pu2 bF bF rfl (sf 2 rfl (pu2 bF bF rfl (aa (.inl ⟨rfl,⟨false,(uK rfl),I.pk [] rfl,F⟩⟩))))))
   intro ρ w hJ
   obtain ⟨H,hag,I,F⟩:=hJ
   obtain ⟨ρ,rfl⟩:=hag.form
   unfold F128j6 at F
   refine rgn rfl (ckE F (fun a8 F=>xa rfl a8 (pu (iv (d+1)) rfl (aa (⟨rfl,m5,Nat.lt_succ_self _,⟨H,d+1,m5,(uK rfl),I.pk [] rfl,F,rfl⟩⟩)))))
  intro ρ w hJ
  obtain ⟨G,hag,I,F⟩:=hJ
  obtain ⟨ρ,rfl⟩:=hag.form
  unfold F128j4 at F
  refine rgn rfl (ckE F (fun a9 F=>xa rfl a9 (pu (iv (b+1)) rfl (aa (⟨rfl,m3,Nat.lt_succ_self _,⟨G,b+1,m3,⟨rfl,rfl,rfl,trivial⟩,I.pk [] rfl,F,rfl⟩⟩)))))
 intro ρ w hJ
 obtain ⟨E,hag,I,F⟩:=hJ
 obtain ⟨ρ,rfl⟩:=hag.form
 unfold F128j2 at F
 refine ab ?_
 have hG:=F; rcases Bool.eq_false_or_eq_true E with rfl | rfl
 ·
  have F:=hG; clear hG
  refine ifE F (fun _ F=>?_) (uO rfl)
  refine rgn (by kernel_rfl) (pu bT (by kernel_rfl) (bt F (fun aA aB F=>ph (bg I 78 _ _ (by kernel_rfl) (L78 _ true 86 _ aB) fun w I=>pu (iv aA) (by kernel_rfl) (aa (aj ?_))))))
  cases F
  exact uJ I rfl
 have F:=hG; clear hG
 refine ifE F (fun h=>absurd h (by decide)) (fun _ F=>rgn (by kernel_rfl) (pu bF (by kernel_rfl) (bt F (fun aC aD F=>ph (bg I 78 _ _ (by kernel_rfl) (L78 _ false 86 _ aD) fun w I=>pu (iv aC) (by kernel_rfl) (aa (aj ?_)))))))
 cases F
 exact uJ I rfl

set_option maxHeartbeats 8000000 in
theorem L51 (w0:World) (f:Int) (z:Option Addr) (A:Nat) (o:List Sp3) (B:Option Addr) (C:Nat) (q:List Sp3) (D:Option Addr) (E:Nat) (s:List Sp3) (G:Int) (H:Int) (J:Int) (u:Option Addr) (x:Nat) (l:List Rc) (j:V36) (e:Rc) (hG:Gl w0) (c7:bi w0 z (al bb o)) (c8:o.length≤9223372036854775807) (cA:o.length≤A) (cB:bi w0 B (al bb q)) (cC:q.length≤9223372036854775807) (cD:q.length≤C) (cE:bi w0 D (al bb s)) (cF:s.length≤9223372036854775807) (cG:s.length≤E) (cH:bi w0 u (al eRc l)) (cI:l.length≤9223372036854775807) (cJ:l.length≤x) (N:Nat) (r:(Int × List Sp3 × List Sp3 × List Sp3 × Int × Int × Int × List Rc × V36 × Int × Int × Int × Int × Int × Int × Int × Str × Int)) (F:F51 N f o q s G H J l j e=some r):bn Tryz.prog 51 [.agg ([iv f,uM z o A,uM B q C,uM D s E,iv G,iv H,iv J,uM u l x]++KN j).toArray,.agg (qg e).toArray] w0 fun v w=>∃ z0 z1 z2 z3 z4 z5 z6 z7 z8 z9 cK cL,v=.tuple #[.agg ([iv r.1,uN z0 r.2.1 z1,uN z3 r.2.2.1 z4,uN z6 r.2.2.2.1 z7,iv r.2.2.2.2.1,iv r.2.2.2.2.2.1,iv r.2.2.2.2.2.2.1,uN z9 r.2.2.2.2.2.2.2.1 cK]++KN r.2.2.2.2.2.2.2.2.1).toArray,.agg #[iv r.2.2.2.2.2.2.2.2.2.1,iv r.2.2.2.2.2.2.2.2.2.2.1,iv r.2.2.2.2.2.2.2.2.2.2.2.1,iv r.2.2.2.2.2.2.2.2.2.2.2.2.1,iv r.2.2.2.2.2.2.2.2.2.2.2.2.2.1,iv r.2.2.2.2.2.2.2.2.2.2.2.2.2.2.1,iv r.2.2.2.2.2.2.2.2.2.2.2.2.2.2.2.1,uE r.2.2.2.2.2.2.2.2.2.2.2.2.2.2.2.2.1],iv r.2.2.2.2.2.2.2.2.2.2.2.2.2.2.2.2.2]∧Inv [] w0 w [(z0,blk z2 35),(z3,blk z5 35),(z6,blk z8 35),(z9,blk cL 25)]∧Row 3 z0 r.2.1.length z1 z2 (al bb r.2.1)∧Row 3 z3 r.2.2.1.length z4 z5 (al bb r.2.2.1)∧Row 3 z6 r.2.2.2.1.length z7 z8 (al bb r.2.2.2.1)∧Row 8 z9 r.2.2.2.2.2.2.2.1.length cK cL (al eRc r.2.2.2.2.2.2.2.1):=by
 refine az (n:=50) func51 rfl ntmps51 rfl ?_
 have I:=Inv.start w0
 unfold F51 at F
 refine uL (by kernel_rfl) (ph (ca I _ rfl fun bA w I=>ph (ca I _ rfl fun aV w I=>ph (bh I _ zeroValue81 rfl fun aP w I=>ph (bh I _ zeroValue25 rfl fun aQ w I=>pu (iv 0) (by kernel_rfl) (aa (ab (uL (by kernel_rfl) (xm I 3 mu ml rfl (bt F (fun bB cV F=>ph (bg I 128 _ _ (by kernel_rfl) (L128 _ f z A o B C q D E s G H J u x l j (hG.up I) (c7.inv0 I) c8 cA (cB.inv0 I) cC cD (cE.inv0 I) cF cG (cH.inv0 I) cI cJ N _ cV) fun w I=>pu (iv bB) (by kernel_rfl) (aa (uL (by kernel_rfl) (pu (iv bB) (by kernel_rfl) (ifN F (fun c2 F=>?_) (fun c2 F=>?_)))))))))))))))))
 ·
  refine xn rfl (fun _=>?_) (uP c2)
  refine aa (ah rfl (uL (by rfl) (pu3 (.agg ([iv 0,uD,uD,uD,iv 0,iv 0,iv 0,uD]++KN vz).toArray) (.agg #[iv 0,iv 0,iv 0,iv 0,iv 0,iv 0,iv 0,uE []]) (iv bB) (by kernel_rfl) (xi I 1 _ ml rfl fun w I=>xi I 0 _ md rfl fun w I=>pu (iv bB) (by rfl) (aa (aj ?_))))))
  have I:=I.nilRow 35
  have I:=I.nilRow 35
  have I:=I.nilRow 35
  have I:=I.nilRow 25
  cases F
  exact ⟨_,Ret.cct rfl rfl (ce I 5 44 ([iv 0,uD,uD,uD,iv 0,iv 0,iv 0,uD]++KN vz) mu ml rfl (by rfl) (by rfl)) rfl (ce I 4 8 [iv 0,iv 0,iv 0,iv 0,iv 0,iv 0,iv 0,uE []] mh md rfl rfl rfl) rfl,⟨none,0,[],none,0,[],none,0,[],none,0,[],rfl,I.pk [1,2,3,0] rfl,Row.nil_ 3,Row.nil_ 3,Row.nil_ 3,Row.nil_ 8⟩⟩


 refine xn rfl (uO c2) (fun _=>aa (ai rfl (ak (uL (by kernel_rfl) (xm I 3 mu ml rfl (ph (gr 129 [.agg ([iv f,uM z o A,uM B q C,uM D s E,iv G,iv H,iv J,uM u l x]++KN j).toArray] (by kernel_rfl) (az (n:=14) func129 rfl ntmps129 rfl (uL (by kernel_rfl) (ph (ca I _ rfl fun Y w I=>pu (.pointer none) (by kernel_rfl) (aa (ab (bt F (fun a cW F=>bt F (fun m cX F=>kx [tv (fun _=>(uF Y 1)),tr (fun _=>(.agg #[uM z o A,uM B q C,uM D s E,iv G,iv H,iv J])) [10],⟨fun y=>(.agg #[slv ((y 2).g 0) a.1.length ((y 2).c 0),slv ((y 2).g 1) a.2.1.length ((y 2).c 1),slv ((y 2).g 2) a.2.2.1.length ((y 2).c 2),iv a.2.2.2.1,iv a.2.2.2.2.1,iv a.2.2.2.2.2]),fun y=>[(((y 2).g 0),blk ((y 2).cl 0) 35),(((y 2).g 1),blk ((y 2).cl 1) 35),(((y 2).g 2),blk ((y 2).cl 2) 35)],fun y=>(Row 3 ((y 2).g 0) a.1.length ((y 2).c 0) ((y 2).cl 0) (al bb a.1))∧(Row 3 ((y 2).g 1) a.2.1.length ((y 2).c 1) ((y 2).cl 1) (al bb a.2.1))∧(Row 3 ((y 2).g 2) a.2.2.1.length ((y 2).c 2) ((y 2).cl 2) (al bb a.2.2.1)),[],[]⟩,tv (fun _=>(uF Y 7)),tr (fun _=>(uM u l x)) [10],⟨fun y=>(slv ((y 5).g 0) m.length ((y 5).c 0)),fun y=>[(((y 5).g 0),blk ((y 5).cl 0) 25)],fun y=>(Row 8 ((y 5).g 0) m.length ((y 5).c 0) ((y 5).cl 0) (al eRc m)),[],[]⟩,tv (fun _=>(uF Y 1)),tst (fun y=>[(some Y,blk ([iv f,slv ((y 2).g 0) a.1.length ((y 2).c 0),slv ((y 2).g 1) a.2.1.length ((y 2).c 1),slv ((y 2).g 2) a.2.2.1.length ((y 2).c 2),iv a.2.2.2.1,iv a.2.2.2.2.1,iv a.2.2.2.2.2,uM u l x]++KN j) 81)]) 10,tv (fun _=>(uF Y 7)),tst (fun y=>[(some Y,blk ([iv f,slv ((y 2).g 0) a.1.length ((y 2).c 0),slv ((y 2).g 1) a.2.1.length ((y 2).c 1),slv ((y 2).g 2) a.2.2.1.length ((y 2).c 2),iv a.2.2.2.1,iv a.2.2.2.2.1,iv a.2.2.2.2.2,slv ((y 5).g 0) m.length ((y 5).c 0)]++KN j) 81)]) 7] (fun _=>[(1,pt Y)]) (fun y=>[(((y 2).g 0),blk ((y 2).cl 0) 35),(((y 2).g 1),blk ((y 2).cl 1) 35),(((y 2).g 2),blk ((y 2).cl 2) 35),(((y 5).g 0),blk ((y 5).cl 0) 25),(some Y,blk ([iv f,slv ((y 2).g 0) a.1.length ((y 2).c 0),slv ((y 2).g 1) a.2.1.length ((y 2).c 1),slv ((y 2).g 2) a.2.2.1.length ((y 2).c 2),iv a.2.2.2.1,iv a.2.2.2.2.1,iv a.2.2.2.2.2,slv ((y 5).g 0) m.length ((y 5).c 0)]++KN j) 81),(some aQ,blk [iv 0,iv 0,iv 0,iv 0,iv 0,iv 0,iv 0,uE []] 25),(some aP,blk ([iv 0,uD,uD,uD,iv 0,iv 0,iv 0,uD]++KN vz) 81),(some aV,blk (qg e) 25),(some bA,blk ([iv f,uM z o A,uM B q C,uM D s E,iv G,iv H,iv J,uM u l x]++KN j) 81)]) I (by kernel_rfl) (fun y=>⟨(by kernel_rfl),(by kernel_rfl)⟩) (fun y=>?_) ?_))))))))))))))))
 ·
  refine tt rfl (by rfl) (tl1 [(some Y,blk ([iv f,uM z o A,uM B q C,uM D s E,iv G,iv H,iv J,uM u l x]++KN j) 81)] rfl (by rfl) (fun X w I=>ar I 0 6 [uM z o A,uM B q C,uM D s E,iv G,iv H,iv J] mt mi rfl rfl rfl rfl br) (tg (.agg #[slv ((y 2).g 0) a.1.length ((y 2).c 0),slv ((y 2).g 1) a.2.1.length ((y 2).c 1),slv ((y 2).g 2) a.2.2.1.length ((y 2).c 2),iv a.2.2.2.1,iv a.2.2.2.2.1,iv a.2.2.2.2.2]) [] [] rfl ⟨(by rfl),(by rfl),(by rfl)⟩ ?_ ?_))
  ·intro hp X w I
   refine co 109 _ (by kernel_rfl) (L109 _ z A o B C q D E s G H J (c7.inv0 I) c8 cA (cB.inv0 I) cC cD (cE.inv0 I) cF cG _ cW) ?_
   rintro v w ⟨Z,a7,bC,a0,a8,bD,a1,a9,bE,rfl,hN,aD,aE,aF⟩
   have I:=I.join hN; clear hN
   exact ⟨wit 0 [Z,a0,a1] [a7,a8,a9] [bC,bD,bE] [],(by rfl),Eq.mp (by rfl) (And.intro aD (And.intro aE aF)),I.castL (by rfl)⟩
  refine tt rfl (by rfl) (tl1 [(some Y,blk ([iv f,uM z o A,uM B q C,uM D s E,iv G,iv H,iv J,uM u l x]++KN j) 81)] rfl (by rfl) (fun X w I=>ag I 0 (uM u l x) mv rfl rfl rfl br) (tg (slv ((y 5).g 0) m.length ((y 5).c 0)) [] [] rfl ⟨(by rfl),(by rfl),(by rfl)⟩ ?_ ?_))
  ·intro hp X w I
   refine co 102 _ (by kernel_rfl) (L102 _ u x l (cH.inv0 I) cI cJ _ cX) ?_
   rintro v w ⟨L,M,bG,rfl,hN,a2⟩
   have I:=I.join hN; clear hN
   exact ⟨wit 0 [L] [M] [bG] [],(by rfl),Eq.mp (by rfl) a2,I.castL (by rfl)⟩
  refine tt rfl (by rfl) (tS [(some Y,blk ([iv f,uM z o A,uM B q C,uM D s E,iv G,iv H,iv J,uM u l x]++KN j) 81)] rfl ⟨(by rfl),(by rfl)⟩ (fun X w I=>aq I 0 6 [slv ((y 2).g 0) a.1.length ((y 2).c 0),slv ((y 2).g 1) a.2.1.length ((y 2).c 1),slv ((y 2).g 2) a.2.2.1.length ((y 2).c 2),iv a.2.2.2.1,iv a.2.2.2.2.1,iv a.2.2.2.2.2] mi rfl rfl rfl rfl rfl (mx rfl) fun w I=>⟨rfl,I.castL (by rfl)⟩) (tt rfl (by rfl) (tS [(some Y,blk ([iv f,slv ((y 2).g 0) a.1.length ((y 2).c 0),slv ((y 2).g 1) a.2.1.length ((y 2).c 1),slv ((y 2).g 2) a.2.2.1.length ((y 2).c 2),iv a.2.2.2.1,iv a.2.2.2.2.1,iv a.2.2.2.2.2,uM u l x]++KN j) 81)] rfl ⟨(by rfl),(by rfl)⟩ (fun X w I=>aq I 0 1 [slv ((y 5).g 0) m.length ((y 5).c 0)] zs45 rfl rfl rfl rfl rfl (mx rfl) fun w I=>⟨rfl,I.castL (by rfl)⟩) (tn))))
 intro y hp ρ w hag I
 obtain ⟨aD,aE,aF⟩:(Row 3 ((y 2).g 0) a.1.length ((y 2).c 0) ((y 2).cl 0) (al bb a.1))∧(Row 3 ((y 2).g 1) a.2.1.length ((y 2).c 1) ((y 2).cl 1) (al bb a.2.1))∧(Row 3 ((y 2).g 2) a.2.2.1.length ((y 2).c 2) ((y 2).cl 2) (al bb a.2.2.1)):=pgl hp (k:=2) (by decide) (by rfl)
 have a2:Row 8 ((y 5).g 0) m.length ((y 5).c 0) ((y 5).cl 0) (al eRc m):=pgl hp (k:=5) (by decide) (by rfl)
 clear hp
 generalize (y 2).g 0=Z at *
 generalize (y 2).c 0=a7 at *
 generalize (y 2).cl 0=bC at *
 generalize (y 2).g 1=a0 at *
 generalize (y 2).c 1=a8 at *
 generalize (y 2).cl 1=bD at *
 generalize (y 2).g 2=a1 at *
 generalize (y 2).c 2=a9 at *
 generalize (y 2).cl 2=bE at *
 generalize (y 5).g 0=L at *
 generalize (y 5).c 0=M at *
 generalize (y 5).cl 0=bG at *
 obtain ⟨ρ,rfl⟩:=hag.form
 refine uL (by kernel_rfl) (xm I 4 mu ml rfl (pu (.agg ([iv f,uN Z a.1 a7,uN a0 a.2.1 a8,uN a1 a.2.2.1 a9,iv a.2.2.2.1,iv a.2.2.2.2.1,iv a.2.2.2.2.2,uN L m M]++KN j).toArray) (by kernel_rfl) (ph (ca I _ rfl fun i w I=>pu (pt i) (by kernel_rfl) (aa (aj (⟨pt i,Ret.r1 rfl rfl,?_⟩)))))))
 refine pu (pt i) (by kernel_rfl) (aa (ab (gm 18 I (by kernel_rfl) (zB (pt i) (pt i) (by kernel_rfl) (zB (pt i) (pt i) (by kernel_rfl) (zg 0 (iv f) zi3 rfl (zB (pt i) (pt i) (by kernel_rfl) (zB (pt i) (uF i 7) (by kernel_rfl) (zg 0 (uN L m M) mv rfl (zB (pt i) (pt i) (by kernel_rfl) (zB (pt i) (pt i) (by kernel_rfl) (zg 0 (iv f) zi3 rfl (bt F (fun K cY F=>zc (iv K) (fun w I=>co 101 [uN L m M,iv f] (by kernel_rfl) (L101 _ (uG L) M m f (I.rowCells 4 rfl a2) (am rfl a2.big) (am rfl a2.cap) N _ cY) uI) (zB (.agg #[iv f,iv K]) (pt aV) (by kernel_rfl) (zh (fun w I=>xq I 8 2 [iv f,iv K] zs23 rfl (mx rfl) fun w I=>aa (ab (uL (by kernel_rfl) (pu (pt i) (by kernel_rfl) (xm I 8 mh md rfl (ph (gr 130 [pt i,.agg #[iv f,iv K,iv e.k,iv e.d,iv e.kn,iv e.op,iv e.on,uE e.t]] (by kernel_rfl) (az (n:=37) func130 rfl ntmps130 rfl (uL (by kernel_rfl) (ph (ca I _ rfl fun dI w I=>pu (iv 0) (by kernel_rfl) (aa (dn (fun ρ w=>∃ (c4 aW b0 bH aX b1 bI aY b2 bJ aR aZ bK:_) (aS:List Sp3) (aT:List Sp3) (aU:List Sp3) (b3 b4 b5:_) (aG:List Rc) (S:_),cd ρ [(0,pt i),(5,pt c4),(6,uN aR aG aZ),(7,iv S)]∧Inv [] w0 w [(some i,blk ([iv f,uN Z a.1 a7,uN a0 a.2.1 a8,uN a1 a.2.2.1 a9,iv a.2.2.2.1,iv a.2.2.2.2.1,iv a.2.2.2.2.2,uN L m M]++KN j) 189),(Z,blk bC 35),(a0,blk bD 35),(a1,blk bE 35),(L,blk bG 25),(some c4,blk [uN aW aS b0,uN aX aT b1,uN aY aU b2,iv b3,iv b4,iv b5] 63),(aW,blk bH 35),(aX,blk bI 35),(aY,blk bJ 35),(aR,blk bK 25),(some bA,blk ([iv f,uM z o A,uM B q C,uM D s E,iv G,iv H,iv J,uM u l x]++KN j) 81),(some aV,blk [iv f,iv K,iv e.k,iv e.d,iv e.kn,iv e.op,iv e.on,uE e.t] 25),(some aP,blk ([iv 0,uD,uD,uD,iv 0,iv 0,iv 0,uD]++KN vz) 81),(some aQ,blk [iv 0,iv 0,iv 0,iv 0,iv 0,iv 0,iv 0,uE []] 25)]∧(Row 3 aW (aS.length) b0 bH (al bb aS))∧(Row 3 aX (aT.length) b1 bI (al bb aT))∧(Row 3 aY (aU.length) b2 bJ (al bb aU))∧(Row 8 aR (aG.length) aZ bK (al eRc aG))∧F51j1 f j e a m K aS aT aU b3 b4 b5 aG S=some r) ?_ ?_)))))))))))))))))))))))))))))
 ·
  refine bt F (fun cZ cM F=>?_)
  obtain ⟨aH,aI,aJ,aK,aL,aM,aN,aO⟩:=cZ
  refine dh I [0,1,2,3,4,5,6,7,8,9,10] (by decide) rfl (by kernel_rfl) (by kernel_rfl) fun hsub=>alp 0 (pt i) hsub rfl (by kernel_rfl) (fun _=>(by kernel_rfl)) (alp 1 (pt i) hsub rfl (by kernel_rfl) (fun _=>(by kernel_rfl)) (alp 2 (pt i) hsub rfl (by kernel_rfl) (fun _=>(by kernel_rfl)) (alp 3 (uF i 1) hsub rfl (by kernel_rfl) (fun _=>(by kernel_rfl)) (ap 4 (.agg #[uN Z a.1 a7,uN a0 a.2.1 a8,uN a1 a.2.2.1 a9,iv a.2.2.2.1,iv a.2.2.2.2.1,iv a.2.2.2.2.2]) hsub rfl (by kernel_rfl) (fun w I=>ar I 1 6 [uN Z a.1 a7,uN a0 a.2.1 a8,uN a1 a.2.2.1 a9,iv a.2.2.2.1,iv a.2.2.2.2.1,iv a.2.2.2.2.2] mt mi rfl rfl rfl rfl br) (alp 5 (pt i) hsub rfl (by kernel_rfl) (fun _=>(by kernel_rfl)) (alp 6 (pt i) hsub rfl (by kernel_rfl) (fun _=>(by kernel_rfl)) (alp 7 (pt i) hsub rfl (by kernel_rfl) (fun _=>(by kernel_rfl)) (alp 8 (uF i 7) hsub rfl (by kernel_rfl) (fun _=>(by kernel_rfl)) (ap 9 (uN L m M) hsub rfl (by kernel_rfl) (fun w I=>ag I 1 (uN L m M) mv rfl rfl rfl br) (ap 10 (.agg #[iv f,iv K,iv e.k,iv e.d,iv e.kn,iv e.op,iv e.on,uE e.t]) hsub rfl (by kernel_rfl) (fun w I=>ma I 0 mh md rfl rfl rfl br) (bc [11,16] (by kernel_rfl) rfl (each2 ?_ ?_))))))))))))
  ·intro w I
   refine dg rfl (co 38 _ (by kernel_rfl) (L38 _ (uG Z) a7 a.1 (uG a0) a8 a.2.1 (uG a1) a9 a.2.2.1 a.2.2.2.1 a.2.2.2.2.1 a.2.2.2.2.2 (uG L) M m (⟨f,K,e.k,e.d,e.kn,e.op,e.on,e.t⟩:Rc) (hG.up I) (I.rowCells 2 rfl aD) (am rfl aD.big) (am rfl aD.cap) (I.rowCells 3 rfl aE) (am rfl aE.big) (am rfl aE.cap) (I.rowCells 4 rfl aF) (am rfl aF.big) (am rfl aF.cap) (I.rowCells 5 rfl a2) (am rfl a2.big) (am rfl a2.cap) N _ cM) ?_)
   rintro v w ⟨bL,bM,d0,bN,bO,d1,bP,bQ,d2,bR,bS,d3,hv,hN,cN,cO,cP,cQ⟩
   dsimp only at hv hN cN cO cP cQ; subst hv
   have I:=I.join hN; clear hN
   refine ⟨_,I,dc (fun _ h=>h.pk [4,5,6,7,8,9,10,11,12,13,14] rfl) ?_⟩
   intro hsub
   refine alp 12 (.tuple #[.agg #[uN bL aH bM,uN bN aI bO,uN bP aJ bQ,iv aK,iv aL,iv aM],uN bR aN bS,iv aO]) hsub rfl (by kernel_rfl) (fun _=>(by kernel_rfl)) (alp 13 (.agg #[uN bL aH bM,uN bN aI bO,uN bP aJ bQ,iv aK,iv aL,iv aM]) hsub rfl (by kernel_rfl) (fun _=>(by kernel_rfl)) (alp 14 (uN bR aN bS) hsub rfl (by kernel_rfl) (fun _=>(by kernel_rfl)) (alp 15 (iv aO) hsub rfl (by kernel_rfl) (fun _=>(by kernel_rfl)) (bc [16] (by kernel_rfl) rfl (cz fun w I=>dg rfl (bh I [uD,uD,uD,iv 0,iv 0,iv 0] zeroValue63 rfl fun d4 w I=>⟨_,I,dc (fun _ h=>h.pk [5,6,7,8,9,10,11,12,13,14,15] rfl) ?_⟩))))))
   intro hsub
   refine bc [17] (by kernel_rfl) rfl (cz fun w I=>dg rfl (aq I 0 6 [uN bL aH bM,uN bN aI bO,uN bP aJ bQ,iv aK,iv aL,iv aM] mi rfl rfl rfl rfl rfl (mx rfl) fun w I=>⟨_,I,dc (fun _ h=>h.pk [5,6,7,8,9,10,11,12,13,14,15] rfl) ?_⟩))
   intro hsub
   refine alp 18 (uN bR aN bS) hsub rfl (by kernel_rfl) (fun _=>(by kernel_rfl)) (alp 19 (iv aO) hsub rfl (by kernel_rfl) (fun _=>(by kernel_rfl)) (cp (by kernel_rfl) (fun w I=>.inl ⟨rfl,⟨d4,bL,bM,d0,bN,bO,d1,bP,bQ,d2,bR,bS,d3,aH,aI,aJ,aK,aL,aM,aN,aO,(uK rfl),I.pk [6,7,8,9,10,0,1,2,3,4,15,14,13,12] rfl,(cN.to rfl rfl),(cO.to rfl rfl),(cP.to rfl rfl),(cQ.to rfl rfl),F⟩⟩)))
  intro w I
  refine dg rfl (bh I [uD,uD,uD,iv 0,iv 0,iv 0] zeroValue63 rfl fun d5 w I=>⟨_,I,dc (fun _ h=>h.pk [1,2,3,4,5,6,7,8,9,10,11] rfl) ?_⟩)
  intro hsub
  refine bc [11] (by kernel_rfl) rfl (cz fun w I=>dg rfl (co 38 _ (by kernel_rfl) (L38 _ (uG Z) a7 a.1 (uG a0) a8 a.2.1 (uG a1) a9 a.2.2.1 a.2.2.2.1 a.2.2.2.2.1 a.2.2.2.2.2 (uG L) M m (⟨f,K,e.k,e.d,e.kn,e.op,e.on,e.t⟩:Rc) (hG.up I) (I.rowCells 3 rfl aD) (am rfl aD.big) (am rfl aD.cap) (I.rowCells 4 rfl aE) (am rfl aE.big) (am rfl aE.cap) (I.rowCells 5 rfl aF) (am rfl aF.big) (am rfl aF.cap) (I.rowCells 6 rfl a2) (am rfl a2.big) (am rfl a2.cap) N _ cM) ?_))
  rintro v w ⟨bU,bV,d6,bW,bX,d7,bY,bZ,d8,c0,c1,d9,hv,hN,cR,cS,cT,cU⟩
  dsimp only at hv hN cR cS cT cU; subst hv
  have I:=I.join hN; clear hN
  refine ⟨_,I,dc (fun _ h=>h.pk [5,6,7,8,9,10,11,12,13,14,15] rfl) ?_⟩
  intro hsub
  refine alp 12 (.tuple #[.agg #[uN bU aH bV,uN bW aI bX,uN bY aJ bZ,iv aK,iv aL,iv aM],uN c0 aN c1,iv aO]) hsub rfl (by kernel_rfl) (fun _=>(by kernel_rfl)) (alp 13 (.agg #[uN bU aH bV,uN bW aI bX,uN bY aJ bZ,iv aK,iv aL,iv aM]) hsub rfl (by kernel_rfl) (fun _=>(by kernel_rfl)) (alp 14 (uN c0 aN c1) hsub rfl (by kernel_rfl) (fun _=>(by kernel_rfl)) (alp 15 (iv aO) hsub rfl (by kernel_rfl) (fun _=>(by kernel_rfl)) (bc [17] (by kernel_rfl) rfl (cz fun w I=>dg rfl (aq I 4 6 [uN bU aH bV,uN bW aI bX,uN bY aJ bZ,iv aK,iv aL,iv aM] mi rfl rfl rfl rfl rfl (mx rfl) fun w I=>⟨_,I,dc (fun _ h=>h.pk [5,6,7,8,9,10,11,12,13,14,15] rfl) ?_⟩))))))
  intro hsub
  refine alp 18 (uN c0 aN c1) hsub rfl (by kernel_rfl) (fun _=>(by kernel_rfl)) (alp 19 (iv aO) hsub rfl (by kernel_rfl) (fun _=>(by kernel_rfl)) (cp (by kernel_rfl) (fun w I=>.inl ⟨rfl,⟨d5,bU,bV,d6,bW,bX,d7,bY,bZ,d8,c0,c1,d9,aH,aI,aJ,aK,aL,aM,aN,aO,(uK rfl),I.pk [6,7,8,9,10,4,0,1,2,3,15,14,13,12] rfl,(cR.to rfl rfl),(cS.to rfl rfl),(cT.to rfl rfl),(cU.to rfl rfl),F⟩⟩)))
 intro ρ w hJ
 obtain ⟨c4,aW,b0,bH,aX,b1,bI,aY,b2,bJ,aR,aZ,bK,aS,aT,aU,b3,b4,b5,aG,S,hag,I,dA,dB,dC,dD,F⟩:=hJ
 obtain ⟨ρ,rfl⟩:=hag.form
 unfold F51j1 at F
 refine dn (fun ρ w=>∃ (O a3 b6 P a4 b7 Q a5 b8 R a6 b9:_) (T:List Sp3) (U:List Sp3) (V:List Sp3) (aA aB aC:_) (W:List Rc),cd ρ [(7,iv S)]∧Inv [] w0 w [(some bA,blk ([iv f,uM z o A,uM B q C,uM D s E,iv G,iv H,iv J,uM u l x]++KN j) 81),(some aV,blk [iv f,iv K,iv e.k,iv e.d,iv e.kn,iv e.op,iv e.on,uE e.t] 25),(some aP,blk ([iv 0,uD,uD,uD,iv 0,iv 0,iv 0,uD]++KN vz) 81),(some aQ,blk [iv 0,iv 0,iv 0,iv 0,iv 0,iv 0,iv 0,uE []] 25),(some i,blk ([iv f,uN O T a3,uN P U a4,uN Q V a5,iv aA,iv aB,iv aC,uN R W a6]++KN j) 189),(O,blk b6 35),(P,blk b7 35),(Q,blk b8 35),(R,blk b9 25)]∧(Row 3 O (T.length) a3 b6 (al bb T))∧(Row 3 P (U.length) a4 b7 (al bb U))∧(Row 3 Q (V.length) a5 b8 (al bb V))∧(Row 8 R (W.length) a6 b9 (al eRc W))∧F51j2 f j e K S T U V aA aB aC W=some r) ?_ ?_
 ·
  refine uL (by rfl) (pu (iv S) (by rfl) (ifN F (fun c5 F=>?_) (fun c5 F=>?_)))
  ·
   refine xe rfl (uP c5) (fun _=>aa (ai rfl (ak (.inl ⟨rfl,⟨Z,a7,bC,a0,a8,bD,a1,a9,bE,L,M,bG,a.1,a.2.1,a.2.2.1,a.2.2.2.1,a.2.2.2.2.1,a.2.2.2.2.2,m,⟨rfl,trivial⟩,I.pk [10,11,12,13,0,1,2,3,4] rfl,(aD.to rfl rfl),(aE.to rfl rfl),(aF.to rfl rfl),(a2.to rfl rfl),F⟩⟩))))
  refine xe rfl (fun _=>?_) (uO c5)
  refine aa (ah rfl (rgn (by rfl) (pu2 (pt i) (pt i) (by rfl) (xm I 5 mt mi rfl (pu3 (uN aR aG aZ) (pt i) (pt i) (by kernel_rfl) (pu (uF i 1) (by rfl) (xq I 0 6 [uN aW aS b0,uN aX aT b1,uN aY aU b2,iv b3,iv b4,iv b5] mi rfl (mx rfl) fun w I=>pu3 (pt i) (pt i) (uF i 7) (by rfl) (xq I 0 1 [uN aR aG aZ] zs45 rfl (mx rfl) fun w I=>aa (.inl ⟨rfl,⟨aW,b0,bH,aX,b1,bI,aY,b2,bJ,aR,aZ,bK,aS,aT,aU,b3,b4,b5,aG,⟨rfl,trivial⟩,I.pk [10,11,12,13,0,6,7,8,9] rfl,(dA.to rfl rfl),(dB.to rfl rfl),(dC.to rfl rfl),(dD.to rfl rfl),F⟩⟩)))))))))
 intro ρ w hJ
 obtain ⟨O,a3,b6,P,a4,b7,Q,a5,b8,R,a6,b9,T,U,V,aA,aB,aC,W,hag,I,dE,dF,dG,dH,F⟩:=hJ
 obtain ⟨ρ,rfl⟩:=hag.form
 unfold F51j2 at F
 refine uL (by rfl) (pu2 (iv S) (iv S) (by rfl) (aa (aj (⟨iv S,Ret.r1 rfl rfl,?_⟩))))
 refine pu (iv S) (by rfl) (aa (uL (by rfl) (pu (iv S) (by rfl) (ifN F (fun c6 F=>?_) (fun c6 F=>?_)))))
 ·
  refine xn rfl (fun _=>?_) (uP c6)
  refine aa (ah rfl (uL (by rfl) (pu3 (.agg ([iv 0,uD,uD,uD,iv 0,iv 0,iv 0,uD]++KN vz).toArray) (.agg #[iv 0,iv 0,iv 0,iv 0,iv 0,iv 0,iv 0,uE []]) (iv S) (by kernel_rfl) (xi I 2 _ ml rfl fun w I=>xi I 3 _ md rfl fun w I=>pu (iv S) (by rfl) (aa (aj ?_))))))
  have I:=I.nilRow 35
  have I:=I.nilRow 35
  have I:=I.nilRow 35
  have I:=I.nilRow 25
  cases F
  exact ⟨_,Ret.cct rfl rfl (ce I 6 44 ([iv 0,uD,uD,uD,iv 0,iv 0,iv 0,uD]++KN vz) mu ml rfl (by rfl) (by rfl)) rfl (ce I 7 8 [iv 0,iv 0,iv 0,iv 0,iv 0,iv 0,iv 0,uE []] mh md rfl rfl rfl) rfl,⟨none,0,[],none,0,[],none,0,[],none,0,[],rfl,I.pk [1,2,3,0] rfl,Row.nil_ 3,Row.nil_ 3,Row.nil_ 3,Row.nil_ 8⟩⟩
 refine xn rfl (uO c6) (fun _=>aa (ai rfl (ak (ab (kx [tv (fun _=>(pt i)),tv (fun _=>(pt i)),tv (fun _=>(pt i)),tr (fun _=>(.agg ([iv f,uN O T a3,uN P U a4,uN Q V a5,iv aA,iv aB,iv aC,uN R W a6]++KN j).toArray)) [12],tr (fun _=>(.agg #[iv f,iv K,iv e.k,iv e.d,iv e.kn,iv e.op,iv e.on,uE e.t])) [9],tst (fun _=>[(some aP,blk ([iv f,uN O T a3,uN P U a4,uN Q V a5,iv aA,iv aB,iv aC,uN R W a6]++KN j) 81)]) 10,tst (fun _=>[(some aQ,blk [iv f,iv K,iv e.k,iv e.d,iv e.kn,iv e.op,iv e.on,uE e.t] 25)]) 11,tv (fun _=>(iv 0))] (fun _=>[(4,pt aP),(5,pt aQ),(6,iv 0)]) (fun _=>[(some aP,blk ([iv f,uN O T a3,uN P U a4,uN Q V a5,iv aA,iv aB,iv aC,uN R W a6]++KN j) 81),(some aQ,blk [iv f,iv K,iv e.k,iv e.d,iv e.kn,iv e.op,iv e.on,uE e.t] 25),(some bA,blk ([iv f,uM z o A,uM B q C,uM D s E,iv G,iv H,iv J,uM u l x]++KN j) 81),(some aV,blk [iv f,iv K,iv e.k,iv e.d,iv e.kn,iv e.op,iv e.on,uE e.t] 25),(some i,blk ([iv f,uN O T a3,uN P U a4,uN Q V a5,iv aA,iv aB,iv aC,uN R W a6]++KN j) 189),(O,blk b6 35),(P,blk b7 35),(Q,blk b8 35),(R,blk b9 25)]) I (by kernel_rfl) (fun y=>⟨(by kernel_rfl),(by kernel_rfl)⟩) (fun y=>?_) ?_)))))
 ·
  refine tt rfl (by rfl) (tt rfl (by rfl) (tt rfl (by rfl) (tl1 [(some i,blk ([iv f,uN O T a3,uN P U a4,uN Q V a5,iv aA,iv aB,iv aC,uN R W a6]++KN j) 189)] rfl (by rfl) (fun X w I=>ma I 0 mu ml rfl rfl rfl br) (tl1 [(some aV,blk [iv f,iv K,iv e.k,iv e.d,iv e.kn,iv e.op,iv e.on,uE e.t] 25)] rfl (by rfl) (fun X w I=>ma I 0 mh md rfl rfl rfl br) (tS [(some aP,blk ([iv 0,uD,uD,uD,iv 0,iv 0,iv 0,uD]++KN vz) 81)] rfl ⟨(by rfl),(by rfl)⟩ (fun X w I=>mb I 0 ([iv f,uN O T a3,uN P U a4,uN Q V a5,iv aA,iv aB,iv aC,uN R W a6]++KN j) ml rfl rfl rfl rfl rfl rfl fun w I=>⟨rfl,I.castL (by rfl)⟩) (tS [(some aQ,blk [iv 0,iv 0,iv 0,iv 0,iv 0,iv 0,iv 0,uE []] 25)] rfl ⟨(by rfl),(by rfl)⟩ (fun X w I=>aq I 0 8 [iv f,iv K,iv e.k,iv e.d,iv e.kn,iv e.op,iv e.on,uE e.t] md rfl rfl rfl rfl rfl (mx rfl) fun w I=>⟨rfl,I.castL (by rfl)⟩) (tt rfl (by rfl) (tn))))))))
 intro y hp ρ w hag I
 clear hp
 obtain ⟨ρ,rfl⟩:=hag.form
 refine aj ?_
 cases F
 exact ⟨_,Ret.cct rfl rfl (ce I 0 44 ([iv f,uN O T a3,uN P U a4,uN Q V a5,iv aA,iv aB,iv aC,uN R W a6]++KN j) mu ml rfl (by rfl) (by rfl)) rfl (ce I 1 8 [iv f,iv K,iv e.k,iv e.d,iv e.kn,iv e.op,iv e.on,uE e.t] mh md rfl rfl rfl) rfl,⟨O,a3,b6,P,a4,b7,Q,a5,b8,R,a6,b9,rfl,I.pk [5,6,7,8] rfl,dE.to rfl rfl,dF.to rfl rfl,dG.to rfl rfl,dH.to rfl rfl⟩⟩
theorem L134 (w0:World) (o:Nat) (l:Int) (a1:Option Addr) (a2:Nat) (L:List Sp3) (a3:Option Addr) (a4:Nat) (M:List Sp3) (a5:Option Addr) (a6:Nat) (O:List Sp3) (a7:Int) (a8:Int) (a9:Int) (B:Option Addr) (C:Nat) (f:List Rc) (aA:V36) (q:Int) (e:Int) (g:Int) (aN:bi w0 a1 (al bb L)) (aO:L.length≤9223372036854775807) (aP:L.length≤a2) (aQ:bi w0 a3 (al bb M)) (aR:M.length≤9223372036854775807) (aS:M.length≤a4) (aT:bi w0 a5 (al bb O)) (aU:O.length≤9223372036854775807) (aV:O.length≤a6) (aB:bi w0 B (al eRc f)) (aE:f.length≤9223372036854775807) (aF:f.length≤C) (hBp0:o < w0.heap.size) (hPp0:∀ (j:Nat) (v:Value),(([iv l,uM a1 L a2,uM a3 M a4,uM a5 O a6,iv a7,iv a8,iv a9,uM B f C]++KN aA):List Value)[j]?=some v→w0.cell? ⟨o,j,none⟩=some v) (N:Nat) (r:(Int × Int × Int × Int × Int × List Rc)) (F:F134 N l L M O a7 a8 a9 f aA q e g=some r):bn Tryz.prog 134 [pt o,iv q,iv e,iv g] w0 fun v w=>∃ z0 z1 z2,v=.agg #[iv r.1,iv r.2.1,iv r.2.2.1,iv r.2.2.2.1,iv r.2.2.2.2.1,uN z0 r.2.2.2.2.2 z1]∧Inv [] w0 w [(z0,blk z2 25)]∧Row 8 z0 r.2.2.2.2.2.length z1 z2 (al eRc r.2.2.2.2.2):=by
 refine az (n:=64) func134 rfl ntmps134 rfl ?_
 have I:=Inv.start w0
 unfold F134 at F
 refine uL rfl (ph (bh I _ zeroValue83 rfl fun G w I=>aa (ab (bt F (fun s aG F=>kx [tv (fun _=>(pt o)),tv (fun _=>(pt o)),tv (fun _=>(pt o)),tv (fun _=>(pt o)),tr (fun _=>(iv l)) [],tv (fun _=>(iv q)),tv (fun _=>(iv e)),tv (fun _=>(pt o)),tv (fun _=>(pt o)),tv (fun _=>(pt o)),tv (fun _=>(uF o 7)),tr (fun _=>(uM B f C)) [],tv (fun _=>(iv e)),tr (fun _=>(iv s)) [],tv (fun _=>(iv g)),tv (fun _=>(.agg #[iv l,iv q,iv e,iv s,iv g,uD])),tal 16 [iv 0,iv 0,iv 0,iv 0,iv 0,uD] 83,tst (fun y=>[(some (y 16).b,blk [iv l,iv q,iv e,iv s,iv g,uD] 83)]) 16] (fun y=>[(0,pt o),(2,iv e),(3,iv g),(8,pt G),(9,uF ((y 16).b) 0)]) (fun y=>[(some (y 16).b,blk [iv l,iv q,iv e,iv s,iv g,uD] 83),(some G,blk [iv 0,iv 0,iv 0,iv 0,iv 0,uD] 83)]) I (by kernel_rfl) (fun y=>⟨rfl,rfl⟩) (fun y=>?_) ?_)))))
 ·
  refine tt rfl rfl (tt rfl rfl (tt rfl rfl (tt rfl rfl (tl0 rfl (fun X w I=>dj I (iv l) zi3 rfl hBp0 (by simp) (hPp0 0 _ rfl) br) (tt rfl rfl (tt rfl rfl (tt rfl rfl (tt rfl rfl (tt rfl rfl (tt rfl rfl (tl0 rfl (fun X w I=>dj I (uM B f C) mv rfl hBp0 (by simp) (hPp0 7 _ rfl) br) (tt rfl rfl (tl0 rfl (fun X w I=>co 101 [uM B f C,iv e] (by kernel_rfl) (L101 _ B C f e (aB.inv0 I) aE aF N _ aG) uI) (tt rfl rfl (tt rfl (by kernel_rfl) (tA rfl zeroValue83 rfl (tS [(some (y 16).b,blk [iv 0,iv 0,iv 0,iv 0,iv 0,uD] 83)] rfl ⟨rfl,rfl⟩ (fun X w I=>aq I 0 6 [iv l,iv q,iv e,iv s,iv g,uD] zs83 rfl rfl rfl rfl rfl (mx rfl) fun w I=>⟨rfl,I.castL rfl⟩) (tn))))))))))))))))))
 intro y hp ρ w hag I
 clear hp
 generalize (y 16).b=D at *
 obtain ⟨ρ,rfl⟩:=hag.form
 refine ab (uL rfl (pu3 (pt o) (pt o) (pt o) (by kernel_rfl) (pu (uF o 7) rfl (ph (dj I (uM B f C) mv rfl hBp0 (by simp) (hPp0 7 _ rfl) (pu2 (iv ((f.length:Nat):Int)) (iv 0) (by kernel_rfl) (aa (au ?_))))))))
 have I:=I.nilRow 25
 refine cb (fun m ρ w=>∃ (x E H:_) (i:List Rc) (A mm:_),cd ρ [(2,iv e),(3,iv g),(8,pt G),(9,pt D),(32,uM B f C),(33,iv (f.length:Int)),(34,iv A)]∧Inv [] w0 w [(some G,blk [iv 0,iv 0,iv 0,iv 0,iv 0,uD] 83),(some D,blk [iv l,iv q,iv e,iv s,iv g,uN x i E] 83),(x,blk H 25)]∧(Row 8 x (i.length) E H (al eRc i))∧F134l1 l f q e g s mm i A=some r∧mm=m) (m:=N) ⟨none,0,[],[],0,N,(uK rfl),I.pk [2,1,0] rfl,(Row.nil_ 8),F,rfl⟩ ?_
 rintro m ρ w ⟨x,E,H,i,A,mm,hag,I,S,F,hm⟩
 subst hm; obtain ⟨ρ,rfl⟩:=hag.form
 obtain _ | m1:=mm
 ·cases (show (none:Option (Int × Int × Int × Int × Int × List Rc))=some r from F)
 replace F:F134b1 l f q e g s (F134l1 l f q e g s m1) i A=some r:=F; unfold F134b1 at F
 refine uL rfl (ifN F (fun T F=>?_) (fun T F=>?_))
 ·
  refine xl rfl (uP T) (fun _=>aa (ab (ai rfl (bw (uL rfl (xm I 1 zi83 zs83 rfl (xi I 0 _ zs83 rfl fun w I=>aa (aj ?_))))))))
  cases F
  exact ⟨_,Ret.c rfl rfl (ce I 0 6 [iv l,iv q,iv e,iv s,iv g,uN x i E] zi83 zs83 rfl rfl rfl),⟨x,E,H,rfl,I.pk [2] rfl,S.to rfl rfl⟩⟩

 refine xl rfl (fun _=>?_) (uO T)
 refine aa (ab (ah rfl (ak (dn (fun ρ w=>∃ (P Q R:_) (J:List Rc),cd ρ [(2,iv e),(3,iv g),(8,pt G),(9,pt D),(32,uM B f C),(33,iv (f.length:Int)),(34,iv A)]∧Inv [] w0 w [(some G,blk [iv 0,iv 0,iv 0,iv 0,iv 0,uD] 83),(some D,blk [iv l,iv q,iv e,iv s,iv g,uN P J Q] 83),(P,blk R 25)]∧(Row 8 P (J.length) Q R (al eRc J))∧F134j2 (F134l1 l f q e g s m1) A J=some r) ?_ ?_))))
 ·
  refine au (uL rfl (gdE F (fun aH F=>bt F (fun a aC F=>?_))))
  obtain ⟨aW,aX,aI,aJ,aK⟩:=aB.at_ bx (by decide) aC
  refine ph (cn (A).toNat nt md rfl aI rfl (Int.toNat_of_nonneg aH).symm (fa aC rfl) (ph (ef I (qg a) mh md rfl rfl aJ (by simp) aK (ph (bh I _ zeroValue25 rfl fun K w I=>xi I 0 _ md rfl fun w I=>aa (dn (fun ρ w=>cd ρ [(2,iv e),(3,iv g),(8,pt G),(9,pt D),(11,pt K),(32,uM B f C),(33,iv (f.length:Int)),(34,iv A),(55,bF)]∧Inv [] w0 w [(some G,blk [iv 0,iv 0,iv 0,iv 0,iv 0,uD] 83),(some D,blk [iv l,iv q,iv e,iv s,iv g,uN x i E] 83),(x,blk H 25),(some K,blk (qg a) 25)]∧F134j3 (F134l1 l f q e g s m1) i A=some r) ?_ ?_))))))
  ·
   refine rgn rfl (pu2 (pt K) (pt K) rfl (xg I 0 (iv a.p) zi3 rfl (pu (iv e) rfl (ifN F (fun U F=>?_) (fun U F=>?_)))))
   ·
    refine xe rfl (uP U) (fun _=>pu bF rfl (sf 5 rfl (pu2 bF bF rfl (sf 4 rfl (pu bF rfl (aa (.inl ⟨rfl,⟨(uK rfl),I.pk [1,2,3,0] rfl,F⟩⟩)))))))
   refine xe rfl (fun _=>?_) (uO U)
   refine pu bT rfl (pup (pt K) rfl (pup (uF K 1) rfl (aw rfl (ag I 0 (iv a.n) zi3 rfl rfl rfl (pup (iv g) rfl (ifN F (fun V F=>?_) (fun V F=>?_)))))))
   ·
    refine aw rfl (s_geq rfl rfl (uP V) (fun _=>pu2 bF bF rfl (sf 4 rfl (pu bF rfl (aa (.inl ⟨rfl,⟨(uK rfl),I.pk [1,2,3,0] rfl,F⟩⟩))))))
   refine aw rfl (s_geq rfl rfl (fun _=>?_) (uO V))
   refine pu2 bT bT rfl (pup (uF D 5) rfl (aw rfl (ag I 2 (uN x i E) mv rfl rfl rfl (pup (iv ((i.length:Nat):Int)) (by kernel_rfl) (ifN F (fun W F=>?_) (fun W F=>?_))))))
   ·
    refine aw rfl (cm rfl rfl (uP W) (fun _=>pu bF rfl (aa (.inl ⟨rfl,⟨(uK rfl),I.pk [1,2,3,0] rfl,F⟩⟩))))
   refine aw rfl (cm rfl rfl (fun _=>?_) (uO W))
   refine pu bT rfl (aa (.inr (ah rfl (rgn rfl (pu (uF D 5) rfl (xg I 2 (uN x i E) mv rfl (xm I 0 mh md rfl (ph (fu I (qg a) 25 (fun b=>slv (some b) 1 1) (by kernel_rfl) fun aY w I=>gdE F (fun aZ F=>ph (xk I xf 4 S (⟨a.p,a.n,a.k,a.d,a.kn,a.op,a.on,a.t⟩:Rc) 0 rfl (by omega) ?_)))))))))))
   intro Y Z aD w I a0
   refine pu (uF D 5) rfl (xq I 3 1 [slv Y ((i++[(⟨a.p,a.n,a.k,a.d,a.kn,a.op,a.on,a.t⟩:Rc)]).length) Z] zs45 rfl (mx rfl) fun w I=>aa (.inl ⟨rfl,⟨Y,Z,aD,i++[(⟨a.p,a.n,a.k,a.d,a.kn,a.op,a.on,a.t⟩:Rc)],(uK rfl),I.pk [2,3,4] rfl,(a0.to rfl rfl),F⟩⟩))
  intro ρ w hJ
  obtain ⟨hag,I,F⟩:=hJ
  obtain ⟨ρ,rfl⟩:=hag.form
  unfold F134j3 at F
  refine ai rfl (ak (.inl ⟨rfl,⟨x,E,H,i,(uK rfl),I.pk [0,1,2] rfl,(S.to rfl rfl),F⟩⟩))
 intro ρ w hJ
 obtain ⟨P,Q,R,J,hag,I,aL,F⟩:=hJ
 obtain ⟨ρ,rfl⟩:=hag.form
 unfold F134j2 at F
 refine rgn rfl (ckE F (fun aM F=>xa rfl aM (pu (iv (A+1)) rfl (aa (⟨rfl,m1,Nat.lt_succ_self _,⟨P,Q,R,J,A+1,m1,(uK rfl),I.pk [0,1,2] rfl,(aL.to rfl rfl),F,rfl⟩⟩)))))
set_option maxHeartbeats 8000000 in
theorem L53 (w0:World) (f:Int) (G:Option Addr) (H:Nat) (t:List Sp3) (J:Option Addr) (K:Nat) (x:List Sp3) (L:Option Addr) (M:Nat) (z:List Sp3) (C:Int) (D:Int) (E:Int) (A:Option Addr) (B:Nat) (q:List Rc) (l:V36) (W:Int) (V:Int) (hG:Gl w0) (aZ:bi w0 G (al bb t)) (b0:t.length≤9223372036854775807) (b1:t.length≤H) (b2:bi w0 J (al bb x)) (b3:x.length≤9223372036854775807) (b4:x.length≤K) (b5:bi w0 L (al bb z)) (b6:z.length≤9223372036854775807) (b7:z.length≤M) (b8:bi w0 A (al eRc q)) (b9:q.length≤9223372036854775807) (bA:q.length≤B) (N:Nat) (r:(Int × List Sp3 × List Sp3 × List Sp3 × Int × Int × Int × List Rc × V36 × Int × Int × Int × Int × Int × List Rc × Int)) (F:F53 N f t x z C D E q l W V=some r):bn Tryz.prog 53 [.agg ([iv f,uM G t H,uM J x K,uM L z M,iv C,iv D,iv E,uM A q B]++KN l).toArray,iv W,iv V] w0 fun v w=>∃ z0 z1 z2 z3 z4 z5 z6 z7 z8 z9 bB bC aO bD bE,v=.tuple #[.agg ([iv r.1,uN z0 r.2.1 z1,uN z3 r.2.2.1 z4,uN z6 r.2.2.2.1 z7,iv r.2.2.2.2.1,iv r.2.2.2.2.2.1,iv r.2.2.2.2.2.2.1,uN z9 r.2.2.2.2.2.2.2.1 bB]++KN r.2.2.2.2.2.2.2.2.1).toArray,.agg #[iv r.2.2.2.2.2.2.2.2.2.1,iv r.2.2.2.2.2.2.2.2.2.2.1,iv r.2.2.2.2.2.2.2.2.2.2.2.1,iv r.2.2.2.2.2.2.2.2.2.2.2.2.1,iv r.2.2.2.2.2.2.2.2.2.2.2.2.2.1,uN aO r.2.2.2.2.2.2.2.2.2.2.2.2.2.2.1 bD],iv r.2.2.2.2.2.2.2.2.2.2.2.2.2.2.2]∧Inv [] w0 w [(z0,blk z2 35),(z3,blk z5 35),(z6,blk z8 35),(z9,blk bC 25),(aO,blk bE 25)]∧Row 3 z0 r.2.1.length z1 z2 (al bb r.2.1)∧Row 3 z3 r.2.2.1.length z4 z5 (al bb r.2.2.1)∧Row 3 z6 r.2.2.2.1.length z7 z8 (al bb r.2.2.2.1)∧Row 8 z9 r.2.2.2.2.2.2.2.1.length bB bC (al eRc r.2.2.2.2.2.2.2.1)∧Row 8 aO r.2.2.2.2.2.2.2.2.2.2.2.2.2.2.1.length bD bE (al eRc r.2.2.2.2.2.2.2.2.2.2.2.2.2.2.1):=by
 refine az (n:=54) func53 rfl ntmps53 rfl ?_
 have I:=Inv.start w0
 unfold F53 at F
 refine uL (by rfl) (ph (ca I _ rfl fun a8 w I=>ph (bh I _ zeroValue81 rfl fun a5 w I=>ph (bh I _ zeroValue83 rfl fun a6 w I=>pu (iv 0) (by rfl) (aa (dn (fun ρ w=>∃ a9,cd ρ [(1,iv W),(2,iv V),(3,pt a8),(6,pt a5),(7,pt a6),(9,.bool a9)]∧Inv [] w0 w [(some a8,blk ([iv f,uM G t H,uM J x K,uM L z M,iv C,iv D,iv E,uM A q B]++KN l) 81),(some a5,blk ([iv 0,uD,uD,uD,iv 0,iv 0,iv 0,uD]++KN vz) 81),(some a6,blk [iv 0,iv 0,iv 0,iv 0,iv 0,uD] 83)]∧F53j1 f t x z C D E q l W V N a9=some r) ?_ ?_))))))
 ·
  refine rgn (by rfl) (pu (iv W) (by rfl) (bt F (fun bR bG F=>ifN F (fun aP F=>?_) (fun aP F=>?_))))
  ·
   refine ph (bg I 126 _ _ (by kernel_rfl) (bn.mono (L126 _ W _ bG) (uH (Bool.eq_false_iff.2 aP))) fun w I=>pu bF (by kernel_rfl) (sf 4 (by kernel_rfl) (pu2 bF bF (by kernel_rfl) (sf 2 (by kernel_rfl) (pu2 bF bF (by kernel_rfl) (aa (.inl ⟨rfl,⟨false,(uK rfl),I.pk [2,1,0] rfl,F⟩⟩)))))))
  refine ph (bg I 126 _ _ (by kernel_rfl) (bn.mono (L126 _ W _ bG) (uH aP)) fun w I=>pu bT (by kernel_rfl) (pup (iv W) (by kernel_rfl) (pup (pt a8) (by kernel_rfl) (aw (by kernel_rfl) (ag I 2 (iv f) zi3 rfl rfl rfl (ifE F (fun aQ F=>?_) (fun aQ F=>?_)))))))
  ·
   refine aw (by rfl) (de rfl rfl (uO aQ) (fun _=>pu2 bF bF (by rfl) (sf 2 (by rfl) (pu2 bF bF (by rfl) (aa (.inl ⟨rfl,⟨false,(uK rfl),I.pk [2,1,0] rfl,F⟩⟩))))))
  refine aw (by rfl) (de rfl rfl (fun _=>?_) (uP aQ))
  refine pu2 bT bT (by kernel_rfl) (pup (iv V) (by kernel_rfl) (bt F (fun aR bI F=>aw (by kernel_rfl) (bg I 126 _ _ (by kernel_rfl) (L126 _ V _ bI) fun w I=>pu2 (.bool aR) (.bool aR) (by kernel_rfl) (aa (.inl ⟨rfl,⟨aR,(uK rfl),I.pk [2,1,0] rfl,F⟩⟩))))))
 intro ρ w hJ
 obtain ⟨a9,hag,I,F⟩:=hJ
 obtain ⟨ρ,rfl⟩:=hag.form
 unfold F53j1 at F
 refine ab (uL (by kernel_rfl) (xm I 0 mu ml rfl (bt F (fun aD bJ F=>ph (bg I 128 _ _ (by kernel_rfl) (L128 _ f G H t J K x L M z C D E A B q l (hG.up I) (aZ.inv0 I) b0 b1 (b2.inv0 I) b3 b4 (b5.inv0 I) b6 b7 (b8.inv0 I) b9 bA N _ bJ) fun w I=>pu (.bool a9) (by kernel_rfl) (bt F (fun aE bK F=>ph (bg I 78 _ _ (by kernel_rfl) (L78 _ a9 1 _ bK) fun w I=>ph (fu I [iv aD,iv aE] 26 (fun b=>slv (some b) 2 2) (by kernel_rfl) fun aS w I=>bt F (fun aF bL F=>ph (bg I 86 _ _ (by kernel_rfl) (L86 _ (some ⟨aS,0,none⟩) 2 [aD,aE] (I.cells 0 (off:=0) rfl (fun j u h=>by rw [Nat.zero_add]; exact h)) (mx rfl) (Nat.le_refl _) N _ bL) fun w I=>pu (iv aF) (by kernel_rfl) (aa (uL (by kernel_rfl) (pu (iv aF) (by kernel_rfl) (ifN F (fun aT F=>?_) (fun aT F=>?_))))))))))))))))
 ·
  refine xn rfl (fun _=>?_) (uP aT)
  refine aa (ah rfl (uL (by rfl) (pu3 (.agg ([iv 0,uD,uD,uD,iv 0,iv 0,iv 0,uD]++KN vz).toArray) (.agg #[iv 0,iv 0,iv 0,iv 0,iv 0,uD]) (iv aF) (by kernel_rfl) (xi I 2 _ ml rfl fun w I=>xi I 3 _ zs83 rfl fun w I=>pu (iv aF) (by rfl) (aa (aj ?_))))))
  have I:=I.nilRow 35
  have I:=I.nilRow 35
  have I:=I.nilRow 35
  have I:=I.nilRow 25
  have I:=I.nilRow 25
  cases F
  exact ⟨_,Ret.cct rfl rfl (ce I 7 44 ([iv 0,uD,uD,uD,iv 0,iv 0,iv 0,uD]++KN vz) mu ml rfl (by rfl) (by rfl)) rfl (ce I 8 6 [iv 0,iv 0,iv 0,iv 0,iv 0,uD] zi83 zs83 rfl rfl rfl) rfl,⟨none,0,[],none,0,[],none,0,[],none,0,[],none,0,[],rfl,I.pk [2,3,4,0,1] rfl,Row.nil_ 3,Row.nil_ 3,Row.nil_ 3,Row.nil_ 8,Row.nil_ 8⟩⟩


 refine xn rfl (uO aT) (fun _=>aa (ai rfl (ak (uL (by kernel_rfl) (xm I 1 mu ml rfl (ph (gr 129 [.agg ([iv f,uM G t H,uM J x K,uM L z M,iv C,iv D,iv E,uM A q B]++KN l).toArray] (by kernel_rfl) (az (n:=14) func129 rfl ntmps129 rfl (uL (by kernel_rfl) (ph (ca I _ rfl fun U w I=>pu (.pointer none) (by kernel_rfl) (aa (ab (bt F (fun a bM F=>bt F (fun m bN F=>kx [tv (fun _=>(uF U 1)),tr (fun _=>(.agg #[uM G t H,uM J x K,uM L z M,iv C,iv D,iv E])) [10],⟨fun y=>(.agg #[slv ((y 2).g 0) a.1.length ((y 2).c 0),slv ((y 2).g 1) a.2.1.length ((y 2).c 1),slv ((y 2).g 2) a.2.2.1.length ((y 2).c 2),iv a.2.2.2.1,iv a.2.2.2.2.1,iv a.2.2.2.2.2]),fun y=>[(((y 2).g 0),blk ((y 2).cl 0) 35),(((y 2).g 1),blk ((y 2).cl 1) 35),(((y 2).g 2),blk ((y 2).cl 2) 35)],fun y=>(Row 3 ((y 2).g 0) a.1.length ((y 2).c 0) ((y 2).cl 0) (al bb a.1))∧(Row 3 ((y 2).g 1) a.2.1.length ((y 2).c 1) ((y 2).cl 1) (al bb a.2.1))∧(Row 3 ((y 2).g 2) a.2.2.1.length ((y 2).c 2) ((y 2).cl 2) (al bb a.2.2.1)),[],[]⟩,tv (fun _=>(uF U 7)),tr (fun _=>(uM A q B)) [10],⟨fun y=>(slv ((y 5).g 0) m.length ((y 5).c 0)),fun y=>[(((y 5).g 0),blk ((y 5).cl 0) 25)],fun y=>(Row 8 ((y 5).g 0) m.length ((y 5).c 0) ((y 5).cl 0) (al eRc m)),[],[]⟩,tv (fun _=>(uF U 1)),tst (fun y=>[(some U,blk ([iv f,slv ((y 2).g 0) a.1.length ((y 2).c 0),slv ((y 2).g 1) a.2.1.length ((y 2).c 1),slv ((y 2).g 2) a.2.2.1.length ((y 2).c 2),iv a.2.2.2.1,iv a.2.2.2.2.1,iv a.2.2.2.2.2,uM A q B]++KN l) 81)]) 10,tv (fun _=>(uF U 7)),tst (fun y=>[(some U,blk ([iv f,slv ((y 2).g 0) a.1.length ((y 2).c 0),slv ((y 2).g 1) a.2.1.length ((y 2).c 1),slv ((y 2).g 2) a.2.2.1.length ((y 2).c 2),iv a.2.2.2.1,iv a.2.2.2.2.1,iv a.2.2.2.2.2,slv ((y 5).g 0) m.length ((y 5).c 0)]++KN l) 81)]) 7] (fun _=>[(1,pt U)]) (fun y=>[(((y 2).g 0),blk ((y 2).cl 0) 35),(((y 2).g 1),blk ((y 2).cl 1) 35),(((y 2).g 2),blk ((y 2).cl 2) 35),(((y 5).g 0),blk ((y 5).cl 0) 25),(some U,blk ([iv f,slv ((y 2).g 0) a.1.length ((y 2).c 0),slv ((y 2).g 1) a.2.1.length ((y 2).c 1),slv ((y 2).g 2) a.2.2.1.length ((y 2).c 2),iv a.2.2.2.1,iv a.2.2.2.2.1,iv a.2.2.2.2.2,slv ((y 5).g 0) m.length ((y 5).c 0)]++KN l) 81),(some aS,blk [iv aD,iv aE] 26),(some a8,blk ([iv f,uM G t H,uM J x K,uM L z M,iv C,iv D,iv E,uM A q B]++KN l) 81),(some a5,blk ([iv 0,uD,uD,uD,iv 0,iv 0,iv 0,uD]++KN vz) 81),(some a6,blk [iv 0,iv 0,iv 0,iv 0,iv 0,uD] 83)]) I (by kernel_rfl) (fun y=>⟨(by kernel_rfl),(by kernel_rfl)⟩) (fun y=>?_) ?_))))))))))))))))
 ·
  refine tt rfl (by rfl) (tl1 [(some U,blk ([iv f,uM G t H,uM J x K,uM L z M,iv C,iv D,iv E,uM A q B]++KN l) 81)] rfl (by rfl) (fun X w I=>ar I 0 6 [uM G t H,uM J x K,uM L z M,iv C,iv D,iv E] mt mi rfl rfl rfl rfl br) (tg (.agg #[slv ((y 2).g 0) a.1.length ((y 2).c 0),slv ((y 2).g 1) a.2.1.length ((y 2).c 1),slv ((y 2).g 2) a.2.2.1.length ((y 2).c 2),iv a.2.2.2.1,iv a.2.2.2.2.1,iv a.2.2.2.2.2]) [] [] rfl ⟨(by rfl),(by rfl),(by rfl)⟩ ?_ ?_))
  ·intro hp X w I
   refine co 109 _ (by kernel_rfl) (L109 _ G H t J K x L M z C D E (aZ.inv0 I) b0 b1 (b2.inv0 I) b3 b4 (b5.inv0 I) b6 b7 _ bM) ?_
   rintro v w ⟨Y,a2,aU,Z,a3,aV,a0,a4,aW,rfl,hN,aA,aB,aC⟩
   have I:=I.join hN; clear hN
   exact ⟨wit 0 [Y,Z,a0] [a2,a3,a4] [aU,aV,aW] [],(by rfl),Eq.mp (by rfl) (And.intro aA (And.intro aB aC)),I.castL (by rfl)⟩
  refine tt rfl (by rfl) (tl1 [(some U,blk ([iv f,uM G t H,uM J x K,uM L z M,iv C,iv D,iv E,uM A q B]++KN l) 81)] rfl (by rfl) (fun X w I=>ag I 0 (uM A q B) mv rfl rfl rfl br) (tg (slv ((y 5).g 0) m.length ((y 5).c 0)) [] [] rfl ⟨(by rfl),(by rfl),(by rfl)⟩ ?_ ?_))
  ·intro hp X w I
   refine co 102 _ (by kernel_rfl) (L102 _ A B q (b8.inv0 I) b9 bA _ bN) ?_
   rintro v w ⟨o,s,a7,rfl,hN,a1⟩
   have I:=I.join hN; clear hN
   exact ⟨wit 0 [o] [s] [a7] [],(by rfl),Eq.mp (by rfl) a1,I.castL (by rfl)⟩
  refine tt rfl (by rfl) (tS [(some U,blk ([iv f,uM G t H,uM J x K,uM L z M,iv C,iv D,iv E,uM A q B]++KN l) 81)] rfl ⟨(by rfl),(by rfl)⟩ (fun X w I=>aq I 0 6 [slv ((y 2).g 0) a.1.length ((y 2).c 0),slv ((y 2).g 1) a.2.1.length ((y 2).c 1),slv ((y 2).g 2) a.2.2.1.length ((y 2).c 2),iv a.2.2.2.1,iv a.2.2.2.2.1,iv a.2.2.2.2.2] mi rfl rfl rfl rfl rfl (mx rfl) fun w I=>⟨rfl,I.castL (by rfl)⟩) (tt rfl (by rfl) (tS [(some U,blk ([iv f,slv ((y 2).g 0) a.1.length ((y 2).c 0),slv ((y 2).g 1) a.2.1.length ((y 2).c 1),slv ((y 2).g 2) a.2.2.1.length ((y 2).c 2),iv a.2.2.2.1,iv a.2.2.2.2.1,iv a.2.2.2.2.2,uM A q B]++KN l) 81)] rfl ⟨(by rfl),(by rfl)⟩ (fun X w I=>aq I 0 1 [slv ((y 5).g 0) m.length ((y 5).c 0)] zs45 rfl rfl rfl rfl rfl (mx rfl) fun w I=>⟨rfl,I.castL (by rfl)⟩) (tn))))
 intro y hp ρ w hag I
 obtain ⟨aA,aB,aC⟩:(Row 3 ((y 2).g 0) a.1.length ((y 2).c 0) ((y 2).cl 0) (al bb a.1))∧(Row 3 ((y 2).g 1) a.2.1.length ((y 2).c 1) ((y 2).cl 1) (al bb a.2.1))∧(Row 3 ((y 2).g 2) a.2.2.1.length ((y 2).c 2) ((y 2).cl 2) (al bb a.2.2.1)):=pgl hp (k:=2) (by decide) (by rfl)
 have a1:Row 8 ((y 5).g 0) m.length ((y 5).c 0) ((y 5).cl 0) (al eRc m):=pgl hp (k:=5) (by decide) (by rfl)
 clear hp
 generalize (y 2).g 0=Y at *
 generalize (y 2).c 0=a2 at *
 generalize (y 2).cl 0=aU at *
 generalize (y 2).g 1=Z at *
 generalize (y 2).c 1=a3 at *
 generalize (y 2).cl 1=aV at *
 generalize (y 2).g 2=a0 at *
 generalize (y 2).c 2=a4 at *
 generalize (y 2).cl 2=aW at *
 generalize (y 5).g 0=o at *
 generalize (y 5).c 0=s at *
 generalize (y 5).cl 0=a7 at *
 obtain ⟨ρ,rfl⟩:=hag.form
 refine uL (by kernel_rfl) (xm I 4 mu ml rfl (pu (.agg ([iv f,uN Y a.1 a2,uN Z a.2.1 a3,uN a0 a.2.2.1 a4,iv a.2.2.2.1,iv a.2.2.2.2.1,iv a.2.2.2.2.2,uN o m s]++KN l).toArray) (by kernel_rfl) (ph (ca I _ rfl fun p w I=>pu (pt p) (by kernel_rfl) (aa (aj (⟨pt p,Ret.r1 rfl rfl,?_⟩)))))))
 refine pu (pt p) (by kernel_rfl) (aa (uL (by kernel_rfl) (pu (pt p) (by kernel_rfl) (ph (gr 133 [pt p] (by kernel_rfl) (az (n:=12) func133 rfl ntmps133 rfl (rgn (by kernel_rfl) (pu3 (pt p) (pt p) (pt p) (by kernel_rfl) (pu2 (pt p) (uF p 1) (by kernel_rfl) (xr I 0 6 [uN Y a.1 a2,uN Z a.2.1 a3,uN a0 a.2.2.1 a4,iv a.2.2.2.1,iv a.2.2.2.2.1,iv a.2.2.2.2.2] mt mi rfl (bt F (fun d bO F=>ph (co 43 _ (by kernel_rfl) (L43 _ (uG Y) a2 a.1 (uG Z) a3 a.2.1 (uG a0) a4 a.2.2.1 a.2.2.2.1 a.2.2.2.2.1 a.2.2.2.2.2 (I.rowCells 1 rfl aA) (am rfl aA.big) (am rfl aA.cap) (I.rowCells 2 rfl aB) (am rfl aB.big) (am rfl aB.cap) (I.rowCells 3 rfl aC) (am rfl aC.big) (am rfl aC.cap) _ bO) ?_)))))))))))))
 rintro v w ⟨O,R,aG,P,S,aH,Q,T,aI,rfl,hN,aJ,aK,aL⟩
 have I:=I.join hN; clear hN
 refine pu3 (pt p) (pt p) (uF p 1) (by rfl) (xq I 3 6 [uN O d.1 R,uN P d.2.1 S,uN Q d.2.2.1 T,iv d.2.2.2.1,iv d.2.2.2.2.1,iv d.2.2.2.2.2] mi rfl (mx rfl) fun w I=>aa (⟨.tuple #[],Ret.r0 rfl , ?_⟩))
 refine aa (ab (bt F (fun bH bP F=>bt F (fun e bQ F=>kx [tv (fun _=>(pt p)),tv (fun _=>(pt p)),tv (fun _=>(pt p)),tr (fun _=>(.agg ([iv f,uN O d.1 R,uN P d.2.1 S,uN Q d.2.2.1 T,iv d.2.2.2.1,iv d.2.2.2.2.1,iv d.2.2.2.2.2,uN o m s]++KN l).toArray)) [21],tv (fun _=>(pt p)),tv (fun _=>(iv W)),tv (fun _=>(iv V)),tv (fun _=>(pt p)),tv (fun _=>(pt p)),tv (fun _=>(pt p)),tv (fun _=>(uF p 7)),tr (fun _=>(uN o m s)) [21],tv (fun _=>(iv V)),tr (fun _=>(iv bH)) [25],⟨fun y=>(.agg #[iv e.1,iv e.2.1,iv e.2.2.1,iv e.2.2.2.1,iv e.2.2.2.2.1,slv ((y 14).g 0) e.2.2.2.2.2.length ((y 14).c 0)]),fun y=>[(((y 14).g 0),blk ((y 14).cl 0) 25)],fun y=>(Row 8 ((y 14).g 0) e.2.2.2.2.2.length ((y 14).c 0) ((y 14).cl 0) (al eRc e.2.2.2.2.2)),[],[21,20,19,18,25]⟩,tst (fun _=>[(some a5,blk ([iv f,uN O d.1 R,uN P d.2.1 S,uN Q d.2.2.1 T,iv d.2.2.2.1,iv d.2.2.2.2.1,iv d.2.2.2.2.2,uN o m s]++KN l) 81)]) 29,tst (fun y=>[(some a6,blk [iv e.1,iv e.2.1,iv e.2.2.1,iv e.2.2.2.1,iv e.2.2.2.2.1,slv ((y 14).g 0) e.2.2.2.2.2.length ((y 14).c 0)] 83)]) 30,tv (fun _=>(iv 0))] (fun _=>[(6,pt a5),(7,pt a6),(8,iv 0)]) (fun y=>[(((y 14).g 0),blk ((y 14).cl 0) 25),(some a5,blk ([iv f,uN O d.1 R,uN P d.2.1 S,uN Q d.2.2.1 T,iv d.2.2.2.1,iv d.2.2.2.2.1,iv d.2.2.2.2.2,uN o m s]++KN l) 81),(some a6,blk [iv e.1,iv e.2.1,iv e.2.2.1,iv e.2.2.2.1,iv e.2.2.2.2.1,slv ((y 14).g 0) e.2.2.2.2.2.length ((y 14).c 0)] 83),(O,blk aG 35),(P,blk aH 35),(Q,blk aI 35),(some p,blk ([iv f,uN O d.1 R,uN P d.2.1 S,uN Q d.2.2.1 T,iv d.2.2.2.1,iv d.2.2.2.2.1,iv d.2.2.2.2.2,uN o m s]++KN l) 189),(Y,blk aU 35),(Z,blk aV 35),(a0,blk aW 35),(o,blk a7 25),(some U,blk ([iv f,uN Y a.1 a2,uN Z a.2.1 a3,uN a0 a.2.2.1 a4,iv a.2.2.2.1,iv a.2.2.2.2.1,iv a.2.2.2.2.2,uN o m s]++KN l) 81),(some aS,blk [iv aD,iv aE] 26),(some a8,blk ([iv f,uM G t H,uM J x K,uM L z M,iv C,iv D,iv E,uM A q B]++KN l) 81)]) I (by kernel_rfl) (fun y=>⟨(by kernel_rfl),(by kernel_rfl)⟩) (fun y=>?_) ?_))))
 ·
  refine tt rfl (by kernel_rfl) (tt rfl (by kernel_rfl) (tt rfl (by kernel_rfl) (tl1 [(some p,blk ([iv f,uN O d.1 R,uN P d.2.1 S,uN Q d.2.2.1 T,iv d.2.2.2.1,iv d.2.2.2.2.1,iv d.2.2.2.2.2,uN o m s]++KN l) 189)] rfl (by kernel_rfl) (fun X w I=>ma I 0 mu ml rfl rfl rfl br) (tt rfl (by kernel_rfl) (tt rfl (by kernel_rfl) (tt rfl (by kernel_rfl) (tt rfl (by kernel_rfl) (tt rfl (by kernel_rfl) (tt rfl (by kernel_rfl) (tt rfl (by kernel_rfl) (tl1 [(some p,blk ([iv f,uN O d.1 R,uN P d.2.1 S,uN Q d.2.2.1 T,iv d.2.2.2.1,iv d.2.2.2.2.1,iv d.2.2.2.2.2,uN o m s]++KN l) 189)] rfl (by kernel_rfl) (fun X w I=>ag I 0 (uN o m s) mv rfl rfl rfl br) (tt rfl (by kernel_rfl) (tl1 [(o,blk a7 25)] rfl (by kernel_rfl) (fun X w I=>co 101 [uN o m s,iv V] (by kernel_rfl) (L101 _ (uG o) s m V (I.rowCells 0 rfl a1) (am rfl a1.big) (am rfl a1.cap) N _ bP) uI) (tg (.agg #[iv e.1,iv e.2.1,iv e.2.2.1,iv e.2.2.2.1,iv e.2.2.2.2.1,slv ((y 14).g 0) e.2.2.2.2.2.length ((y 14).c 0)]) [(some p,blk ([iv f,uN O d.1 R,uN P d.2.1 S,uN Q d.2.2.1 T,iv d.2.2.2.1,iv d.2.2.2.2.1,iv d.2.2.2.2.2,uN o m s]++KN l) 189),(Q,blk aI 35),(P,blk aH 35),(O,blk aG 35),(o,blk a7 25)] [(some p,blk ([iv f,uN O d.1 R,uN P d.2.1 S,uN Q d.2.2.1 T,iv d.2.2.2.1,iv d.2.2.2.2.1,iv d.2.2.2.2.2,uN o m s]++KN l) 189),(Q,blk aI 35),(P,blk aH 35),(O,blk aG 35),(o,blk a7 25)] rfl ⟨(by kernel_rfl),(by kernel_rfl),(by kernel_rfl)⟩ ?_ ?_))))))))))))))
  ·intro hp X w I
   refine co 134 _ (by kernel_rfl) (L134 _ p f (uG O) R d.1 (uG P) S d.2.1 (uG Q) T d.2.2.1 d.2.2.2.1 d.2.2.2.2.1 d.2.2.2.2.2 (uG o) s m l W V bH (I.rowCells 3 rfl aJ) (am rfl aJ.big) (am rfl aJ.cap) (I.rowCells 2 rfl aK) (am rfl aK.big) (am rfl aK.cap) (I.rowCells 1 rfl aL) (am rfl aL.big) (am rfl aL.cap) (I.rowCells 4 rfl a1) (am rfl a1.big) (am rfl a1.cap) (I.lt (i:=0) rfl) (I.cellsAt 0 rfl) N _ bQ) ?_
   rintro v w ⟨aM,aN,aX,rfl,hN,aY⟩
   have I:=I.join hN; clear hN
   exact ⟨wit 0 [aM] [aN] [aX] [],(by rfl),Eq.mp (by rfl) aY,I.castL (by rfl)⟩
  refine tS [(some a5,blk ([iv 0,uD,uD,uD,iv 0,iv 0,iv 0,uD]++KN vz) 81)] rfl ⟨(by rfl),(by rfl)⟩ (fun X w I=>mb I 0 ([iv f,uN O d.1 R,uN P d.2.1 S,uN Q d.2.2.1 T,iv d.2.2.2.1,iv d.2.2.2.2.1,iv d.2.2.2.2.2,uN o m s]++KN l) ml rfl rfl rfl rfl rfl rfl fun w I=>⟨rfl,I.castL (by rfl)⟩) (tS [(some a6,blk [iv 0,iv 0,iv 0,iv 0,iv 0,uD] 83)] rfl ⟨(by rfl),(by rfl)⟩ (fun X w I=>aq I 0 6 [iv e.1,iv e.2.1,iv e.2.2.1,iv e.2.2.2.1,iv e.2.2.2.2.1,slv ((y 14).g 0) e.2.2.2.2.2.length ((y 14).c 0)] zs83 rfl rfl rfl rfl rfl (mx rfl) fun w I=>⟨rfl,I.castL (by rfl)⟩) (tt rfl (by rfl) (tn)))
 intro y hp ρ w hag I
 have aY:Row 8 ((y 14).g 0) e.2.2.2.2.2.length ((y 14).c 0) ((y 14).cl 0) (al eRc e.2.2.2.2.2):=pgl hp (k:=14) (by decide) (by rfl)
 clear hp
 generalize (y 14).g 0=aM at *
 generalize (y 14).c 0=aN at *
 generalize (y 14).cl 0=aX at *
 obtain ⟨ρ,rfl⟩:=hag.form
 refine aj ?_
 cases F
 exact ⟨_,Ret.cct rfl rfl (ce I 1 44 ([iv f,uN O d.1 R,uN P d.2.1 S,uN Q d.2.2.1 T,iv d.2.2.2.1,iv d.2.2.2.2.1,iv d.2.2.2.2.2,uN o m s]++KN l) mu ml rfl (by rfl) (by rfl)) rfl (ce I 2 6 [iv e.1,iv e.2.1,iv e.2.2.1,iv e.2.2.2.1,iv e.2.2.2.2.1,uN aM e.2.2.2.2.2 aN] zi83 zs83 rfl rfl rfl) rfl,⟨O,R,aG,P,S,aH,Q,T,aI,o,s,a7,aM,aN,aX,rfl,I.pk [3,4,5,10,0] rfl,aJ.to rfl rfl,aK.to rfl rfl,aL.to rfl rfl,a1.to rfl rfl,aY.to rfl rfl⟩⟩
theorem L160 (w0:World) (a:Int) (r:Bool) (F:F160 a=some r):bn Tryz.prog 160 [iv a] w0 fun v w=>v=.bool r∧Below w0.heap.size w0 w:=by
 refine az (n:=5) func160 rfl ntmps160 rfl ?_
 have I:=Inv.start w0
 unfold F160 at F
 refine uL (by kernel_rfl) (pu bF (by kernel_rfl) (aa (uL (by kernel_rfl) (pu (iv a) (by kernel_rfl) (bt F (fun y7 hy8 F=>ph (bg I 76 _ _ (by kernel_rfl) (L76 _ a 0 60 _ hy8) fun w I=>pu (.bool y7) (by kernel_rfl) (aa (aj ?_)))))))))
 cases F
 exact uJ I rfl


theorem L136 (w0:World) (l:Int) (o:Int) (e:Int) (q:Int) (f:Int) (s:Option Addr) (u:Nat) (g:List Rc) (R:bi w0 s (al eRc g)) (a0:g.length≤9223372036854775807) (a1:g.length≤u) (N:Nat) (r:Bool) (F:F136 N l o e q f g=some r):bn Tryz.prog 136 [.agg #[iv l,iv o,iv e,iv q,iv f,uM s g u]] w0 fun v w=>v=.bool r∧Below w0.heap.size w0 w:=by
 refine az (n:=70) func136 rfl ntmps136 rfl ?_
 have I:=Inv.start w0
 unfold F136 at F
 refine uL rfl (ph (ca I _ rfl fun i w I=>pu bF rfl (aa (dn (fun ρ w=>∃ x,cd ρ [(1,pt i),(3,.bool x)]∧Inv [] w0 w [(some i,blk [iv l,iv o,iv e,iv q,iv f,uM s g u] 83)]∧F136j1 e q f g N x=some r) ?_ ?_))))
 ·
  refine rgn rfl (pu (pt i) rfl (xg I 0 (iv l) zi3 rfl (bt F (fun a2 K F=>ifN F (fun y F=>?_) (fun y F=>?_)))))
  ·
   refine ph (bg I 126 _ _ (by kernel_rfl) (bn.mono (L126 _ l _ K) (uH (Bool.eq_false_iff.2 y))) fun w I=>pu bF (by kernel_rfl) (sf 3 (by kernel_rfl) (pu2 bF bF (by kernel_rfl) (sf 5 (by kernel_rfl) (pu2 bF bF (by kernel_rfl) (sf 3 (by kernel_rfl) (pu2 bF bF (by kernel_rfl) (aa (.inl ⟨rfl,⟨false,⟨rfl,rfl,trivial⟩,I.pk [0] rfl,F⟩⟩)))))))))
  refine ph (bg I 126 _ _ (by kernel_rfl) (bn.mono (L126 _ l _ K) (uH y)) fun w I=>pu bT (by kernel_rfl) (pup (uF i 1) (by kernel_rfl) (aw (by kernel_rfl) (ag I 0 (iv o) zi3 rfl rfl rfl (bt F (fun a3 L F=>ifN F (fun z F=>?_) (fun z F=>?_)))))))
  ·
   refine aw (by kernel_rfl) (bg I 126 _ _ (by kernel_rfl) (bn.mono (L126 _ o _ L) (uH (Bool.eq_false_iff.2 z))) fun w I=>pu2 bF bF (by kernel_rfl) (sf 5 (by kernel_rfl) (pu2 bF bF (by kernel_rfl) (sf 3 (by kernel_rfl) (pu2 bF bF (by kernel_rfl) (aa (.inl ⟨rfl,⟨false,⟨rfl,rfl,trivial⟩,I.pk [0] rfl,F⟩⟩)))))))
  refine aw (by kernel_rfl) (bg I 126 _ _ (by kernel_rfl) (bn.mono (L126 _ o _ L) (uH z)) fun w I=>pu2 bT bT (by kernel_rfl) (pup (pt i) (by kernel_rfl) (aw (by kernel_rfl) (ag I 0 (iv l) zi3 rfl rfl rfl (pup (uF i 1) (by kernel_rfl) (aw (by kernel_rfl) (ag I 0 (iv o) zi3 rfl rfl rfl (ifE F (fun A F=>?_) (fun A F=>?_)))))))))
  ·
   refine aw rfl (de rfl rfl (uO A) (fun _=>pu2 bF bF rfl (sf 3 rfl (pu2 bF bF rfl (aa (.inl ⟨rfl,⟨false,⟨rfl,rfl,trivial⟩,I.pk [0] rfl,F⟩⟩))))))
  refine aw rfl (de rfl rfl (fun _=>?_) (uP A))
  refine pu2 bT bT rfl (pup (uF i 2) rfl (aw rfl (ag I 0 (iv e) zi3 rfl rfl rfl (bt F (fun a4 M F=>ifE F (fun B F=>?_) (fun B F=>?_))))))
  ·
   refine aw (by kernel_rfl) (bg I 126 _ _ (by kernel_rfl) (bn.mono (L126 _ e _ M) (uH B)) fun w I=>pu2 bT bT (by kernel_rfl) (aa (.inl ⟨rfl,⟨true,⟨rfl,rfl,trivial⟩,I.pk [0] rfl,F⟩⟩)))
  refine aw (by kernel_rfl) (bg I 126 _ _ (by kernel_rfl) (bn.mono (L126 _ e _ M) (uH (Bool.eq_false_iff.2 B))) fun w I=>pu2 bF bF (by kernel_rfl) (aa (.inl ⟨rfl,⟨false,⟨rfl,rfl,trivial⟩,I.pk [0] rfl,F⟩⟩)))
 intro ρ w hJ
 obtain ⟨x,hag,I,F⟩:=hJ
 obtain ⟨ρ,rfl⟩:=hag.form
 unfold F136j1 at F
 refine ab (ab ?_)
 have hG:=F; rcases Bool.eq_false_or_eq_true x with rfl | rfl
 ·
  have F:=hG; clear hG
  refine ifE F (fun _ F=>?_) (uO rfl)
  refine rgn rfl (pu3 bT bF bF (by kernel_rfl) (pup (uF i 3) rfl (aw rfl (ag I 0 (iv q) zi3 rfl rfl rfl (bt F (fun a5 O F=>ifN F (fun C F=>?_) (fun C F=>?_)))))))
  ·
   refine aw (by kernel_rfl) (bg I 160 _ _ (by kernel_rfl) (bn.mono (L160 _ q _ O) (uH (Bool.eq_false_iff.2 C))) fun w I=>pup bT (by kernel_rfl) (pu2 bT bT (by kernel_rfl) (sf 4 (by kernel_rfl) (pu2 bT bT (by kernel_rfl) (sf 4 (by kernel_rfl) (pu bT (by kernel_rfl) (aa (ah rfl (uL (by kernel_rfl) (pu bF (by kernel_rfl) (aa (aj ?_))))))))))))
   cases F
   exact uJ I rfl
  refine aw (by kernel_rfl) (bg I 160 _ _ (by kernel_rfl) (bn.mono (L160 _ q _ O) (uH C)) fun w I=>pup bF (by kernel_rfl) (pu2 bF bF (by kernel_rfl) (pup (uF i 4) (by kernel_rfl) (aw (by kernel_rfl) (ag I 0 (iv f) zi3 rfl rfl rfl (bt F (fun a6 P F=>ifN F (fun D F=>?_) (fun D F=>?_))))))))
  ·
   refine aw (by kernel_rfl) (bg I 160 _ _ (by kernel_rfl) (bn.mono (L160 _ f _ P) (uH (Bool.eq_false_iff.2 D))) fun w I=>pup bT (by kernel_rfl) (pu2 bT bT (by kernel_rfl) (sf 4 (by kernel_rfl) (pu bT (by kernel_rfl) (aa (ah rfl (uL (by kernel_rfl) (pu bF (by kernel_rfl) (aa (aj ?_))))))))))
   cases F
   exact uJ I rfl
  refine aw (by kernel_rfl) (bg I 160 _ _ (by kernel_rfl) (bn.mono (L160 _ f _ P) (uH D)) fun w I=>pup bF (by kernel_rfl) (pu2 bF bF (by kernel_rfl) (pup (uF i 5) (by kernel_rfl) (aw (by kernel_rfl) (ag I 0 (uM s g u) mv rfl rfl rfl (pup (iv ((g.length:Nat):Int)) (by kernel_rfl) (ifE F (fun E F=>?_) (fun E F=>?_))))))))
  ·
   refine aw rfl (fh rfl rfl (fun _=>?_) (uO E))
   refine pu bT rfl (aa (ah rfl (uL rfl (pu bF rfl (aa (aj ?_))))))
   cases F
   exact uJ I rfl
  refine aw rfl (fh rfl rfl (uP E) (fun _=>pu bF rfl (aa (ai rfl (ak (ab (uL rfl (pu (uF i 5) rfl (xg I 0 (uM s g u) mv rfl (pu2 (iv ((g.length:Nat):Int)) (iv 0) (by kernel_rfl) (aa (au (cb (fun m ρ w=>∃ j mm,cd ρ [(1,pt i),(47,uM s g u),(48,iv (g.length:Int)),(49,iv j)]∧Inv [] w0 w [(some i,blk [iv l,iv o,iv e,iv q,iv f,uM s g u] 83)]∧F136l2 e f g N mm j=some r∧mm=m) (m:=N) ⟨0,N,(uK rfl),I.pk [0] rfl,F,rfl⟩ ?_)))))))))))))
  rintro m ρ w ⟨j,mm,hag,I,F,hm⟩
  subst hm; obtain ⟨ρ,rfl⟩:=hag.form
  obtain _ | m2:=mm
  ·cases (show (none:Option Bool)=some r from F)
  replace F:F136b2 e f g N (F136l2 e f g N m2) j=some r:=F; unfold F136b2 at F
  refine uL rfl (ifN F (fun G F=>?_) (fun G F=>?_))
  ·
   refine xl rfl (uP G) (fun _=>aa (ab (ai rfl (bw (uL rfl (pu bT rfl (aa (aj ?_))))))))
   cases F
   exact uJ I rfl
  refine xl rfl (fun _=>?_) (uO G)
  refine aa (ab (ah rfl (ak (ab (au (uL rfl (pu (iv j) rfl (gdE F (fun S F=>bt F (fun a Q F=>?_))))))))))
  obtain ⟨a7,a8,T,U,V⟩:=R.at_ bx (by decide) Q
  refine ph (cn (j).toNat nt md rfl T rfl (Int.toNat_of_nonneg S).symm (fa Q rfl) (ph (ef I (qg a) mh md rfl rfl U (by simp) V (ph (bh I _ zeroValue25 rfl fun W w I=>pu (iv j) (by kernel_rfl) (xi I 0 _ md rfl fun w I=>aa (uL (by kernel_rfl) (xm I 0 mh md rfl (bt F (fun a9 X F=>ph (bg I 17 _ _ (by kernel_rfl) (L17 _ a N _ X) fun w I=>ifN F (fun H F=>?_) (fun H F=>?_))))))))))))
  ·
   refine xn rfl (fun _=>?_) (uP H)
   refine pu bT rfl (sf 10 rfl (pu bT rfl (aa (ah rfl (uL rfl (pu bF rfl (aa (aj ?_))))))))
   cases F
   exact uJ I rfl
  refine xn rfl (uO H) (fun _=>pu bF rfl (pup (pt W) rfl (aw rfl (ar I 0 2 [iv a.p,iv a.n] zi23 zs23 rfl rfl rfl rfl (pup (uF i 2) rfl (aw rfl (ag I 1 (iv e) zi3 rfl rfl rfl (pup (uF i 4) rfl (aw rfl (ag I 1 (iv f) zi3 rfl rfl rfl (pup (iv j) rfl (ckE F (fun Y F=>aw rfl (cj rfl rfl Y (pup (.agg #[iv e,iv (f+j)]) (by kernel_rfl) (ifN F (fun J F=>?_) (fun J F=>?_)))))))))))))))))
  ·
   refine aw rfl (lg (b:=decide (a.p=e) && decide (a.n=f+j)) rfl rfl (by kernel_rfl) (fun w=>eq23 _ a.p a.n e (f+j) w) (fun _=>?_) (uP J))
   refine pu bT rfl (aa (ah rfl (uL rfl (pu bF rfl (aa (aj ?_))))))
   cases F
   exact uJ I rfl
  refine aw rfl (lg (b:=decide (a.p=e) && decide (a.n=f+j)) rfl rfl (by kernel_rfl) (fun w=>eq23 _ a.p a.n e (f+j) w) (uO J) (fun _=>pu bF rfl (aa (ai rfl (ak (rgn rfl (ckE F (fun Z F=>xa rfl Z (pu (iv (j+1)) rfl (aa (⟨rfl,m2,Nat.lt_succ_self _,⟨j+1,m2,(uK rfl),I.pk [1] rfl,F,rfl⟩⟩)))))))))))
 have F:=hG; clear hG
 refine ifE F (fun h=>absurd h (by decide)) (fun _ F=>rgn rfl (pu3 bF bT bT (by kernel_rfl) (sf 4 rfl (pu2 bT bT rfl (sf 4 rfl (pu2 bT bT rfl (sf 4 rfl (pu bT rfl (aa (ah rfl (uL rfl (pu bF rfl (aa (aj ?_))))))))))))))
 cases F
 exact uJ I rfl


theorem L138 (w0:World) (d:Nat) (u:Int) (x:Option Addr) (y:Nat) (l:List Sp3) (z:Option Addr) (A:Nat) (m:List Sp3) (B:Option Addr) (C:Nat) (o:List Sp3) (D:Int) (E:Int) (G:Int) (i:Option Addr) (k:Nat) (a:List Rc) (H:V36) (t:Int) (J:Int) (e:Int) (f:Int) (K:Int) (L:Option Addr) (M:Nat) (q:List Rc) (U:bi w0 x (al bb l)) (V:l.length≤9223372036854775807) (W:l.length≤y) (X:bi w0 z (al bb m)) (Y:m.length≤9223372036854775807) (Z:m.length≤A) (a0:bi w0 B (al bb o)) (a1:o.length≤9223372036854775807) (a2:o.length≤C) (O:bi w0 i (al eRc a)) (P:a.length≤9223372036854775807) (Q:a.length≤k) (hBp0:d < w0.heap.size) (hPp0:∀ (j:Nat) (v:Value),(([iv u,uM x l y,uM z m A,uM B o C,iv D,iv E,iv G,uM i a k]++KN H):List Value)[j]?=some v→w0.cell? ⟨d,j,none⟩=some v) (a7:bi w0 L (al eRc q)) (a8:q.length≤9223372036854775807) (a9:q.length≤M) (N:Nat) (r:(Unit ⊕ (Int × Int × Int × Int × Int × List Rc))) (F:F138 N u l m o D E G a H t J e f K q=some r):bn Tryz.prog 138 [pt d,.agg #[iv t,iv J,iv e,iv f,iv K,uM L q M]] w0 fun v w=>(match r with | .inl ra0=>v=uD∧Below w0.heap.size w0 w | .inr rb0=>∃ z0 z1 z2 z3,v=.slice (some ⟨z0,0,none⟩) 1 1∧Inv [] w0 w [(some z0,blk [iv rb0.1,iv rb0.2.1,iv rb0.2.2.1,iv rb0.2.2.2.1,iv rb0.2.2.2.2.1,uN z1 rb0.2.2.2.2.2 z2] 83),(z1,blk z3 25)]∧Row 8 z1 rb0.2.2.2.2.2.length z2 z3 (al eRc rb0.2.2.2.2.2)):=by
 refine az (n:=29) func138 rfl ntmps138 rfl ?_
 have I:=Inv.start w0
 unfold F138 at F
 refine uL (by rfl) (ph (ca I _ rfl fun s w I=>pu uD (by rfl) (aa (ab (gm 9 I (by kernel_rfl) (zB (pt d) (pt d) (by rfl) (zB (pt d) (uF d 7) (by rfl) (zc (uM i a k) (fun w I=>dj I (uM i a k) mv rfl hBp0 (by simp) (hPp0 7 _ rfl) br) (zP (uF s 2) (by rfl) (zg 0 (iv e) zi3 rfl (bt F (fun g a3 F=>zc (iv g) (fun w I=>co 101 [uM i a k,iv e] (by kernel_rfl) (L101 _ i k a e (O.inv0 I) P Q N _ a3) uI) (zP (iv g) (by rfl) (zh (fun w I=>aa (ab (uL (by rfl) (pu2 (iv g) (uF s 3) (by rfl) (xg I 0 (iv f) zi3 rfl (ifE F (fun h8 F=>?_) (fun h8 F=>?_)))))))))))))))))))))
 ·
  refine xe rfl (fun _=>?_) (uO h8)
  refine aa (ah rfl (uL (by rfl) (pu uD (by rfl) (aa (aj ?_)))))
  cases F
  exact uJ I rfl
 refine xe rfl (uP h8) (fun _=>aa (ai rfl (ak (uL (by kernel_rfl) (pu2 (pt d) (pt s) (by kernel_rfl) (xg I 0 (iv t) zi3 rfl (pu (uF s 2) (by kernel_rfl) (xg I 0 (iv e) zi3 rfl (pu2 (iv g) (uF s 3) (by kernel_rfl) (xg I 0 (iv f) zi3 rfl (pu (iv (if f < g then f else g)) (by kernel_rfl) (bt F (fun p a4 F=>ph (co 134 _ (by kernel_rfl) (L134 _ d u x y l z A m B C o D E G i k a H t e (if f < g then f else g) (U.inv0 I) V W (X.inv0 I) Y Z (a0.inv0 I) a1 a2 (O.inv0 I) P Q (Nat.lt_of_lt_of_le hBp0 I.but.size) (I.ptrUp hBp0 hPp0) N _ a4) ?_))))))))))))))
 rintro v w ⟨R,S,a5,rfl,hN,a6⟩
 have I:=I.join hN; clear hN
 refine ph (fu I [iv p.1,iv p.2.1,iv p.2.2.1,iv p.2.2.2.1,iv p.2.2.2.2.1,uN R p.2.2.2.2.2 S] 83 (fun b=>slv (some b) 1 1) (by kernel_rfl) fun T w I=>pu (.slice (some ⟨T,0,none⟩) 1 1) (by kernel_rfl) (aa (aj ?_)))
 cases F
 exact ⟨_,Ret.r1 rfl rfl,⟨T,R,S,a5,rfl,I.pk [0,1] rfl,a6.to rfl rfl⟩⟩

end Go.K
