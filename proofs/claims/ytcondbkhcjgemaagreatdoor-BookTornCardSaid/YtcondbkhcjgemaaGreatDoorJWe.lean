import Derived.Test.YtcondbkhcjgemaaGreatDoorJWd
namespace Go.K
open Go.Proofs.Tryz
open Go.Proofs Go.RowKit
set_option linter.unusedVariables false
set_option linter.unusedSimpArgs false
set_option maxRecDepth 100000
attribute [local irreducible] Seq cw cx fl opX
theorem L45 (w0:World) (B:Option Addr) (o:Nat) (m:List Sp3) (C:Option Addr) (p:Nat) (i:List Sp3) (E:Option Addr) (q:Nat) (f:List Sp3) (e:Int) (d:Int) (a:Int) (R:Option Addr) (S:Nat) (J:List Int) (bN:bi w0 B (al bb m)) (bO:m.length≤9223372036854775807) (aN:m.length≤o) (bP:bi w0 C (al bb i)) (bQ:i.length≤9223372036854775807) (aO:i.length≤p) (bR:bi w0 E (al bb f)) (bS:f.length≤9223372036854775807) (aP:f.length≤q) (aQ:bi w0 R (al eInt J)) (aR:J.length≤9223372036854775807) (aS:J.length≤S) (N:Nat) (r:(List Sp3 × List Sp3 × List Sp3 × Int × Int × Int)) (F:F45 N m i f e d a J=some r):bn Tryz.prog 45 [.agg #[.slice B m.length o,.slice C i.length p,.slice E f.length q,iv e,iv d,iv a],.slice R J.length S] w0 fun v w=>∃ (z0:Option Nat) (z1:Nat) (z2:List Value) (z3:Option Nat) (z4:Nat) (z5:List Value) (z6:Option Nat) (z7:Nat) (z8:List Value),v=.agg #[slv z0 r.1.length z1,slv z3 r.2.1.length z4,slv z6 r.2.2.1.length z7,iv r.2.2.2.1,iv r.2.2.2.2.1,iv r.2.2.2.2.2]∧Inv [] w0 w [(z0,blk z2 35),(z3,blk z5 35),(z6,blk z8 35)]∧Row 3 z0 r.1.length z1 z2 (al bb r.1)∧Row 3 z3 r.2.1.length z4 z5 (al bb r.2.1)∧Row 3 z6 r.2.2.1.length z7 z8 (al bb r.2.2.1):=by
 refine az (n:=42) func45 rfl ntmps45 rfl ?_
 have I:=Inv.start w0
 unfold F45 at F
 refine ab (rgn (by kernel_rfl) (ph (ca I _ rfl fun aJ w I=>ph (bh I _ zeroValue63 rfl fun aK w I=>aa (ab (rgn (by kernel_rfl) (pu (.slice R J.length S) (by kernel_rfl) (ph (gr 120 [.slice R J.length S] (by kernel_rfl) (az (n:=5) func120 rfl ntmps120 rfl (ab (rgn (by kernel_rfl) (ph (ca I _ rfl fun t w I=>pu (.nilFunc) (by kernel_rfl) (aa (ab (rgn (by kernel_rfl) (ph (bh I _ zeroValue3 rfl fun x w I=>ph (mb I 0 _ zs3 rfl rfl rfl rfl rfl rfl fun w I=>aa (ab (rgn (by kernel_rfl) (pu2 (.func (.func 158) #[] #[pt t,pt x]) (.func (.func 158) #[] #[pt t,pt x]) (by kernel_rfl) (aa (aj (⟨.func (.func 158) #[] #[pt t,pt x],Ret.r1 rfl rfl,?_⟩))))))))))))))))))))))))))
 refine ph (bh I _ zeroValue180 rfl fun aL w I=>ph (mb I 0 _ zs180 rfl rfl rfl rfl rfl rfl fun w I=>aa (ab (rgn (by kernel_rfl) (ph (ag I 0 (.func (.func 158) #[] #[pt t,pt x]) zi180 rfl rfl rfl (bt F (fun bU c4 F=>ph (co 158 [pt t,pt x] (by kernel_rfl) (L158 N _ t x R S J 0 (I.lend [2,1] (by decide) rfl rfl) (I.apartL0 [2,1] rfl rfl aQ) aR aS _ c4) ?_)))))))))
 rintro v w ⟨hv,hN⟩
 subst hv
 have I:=I.backsL [2,1] [0,3,4] (by decide) rfl rfl rfl hN; clear hN
 refine bt F (fun a5 c5 F=>ph (bg I 121 _ _ (by kernel_rfl) (L121 _ bU.1 4 _ c5) fun w I=>ph (bh I _ zeroValue3 rfl fun aM w I=>ph (mb I 0 _ zs3 rfl rfl rfl rfl rfl rfl fun w I=>aa (ab (rgn (by kernel_rfl) (ph (bh I _ zeroValue63 rfl fun s w I=>aa (ab (ab (rgn (by kernel_rfl) (ph (ma I 6 mt mi rfl rfl rfl (ph (gr 118 [.agg #[.slice B m.length o,.slice C i.length p,.slice E f.length q,iv e,iv d,iv a]] (by kernel_rfl) (az (n:=4) func118 rfl ntmps118 rfl (ab (rgn (by kernel_rfl) (ph (ca I _ rfl fun G w I=>pu (.nilFunc) (by kernel_rfl) (aa (ab (rgn (by kernel_rfl) (pu2 (.func (.func 157) #[] #[pt G]) (.func (.func 157) #[] #[pt G]) (by kernel_rfl) (aa (aj (⟨.func (.func 157) #[] #[pt G],Ret.r1 rfl rfl,?_⟩)))))))))))))))))))))))))))
 refine aa (au (wp_rangeFunc I (first := #[]) (cap := #[pt G]) rfl 157 (fun y=>[y,pt G]) (fun l W=>by kernel_rfl) fun rcq5096 lqq5096 w hpsq5096 hasq5096 hboq5096 hofq5096 I=>az (n:=32) func157 rfl ntmps157 rfl (ab (rgn (by kernel_rfl) (pu (pt G) (by kernel_rfl) (ph (ar I 2 3 [.slice B m.length o,.slice C i.length p,.slice E f.length q] zi60 zs60 rfl rfl rfl rfl (pu (iv 0) (by kernel_rfl) (aa (au (jx 4 (lh (ab (rgn (by kernel_rfl) (ph (cm rfl rfl (fun _=>?_) (fun h=>absurd (by decide) h)))))))))))))))))
 refine aa (ab (ah rfl (ak (ab (au (ab (rgn (by kernel_rfl) (pu3 (iv 0) (.slice B m.length o) (iv 0) (by kernel_rfl) (pu (.slice B m.length o) (by kernel_rfl) (aa (ab (rgn (by kernel_rfl) (pu3 (iv 0) (.pointer (some ⟨G,3,none⟩)) (.pointer (some ⟨G,3,none⟩)) (by kernel_rfl) (ph (ag I 2 (iv e) zi3 rfl rfl rfl (pu3 (iv (if 0 > e then 0 else e)) (.slice B m.length o) (iv ((m.length:Nat):Int)) (by kernel_rfl) (pu2 (iv (qa m e)) (iv (qa m e)) (by kernel_rfl) (aa (dn (fun ρ w=>∃ (A:Option Nat) (K:Nat) (aB:List Value) (aT:Int) (H:List Sp3) (L:Int),cd ρ [(0,yfn lqq5096),(1,pt G),(7,.agg #[.slice B m.length o,.slice C i.length p,.slice E f.length q]),(8,iv 0),(30,bF)]∧Inv [] w0 w [(some lqq5096,rcq5096.at .ready none),(some G,blk [.slice B m.length o,.slice C i.length p,.slice E f.length q,iv e,iv d,iv a] 63),(some rcq5096.defers,.deferred (some [])),(some aJ,blk [.slice B m.length o,.slice C i.length p,.slice E f.length q,iv e,iv d,iv a] 63),(some aK,blk [.slice none 0 0,.slice none 0 0,.slice none 0 0,iv 0,iv 0,iv 0] 63),(some t,blk [.slice R J.length S] 64),(some x,blk [iv aT] 3),(some aL,blk [.func (.func 158) #[] #[pt t,pt x]] 180),(some aM,blk [iv a5] 3),(some s,blk [slv A H.length K,.slice none 0 0,.slice none 0 0,iv L,iv 0,iv 0] 63),(A,blk aB 35)]∧(Row 3 A (H.length) K aB (al bb H))∧F45j1 i f d a J N a5 aT H L=some r) ?_ ?_)))))))))))))))))))
 ·
  refine gm 9 I (by kernel_rfl) (zp2 (yfn lqq5096) (iv 0) (fun _=>(by kernel_rfl)) (zp2 (.slice B m.length o) (iv (qa m e)) (fun _=>(by kernel_rfl)) (gdE F (fun bV F=>gdE F (fun aX F=>?_)))))
  obtain ⟨M,hC6735,c6⟩:=cutA (enc:=bb) (l:=m) (lo:=0) (hi:=(qd m e)) (c:=o) (k:=3) bk bN aX aN
  refine zc (.slice M ((qc m e).length) (o - 0)) (fun w I=>c6 mj mc rfl (.inr ⟨rfl,rfl⟩) (.inl (congrArg (fun z=>some (Value.int .i64 z)) (Int.toNat_of_nonneg bV).symm)) br) (zp2 (.slice B m.length o) (iv (qa m e)) (fun _=>(by kernel_rfl)) (gdE F (fun aY F=>?_)))
  obtain ⟨a8,hC6737,c7⟩:=cutA (enc:=bb) (l:=m) (lo:=(qd m e)) (hi:=m.length) (c:=o) (k:=3) bk bN aY aN
  refine zc (.slice a8 ((qb m e).length) (o - (qd m e))) (fun w I=>c7 mj mc rfl (.inl (congrArg (fun z=>some (Value.int .i64 z)) (Int.toNat_of_nonneg bV).symm)) (.inr ⟨rfl,rfl⟩) br) (zp (.agg #[.slice M ((qc m e).length) (o - 0),.slice a8 ((qb m e).length) (o - (qd m e))]) (fun _=>(by kernel_rfl)) (zh (fun w I=>ph (li (fv:=yfn lqq5096) [iv 0,.agg #[.slice M ((qc m e).length) (o - 0),.slice a8 ((qb m e).length) (o - (qd m e))]] rfl (by kernel_rfl) ?_))))
  have I:=I.pk [0,1,2,3,4,5,6,7,8,9] rfl rfl
  refine eu I hofq5096 [18,19] hpsq5096 rfl (by decide) ?_
  rw [hasq5096]
  refine ab (rgn (by kernel_rfl) (pu (iv 0) (by kernel_rfl) (aa (rgn (by kernel_rfl) (ph (bh I _ zeroValue179 rfl fun aF w I=>ph (mb I 0 _ zs179 rfl rfl rfl rfl rfl rfl fun w I=>aa (⟨rfl,_,I.pk [1,0,2,3,4,5,6,7,8,9,10] rfl rfl,?_⟩))))))))
  intro w I
  rw [hboq5096]
  refine au (ab (rgn (by kernel_rfl) (pu (.pointer (some ⟨aF,1,none⟩)) (by kernel_rfl) (ph (ag I 1 (.slice a8 ((qb m e).length) (o - (qd m e))) mq rfl rfl rfl (ph (ag I 8 (.func (.func 158) #[] #[pt t,pt x]) zi180 rfl rfl rfl (bt F (fun T c8 F=>ph (co 122 [.slice a8 ((qb m e).length) (o - (qd m e)),.func (.func 158) #[] #[pt t,pt x]] (by kernel_rfl) (L122 N _ t x a8 (o - (qd m e)) (qb m e) R S J bU.2 (I.lend [6,7] (by decide) rfl rfl) (I.apartL0 [6,7] rfl rfl hC6737) (cut_big aY bO) (cut_cap aY aN) (I.apartL0 [6,7] rfl rfl aQ) aR aS _ c8) ?_))))))))))
  rintro v w ⟨a2,aC,aZ,hv,hN,b0⟩
  subst hv
  have I:=I.backsL [6,7] [0,1,2,3,4,5,8,9,10] (by decide) rfl rfl rfl hN; clear hN
  refine pu (slv a2 T.1.length aC) (by kernel_rfl) (aa (ab (rgn (by kernel_rfl) (pu (iv 0) (by kernel_rfl) (ph (ag I 8 (iv a5) zi3 rfl rfl rfl (ifE F (fun b1 F=>?_) (fun b1 F=>?_))))))))
  ·
   refine ph (de rfl rfl (fun h=>absurd b1 h) (fun _=>aa (ai rfl (ak (⟨_,I.pk [3,0,1,2,4,5,6,7,8,9,10,11] rfl rfl,fun w I=>?_⟩)))))
   refine pu bF (by kernel_rfl) (aa ?_)
   have I:=I.nilRow 35
   exact .inl ⟨rfl,⟨none,0,[],T.2,[],0,⟨rfl,rfl,rfl,rfl,rfl,trivial⟩,I.pk [1,7,6,12,11,3,4,10,9,8,0] rfl rfl,(Row.nil_ 3),F⟩⟩
  refine ph (de rfl rfl (fun _=>?_) (fun h=>absurd h b1))
  refine aa (ah rfl (bt F (fun U cA F=>kx [tv (fun _=>(iv 0)),tv (fun _=>(iv 0)),tv (fun _=>(pt aF)),tr (fun _=>(.slice M ((qc m e).length) (o - 0))) [20],tv (fun _=>(slv a2 T.1.length aC)),⟨fun y=>(.slice (some ⟨(y 5).b,0,none⟩) 2 2),fun y=>[(some (y 5).b,blk [.slice M ((qc m e).length) (o - 0),slv a2 T.1.length aC] 38)],fun _=>True,[],[]⟩,⟨fun y=>(slv ((y 6).g 0) U.length ((y 6).c 0)),fun y=>[(((y 6).g 0),blk ((y 6).cl 0) 35)],fun y=>(Row 3 ((y 6).g 0) U.length ((y 6).c 0) ((y 6).cl 0) (al bb U)),[],[5,16]⟩,tv (fun _=>(pt aF)),tr (fun _=>(.slice M ((qc m e).length) (o - 0))) [20],tv (fun _=>(iv ((qc m e).length:Int))),tv (fun _=>(pt s)),tv (fun _=>(pt s)),tst (fun y=>[(some s,blk [slv ((y 6).g 0) U.length ((y 6).c 0),.slice none 0 0,.slice none 0 0,iv 0,iv 0,iv 0] 63)]) 23,tv (fun _=>(.pointer (some ⟨s,3,none⟩))),tv (fun _=>(.pointer (some ⟨s,3,none⟩))),tst (fun y=>[(some s,blk [slv ((y 6).g 0) U.length ((y 6).c 0),.slice none 0 0,.slice none 0 0,iv ((qc m e).length:Int),iv 0,iv 0] 63)]) 12] (fun _=>[]) (fun y=>[(some (y 5).b,blk [.slice M ((qc m e).length) (o - 0),slv a2 T.1.length aC] 38),(((y 6).g 0),blk ((y 6).cl 0) 35),(some s,blk [slv ((y 6).g 0) U.length ((y 6).c 0),.slice none 0 0,.slice none 0 0,iv ((qc m e).length:Int),iv 0,iv 0] 63),(a2,blk aZ 35),(some t,blk [.slice R J.length S] 64),(some x,blk [iv T.2] 3),(some lqq5096,rcq5096.at .busy none),(some aF,blk [.slice M ((qc m e).length) (o - 0),.slice a8 ((qb m e).length) (o - (qd m e))] 179),(some rcq5096.defers,.deferred (some [])),(some G,blk [.slice B m.length o,.slice C i.length p,.slice E f.length q,iv e,iv d,iv a] 63),(some aM,blk [iv a5] 3),(some aL,blk [.func (.func 158) #[] #[pt t,pt x]] 180),(some aK,blk [.slice none 0 0,.slice none 0 0,.slice none 0 0,iv 0,iv 0,iv 0] 63),(some aJ,blk [.slice B m.length o,.slice C i.length p,.slice E f.length q,iv e,iv d,iv a] 63)]) I (by kernel_rfl) (fun y=>⟨(by kernel_rfl),(by kernel_rfl)⟩) (fun y=>?_) ?_)))
  ·
   refine tp rfl (fun _=>(by kernel_rfl)) (tp rfl (fun _=>(by kernel_rfl)) (tp rfl (fun _=>(by kernel_rfl)) (tl1 [(some aF,blk [.slice M ((qc m e).length) (o - 0),.slice a8 ((qb m e).length) (o - (qd m e))] 179)] rfl (by kernel_rfl) (fun X w I=>ag I 0 (.slice M ((qc m e).length) (o - 0)) mq rfl rfl rfl br) (tp rfl (fun _=>(by kernel_rfl)) (tg (.slice (some ⟨(y 5).b,0,none⟩) 2 2) [] [] rfl ⟨(by kernel_rfl),(by kernel_rfl),(by kernel_rfl)⟩ ?_ ?_)))))
   ·intro hp X w I
    refine fu I [.slice M ((qc m e).length) (o - 0),slv a2 T.1.length aC] 38 (fun b=>slv (some b) 2 2) (by kernel_rfl) fun bW w I=>⟨wit bW [] [] [] [],(by kernel_rfl),trivial,I.castL (by kernel_rfl)⟩
   refine tg (slv ((y 6).g 0) U.length ((y 6).c 0)) [(some (y 5).b,blk [.slice M ((qc m e).length) (o - 0),slv a2 T.1.length aC] 38),(a2,blk aZ 35)] [(some (y 5).b,blk [.slice M ((qc m e).length) (o - 0),slv a2 T.1.length aC] 38),(a2,blk aZ 35)] rfl ⟨(by kernel_rfl),(by kernel_rfl),(by kernel_rfl)⟩ ?_ ?_
   ·intro hp X w I
    refine co 123 _ (by kernel_rfl) (L123 _ (some ⟨(y 5).b,0,none⟩) 2 [(m.drop 0).take ((qd m e) - 0),T.1] [(⟨(m.drop 0).take ((qd m e) - 0),M,o - 0⟩:Dst),(⟨T.1,(a2.map fun b=>⟨b,0,none⟩),aC⟩:Dst)] (I.cells 0 (off:=0) rfl (fun j u h=>by rw [Nat.zero_add]; exact h)) rfl (fa_cons ⟨(hC6735.inv0 I),(cut_big aX bO),(cut_cap aX aN)⟩ (fa_cons ⟨(I.rowCells 1 rfl b0),am rfl b0.big,am rfl b0.cap⟩ fa_nil)) (mx rfl) (Nat.le_refl _) N _ cA) ?_
    rintro v w ⟨b2,b3,b4,rfl,hN,b5⟩
    have I:=I.join hN; clear hN
    exact ⟨wit 0 [b2] [b3] [b4] [],(by kernel_rfl),Eq.mp (by kernel_rfl) b5,I.castL (by kernel_rfl)⟩
   refine tp rfl (fun _=>(by kernel_rfl)) (tl1 [(some aF,blk [.slice M ((qc m e).length) (o - 0),.slice a8 ((qb m e).length) (o - (qd m e))] 179)] rfl (by kernel_rfl) (fun X w I=>ag I 0 (.slice M ((qc m e).length) (o - 0)) mq rfl rfl rfl br) (tp rfl (fun _=>(by kernel_rfl)) (tp rfl (fun _=>(by kernel_rfl)) (tp rfl (fun _=>(by kernel_rfl)) (tS [(some s,blk [.slice none 0 0,.slice none 0 0,.slice none 0 0,iv 0,iv 0,iv 0] 63)] rfl ⟨(by kernel_rfl),(by kernel_rfl)⟩ (fun X w I=>aq I 0 1 [slv ((y 6).g 0) U.length ((y 6).c 0)] mw rfl rfl rfl rfl rfl (mx rfl) fun w I=>⟨rfl,I.castL (by kernel_rfl)⟩) (tp rfl (fun _=>(by kernel_rfl)) (tp rfl (fun _=>(by kernel_rfl)) (tS [(some s,blk [slv ((y 6).g 0) U.length ((y 6).c 0),.slice none 0 0,.slice none 0 0,iv 0,iv 0,iv 0] 63)] rfl ⟨(by kernel_rfl),(by kernel_rfl)⟩ (fun X w I=>aq I 0 1 [iv ((qc m e).length:Int)] zs3 rfl rfl rfl rfl rfl (mx rfl) fun w I=>⟨rfl,I.castL (by kernel_rfl)⟩) (tn)))))))))
  intro y hp ρ w hag I
  have b5:Row 3 ((y 6).g 0) U.length ((y 6).c 0) ((y 6).cl 0) (al bb U):=pgl hp (k:=6) (by decide) (by kernel_rfl)
  clear hp
  generalize (y 5).b=bW at *
  generalize (y 6).g 0=b2 at *
  generalize (y 6).c 0=b3 at *
  generalize (y 6).cl 0=b4 at *
  obtain ⟨ρ,rfl⟩:=hag.form; clear hag
  refine ⟨_,I.pk [6,0,1,2,3,4,5,7,8,9,10,11,12,13] rfl rfl,fun w I=>?_⟩
  refine pu bF (by kernel_rfl) (aa (.inl ⟨rfl,⟨b2,b3,b4,T.2,U,((qc m e).length:Int),⟨rfl,rfl,rfl,rfl,rfl,trivial⟩,I.pk [0,9,8,13,12,5,6,11,10,3,2] rfl rfl,(b5.to rfl rfl),F⟩⟩))
 intro ρ w hJ
 obtain ⟨A,K,aB,aT,H,L,hag,I,bX,F⟩:=hJ
 obtain ⟨ρ,rfl⟩:=hag.form; clear hag
 unfold F45j1 at F
 refine ai rfl (ak (rgn (by kernel_rfl) (pu2 (iv 1) (iv 1) (by kernel_rfl) (aa (⟨rfl,lh ?_⟩)))))
 refine ab (rgn (by kernel_rfl) (ph (cm rfl rfl (fun _=>?_) (fun h=>absurd (by decide) h))))
 refine aa (ab (ah rfl (ak (ab (au (ab (rgn (by kernel_rfl) (pu3 (iv 1) (.slice C i.length p) (iv 1) (by kernel_rfl) (pu (.slice C i.length p) (by kernel_rfl) (aa (ab (rgn (by kernel_rfl) (pu3 (iv 1) (.pointer (some ⟨G,3,none⟩)) (.pointer (some ⟨G,4,none⟩)) (by kernel_rfl) (ph (ag I 1 (iv d) zi3 rfl rfl rfl (pu3 (iv (if 0 > d then 0 else d)) (.slice C i.length p) (iv ((i.length:Nat):Int)) (by kernel_rfl) (pu2 (iv (qa i d)) (iv (qa i d)) (by kernel_rfl) (aa (dn (fun ρ w=>∃ (Q:Option Nat) (V:Nat) (aG:List Value) (aU:Int) (Y:List Sp3) (a6:Int),cd ρ [(0,yfn lqq5096),(1,pt G),(7,.agg #[.slice B m.length o,.slice C i.length p,.slice E f.length q]),(8,iv 1),(30,bF)]∧Inv [] w0 w [(some lqq5096,rcq5096.at .ready none),(some G,blk [.slice B m.length o,.slice C i.length p,.slice E f.length q,iv e,iv d,iv a] 63),(some rcq5096.defers,.deferred (some [])),(some aJ,blk [.slice B m.length o,.slice C i.length p,.slice E f.length q,iv e,iv d,iv a] 63),(some aK,blk [.slice none 0 0,.slice none 0 0,.slice none 0 0,iv 0,iv 0,iv 0] 63),(some t,blk [.slice R J.length S] 64),(some x,blk [iv aU] 3),(some aL,blk [.func (.func 158) #[] #[pt t,pt x]] 180),(some aM,blk [iv a5] 3),(some s,blk [slv A H.length K,slv Q Y.length V,.slice none 0 0,iv L,iv a6,iv 0] 63),(A,blk aB 35),(Q,blk aG 35)]∧(Row 3 Q (Y.length) V aG (al bb Y))∧F45j2 f a J N a5 H L aU Y a6=some r) ?_ ?_)))))))))))))))))))
 ·
  refine gm 9 I (by kernel_rfl) (zp2 (yfn lqq5096) (iv 1) (fun _=>(by kernel_rfl)) (zp2 (.slice C i.length p) (iv (qa i d)) (fun _=>(by kernel_rfl)) (gdE F (fun bY F=>gdE F (fun b6 F=>?_)))))
  obtain ⟨O,hC6669,cB⟩:=cutA (enc:=bb) (l:=i) (lo:=0) (hi:=(qd i d)) (c:=p) (k:=3) bk bP b6 aO
  refine zc (.slice O ((qc i d).length) (p - 0)) (fun w I=>cB mj mc rfl (.inr ⟨rfl,rfl⟩) (.inl (congrArg (fun z=>some (Value.int .i64 z)) (Int.toNat_of_nonneg bY).symm)) br) (zp2 (.slice C i.length p) (iv (qa i d)) (fun _=>(by kernel_rfl)) (gdE F (fun b7 F=>?_)))
  obtain ⟨a9,hC6671,cC⟩:=cutA (enc:=bb) (l:=i) (lo:=(qd i d)) (hi:=i.length) (c:=p) (k:=3) bk bP b7 aO
  refine zc (.slice a9 ((qb i d).length) (p - (qd i d))) (fun w I=>cC mj mc rfl (.inl (congrArg (fun z=>some (Value.int .i64 z)) (Int.toNat_of_nonneg bY).symm)) (.inr ⟨rfl,rfl⟩) br) (zp (.agg #[.slice O ((qc i d).length) (p - 0),.slice a9 ((qb i d).length) (p - (qd i d))]) (fun _=>(by kernel_rfl)) (zh (fun w I=>ph (li (fv:=yfn lqq5096) [iv 1,.agg #[.slice O ((qc i d).length) (p - 0),.slice a9 ((qb i d).length) (p - (qd i d))]] rfl (by kernel_rfl) ?_))))
  have I:=I.pk [0,1,2,3,4,5,6,7,8,9,10] rfl rfl
  refine eu I hofq5096 [18,19] hpsq5096 rfl (by decide) ?_
  rw [hasq5096]
  refine ab (rgn (by kernel_rfl) (pu (iv 1) (by kernel_rfl) (aa (rgn (by kernel_rfl) (ph (bh I _ zeroValue179 rfl fun aH w I=>ph (mb I 0 _ zs179 rfl rfl rfl rfl rfl rfl fun w I=>aa (⟨rfl,_,I.pk [1,0,2,3,4,5,6,7,8,9,10,11] rfl rfl,?_⟩))))))))
  intro w I
  rw [hboq5096]
  refine au (ab (rgn (by kernel_rfl) (pu (.pointer (some ⟨aH,1,none⟩)) (by kernel_rfl) (ph (ag I 1 (.slice a9 ((qb i d).length) (p - (qd i d))) mq rfl rfl rfl (ph (ag I 8 (.func (.func 158) #[] #[pt t,pt x]) zi180 rfl rfl rfl (bt F (fun Z cD F=>ph (co 122 [.slice a9 ((qb i d).length) (p - (qd i d)),.func (.func 158) #[] #[pt t,pt x]] (by kernel_rfl) (L122 N _ t x a9 (p - (qd i d)) (qb i d) R S J aT (I.lend [6,7] (by decide) rfl rfl) (I.apartL0 [6,7] rfl rfl hC6671) (cut_big b7 bQ) (cut_cap b7 aO) (I.apartL0 [6,7] rfl rfl aQ) aR aS _ cD) ?_))))))))))
  rintro v w ⟨a3,aD,b8,hv,hN,b9⟩
  subst hv
  have I:=I.backsL [6,7] [0,1,2,3,4,5,8,9,10,11] (by decide) rfl rfl rfl hN; clear hN
  refine pu (slv a3 Z.1.length aD) (by kernel_rfl) (aa (ab (rgn (by kernel_rfl) (pu (iv 1) (by kernel_rfl) (ph (ag I 10 (iv a5) zi3 rfl rfl rfl (ifE F (fun bA F=>?_) (fun bA F=>?_))))))))
  ·
   refine ph (de rfl rfl (fun h=>absurd bA h) (fun _=>aa (ai rfl (ak (⟨_,I.pk [3,0,1,2,4,5,6,7,8,9,10,11,12] rfl rfl,fun w I=>?_⟩)))))
   refine pu bF (by kernel_rfl) (aa ?_)
   have I:=I.nilRow 35
   exact .inl ⟨rfl,⟨none,0,[],Z.2,[],0,⟨rfl,rfl,rfl,rfl,rfl,trivial⟩,I.pk [1,6,7,8,9,3,4,10,11,12,13,0] rfl rfl,(Row.nil_ 3),F⟩⟩
  refine ph (de rfl rfl (fun _=>?_) (fun h=>absurd h bA))
  refine aa (ah rfl (bt F (fun a0 cE F=>kx [tv (fun _=>(iv 1)),tv (fun _=>(iv 1)),tv (fun _=>(pt aH)),tr (fun _=>(.slice O ((qc i d).length) (p - 0))) [20],tv (fun _=>(slv a3 Z.1.length aD)),⟨fun y=>(.slice (some ⟨(y 5).b,0,none⟩) 2 2),fun y=>[(some (y 5).b,blk [.slice O ((qc i d).length) (p - 0),slv a3 Z.1.length aD] 38)],fun _=>True,[],[]⟩,⟨fun y=>(slv ((y 6).g 0) a0.length ((y 6).c 0)),fun y=>[(((y 6).g 0),blk ((y 6).cl 0) 35)],fun y=>(Row 3 ((y 6).g 0) a0.length ((y 6).c 0) ((y 6).cl 0) (al bb a0)),[],[5,16]⟩,tv (fun _=>(pt aH)),tr (fun _=>(.slice O ((qc i d).length) (p - 0))) [20],tv (fun _=>(iv ((qc i d).length:Int))),tv (fun _=>(pt s)),tv (fun _=>(.pointer (some ⟨s,1,none⟩))),tst (fun y=>[(some s,blk [slv A H.length K,slv ((y 6).g 0) a0.length ((y 6).c 0),.slice none 0 0,iv L,iv 0,iv 0] 63)]) 27,tv (fun _=>(.pointer (some ⟨s,3,none⟩))),tv (fun _=>(.pointer (some ⟨s,4,none⟩))),tst (fun y=>[(some s,blk [slv A H.length K,slv ((y 6).g 0) a0.length ((y 6).c 0),.slice none 0 0,iv L,iv ((qc i d).length:Int),iv 0] 63)]) 12] (fun _=>[]) (fun y=>[(some (y 5).b,blk [.slice O ((qc i d).length) (p - 0),slv a3 Z.1.length aD] 38),(((y 6).g 0),blk ((y 6).cl 0) 35),(some s,blk [slv A H.length K,slv ((y 6).g 0) a0.length ((y 6).c 0),.slice none 0 0,iv L,iv ((qc i d).length:Int),iv 0] 63),(a3,blk b8 35),(some t,blk [.slice R J.length S] 64),(some x,blk [iv Z.2] 3),(some lqq5096,rcq5096.at .busy none),(some aH,blk [.slice O ((qc i d).length) (p - 0),.slice a9 ((qb i d).length) (p - (qd i d))] 179),(some G,blk [.slice B m.length o,.slice C i.length p,.slice E f.length q,iv e,iv d,iv a] 63),(some rcq5096.defers,.deferred (some [])),(some aJ,blk [.slice B m.length o,.slice C i.length p,.slice E f.length q,iv e,iv d,iv a] 63),(some aK,blk [.slice none 0 0,.slice none 0 0,.slice none 0 0,iv 0,iv 0,iv 0] 63),(some aL,blk [.func (.func 158) #[] #[pt t,pt x]] 180),(some aM,blk [iv a5] 3),(A,blk aB 35)]) I (by kernel_rfl) (fun y=>⟨(by kernel_rfl),(by kernel_rfl)⟩) (fun y=>?_) ?_)))
  ·
   refine tp rfl (fun _=>(by kernel_rfl)) (tp rfl (fun _=>(by kernel_rfl)) (tp rfl (fun _=>(by kernel_rfl)) (tl1 [(some aH,blk [.slice O ((qc i d).length) (p - 0),.slice a9 ((qb i d).length) (p - (qd i d))] 179)] rfl (by kernel_rfl) (fun X w I=>ag I 0 (.slice O ((qc i d).length) (p - 0)) mq rfl rfl rfl br) (tp rfl (fun _=>(by kernel_rfl)) (tg (.slice (some ⟨(y 5).b,0,none⟩) 2 2) [] [] rfl ⟨(by kernel_rfl),(by kernel_rfl),(by kernel_rfl)⟩ ?_ ?_)))))
   ·intro hp X w I
    refine fu I [.slice O ((qc i d).length) (p - 0),slv a3 Z.1.length aD] 38 (fun b=>slv (some b) 2 2) (by kernel_rfl) fun bZ w I=>⟨wit bZ [] [] [] [],(by kernel_rfl),trivial,I.castL (by kernel_rfl)⟩
   refine tg (slv ((y 6).g 0) a0.length ((y 6).c 0)) [(some (y 5).b,blk [.slice O ((qc i d).length) (p - 0),slv a3 Z.1.length aD] 38),(a3,blk b8 35)] [(some (y 5).b,blk [.slice O ((qc i d).length) (p - 0),slv a3 Z.1.length aD] 38),(a3,blk b8 35)] rfl ⟨(by kernel_rfl),(by kernel_rfl),(by kernel_rfl)⟩ ?_ ?_
   ·intro hp X w I
    refine co 123 _ (by kernel_rfl) (L123 _ (some ⟨(y 5).b,0,none⟩) 2 [(i.drop 0).take ((qd i d) - 0),Z.1] [(⟨(i.drop 0).take ((qd i d) - 0),O,p - 0⟩:Dst),(⟨Z.1,(a3.map fun b=>⟨b,0,none⟩),aD⟩:Dst)] (I.cells 0 (off:=0) rfl (fun j u h=>by rw [Nat.zero_add]; exact h)) rfl (fa_cons ⟨(hC6669.inv0 I),(cut_big b6 bQ),(cut_cap b6 aO)⟩ (fa_cons ⟨(I.rowCells 1 rfl b9),am rfl b9.big,am rfl b9.cap⟩ fa_nil)) (mx rfl) (Nat.le_refl _) N _ cE) ?_
    rintro v w ⟨bB,bC,bD,rfl,hN,bE⟩
    have I:=I.join hN; clear hN
    exact ⟨wit 0 [bB] [bC] [bD] [],(by kernel_rfl),Eq.mp (by kernel_rfl) bE,I.castL (by kernel_rfl)⟩
   refine tp rfl (fun _=>(by kernel_rfl)) (tl1 [(some aH,blk [.slice O ((qc i d).length) (p - 0),.slice a9 ((qb i d).length) (p - (qd i d))] 179)] rfl (by kernel_rfl) (fun X w I=>ag I 0 (.slice O ((qc i d).length) (p - 0)) mq rfl rfl rfl br) (tp rfl (fun _=>(by kernel_rfl)) (tp rfl (fun _=>(by kernel_rfl)) (tp rfl (fun _=>(by kernel_rfl)) (tS [(some s,blk [slv A H.length K,.slice none 0 0,.slice none 0 0,iv L,iv 0,iv 0] 63)] rfl ⟨(by kernel_rfl),(by kernel_rfl)⟩ (fun X w I=>aq I 0 1 [slv ((y 6).g 0) a0.length ((y 6).c 0)] mw rfl rfl rfl rfl rfl (mx rfl) fun w I=>⟨rfl,I.castL (by kernel_rfl)⟩) (tp rfl (fun _=>(by kernel_rfl)) (tp rfl (fun _=>(by kernel_rfl)) (tS [(some s,blk [slv A H.length K,slv ((y 6).g 0) a0.length ((y 6).c 0),.slice none 0 0,iv L,iv 0,iv 0] 63)] rfl ⟨(by kernel_rfl),(by kernel_rfl)⟩ (fun X w I=>aq I 0 1 [iv ((qc i d).length:Int)] zs3 rfl rfl rfl rfl rfl (mx rfl) fun w I=>⟨rfl,I.castL (by kernel_rfl)⟩) (tn)))))))))
  intro y hp ρ w hag I
  have bE:Row 3 ((y 6).g 0) a0.length ((y 6).c 0) ((y 6).cl 0) (al bb a0):=pgl hp (k:=6) (by decide) (by kernel_rfl)
  clear hp
  generalize (y 5).b=bZ at *
  generalize (y 6).g 0=bB at *
  generalize (y 6).c 0=bC at *
  generalize (y 6).cl 0=bD at *
  obtain ⟨ρ,rfl⟩:=hag.form; clear hag
  refine ⟨_,I.pk [6,0,1,2,3,4,5,7,8,9,10,11,12,13,14] rfl rfl,fun w I=>?_⟩
  refine pu bF (by kernel_rfl) (aa (.inl ⟨rfl,⟨bB,bC,bD,Z.2,a0,((qc i d).length:Int),⟨rfl,rfl,rfl,rfl,rfl,trivial⟩,I.pk [0,8,9,10,11,5,6,12,13,3,14,2] rfl rfl,(bE.to rfl rfl),F⟩⟩))
 intro ρ w hJ
 obtain ⟨Q,V,aG,aU,Y,a6,hag,I,c0,F⟩:=hJ
 obtain ⟨ρ,rfl⟩:=hag.form; clear hag
 unfold F45j2 at F
 refine ai rfl (ak (rgn (by kernel_rfl) (pu2 (iv 2) (iv 2) (by kernel_rfl) (aa (⟨rfl,lh ?_⟩)))))
 refine ab (rgn (by kernel_rfl) (ph (cm rfl rfl (fun _=>?_) (fun h=>absurd (by decide) h))))
 refine aa (ab (ah rfl (ak (ab (au (ab (rgn (by kernel_rfl) (pu3 (iv 2) (.slice E f.length q) (iv 2) (by kernel_rfl) (pu (.slice E f.length q) (by kernel_rfl) (aa (ab (rgn (by kernel_rfl) (pu3 (iv 2) (.pointer (some ⟨G,3,none⟩)) (.pointer (some ⟨G,5,none⟩)) (by kernel_rfl) (ph (ag I 1 (iv a) zi3 rfl rfl rfl (pu3 (iv (if 0 > a then 0 else a)) (.slice E f.length q) (iv ((f.length:Nat):Int)) (by kernel_rfl) (pu2 (iv (qa f a)) (iv (qa f a)) (by kernel_rfl) (aa (ab (gm 9 I (by kernel_rfl) (zp2 (yfn lqq5096) (iv 2) (fun _=>(by kernel_rfl)) (zp2 (.slice E f.length q) (iv (qa f a)) (fun _=>(by kernel_rfl)) (gdE F (fun c1 F=>gdE F (fun bG F=>?_)))))))))))))))))))))))))
 obtain ⟨P,hC6603,cF⟩:=cutA (enc:=bb) (l:=f) (lo:=0) (hi:=(qd f a)) (c:=q) (k:=3) bk bR bG aP
 refine zc (.slice P ((qc f a).length) (q - 0)) (fun w I=>cF mj mc rfl (.inr ⟨rfl,rfl⟩) (.inl (congrArg (fun z=>some (Value.int .i64 z)) (Int.toNat_of_nonneg c1).symm)) br) (zp2 (.slice E f.length q) (iv (qa f a)) (fun _=>(by kernel_rfl)) (gdE F (fun bH F=>?_)))
 obtain ⟨aA,hC6605,cG⟩:=cutA (enc:=bb) (l:=f) (lo:=(qd f a)) (hi:=f.length) (c:=q) (k:=3) bk bR bH aP
 refine zc (.slice aA ((qb f a).length) (q - (qd f a))) (fun w I=>cG mj mc rfl (.inl (congrArg (fun z=>some (Value.int .i64 z)) (Int.toNat_of_nonneg c1).symm)) (.inr ⟨rfl,rfl⟩) br) (zp (.agg #[.slice P ((qc f a).length) (q - 0),.slice aA ((qb f a).length) (q - (qd f a))]) (fun _=>(by kernel_rfl)) (zh (fun w I=>ph (li (fv:=yfn lqq5096) [iv 2,.agg #[.slice P ((qc f a).length) (q - 0),.slice aA ((qb f a).length) (q - (qd f a))]] rfl (by kernel_rfl) ?_))))
 have I:=I.pk [0,1,2,3,4,5,6,7,8,9,10,11] rfl rfl
 refine eu I hofq5096 [18,19] hpsq5096 rfl (by decide) ?_
 rw [hasq5096]
 refine ab (rgn (by kernel_rfl) (pu (iv 2) (by kernel_rfl) (aa (rgn (by kernel_rfl) (ph (bh I _ zeroValue179 rfl fun aI w I=>ph (mb I 0 _ zs179 rfl rfl rfl rfl rfl rfl fun w I=>aa (⟨rfl,_,I.pk [1,0,2,3,4,5,6,7,8,9,10,11,12] rfl rfl,?_⟩))))))))
 intro w I
 rw [hboq5096]
 refine au (ab (rgn (by kernel_rfl) (pu (.pointer (some ⟨aI,1,none⟩)) (by kernel_rfl) (ph (ag I 1 (.slice aA ((qb f a).length) (q - (qd f a))) mq rfl rfl rfl (ph (ag I 8 (.func (.func 158) #[] #[pt t,pt x]) zi180 rfl rfl rfl (bt F (fun a7 cH F=>ph (co 122 [.slice aA ((qb f a).length) (q - (qd f a)),.func (.func 158) #[] #[pt t,pt x]] (by kernel_rfl) (L122 N _ t x aA (q - (qd f a)) (qb f a) R S J aU (I.lend [6,7] (by decide) rfl rfl) (I.apartL0 [6,7] rfl rfl hC6605) (cut_big bH bS) (cut_cap bH aP) (I.apartL0 [6,7] rfl rfl aQ) aR aS _ cH) ?_))))))))))
 rintro v w ⟨a4,aE,bI,hv,hN,bJ⟩
 subst hv
 have I:=I.backsL [6,7] [0,1,2,3,4,5,8,9,10,11,12] (by decide) rfl rfl rfl hN; clear hN
 refine pu (slv a4 a7.1.length aE) (by kernel_rfl) (aa (ab (rgn (by kernel_rfl) (pu (iv 2) (by kernel_rfl) (ph (ag I 10 (iv a5) zi3 rfl rfl rfl (ifE F (fun bK F=>?_) (fun bK F=>?_))))))))
 ·
  refine ph (de rfl rfl (fun h=>absurd bK h) (fun _=>aa (ai rfl (ak (⟨_,I.pk [3,0,1,2,4,5,6,7,8,9,10,11,12,13] rfl rfl,fun w I=>?_⟩)))))
  refine pu bF (by kernel_rfl) (aa (ai rfl (ak (rgn (by kernel_rfl) (pu2 (iv 3) (iv 3) (by kernel_rfl) (aa (⟨rfl,lh ?_⟩)))))))
  refine ab (rgn (by kernel_rfl) (ph (cm rfl rfl (fun h=>absurd h (by decide)) (fun _=>aa (ab (ai rfl (bw (⟨.tuple #[],Ret.r0 rfl,?_⟩))))))))
  refine ⟨_,.inl ⟨I.pk [0,1,2,3,4,5,6,7,8,9,10,11,12,13] rfl rfl,fun w I=>?_⟩⟩
  refine ab (rgn (by kernel_rfl) (ph (ma I 11 mt mi rfl rfl rfl (ph (mb I 8 _ mi rfl rfl rfl rfl rfl rfl fun w I=>aa (aj (cf.mark (D:=rcq5096.defers) (I.pk [6,0,1,2,3,4,5,7,8,9,10,11,12,13] rfl rfl) ?_)))))))
  intro w I
  have I:=I.nilRow 35
  cases F
  exact ⟨_,Ret.c rfl rfl (ce I 8 6 [slv A H.length K,slv Q Y.length V,.slice none 0 0,iv L,iv a6,iv 0] mt mi rfl rfl rfl),⟨A,K,aB,Q,V,aG,none,0,[],rfl,I.pk [12,13,0] rfl rfl,bX.to rfl rfl,c0.to rfl rfl,Row.nil_ 3⟩⟩
 refine ph (de rfl rfl (fun _=>?_) (fun h=>absurd h bK))
 refine aa (ah rfl (bt F (fun a1 cI F=>kx [tv (fun _=>(iv 2)),tv (fun _=>(iv 2)),tv (fun _=>(pt aI)),tr (fun _=>(.slice P ((qc f a).length) (q - 0))) [20],tv (fun _=>(slv a4 a7.1.length aE)),⟨fun y=>(.slice (some ⟨(y 5).b,0,none⟩) 2 2),fun y=>[(some (y 5).b,blk [.slice P ((qc f a).length) (q - 0),slv a4 a7.1.length aE] 38)],fun _=>True,[],[]⟩,⟨fun y=>(slv ((y 6).g 0) a1.length ((y 6).c 0)),fun y=>[(((y 6).g 0),blk ((y 6).cl 0) 35)],fun y=>(Row 3 ((y 6).g 0) a1.length ((y 6).c 0) ((y 6).cl 0) (al bb a1)),[],[5,16]⟩,tv (fun _=>(pt aI)),tr (fun _=>(.slice P ((qc f a).length) (q - 0))) [20],tv (fun _=>(iv ((qc f a).length:Int))),tv (fun _=>(pt s)),tv (fun _=>(.pointer (some ⟨s,2,none⟩))),tst (fun y=>[(some s,blk [slv A H.length K,slv Q Y.length V,slv ((y 6).g 0) a1.length ((y 6).c 0),iv L,iv a6,iv 0] 63)]) 27,tv (fun _=>(.pointer (some ⟨s,3,none⟩))),tv (fun _=>(.pointer (some ⟨s,5,none⟩))),tst (fun y=>[(some s,blk [slv A H.length K,slv Q Y.length V,slv ((y 6).g 0) a1.length ((y 6).c 0),iv L,iv a6,iv ((qc f a).length:Int)] 63)]) 12] (fun _=>[]) (fun y=>[(some (y 5).b,blk [.slice P ((qc f a).length) (q - 0),slv a4 a7.1.length aE] 38),(((y 6).g 0),blk ((y 6).cl 0) 35),(some s,blk [slv A H.length K,slv Q Y.length V,slv ((y 6).g 0) a1.length ((y 6).c 0),iv L,iv a6,iv ((qc f a).length:Int)] 63),(a4,blk bI 35),(some t,blk [.slice R J.length S] 64),(some x,blk [iv a7.2] 3),(some lqq5096,rcq5096.at .busy none),(some aI,blk [.slice P ((qc f a).length) (q - 0),.slice aA ((qb f a).length) (q - (qd f a))] 179),(some G,blk [.slice B m.length o,.slice C i.length p,.slice E f.length q,iv e,iv d,iv a] 63),(some rcq5096.defers,.deferred (some [])),(some aJ,blk [.slice B m.length o,.slice C i.length p,.slice E f.length q,iv e,iv d,iv a] 63),(some aK,blk [.slice none 0 0,.slice none 0 0,.slice none 0 0,iv 0,iv 0,iv 0] 63),(some aL,blk [.func (.func 158) #[] #[pt t,pt x]] 180),(some aM,blk [iv a5] 3),(A,blk aB 35),(Q,blk aG 35)]) I (by kernel_rfl) (fun y=>⟨(by kernel_rfl),(by kernel_rfl)⟩) (fun y=>?_) ?_)))
 ·
  refine tp rfl (fun _=>(by kernel_rfl)) (tp rfl (fun _=>(by kernel_rfl)) (tp rfl (fun _=>(by kernel_rfl)) (tl1 [(some aI,blk [.slice P ((qc f a).length) (q - 0),.slice aA ((qb f a).length) (q - (qd f a))] 179)] rfl (by kernel_rfl) (fun X w I=>ag I 0 (.slice P ((qc f a).length) (q - 0)) mq rfl rfl rfl br) (tp rfl (fun _=>(by kernel_rfl)) (tg (.slice (some ⟨(y 5).b,0,none⟩) 2 2) [] [] rfl ⟨(by kernel_rfl),(by kernel_rfl),(by kernel_rfl)⟩ ?_ ?_)))))
  ·intro hp X w I
   refine fu I [.slice P ((qc f a).length) (q - 0),slv a4 a7.1.length aE] 38 (fun b=>slv (some b) 2 2) (by kernel_rfl) fun c2 w I=>⟨wit c2 [] [] [] [],(by kernel_rfl),trivial,I.castL (by kernel_rfl)⟩
  refine tg (slv ((y 6).g 0) a1.length ((y 6).c 0)) [(some (y 5).b,blk [.slice P ((qc f a).length) (q - 0),slv a4 a7.1.length aE] 38),(a4,blk bI 35)] [(some (y 5).b,blk [.slice P ((qc f a).length) (q - 0),slv a4 a7.1.length aE] 38),(a4,blk bI 35)] rfl ⟨(by kernel_rfl),(by kernel_rfl),(by kernel_rfl)⟩ ?_ ?_
  ·intro hp X w I
   refine co 123 _ (by kernel_rfl) (L123 _ (some ⟨(y 5).b,0,none⟩) 2 [(f.drop 0).take ((qd f a) - 0),a7.1] [(⟨(f.drop 0).take ((qd f a) - 0),P,q - 0⟩:Dst),(⟨a7.1,(a4.map fun b=>⟨b,0,none⟩),aE⟩:Dst)] (I.cells 0 (off:=0) rfl (fun j u h=>by rw [Nat.zero_add]; exact h)) rfl (fa_cons ⟨(hC6603.inv0 I),(cut_big bG bS),(cut_cap bG aP)⟩ (fa_cons ⟨(I.rowCells 1 rfl bJ),am rfl bJ.big,am rfl bJ.cap⟩ fa_nil)) (mx rfl) (Nat.le_refl _) N _ cI) ?_
   rintro v w ⟨aV,aW,bL,rfl,hN,bM⟩
   have I:=I.join hN; clear hN
   exact ⟨wit 0 [aV] [aW] [bL] [],(by kernel_rfl),Eq.mp (by kernel_rfl) bM,I.castL (by kernel_rfl)⟩
  refine tp rfl (fun _=>(by kernel_rfl)) (tl1 [(some aI,blk [.slice P ((qc f a).length) (q - 0),.slice aA ((qb f a).length) (q - (qd f a))] 179)] rfl (by kernel_rfl) (fun X w I=>ag I 0 (.slice P ((qc f a).length) (q - 0)) mq rfl rfl rfl br) (tp rfl (fun _=>(by kernel_rfl)) (tp rfl (fun _=>(by kernel_rfl)) (tp rfl (fun _=>(by kernel_rfl)) (tS [(some s,blk [slv A H.length K,slv Q Y.length V,.slice none 0 0,iv L,iv a6,iv 0] 63)] rfl ⟨(by kernel_rfl),(by kernel_rfl)⟩ (fun X w I=>aq I 0 1 [slv ((y 6).g 0) a1.length ((y 6).c 0)] mw rfl rfl rfl rfl rfl (mx rfl) fun w I=>⟨rfl,I.castL (by kernel_rfl)⟩) (tp rfl (fun _=>(by kernel_rfl)) (tp rfl (fun _=>(by kernel_rfl)) (tS [(some s,blk [slv A H.length K,slv Q Y.length V,slv ((y 6).g 0) a1.length ((y 6).c 0),iv L,iv a6,iv 0] 63)] rfl ⟨(by kernel_rfl),(by kernel_rfl)⟩ (fun X w I=>aq I 0 1 [iv ((qc f a).length:Int)] zs3 rfl rfl rfl rfl rfl (mx rfl) fun w I=>⟨rfl,I.castL (by kernel_rfl)⟩) (tn)))))))))
 intro y hp ρ w hag I
 have bM:Row 3 ((y 6).g 0) a1.length ((y 6).c 0) ((y 6).cl 0) (al bb a1):=pgl hp (k:=6) (by decide) (by kernel_rfl)
 clear hp
 generalize (y 5).b=c2 at *
 generalize (y 6).g 0=aV at *
 generalize (y 6).c 0=aW at *
 generalize (y 6).cl 0=bL at *
 obtain ⟨ρ,rfl⟩:=hag.form; clear hag
 refine ⟨_,I.pk [6,0,1,2,3,4,5,7,8,9,10,11,12,13,14,15] rfl rfl,fun w I=>?_⟩
 refine pu bF (by kernel_rfl) (aa (ai rfl (ak (rgn (by kernel_rfl) (pu2 (iv 3) (iv 3) (by kernel_rfl) (aa (⟨rfl,lh ?_⟩)))))))
 refine ab (rgn (by kernel_rfl) (ph (cm rfl rfl (fun h=>absurd h (by decide)) (fun _=>aa (ab (ai rfl (bw (⟨.tuple #[],Ret.r0 rfl,?_⟩))))))))
 refine ⟨_,.inl ⟨I.pk [0,1,2,3,4,5,6,7,8,9,10,11,12,13,14,15] rfl rfl,fun w I=>?_⟩⟩
 refine ab (rgn (by kernel_rfl) (ph (ma I 3 mt mi rfl rfl rfl (ph (mb I 11 _ mi rfl rfl rfl rfl rfl rfl fun w I=>aa (aj (cf.mark (D:=rcq5096.defers) (I.pk [9,0,1,2,3,4,5,6,7,8,10,11,12,13,14,15] rfl rfl) ?_)))))))
 intro w I
 cases F
 exact ⟨_,Ret.c rfl rfl (ce I 10 6 [slv A H.length K,slv Q Y.length V,slv aV a1.length aW,iv L,iv a6,iv ((qc f a).length:Int)] mt mi rfl rfl rfl),⟨A,K,aB,Q,V,aG,aV,aW,bL,rfl,I.pk [13,14,2] rfl rfl,bX.to rfl rfl,c0.to rfl rfl,bM.to rfl rfl⟩⟩

set_option maxHeartbeats 8000000 in
theorem L49 (w0:World) (a:Int) (r:(Int × List Sp3 × List Sp3 × List Sp3 × Int × Int × Int × List Rc × Int × Int × Int × Int × Int × Int × Int × Int × Int × Int × Int × Int × Int × Int × Int × Int × Int × Int × Int × Int × Int × Int × Int × Int × Int × Int × Int × Int × Int × Int × Int × Int × Int × Int × Int × Int × Int)) (F:F49 a=some r):bn Tryz.prog 49 [iv a] w0 fun v w=>∃ (z0:Option Nat) (z1:Nat) (z2:List Value) (z3:Option Nat) (z4:Nat) (z5:List Value) (z6:Option Nat) (z7:Nat) (z8:List Value) (z9:Option Nat) (b:Nat) (d:List Value),v=.tuple #[.agg #[iv r.1,slv z0 r.2.1.length z1,slv z3 r.2.2.1.length z4,slv z6 r.2.2.2.1.length z7,iv r.2.2.2.2.1,iv r.2.2.2.2.2.1,iv r.2.2.2.2.2.2.1,slv z9 r.2.2.2.2.2.2.2.1.length b,iv r.2.2.2.2.2.2.2.2.1,iv r.2.2.2.2.2.2.2.2.2.1,iv r.2.2.2.2.2.2.2.2.2.2.1,iv r.2.2.2.2.2.2.2.2.2.2.2.1,iv r.2.2.2.2.2.2.2.2.2.2.2.2.1,iv r.2.2.2.2.2.2.2.2.2.2.2.2.2.1,iv r.2.2.2.2.2.2.2.2.2.2.2.2.2.2.1,iv r.2.2.2.2.2.2.2.2.2.2.2.2.2.2.2.1,iv r.2.2.2.2.2.2.2.2.2.2.2.2.2.2.2.2.1,iv r.2.2.2.2.2.2.2.2.2.2.2.2.2.2.2.2.2.1,iv r.2.2.2.2.2.2.2.2.2.2.2.2.2.2.2.2.2.2.1,iv r.2.2.2.2.2.2.2.2.2.2.2.2.2.2.2.2.2.2.2.1,iv r.2.2.2.2.2.2.2.2.2.2.2.2.2.2.2.2.2.2.2.2.1,iv r.2.2.2.2.2.2.2.2.2.2.2.2.2.2.2.2.2.2.2.2.2.1,iv r.2.2.2.2.2.2.2.2.2.2.2.2.2.2.2.2.2.2.2.2.2.2.1,iv r.2.2.2.2.2.2.2.2.2.2.2.2.2.2.2.2.2.2.2.2.2.2.2.1,iv r.2.2.2.2.2.2.2.2.2.2.2.2.2.2.2.2.2.2.2.2.2.2.2.2.1,iv r.2.2.2.2.2.2.2.2.2.2.2.2.2.2.2.2.2.2.2.2.2.2.2.2.2.1,iv r.2.2.2.2.2.2.2.2.2.2.2.2.2.2.2.2.2.2.2.2.2.2.2.2.2.2.1,iv r.2.2.2.2.2.2.2.2.2.2.2.2.2.2.2.2.2.2.2.2.2.2.2.2.2.2.2.1,iv r.2.2.2.2.2.2.2.2.2.2.2.2.2.2.2.2.2.2.2.2.2.2.2.2.2.2.2.2.1,iv r.2.2.2.2.2.2.2.2.2.2.2.2.2.2.2.2.2.2.2.2.2.2.2.2.2.2.2.2.2.1,iv r.2.2.2.2.2.2.2.2.2.2.2.2.2.2.2.2.2.2.2.2.2.2.2.2.2.2.2.2.2.2.1,iv r.2.2.2.2.2.2.2.2.2.2.2.2.2.2.2.2.2.2.2.2.2.2.2.2.2.2.2.2.2.2.2.1,iv r.2.2.2.2.2.2.2.2.2.2.2.2.2.2.2.2.2.2.2.2.2.2.2.2.2.2.2.2.2.2.2.2.1,iv r.2.2.2.2.2.2.2.2.2.2.2.2.2.2.2.2.2.2.2.2.2.2.2.2.2.2.2.2.2.2.2.2.2.1,iv r.2.2.2.2.2.2.2.2.2.2.2.2.2.2.2.2.2.2.2.2.2.2.2.2.2.2.2.2.2.2.2.2.2.2.1,iv r.2.2.2.2.2.2.2.2.2.2.2.2.2.2.2.2.2.2.2.2.2.2.2.2.2.2.2.2.2.2.2.2.2.2.2.1,iv r.2.2.2.2.2.2.2.2.2.2.2.2.2.2.2.2.2.2.2.2.2.2.2.2.2.2.2.2.2.2.2.2.2.2.2.2.1,iv r.2.2.2.2.2.2.2.2.2.2.2.2.2.2.2.2.2.2.2.2.2.2.2.2.2.2.2.2.2.2.2.2.2.2.2.2.2.1,iv r.2.2.2.2.2.2.2.2.2.2.2.2.2.2.2.2.2.2.2.2.2.2.2.2.2.2.2.2.2.2.2.2.2.2.2.2.2.2.1,iv r.2.2.2.2.2.2.2.2.2.2.2.2.2.2.2.2.2.2.2.2.2.2.2.2.2.2.2.2.2.2.2.2.2.2.2.2.2.2.2.1,iv r.2.2.2.2.2.2.2.2.2.2.2.2.2.2.2.2.2.2.2.2.2.2.2.2.2.2.2.2.2.2.2.2.2.2.2.2.2.2.2.2.1,iv r.2.2.2.2.2.2.2.2.2.2.2.2.2.2.2.2.2.2.2.2.2.2.2.2.2.2.2.2.2.2.2.2.2.2.2.2.2.2.2.2.2.1,iv r.2.2.2.2.2.2.2.2.2.2.2.2.2.2.2.2.2.2.2.2.2.2.2.2.2.2.2.2.2.2.2.2.2.2.2.2.2.2.2.2.2.2.1,iv r.2.2.2.2.2.2.2.2.2.2.2.2.2.2.2.2.2.2.2.2.2.2.2.2.2.2.2.2.2.2.2.2.2.2.2.2.2.2.2.2.2.2.2.1],iv r.2.2.2.2.2.2.2.2.2.2.2.2.2.2.2.2.2.2.2.2.2.2.2.2.2.2.2.2.2.2.2.2.2.2.2.2.2.2.2.2.2.2.2.2]∧Inv [] w0 w [(z0,blk z2 35),(z3,blk z5 35),(z6,blk z8 35),(z9,blk d 25)]∧Row 3 z0 r.2.1.length z1 z2 (al bb r.2.1)∧Row 3 z3 r.2.2.1.length z4 z5 (al bb r.2.2.1)∧Row 3 z6 r.2.2.2.1.length z7 z8 (al bb r.2.2.2.1)∧Row 8 z9 r.2.2.2.2.2.2.2.1.length b d (al eRc r.2.2.2.2.2.2.2.1):=by
 refine az (n:=10) func49 rfl ntmps49 rfl ?_
 have I:=Inv.start w0
 unfold F49 at F
 refine ab (rgn (by kernel_rfl) (ph (bh I _ zeroValue81 rfl fun f w I=>pu (iv 0) (by kernel_rfl) (aa (ab (ab (rgn (by kernel_rfl) (pu (iv a) (by kernel_rfl) (bt F (fun g e F=>ifN F (fun h8 F=>?_) (fun h8 F=>?_)))))))))))
 ·
  refine ph (bg I 126 _ _ (by kernel_rfl) (bn.mono (L126 _ a _ e) (fun v' w' h=>⟨h.1.trans (congrArg Value.bool (Bool.eq_false_iff.2 h8)),h.2⟩)) fun w I=>pu bT (by kernel_rfl) (aa (ah rfl (ab (rgn (by kernel_rfl) (pu (.agg qe.toArray) (by kernel_rfl) (ph (mb I 0 _ ml rfl rfl rfl rfl rfl rfl fun w I=>pu (iv 1) (by kernel_rfl) (aa (aj ?_))))))))))
  have I:=I.nilRow 35
  have I:=I.nilRow 35
  have I:=I.nilRow 35
  have I:=I.nilRow 25
  cases F
  exact ⟨_,Ret.ct rfl rfl (ce I 4 44 qe mu ml rfl (by kernel_rfl) (by kernel_rfl)) rfl,⟨none,0,[],none,0,[],none,0,[],none,0,[],rfl,I.pk [1,2,3,0] rfl rfl,Row.nil_ 3,Row.nil_ 3,Row.nil_ 3,Row.nil_ 8⟩⟩


 refine ph (bg I 126 _ _ (by kernel_rfl) (bn.mono (L126 _ a _ e) (fun v' w' h=>⟨h.1.trans (congrArg Value.bool h8),h.2⟩)) fun w I=>pu bF (by kernel_rfl) (aa (ai rfl (ak (ab (rgn (by kernel_rfl) (pu2 (iv a) (.agg #[iv a,.slice none 0 0,.slice none 0 0,.slice none 0 0,iv 0,iv 0,iv 0,.slice none 0 0,iv 0,iv 0,iv 0,iv 0,iv 0,iv 0,iv 0,iv 0,iv 0,iv 0,iv 0,iv 0,iv 0,iv 0,iv 0,iv 0,iv 0,iv 0,iv 0,iv 0,iv 0,iv 0,iv 0,iv 0,iv 0,iv 0,iv 0,iv 0,iv 0,iv 0,iv 0,iv 0,iv 0,iv 0,iv 0,iv 0]) (by kernel_rfl) (ph (mb I 0 _ ml rfl rfl rfl rfl rfl rfl fun w I=>pu (iv 0) (by kernel_rfl) (aa (aj ?_)))))))))))
 have I:=I.nilRow 35
 have I:=I.nilRow 35
 have I:=I.nilRow 35
 have I:=I.nilRow 25
 cases F
 exact ⟨_,Ret.ct rfl rfl (ce I 4 44 [iv a,.slice none 0 0,.slice none 0 0,.slice none 0 0,iv 0,iv 0,iv 0,.slice none 0 0,iv 0,iv 0,iv 0,iv 0,iv 0,iv 0,iv 0,iv 0,iv 0,iv 0,iv 0,iv 0,iv 0,iv 0,iv 0,iv 0,iv 0,iv 0,iv 0,iv 0,iv 0,iv 0,iv 0,iv 0,iv 0,iv 0,iv 0,iv 0,iv 0,iv 0,iv 0,iv 0,iv 0,iv 0,iv 0,iv 0] mu ml rfl (by kernel_rfl) (by kernel_rfl)) rfl,⟨none,0,[],none,0,[],none,0,[],none,0,[],rfl,I.pk [1,2,3,0] rfl rfl,Row.nil_ 3,Row.nil_ 3,Row.nil_ 3,Row.nil_ 8⟩⟩
theorem L128 (w0:World) (aC:Int) (aE:Option Addr) (aF:Nat) (a2:List Sp3) (aG:Option Addr) (aH:Nat) (a3:List Sp3) (aI:Option Addr) (aJ:Nat) (a4:List Sp3) (aK:Int) (aL:Int) (aM:Int) (aN:Option Addr) (aO:Nat) (a5:List Rc) (a:Int) (b:Int) (d:Int) (e:Int) (f:Int) (g:Int) (i:Int) (j:Int) (k:Int) (l:Int) (o:Int) (p:Int) (q:Int) (s:Int) (t:Int) (u:Int) (x:Int) (y:Int) (z:Int) (A:Int) (B:Int) (C:Int) (D:Int) (E:Int) (G:Int) (H:Int) (J:Int) (K:Int) (L:Int) (M:Int) (O:Int) (P:Int) (Q:Int) (R:Int) (S:Int) (T:Int) (hG:Gl w0) (eM:bi w0 aE (al bb a2)) (eN:a2.length≤9223372036854775807) (eO:a2.length≤aF) (eP:bi w0 aG (al bb a3)) (eQ:a3.length≤9223372036854775807) (eR:a3.length≤aH) (eS:bi w0 aI (al bb a4)) (eT:a4.length≤9223372036854775807) (eU:a4.length≤aJ) (eV:bi w0 aN (al eRc a5)) (eW:a5.length≤9223372036854775807) (eX:a5.length≤aO) (N:Nat) (r:Int) (F:F128 N aC a2 a3 a4 aK aL aM a5 a b d e f g i j k l o p q s t u x y z A B C D E G H J K L M O P Q R S T=some r):bn Tryz.prog 128 [.agg #[iv aC,.slice aE a2.length aF,.slice aG a3.length aH,.slice aI a4.length aJ,iv aK,iv aL,iv aM,.slice aN a5.length aO,iv a,iv b,iv d,iv e,iv f,iv g,iv i,iv j,iv k,iv l,iv o,iv p,iv q,iv s,iv t,iv u,iv x,iv y,iv z,iv A,iv B,iv C,iv D,iv E,iv G,iv H,iv J,iv K,iv L,iv M,iv O,iv P,iv Q,iv R,iv S,iv T]] w0 fun v w=>v=iv r∧Below w0.heap.size w0 w:=by
 refine az (n:=37) func128 rfl ntmps128 rfl ?_
 have I:=Inv.start w0
 unfold F128 at F
 refine ab (rgn (by kernel_rfl) (ph (ca I _ rfl fun aD w I=>pu (iv 0) (by kernel_rfl) (aa (dn (fun ρ w=>∃ (aP:Bool),cd ρ [(1,pt aD),(3,.bool aP)]∧Inv [] w0 w [(some aD,blk [iv aC,.slice aE a2.length aF,.slice aG a3.length aH,.slice aI a4.length aJ,iv aK,iv aL,iv aM,.slice aN a5.length aO,iv a,iv b,iv d,iv e,iv f,iv g,iv i,iv j,iv k,iv l,iv o,iv p,iv q,iv s,iv t,iv u,iv x,iv y,iv z,iv A,iv B,iv C,iv D,iv E,iv G,iv H,iv J,iv K,iv L,iv M,iv O,iv P,iv Q,iv R,iv S,iv T] 81)]∧F128j1 a b d e f g i j k l o p q s t u x y z A B C D E G H J K L M O P Q R S T N aP=some r) ?_ ?_)))))
 ·
  refine rgn (by kernel_rfl) (pu (pt aD) (by kernel_rfl) (ph (ag I 0 (iv aC) zi3 rfl rfl rfl (bt F (fun fA cE F=>ifN F (fun b1 F=>?_) (fun b1 F=>?_))))))
  ·
   refine ph (bg I 126 _ _ (by kernel_rfl) (bn.mono (L126 _ aC _ cE) (fun v' w' h=>⟨h.1.trans (congrArg Value.bool (Bool.eq_false_iff.2 b1)),h.2⟩)) fun w I=>pu bF (by kernel_rfl) (sf 6 (by kernel_rfl) (pu2 bF bF (by kernel_rfl) (aa (.inl ⟨rfl,⟨false,⟨rfl,rfl,trivial⟩,I.pk [0] rfl rfl,F⟩⟩)))))
  refine ph (bg I 126 _ _ (by kernel_rfl) (bn.mono (L126 _ aC _ cE) (fun v' w' h=>⟨h.1.trans (congrArg Value.bool b1),h.2⟩)) fun w I=>pu bT (by kernel_rfl) (pup (.pointer (some ⟨aD,1,none⟩)) (by kernel_rfl) (aw (by kernel_rfl) (ar I 0 6 [.slice aE a2.length aF,.slice aG a3.length aH,.slice aI a4.length aJ,iv aK,iv aL,iv aM] mt mi rfl rfl rfl rfl (pup (.pointer (some ⟨aD,7,none⟩)) (by kernel_rfl) (aw (by kernel_rfl) (ag I 0 (.slice aN a5.length aO) mv rfl rfl rfl (bt F (fun fB eY F=>aw (by kernel_rfl) (bg I 47 _ _ (by kernel_rfl) (L47 _ aE aF a2 aG aH a3 aI aJ a4 aK aL aM aN aO a5 (hG.up I) (eM.inv0 I) eN eO (eP.inv0 I) eQ eR (eS.inv0 I) eT eU (eV.inv0 I) eW eX N _ eY) fun w I=>ifE F (fun b2 F=>?_) (fun b2 F=>?_)))))))))))
  ·
   refine aw (by kernel_rfl) (di rfl rfl (fun _=>?_) (fun h=>absurd b2 h))
   refine pu2 bT bT (by kernel_rfl) (aa (.inl ⟨rfl,⟨true,⟨rfl,rfl,trivial⟩,I.pk [0] rfl rfl,F⟩⟩))
  refine aw (by kernel_rfl) (di rfl rfl (fun h=>absurd h b2) (fun _=>pu2 bF bF (by kernel_rfl) (aa (.inl ⟨rfl,⟨false,⟨rfl,rfl,trivial⟩,I.pk [0] rfl rfl,F⟩⟩))))
 intro ρ w hJ
 obtain ⟨aP,hag,I,F⟩:=hJ
 obtain ⟨ρ,rfl⟩:=hag.form; clear hag
 unfold F128j1 at F
 refine dn (fun ρ w=>∃ (aQ:Bool),cd ρ [(3,.bool aQ)]∧Inv [] w0 w []∧F128j2 aQ=some r) ?_ ?_
 ·
  refine ab (rgn (by kernel_rfl) (pu (.pointer (some ⟨aD,8,none⟩)) (by kernel_rfl) (ph (ar I 0 36 [iv a,iv b,iv d,iv e,iv f,iv g,iv i,iv j,iv k,iv l,iv o,iv p,iv q,iv s,iv t,iv u,iv x,iv y,iv z,iv A,iv B,iv C,iv D,iv E,iv G,iv H,iv J,iv K,iv L,iv M,iv O,iv P,iv Q,iv R,iv S,iv T] zi79 zs79 rfl rfl rfl rfl (pu (iv 0) (by kernel_rfl) (aa (au (cb (fun m ρ w=>∃ (V:Bool) (U:Int) (mm:Nat),cd ρ [(3,.bool V),(20,.agg #[iv a,iv b,iv d,iv e,iv f,iv g,iv i,iv j,iv k,iv l,iv o,iv p,iv q,iv s,iv t,iv u,iv x,iv y,iv z,iv A,iv B,iv C,iv D,iv E,iv G,iv H,iv J,iv K,iv L,iv M,iv O,iv P,iv Q,iv R,iv S,iv T]),(21,iv U)]∧Inv [] w0 w []∧pj a b d e f g i j k l o p q s t u x y z A B C D E G H J K L M O P Q R S T N mm V U=some r∧mm=m) (m:=N) ⟨aP,0,N,⟨rfl,rfl,rfl,trivial⟩,I.pk [] rfl rfl,F,rfl⟩ ?_))))))))
  rintro m ρ w ⟨V,U,mm,hag,I,F,hm⟩
  subst hm; obtain ⟨ρ,rfl⟩:=hag.form; clear hag
  obtain _ | m3:=mm
  ·cases (show (none:Option Int)=some r from F)
  replace F:F128b3 a b d e f g i j k l o p q s t u x y z A B C D E G H J K L M O P Q R S T N (pj a b d e f g i j k l o p q s t u x y z A B C D E G H J K L M O P Q R S T N m3) V U=some r:=F; unfold F128b3 at F
  refine ab (rgn (by kernel_rfl) (ifN F (fun b3 F=>?_) (fun b3 F=>?_)))
  ·
   refine ph (cm rfl rfl (fun h=>absurd h b3) (fun _=>aa (ab (ai rfl (bw (.inl ⟨rfl,⟨V,⟨rfl,trivial⟩,I.pk [] rfl rfl,F⟩⟩))))))
  refine ph (cm rfl rfl (fun _=>?_) (fun h=>absurd b3 h))
  refine aa (ab (ah rfl (ak (dn (fun ρ w=>∃ (aR:Bool),cd ρ [(3,.bool aR),(20,.agg #[iv a,iv b,iv d,iv e,iv f,iv g,iv i,iv j,iv k,iv l,iv o,iv p,iv q,iv s,iv t,iv u,iv x,iv y,iv z,iv A,iv B,iv C,iv D,iv E,iv G,iv H,iv J,iv K,iv L,iv M,iv O,iv P,iv Q,iv R,iv S,iv T]),(21,iv U)]∧Inv [] w0 w []∧F128j4 (pj a b d e f g i j k l o p q s t u x y z A B C D E G H J K L M O P Q R S T N m3) U aR=some r) ?_ ?_))))
  ·
   refine au (ab (rgn (by kernel_rfl) (ifE F (fun cF F=>?_) (fun cF F=>?_))))
   ·
    refine ph (bm 0 (.agg #[iv a,iv b,iv d,iv e,iv f,iv g]) rfl cF (by kernel_rfl) (ph (bh I _ zeroValue54 rfl fun fC w I=>ph (mb I 0 _ mo rfl rfl rfl rfl rfl rfl fun w I=>aa (ab (rgn (by kernel_rfl) (ph (ma I 0 zi54 mo rfl rfl rfl (pu (iv 0) (by kernel_rfl) (aa (au (cb (fun m ρ w=>∃ (W:Bool) (a6:Int) (mm:Nat),cd ρ [(3,.bool W),(20,.agg #[iv a,iv b,iv d,iv e,iv f,iv g,iv i,iv j,iv k,iv l,iv o,iv p,iv q,iv s,iv t,iv u,iv x,iv y,iv z,iv A,iv B,iv C,iv D,iv E,iv G,iv H,iv J,iv K,iv L,iv M,iv O,iv P,iv Q,iv R,iv S,iv T]),(21,iv U),(24,.agg #[iv a,iv b,iv d,iv e,iv f,iv g]),(25,iv a6)]∧Inv [] w0 w []∧F128l5 a b d e f g (pj a b d e f g i j k l o p q s t u x y z A B C D E G H J K L M O P Q R S T N m3) U mm W a6=some r∧mm=m) (m:=N) ⟨V,0,N,⟨rfl,rfl,rfl,rfl,rfl,trivial⟩,I.pk [] rfl rfl,F,rfl⟩ ?_))))))))))))
    rintro m ρ w ⟨W,a6,mm,hag,I,F,hm⟩
    subst hm; obtain ⟨ρ,rfl⟩:=hag.form; clear hag
    obtain _ | m5:=mm
    ·cases (show (none:Option Int)=some r from F)
    replace F:F128b5 a b d e f g (pj a b d e f g i j k l o p q s t u x y z A B C D E G H J K L M O P Q R S T N m3) U (F128l5 a b d e f g (pj a b d e f g i j k l o p q s t u x y z A B C D E G H J K L M O P Q R S T N m3) U m5) W a6=some r:=F; unfold F128b5 at F
    refine ab (rgn (by kernel_rfl) (ifN F (fun b4 F=>?_) (fun b4 F=>?_)))
    ·
     refine ph (cm rfl rfl (fun h=>absurd h b4) (fun _=>aa (ab (ai rfl (bw (.inl ⟨rfl,⟨W,⟨rfl,rfl,rfl,trivial⟩,I.pk [] rfl rfl,F⟩⟩))))))
    refine ph (cm rfl rfl (fun _=>?_) (fun h=>absurd b4 h))
    refine aa (ab (ah rfl (ak (dn (fun ρ w=>∃ (aS:Bool),cd ρ [(3,.bool aS),(20,.agg #[iv a,iv b,iv d,iv e,iv f,iv g,iv i,iv j,iv k,iv l,iv o,iv p,iv q,iv s,iv t,iv u,iv x,iv y,iv z,iv A,iv B,iv C,iv D,iv E,iv G,iv H,iv J,iv K,iv L,iv M,iv O,iv P,iv Q,iv R,iv S,iv T]),(21,iv U),(24,.agg #[iv a,iv b,iv d,iv e,iv f,iv g]),(25,iv a6)]∧Inv [] w0 w []∧ld (F128l5 a b d e f g (pj a b d e f g i j k l o p q s t u x y z A B C D E G H J K L M O P Q R S T N m3) U m5) a6 aS=some r) ?_ ?_))))
    ·
     refine au (ab (rgn (by kernel_rfl) (ifE F (fun cG F=>?_) (fun cG F=>?_))))
     ·
      refine ph (bm 0 (iv a) rfl cG (by kernel_rfl) (pu (iv a) (by kernel_rfl) (aa ?_)))
      have hG:=F; rcases Bool.eq_false_or_eq_true W with rfl | rfl
      ·
       have F:=hG; clear hG
       refine ifE F (fun _ F=>?_) (fun h=>absurd rfl h)
       refine rgn (by kernel_rfl) (pu2 bT bT (by kernel_rfl) (pup (iv a) (by kernel_rfl) (bt F (fun fD cH F=>ifE F (fun b5 F=>?_) (fun b5 F=>?_)))))
       ·
        refine aw (by kernel_rfl) (bg I 76 _ _ (by kernel_rfl) (bn.mono (L76 _ a 0 60 _ cH) (fun v' w' h=>⟨h.1.trans (congrArg Value.bool b5),h.2⟩)) fun w I=>pu2 bT bT (by kernel_rfl) (aa (.inl ⟨rfl,⟨true,⟨rfl,rfl,rfl,rfl,rfl,trivial⟩,I.pk [] rfl rfl,F⟩⟩)))
       refine aw (by kernel_rfl) (bg I 76 _ _ (by kernel_rfl) (bn.mono (L76 _ a 0 60 _ cH) (fun v' w' h=>⟨h.1.trans (congrArg Value.bool (Bool.eq_false_iff.2 b5)),h.2⟩)) fun w I=>pu2 bF bF (by kernel_rfl) (aa (.inl ⟨rfl,⟨false,⟨rfl,rfl,rfl,rfl,rfl,trivial⟩,I.pk [] rfl rfl,F⟩⟩)))
      have F:=hG; clear hG
      refine ifE F (fun h=>absurd h (by decide)) (fun _ F=>rgn (by kernel_rfl) (pu2 bF bF (by kernel_rfl) (sf 2 (by kernel_rfl) (pu2 bF bF (by kernel_rfl) (aa (.inl ⟨rfl,⟨false,⟨rfl,rfl,rfl,rfl,rfl,trivial⟩,I.pk [] rfl rfl,F⟩⟩))))))
     refine ifE F (fun cI F=>?_) (fun cI F=>?_)
     ·
      refine ph (bm 1 (iv b) rfl cI (by kernel_rfl) (pu (iv b) (by kernel_rfl) (aa ?_)))
      have hG:=F; rcases Bool.eq_false_or_eq_true W with rfl | rfl
      ·
       have F:=hG; clear hG
       refine ifE F (fun _ F=>?_) (fun h=>absurd rfl h)
       refine rgn (by kernel_rfl) (pu2 bT bT (by kernel_rfl) (pup (iv b) (by kernel_rfl) (bt F (fun fE cJ F=>ifE F (fun b6 F=>?_) (fun b6 F=>?_)))))
       ·
        refine aw (by kernel_rfl) (bg I 76 _ _ (by kernel_rfl) (bn.mono (L76 _ b 0 60 _ cJ) (fun v' w' h=>⟨h.1.trans (congrArg Value.bool b6),h.2⟩)) fun w I=>pu2 bT bT (by kernel_rfl) (aa (.inl ⟨rfl,⟨true,⟨rfl,rfl,rfl,rfl,rfl,trivial⟩,I.pk [] rfl rfl,F⟩⟩)))
       refine aw (by kernel_rfl) (bg I 76 _ _ (by kernel_rfl) (bn.mono (L76 _ b 0 60 _ cJ) (fun v' w' h=>⟨h.1.trans (congrArg Value.bool (Bool.eq_false_iff.2 b6)),h.2⟩)) fun w I=>pu2 bF bF (by kernel_rfl) (aa (.inl ⟨rfl,⟨false,⟨rfl,rfl,rfl,rfl,rfl,trivial⟩,I.pk [] rfl rfl,F⟩⟩)))
      have F:=hG; clear hG
      refine ifE F (fun h=>absurd h (by decide)) (fun _ F=>rgn (by kernel_rfl) (pu2 bF bF (by kernel_rfl) (sf 2 (by kernel_rfl) (pu2 bF bF (by kernel_rfl) (aa (.inl ⟨rfl,⟨false,⟨rfl,rfl,rfl,rfl,rfl,trivial⟩,I.pk [] rfl rfl,F⟩⟩))))))
     refine ifE F (fun cK F=>?_) (fun cK F=>?_)
     ·
      refine ph (bm 2 (iv d) rfl cK (by kernel_rfl) (pu (iv d) (by kernel_rfl) (aa ?_)))
      have hG:=F; rcases Bool.eq_false_or_eq_true W with rfl | rfl
      ·
       have F:=hG; clear hG
       refine ifE F (fun _ F=>?_) (fun h=>absurd rfl h)
       refine rgn (by kernel_rfl) (pu2 bT bT (by kernel_rfl) (pup (iv d) (by kernel_rfl) (bt F (fun fF cL F=>ifE F (fun b7 F=>?_) (fun b7 F=>?_)))))
       ·
        refine aw (by kernel_rfl) (bg I 76 _ _ (by kernel_rfl) (bn.mono (L76 _ d 0 60 _ cL) (fun v' w' h=>⟨h.1.trans (congrArg Value.bool b7),h.2⟩)) fun w I=>pu2 bT bT (by kernel_rfl) (aa (.inl ⟨rfl,⟨true,⟨rfl,rfl,rfl,rfl,rfl,trivial⟩,I.pk [] rfl rfl,F⟩⟩)))
       refine aw (by kernel_rfl) (bg I 76 _ _ (by kernel_rfl) (bn.mono (L76 _ d 0 60 _ cL) (fun v' w' h=>⟨h.1.trans (congrArg Value.bool (Bool.eq_false_iff.2 b7)),h.2⟩)) fun w I=>pu2 bF bF (by kernel_rfl) (aa (.inl ⟨rfl,⟨false,⟨rfl,rfl,rfl,rfl,rfl,trivial⟩,I.pk [] rfl rfl,F⟩⟩)))
      have F:=hG; clear hG
      refine ifE F (fun h=>absurd h (by decide)) (fun _ F=>rgn (by kernel_rfl) (pu2 bF bF (by kernel_rfl) (sf 2 (by kernel_rfl) (pu2 bF bF (by kernel_rfl) (aa (.inl ⟨rfl,⟨false,⟨rfl,rfl,rfl,rfl,rfl,trivial⟩,I.pk [] rfl rfl,F⟩⟩))))))
     refine ifE F (fun cM F=>?_) (fun cM F=>?_)
     ·
      refine ph (bm 3 (iv e) rfl cM (by kernel_rfl) (pu (iv e) (by kernel_rfl) (aa ?_)))
      have hG:=F; rcases Bool.eq_false_or_eq_true W with rfl | rfl
      ·
       have F:=hG; clear hG
       refine ifE F (fun _ F=>?_) (fun h=>absurd rfl h)
       refine rgn (by kernel_rfl) (pu2 bT bT (by kernel_rfl) (pup (iv e) (by kernel_rfl) (bt F (fun fG cN F=>ifE F (fun b8 F=>?_) (fun b8 F=>?_)))))
       ·
        refine aw (by kernel_rfl) (bg I 76 _ _ (by kernel_rfl) (bn.mono (L76 _ e 0 60 _ cN) (fun v' w' h=>⟨h.1.trans (congrArg Value.bool b8),h.2⟩)) fun w I=>pu2 bT bT (by kernel_rfl) (aa (.inl ⟨rfl,⟨true,⟨rfl,rfl,rfl,rfl,rfl,trivial⟩,I.pk [] rfl rfl,F⟩⟩)))
       refine aw (by kernel_rfl) (bg I 76 _ _ (by kernel_rfl) (bn.mono (L76 _ e 0 60 _ cN) (fun v' w' h=>⟨h.1.trans (congrArg Value.bool (Bool.eq_false_iff.2 b8)),h.2⟩)) fun w I=>pu2 bF bF (by kernel_rfl) (aa (.inl ⟨rfl,⟨false,⟨rfl,rfl,rfl,rfl,rfl,trivial⟩,I.pk [] rfl rfl,F⟩⟩)))
      have F:=hG; clear hG
      refine ifE F (fun h=>absurd h (by decide)) (fun _ F=>rgn (by kernel_rfl) (pu2 bF bF (by kernel_rfl) (sf 2 (by kernel_rfl) (pu2 bF bF (by kernel_rfl) (aa (.inl ⟨rfl,⟨false,⟨rfl,rfl,rfl,rfl,rfl,trivial⟩,I.pk [] rfl rfl,F⟩⟩))))))
     refine ifE F (fun cO F=>?_) (fun cO F=>?_)
     ·
      refine ph (bm 4 (iv f) rfl cO (by kernel_rfl) (pu (iv f) (by kernel_rfl) (aa ?_)))
      have hG:=F; rcases Bool.eq_false_or_eq_true W with rfl | rfl
      ·
       have F:=hG; clear hG
       refine ifE F (fun _ F=>?_) (fun h=>absurd rfl h)
       refine rgn (by kernel_rfl) (pu2 bT bT (by kernel_rfl) (pup (iv f) (by kernel_rfl) (bt F (fun fH cP F=>ifE F (fun b9 F=>?_) (fun b9 F=>?_)))))
       ·
        refine aw (by kernel_rfl) (bg I 76 _ _ (by kernel_rfl) (bn.mono (L76 _ f 0 60 _ cP) (fun v' w' h=>⟨h.1.trans (congrArg Value.bool b9),h.2⟩)) fun w I=>pu2 bT bT (by kernel_rfl) (aa (.inl ⟨rfl,⟨true,⟨rfl,rfl,rfl,rfl,rfl,trivial⟩,I.pk [] rfl rfl,F⟩⟩)))
       refine aw (by kernel_rfl) (bg I 76 _ _ (by kernel_rfl) (bn.mono (L76 _ f 0 60 _ cP) (fun v' w' h=>⟨h.1.trans (congrArg Value.bool (Bool.eq_false_iff.2 b9)),h.2⟩)) fun w I=>pu2 bF bF (by kernel_rfl) (aa (.inl ⟨rfl,⟨false,⟨rfl,rfl,rfl,rfl,rfl,trivial⟩,I.pk [] rfl rfl,F⟩⟩)))
      have F:=hG; clear hG
      refine ifE F (fun h=>absurd h (by decide)) (fun _ F=>rgn (by kernel_rfl) (pu2 bF bF (by kernel_rfl) (sf 2 (by kernel_rfl) (pu2 bF bF (by kernel_rfl) (aa (.inl ⟨rfl,⟨false,⟨rfl,rfl,rfl,rfl,rfl,trivial⟩,I.pk [] rfl rfl,F⟩⟩))))))
     refine ifN F (fun cQ F=>?_) (fun cQ F=>?_)
     ·
      cases F
     refine ph (bm 5 (iv g) rfl cQ (by kernel_rfl) (pu (iv g) (by kernel_rfl) (aa ?_)))
     have hG:=F; rcases Bool.eq_false_or_eq_true W with rfl | rfl
     ·
      have F:=hG; clear hG
      refine ifE F (fun _ F=>?_) (fun h=>absurd rfl h)
      refine rgn (by kernel_rfl) (pu2 bT bT (by kernel_rfl) (pup (iv g) (by kernel_rfl) (bt F (fun fI cR F=>ifE F (fun bA F=>?_) (fun bA F=>?_)))))
      ·
       refine aw (by kernel_rfl) (bg I 76 _ _ (by kernel_rfl) (bn.mono (L76 _ g 0 60 _ cR) (fun v' w' h=>⟨h.1.trans (congrArg Value.bool bA),h.2⟩)) fun w I=>pu2 bT bT (by kernel_rfl) (aa (.inl ⟨rfl,⟨true,⟨rfl,rfl,rfl,rfl,rfl,trivial⟩,I.pk [] rfl rfl,F⟩⟩)))
      refine aw (by kernel_rfl) (bg I 76 _ _ (by kernel_rfl) (bn.mono (L76 _ g 0 60 _ cR) (fun v' w' h=>⟨h.1.trans (congrArg Value.bool (Bool.eq_false_iff.2 bA)),h.2⟩)) fun w I=>pu2 bF bF (by kernel_rfl) (aa (.inl ⟨rfl,⟨false,⟨rfl,rfl,rfl,rfl,rfl,trivial⟩,I.pk [] rfl rfl,F⟩⟩)))
     have F:=hG; clear hG
     refine ifE F (fun h=>absurd h (by decide)) (fun _ F=>rgn (by kernel_rfl) (pu2 bF bF (by kernel_rfl) (sf 2 (by kernel_rfl) (pu2 bF bF (by kernel_rfl) (aa (.inl ⟨rfl,⟨false,⟨rfl,rfl,rfl,rfl,rfl,trivial⟩,I.pk [] rfl rfl,F⟩⟩))))))
    intro ρ w hJ
    obtain ⟨aS,hag,I,F⟩:=hJ
    obtain ⟨ρ,rfl⟩:=hag.form; clear hag
    unfold ld at F
    refine rgn (by kernel_rfl) (ckE F (fun eZ F=>ph (cj rfl rfl eZ (pu (iv (a6+1)) (by kernel_rfl) (aa (⟨rfl,m5,Nat.lt_succ_self _,⟨aS,a6+1,m5,⟨rfl,rfl,rfl,rfl,rfl,trivial⟩,I.pk [] rfl rfl,F,rfl⟩⟩))))))
   refine ifE F (fun cS F=>?_) (fun cS F=>?_)
   ·
    refine ph (bm 1 (.agg #[iv i,iv j,iv k,iv l,iv o,iv p]) rfl cS (by kernel_rfl) (ph (bh I _ zeroValue54 rfl fun fJ w I=>ph (mb I 0 _ mo rfl rfl rfl rfl rfl rfl fun w I=>aa (ab (rgn (by kernel_rfl) (ph (ma I 0 zi54 mo rfl rfl rfl (pu (iv 0) (by kernel_rfl) (aa (au (cb (fun m ρ w=>∃ (X:Bool) (a7:Int) (mm:Nat),cd ρ [(3,.bool X),(20,.agg #[iv a,iv b,iv d,iv e,iv f,iv g,iv i,iv j,iv k,iv l,iv o,iv p,iv q,iv s,iv t,iv u,iv x,iv y,iv z,iv A,iv B,iv C,iv D,iv E,iv G,iv H,iv J,iv K,iv L,iv M,iv O,iv P,iv Q,iv R,iv S,iv T]),(21,iv U),(24,.agg #[iv i,iv j,iv k,iv l,iv o,iv p]),(25,iv a7)]∧Inv [] w0 w []∧F128l7 i j k l o p (pj a b d e f g i j k l o p q s t u x y z A B C D E G H J K L M O P Q R S T N m3) U mm X a7=some r∧mm=m) (m:=N) ⟨V,0,N,⟨rfl,rfl,rfl,rfl,rfl,trivial⟩,I.pk [] rfl rfl,F,rfl⟩ ?_))))))))))))
    rintro m ρ w ⟨X,a7,mm,hag,I,F,hm⟩
    subst hm; obtain ⟨ρ,rfl⟩:=hag.form; clear hag
    obtain _ | m7:=mm
    ·cases (show (none:Option Int)=some r from F)
    replace F:F128b7 i j k l o p (pj a b d e f g i j k l o p q s t u x y z A B C D E G H J K L M O P Q R S T N m3) U (F128l7 i j k l o p (pj a b d e f g i j k l o p q s t u x y z A B C D E G H J K L M O P Q R S T N m3) U m7) X a7=some r:=F; unfold F128b7 at F
    refine ab (rgn (by kernel_rfl) (ifN F (fun bB F=>?_) (fun bB F=>?_)))
    ·
     refine ph (cm rfl rfl (fun h=>absurd h bB) (fun _=>aa (ab (ai rfl (bw (.inl ⟨rfl,⟨X,⟨rfl,rfl,rfl,trivial⟩,I.pk [] rfl rfl,F⟩⟩))))))
    refine ph (cm rfl rfl (fun _=>?_) (fun h=>absurd bB h))
    refine aa (ab (ah rfl (ak (dn (fun ρ w=>∃ (aT:Bool),cd ρ [(3,.bool aT),(20,.agg #[iv a,iv b,iv d,iv e,iv f,iv g,iv i,iv j,iv k,iv l,iv o,iv p,iv q,iv s,iv t,iv u,iv x,iv y,iv z,iv A,iv B,iv C,iv D,iv E,iv G,iv H,iv J,iv K,iv L,iv M,iv O,iv P,iv Q,iv R,iv S,iv T]),(21,iv U),(24,.agg #[iv i,iv j,iv k,iv l,iv o,iv p]),(25,iv a7)]∧Inv [] w0 w []∧lf (F128l7 i j k l o p (pj a b d e f g i j k l o p q s t u x y z A B C D E G H J K L M O P Q R S T N m3) U m7) a7 aT=some r) ?_ ?_))))
    ·
     refine au (ab (rgn (by kernel_rfl) (ifE F (fun cT F=>?_) (fun cT F=>?_))))
     ·
      refine ph (bm 0 (iv i) rfl cT (by kernel_rfl) (pu (iv i) (by kernel_rfl) (aa ?_)))
      have hG:=F; rcases Bool.eq_false_or_eq_true X with rfl | rfl
      ·
       have F:=hG; clear hG
       refine ifE F (fun _ F=>?_) (fun h=>absurd rfl h)
       refine rgn (by kernel_rfl) (pu2 bT bT (by kernel_rfl) (pup (iv i) (by kernel_rfl) (bt F (fun fK cU F=>ifE F (fun bC F=>?_) (fun bC F=>?_)))))
       ·
        refine aw (by kernel_rfl) (bg I 76 _ _ (by kernel_rfl) (bn.mono (L76 _ i 0 60 _ cU) (fun v' w' h=>⟨h.1.trans (congrArg Value.bool bC),h.2⟩)) fun w I=>pu2 bT bT (by kernel_rfl) (aa (.inl ⟨rfl,⟨true,⟨rfl,rfl,rfl,rfl,rfl,trivial⟩,I.pk [] rfl rfl,F⟩⟩)))
       refine aw (by kernel_rfl) (bg I 76 _ _ (by kernel_rfl) (bn.mono (L76 _ i 0 60 _ cU) (fun v' w' h=>⟨h.1.trans (congrArg Value.bool (Bool.eq_false_iff.2 bC)),h.2⟩)) fun w I=>pu2 bF bF (by kernel_rfl) (aa (.inl ⟨rfl,⟨false,⟨rfl,rfl,rfl,rfl,rfl,trivial⟩,I.pk [] rfl rfl,F⟩⟩)))
      have F:=hG; clear hG
      refine ifE F (fun h=>absurd h (by decide)) (fun _ F=>rgn (by kernel_rfl) (pu2 bF bF (by kernel_rfl) (sf 2 (by kernel_rfl) (pu2 bF bF (by kernel_rfl) (aa (.inl ⟨rfl,⟨false,⟨rfl,rfl,rfl,rfl,rfl,trivial⟩,I.pk [] rfl rfl,F⟩⟩))))))
     refine ifE F (fun cV F=>?_) (fun cV F=>?_)
     ·
      refine ph (bm 1 (iv j) rfl cV (by kernel_rfl) (pu (iv j) (by kernel_rfl) (aa ?_)))
      have hG:=F; rcases Bool.eq_false_or_eq_true X with rfl | rfl
      ·
       have F:=hG; clear hG
       refine ifE F (fun _ F=>?_) (fun h=>absurd rfl h)
       refine rgn (by kernel_rfl) (pu2 bT bT (by kernel_rfl) (pup (iv j) (by kernel_rfl) (bt F (fun fL cW F=>ifE F (fun bD F=>?_) (fun bD F=>?_)))))
       ·
        refine aw (by kernel_rfl) (bg I 76 _ _ (by kernel_rfl) (bn.mono (L76 _ j 0 60 _ cW) (fun v' w' h=>⟨h.1.trans (congrArg Value.bool bD),h.2⟩)) fun w I=>pu2 bT bT (by kernel_rfl) (aa (.inl ⟨rfl,⟨true,⟨rfl,rfl,rfl,rfl,rfl,trivial⟩,I.pk [] rfl rfl,F⟩⟩)))
       refine aw (by kernel_rfl) (bg I 76 _ _ (by kernel_rfl) (bn.mono (L76 _ j 0 60 _ cW) (fun v' w' h=>⟨h.1.trans (congrArg Value.bool (Bool.eq_false_iff.2 bD)),h.2⟩)) fun w I=>pu2 bF bF (by kernel_rfl) (aa (.inl ⟨rfl,⟨false,⟨rfl,rfl,rfl,rfl,rfl,trivial⟩,I.pk [] rfl rfl,F⟩⟩)))
      have F:=hG; clear hG
      refine ifE F (fun h=>absurd h (by decide)) (fun _ F=>rgn (by kernel_rfl) (pu2 bF bF (by kernel_rfl) (sf 2 (by kernel_rfl) (pu2 bF bF (by kernel_rfl) (aa (.inl ⟨rfl,⟨false,⟨rfl,rfl,rfl,rfl,rfl,trivial⟩,I.pk [] rfl rfl,F⟩⟩))))))
     refine ifE F (fun cX F=>?_) (fun cX F=>?_)
     ·
      refine ph (bm 2 (iv k) rfl cX (by kernel_rfl) (pu (iv k) (by kernel_rfl) (aa ?_)))
      have hG:=F; rcases Bool.eq_false_or_eq_true X with rfl | rfl
      ·
       have F:=hG; clear hG
       refine ifE F (fun _ F=>?_) (fun h=>absurd rfl h)
       refine rgn (by kernel_rfl) (pu2 bT bT (by kernel_rfl) (pup (iv k) (by kernel_rfl) (bt F (fun fM cY F=>ifE F (fun bE F=>?_) (fun bE F=>?_)))))
       ·
        refine aw (by kernel_rfl) (bg I 76 _ _ (by kernel_rfl) (bn.mono (L76 _ k 0 60 _ cY) (fun v' w' h=>⟨h.1.trans (congrArg Value.bool bE),h.2⟩)) fun w I=>pu2 bT bT (by kernel_rfl) (aa (.inl ⟨rfl,⟨true,⟨rfl,rfl,rfl,rfl,rfl,trivial⟩,I.pk [] rfl rfl,F⟩⟩)))
       refine aw (by kernel_rfl) (bg I 76 _ _ (by kernel_rfl) (bn.mono (L76 _ k 0 60 _ cY) (fun v' w' h=>⟨h.1.trans (congrArg Value.bool (Bool.eq_false_iff.2 bE)),h.2⟩)) fun w I=>pu2 bF bF (by kernel_rfl) (aa (.inl ⟨rfl,⟨false,⟨rfl,rfl,rfl,rfl,rfl,trivial⟩,I.pk [] rfl rfl,F⟩⟩)))
      have F:=hG; clear hG
      refine ifE F (fun h=>absurd h (by decide)) (fun _ F=>rgn (by kernel_rfl) (pu2 bF bF (by kernel_rfl) (sf 2 (by kernel_rfl) (pu2 bF bF (by kernel_rfl) (aa (.inl ⟨rfl,⟨false,⟨rfl,rfl,rfl,rfl,rfl,trivial⟩,I.pk [] rfl rfl,F⟩⟩))))))
     refine ifE F (fun cZ F=>?_) (fun cZ F=>?_)
     ·
      refine ph (bm 3 (iv l) rfl cZ (by kernel_rfl) (pu (iv l) (by kernel_rfl) (aa ?_)))
      have hG:=F; rcases Bool.eq_false_or_eq_true X with rfl | rfl
      ·
       have F:=hG; clear hG
       refine ifE F (fun _ F=>?_) (fun h=>absurd rfl h)
       refine rgn (by kernel_rfl) (pu2 bT bT (by kernel_rfl) (pup (iv l) (by kernel_rfl) (bt F (fun fN d0 F=>ifE F (fun bG F=>?_) (fun bG F=>?_)))))
       ·
        refine aw (by kernel_rfl) (bg I 76 _ _ (by kernel_rfl) (bn.mono (L76 _ l 0 60 _ d0) (fun v' w' h=>⟨h.1.trans (congrArg Value.bool bG),h.2⟩)) fun w I=>pu2 bT bT (by kernel_rfl) (aa (.inl ⟨rfl,⟨true,⟨rfl,rfl,rfl,rfl,rfl,trivial⟩,I.pk [] rfl rfl,F⟩⟩)))
       refine aw (by kernel_rfl) (bg I 76 _ _ (by kernel_rfl) (bn.mono (L76 _ l 0 60 _ d0) (fun v' w' h=>⟨h.1.trans (congrArg Value.bool (Bool.eq_false_iff.2 bG)),h.2⟩)) fun w I=>pu2 bF bF (by kernel_rfl) (aa (.inl ⟨rfl,⟨false,⟨rfl,rfl,rfl,rfl,rfl,trivial⟩,I.pk [] rfl rfl,F⟩⟩)))
      have F:=hG; clear hG
      refine ifE F (fun h=>absurd h (by decide)) (fun _ F=>rgn (by kernel_rfl) (pu2 bF bF (by kernel_rfl) (sf 2 (by kernel_rfl) (pu2 bF bF (by kernel_rfl) (aa (.inl ⟨rfl,⟨false,⟨rfl,rfl,rfl,rfl,rfl,trivial⟩,I.pk [] rfl rfl,F⟩⟩))))))
     refine ifE F (fun d1 F=>?_) (fun d1 F=>?_)
     ·
      refine ph (bm 4 (iv o) rfl d1 (by kernel_rfl) (pu (iv o) (by kernel_rfl) (aa ?_)))
      have hG:=F; rcases Bool.eq_false_or_eq_true X with rfl | rfl
      ·
       have F:=hG; clear hG
       refine ifE F (fun _ F=>?_) (fun h=>absurd rfl h)
       refine rgn (by kernel_rfl) (pu2 bT bT (by kernel_rfl) (pup (iv o) (by kernel_rfl) (bt F (fun fO d2 F=>ifE F (fun bH F=>?_) (fun bH F=>?_)))))
       ·
        refine aw (by kernel_rfl) (bg I 76 _ _ (by kernel_rfl) (bn.mono (L76 _ o 0 60 _ d2) (fun v' w' h=>⟨h.1.trans (congrArg Value.bool bH),h.2⟩)) fun w I=>pu2 bT bT (by kernel_rfl) (aa (.inl ⟨rfl,⟨true,⟨rfl,rfl,rfl,rfl,rfl,trivial⟩,I.pk [] rfl rfl,F⟩⟩)))
       refine aw (by kernel_rfl) (bg I 76 _ _ (by kernel_rfl) (bn.mono (L76 _ o 0 60 _ d2) (fun v' w' h=>⟨h.1.trans (congrArg Value.bool (Bool.eq_false_iff.2 bH)),h.2⟩)) fun w I=>pu2 bF bF (by kernel_rfl) (aa (.inl ⟨rfl,⟨false,⟨rfl,rfl,rfl,rfl,rfl,trivial⟩,I.pk [] rfl rfl,F⟩⟩)))
      have F:=hG; clear hG
      refine ifE F (fun h=>absurd h (by decide)) (fun _ F=>rgn (by kernel_rfl) (pu2 bF bF (by kernel_rfl) (sf 2 (by kernel_rfl) (pu2 bF bF (by kernel_rfl) (aa (.inl ⟨rfl,⟨false,⟨rfl,rfl,rfl,rfl,rfl,trivial⟩,I.pk [] rfl rfl,F⟩⟩))))))
     refine ifN F (fun d3 F=>?_) (fun d3 F=>?_)
     ·
      cases F
     refine ph (bm 5 (iv p) rfl d3 (by kernel_rfl) (pu (iv p) (by kernel_rfl) (aa ?_)))
     have hG:=F; rcases Bool.eq_false_or_eq_true X with rfl | rfl
     ·
      have F:=hG; clear hG
      refine ifE F (fun _ F=>?_) (fun h=>absurd rfl h)
      refine rgn (by kernel_rfl) (pu2 bT bT (by kernel_rfl) (pup (iv p) (by kernel_rfl) (bt F (fun fP d4 F=>ifE F (fun bI F=>?_) (fun bI F=>?_)))))
      ·
       refine aw (by kernel_rfl) (bg I 76 _ _ (by kernel_rfl) (bn.mono (L76 _ p 0 60 _ d4) (fun v' w' h=>⟨h.1.trans (congrArg Value.bool bI),h.2⟩)) fun w I=>pu2 bT bT (by kernel_rfl) (aa (.inl ⟨rfl,⟨true,⟨rfl,rfl,rfl,rfl,rfl,trivial⟩,I.pk [] rfl rfl,F⟩⟩)))
      refine aw (by kernel_rfl) (bg I 76 _ _ (by kernel_rfl) (bn.mono (L76 _ p 0 60 _ d4) (fun v' w' h=>⟨h.1.trans (congrArg Value.bool (Bool.eq_false_iff.2 bI)),h.2⟩)) fun w I=>pu2 bF bF (by kernel_rfl) (aa (.inl ⟨rfl,⟨false,⟨rfl,rfl,rfl,rfl,rfl,trivial⟩,I.pk [] rfl rfl,F⟩⟩)))
     have F:=hG; clear hG
     refine ifE F (fun h=>absurd h (by decide)) (fun _ F=>rgn (by kernel_rfl) (pu2 bF bF (by kernel_rfl) (sf 2 (by kernel_rfl) (pu2 bF bF (by kernel_rfl) (aa (.inl ⟨rfl,⟨false,⟨rfl,rfl,rfl,rfl,rfl,trivial⟩,I.pk [] rfl rfl,F⟩⟩))))))
    intro ρ w hJ
    obtain ⟨aT,hag,I,F⟩:=hJ
    obtain ⟨ρ,rfl⟩:=hag.form; clear hag
    unfold lf at F
    refine rgn (by kernel_rfl) (ckE F (fun f0 F=>ph (cj rfl rfl f0 (pu (iv (a7+1)) (by kernel_rfl) (aa (⟨rfl,m7,Nat.lt_succ_self _,⟨aT,a7+1,m7,⟨rfl,rfl,rfl,rfl,rfl,trivial⟩,I.pk [] rfl rfl,F,rfl⟩⟩))))))
   refine ifE F (fun d5 F=>?_) (fun d5 F=>?_)
   ·
    refine ph (bm 2 (.agg #[iv q,iv s,iv t,iv u,iv x,iv y]) rfl d5 (by kernel_rfl) (ph (bh I _ zeroValue54 rfl fun fQ w I=>ph (mb I 0 _ mo rfl rfl rfl rfl rfl rfl fun w I=>aa (ab (rgn (by kernel_rfl) (ph (ma I 0 zi54 mo rfl rfl rfl (pu (iv 0) (by kernel_rfl) (aa (au (cb (fun m ρ w=>∃ (Y:Bool) (a8:Int) (mm:Nat),cd ρ [(3,.bool Y),(20,.agg #[iv a,iv b,iv d,iv e,iv f,iv g,iv i,iv j,iv k,iv l,iv o,iv p,iv q,iv s,iv t,iv u,iv x,iv y,iv z,iv A,iv B,iv C,iv D,iv E,iv G,iv H,iv J,iv K,iv L,iv M,iv O,iv P,iv Q,iv R,iv S,iv T]),(21,iv U),(24,.agg #[iv q,iv s,iv t,iv u,iv x,iv y]),(25,iv a8)]∧Inv [] w0 w []∧F128l9 q s t u x y (pj a b d e f g i j k l o p q s t u x y z A B C D E G H J K L M O P Q R S T N m3) U mm Y a8=some r∧mm=m) (m:=N) ⟨V,0,N,⟨rfl,rfl,rfl,rfl,rfl,trivial⟩,I.pk [] rfl rfl,F,rfl⟩ ?_))))))))))))
    rintro m ρ w ⟨Y,a8,mm,hag,I,F,hm⟩
    subst hm; obtain ⟨ρ,rfl⟩:=hag.form; clear hag
    obtain _ | m9:=mm
    ·cases (show (none:Option Int)=some r from F)
    replace F:F128b9 q s t u x y (pj a b d e f g i j k l o p q s t u x y z A B C D E G H J K L M O P Q R S T N m3) U (F128l9 q s t u x y (pj a b d e f g i j k l o p q s t u x y z A B C D E G H J K L M O P Q R S T N m3) U m9) Y a8=some r:=F; unfold F128b9 at F
    refine ab (rgn (by kernel_rfl) (ifN F (fun bJ F=>?_) (fun bJ F=>?_)))
    ·
     refine ph (cm rfl rfl (fun h=>absurd h bJ) (fun _=>aa (ab (ai rfl (bw (.inl ⟨rfl,⟨Y,⟨rfl,rfl,rfl,trivial⟩,I.pk [] rfl rfl,F⟩⟩))))))
    refine ph (cm rfl rfl (fun _=>?_) (fun h=>absurd bJ h))
    refine aa (ab (ah rfl (ak (dn (fun ρ w=>∃ (aU:Bool),cd ρ [(3,.bool aU),(20,.agg #[iv a,iv b,iv d,iv e,iv f,iv g,iv i,iv j,iv k,iv l,iv o,iv p,iv q,iv s,iv t,iv u,iv x,iv y,iv z,iv A,iv B,iv C,iv D,iv E,iv G,iv H,iv J,iv K,iv L,iv M,iv O,iv P,iv Q,iv R,iv S,iv T]),(21,iv U),(24,.agg #[iv q,iv s,iv t,iv u,iv x,iv y]),(25,iv a8)]∧Inv [] w0 w []∧ge (F128l9 q s t u x y (pj a b d e f g i j k l o p q s t u x y z A B C D E G H J K L M O P Q R S T N m3) U m9) a8 aU=some r) ?_ ?_))))
    ·
     refine au (ab (rgn (by kernel_rfl) (ifE F (fun d6 F=>?_) (fun d6 F=>?_))))
     ·
      refine ph (bm 0 (iv q) rfl d6 (by kernel_rfl) (pu (iv q) (by kernel_rfl) (aa ?_)))
      have hG:=F; rcases Bool.eq_false_or_eq_true Y with rfl | rfl
      ·
       have F:=hG; clear hG
       refine ifE F (fun _ F=>?_) (fun h=>absurd rfl h)
       refine rgn (by kernel_rfl) (pu2 bT bT (by kernel_rfl) (pup (iv q) (by kernel_rfl) (bt F (fun fR d7 F=>ifE F (fun bK F=>?_) (fun bK F=>?_)))))
       ·
        refine aw (by kernel_rfl) (bg I 76 _ _ (by kernel_rfl) (bn.mono (L76 _ q 0 60 _ d7) (fun v' w' h=>⟨h.1.trans (congrArg Value.bool bK),h.2⟩)) fun w I=>pu2 bT bT (by kernel_rfl) (aa (.inl ⟨rfl,⟨true,⟨rfl,rfl,rfl,rfl,rfl,trivial⟩,I.pk [] rfl rfl,F⟩⟩)))
       refine aw (by kernel_rfl) (bg I 76 _ _ (by kernel_rfl) (bn.mono (L76 _ q 0 60 _ d7) (fun v' w' h=>⟨h.1.trans (congrArg Value.bool (Bool.eq_false_iff.2 bK)),h.2⟩)) fun w I=>pu2 bF bF (by kernel_rfl) (aa (.inl ⟨rfl,⟨false,⟨rfl,rfl,rfl,rfl,rfl,trivial⟩,I.pk [] rfl rfl,F⟩⟩)))
      have F:=hG; clear hG
      refine ifE F (fun h=>absurd h (by decide)) (fun _ F=>rgn (by kernel_rfl) (pu2 bF bF (by kernel_rfl) (sf 2 (by kernel_rfl) (pu2 bF bF (by kernel_rfl) (aa (.inl ⟨rfl,⟨false,⟨rfl,rfl,rfl,rfl,rfl,trivial⟩,I.pk [] rfl rfl,F⟩⟩))))))
     refine ifE F (fun d8 F=>?_) (fun d8 F=>?_)
     ·
      refine ph (bm 1 (iv s) rfl d8 (by kernel_rfl) (pu (iv s) (by kernel_rfl) (aa ?_)))
      have hG:=F; rcases Bool.eq_false_or_eq_true Y with rfl | rfl
      ·
       have F:=hG; clear hG
       refine ifE F (fun _ F=>?_) (fun h=>absurd rfl h)
       refine rgn (by kernel_rfl) (pu2 bT bT (by kernel_rfl) (pup (iv s) (by kernel_rfl) (bt F (fun fS d9 F=>ifE F (fun bL F=>?_) (fun bL F=>?_)))))
       ·
        refine aw (by kernel_rfl) (bg I 76 _ _ (by kernel_rfl) (bn.mono (L76 _ s 0 60 _ d9) (fun v' w' h=>⟨h.1.trans (congrArg Value.bool bL),h.2⟩)) fun w I=>pu2 bT bT (by kernel_rfl) (aa (.inl ⟨rfl,⟨true,⟨rfl,rfl,rfl,rfl,rfl,trivial⟩,I.pk [] rfl rfl,F⟩⟩)))
       refine aw (by kernel_rfl) (bg I 76 _ _ (by kernel_rfl) (bn.mono (L76 _ s 0 60 _ d9) (fun v' w' h=>⟨h.1.trans (congrArg Value.bool (Bool.eq_false_iff.2 bL)),h.2⟩)) fun w I=>pu2 bF bF (by kernel_rfl) (aa (.inl ⟨rfl,⟨false,⟨rfl,rfl,rfl,rfl,rfl,trivial⟩,I.pk [] rfl rfl,F⟩⟩)))
      have F:=hG; clear hG
      refine ifE F (fun h=>absurd h (by decide)) (fun _ F=>rgn (by kernel_rfl) (pu2 bF bF (by kernel_rfl) (sf 2 (by kernel_rfl) (pu2 bF bF (by kernel_rfl) (aa (.inl ⟨rfl,⟨false,⟨rfl,rfl,rfl,rfl,rfl,trivial⟩,I.pk [] rfl rfl,F⟩⟩))))))
     refine ifE F (fun dA F=>?_) (fun dA F=>?_)
     ·
      refine ph (bm 2 (iv t) rfl dA (by kernel_rfl) (pu (iv t) (by kernel_rfl) (aa ?_)))
      have hG:=F; rcases Bool.eq_false_or_eq_true Y with rfl | rfl
      ·
       have F:=hG; clear hG
       refine ifE F (fun _ F=>?_) (fun h=>absurd rfl h)
       refine rgn (by kernel_rfl) (pu2 bT bT (by kernel_rfl) (pup (iv t) (by kernel_rfl) (bt F (fun fT dB F=>ifE F (fun bM F=>?_) (fun bM F=>?_)))))
       ·
        refine aw (by kernel_rfl) (bg I 76 _ _ (by kernel_rfl) (bn.mono (L76 _ t 0 60 _ dB) (fun v' w' h=>⟨h.1.trans (congrArg Value.bool bM),h.2⟩)) fun w I=>pu2 bT bT (by kernel_rfl) (aa (.inl ⟨rfl,⟨true,⟨rfl,rfl,rfl,rfl,rfl,trivial⟩,I.pk [] rfl rfl,F⟩⟩)))
       refine aw (by kernel_rfl) (bg I 76 _ _ (by kernel_rfl) (bn.mono (L76 _ t 0 60 _ dB) (fun v' w' h=>⟨h.1.trans (congrArg Value.bool (Bool.eq_false_iff.2 bM)),h.2⟩)) fun w I=>pu2 bF bF (by kernel_rfl) (aa (.inl ⟨rfl,⟨false,⟨rfl,rfl,rfl,rfl,rfl,trivial⟩,I.pk [] rfl rfl,F⟩⟩)))
      have F:=hG; clear hG
      refine ifE F (fun h=>absurd h (by decide)) (fun _ F=>rgn (by kernel_rfl) (pu2 bF bF (by kernel_rfl) (sf 2 (by kernel_rfl) (pu2 bF bF (by kernel_rfl) (aa (.inl ⟨rfl,⟨false,⟨rfl,rfl,rfl,rfl,rfl,trivial⟩,I.pk [] rfl rfl,F⟩⟩))))))
     refine ifE F (fun dC F=>?_) (fun dC F=>?_)
     ·
      refine ph (bm 3 (iv u) rfl dC (by kernel_rfl) (pu (iv u) (by kernel_rfl) (aa ?_)))
      have hG:=F; rcases Bool.eq_false_or_eq_true Y with rfl | rfl
      ·
       have F:=hG; clear hG
       refine ifE F (fun _ F=>?_) (fun h=>absurd rfl h)
       refine rgn (by kernel_rfl) (pu2 bT bT (by kernel_rfl) (pup (iv u) (by kernel_rfl) (bt F (fun fU dD F=>ifE F (fun bN F=>?_) (fun bN F=>?_)))))
       ·
        refine aw (by kernel_rfl) (bg I 76 _ _ (by kernel_rfl) (bn.mono (L76 _ u 0 60 _ dD) (fun v' w' h=>⟨h.1.trans (congrArg Value.bool bN),h.2⟩)) fun w I=>pu2 bT bT (by kernel_rfl) (aa (.inl ⟨rfl,⟨true,⟨rfl,rfl,rfl,rfl,rfl,trivial⟩,I.pk [] rfl rfl,F⟩⟩)))
       refine aw (by kernel_rfl) (bg I 76 _ _ (by kernel_rfl) (bn.mono (L76 _ u 0 60 _ dD) (fun v' w' h=>⟨h.1.trans (congrArg Value.bool (Bool.eq_false_iff.2 bN)),h.2⟩)) fun w I=>pu2 bF bF (by kernel_rfl) (aa (.inl ⟨rfl,⟨false,⟨rfl,rfl,rfl,rfl,rfl,trivial⟩,I.pk [] rfl rfl,F⟩⟩)))
      have F:=hG; clear hG
      refine ifE F (fun h=>absurd h (by decide)) (fun _ F=>rgn (by kernel_rfl) (pu2 bF bF (by kernel_rfl) (sf 2 (by kernel_rfl) (pu2 bF bF (by kernel_rfl) (aa (.inl ⟨rfl,⟨false,⟨rfl,rfl,rfl,rfl,rfl,trivial⟩,I.pk [] rfl rfl,F⟩⟩))))))
     refine ifE F (fun dE F=>?_) (fun dE F=>?_)
     ·
      refine ph (bm 4 (iv x) rfl dE (by kernel_rfl) (pu (iv x) (by kernel_rfl) (aa ?_)))
      have hG:=F; rcases Bool.eq_false_or_eq_true Y with rfl | rfl
      ·
       have F:=hG; clear hG
       refine ifE F (fun _ F=>?_) (fun h=>absurd rfl h)
       refine rgn (by kernel_rfl) (pu2 bT bT (by kernel_rfl) (pup (iv x) (by kernel_rfl) (bt F (fun fV dF F=>ifE F (fun bO F=>?_) (fun bO F=>?_)))))
       ·
        refine aw (by kernel_rfl) (bg I 76 _ _ (by kernel_rfl) (bn.mono (L76 _ x 0 60 _ dF) (fun v' w' h=>⟨h.1.trans (congrArg Value.bool bO),h.2⟩)) fun w I=>pu2 bT bT (by kernel_rfl) (aa (.inl ⟨rfl,⟨true,⟨rfl,rfl,rfl,rfl,rfl,trivial⟩,I.pk [] rfl rfl,F⟩⟩)))
       refine aw (by kernel_rfl) (bg I 76 _ _ (by kernel_rfl) (bn.mono (L76 _ x 0 60 _ dF) (fun v' w' h=>⟨h.1.trans (congrArg Value.bool (Bool.eq_false_iff.2 bO)),h.2⟩)) fun w I=>pu2 bF bF (by kernel_rfl) (aa (.inl ⟨rfl,⟨false,⟨rfl,rfl,rfl,rfl,rfl,trivial⟩,I.pk [] rfl rfl,F⟩⟩)))
      have F:=hG; clear hG
      refine ifE F (fun h=>absurd h (by decide)) (fun _ F=>rgn (by kernel_rfl) (pu2 bF bF (by kernel_rfl) (sf 2 (by kernel_rfl) (pu2 bF bF (by kernel_rfl) (aa (.inl ⟨rfl,⟨false,⟨rfl,rfl,rfl,rfl,rfl,trivial⟩,I.pk [] rfl rfl,F⟩⟩))))))
     refine ifN F (fun dG F=>?_) (fun dG F=>?_)
     ·
      cases F
     refine ph (bm 5 (iv y) rfl dG (by kernel_rfl) (pu (iv y) (by kernel_rfl) (aa ?_)))
     have hG:=F; rcases Bool.eq_false_or_eq_true Y with rfl | rfl
     ·
      have F:=hG; clear hG
      refine ifE F (fun _ F=>?_) (fun h=>absurd rfl h)
      refine rgn (by kernel_rfl) (pu2 bT bT (by kernel_rfl) (pup (iv y) (by kernel_rfl) (bt F (fun fW dH F=>ifE F (fun bP F=>?_) (fun bP F=>?_)))))
      ·
       refine aw (by kernel_rfl) (bg I 76 _ _ (by kernel_rfl) (bn.mono (L76 _ y 0 60 _ dH) (fun v' w' h=>⟨h.1.trans (congrArg Value.bool bP),h.2⟩)) fun w I=>pu2 bT bT (by kernel_rfl) (aa (.inl ⟨rfl,⟨true,⟨rfl,rfl,rfl,rfl,rfl,trivial⟩,I.pk [] rfl rfl,F⟩⟩)))
      refine aw (by kernel_rfl) (bg I 76 _ _ (by kernel_rfl) (bn.mono (L76 _ y 0 60 _ dH) (fun v' w' h=>⟨h.1.trans (congrArg Value.bool (Bool.eq_false_iff.2 bP)),h.2⟩)) fun w I=>pu2 bF bF (by kernel_rfl) (aa (.inl ⟨rfl,⟨false,⟨rfl,rfl,rfl,rfl,rfl,trivial⟩,I.pk [] rfl rfl,F⟩⟩)))
     have F:=hG; clear hG
     refine ifE F (fun h=>absurd h (by decide)) (fun _ F=>rgn (by kernel_rfl) (pu2 bF bF (by kernel_rfl) (sf 2 (by kernel_rfl) (pu2 bF bF (by kernel_rfl) (aa (.inl ⟨rfl,⟨false,⟨rfl,rfl,rfl,rfl,rfl,trivial⟩,I.pk [] rfl rfl,F⟩⟩))))))
    intro ρ w hJ
    obtain ⟨aU,hag,I,F⟩:=hJ
    obtain ⟨ρ,rfl⟩:=hag.form; clear hag
    unfold ge at F
    refine rgn (by kernel_rfl) (ckE F (fun f1 F=>ph (cj rfl rfl f1 (pu (iv (a8+1)) (by kernel_rfl) (aa (⟨rfl,m9,Nat.lt_succ_self _,⟨aU,a8+1,m9,⟨rfl,rfl,rfl,rfl,rfl,trivial⟩,I.pk [] rfl rfl,F,rfl⟩⟩))))))
   refine ifE F (fun dI F=>?_) (fun dI F=>?_)
   ·
    refine ph (bm 3 (.agg #[iv z,iv A,iv B,iv C,iv D,iv E]) rfl dI (by kernel_rfl) (ph (bh I _ zeroValue54 rfl fun fX w I=>ph (mb I 0 _ mo rfl rfl rfl rfl rfl rfl fun w I=>aa (ab (rgn (by kernel_rfl) (ph (ma I 0 zi54 mo rfl rfl rfl (pu (iv 0) (by kernel_rfl) (aa (au (cb (fun m ρ w=>∃ (Z:Bool) (a9:Int) (mm:Nat),cd ρ [(3,.bool Z),(20,.agg #[iv a,iv b,iv d,iv e,iv f,iv g,iv i,iv j,iv k,iv l,iv o,iv p,iv q,iv s,iv t,iv u,iv x,iv y,iv z,iv A,iv B,iv C,iv D,iv E,iv G,iv H,iv J,iv K,iv L,iv M,iv O,iv P,iv Q,iv R,iv S,iv T]),(21,iv U),(24,.agg #[iv z,iv A,iv B,iv C,iv D,iv E]),(25,iv a9)]∧Inv [] w0 w []∧F128l11 z A B C D E (pj a b d e f g i j k l o p q s t u x y z A B C D E G H J K L M O P Q R S T N m3) U mm Z a9=some r∧mm=m) (m:=N) ⟨V,0,N,⟨rfl,rfl,rfl,rfl,rfl,trivial⟩,I.pk [] rfl rfl,F,rfl⟩ ?_))))))))))))
    rintro m ρ w ⟨Z,a9,mm,hag,I,F,hm⟩
    subst hm; obtain ⟨ρ,rfl⟩:=hag.form; clear hag
    obtain _ | aV:=mm
    ·cases (show (none:Option Int)=some r from F)
    replace F:F128b11 z A B C D E (pj a b d e f g i j k l o p q s t u x y z A B C D E G H J K L M O P Q R S T N m3) U (F128l11 z A B C D E (pj a b d e f g i j k l o p q s t u x y z A B C D E G H J K L M O P Q R S T N m3) U aV) Z a9=some r:=F; unfold F128b11 at F
    refine ab (rgn (by kernel_rfl) (ifN F (fun bQ F=>?_) (fun bQ F=>?_)))
    ·
     refine ph (cm rfl rfl (fun h=>absurd h bQ) (fun _=>aa (ab (ai rfl (bw (.inl ⟨rfl,⟨Z,⟨rfl,rfl,rfl,trivial⟩,I.pk [] rfl rfl,F⟩⟩))))))
    refine ph (cm rfl rfl (fun _=>?_) (fun h=>absurd bQ h))
    refine aa (ab (ah rfl (ak (dn (fun ρ w=>∃ (aW:Bool),cd ρ [(3,.bool aW),(20,.agg #[iv a,iv b,iv d,iv e,iv f,iv g,iv i,iv j,iv k,iv l,iv o,iv p,iv q,iv s,iv t,iv u,iv x,iv y,iv z,iv A,iv B,iv C,iv D,iv E,iv G,iv H,iv J,iv K,iv L,iv M,iv O,iv P,iv Q,iv R,iv S,iv T]),(21,iv U),(24,.agg #[iv z,iv A,iv B,iv C,iv D,iv E]),(25,iv a9)]∧Inv [] w0 w []∧gg (F128l11 z A B C D E (pj a b d e f g i j k l o p q s t u x y z A B C D E G H J K L M O P Q R S T N m3) U aV) a9 aW=some r) ?_ ?_))))
    ·
     refine au (ab (rgn (by kernel_rfl) (ifE F (fun dJ F=>?_) (fun dJ F=>?_))))
     ·
      refine ph (bm 0 (iv z) rfl dJ (by kernel_rfl) (pu (iv z) (by kernel_rfl) (aa ?_)))
      have hG:=F; rcases Bool.eq_false_or_eq_true Z with rfl | rfl
      ·
       have F:=hG; clear hG
       refine ifE F (fun _ F=>?_) (fun h=>absurd rfl h)
       refine rgn (by kernel_rfl) (pu2 bT bT (by kernel_rfl) (pup (iv z) (by kernel_rfl) (bt F (fun fY dK F=>ifE F (fun bR F=>?_) (fun bR F=>?_)))))
       ·
        refine aw (by kernel_rfl) (bg I 76 _ _ (by kernel_rfl) (bn.mono (L76 _ z 0 60 _ dK) (fun v' w' h=>⟨h.1.trans (congrArg Value.bool bR),h.2⟩)) fun w I=>pu2 bT bT (by kernel_rfl) (aa (.inl ⟨rfl,⟨true,⟨rfl,rfl,rfl,rfl,rfl,trivial⟩,I.pk [] rfl rfl,F⟩⟩)))
       refine aw (by kernel_rfl) (bg I 76 _ _ (by kernel_rfl) (bn.mono (L76 _ z 0 60 _ dK) (fun v' w' h=>⟨h.1.trans (congrArg Value.bool (Bool.eq_false_iff.2 bR)),h.2⟩)) fun w I=>pu2 bF bF (by kernel_rfl) (aa (.inl ⟨rfl,⟨false,⟨rfl,rfl,rfl,rfl,rfl,trivial⟩,I.pk [] rfl rfl,F⟩⟩)))
      have F:=hG; clear hG
      refine ifE F (fun h=>absurd h (by decide)) (fun _ F=>rgn (by kernel_rfl) (pu2 bF bF (by kernel_rfl) (sf 2 (by kernel_rfl) (pu2 bF bF (by kernel_rfl) (aa (.inl ⟨rfl,⟨false,⟨rfl,rfl,rfl,rfl,rfl,trivial⟩,I.pk [] rfl rfl,F⟩⟩))))))
     refine ifE F (fun dL F=>?_) (fun dL F=>?_)
     ·
      refine ph (bm 1 (iv A) rfl dL (by kernel_rfl) (pu (iv A) (by kernel_rfl) (aa ?_)))
      have hG:=F; rcases Bool.eq_false_or_eq_true Z with rfl | rfl
      ·
       have F:=hG; clear hG
       refine ifE F (fun _ F=>?_) (fun h=>absurd rfl h)
       refine rgn (by kernel_rfl) (pu2 bT bT (by kernel_rfl) (pup (iv A) (by kernel_rfl) (bt F (fun fZ dM F=>ifE F (fun bS F=>?_) (fun bS F=>?_)))))
       ·
        refine aw (by kernel_rfl) (bg I 76 _ _ (by kernel_rfl) (bn.mono (L76 _ A 0 60 _ dM) (fun v' w' h=>⟨h.1.trans (congrArg Value.bool bS),h.2⟩)) fun w I=>pu2 bT bT (by kernel_rfl) (aa (.inl ⟨rfl,⟨true,⟨rfl,rfl,rfl,rfl,rfl,trivial⟩,I.pk [] rfl rfl,F⟩⟩)))
       refine aw (by kernel_rfl) (bg I 76 _ _ (by kernel_rfl) (bn.mono (L76 _ A 0 60 _ dM) (fun v' w' h=>⟨h.1.trans (congrArg Value.bool (Bool.eq_false_iff.2 bS)),h.2⟩)) fun w I=>pu2 bF bF (by kernel_rfl) (aa (.inl ⟨rfl,⟨false,⟨rfl,rfl,rfl,rfl,rfl,trivial⟩,I.pk [] rfl rfl,F⟩⟩)))
      have F:=hG; clear hG
      refine ifE F (fun h=>absurd h (by decide)) (fun _ F=>rgn (by kernel_rfl) (pu2 bF bF (by kernel_rfl) (sf 2 (by kernel_rfl) (pu2 bF bF (by kernel_rfl) (aa (.inl ⟨rfl,⟨false,⟨rfl,rfl,rfl,rfl,rfl,trivial⟩,I.pk [] rfl rfl,F⟩⟩))))))
     refine ifE F (fun dN F=>?_) (fun dN F=>?_)
     ·
      refine ph (bm 2 (iv B) rfl dN (by kernel_rfl) (pu (iv B) (by kernel_rfl) (aa ?_)))
      have hG:=F; rcases Bool.eq_false_or_eq_true Z with rfl | rfl
      ·
       have F:=hG; clear hG
       refine ifE F (fun _ F=>?_) (fun h=>absurd rfl h)
       refine rgn (by kernel_rfl) (pu2 bT bT (by kernel_rfl) (pup (iv B) (by kernel_rfl) (bt F (fun g0 dO F=>ifE F (fun bU F=>?_) (fun bU F=>?_)))))
       ·
        refine aw (by kernel_rfl) (bg I 76 _ _ (by kernel_rfl) (bn.mono (L76 _ B 0 60 _ dO) (fun v' w' h=>⟨h.1.trans (congrArg Value.bool bU),h.2⟩)) fun w I=>pu2 bT bT (by kernel_rfl) (aa (.inl ⟨rfl,⟨true,⟨rfl,rfl,rfl,rfl,rfl,trivial⟩,I.pk [] rfl rfl,F⟩⟩)))
       refine aw (by kernel_rfl) (bg I 76 _ _ (by kernel_rfl) (bn.mono (L76 _ B 0 60 _ dO) (fun v' w' h=>⟨h.1.trans (congrArg Value.bool (Bool.eq_false_iff.2 bU)),h.2⟩)) fun w I=>pu2 bF bF (by kernel_rfl) (aa (.inl ⟨rfl,⟨false,⟨rfl,rfl,rfl,rfl,rfl,trivial⟩,I.pk [] rfl rfl,F⟩⟩)))
      have F:=hG; clear hG
      refine ifE F (fun h=>absurd h (by decide)) (fun _ F=>rgn (by kernel_rfl) (pu2 bF bF (by kernel_rfl) (sf 2 (by kernel_rfl) (pu2 bF bF (by kernel_rfl) (aa (.inl ⟨rfl,⟨false,⟨rfl,rfl,rfl,rfl,rfl,trivial⟩,I.pk [] rfl rfl,F⟩⟩))))))
     refine ifE F (fun dP F=>?_) (fun dP F=>?_)
     ·
      refine ph (bm 3 (iv C) rfl dP (by kernel_rfl) (pu (iv C) (by kernel_rfl) (aa ?_)))
      have hG:=F; rcases Bool.eq_false_or_eq_true Z with rfl | rfl
      ·
       have F:=hG; clear hG
       refine ifE F (fun _ F=>?_) (fun h=>absurd rfl h)
       refine rgn (by kernel_rfl) (pu2 bT bT (by kernel_rfl) (pup (iv C) (by kernel_rfl) (bt F (fun g1 dQ F=>ifE F (fun bV F=>?_) (fun bV F=>?_)))))
       ·
        refine aw (by kernel_rfl) (bg I 76 _ _ (by kernel_rfl) (bn.mono (L76 _ C 0 60 _ dQ) (fun v' w' h=>⟨h.1.trans (congrArg Value.bool bV),h.2⟩)) fun w I=>pu2 bT bT (by kernel_rfl) (aa (.inl ⟨rfl,⟨true,⟨rfl,rfl,rfl,rfl,rfl,trivial⟩,I.pk [] rfl rfl,F⟩⟩)))
       refine aw (by kernel_rfl) (bg I 76 _ _ (by kernel_rfl) (bn.mono (L76 _ C 0 60 _ dQ) (fun v' w' h=>⟨h.1.trans (congrArg Value.bool (Bool.eq_false_iff.2 bV)),h.2⟩)) fun w I=>pu2 bF bF (by kernel_rfl) (aa (.inl ⟨rfl,⟨false,⟨rfl,rfl,rfl,rfl,rfl,trivial⟩,I.pk [] rfl rfl,F⟩⟩)))
      have F:=hG; clear hG
      refine ifE F (fun h=>absurd h (by decide)) (fun _ F=>rgn (by kernel_rfl) (pu2 bF bF (by kernel_rfl) (sf 2 (by kernel_rfl) (pu2 bF bF (by kernel_rfl) (aa (.inl ⟨rfl,⟨false,⟨rfl,rfl,rfl,rfl,rfl,trivial⟩,I.pk [] rfl rfl,F⟩⟩))))))
     refine ifE F (fun dR F=>?_) (fun dR F=>?_)
     ·
      refine ph (bm 4 (iv D) rfl dR (by kernel_rfl) (pu (iv D) (by kernel_rfl) (aa ?_)))
      have hG:=F; rcases Bool.eq_false_or_eq_true Z with rfl | rfl
      ·
       have F:=hG; clear hG
       refine ifE F (fun _ F=>?_) (fun h=>absurd rfl h)
       refine rgn (by kernel_rfl) (pu2 bT bT (by kernel_rfl) (pup (iv D) (by kernel_rfl) (bt F (fun g2 dS F=>ifE F (fun bW F=>?_) (fun bW F=>?_)))))
       ·
        refine aw (by kernel_rfl) (bg I 76 _ _ (by kernel_rfl) (bn.mono (L76 _ D 0 60 _ dS) (fun v' w' h=>⟨h.1.trans (congrArg Value.bool bW),h.2⟩)) fun w I=>pu2 bT bT (by kernel_rfl) (aa (.inl ⟨rfl,⟨true,⟨rfl,rfl,rfl,rfl,rfl,trivial⟩,I.pk [] rfl rfl,F⟩⟩)))
       refine aw (by kernel_rfl) (bg I 76 _ _ (by kernel_rfl) (bn.mono (L76 _ D 0 60 _ dS) (fun v' w' h=>⟨h.1.trans (congrArg Value.bool (Bool.eq_false_iff.2 bW)),h.2⟩)) fun w I=>pu2 bF bF (by kernel_rfl) (aa (.inl ⟨rfl,⟨false,⟨rfl,rfl,rfl,rfl,rfl,trivial⟩,I.pk [] rfl rfl,F⟩⟩)))
      have F:=hG; clear hG
      refine ifE F (fun h=>absurd h (by decide)) (fun _ F=>rgn (by kernel_rfl) (pu2 bF bF (by kernel_rfl) (sf 2 (by kernel_rfl) (pu2 bF bF (by kernel_rfl) (aa (.inl ⟨rfl,⟨false,⟨rfl,rfl,rfl,rfl,rfl,trivial⟩,I.pk [] rfl rfl,F⟩⟩))))))
     refine ifN F (fun dT F=>?_) (fun dT F=>?_)
     ·
      cases F
     refine ph (bm 5 (iv E) rfl dT (by kernel_rfl) (pu (iv E) (by kernel_rfl) (aa ?_)))
     have hG:=F; rcases Bool.eq_false_or_eq_true Z with rfl | rfl
     ·
      have F:=hG; clear hG
      refine ifE F (fun _ F=>?_) (fun h=>absurd rfl h)
      refine rgn (by kernel_rfl) (pu2 bT bT (by kernel_rfl) (pup (iv E) (by kernel_rfl) (bt F (fun g3 dU F=>ifE F (fun bX F=>?_) (fun bX F=>?_)))))
      ·
       refine aw (by kernel_rfl) (bg I 76 _ _ (by kernel_rfl) (bn.mono (L76 _ E 0 60 _ dU) (fun v' w' h=>⟨h.1.trans (congrArg Value.bool bX),h.2⟩)) fun w I=>pu2 bT bT (by kernel_rfl) (aa (.inl ⟨rfl,⟨true,⟨rfl,rfl,rfl,rfl,rfl,trivial⟩,I.pk [] rfl rfl,F⟩⟩)))
      refine aw (by kernel_rfl) (bg I 76 _ _ (by kernel_rfl) (bn.mono (L76 _ E 0 60 _ dU) (fun v' w' h=>⟨h.1.trans (congrArg Value.bool (Bool.eq_false_iff.2 bX)),h.2⟩)) fun w I=>pu2 bF bF (by kernel_rfl) (aa (.inl ⟨rfl,⟨false,⟨rfl,rfl,rfl,rfl,rfl,trivial⟩,I.pk [] rfl rfl,F⟩⟩)))
     have F:=hG; clear hG
     refine ifE F (fun h=>absurd h (by decide)) (fun _ F=>rgn (by kernel_rfl) (pu2 bF bF (by kernel_rfl) (sf 2 (by kernel_rfl) (pu2 bF bF (by kernel_rfl) (aa (.inl ⟨rfl,⟨false,⟨rfl,rfl,rfl,rfl,rfl,trivial⟩,I.pk [] rfl rfl,F⟩⟩))))))
    intro ρ w hJ
    obtain ⟨aW,hag,I,F⟩:=hJ
    obtain ⟨ρ,rfl⟩:=hag.form; clear hag
    unfold gg at F
    refine rgn (by kernel_rfl) (ckE F (fun f2 F=>ph (cj rfl rfl f2 (pu (iv (a9+1)) (by kernel_rfl) (aa (⟨rfl,aV,Nat.lt_succ_self _,⟨aW,a9+1,aV,⟨rfl,rfl,rfl,rfl,rfl,trivial⟩,I.pk [] rfl rfl,F,rfl⟩⟩))))))
   refine ifE F (fun dV F=>?_) (fun dV F=>?_)
   ·
    refine ph (bm 4 (.agg #[iv G,iv H,iv J,iv K,iv L,iv M]) rfl dV (by kernel_rfl) (ph (bh I _ zeroValue54 rfl fun g4 w I=>ph (mb I 0 _ mo rfl rfl rfl rfl rfl rfl fun w I=>aa (ab (rgn (by kernel_rfl) (ph (ma I 0 zi54 mo rfl rfl rfl (pu (iv 0) (by kernel_rfl) (aa (au (cb (fun m ρ w=>∃ (a0:Bool) (aA:Int) (mm:Nat),cd ρ [(3,.bool a0),(20,.agg #[iv a,iv b,iv d,iv e,iv f,iv g,iv i,iv j,iv k,iv l,iv o,iv p,iv q,iv s,iv t,iv u,iv x,iv y,iv z,iv A,iv B,iv C,iv D,iv E,iv G,iv H,iv J,iv K,iv L,iv M,iv O,iv P,iv Q,iv R,iv S,iv T]),(21,iv U),(24,.agg #[iv G,iv H,iv J,iv K,iv L,iv M]),(25,iv aA)]∧Inv [] w0 w []∧F128l13 G H J K L M (pj a b d e f g i j k l o p q s t u x y z A B C D E G H J K L M O P Q R S T N m3) U mm a0 aA=some r∧mm=m) (m:=N) ⟨V,0,N,⟨rfl,rfl,rfl,rfl,rfl,trivial⟩,I.pk [] rfl rfl,F,rfl⟩ ?_))))))))))))
    rintro m ρ w ⟨a0,aA,mm,hag,I,F,hm⟩
    subst hm; obtain ⟨ρ,rfl⟩:=hag.form; clear hag
    obtain _ | aX:=mm
    ·cases (show (none:Option Int)=some r from F)
    replace F:F128b13 G H J K L M (pj a b d e f g i j k l o p q s t u x y z A B C D E G H J K L M O P Q R S T N m3) U (F128l13 G H J K L M (pj a b d e f g i j k l o p q s t u x y z A B C D E G H J K L M O P Q R S T N m3) U aX) a0 aA=some r:=F; unfold F128b13 at F
    refine ab (rgn (by kernel_rfl) (ifN F (fun bY F=>?_) (fun bY F=>?_)))
    ·
     refine ph (cm rfl rfl (fun h=>absurd h bY) (fun _=>aa (ab (ai rfl (bw (.inl ⟨rfl,⟨a0,⟨rfl,rfl,rfl,trivial⟩,I.pk [] rfl rfl,F⟩⟩))))))
    refine ph (cm rfl rfl (fun _=>?_) (fun h=>absurd bY h))
    refine aa (ab (ah rfl (ak (dn (fun ρ w=>∃ (aY:Bool),cd ρ [(3,.bool aY),(20,.agg #[iv a,iv b,iv d,iv e,iv f,iv g,iv i,iv j,iv k,iv l,iv o,iv p,iv q,iv s,iv t,iv u,iv x,iv y,iv z,iv A,iv B,iv C,iv D,iv E,iv G,iv H,iv J,iv K,iv L,iv M,iv O,iv P,iv Q,iv R,iv S,iv T]),(21,iv U),(24,.agg #[iv G,iv H,iv J,iv K,iv L,iv M]),(25,iv aA)]∧Inv [] w0 w []∧gh (F128l13 G H J K L M (pj a b d e f g i j k l o p q s t u x y z A B C D E G H J K L M O P Q R S T N m3) U aX) aA aY=some r) ?_ ?_))))
    ·
     refine au (ab (rgn (by kernel_rfl) (ifE F (fun dW F=>?_) (fun dW F=>?_))))
     ·
      refine ph (bm 0 (iv G) rfl dW (by kernel_rfl) (pu (iv G) (by kernel_rfl) (aa ?_)))
      have hG:=F; rcases Bool.eq_false_or_eq_true a0 with rfl | rfl
      ·
       have F:=hG; clear hG
       refine ifE F (fun _ F=>?_) (fun h=>absurd rfl h)
       refine rgn (by kernel_rfl) (pu2 bT bT (by kernel_rfl) (pup (iv G) (by kernel_rfl) (bt F (fun g5 dX F=>ifE F (fun bZ F=>?_) (fun bZ F=>?_)))))
       ·
        refine aw (by kernel_rfl) (bg I 76 _ _ (by kernel_rfl) (bn.mono (L76 _ G 0 60 _ dX) (fun v' w' h=>⟨h.1.trans (congrArg Value.bool bZ),h.2⟩)) fun w I=>pu2 bT bT (by kernel_rfl) (aa (.inl ⟨rfl,⟨true,⟨rfl,rfl,rfl,rfl,rfl,trivial⟩,I.pk [] rfl rfl,F⟩⟩)))
       refine aw (by kernel_rfl) (bg I 76 _ _ (by kernel_rfl) (bn.mono (L76 _ G 0 60 _ dX) (fun v' w' h=>⟨h.1.trans (congrArg Value.bool (Bool.eq_false_iff.2 bZ)),h.2⟩)) fun w I=>pu2 bF bF (by kernel_rfl) (aa (.inl ⟨rfl,⟨false,⟨rfl,rfl,rfl,rfl,rfl,trivial⟩,I.pk [] rfl rfl,F⟩⟩)))
      have F:=hG; clear hG
      refine ifE F (fun h=>absurd h (by decide)) (fun _ F=>rgn (by kernel_rfl) (pu2 bF bF (by kernel_rfl) (sf 2 (by kernel_rfl) (pu2 bF bF (by kernel_rfl) (aa (.inl ⟨rfl,⟨false,⟨rfl,rfl,rfl,rfl,rfl,trivial⟩,I.pk [] rfl rfl,F⟩⟩))))))
     refine ifE F (fun dY F=>?_) (fun dY F=>?_)
     ·
      refine ph (bm 1 (iv H) rfl dY (by kernel_rfl) (pu (iv H) (by kernel_rfl) (aa ?_)))
      have hG:=F; rcases Bool.eq_false_or_eq_true a0 with rfl | rfl
      ·
       have F:=hG; clear hG
       refine ifE F (fun _ F=>?_) (fun h=>absurd rfl h)
       refine rgn (by kernel_rfl) (pu2 bT bT (by kernel_rfl) (pup (iv H) (by kernel_rfl) (bt F (fun g6 dZ F=>ifE F (fun c0 F=>?_) (fun c0 F=>?_)))))
       ·
        refine aw (by kernel_rfl) (bg I 76 _ _ (by kernel_rfl) (bn.mono (L76 _ H 0 60 _ dZ) (fun v' w' h=>⟨h.1.trans (congrArg Value.bool c0),h.2⟩)) fun w I=>pu2 bT bT (by kernel_rfl) (aa (.inl ⟨rfl,⟨true,⟨rfl,rfl,rfl,rfl,rfl,trivial⟩,I.pk [] rfl rfl,F⟩⟩)))
       refine aw (by kernel_rfl) (bg I 76 _ _ (by kernel_rfl) (bn.mono (L76 _ H 0 60 _ dZ) (fun v' w' h=>⟨h.1.trans (congrArg Value.bool (Bool.eq_false_iff.2 c0)),h.2⟩)) fun w I=>pu2 bF bF (by kernel_rfl) (aa (.inl ⟨rfl,⟨false,⟨rfl,rfl,rfl,rfl,rfl,trivial⟩,I.pk [] rfl rfl,F⟩⟩)))
      have F:=hG; clear hG
      refine ifE F (fun h=>absurd h (by decide)) (fun _ F=>rgn (by kernel_rfl) (pu2 bF bF (by kernel_rfl) (sf 2 (by kernel_rfl) (pu2 bF bF (by kernel_rfl) (aa (.inl ⟨rfl,⟨false,⟨rfl,rfl,rfl,rfl,rfl,trivial⟩,I.pk [] rfl rfl,F⟩⟩))))))
     refine ifE F (fun e0 F=>?_) (fun e0 F=>?_)
     ·
      refine ph (bm 2 (iv J) rfl e0 (by kernel_rfl) (pu (iv J) (by kernel_rfl) (aa ?_)))
      have hG:=F; rcases Bool.eq_false_or_eq_true a0 with rfl | rfl
      ·
       have F:=hG; clear hG
       refine ifE F (fun _ F=>?_) (fun h=>absurd rfl h)
       refine rgn (by kernel_rfl) (pu2 bT bT (by kernel_rfl) (pup (iv J) (by kernel_rfl) (bt F (fun g7 e1 F=>ifE F (fun c1 F=>?_) (fun c1 F=>?_)))))
       ·
        refine aw (by kernel_rfl) (bg I 76 _ _ (by kernel_rfl) (bn.mono (L76 _ J 0 60 _ e1) (fun v' w' h=>⟨h.1.trans (congrArg Value.bool c1),h.2⟩)) fun w I=>pu2 bT bT (by kernel_rfl) (aa (.inl ⟨rfl,⟨true,⟨rfl,rfl,rfl,rfl,rfl,trivial⟩,I.pk [] rfl rfl,F⟩⟩)))
       refine aw (by kernel_rfl) (bg I 76 _ _ (by kernel_rfl) (bn.mono (L76 _ J 0 60 _ e1) (fun v' w' h=>⟨h.1.trans (congrArg Value.bool (Bool.eq_false_iff.2 c1)),h.2⟩)) fun w I=>pu2 bF bF (by kernel_rfl) (aa (.inl ⟨rfl,⟨false,⟨rfl,rfl,rfl,rfl,rfl,trivial⟩,I.pk [] rfl rfl,F⟩⟩)))
      have F:=hG; clear hG
      refine ifE F (fun h=>absurd h (by decide)) (fun _ F=>rgn (by kernel_rfl) (pu2 bF bF (by kernel_rfl) (sf 2 (by kernel_rfl) (pu2 bF bF (by kernel_rfl) (aa (.inl ⟨rfl,⟨false,⟨rfl,rfl,rfl,rfl,rfl,trivial⟩,I.pk [] rfl rfl,F⟩⟩))))))
     refine ifE F (fun e2 F=>?_) (fun e2 F=>?_)
     ·
      refine ph (bm 3 (iv K) rfl e2 (by kernel_rfl) (pu (iv K) (by kernel_rfl) (aa ?_)))
      have hG:=F; rcases Bool.eq_false_or_eq_true a0 with rfl | rfl
      ·
       have F:=hG; clear hG
       refine ifE F (fun _ F=>?_) (fun h=>absurd rfl h)
       refine rgn (by kernel_rfl) (pu2 bT bT (by kernel_rfl) (pup (iv K) (by kernel_rfl) (bt F (fun g8 e3 F=>ifE F (fun c2 F=>?_) (fun c2 F=>?_)))))
       ·
        refine aw (by kernel_rfl) (bg I 76 _ _ (by kernel_rfl) (bn.mono (L76 _ K 0 60 _ e3) (fun v' w' h=>⟨h.1.trans (congrArg Value.bool c2),h.2⟩)) fun w I=>pu2 bT bT (by kernel_rfl) (aa (.inl ⟨rfl,⟨true,⟨rfl,rfl,rfl,rfl,rfl,trivial⟩,I.pk [] rfl rfl,F⟩⟩)))
       refine aw (by kernel_rfl) (bg I 76 _ _ (by kernel_rfl) (bn.mono (L76 _ K 0 60 _ e3) (fun v' w' h=>⟨h.1.trans (congrArg Value.bool (Bool.eq_false_iff.2 c2)),h.2⟩)) fun w I=>pu2 bF bF (by kernel_rfl) (aa (.inl ⟨rfl,⟨false,⟨rfl,rfl,rfl,rfl,rfl,trivial⟩,I.pk [] rfl rfl,F⟩⟩)))
      have F:=hG; clear hG
      refine ifE F (fun h=>absurd h (by decide)) (fun _ F=>rgn (by kernel_rfl) (pu2 bF bF (by kernel_rfl) (sf 2 (by kernel_rfl) (pu2 bF bF (by kernel_rfl) (aa (.inl ⟨rfl,⟨false,⟨rfl,rfl,rfl,rfl,rfl,trivial⟩,I.pk [] rfl rfl,F⟩⟩))))))
     refine ifE F (fun e4 F=>?_) (fun e4 F=>?_)
     ·
      refine ph (bm 4 (iv L) rfl e4 (by kernel_rfl) (pu (iv L) (by kernel_rfl) (aa ?_)))
      have hG:=F; rcases Bool.eq_false_or_eq_true a0 with rfl | rfl
      ·
       have F:=hG; clear hG
       refine ifE F (fun _ F=>?_) (fun h=>absurd rfl h)
       refine rgn (by kernel_rfl) (pu2 bT bT (by kernel_rfl) (pup (iv L) (by kernel_rfl) (bt F (fun g9 e5 F=>ifE F (fun c4 F=>?_) (fun c4 F=>?_)))))
       ·
        refine aw (by kernel_rfl) (bg I 76 _ _ (by kernel_rfl) (bn.mono (L76 _ L 0 60 _ e5) (fun v' w' h=>⟨h.1.trans (congrArg Value.bool c4),h.2⟩)) fun w I=>pu2 bT bT (by kernel_rfl) (aa (.inl ⟨rfl,⟨true,⟨rfl,rfl,rfl,rfl,rfl,trivial⟩,I.pk [] rfl rfl,F⟩⟩)))
       refine aw (by kernel_rfl) (bg I 76 _ _ (by kernel_rfl) (bn.mono (L76 _ L 0 60 _ e5) (fun v' w' h=>⟨h.1.trans (congrArg Value.bool (Bool.eq_false_iff.2 c4)),h.2⟩)) fun w I=>pu2 bF bF (by kernel_rfl) (aa (.inl ⟨rfl,⟨false,⟨rfl,rfl,rfl,rfl,rfl,trivial⟩,I.pk [] rfl rfl,F⟩⟩)))
      have F:=hG; clear hG
      refine ifE F (fun h=>absurd h (by decide)) (fun _ F=>rgn (by kernel_rfl) (pu2 bF bF (by kernel_rfl) (sf 2 (by kernel_rfl) (pu2 bF bF (by kernel_rfl) (aa (.inl ⟨rfl,⟨false,⟨rfl,rfl,rfl,rfl,rfl,trivial⟩,I.pk [] rfl rfl,F⟩⟩))))))
     refine ifN F (fun e6 F=>?_) (fun e6 F=>?_)
     ·
      cases F
     refine ph (bm 5 (iv M) rfl e6 (by kernel_rfl) (pu (iv M) (by kernel_rfl) (aa ?_)))
     have hG:=F; rcases Bool.eq_false_or_eq_true a0 with rfl | rfl
     ·
      have F:=hG; clear hG
      refine ifE F (fun _ F=>?_) (fun h=>absurd rfl h)
      refine rgn (by kernel_rfl) (pu2 bT bT (by kernel_rfl) (pup (iv M) (by kernel_rfl) (bt F (fun gA e7 F=>ifE F (fun c5 F=>?_) (fun c5 F=>?_)))))
      ·
       refine aw (by kernel_rfl) (bg I 76 _ _ (by kernel_rfl) (bn.mono (L76 _ M 0 60 _ e7) (fun v' w' h=>⟨h.1.trans (congrArg Value.bool c5),h.2⟩)) fun w I=>pu2 bT bT (by kernel_rfl) (aa (.inl ⟨rfl,⟨true,⟨rfl,rfl,rfl,rfl,rfl,trivial⟩,I.pk [] rfl rfl,F⟩⟩)))
      refine aw (by kernel_rfl) (bg I 76 _ _ (by kernel_rfl) (bn.mono (L76 _ M 0 60 _ e7) (fun v' w' h=>⟨h.1.trans (congrArg Value.bool (Bool.eq_false_iff.2 c5)),h.2⟩)) fun w I=>pu2 bF bF (by kernel_rfl) (aa (.inl ⟨rfl,⟨false,⟨rfl,rfl,rfl,rfl,rfl,trivial⟩,I.pk [] rfl rfl,F⟩⟩)))
     have F:=hG; clear hG
     refine ifE F (fun h=>absurd h (by decide)) (fun _ F=>rgn (by kernel_rfl) (pu2 bF bF (by kernel_rfl) (sf 2 (by kernel_rfl) (pu2 bF bF (by kernel_rfl) (aa (.inl ⟨rfl,⟨false,⟨rfl,rfl,rfl,rfl,rfl,trivial⟩,I.pk [] rfl rfl,F⟩⟩))))))
    intro ρ w hJ
    obtain ⟨aY,hag,I,F⟩:=hJ
    obtain ⟨ρ,rfl⟩:=hag.form; clear hag
    unfold gh at F
    refine rgn (by kernel_rfl) (ckE F (fun f3 F=>ph (cj rfl rfl f3 (pu (iv (aA+1)) (by kernel_rfl) (aa (⟨rfl,aX,Nat.lt_succ_self _,⟨aY,aA+1,aX,⟨rfl,rfl,rfl,rfl,rfl,trivial⟩,I.pk [] rfl rfl,F,rfl⟩⟩))))))
   refine ifN F (fun e8 F=>?_) (fun e8 F=>?_)
   ·
    cases F
   refine ph (bm 5 (.agg #[iv O,iv P,iv Q,iv R,iv S,iv T]) rfl e8 (by kernel_rfl) (ph (bh I _ zeroValue54 rfl fun gB w I=>ph (mb I 0 _ mo rfl rfl rfl rfl rfl rfl fun w I=>aa (ab (rgn (by kernel_rfl) (ph (ma I 0 zi54 mo rfl rfl rfl (pu (iv 0) (by kernel_rfl) (aa (au (cb (fun m ρ w=>∃ (a1:Bool) (aB:Int) (mm:Nat),cd ρ [(3,.bool a1),(20,.agg #[iv a,iv b,iv d,iv e,iv f,iv g,iv i,iv j,iv k,iv l,iv o,iv p,iv q,iv s,iv t,iv u,iv x,iv y,iv z,iv A,iv B,iv C,iv D,iv E,iv G,iv H,iv J,iv K,iv L,iv M,iv O,iv P,iv Q,iv R,iv S,iv T]),(21,iv U),(24,.agg #[iv O,iv P,iv Q,iv R,iv S,iv T]),(25,iv aB)]∧Inv [] w0 w []∧F128l15 O P Q R S T (pj a b d e f g i j k l o p q s t u x y z A B C D E G H J K L M O P Q R S T N m3) U mm a1 aB=some r∧mm=m) (m:=N) ⟨V,0,N,⟨rfl,rfl,rfl,rfl,rfl,trivial⟩,I.pk [] rfl rfl,F,rfl⟩ ?_))))))))))))
   rintro m ρ w ⟨a1,aB,mm,hag,I,F,hm⟩
   subst hm; obtain ⟨ρ,rfl⟩:=hag.form; clear hag
   obtain _ | aZ:=mm
   ·cases (show (none:Option Int)=some r from F)
   replace F:F128b15 O P Q R S T (pj a b d e f g i j k l o p q s t u x y z A B C D E G H J K L M O P Q R S T N m3) U (F128l15 O P Q R S T (pj a b d e f g i j k l o p q s t u x y z A B C D E G H J K L M O P Q R S T N m3) U aZ) a1 aB=some r:=F; unfold F128b15 at F
   refine ab (rgn (by kernel_rfl) (ifN F (fun c6 F=>?_) (fun c6 F=>?_)))
   ·
    refine ph (cm rfl rfl (fun h=>absurd h c6) (fun _=>aa (ab (ai rfl (bw (.inl ⟨rfl,⟨a1,⟨rfl,rfl,rfl,trivial⟩,I.pk [] rfl rfl,F⟩⟩))))))
   refine ph (cm rfl rfl (fun _=>?_) (fun h=>absurd c6 h))
   refine aa (ab (ah rfl (ak (dn (fun ρ w=>∃ (b0:Bool),cd ρ [(3,.bool b0),(20,.agg #[iv a,iv b,iv d,iv e,iv f,iv g,iv i,iv j,iv k,iv l,iv o,iv p,iv q,iv s,iv t,iv u,iv x,iv y,iv z,iv A,iv B,iv C,iv D,iv E,iv G,iv H,iv J,iv K,iv L,iv M,iv O,iv P,iv Q,iv R,iv S,iv T]),(21,iv U),(24,.agg #[iv O,iv P,iv Q,iv R,iv S,iv T]),(25,iv aB)]∧Inv [] w0 w []∧gl (F128l15 O P Q R S T (pj a b d e f g i j k l o p q s t u x y z A B C D E G H J K L M O P Q R S T N m3) U aZ) aB b0=some r) ?_ ?_))))
   ·
    refine au (ab (rgn (by kernel_rfl) (ifE F (fun e9 F=>?_) (fun e9 F=>?_))))
    ·
     refine ph (bm 0 (iv O) rfl e9 (by kernel_rfl) (pu (iv O) (by kernel_rfl) (aa ?_)))
     have hG:=F; rcases Bool.eq_false_or_eq_true a1 with rfl | rfl
     ·
      have F:=hG; clear hG
      refine ifE F (fun _ F=>?_) (fun h=>absurd rfl h)
      refine rgn (by kernel_rfl) (pu2 bT bT (by kernel_rfl) (pup (iv O) (by kernel_rfl) (bt F (fun gC eA F=>ifE F (fun c7 F=>?_) (fun c7 F=>?_)))))
      ·
       refine aw (by kernel_rfl) (bg I 76 _ _ (by kernel_rfl) (bn.mono (L76 _ O 0 60 _ eA) (fun v' w' h=>⟨h.1.trans (congrArg Value.bool c7),h.2⟩)) fun w I=>pu2 bT bT (by kernel_rfl) (aa (.inl ⟨rfl,⟨true,⟨rfl,rfl,rfl,rfl,rfl,trivial⟩,I.pk [] rfl rfl,F⟩⟩)))
      refine aw (by kernel_rfl) (bg I 76 _ _ (by kernel_rfl) (bn.mono (L76 _ O 0 60 _ eA) (fun v' w' h=>⟨h.1.trans (congrArg Value.bool (Bool.eq_false_iff.2 c7)),h.2⟩)) fun w I=>pu2 bF bF (by kernel_rfl) (aa (.inl ⟨rfl,⟨false,⟨rfl,rfl,rfl,rfl,rfl,trivial⟩,I.pk [] rfl rfl,F⟩⟩)))
     have F:=hG; clear hG
     refine ifE F (fun h=>absurd h (by decide)) (fun _ F=>rgn (by kernel_rfl) (pu2 bF bF (by kernel_rfl) (sf 2 (by kernel_rfl) (pu2 bF bF (by kernel_rfl) (aa (.inl ⟨rfl,⟨false,⟨rfl,rfl,rfl,rfl,rfl,trivial⟩,I.pk [] rfl rfl,F⟩⟩))))))
    refine ifE F (fun eC F=>?_) (fun eC F=>?_)
    ·
     refine ph (bm 1 (iv P) rfl eC (by kernel_rfl) (pu (iv P) (by kernel_rfl) (aa ?_)))
     have hG:=F; rcases Bool.eq_false_or_eq_true a1 with rfl | rfl
     ·
      have F:=hG; clear hG
      refine ifE F (fun _ F=>?_) (fun h=>absurd rfl h)
      refine rgn (by kernel_rfl) (pu2 bT bT (by kernel_rfl) (pup (iv P) (by kernel_rfl) (bt F (fun gD eD F=>ifE F (fun c8 F=>?_) (fun c8 F=>?_)))))
      ·
       refine aw (by kernel_rfl) (bg I 76 _ _ (by kernel_rfl) (bn.mono (L76 _ P 0 60 _ eD) (fun v' w' h=>⟨h.1.trans (congrArg Value.bool c8),h.2⟩)) fun w I=>pu2 bT bT (by kernel_rfl) (aa (.inl ⟨rfl,⟨true,⟨rfl,rfl,rfl,rfl,rfl,trivial⟩,I.pk [] rfl rfl,F⟩⟩)))
      refine aw (by kernel_rfl) (bg I 76 _ _ (by kernel_rfl) (bn.mono (L76 _ P 0 60 _ eD) (fun v' w' h=>⟨h.1.trans (congrArg Value.bool (Bool.eq_false_iff.2 c8)),h.2⟩)) fun w I=>pu2 bF bF (by kernel_rfl) (aa (.inl ⟨rfl,⟨false,⟨rfl,rfl,rfl,rfl,rfl,trivial⟩,I.pk [] rfl rfl,F⟩⟩)))
     have F:=hG; clear hG
     refine ifE F (fun h=>absurd h (by decide)) (fun _ F=>rgn (by kernel_rfl) (pu2 bF bF (by kernel_rfl) (sf 2 (by kernel_rfl) (pu2 bF bF (by kernel_rfl) (aa (.inl ⟨rfl,⟨false,⟨rfl,rfl,rfl,rfl,rfl,trivial⟩,I.pk [] rfl rfl,F⟩⟩))))))
    refine ifE F (fun eE F=>?_) (fun eE F=>?_)
    ·
     refine ph (bm 2 (iv Q) rfl eE (by kernel_rfl) (pu (iv Q) (by kernel_rfl) (aa ?_)))
     have hG:=F; rcases Bool.eq_false_or_eq_true a1 with rfl | rfl
     ·
      have F:=hG; clear hG
      refine ifE F (fun _ F=>?_) (fun h=>absurd rfl h)
      refine rgn (by kernel_rfl) (pu2 bT bT (by kernel_rfl) (pup (iv Q) (by kernel_rfl) (bt F (fun gE eF F=>ifE F (fun cA F=>?_) (fun cA F=>?_)))))
      ·
       refine aw (by kernel_rfl) (bg I 76 _ _ (by kernel_rfl) (bn.mono (L76 _ Q 0 60 _ eF) (fun v' w' h=>⟨h.1.trans (congrArg Value.bool cA),h.2⟩)) fun w I=>pu2 bT bT (by kernel_rfl) (aa (.inl ⟨rfl,⟨true,⟨rfl,rfl,rfl,rfl,rfl,trivial⟩,I.pk [] rfl rfl,F⟩⟩)))
      refine aw (by kernel_rfl) (bg I 76 _ _ (by kernel_rfl) (bn.mono (L76 _ Q 0 60 _ eF) (fun v' w' h=>⟨h.1.trans (congrArg Value.bool (Bool.eq_false_iff.2 cA)),h.2⟩)) fun w I=>pu2 bF bF (by kernel_rfl) (aa (.inl ⟨rfl,⟨false,⟨rfl,rfl,rfl,rfl,rfl,trivial⟩,I.pk [] rfl rfl,F⟩⟩)))
     have F:=hG; clear hG
     refine ifE F (fun h=>absurd h (by decide)) (fun _ F=>rgn (by kernel_rfl) (pu2 bF bF (by kernel_rfl) (sf 2 (by kernel_rfl) (pu2 bF bF (by kernel_rfl) (aa (.inl ⟨rfl,⟨false,⟨rfl,rfl,rfl,rfl,rfl,trivial⟩,I.pk [] rfl rfl,F⟩⟩))))))
    refine ifE F (fun eG F=>?_) (fun eG F=>?_)
    ·
     refine ph (bm 3 (iv R) rfl eG (by kernel_rfl) (pu (iv R) (by kernel_rfl) (aa ?_)))
     have hG:=F; rcases Bool.eq_false_or_eq_true a1 with rfl | rfl
     ·
      have F:=hG; clear hG
      refine ifE F (fun _ F=>?_) (fun h=>absurd rfl h)
      refine rgn (by kernel_rfl) (pu2 bT bT (by kernel_rfl) (pup (iv R) (by kernel_rfl) (bt F (fun gF eH F=>ifE F (fun cB F=>?_) (fun cB F=>?_)))))
      ·
       refine aw (by kernel_rfl) (bg I 76 _ _ (by kernel_rfl) (bn.mono (L76 _ R 0 60 _ eH) (fun v' w' h=>⟨h.1.trans (congrArg Value.bool cB),h.2⟩)) fun w I=>pu2 bT bT (by kernel_rfl) (aa (.inl ⟨rfl,⟨true,⟨rfl,rfl,rfl,rfl,rfl,trivial⟩,I.pk [] rfl rfl,F⟩⟩)))
      refine aw (by kernel_rfl) (bg I 76 _ _ (by kernel_rfl) (bn.mono (L76 _ R 0 60 _ eH) (fun v' w' h=>⟨h.1.trans (congrArg Value.bool (Bool.eq_false_iff.2 cB)),h.2⟩)) fun w I=>pu2 bF bF (by kernel_rfl) (aa (.inl ⟨rfl,⟨false,⟨rfl,rfl,rfl,rfl,rfl,trivial⟩,I.pk [] rfl rfl,F⟩⟩)))
     have F:=hG; clear hG
     refine ifE F (fun h=>absurd h (by decide)) (fun _ F=>rgn (by kernel_rfl) (pu2 bF bF (by kernel_rfl) (sf 2 (by kernel_rfl) (pu2 bF bF (by kernel_rfl) (aa (.inl ⟨rfl,⟨false,⟨rfl,rfl,rfl,rfl,rfl,trivial⟩,I.pk [] rfl rfl,F⟩⟩))))))
    refine ifE F (fun eI F=>?_) (fun eI F=>?_)
    ·
     refine ph (bm 4 (iv S) rfl eI (by kernel_rfl) (pu (iv S) (by kernel_rfl) (aa ?_)))
     have hG:=F; rcases Bool.eq_false_or_eq_true a1 with rfl | rfl
     ·
      have F:=hG; clear hG
      refine ifE F (fun _ F=>?_) (fun h=>absurd rfl h)
      refine rgn (by kernel_rfl) (pu2 bT bT (by kernel_rfl) (pup (iv S) (by kernel_rfl) (bt F (fun gG eJ F=>ifE F (fun cC F=>?_) (fun cC F=>?_)))))
      ·
       refine aw (by kernel_rfl) (bg I 76 _ _ (by kernel_rfl) (bn.mono (L76 _ S 0 60 _ eJ) (fun v' w' h=>⟨h.1.trans (congrArg Value.bool cC),h.2⟩)) fun w I=>pu2 bT bT (by kernel_rfl) (aa (.inl ⟨rfl,⟨true,⟨rfl,rfl,rfl,rfl,rfl,trivial⟩,I.pk [] rfl rfl,F⟩⟩)))
      refine aw (by kernel_rfl) (bg I 76 _ _ (by kernel_rfl) (bn.mono (L76 _ S 0 60 _ eJ) (fun v' w' h=>⟨h.1.trans (congrArg Value.bool (Bool.eq_false_iff.2 cC)),h.2⟩)) fun w I=>pu2 bF bF (by kernel_rfl) (aa (.inl ⟨rfl,⟨false,⟨rfl,rfl,rfl,rfl,rfl,trivial⟩,I.pk [] rfl rfl,F⟩⟩)))
     have F:=hG; clear hG
     refine ifE F (fun h=>absurd h (by decide)) (fun _ F=>rgn (by kernel_rfl) (pu2 bF bF (by kernel_rfl) (sf 2 (by kernel_rfl) (pu2 bF bF (by kernel_rfl) (aa (.inl ⟨rfl,⟨false,⟨rfl,rfl,rfl,rfl,rfl,trivial⟩,I.pk [] rfl rfl,F⟩⟩))))))
    refine ifN F (fun eK F=>?_) (fun eK F=>?_)
    ·
     cases F
    refine ph (bm 5 (iv T) rfl eK (by kernel_rfl) (pu (iv T) (by kernel_rfl) (aa ?_)))
    have hG:=F; rcases Bool.eq_false_or_eq_true a1 with rfl | rfl
    ·
     have F:=hG; clear hG
     refine ifE F (fun _ F=>?_) (fun h=>absurd rfl h)
     refine rgn (by kernel_rfl) (pu2 bT bT (by kernel_rfl) (pup (iv T) (by kernel_rfl) (bt F (fun gH eL F=>ifE F (fun cD F=>?_) (fun cD F=>?_)))))
     ·
      refine aw (by kernel_rfl) (bg I 76 _ _ (by kernel_rfl) (bn.mono (L76 _ T 0 60 _ eL) (fun v' w' h=>⟨h.1.trans (congrArg Value.bool cD),h.2⟩)) fun w I=>pu2 bT bT (by kernel_rfl) (aa (.inl ⟨rfl,⟨true,⟨rfl,rfl,rfl,rfl,rfl,trivial⟩,I.pk [] rfl rfl,F⟩⟩)))
     refine aw (by kernel_rfl) (bg I 76 _ _ (by kernel_rfl) (bn.mono (L76 _ T 0 60 _ eL) (fun v' w' h=>⟨h.1.trans (congrArg Value.bool (Bool.eq_false_iff.2 cD)),h.2⟩)) fun w I=>pu2 bF bF (by kernel_rfl) (aa (.inl ⟨rfl,⟨false,⟨rfl,rfl,rfl,rfl,rfl,trivial⟩,I.pk [] rfl rfl,F⟩⟩)))
    have F:=hG; clear hG
    refine ifE F (fun h=>absurd h (by decide)) (fun _ F=>rgn (by kernel_rfl) (pu2 bF bF (by kernel_rfl) (sf 2 (by kernel_rfl) (pu2 bF bF (by kernel_rfl) (aa (.inl ⟨rfl,⟨false,⟨rfl,rfl,rfl,rfl,rfl,trivial⟩,I.pk [] rfl rfl,F⟩⟩))))))
   intro ρ w hJ
   obtain ⟨b0,hag,I,F⟩:=hJ
   obtain ⟨ρ,rfl⟩:=hag.form; clear hag
   unfold gl at F
   refine rgn (by kernel_rfl) (ckE F (fun f4 F=>ph (cj rfl rfl f4 (pu (iv (aB+1)) (by kernel_rfl) (aa (⟨rfl,aZ,Nat.lt_succ_self _,⟨b0,aB+1,aZ,⟨rfl,rfl,rfl,rfl,rfl,trivial⟩,I.pk [] rfl rfl,F,rfl⟩⟩))))))
  intro ρ w hJ
  obtain ⟨aR,hag,I,F⟩:=hJ
  obtain ⟨ρ,rfl⟩:=hag.form; clear hag
  unfold F128j4 at F
  refine rgn (by kernel_rfl) (ckE F (fun f5 F=>ph (cj rfl rfl f5 (pu (iv (U+1)) (by kernel_rfl) (aa (⟨rfl,m3,Nat.lt_succ_self _,⟨aR,U+1,m3,⟨rfl,rfl,rfl,trivial⟩,I.pk [] rfl rfl,F,rfl⟩⟩))))))
 intro ρ w hJ
 obtain ⟨aQ,hag,I,F⟩:=hJ
 obtain ⟨ρ,rfl⟩:=hag.form; clear hag
 unfold F128j2 at F
 refine ab ?_
 have hG:=F; rcases Bool.eq_false_or_eq_true aQ with rfl | rfl
 ·
  have F:=hG; clear hG
  refine ifE F (fun _ F=>?_) (fun h=>absurd rfl h)
  refine rgn (by kernel_rfl) (pu bT (by kernel_rfl) (bt F (fun f6 f7 F=>ph (bg I 78 _ _ (by kernel_rfl) (L78 _ true 86 _ f7) fun w I=>pu (iv f6) (by kernel_rfl) (aa (aj ?_))))))
  cases F
  exact ⟨_,Ret.r1 rfl rfl,⟨rfl,I.below⟩⟩
 have F:=hG; clear hG
 refine ifE F (fun h=>absurd h (by decide)) (fun _ F=>rgn (by kernel_rfl) (pu bF (by kernel_rfl) (bt F (fun f8 f9 F=>ph (bg I 78 _ _ (by kernel_rfl) (L78 _ false 86 _ f9) fun w I=>pu (iv f8) (by kernel_rfl) (aa (aj ?_)))))))
 cases F
 exact ⟨_,Ret.r1 rfl rfl,⟨rfl,I.below⟩⟩

end Go.K
