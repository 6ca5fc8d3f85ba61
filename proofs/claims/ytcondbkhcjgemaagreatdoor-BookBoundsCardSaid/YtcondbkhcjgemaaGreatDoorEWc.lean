import Derived.Test.YtcondbkhcjgemaaGreatDoorEWb
namespace Go.K
open Go.Proofs.Tryz
open Go.Proofs Go.RowKit
set_option linter.unusedVariables false
set_option linter.unusedSimpArgs false
set_option maxRecDepth 100000
attribute [local irreducible] Seq cw cx fl opX
theorem L47 (w0:World) (s:Option Addr) (m:Nat) (f:List Sp3) (t:Option Addr) (o:Nat) (g:List Sp3) (u:Option Addr) (p:Nat) (j:List Sp3) (a:Int) (d:Int) (e:Int) (C:Option Addr) (E:Nat) (B:List Rc) (hG:Gl w0) (V:bi w0 s (al bb f)) (aF:f.length≤9223372036854775807) (X:f.length≤m) (Y:bi w0 t (al bb g)) (aG:g.length≤9223372036854775807) (Z:g.length≤o) (a0:bi w0 u (al bb j)) (aH:j.length≤9223372036854775807) (a1:j.length≤p) (a2:bi w0 C (al eRc B)) (a3:B.length≤9223372036854775807) (a4:B.length≤E) (N:Nat) (r:Int) (F:F47 N f g j a d e B=some r):bn Tryz.prog 47 [.agg #[uM s f m,uM t g o,uM u j p,iv a,iv d,iv e],uM C B E] w0 fun v w=>v=iv r∧Below w0.heap.size w0 w:=by
 refine az (n:=37) func47 rfl ntmps47 rfl ?_
 have I:=Inv.start w0
 unfold F47 at F
 refine uL rfl (ph (ca I _ rfl fun x w I=>ph (bh I _ zeroValue26 rfl fun b5 w I=>aa (ab (uL rfl (pu (uM C B E) rfl (bt F (fun b6 aI F=>ifN F (fun a5 F=>?_) (fun a5 F=>?_)))))))))
 ·
  refine ph (bg I 96 _ _ (by kernel_rfl) (bn.mono (L96 _ C E B (a2.inv0 I) a3 a4 N _ aI) (uH (Bool.eq_false_iff.2 a5))) fun w I=>pu bT (by kernel_rfl) (aa (ah rfl (uL (by kernel_rfl) (xi I 0 _ zs26 rfl fun w I=>aa (aj ?_))))))
  cases F
  exact ⟨_,Ret.c rfl rfl (bv (I.cell (i:=0) rfl rfl) zi26),⟨rfl,I.below⟩⟩

 refine ph (bg I 96 _ _ (by kernel_rfl) (bn.mono (L96 _ C E B (a2.inv0 I) a3 a4 N _ aI) (uH a5)) fun w I=>pu bF (by kernel_rfl) (aa (ai rfl (ak (uL (by kernel_rfl) (pu (uM C B E) (by kernel_rfl) (bt F (fun q aP F=>ph (co 114 _ (by kernel_rfl) (L114 _ C E B (hG.up I) (a2.inv0 I) a3 a4 N _ aP) ?_)))))))))
 rintro v w ⟨G,H,b7,J,K,b8,L,M,b9,rfl,hN,O,P,Q⟩
 have I:=I.join hN; clear hN
 refine ph (bh I _ zeroValue63 rfl fun R w I=>xi I 0 _ mi rfl fun w I=>aa (ab (uL rfl (xm I 5 mt mi rfl (ph (gr 118 [.agg #[uM s f m,uM t g o,uM u j p,iv a,iv d,iv e]] (by kernel_rfl) (az (n:=4) func118 rfl ntmps118 rfl (uL rfl (ph (ca I _ rfl fun A w I=>pu (.nilFunc) rfl (aa (uL rfl (pu2 (.func (.func 157) #[] #[pt A]) (.func (.func 157) #[] #[pt A]) (by kernel_rfl) (aa (aj (⟨.func (.func 157) #[] #[pt A],Ret.r1 rfl rfl,?_⟩))))))))))))))))
 refine aa (au (wp_rangeFunc I (first := #[]) (cap := #[pt A]) rfl 157 (fun y=>[y,pt A]) (fun l W=>by kernel_rfl) fun rcq2254 lqq2254 w hpsq2254 hasq2254 hboq2254 hofq2254 I=>az (n:=32) func157 rfl ntmps157 rfl (uL rfl (pu (pt A) rfl (xr I 2 3 [uM s f m,uM t g o,uM u j p] zi60 zs60 rfl (pu (iv 0) rfl (aa (au (jx 4 (lh (uL rfl (xl rfl (fun _=>?_) (fun h=>absurd (by decide) h)))))))))))))
 refine aa (ab (ah rfl (ak (ab (au (uL rfl (pu3 (iv 0) (uM s f m) (iv 0) (by kernel_rfl) (pu (uM s f m) rfl (aa (uL rfl (pu3 (iv 0) (uF A 3) (uF A 3) (by kernel_rfl) (xg I 2 (iv a) zi3 rfl (pu3 (iv (if 0 > a then 0 else a)) (uM s f m) (iv ((f.length:Nat):Int)) (by kernel_rfl) (pu2 (iv (qa f a)) (iv (qa f a)) (by kernel_rfl) (aa (ab (gm 9 I (by kernel_rfl) (zB (yfn lqq2254) (iv 0) rfl (zB (uM s f m) (iv (qa f a)) rfl (gdE F (fun aJ F=>gdE F (fun aQ F=>?_))))))))))))))))))))))
 obtain ⟨S,hC2723,aR⟩:=cutA (enc:=bb) (l:=f) (lo:=0) (hi:=(qd f a)) (c:=m) (k:=3) bk V aQ X
 refine zc (.slice S ((qc f a).length) (m - 0)) (fun w I=>aR mj mc rfl (.inr ⟨rfl,rfl⟩) (.inl (congrArg (fun z=>some (Value.int .i64 z)) (Int.toNat_of_nonneg aJ).symm)) br) (zB (uM s f m) (iv (qa f a)) rfl (gdE F (fun aS F=>?_)))
 obtain ⟨a6,hC2725,aT⟩:=cutA (enc:=bb) (l:=f) (lo:=(qd f a)) (hi:=f.length) (c:=m) (k:=3) bk V aS X
 refine zc (.slice a6 ((qb f a).length) (m - (qd f a))) (fun w I=>aT mj mc rfl (.inl (congrArg (fun z=>some (Value.int .i64 z)) (Int.toNat_of_nonneg aJ).symm)) (.inr ⟨rfl,rfl⟩) br) (zP (.agg #[.slice S ((qc f a).length) (m - 0),.slice a6 ((qb f a).length) (m - (qd f a))]) (by kernel_rfl) (zh (fun w I=>ph (li (fv:=yfn lqq2254) [iv 0,.agg #[.slice S ((qc f a).length) (m - 0),.slice a6 ((qb f a).length) (m - (qd f a))]] rfl (by kernel_rfl) ?_))))
 have I:=I.pk [0,1,2,3,4,5,6,7,8] rfl
 refine eu I hofq2254 [15,16] hpsq2254 rfl (by decide) ?_
 rw [hasq2254]
 refine uL rfl (pu (iv 0) rfl (aa (rgn rfl (ph (bh I _ zeroValue179 rfl fun aU w I=>xi I 0 _ zs179 rfl fun w I=>aa (⟨rfl,_,I.pk [1,0,2,3,4,5,6,7,8,9] rfl,?_⟩))))))
 intro w I
 rw [hboq2254]
 refine au (ab (gm 20 I (by kernel_rfl) (zP (pt aU) rfl (zg 1 (.slice S ((qc f a).length) (m - 0)) mq rfl (zc (iv ((qc f a).length:Int)) (fun w I=>kl (iv (((qc f a).length:Nat):Int)) (by kernel_rfl) br) (zB (iv 0) (uF x 3) rfl (zP (uF x 3) rfl (zg 9 (iv a) zi3 rfl (ifN F (fun a7 F=>?_) (fun a7 F=>?_))))))))))
 ·
  refine zc bT (fun w I=>de rfl rfl (fun _=>br) (uP a7)) (zP bT rfl (zf 10 rfl (zP bT rfl (zh (fun w I=>aa (ah rfl (uL rfl (xi I 8 _ zs26 rfl fun w I=>aa (aj (⟨_,I.pk [0,1,2,3,4,5,6,7,8,9] rfl,fun w I=>?_⟩))))))))))
  refine pu bT rfl (aa (ah rfl (aj (⟨.tuple #[],Ret.r0 rfl,?_⟩))))
  refine ⟨_,.inr ⟨.ret,I.pk [0,1,2,3,4,5,6,7,8,9] rfl,fun w I=>?_⟩⟩
  refine aj (cf.mark (D:=rcq2254.defers) (I.pk [2,0,1,3,4,5,6,7,8,9] rfl) ?_)
  intro w I
  cases F
  exact ⟨_,Ret.c rfl rfl (bv (I.cell (i:=7) rfl rfl) zi26),⟨rfl,I.below⟩⟩
 refine zc bF (fun w I=>de rfl rfl (uO a7) (fun _=>br)) (zP bF rfl (zQ (iv 0) rfl rfl (zQ (pt x) rfl rfl (zQ (pt x) rfl rfl (zG 9 (uM s f m) mq rfl rfl (zQ (iv 0) rfl rfl (zQ (pt R) rfl rfl (zQ (pt R) rfl rfl (zG 4 (uN G q.1 H) mq rfl rfl (bt F (fun bA aK F=>ifN F (fun a8 F=>?_) (fun a8 F=>?_))))))))))))
 ·
  refine zo bF rfl (fun w I=>co 125 [uM s f m,uN G q.1 H] (by kernel_rfl) (bn.mono (L125 _ s m f (uG G) H q.1 (V.inv0 I) aF X (I.rowCells 5 rfl O) (am rfl O.big) (am rfl O.cap) N _ aK) (uH (Bool.eq_false_iff.2 a8))) uI) (zQ bT rfl rfl (zP bT rfl (zh (fun w I=>aa (ah rfl (uL rfl (xi I 8 _ zs26 rfl fun w I=>aa (aj (⟨_,I.pk [0,1,2,3,4,5,6,7,8,9] rfl,fun w I=>?_⟩)))))))))
  refine pu bT rfl (aa (ah rfl (aj (⟨.tuple #[],Ret.r0 rfl,?_⟩))))
  refine ⟨_,.inr ⟨.ret,I.pk [0,1,2,3,4,5,6,7,8,9] rfl,fun w I=>?_⟩⟩
  refine aj (cf.mark (D:=rcq2254.defers) (I.pk [2,0,1,3,4,5,6,7,8,9] rfl) ?_)
  intro w I
  cases F
  exact ⟨_,Ret.c rfl rfl (bv (I.cell (i:=7) rfl rfl) zi26),⟨rfl,I.below⟩⟩
 refine zo bT rfl (fun w I=>co 125 [uM s f m,uN G q.1 H] (by kernel_rfl) (bn.mono (L125 _ s m f (uG G) H q.1 (V.inv0 I) aF X (I.rowCells 5 rfl O) (am rfl O.big) (am rfl O.cap) N _ aK) (uH a8)) uI) (zQ bF rfl rfl (zP bF rfl (zh (fun w I=>aa (ai rfl (ak (⟨_,I.pk [0,1,2,3,4,5,6,7,8,9] rfl,fun w I=>?_⟩)))))))
 refine pu bF rfl (aa (ai rfl (ak (rgn rfl (pu2 (iv 1) (iv 1) rfl (aa (⟨rfl,lh ?_⟩)))))))
 refine uL rfl (xl rfl (fun _=>?_) (fun h=>absurd (by decide) h))
 refine aa (ab (ah rfl (ak (ab (au (uL rfl (pu3 (iv 1) (uM t g o) (iv 1) (by kernel_rfl) (pu (uM t g o) rfl (aa (uL rfl (pu3 (iv 1) (uF A 3) (uF A 4) (by kernel_rfl) (xg I 3 (iv d) zi3 rfl (pu3 (iv (if 0 > d then 0 else d)) (uM t g o) (iv ((g.length:Nat):Int)) (by kernel_rfl) (pu2 (iv (qa g d)) (iv (qa g d)) (by kernel_rfl) (aa (ab (gm 9 I (by kernel_rfl) (zB (yfn lqq2254) (iv 1) rfl (zB (uM t g o) (iv (qa g d)) rfl (gdE F (fun aL F=>gdE F (fun aV F=>?_))))))))))))))))))))))
 obtain ⟨T,hC2843,aW⟩:=cutA (enc:=bb) (l:=g) (lo:=0) (hi:=(qd g d)) (c:=o) (k:=3) bk Y aV Z
 refine zc (.slice T ((qc g d).length) (o - 0)) (fun w I=>aW mj mc rfl (.inr ⟨rfl,rfl⟩) (.inl (congrArg (fun z=>some (Value.int .i64 z)) (Int.toNat_of_nonneg aL).symm)) br) (zB (uM t g o) (iv (qa g d)) rfl (gdE F (fun aX F=>?_)))
 obtain ⟨a9,hC2845,aY⟩:=cutA (enc:=bb) (l:=g) (lo:=(qd g d)) (hi:=g.length) (c:=o) (k:=3) bk Y aX Z
 refine zc (.slice a9 ((qb g d).length) (o - (qd g d))) (fun w I=>aY mj mc rfl (.inl (congrArg (fun z=>some (Value.int .i64 z)) (Int.toNat_of_nonneg aL).symm)) (.inr ⟨rfl,rfl⟩) br) (zP (.agg #[.slice T ((qc g d).length) (o - 0),.slice a9 ((qb g d).length) (o - (qd g d))]) (by kernel_rfl) (zh (fun w I=>ph (li (fv:=yfn lqq2254) [iv 1,.agg #[.slice T ((qc g d).length) (o - 0),.slice a9 ((qb g d).length) (o - (qd g d))]] rfl (by kernel_rfl) ?_))))
 have I:=I.pk [0,1,2,3,4,5,6,7,8,9] rfl
 refine eu I hofq2254 [15,16] hpsq2254 rfl (by decide) ?_
 rw [hasq2254]
 refine uL rfl (pu (iv 1) rfl (aa (rgn rfl (ph (bh I _ zeroValue179 rfl fun aZ w I=>xi I 0 _ zs179 rfl fun w I=>aa (⟨rfl,_,I.pk [1,0,2,3,4,5,6,7,8,9,10] rfl,?_⟩))))))
 intro w I
 rw [hboq2254]
 refine au (ab (gm 20 I (by kernel_rfl) (zP (pt aZ) rfl (zg 1 (.slice T ((qc g d).length) (o - 0)) mq rfl (zc (iv ((qc g d).length:Int)) (fun w I=>kl (iv (((qc g d).length:Nat):Int)) (by kernel_rfl) br) (zB (iv 1) (uF x 3) rfl (zP (uF x 4) rfl (zg 10 (iv d) zi3 rfl (ifN F (fun aA F=>?_) (fun aA F=>?_))))))))))
 ·
  refine zc bT (fun w I=>de rfl rfl (fun _=>br) (uP aA)) (zP bT rfl (zf 10 rfl (zP bT rfl (zh (fun w I=>aa (ah rfl (uL rfl (xi I 9 _ zs26 rfl fun w I=>aa (aj (⟨_,I.pk [0,1,2,3,4,5,6,7,8,9,10] rfl,fun w I=>?_⟩))))))))))
  refine pu bT rfl (aa (ah rfl (aj (⟨.tuple #[],Ret.r0 rfl,?_⟩))))
  refine ⟨_,.inr ⟨.ret,I.pk [0,1,2,3,4,5,6,7,8,9,10] rfl,fun w I=>?_⟩⟩
  refine aj (cf.mark (D:=rcq2254.defers) (I.pk [3,0,1,2,4,5,6,7,8,9,10] rfl) ?_)
  intro w I
  cases F
  exact ⟨_,Ret.c rfl rfl (bv (I.cell (i:=8) rfl rfl) zi26),⟨rfl,I.below⟩⟩
 refine zc bF (fun w I=>de rfl rfl (uO aA) (fun _=>br)) (zP bF rfl (zQ (iv 1) rfl rfl (zQ (pt x) rfl rfl (zQ (uF x 1) rfl rfl (zG 10 (uM t g o) mq rfl rfl (zQ (iv 1) rfl rfl (zQ (pt R) rfl rfl (zQ (uF R 1) rfl rfl (zG 5 (uN J q.2.1 K) mq rfl rfl (bt F (fun bB aM F=>ifN F (fun aB F=>?_) (fun aB F=>?_))))))))))))
 ·
  refine zo bF rfl (fun w I=>co 125 [uM t g o,uN J q.2.1 K] (by kernel_rfl) (bn.mono (L125 _ t o g (uG J) K q.2.1 (Y.inv0 I) aG Z (I.rowCells 7 rfl P) (am rfl P.big) (am rfl P.cap) N _ aM) (uH (Bool.eq_false_iff.2 aB))) uI) (zQ bT rfl rfl (zP bT rfl (zh (fun w I=>aa (ah rfl (uL rfl (xi I 9 _ zs26 rfl fun w I=>aa (aj (⟨_,I.pk [0,1,2,3,4,5,6,7,8,9,10] rfl,fun w I=>?_⟩)))))))))
  refine pu bT rfl (aa (ah rfl (aj (⟨.tuple #[],Ret.r0 rfl,?_⟩))))
  refine ⟨_,.inr ⟨.ret,I.pk [0,1,2,3,4,5,6,7,8,9,10] rfl,fun w I=>?_⟩⟩
  refine aj (cf.mark (D:=rcq2254.defers) (I.pk [3,0,1,2,4,5,6,7,8,9,10] rfl) ?_)
  intro w I
  cases F
  exact ⟨_,Ret.c rfl rfl (bv (I.cell (i:=8) rfl rfl) zi26),⟨rfl,I.below⟩⟩
 refine zo bT rfl (fun w I=>co 125 [uM t g o,uN J q.2.1 K] (by kernel_rfl) (bn.mono (L125 _ t o g (uG J) K q.2.1 (Y.inv0 I) aG Z (I.rowCells 7 rfl P) (am rfl P.big) (am rfl P.cap) N _ aM) (uH aB)) uI) (zQ bF rfl rfl (zP bF rfl (zh (fun w I=>aa (ai rfl (ak (⟨_,I.pk [0,1,2,3,4,5,6,7,8,9,10] rfl,fun w I=>?_⟩)))))))
 refine pu bF rfl (aa (ai rfl (ak (rgn rfl (pu2 (iv 2) (iv 2) rfl (aa (⟨rfl,lh ?_⟩)))))))
 refine uL rfl (xl rfl (fun _=>?_) (fun h=>absurd (by decide) h))
 refine aa (ab (ah rfl (ak (ab (au (uL rfl (pu3 (iv 2) (uM u j p) (iv 2) (by kernel_rfl) (pu (uM u j p) rfl (aa (uL rfl (pu3 (iv 2) (uF A 3) (uF A 5) (by kernel_rfl) (xg I 4 (iv e) zi3 rfl (pu3 (iv (if 0 > e then 0 else e)) (uM u j p) (iv ((j.length:Nat):Int)) (by kernel_rfl) (pu2 (iv (qa j e)) (iv (qa j e)) (by kernel_rfl) (aa (ab (gm 9 I (by kernel_rfl) (zB (yfn lqq2254) (iv 2) rfl (zB (uM u j p) (iv (qa j e)) rfl (gdE F (fun aN F=>gdE F (fun b0 F=>?_))))))))))))))))))))))
 obtain ⟨U,hC2963,b1⟩:=cutA (enc:=bb) (l:=j) (lo:=0) (hi:=(qd j e)) (c:=p) (k:=3) bk a0 b0 a1
 refine zc (.slice U ((qc j e).length) (p - 0)) (fun w I=>b1 mj mc rfl (.inr ⟨rfl,rfl⟩) (.inl (congrArg (fun z=>some (Value.int .i64 z)) (Int.toNat_of_nonneg aN).symm)) br) (zB (uM u j p) (iv (qa j e)) rfl (gdE F (fun b2 F=>?_)))
 obtain ⟨aC,hC2965,b3⟩:=cutA (enc:=bb) (l:=j) (lo:=(qd j e)) (hi:=j.length) (c:=p) (k:=3) bk a0 b2 a1
 refine zc (.slice aC ((qb j e).length) (p - (qd j e))) (fun w I=>b3 mj mc rfl (.inl (congrArg (fun z=>some (Value.int .i64 z)) (Int.toNat_of_nonneg aN).symm)) (.inr ⟨rfl,rfl⟩) br) (zP (.agg #[.slice U ((qc j e).length) (p - 0),.slice aC ((qb j e).length) (p - (qd j e))]) (by kernel_rfl) (zh (fun w I=>ph (li (fv:=yfn lqq2254) [iv 2,.agg #[.slice U ((qc j e).length) (p - 0),.slice aC ((qb j e).length) (p - (qd j e))]] rfl (by kernel_rfl) ?_))))
 have I:=I.pk [0,1,2,3,4,5,6,7,8,9,10] rfl
 refine eu I hofq2254 [15,16] hpsq2254 rfl (by decide) ?_
 rw [hasq2254]
 refine uL rfl (pu (iv 2) rfl (aa (rgn rfl (ph (bh I _ zeroValue179 rfl fun b4 w I=>xi I 0 _ zs179 rfl fun w I=>aa (⟨rfl,_,I.pk [1,0,2,3,4,5,6,7,8,9,10,11] rfl,?_⟩))))))
 intro w I
 rw [hboq2254]
 refine au (ab (gm 20 I (by kernel_rfl) (zP (pt b4) rfl (zg 1 (.slice U ((qc j e).length) (p - 0)) mq rfl (zc (iv ((qc j e).length:Int)) (fun w I=>kl (iv (((qc j e).length:Nat):Int)) (by kernel_rfl) br) (zB (iv 2) (uF x 3) rfl (zP (uF x 5) rfl (zg 11 (iv e) zi3 rfl (ifN F (fun aD F=>?_) (fun aD F=>?_))))))))))
 ·
  refine zc bT (fun w I=>de rfl rfl (fun _=>br) (uP aD)) (zP bT rfl (zf 10 rfl (zP bT rfl (zh (fun w I=>aa (ah rfl (uL rfl (xi I 10 _ zs26 rfl fun w I=>aa (aj (⟨_,I.pk [0,1,2,3,4,5,6,7,8,9,10,11] rfl,fun w I=>?_⟩))))))))))
  refine pu bT rfl (aa (ah rfl (aj (⟨.tuple #[],Ret.r0 rfl,?_⟩))))
  refine ⟨_,.inr ⟨.ret,I.pk [0,1,2,3,4,5,6,7,8,9,10,11] rfl,fun w I=>?_⟩⟩
  refine aj (cf.mark (D:=rcq2254.defers) (I.pk [4,0,1,2,3,5,6,7,8,9,10,11] rfl) ?_)
  intro w I
  cases F
  exact ⟨_,Ret.c rfl rfl (bv (I.cell (i:=9) rfl rfl) zi26),⟨rfl,I.below⟩⟩
 refine zc bF (fun w I=>de rfl rfl (uO aD) (fun _=>br)) (zP bF rfl (zQ (iv 2) rfl rfl (zQ (pt x) rfl rfl (zQ (uF x 2) rfl rfl (zG 11 (uM u j p) mq rfl rfl (zQ (iv 2) rfl rfl (zQ (pt R) rfl rfl (zQ (uF R 2) rfl rfl (zG 6 (uN L q.2.2.1 M) mq rfl rfl (bt F (fun bC aO F=>ifN F (fun aE F=>?_) (fun aE F=>?_))))))))))))
 ·
  refine zo bF rfl (fun w I=>co 125 [uM u j p,uN L q.2.2.1 M] (by kernel_rfl) (bn.mono (L125 _ u p j (uG L) M q.2.2.1 (a0.inv0 I) aH a1 (I.rowCells 9 rfl Q) (am rfl Q.big) (am rfl Q.cap) N _ aO) (uH (Bool.eq_false_iff.2 aE))) uI) (zQ bT rfl rfl (zP bT rfl (zh (fun w I=>aa (ah rfl (uL rfl (xi I 10 _ zs26 rfl fun w I=>aa (aj (⟨_,I.pk [0,1,2,3,4,5,6,7,8,9,10,11] rfl,fun w I=>?_⟩)))))))))
  refine pu bT rfl (aa (ah rfl (aj (⟨.tuple #[],Ret.r0 rfl,?_⟩))))
  refine ⟨_,.inr ⟨.ret,I.pk [0,1,2,3,4,5,6,7,8,9,10,11] rfl,fun w I=>?_⟩⟩
  refine aj (cf.mark (D:=rcq2254.defers) (I.pk [4,0,1,2,3,5,6,7,8,9,10,11] rfl) ?_)
  intro w I
  cases F
  exact ⟨_,Ret.c rfl rfl (bv (I.cell (i:=9) rfl rfl) zi26),⟨rfl,I.below⟩⟩
 refine zo bT rfl (fun w I=>co 125 [uM u j p,uN L q.2.2.1 M] (by kernel_rfl) (bn.mono (L125 _ u p j (uG L) M q.2.2.1 (a0.inv0 I) aH a1 (I.rowCells 9 rfl Q) (am rfl Q.big) (am rfl Q.cap) N _ aO) (uH aE)) uI) (zQ bF rfl rfl (zP bF rfl (zh (fun w I=>aa (ai rfl (ak (⟨_,I.pk [0,1,2,3,4,5,6,7,8,9,10,11] rfl,fun w I=>?_⟩)))))))
 refine pu bF rfl (aa (ai rfl (ak (rgn rfl (pu2 (iv 3) (iv 3) rfl (aa (⟨rfl,lh ?_⟩)))))))
 refine uL rfl (xl rfl (fun h=>absurd h (by decide)) (fun _=>aa (ab (ai rfl (bw (⟨.tuple #[],Ret.r0 rfl,?_⟩))))))
 refine ⟨_,.inl ⟨I.pk [0,1,2,3,4,5,6,7,8,9,10,11] rfl,fun w I=>?_⟩⟩
 refine uL rfl (xi I 10 _ zs26 rfl fun w I=>aa (aj (cf.mark (D:=rcq2254.defers) (I.pk [4,0,1,2,3,5,6,7,8,9,10,11] rfl) ?_)))
 intro w I
 cases F
 exact ⟨_,Ret.c rfl rfl (bv (I.cell (i:=9) rfl rfl) zi26),⟨rfl,I.below⟩⟩
theorem L154 (w0:World) (d:Option Addr) (e:Nat) (a:List Sp3) (f:bi w0 d (al bb a)) (g:a.length≤9223372036854775807) (h:a.length≤e) (r:List Sp3) (F:F154 a=some r):bn Tryz.prog 154 [uM d a e] w0 fun v w=>∃ z0 z1 z2,v=uN z0 r z1∧Inv [] w0 w [(z0,blk z2 35)]∧Row 3 z0 r.length z1 z2 (al bb r):=by
 refine gdE F (fun hb F=>?_)
 cases F
 refine az (n:=8) func154 rfl ntmps154 rfl ?_
 have I:=Inv.start w0
 refine uL rfl (pu uD rfl (aa (ab (uL rfl (pu (uM d a e) rfl (ph (s_eqnil mj rfl rfl ?_ ?_)))))))
 · intro h1; subst h1
   obtain rfl:=flat_nil_of bk (by decide) f.nil_of
   refine aa (ah rfl (uL rfl (pu uD rfl (aa (aj ?_)))))
   have I:=I.nilRow 35
   exact ⟨uD,Ret.r1 rfl rfl,⟨none,0,[],rfl,I.pk [0] rfl,Row.nil_ 3⟩⟩
 intro h2
 refine aa (ai rfl (ak (uL rfl (ph (fu I [] 35 (fun b=>slv (some b) 0 0) (by kernel_rfl) fun b1 w I=>pu (uM d a e) (by kernel_rfl) (ph (ks I mj (z:=.agg #[iv 0,iv 0,uE []]) (k:=3) (bytes:=32) rfl rfl rfl 0 rfl rfl (Row.zero_ 3 b1) (al bb a) rfl (dt bk _) (f.inv0 I) (nz eSp3_cell _) (by omega) (by omega) (n2:=a.length) (by omega) fun g2 c3 cl4 w I r5=>pu (uN g2 a c3) rfl (aa (aj (⟨uN g2 a c3,Ret.r1 rfl rfl,⟨g2,c3,cl4,rfl,I.pk [0] rfl,r5⟩⟩))))))))))

set_option maxHeartbeats 8000000 in
theorem L109 (w0:World) (e:Option Addr) (f:Nat) (a:List Sp3) (g:Option Addr) (i:Nat) (b:List Sp3) (j:Option Addr) (k:Nat) (d:List Sp3) (m:Int) (o:Int) (p:Int) (C:bi w0 e (al bb a)) (D:a.length≤9223372036854775807) (E:a.length≤f) (G:bi w0 g (al bb b)) (H:b.length≤9223372036854775807) (J:b.length≤i) (K:bi w0 j (al bb d)) (L:d.length≤9223372036854775807) (M:d.length≤k) (r:(List Sp3 × List Sp3 × List Sp3 × Int × Int × Int)) (F:F109 a b d m o p=some r):bn Tryz.prog 109 [.agg #[uM e a f,uM g b i,uM j d k,iv m,iv o,iv p]] w0 fun v w=>∃ z0 z1 z2 z3 z4 z5 z6 z7 z8,v=.agg #[uN z0 r.1 z1,uN z3 r.2.1 z4,uN z6 r.2.2.1 z7,iv r.2.2.2.1,iv r.2.2.2.2.1,iv r.2.2.2.2.2]∧Inv [] w0 w [(z0,blk z2 35),(z3,blk z5 35),(z6,blk z8 35)]∧Row 3 z0 r.1.length z1 z2 (al bb r.1)∧Row 3 z3 r.2.1.length z4 z5 (al bb r.2.1)∧Row 3 z6 r.2.2.1.length z7 z8 (al bb r.2.2.1):=by
 refine az (n:=18) func109 rfl ntmps109 rfl ?_
 have I:=Inv.start w0
 unfold F109 at F
 refine uL rfl (ph (ca I _ rfl fun l w I=>ph (bh I _ zeroValue63 rfl fun W w I=>aa (ab (uL rfl (pu (pt l) rfl (xr I 1 3 [uM e a f,uM g b i,uM j d k] zi60 zs60 rfl (pu (iv 0) rfl (aa (au (jx 4 (lh (uL rfl (xl rfl (fun _=>?_) (fun h=>absurd (by decide) h)))))))))))))))
 refine aa (ab (ah rfl (ak (ab (au (uL (by kernel_rfl) (pu3 (iv 0) (uM e a f) (iv 0) (by kernel_rfl) (pu (uM e a f) (by kernel_rfl) (aa (rgn (by kernel_rfl) (pu2 (iv 0) (uM e a f) (by kernel_rfl) (bt F (fun z N F=>ph (co 154 _ (by kernel_rfl) (L154 _ e f a (C.inv0 I) D E _ N) ?_))))))))))))))
 rintro v w ⟨q,s,O,rfl,hN,P⟩
 have I:=I.join hN; clear hN
 refine pu2 (pt l) (pt l) rfl (xq I 2 1 [uN q z s] mw rfl (mx rfl) fun w I=>aa (rgn rfl (pu2 (iv 1) (iv 1) rfl (aa (⟨rfl,lh ?_⟩)))))
 refine uL rfl (xl rfl (fun _=>?_) (fun h=>absurd (by decide) h))
 refine aa (ab (ah rfl (ak (ab (au (uL (by kernel_rfl) (pu3 (iv 1) (uM g b i) (iv 1) (by kernel_rfl) (pu (uM g b i) (by kernel_rfl) (aa (rgn (by kernel_rfl) (pu2 (iv 1) (uM g b i) (by kernel_rfl) (bt F (fun A Q F=>ph (co 154 _ (by kernel_rfl) (L154 _ g i b (G.inv0 I) H J _ Q) ?_))))))))))))))
 rintro v w ⟨t,u,R,rfl,hN,S⟩
 have I:=I.join hN; clear hN
 refine pu2 (pt l) (uF l 1) rfl (xq I 3 1 [uN t A u] mw rfl (mx rfl) fun w I=>aa (rgn rfl (pu2 (iv 2) (iv 2) rfl (aa (⟨rfl,lh ?_⟩)))))
 refine uL rfl (xl rfl (fun _=>?_) (fun h=>absurd (by decide) h))
 refine aa (ab (ah rfl (ak (ab (au (uL (by kernel_rfl) (pu3 (iv 2) (uM j d k) (iv 2) (by kernel_rfl) (pu (uM j d k) (by kernel_rfl) (aa (rgn (by kernel_rfl) (pu2 (iv 2) (uM j d k) (by kernel_rfl) (bt F (fun B T F=>ph (co 154 _ (by kernel_rfl) (L154 _ j k d (K.inv0 I) L M _ T) ?_))))))))))))))
 rintro v w ⟨x,y,U,rfl,hN,V⟩
 have I:=I.join hN; clear hN
 refine pu2 (pt l) (uF l 2) rfl (xq I 4 1 [uN x B y] mw rfl (mx rfl) fun w I=>aa (rgn rfl (pu2 (iv 3) (iv 3) rfl (aa (⟨rfl,lh ?_⟩)))))
 refine uL rfl (xl rfl (fun h=>absurd h (by decide)) (fun _=>aa (ab (ai rfl (bw (uL rfl (xm I 4 mt mi rfl (xi I 3 _ mi rfl fun w I=>aa (aj ?_)))))))))
 cases F
 exact ⟨_,Ret.c rfl rfl (ce I 3 6 [uN q z s,uN t A u,uN x B y,iv m,iv o,iv p] mt mi rfl rfl rfl),⟨q,s,O,t,u,R,x,y,U,rfl,I.pk [2,1,0] rfl,P.to rfl rfl,S.to rfl rfl,V.to rfl rfl⟩⟩


theorem L155 (w0:World) (i:Option Addr) (j:Nat) (f:List Rc) (a:Rc) (u:bi w0 i (al eRc f)) (E:f.length≤9223372036854775807) (G:f.length≤j) (N:Nat) (r:Int) (F:F155 N f a=some r):bn Tryz.prog 155 [uM i f j,.agg (qg a).toArray] w0 fun v w=>v=iv r∧Below w0.heap.size w0 w:=by
 refine az (n:=19) func155 rfl ntmps155 rfl ?_
 have I:=Inv.start w0
 unfold F155 at F
 refine uL rfl (ph (ca I _ rfl fun q w I=>pu (iv 0) rfl (aa (ab (uL rfl (pu3 (uM i f j) (iv ((f.length:Nat):Int)) (iv 0) (by kernel_rfl) (aa (au (cb (fun m ρ w=>∃ g mm,cd ρ [(0,uM i f j),(3,pt q),(7,iv (f.length:Int)),(8,iv g)]∧Inv [] w0 w [(some q,blk (qg a) 25)]∧F155l1 f a mm g=some r∧mm=m) (m:=N) ⟨0,N,(uK rfl),I.pk [0] rfl,F,rfl⟩ ?_)))))))))
 rintro m ρ w ⟨g,mm,hag,I,F,hm⟩
 subst hm; obtain ⟨ρ,rfl⟩:=hag.form
 obtain _ | m1:=mm
 ·cases (show (none:Option Int)=some r from F)
 replace F:F155b1 f a (F155l1 f a m1) g=some r:=F; unfold F155b1 at F
 refine uL rfl (ifN F (fun l F=>?_) (fun l F=>?_))
 ·
  refine xl rfl (uP l) (fun _=>aa (ab (ai rfl (bw (uL rfl (pu (iv (-1)) rfl (aa (aj ?_))))))))
  cases F
  exact uJ I rfl


 refine xl rfl (fun _=>?_) (uO l)
 refine aa (ab (ah rfl (ak (ab (au (uL rfl (pu2 (iv g) (iv g) rfl (aa (ab (gm 6 I (by kernel_rfl) (zm 0 (qg a) mh md rfl (zB (uM i f j) (iv g) rfl (gdE F (fun x F=>bt F (fun e s F=>?_)))))))))))))))
 obtain ⟨y,z,A,B,C⟩:=u.at_ bx (by decide) s
 refine zc (uF y (z+(g).toNat * 8)) (fun w I=>cn (g).toNat nt md rfl A rfl (Int.toNat_of_nonneg x).symm (fa s rfl) br) (zc (.agg (qg e).toArray) (fun w I=>ef I (qg e) mh md rfl rfl B (by simp) C br) (ifE F (fun o F=>?_) (fun o F=>?_)))
 ·
  refine zc bT (fun w I=>kz (b:=decide (a.p=e.p) && decide (a.n=e.n) && decide (a.k=e.k) && decide (a.d=e.d) && decide (a.kn=e.kn) && decide (a.op=e.op) && decide (a.on=e.on) && decide (a.t=e.t)) rfl rfl (by kernel_rfl) (fun w=>eq25 _ a.p a.n a.k a.d a.kn a.op a.on a.t e.p e.n e.k e.d e.kn e.op e.on e.t w) (fun _=>br) (uO o)) (zh (fun w I=>aa (ah rfl (uL rfl (pu2 (iv g) (iv g) rfl (aa (aj ?_)))))))
  cases F
  exact uJ I rfl
 refine zc bF (fun w I=>kz (b:=decide (a.p=e.p) && decide (a.n=e.n) && decide (a.k=e.k) && decide (a.d=e.d) && decide (a.kn=e.kn) && decide (a.op=e.op) && decide (a.on=e.on) && decide (a.t=e.t)) rfl rfl (by kernel_rfl) (fun w=>eq25 _ a.p a.n a.k a.d a.kn a.op a.on a.t e.p e.n e.k e.d e.kn e.op e.on e.t w) (uP o) (fun _=>br)) (zh (fun w I=>aa (ai rfl (ak (rgn rfl (ckE F (fun D F=>xa rfl D (pu (iv (g+1)) rfl (aa (⟨rfl,m1,Nat.lt_succ_self _,⟨g+1,m1,(uK rfl),I.pk [0] rfl,F,rfl⟩⟩))))))))))
theorem L110 (w0:World) (e:Option Addr) (f:Nat) (b:List Rc) (a:Rc) (g:bi w0 e (al eRc b)) (i:b.length≤9223372036854775807) (j:b.length≤f) (N:Nat) (r:Bool) (F:F110 N b a=some r):bn Tryz.prog 110 [uM e b f,.agg (qg a).toArray] w0 fun v w=>v=.bool r∧Below w0.heap.size w0 w:=by
 refine az (n:=9) func110 rfl ntmps110 rfl ?_
 have I:=Inv.start w0
 unfold F110 at F
 refine uL (by kernel_rfl) (ph (ca I _ rfl fun b7 w I=>pu bF (by kernel_rfl) (aa (uL (by kernel_rfl) (pu (uM e b f) (by kernel_rfl) (xm I 0 mh md rfl (bt F (fun m l F=>ph (bg I 155 _ _ (by kernel_rfl) (L155 _ e f b a (g.inv0 I) i j N _ l) fun w I=>ifE F (fun h4 F=>?_) (fun h4 F=>?_))))))))))
 ·
  refine ph (s_geq rfl rfl (fun _=>?_) (uO h4))
  refine pu bT rfl (aa (aj ?_))
  cases F
  exact uJ I rfl
 refine ph (s_geq rfl rfl (uP h4) (fun _=>pu bF rfl (aa (aj ?_))))
 cases F
 exact uJ I rfl


theorem L38 (w0:World) (a0:Option Addr) (a1:Nat) (P:List Sp3) (a2:Option Addr) (a3:Nat) (Q:List Sp3) (a4:Option Addr) (a5:Nat) (R:List Sp3) (a6:Int) (a7:Int) (a8:Int) (M:Option Addr) (O:Nat) (s:List Rc) (a:Rc) (hG:Gl w0) (cO:bi w0 a0 (al bb P)) (cP:P.length≤9223372036854775807) (cQ:P.length≤a1) (cR:bi w0 a2 (al bb Q)) (cS:Q.length≤9223372036854775807) (cT:Q.length≤a3) (cU:bi w0 a4 (al bb R)) (cV:R.length≤9223372036854775807) (cW:R.length≤a5) (aR:bi w0 M (al eRc s)) (aS:s.length≤9223372036854775807) (aT:s.length≤O) (N:Nat) (r:(List Sp3 × List Sp3 × List Sp3 × Int × Int × Int × List Rc × Int)) (F:F38 N P Q R a6 a7 a8 s a=some r):bn Tryz.prog 38 [.agg #[uM a0 P a1,uM a2 Q a3,uM a4 R a5,iv a6,iv a7,iv a8],uM M s O,.agg (qg a).toArray] w0 fun v w=>∃ z0 z1 z2 z3 z4 z5 z6 z7 z8 z9 cX cY,v=.tuple #[.agg #[uN z0 r.1 z1,uN z3 r.2.1 z4,uN z6 r.2.2.1 z7,iv r.2.2.2.1,iv r.2.2.2.2.1,iv r.2.2.2.2.2.1],uN z9 r.2.2.2.2.2.2.1 cX,iv r.2.2.2.2.2.2.2]∧Inv [] w0 w [(z0,blk z2 35),(z3,blk z5 35),(z6,blk z8 35),(z9,blk cY 25)]∧Row 3 z0 r.1.length z1 z2 (al bb r.1)∧Row 3 z3 r.2.1.length z4 z5 (al bb r.2.1)∧Row 3 z6 r.2.2.1.length z7 z8 (al bb r.2.2.1)∧Row 8 z9 r.2.2.2.2.2.2.1.length cX cY (al eRc r.2.2.2.2.2.2.1):=by
 refine az (n:=49) func38 rfl ntmps38 rfl ?_
 have I:=Inv.start w0
 unfold F38 at F
 refine uL (by kernel_rfl) (ph (ca I _ rfl fun aQ w I=>ph (ca I _ rfl fun S w I=>ph (bh I _ zeroValue63 rfl fun L w I=>pu2 uD (iv 0) (by kernel_rfl) (aa (ab (uL (by kernel_rfl) (xm I 2 mt mi rfl (pu (uM M s O) (by kernel_rfl) (bt F (fun bA dD F=>ph (bg I 47 _ _ (by kernel_rfl) (L47 _ a0 a1 P a2 a3 Q a4 a5 R a6 a7 a8 M O s (hG.up I) (cO.inv0 I) cP cQ (cR.inv0 I) cS cT (cU.inv0 I) cV cW (aR.inv0 I) aS aT N _ dD) fun w I=>pu (iv bA) (by kernel_rfl) (aa (uL (by kernel_rfl) (pu (iv bA) (by kernel_rfl) (ifN F (fun c4 F=>?_) (fun c4 F=>?_)))))))))))))))))
 ·
  refine xn rfl (fun _=>?_) (uP c4)
  refine aa (ah rfl (uL rfl (pu2 (.agg #[uD,uD,uD,iv 0,iv 0,iv 0]) (iv bA) (by kernel_rfl) (xi I 0 _ mi rfl fun w I=>pu2 uD (iv bA) rfl (aa (aj ?_))))))
  have I:=I.nilRow 35
  have I:=I.nilRow 35
  have I:=I.nilRow 35
  have I:=I.nilRow 25
  cases F
  exact ⟨_,Ret.ctt rfl rfl (ce I 4 6 [uD,uD,uD,iv 0,iv 0,iv 0] mt mi rfl rfl rfl) rfl rfl,⟨none,0,[],none,0,[],none,0,[],none,0,[],rfl,I.pk [1,2,3,0] rfl,Row.nil_ 3,Row.nil_ 3,Row.nil_ 3,Row.nil_ 8⟩⟩


 refine xn rfl (uO c4) (fun _=>aa (ai rfl (ak (ab (ab (bt F (fun aF dE F=>bt F (fun x dF F=>kx [tv (fun _=>(uM M s O)),⟨fun y=>(.agg #[slv ((y 1).g 0) aF.length ((y 1).c 0)]),fun y=>[(((y 1).g 0),blk ((y 1).cl 0) 25)],fun y=>(Row 8 ((y 1).g 0) aF.length ((y 1).c 0) ((y 1).cl 0) (al eRc aF)),[],[]⟩,tr (fun _=>(.agg (qg a).toArray)) [11],⟨fun y=>(.tuple #[.agg #[slv ((y 3).g 0) x.1.length ((y 3).c 0)],iv x.2]),fun y=>[(((y 3).g 0),blk ((y 3).cl 0) 25)],fun y=>(Row 8 ((y 3).g 0) x.1.length ((y 3).c 0) ((y 3).cl 0) (al eRc x.1)),[],[1]⟩,tv (fun y=>(.tuple #[.agg #[slv ((y 3).g 0) x.1.length ((y 3).c 0)],iv x.2])),tv (fun y=>(.agg #[slv ((y 3).g 0) x.1.length ((y 3).c 0)])),tv (fun _=>(iv x.2)),tal 7 [uD] 47,tst (fun y=>[(some (y 7).b,blk [slv ((y 3).g 0) x.1.length ((y 3).c 0)] 47)]) 7,tv (fun _=>(iv x.2))] (fun _=>[(1,uM M s O),(3,pt aQ),(5,pt S),(6,pt L),(11,iv x.2)]) (fun y=>[(((y 1).g 0),blk ((y 1).cl 0) 25),(((y 3).g 0),blk ((y 3).cl 0) 25),(some (y 7).b,blk [slv ((y 3).g 0) x.1.length ((y 3).c 0)] 47),(some L,blk [uD,uD,uD,iv 0,iv 0,iv 0] 63),(some S,blk (qg a) 25),(some aQ,blk [uM a0 P a1,uM a2 Q a3,uM a4 R a5,iv a6,iv a7,iv a8] 63)]) I (by kernel_rfl) (fun y=>⟨rfl,rfl⟩) (fun y=>?_) ?_))))))))
 ·
  refine tt rfl rfl (tg (.agg #[slv ((y 1).g 0) aF.length ((y 1).c 0)]) [] [] rfl ⟨rfl,rfl,rfl⟩ ?_ ?_)
  ·intro hp X w I
   refine co 97 _ (by kernel_rfl) (L97 _ M O s (aR.inv0 I) aS aT _ dE) ?_
   rintro v w ⟨c5,cZ,c6,rfl,hN,aU⟩
   have I:=I.join hN; clear hN
   exact ⟨wit 0 [c5] [cZ] [c6] [],rfl,Eq.mp rfl aU,I.castL rfl⟩
  refine tl1 [(some S,blk (qg a) 25)] rfl rfl (fun X w I=>ma I 0 mh md rfl rfl rfl br) (tg (.tuple #[.agg #[slv ((y 3).g 0) x.1.length ((y 3).c 0)],iv x.2]) [(((y 1).g 0),blk ((y 1).cl 0) 25)] [(((y 1).g 0),blk ((y 1).cl 0) 25)] rfl ⟨rfl,rfl,rfl⟩ ?_ ?_)
  ·intro hp X w I
   have aU:Row 8 ((y 1).g 0) aF.length ((y 1).c 0) ((y 1).cl 0) (al eRc aF):=pg hp (k:=1) ⟨rfl,rfl⟩
   refine co 29 _ (by kernel_rfl) (L29 _ (((y 1).g 0).map fun b=>⟨b,0,none⟩) ((y 1).c 0) aF a (I.rowCells 0 rfl aU) (am rfl aU.big) (am rfl aU.cap) N _ dF) ?_
   rintro v w ⟨bB,c7,c8,rfl,hN,d0⟩
   have I:=I.join hN; clear hN
   exact ⟨wit 0 [bB] [c7] [c8] [],rfl,Eq.mp rfl d0,I.castL rfl⟩
  refine tpv (.tuple #[.agg #[slv ((y 3).g 0) x.1.length ((y 3).c 0)],iv x.2]) rfl ⟨rfl,fun _=>rfl⟩ (tpv (.agg #[slv ((y 3).g 0) x.1.length ((y 3).c 0)]) rfl ⟨rfl,fun _=>rfl⟩ (tt rfl rfl (tA rfl zeroValue47 rfl (tS [(some (y 7).b,blk [uD] 47)] rfl ⟨rfl,rfl⟩ (fun X w I=>aq I 0 1 [slv ((y 3).g 0) x.1.length ((y 3).c 0)] zs47 rfl rfl rfl rfl rfl (mx rfl) fun w I=>⟨rfl,I.castL rfl⟩) (tt rfl rfl (tn))))))
 intro y hp ρ w hag I
 have aU:Row 8 ((y 1).g 0) aF.length ((y 1).c 0) ((y 1).cl 0) (al eRc aF):=pgl hp (k:=1) (by decide) rfl
 have d0:Row 8 ((y 3).g 0) x.1.length ((y 3).c 0) ((y 3).cl 0) (al eRc x.1):=pgl hp (k:=3) (by decide) rfl
 clear hp
 generalize (y 1).g 0=c5 at *
 generalize (y 1).c 0=cZ at *
 generalize (y 1).cl 0=c6 at *
 generalize (y 3).g 0=bB at *
 generalize (y 3).c 0=c7 at *
 generalize (y 3).cl 0=c8 at *
 generalize (y 7).b=dG at *
 obtain ⟨ρ,rfl⟩:=hag.form
 refine uL rfl (pu (iv x.2) rfl (ifN F (fun cA F=>?_) (fun cA F=>?_)))
 ·
  refine xn rfl (fun _=>?_) (uP cA)
  refine aa (ah rfl (uL rfl (pu2 (.agg #[uD,uD,uD,iv 0,iv 0,iv 0]) (iv x.2) (by kernel_rfl) (xi I 3 _ mi rfl fun w I=>pu2 uD (iv x.2) rfl (aa (aj ?_))))))
  have I:=I.nilRow 35
  have I:=I.nilRow 35
  have I:=I.nilRow 35
  have I:=I.nilRow 25
  cases F
  exact ⟨_,Ret.ctt rfl rfl (ce I 7 6 [uD,uD,uD,iv 0,iv 0,iv 0] mt mi rfl rfl rfl) rfl rfl,⟨none,0,[],none,0,[],none,0,[],none,0,[],rfl,I.pk [1,2,3,0] rfl,Row.nil_ 3,Row.nil_ 3,Row.nil_ 3,Row.nil_ 8⟩⟩
 refine xn rfl (uO cA) (fun _=>aa (ai rfl (ak (uL rfl (xm I 5 mt mi rfl (bt F (fun f dH F=>ph (co 109 _ (by kernel_rfl) (L109 _ a0 a1 P a2 a3 Q a4 a5 R a6 a7 a8 (cO.inv0 I) cP cQ (cR.inv0 I) cS cT (cU.inv0 I) cV cW _ dH) ?_))))))))
 rintro v w ⟨aC,aG,cB,aD,aH,cC,aE,aI,cD,rfl,hN,d1,d2,d3⟩
 have I:=I.join hN; clear hN
 refine ph (bh I _ zeroValue63 rfl fun i w I=>xi I 0 _ mi rfl fun w I=>aa (ab (uL (by kernel_rfl) (pu (uM M s O) (by kernel_rfl) (xm I 8 mh md rfl (bt F (fun dZ d4 F=>ifE F (fun cE F=>?_) (fun cE F=>?_))))))))
 ·
  refine ph (bg I 110 _ _ (by kernel_rfl) (bn.mono (L110 _ M O s a (aR.inv0 I) aS aT N _ d4) (uH cE)) fun w I=>aa (ah rfl (ab (bt F (fun aJ dI F=>kx [tr (fun _=>(.agg #[uN aC f.1 aG,uN aD f.2.1 aH,uN aE f.2.2.1 aI,iv f.2.2.2.1,iv f.2.2.2.2.1,iv f.2.2.2.2.2])) [6],tv (fun _=>(uM M s O)),⟨fun y=>(slv ((y 2).g 0) aJ.length ((y 2).c 0)),fun y=>[(((y 2).g 0),blk ((y 2).cl 0) 25)],fun y=>(Row 8 ((y 2).g 0) aJ.length ((y 2).c 0) ((y 2).cl 0) (al eRc aJ)),[],[]⟩,tst (fun _=>[(some L,blk [uN aC f.1 aG,uN aD f.2.1 aH,uN aE f.2.2.1 aI,iv f.2.2.2.1,iv f.2.2.2.2.1,iv f.2.2.2.2.2] 63)]) 13,tv (fun y=>(slv ((y 2).g 0) aJ.length ((y 2).c 0))),tv (fun _=>(iv 0))] (fun y=>[(6,pt L),(7,slv ((y 2).g 0) aJ.length ((y 2).c 0)),(8,iv 0)]) (fun y=>[(((y 2).g 0),blk ((y 2).cl 0) 25),(some L,blk [uN aC f.1 aG,uN aD f.2.1 aH,uN aE f.2.2.1 aI,iv f.2.2.2.1,iv f.2.2.2.2.1,iv f.2.2.2.2.2] 63),(some i,blk [uN aC f.1 aG,uN aD f.2.1 aH,uN aE f.2.2.1 aI,iv f.2.2.2.1,iv f.2.2.2.2.1,iv f.2.2.2.2.2] 63),(aC,blk cB 35),(aD,blk cC 35),(aE,blk cD 35),(c5,blk c6 25),(bB,blk c8 25),(some dG,blk [uN bB x.1 c7] 47),(some S,blk (qg a) 25),(some aQ,blk [uM a0 P a1,uM a2 Q a3,uM a4 R a5,iv a6,iv a7,iv a8] 63)]) I (by kernel_rfl) (fun y=>⟨(by kernel_rfl),(by kernel_rfl)⟩) (fun y=>?_) ?_)))))
  ·
   refine tl1 [(some i,blk [uN aC f.1 aG,uN aD f.2.1 aH,uN aE f.2.2.1 aI,iv f.2.2.2.1,iv f.2.2.2.2.1,iv f.2.2.2.2.2] 63)] rfl rfl (fun X w I=>ma I 0 mt mi rfl rfl rfl br) (tt rfl rfl (tg (slv ((y 2).g 0) aJ.length ((y 2).c 0)) [] [] rfl ⟨rfl,rfl,rfl⟩ ?_ ?_))
   ·intro hp X w I
    refine co 102 _ (by kernel_rfl) (L102 _ M O s (aR.inv0 I) aS aT _ dI) ?_
    rintro v w ⟨cF,cG,cH,rfl,hN,cI⟩
    have I:=I.join hN; clear hN
    exact ⟨wit 0 [cF] [cG] [cH] [],rfl,Eq.mp rfl cI,I.castL rfl⟩
   refine tS [(some L,blk [uD,uD,uD,iv 0,iv 0,iv 0] 63)] rfl ⟨rfl,rfl⟩ (fun X w I=>aq I 0 6 [uN aC f.1 aG,uN aD f.2.1 aH,uN aE f.2.2.1 aI,iv f.2.2.2.1,iv f.2.2.2.2.1,iv f.2.2.2.2.2] mi rfl rfl rfl rfl rfl (mx rfl) fun w I=>⟨rfl,I.castL rfl⟩) (tpv (slv ((y 2).g 0) aJ.length ((y 2).c 0)) rfl ⟨rfl,fun _=>rfl⟩ (tt rfl rfl (tn)))
  intro y hp ρ w hag I
  have cI:Row 8 ((y 2).g 0) aJ.length ((y 2).c 0) ((y 2).cl 0) (al eRc aJ):=pgl hp (k:=2) (by decide) rfl
  clear hp
  generalize (y 2).g 0=cF at *
  generalize (y 2).c 0=cG at *
  generalize (y 2).cl 0=cH at *
  obtain ⟨ρ,rfl⟩:=hag.form
  refine aj ?_
  cases F
  exact ⟨_,Ret.ctt rfl rfl (ce I 1 6 [uN aC f.1 aG,uN aD f.2.1 aH,uN aE f.2.2.1 aI,iv f.2.2.2.1,iv f.2.2.2.2.1,iv f.2.2.2.2.2] mt mi rfl rfl rfl) rfl rfl,⟨aC,aG,cB,aD,aH,cC,aE,aI,cD,cF,cG,cH,rfl,I.pk [3,4,5,0] rfl,d1.to rfl rfl,d2.to rfl rfl,d3.to rfl rfl,cI.to rfl rfl⟩⟩
 refine ph (bg I 110 _ _ (by kernel_rfl) (bn.mono (L110 _ M O s a (aR.inv0 I) aS aT N _ d4) (uH (Bool.eq_false_iff.2 cE))) fun w I=>aa (ai rfl (ak (dn (fun ρ w=>∃ (T a9 aZ U aA b0 V aB b1:_) (W:List Sp3) (Y:List Sp3) (Z:List Sp3),cd ρ [(1,uM M s O),(5,pt S),(6,pt L),(12,pt i)]∧Inv [] w0 w [(some S,blk (qg a) 25),(some L,blk [uD,uD,uD,iv 0,iv 0,iv 0] 63),(some i,blk [uN T W a9,uN U Y aA,uN V Z aB,iv f.2.2.2.1,iv f.2.2.2.2.1,iv f.2.2.2.2.2] 63),(T,blk aZ 35),(U,blk b0 35),(V,blk b1 35)]∧(Row 3 T (W.length) a9 aZ (al bb W))∧(Row 3 U (Y.length) aA b0 (al bb Y))∧(Row 3 V (Z.length) aB b1 (al bb Z))∧F38j1 s a f W Y Z=some r) ?_ ?_))))
 ·
  refine rgn (by kernel_rfl) (xm I 8 mh md rfl (pu2 (uM M s O) (iv ((s.length:Nat):Int)) (by kernel_rfl) (ph (gr 111 [pt i,.agg (qg a).toArray,iv (s.length:Int)] (by kernel_rfl) (az (n:=32) func111 rfl ntmps111 rfl (uL (by kernel_rfl) (ph (ca I _ rfl fun e0 w I=>aa (uL (by kernel_rfl) (xm I 0 mh md rfl (pu (iv (s.length:Int)) (by kernel_rfl) (bt F (fun E dJ F=>ph (co 88 _ (by kernel_rfl) (L88 _ a (s.length:Int) (hG.up I) N _ dJ) ?_))))))))))))))
  rintro v w ⟨dK,dL,dM,rfl,hN,dN⟩
  have I:=I.join hN; clear hN
  refine pu2 (iv ((E.length:Nat):Int)) (iv 0) (by kernel_rfl) (aa (au (cb (fun m ρ w=>∃ (A G aK B H aL C J aM bC aN aO:_) (l:List Sp3) (o:List Sp3) (q:List Sp3) (D mm:_),cd ρ [(0,pt i),(10,uN bC E aN),(11,iv (E.length:Int)),(12,iv D)]∧Inv [] w0 w [(some i,blk [uN A l G,uN B o H,uN C q J,iv f.2.2.2.1,iv f.2.2.2.2.1,iv f.2.2.2.2.2] 63),(A,blk aK 35),(B,blk aL 35),(C,blk aM 35),(bC,blk aO 35),(some aQ,blk [uM a0 P a1,uM a2 Q a3,uM a4 R a5,iv a6,iv a7,iv a8] 63),(some S,blk (qg a) 25),(some L,blk [uD,uD,uD,iv 0,iv 0,iv 0] 63)]∧(Row 3 A (l.length) G aK (al bb l))∧(Row 3 B (o.length) H aL (al bb o))∧(Row 3 C (q.length) J aM (al bb q))∧(Row 3 bC (E.length) aN aO (al bb E))∧F38l2 s a f E mm l o q D=some r∧mm=m) (m:=N) ⟨aC,aG,cB,aD,aH,cC,aE,aI,cD,dK,dL,dM,f.1,f.2.1,f.2.2.1,0,N,(uK rfl),I.pk [2,3,4,5,0,11,10,9] rfl,(d1.to rfl rfl),(d2.to rfl rfl),(d3.to rfl rfl),(dN.to rfl rfl),F,rfl⟩ ?_)))
  rintro m ρ w ⟨A,G,aK,B,H,aL,C,J,aM,bC,aN,aO,l,o,q,D,mm,hag,I,bD,bE,bG,bH,F,hm⟩
  subst hm; obtain ⟨ρ,rfl⟩:=hag.form
  obtain _ | m2:=mm
  ·cases (show (none:Option (List Sp3 × List Sp3 × List Sp3 × Int × Int × Int × List Rc × Int))=some r from F)
  replace F:F38b2 s a f E (F38l2 s a f E m2) l o q D=some r:=F; unfold F38b2 at F
  refine uL rfl (ifN F (fun cJ F=>?_) (fun cJ F=>?_))
  ·
   refine xl rfl (uP cJ) (fun _=>aa (ab (ai rfl (bw (⟨.tuple #[],Ret.r0 rfl , ?_⟩)))))
   refine aa (.inl ⟨rfl,⟨A,G,aK,B,H,aL,C,J,aM,l,o,q,(uK rfl),I.pk [6,7,0,1,2,3] rfl,(bD.to rfl rfl),(bE.to rfl rfl),(bG.to rfl rfl),F⟩⟩)
  refine xl rfl (fun _=>?_) (uO cJ)
  refine aa (ab (ah rfl (ak (dn (fun ρ w=>∃ (b2 bI bJ b3 bK bL b4 bM bN b5 bO bP:_) (aV:List Sp3) (aW:List Sp3) (aX:List Sp3),cd ρ [(0,pt i),(10,uN b5 E bO),(11,iv (E.length:Int)),(12,iv D)]∧Inv [] w0 w [(some i,blk [uN b2 aV bI,uN b3 aW bK,uN b4 aX bM,iv f.2.2.2.1,iv f.2.2.2.2.1,iv f.2.2.2.2.2] 63),(b2,blk bJ 35),(b3,blk bL 35),(b4,blk bN 35),(b5,blk bP 35),(some aQ,blk [uM a0 P a1,uM a2 Q a3,uM a4 R a5,iv a6,iv a7,iv a8] 63),(some S,blk (qg a) 25),(some L,blk [uD,uD,uD,iv 0,iv 0,iv 0] 63)]∧(Row 3 b2 (aV.length) bI bJ (al bb aV))∧(Row 3 b3 (aW.length) bK bL (al bb aW))∧(Row 3 b4 (aX.length) bM bN (al bb aX))∧(Row 3 b5 (E.length) bO bP (al bb E))∧F38j3 (F38l2 s a f E m2) D aV aW aX=some r) ?_ ?_))))
  ·
   refine au (uL rfl (pu (iv D) rfl (gdE F (fun dO F=>bt F (fun e d5 F=>?_)))))
   obtain ⟨aP,rfl,dP⟩:=bH.at_ bk (by decide) d5
   refine ph (be (D).toNat mj mc rfl rfl (Int.toNat_of_nonneg dO).symm (fa d5 rfl) (xc I 4 (qh e) me mc rfl dP (ph (bh I _ zeroValue35 rfl fun aY w I=>pu (iv D) rfl (xi I 0 _ mc rfl fun w I=>aa (ifE F (fun cK F=>?_) (fun cK F=>?_)))))))
   ·
    refine gdE F (fun e1 F=>kx [tv (fun _=>(pt i)),tv (fun _=>(iv D)),tv (fun _=>(pt i)),tv (fun _=>(iv D)),tv (fun _=>(pt i)),tv (fun _=>(pt i)),tr (fun _=>(pt i)) [],tr (fun _=>(uN A l G)) [16],tr (fun _=>(.agg (qh e).toArray)) [15],⟨fun y=>(.slice (some ⟨(y 9).b,0,none⟩) 1 1),fun y=>[(some (y 9).b,blk (qh e) 35)],fun _=>True,[],[]⟩,⟨fun y=>(slv ((y 10).g 0) ((l++[(⟨e.no,e.sz,e.t⟩:Sp3)]).length) ((y 10).c 0)),fun y=>[(((y 10).g 0),blk ((y 10).cl 0) 35)],fun y=>(Row 3 ((y 10).g 0) ((l++[(⟨e.no,e.sz,e.t⟩:Sp3)]).length) ((y 10).c 0) ((y 10).cl 0) (al bb (l++[(⟨e.no,e.sz,e.t⟩:Sp3)]))),[17],[9]⟩,tv (fun _=>(pt i)),tv (fun _=>(pt i)),tr (fun _=>(pt i)) [],tst (fun y=>[(some i,blk [slv ((y 10).g 0) ((l++[(⟨e.no,e.sz,e.t⟩:Sp3)]).length) ((y 10).c 0),uN B o H,uN C q J,iv f.2.2.2.1,iv f.2.2.2.2.1,iv f.2.2.2.2.2] 63)]) 16] (fun _=>[(0,pt i),(10,uN (some aP) E aN),(11,iv (E.length:Int)),(12,iv D)]) (fun y=>[(some (y 9).b,blk (qh e) 35),(((y 10).g 0),blk ((y 10).cl 0) 35),(some i,blk [slv ((y 10).g 0) ((l++[(⟨e.no,e.sz,e.t⟩:Sp3)]).length) ((y 10).c 0),uN B o H,uN C q J,iv f.2.2.2.1,iv f.2.2.2.2.1,iv f.2.2.2.2.2] 63),(some aY,blk (qh e) 35),(B,blk aL 35),(C,blk aM 35),(some aP,blk aO 35),(some aQ,blk [uM a0 P a1,uM a2 Q a3,uM a4 R a5,iv a6,iv a7,iv a8] 63),(some S,blk (qg a) 25),(some L,blk [uD,uD,uD,iv 0,iv 0,iv 0] 63)]) I (by kernel_rfl) (fun y=>⟨rfl,rfl⟩) (fun y=>?_) ?_)
    ·
     refine tt rfl rfl (tt rfl rfl (tt rfl rfl (tt rfl rfl (tt rfl rfl (tt rfl rfl (tl0 rfl (fun X w I=>av 0 pf mw rfl rfl cK (by decide) 0 rfl br) (tl1 [(some i,blk [uN A l G,uN B o H,uN C q J,iv f.2.2.2.1,iv f.2.2.2.2.1,iv f.2.2.2.2.2] 63)] rfl rfl (fun X w I=>ag I 0 (uN A l G) mq rfl rfl rfl br) (tl1 [(some aY,blk (qh e) 35)] rfl rfl (fun X w I=>ma I 0 me mc rfl rfl rfl br) (tg (.slice (some ⟨(y 9).b,0,none⟩) 1 1) [] [] rfl ⟨rfl,rfl,rfl⟩ ?_ ?_)))))))))
     ·intro hp X w I
      refine fu I (qh e) 35 (fun b=>slv (some b) 1 1) (by kernel_rfl) fun d6 w I=>⟨wit d6 [] [] [] [],rfl,trivial,I.castL rfl⟩
     refine tg (slv ((y 10).g 0) ((l++[(⟨e.no,e.sz,e.t⟩:Sp3)]).length) ((y 10).c 0)) [(A,blk aK 35),(some (y 9).b,blk (qh e) 35)] [(some (y 9).b,blk (qh e) 35)] rfl ⟨rfl,rfl,rfl⟩ ?_ ?_
     ·intro hp X w I
      refine xk I xd 0 bD (⟨e.no,e.sz,e.t⟩:Sp3) 1 rfl (by omega) ?_
      intro bQ bR bS w I b6
      exact ⟨wit 0 [bQ] [bR] [bS] [],rfl,Eq.mp rfl b6,I.castL rfl⟩
     refine tt rfl rfl (tt rfl rfl (tl0 rfl (fun X w I=>av 0 pf mw rfl rfl cK (by decide) 0 rfl br) (tS [(some i,blk [uN A l G,uN B o H,uN C q J,iv f.2.2.2.1,iv f.2.2.2.2.1,iv f.2.2.2.2.2] 63)] rfl ⟨rfl,rfl⟩ (fun X w I=>aq I 0 1 [slv ((y 10).g 0) ((l++[(⟨e.no,e.sz,e.t⟩:Sp3)]).length) ((y 10).c 0)] mw rfl rfl rfl rfl rfl (mx rfl) fun w I=>⟨rfl,I.castL rfl⟩) (tn))))
    intro y hp ρ w hag I
    have b6:Row 3 ((y 10).g 0) ((l++[(⟨e.no,e.sz,e.t⟩:Sp3)]).length) ((y 10).c 0) ((y 10).cl 0) (al bb (l++[(⟨e.no,e.sz,e.t⟩:Sp3)])):=pgl hp (k:=10) (by decide) rfl
    clear hp
    generalize (y 9).b=d6 at *
    generalize (y 10).g 0=bQ at *
    generalize (y 10).c 0=bR at *
    generalize (y 10).cl 0=bS at *
    obtain ⟨ρ,rfl⟩:=hag.form
    exact .inl ⟨rfl,⟨bQ,bR,bS,B,H,aL,C,J,aM,some aP,aN,aO,l++[(⟨e.no,e.sz,e.t⟩:Sp3)],o,q,(uK rfl),I.pk [2,1,4,5,6,7,8,9] rfl,(b6.to rfl rfl),(bE.to rfl rfl),(bG.to rfl rfl),(bH.to rfl rfl),F⟩⟩
   refine ifE F (fun cL F=>?_) (fun cL F=>?_)
   ·
    refine gdE F (fun e2 F=>kx [tv (fun _=>(pt i)),tv (fun _=>(iv D)),tv (fun _=>(pt i)),tv (fun _=>(iv D)),tv (fun _=>(pt i)),tv (fun _=>(pt i)),tr (fun _=>(uF i 1)) [],tr (fun _=>(uN B o H)) [16],tr (fun _=>(.agg (qh e).toArray)) [15],⟨fun y=>(.slice (some ⟨(y 9).b,0,none⟩) 1 1),fun y=>[(some (y 9).b,blk (qh e) 35)],fun _=>True,[],[]⟩,⟨fun y=>(slv ((y 10).g 0) ((o++[(⟨e.no,e.sz,e.t⟩:Sp3)]).length) ((y 10).c 0)),fun y=>[(((y 10).g 0),blk ((y 10).cl 0) 35)],fun y=>(Row 3 ((y 10).g 0) ((o++[(⟨e.no,e.sz,e.t⟩:Sp3)]).length) ((y 10).c 0) ((y 10).cl 0) (al bb (o++[(⟨e.no,e.sz,e.t⟩:Sp3)]))),[18],[9]⟩,tv (fun _=>(pt i)),tv (fun _=>(pt i)),tr (fun _=>(uF i 1)) [],tst (fun y=>[(some i,blk [uN A l G,slv ((y 10).g 0) ((o++[(⟨e.no,e.sz,e.t⟩:Sp3)]).length) ((y 10).c 0),uN C q J,iv f.2.2.2.1,iv f.2.2.2.2.1,iv f.2.2.2.2.2] 63)]) 16] (fun _=>[(0,pt i),(10,uN (some aP) E aN),(11,iv (E.length:Int)),(12,iv D)]) (fun y=>[(some (y 9).b,blk (qh e) 35),(((y 10).g 0),blk ((y 10).cl 0) 35),(some i,blk [uN A l G,slv ((y 10).g 0) ((o++[(⟨e.no,e.sz,e.t⟩:Sp3)]).length) ((y 10).c 0),uN C q J,iv f.2.2.2.1,iv f.2.2.2.2.1,iv f.2.2.2.2.2] 63),(some aY,blk (qh e) 35),(A,blk aK 35),(C,blk aM 35),(some aP,blk aO 35),(some aQ,blk [uM a0 P a1,uM a2 Q a3,uM a4 R a5,iv a6,iv a7,iv a8] 63),(some S,blk (qg a) 25),(some L,blk [uD,uD,uD,iv 0,iv 0,iv 0] 63)]) I (by kernel_rfl) (fun y=>⟨rfl,rfl⟩) (fun y=>?_) ?_)
    ·
     refine tt rfl rfl (tt rfl rfl (tt rfl rfl (tt rfl rfl (tt rfl rfl (tt rfl rfl (tl0 rfl (fun X w I=>av 1 pf mw rfl rfl cL (by decide) 1 rfl br) (tl1 [(some i,blk [uN A l G,uN B o H,uN C q J,iv f.2.2.2.1,iv f.2.2.2.2.1,iv f.2.2.2.2.2] 63)] rfl rfl (fun X w I=>ag I 0 (uN B o H) mq rfl rfl rfl br) (tl1 [(some aY,blk (qh e) 35)] rfl rfl (fun X w I=>ma I 0 me mc rfl rfl rfl br) (tg (.slice (some ⟨(y 9).b,0,none⟩) 1 1) [] [] rfl ⟨rfl,rfl,rfl⟩ ?_ ?_)))))))))
     ·intro hp X w I
      refine fu I (qh e) 35 (fun b=>slv (some b) 1 1) (by kernel_rfl) fun d7 w I=>⟨wit d7 [] [] [] [],rfl,trivial,I.castL rfl⟩
     refine tg (slv ((y 10).g 0) ((o++[(⟨e.no,e.sz,e.t⟩:Sp3)]).length) ((y 10).c 0)) [(B,blk aL 35),(some (y 9).b,blk (qh e) 35)] [(some (y 9).b,blk (qh e) 35)] rfl ⟨rfl,rfl,rfl⟩ ?_ ?_
     ·intro hp X w I
      refine xk I xd 0 bE (⟨e.no,e.sz,e.t⟩:Sp3) 1 rfl (by omega) ?_
      intro bU bV bW w I b7
      exact ⟨wit 0 [bU] [bV] [bW] [],rfl,Eq.mp rfl b7,I.castL rfl⟩
     refine tt rfl rfl (tt rfl rfl (tl0 rfl (fun X w I=>av 1 pf mw rfl rfl cL (by decide) 1 rfl br) (tS [(some i,blk [uN A l G,uN B o H,uN C q J,iv f.2.2.2.1,iv f.2.2.2.2.1,iv f.2.2.2.2.2] 63)] rfl ⟨rfl,rfl⟩ (fun X w I=>aq I 0 1 [slv ((y 10).g 0) ((o++[(⟨e.no,e.sz,e.t⟩:Sp3)]).length) ((y 10).c 0)] mw rfl rfl rfl rfl rfl (mx rfl) fun w I=>⟨rfl,I.castL rfl⟩) (tn))))
    intro y hp ρ w hag I
    have b7:Row 3 ((y 10).g 0) ((o++[(⟨e.no,e.sz,e.t⟩:Sp3)]).length) ((y 10).c 0) ((y 10).cl 0) (al bb (o++[(⟨e.no,e.sz,e.t⟩:Sp3)])):=pgl hp (k:=10) (by decide) rfl
    clear hp
    generalize (y 9).b=d7 at *
    generalize (y 10).g 0=bU at *
    generalize (y 10).c 0=bV at *
    generalize (y 10).cl 0=bW at *
    obtain ⟨ρ,rfl⟩:=hag.form
    exact .inl ⟨rfl,⟨A,G,aK,bU,bV,bW,C,J,aM,some aP,aN,aO,l,o++[(⟨e.no,e.sz,e.t⟩:Sp3)],q,(uK rfl),I.pk [2,4,1,5,6,7,8,9] rfl,(bD.to rfl rfl),(b7.to rfl rfl),(bG.to rfl rfl),(bH.to rfl rfl),F⟩⟩
   refine ifN F (fun cM F=>?_) (fun cM F=>?_)
   ·
    cases F
   refine gdE F (fun e3 F=>kx [tv (fun _=>(pt i)),tv (fun _=>(iv D)),tv (fun _=>(pt i)),tv (fun _=>(iv D)),tv (fun _=>(pt i)),tv (fun _=>(pt i)),tr (fun _=>(uF i 2)) [],tr (fun _=>(uN C q J)) [16],tr (fun _=>(.agg (qh e).toArray)) [15],⟨fun y=>(.slice (some ⟨(y 9).b,0,none⟩) 1 1),fun y=>[(some (y 9).b,blk (qh e) 35)],fun _=>True,[],[]⟩,⟨fun y=>(slv ((y 10).g 0) ((q++[(⟨e.no,e.sz,e.t⟩:Sp3)]).length) ((y 10).c 0)),fun y=>[(((y 10).g 0),blk ((y 10).cl 0) 35)],fun y=>(Row 3 ((y 10).g 0) ((q++[(⟨e.no,e.sz,e.t⟩:Sp3)]).length) ((y 10).c 0) ((y 10).cl 0) (al bb (q++[(⟨e.no,e.sz,e.t⟩:Sp3)]))),[19],[9]⟩,tv (fun _=>(pt i)),tv (fun _=>(pt i)),tr (fun _=>(uF i 2)) [],tst (fun y=>[(some i,blk [uN A l G,uN B o H,slv ((y 10).g 0) ((q++[(⟨e.no,e.sz,e.t⟩:Sp3)]).length) ((y 10).c 0),iv f.2.2.2.1,iv f.2.2.2.2.1,iv f.2.2.2.2.2] 63)]) 16] (fun _=>[(0,pt i),(10,uN (some aP) E aN),(11,iv (E.length:Int)),(12,iv D)]) (fun y=>[(some (y 9).b,blk (qh e) 35),(((y 10).g 0),blk ((y 10).cl 0) 35),(some i,blk [uN A l G,uN B o H,slv ((y 10).g 0) ((q++[(⟨e.no,e.sz,e.t⟩:Sp3)]).length) ((y 10).c 0),iv f.2.2.2.1,iv f.2.2.2.2.1,iv f.2.2.2.2.2] 63),(some aY,blk (qh e) 35),(A,blk aK 35),(B,blk aL 35),(some aP,blk aO 35),(some aQ,blk [uM a0 P a1,uM a2 Q a3,uM a4 R a5,iv a6,iv a7,iv a8] 63),(some S,blk (qg a) 25),(some L,blk [uD,uD,uD,iv 0,iv 0,iv 0] 63)]) I (by kernel_rfl) (fun y=>⟨rfl,rfl⟩) (fun y=>?_) ?_)
   ·
    refine tt rfl rfl (tt rfl rfl (tt rfl rfl (tt rfl rfl (tt rfl rfl (tt rfl rfl (tl0 rfl (fun X w I=>av 2 pf mw rfl rfl cM (by decide) 2 rfl br) (tl1 [(some i,blk [uN A l G,uN B o H,uN C q J,iv f.2.2.2.1,iv f.2.2.2.2.1,iv f.2.2.2.2.2] 63)] rfl rfl (fun X w I=>ag I 0 (uN C q J) mq rfl rfl rfl br) (tl1 [(some aY,blk (qh e) 35)] rfl rfl (fun X w I=>ma I 0 me mc rfl rfl rfl br) (tg (.slice (some ⟨(y 9).b,0,none⟩) 1 1) [] [] rfl ⟨rfl,rfl,rfl⟩ ?_ ?_)))))))))
    ·intro hp X w I
     refine fu I (qh e) 35 (fun b=>slv (some b) 1 1) (by kernel_rfl) fun d8 w I=>⟨wit d8 [] [] [] [],rfl,trivial,I.castL rfl⟩
    refine tg (slv ((y 10).g 0) ((q++[(⟨e.no,e.sz,e.t⟩:Sp3)]).length) ((y 10).c 0)) [(C,blk aM 35),(some (y 9).b,blk (qh e) 35)] [(some (y 9).b,blk (qh e) 35)] rfl ⟨rfl,rfl,rfl⟩ ?_ ?_
    ·intro hp X w I
     refine xk I xd 0 bG (⟨e.no,e.sz,e.t⟩:Sp3) 1 rfl (by omega) ?_
     intro bX bY bZ w I b8
     exact ⟨wit 0 [bX] [bY] [bZ] [],rfl,Eq.mp rfl b8,I.castL rfl⟩
    refine tt rfl rfl (tt rfl rfl (tl0 rfl (fun X w I=>av 2 pf mw rfl rfl cM (by decide) 2 rfl br) (tS [(some i,blk [uN A l G,uN B o H,uN C q J,iv f.2.2.2.1,iv f.2.2.2.2.1,iv f.2.2.2.2.2] 63)] rfl ⟨rfl,rfl⟩ (fun X w I=>aq I 0 1 [slv ((y 10).g 0) ((q++[(⟨e.no,e.sz,e.t⟩:Sp3)]).length) ((y 10).c 0)] mw rfl rfl rfl rfl rfl (mx rfl) fun w I=>⟨rfl,I.castL rfl⟩) (tn))))
   intro y hp ρ w hag I
   have b8:Row 3 ((y 10).g 0) ((q++[(⟨e.no,e.sz,e.t⟩:Sp3)]).length) ((y 10).c 0) ((y 10).cl 0) (al bb (q++[(⟨e.no,e.sz,e.t⟩:Sp3)])):=pgl hp (k:=10) (by decide) rfl
   clear hp
   generalize (y 9).b=d8 at *
   generalize (y 10).g 0=bX at *
   generalize (y 10).c 0=bY at *
   generalize (y 10).cl 0=bZ at *
   obtain ⟨ρ,rfl⟩:=hag.form
   exact .inl ⟨rfl,⟨A,G,aK,B,H,aL,bX,bY,bZ,some aP,aN,aO,l,o,q++[(⟨e.no,e.sz,e.t⟩:Sp3)],(uK rfl),I.pk [2,4,5,1,6,7,8,9] rfl,(bD.to rfl rfl),(bE.to rfl rfl),(b8.to rfl rfl),(bH.to rfl rfl),F⟩⟩
  intro ρ w hJ
  obtain ⟨b2,bI,bJ,b3,bK,bL,b4,bM,bN,b5,bO,bP,aV,aW,aX,hag,I,dQ,dR,dS,dT,F⟩:=hJ
  obtain ⟨ρ,rfl⟩:=hag.form
  unfold F38j3 at F
  refine rgn rfl (ckE F (fun dU F=>xa rfl dU (pu (iv (D+1)) rfl (aa (⟨rfl,m2,Nat.lt_succ_self _,⟨b2,bI,bJ,b3,bK,bL,b4,bM,bN,b5,bO,bP,aV,aW,aX,D+1,m2,(uK rfl),I.pk [0,1,2,3,4,5,6,7] rfl,(dQ.to rfl rfl),(dR.to rfl rfl),(dS.to rfl rfl),(dT.to rfl rfl),F,rfl⟩⟩)))))
 intro ρ w hJ
 obtain ⟨T,a9,aZ,U,aA,b0,V,aB,b1,W,Y,Z,hag,I,dV,dW,dX,F⟩:=hJ
 obtain ⟨ρ,rfl⟩:=hag.form
 unfold F38j1 at F
 refine ab (bt F (fun K dY F=>gdE F (fun e4 F=>kx [tr (fun _=>(.agg #[uN T W a9,uN U Y aA,uN V Z aB,iv f.2.2.2.1,iv f.2.2.2.2.1,iv f.2.2.2.2.2])) [11],tv (fun _=>(uM M s O)),⟨fun y=>(slv ((y 2).g 0) K.length ((y 2).c 0)),fun y=>[(((y 2).g 0),blk ((y 2).cl 0) 25)],fun y=>(Row 8 ((y 2).g 0) K.length ((y 2).c 0) ((y 2).cl 0) (al eRc K)),[],[]⟩,tr (fun _=>(.agg (qg a).toArray)) [9],⟨fun y=>(.slice (some ⟨(y 4).b,0,none⟩) 1 1),fun y=>[(some (y 4).b,blk (qg a) 25)],fun _=>True,[],[]⟩,⟨fun y=>(slv ((y 5).g 0) ((K++[(⟨a.p,a.n,a.k,a.d,a.kn,a.op,a.on,a.t⟩:Rc)]).length) ((y 5).c 0)),fun y=>[(((y 5).g 0),blk ((y 5).cl 0) 25)],fun y=>(Row 8 ((y 5).g 0) ((K++[(⟨a.p,a.n,a.k,a.d,a.kn,a.op,a.on,a.t⟩:Rc)]).length) ((y 5).c 0) ((y 5).cl 0) (al eRc (K++[(⟨a.p,a.n,a.k,a.d,a.kn,a.op,a.on,a.t⟩:Rc)]))),[2],[4]⟩,tst (fun _=>[(some L,blk [uN T W a9,uN U Y aA,uN V Z aB,iv f.2.2.2.1,iv f.2.2.2.2.1,iv f.2.2.2.2.2] 63)]) 10,tv (fun y=>(slv ((y 5).g 0) ((K++[(⟨a.p,a.n,a.k,a.d,a.kn,a.op,a.on,a.t⟩:Rc)]).length) ((y 5).c 0))),tv (fun _=>(iv 0))] (fun y=>[(6,pt L),(7,slv ((y 5).g 0) ((K++[(⟨a.p,a.n,a.k,a.d,a.kn,a.op,a.on,a.t⟩:Rc)]).length) ((y 5).c 0)),(8,iv 0)]) (fun y=>[(some (y 4).b,blk (qg a) 25),(((y 5).g 0),blk ((y 5).cl 0) 25),(some L,blk [uN T W a9,uN U Y aA,uN V Z aB,iv f.2.2.2.1,iv f.2.2.2.2.1,iv f.2.2.2.2.2] 63),(some S,blk (qg a) 25),(some i,blk [uN T W a9,uN U Y aA,uN V Z aB,iv f.2.2.2.1,iv f.2.2.2.2.1,iv f.2.2.2.2.2] 63),(T,blk aZ 35),(U,blk b0 35),(V,blk b1 35)]) I (by kernel_rfl) (fun y=>⟨rfl,rfl⟩) (fun y=>?_) ?_)))
 ·
  refine tl1 [(some i,blk [uN T W a9,uN U Y aA,uN V Z aB,iv f.2.2.2.1,iv f.2.2.2.2.1,iv f.2.2.2.2.2] 63)] rfl rfl (fun X w I=>ma I 0 mt mi rfl rfl rfl br) (tt rfl rfl (tg (slv ((y 2).g 0) K.length ((y 2).c 0)) [] [] rfl ⟨rfl,rfl,rfl⟩ ?_ ?_))
  ·intro hp X w I
   refine co 102 _ (by kernel_rfl) (L102 _ M O s (aR.inv0 I) aS aT _ dY) ?_
   rintro v w ⟨d9,dA,dB,rfl,hN,cN⟩
   have I:=I.join hN; clear hN
   exact ⟨wit 0 [d9] [dA] [dB] [],rfl,Eq.mp rfl cN,I.castL rfl⟩
  refine tl1 [(some S,blk (qg a) 25)] rfl rfl (fun X w I=>ma I 0 mh md rfl rfl rfl br) (tg (.slice (some ⟨(y 4).b,0,none⟩) 1 1) [] [] rfl ⟨rfl,rfl,rfl⟩ ?_ ?_)
  ·intro hp X w I
   refine fu I (qg a) 25 (fun b=>slv (some b) 1 1) (by kernel_rfl) fun dC w I=>⟨wit dC [] [] [] [],rfl,trivial,I.castL rfl⟩
  refine tg (slv ((y 5).g 0) ((K++[(⟨a.p,a.n,a.k,a.d,a.kn,a.op,a.on,a.t⟩:Rc)]).length) ((y 5).c 0)) [(((y 2).g 0),blk ((y 2).cl 0) 25),(some (y 4).b,blk (qg a) 25)] [(some (y 4).b,blk (qg a) 25)] rfl ⟨rfl,rfl,rfl⟩ ?_ ?_
  ·intro hp X w I
   have cN:Row 8 ((y 2).g 0) K.length ((y 2).c 0) ((y 2).cl 0) (al eRc K):=pg hp (k:=2) ⟨rfl,rfl⟩
   refine xk I xf 0 cN (⟨a.p,a.n,a.k,a.d,a.kn,a.op,a.on,a.t⟩:Rc) 1 rfl (by omega) ?_
   intro c0 c1 c2 w I b9
   exact ⟨wit 0 [c0] [c1] [c2] [],rfl,Eq.mp rfl b9,I.castL rfl⟩
  refine tS [(some L,blk [uD,uD,uD,iv 0,iv 0,iv 0] 63)] rfl ⟨rfl,rfl⟩ (fun X w I=>aq I 0 6 [uN T W a9,uN U Y aA,uN V Z aB,iv f.2.2.2.1,iv f.2.2.2.2.1,iv f.2.2.2.2.2] mi rfl rfl rfl rfl rfl (mx rfl) fun w I=>⟨rfl,I.castL rfl⟩) (tpv (slv ((y 5).g 0) ((K++[(⟨a.p,a.n,a.k,a.d,a.kn,a.op,a.on,a.t⟩:Rc)]).length) ((y 5).c 0)) rfl ⟨rfl,fun _=>rfl⟩ (tt rfl rfl (tn)))
 intro y hp ρ w hag I
 have b9:Row 8 ((y 5).g 0) ((K++[(⟨a.p,a.n,a.k,a.d,a.kn,a.op,a.on,a.t⟩:Rc)]).length) ((y 5).c 0) ((y 5).cl 0) (al eRc (K++[(⟨a.p,a.n,a.k,a.d,a.kn,a.op,a.on,a.t⟩:Rc)])):=pgl hp (k:=5) (by decide) rfl
 clear hp
 generalize (y 2).g 0=d9 at *
 generalize (y 2).c 0=dA at *
 generalize (y 2).cl 0=dB at *
 generalize (y 4).b=dC at *
 generalize (y 5).g 0=c0 at *
 generalize (y 5).c 0=c1 at *
 generalize (y 5).cl 0=c2 at *
 obtain ⟨ρ,rfl⟩:=hag.form
 refine aj ?_
 cases F
 exact ⟨_,Ret.ctt rfl rfl (ce I 2 6 [uN T W a9,uN U Y aA,uN V Z aB,iv f.2.2.2.1,iv f.2.2.2.2.1,iv f.2.2.2.2.2] mt mi rfl rfl rfl) rfl rfl,⟨T,a9,aZ,U,aA,b0,V,aB,b1,c0,c1,c2,rfl,I.pk [5,6,7,1] rfl,dV.to rfl rfl,dW.to rfl rfl,dX.to rfl rfl,b9.to rfl rfl⟩⟩
theorem L43 (w0:World) (p:Option Addr) (i:Nat) (e:List Sp3) (q:Option Addr) (j:Nat) (f:List Sp3) (s:Option Addr) (m:Nat) (g:List Sp3) (a:Int) (b:Int) (d:Int) (G:bi w0 p (al bb e)) (a1:e.length≤9223372036854775807) (H:e.length≤i) (J:bi w0 q (al bb f)) (a2:f.length≤9223372036854775807) (K:f.length≤j) (L:bi w0 s (al bb g)) (a3:g.length≤9223372036854775807) (M:g.length≤m) (r:(List Sp3 × List Sp3 × List Sp3 × Int × Int × Int)) (F:F43 e f g a b d=some r):bn Tryz.prog 43 [.agg #[uM p e i,uM q f j,uM s g m,iv a,iv b,iv d]] w0 fun v w=>∃ z0 z1 z2 z3 z4 z5 z6 z7 z8,v=.agg #[uN z0 r.1 z1,uN z3 r.2.1 z4,uN z6 r.2.2.1 z7,iv r.2.2.2.1,iv r.2.2.2.2.1,iv r.2.2.2.2.2]∧Inv [] w0 w [(z0,blk z2 35),(z3,blk z5 35),(z6,blk z8 35)]∧Row 3 z0 r.1.length z1 z2 (al bb r.1)∧Row 3 z3 r.2.1.length z4 z5 (al bb r.2.1)∧Row 3 z6 r.2.2.1.length z7 z8 (al bb r.2.2.1):=by
 refine az (n:=18) func43 rfl ntmps43 rfl ?_
 have I:=Inv.start w0
 unfold F43 at F
 refine uL (by kernel_rfl) (ph (ca I _ rfl fun aQ w I=>ph (bh I _ zeroValue63 rfl fun aR w I=>aa (uL (by kernel_rfl) (xm I 1 mt mi rfl (bt F (fun N a4 F=>ph (co 109 _ (by kernel_rfl) (L109 _ p i e q j f s m g a b d (G.inv0 I) a1 H (J.inv0 I) a2 K (L.inv0 I) a3 M _ a4) ?_))))))))
 rintro v w ⟨O,P,a5,Q,R,a6,S,T,a7,rfl,hN,a8,a9,aA⟩
 have I:=I.join hN; clear hN
 refine ph (bh I _ zeroValue63 rfl fun t w I=>xi I 0 _ mi rfl fun w I=>aa (ab (uL rfl (xm I 5 mt mi rfl (ph (gr 118 [.agg #[uM p e i,uM q f j,uM s g m,iv a,iv b,iv d]] (by kernel_rfl) (az (n:=4) func118 rfl ntmps118 rfl (uL rfl (ph (ca I _ rfl fun o w I=>pu (.nilFunc) rfl (aa (uL rfl (pu2 (.func (.func 157) #[] #[pt o]) (.func (.func 157) #[] #[pt o]) (by kernel_rfl) (aa (aj (⟨.func (.func 157) #[] #[pt o],Ret.r1 rfl rfl,?_⟩))))))))))))))))
 refine aa (au (wp_rangeFunc I (first := #[]) (cap := #[pt o]) rfl 157 (fun y=>[y,pt o]) (fun l W=>by kernel_rfl) fun rcq1230 lqq1230 w hpsq1230 hasq1230 hboq1230 hofq1230 I=>az (n:=32) func157 rfl ntmps157 rfl (uL rfl (pu (pt o) rfl (xr I 2 3 [uM p e i,uM q f j,uM s g m] zi60 zs60 rfl (pu (iv 0) rfl (aa (au (jx 4 (lh (uL rfl (xl rfl (fun _=>?_) (fun h=>absurd (by decide) h)))))))))))))
 refine aa (ab (ah rfl (ak (ab (au (uL rfl (pu3 (iv 0) (uM p e i) (iv 0) (by kernel_rfl) (pu (uM p e i) rfl (aa (uL rfl (pu3 (iv 0) (uF o 3) (uF o 3) (by kernel_rfl) (xg I 2 (iv a) zi3 rfl (pu3 (iv (if 0 > a then 0 else a)) (uM p e i) (iv ((e.length:Nat):Int)) (by kernel_rfl) (pu2 (iv (qa e a)) (iv (qa e a)) (by kernel_rfl) (aa (ab (gm 9 I (by kernel_rfl) (zB (yfn lqq1230) (iv 0) rfl (zB (uM p e i) (iv (qa e a)) rfl (gdE F (fun U F=>gdE F (fun aB F=>?_))))))))))))))))))))))
 obtain ⟨u,hC1482,aC⟩:=cutA (enc:=bb) (l:=e) (lo:=0) (hi:=(qd e a)) (c:=i) (k:=3) bk G aB H
 refine zc (.slice u ((qc e a).length) (i - 0)) (fun w I=>aC mj mc rfl (.inr ⟨rfl,rfl⟩) (.inl (congrArg (fun z=>some (Value.int .i64 z)) (Int.toNat_of_nonneg U).symm)) br) (zB (uM p e i) (iv (qa e a)) rfl (gdE F (fun aD F=>?_)))
 obtain ⟨x,hC1484,aE⟩:=cutA (enc:=bb) (l:=e) (lo:=(qd e a)) (hi:=e.length) (c:=i) (k:=3) bk G aD H
 refine zc (.slice x ((qb e a).length) (i - (qd e a))) (fun w I=>aE mj mc rfl (.inl (congrArg (fun z=>some (Value.int .i64 z)) (Int.toNat_of_nonneg U).symm)) (.inr ⟨rfl,rfl⟩) br) (zP (.agg #[.slice u ((qc e a).length) (i - 0),.slice x ((qb e a).length) (i - (qd e a))]) (by kernel_rfl) (zh (fun w I=>ph (li (fv:=yfn lqq1230) [iv 0,.agg #[.slice u ((qc e a).length) (i - 0),.slice x ((qb e a).length) (i - (qd e a))]] rfl (by kernel_rfl) ?_))))
 have I:=I.pk [0,1,2,3,4,5,6,7,8] rfl
 refine eu I hofq1230 [10,11] hpsq1230 rfl (by decide) ?_
 rw [hasq1230]
 refine uL rfl (pu (iv 0) rfl (aa (rgn rfl (ph (bh I _ zeroValue179 rfl fun aS w I=>xi I 0 _ zs179 rfl fun w I=>aa (⟨rfl,_,I.pk [1,0,2,3,4,5,6,7,8,9] rfl,?_⟩))))))
 intro w I
 rw [hboq1230]
 refine au (rgn rfl (pu (iv 0) rfl (xm I 1 zi179 zs179 rfl (ph (gr 119 [.agg #[.slice u ((qc e a).length) (i - 0),.slice x ((qb e a).length) (i - (qd e a))]] (by kernel_rfl) (az (n:=10) func119 rfl ntmps119 rfl (uL rfl (ph (ca I _ rfl fun V w I=>pu (iv 0) rfl (aa (uL rfl (pu (pt V) rfl (xg I 0 (.slice u ((qc e a).length) (i - 0)) mq rfl (pu2 (iv (((qc e a).length:Nat):Int)) (uF V 1) (by kernel_rfl) (xg I 0 (.slice x ((qb e a).length) (i - (qd e a))) mq rfl (pu (iv (((qb e a).length:Nat):Int)) (by kernel_rfl) (ckE F (fun aF F=>xa rfl aF (pu (iv (((qc e a).length:Int)+((qb e a).length:Int))) rfl (aa (aj (⟨iv (((qc e a).length:Int)+((qb e a).length:Int)),Ret.r1 rfl rfl,?_⟩))))))))))))))))))))))
 refine pu2 (uF t 3) (uF t 3) rfl (xq I 5 1 [iv (((qc e a).length:Int)+((qb e a).length:Int))] zs3 rfl (mx rfl) fun w I=>aa (⟨_,I.pk [1,0,2,3,4,5,6,7,8,9,10] rfl,fun w I=>?_⟩))
 refine pu bF rfl (aa (ai rfl (ak (rgn rfl (pu2 (iv 1) (iv 1) rfl (aa (⟨rfl,lh ?_⟩)))))))
 refine uL rfl (xl rfl (fun _=>?_) (fun h=>absurd (by decide) h))
 refine aa (ab (ah rfl (ak (ab (au (uL rfl (pu3 (iv 1) (uM q f j) (iv 1) (by kernel_rfl) (pu (uM q f j) rfl (aa (uL rfl (pu3 (iv 1) (uF o 3) (uF o 4) (by kernel_rfl) (xg I 4 (iv b) zi3 rfl (pu3 (iv (if 0 > b then 0 else b)) (uM q f j) (iv ((f.length:Nat):Int)) (by kernel_rfl) (pu2 (iv (qa f b)) (iv (qa f b)) (by kernel_rfl) (aa (ab (gm 9 I (by kernel_rfl) (zB (yfn lqq1230) (iv 1) rfl (zB (uM q f j) (iv (qa f b)) rfl (gdE F (fun X F=>gdE F (fun aG F=>?_))))))))))))))))))))))
 obtain ⟨A,hC1546,aH⟩:=cutA (enc:=bb) (l:=f) (lo:=0) (hi:=(qd f b)) (c:=j) (k:=3) bk J aG K
 refine zc (.slice A ((qc f b).length) (j - 0)) (fun w I=>aH mj mc rfl (.inr ⟨rfl,rfl⟩) (.inl (congrArg (fun z=>some (Value.int .i64 z)) (Int.toNat_of_nonneg X).symm)) br) (zB (uM q f j) (iv (qa f b)) rfl (gdE F (fun aI F=>?_)))
 obtain ⟨B,hC1548,aJ⟩:=cutA (enc:=bb) (l:=f) (lo:=(qd f b)) (hi:=f.length) (c:=j) (k:=3) bk J aI K
 refine zc (.slice B ((qb f b).length) (j - (qd f b))) (fun w I=>aJ mj mc rfl (.inl (congrArg (fun z=>some (Value.int .i64 z)) (Int.toNat_of_nonneg X).symm)) (.inr ⟨rfl,rfl⟩) br) (zP (.agg #[.slice A ((qc f b).length) (j - 0),.slice B ((qb f b).length) (j - (qd f b))]) (by kernel_rfl) (zh (fun w I=>ph (li (fv:=yfn lqq1230) [iv 1,.agg #[.slice A ((qc f b).length) (j - 0),.slice B ((qb f b).length) (j - (qd f b))]] rfl (by kernel_rfl) ?_))))
 have I:=I.pk [0,1,2,3,4,5,6,7,8,9,10] rfl
 refine eu I hofq1230 [10,11] hpsq1230 rfl (by decide) ?_
 rw [hasq1230]
 refine uL rfl (pu (iv 1) rfl (aa (rgn rfl (ph (bh I _ zeroValue179 rfl fun aT w I=>xi I 0 _ zs179 rfl fun w I=>aa (⟨rfl,_,I.pk [1,0,2,3,4,5,6,7,8,9,10,11] rfl,?_⟩))))))
 intro w I
 rw [hboq1230]
 refine au (rgn rfl (pu (iv 1) rfl (xm I 1 zi179 zs179 rfl (ph (gr 119 [.agg #[.slice A ((qc f b).length) (j - 0),.slice B ((qb f b).length) (j - (qd f b))]] (by kernel_rfl) (az (n:=10) func119 rfl ntmps119 rfl (uL rfl (ph (ca I _ rfl fun Y w I=>pu (iv 0) rfl (aa (uL rfl (pu (pt Y) rfl (xg I 0 (.slice A ((qc f b).length) (j - 0)) mq rfl (pu2 (iv (((qc f b).length:Nat):Int)) (uF Y 1) (by kernel_rfl) (xg I 0 (.slice B ((qb f b).length) (j - (qd f b))) mq rfl (pu (iv (((qb f b).length:Nat):Int)) (by kernel_rfl) (ckE F (fun aK F=>xa rfl aK (pu (iv (((qc f b).length:Int)+((qb f b).length:Int))) rfl (aa (aj (⟨iv (((qc f b).length:Int)+((qb f b).length:Int)),Ret.r1 rfl rfl,?_⟩))))))))))))))))))))))
 refine pu2 (uF t 3) (uF t 4) rfl (xq I 7 1 [iv (((qc f b).length:Int)+((qb f b).length:Int))] zs3 rfl (mx rfl) fun w I=>aa (⟨_,I.pk [1,0,2,3,4,5,6,7,8,9,10,11,12] rfl,fun w I=>?_⟩))
 refine pu bF rfl (aa (ai rfl (ak (rgn rfl (pu2 (iv 2) (iv 2) rfl (aa (⟨rfl,lh ?_⟩)))))))
 refine uL rfl (xl rfl (fun _=>?_) (fun h=>absurd (by decide) h))
 refine aa (ab (ah rfl (ak (ab (au (uL rfl (pu3 (iv 2) (uM s g m) (iv 2) (by kernel_rfl) (pu (uM s g m) rfl (aa (uL rfl (pu3 (iv 2) (uF o 3) (uF o 5) (by kernel_rfl) (xg I 6 (iv d) zi3 rfl (pu3 (iv (if 0 > d then 0 else d)) (uM s g m) (iv ((g.length:Nat):Int)) (by kernel_rfl) (pu2 (iv (qa g d)) (iv (qa g d)) (by kernel_rfl) (aa (ab (gm 9 I (by kernel_rfl) (zB (yfn lqq1230) (iv 2) rfl (zB (uM s g m) (iv (qa g d)) rfl (gdE F (fun Z F=>gdE F (fun aL F=>?_))))))))))))))))))))))
 obtain ⟨C,hC1610,aM⟩:=cutA (enc:=bb) (l:=g) (lo:=0) (hi:=(qd g d)) (c:=m) (k:=3) bk L aL M
 refine zc (.slice C ((qc g d).length) (m - 0)) (fun w I=>aM mj mc rfl (.inr ⟨rfl,rfl⟩) (.inl (congrArg (fun z=>some (Value.int .i64 z)) (Int.toNat_of_nonneg Z).symm)) br) (zB (uM s g m) (iv (qa g d)) rfl (gdE F (fun aN F=>?_)))
 obtain ⟨E,hC1612,aO⟩:=cutA (enc:=bb) (l:=g) (lo:=(qd g d)) (hi:=g.length) (c:=m) (k:=3) bk L aN M
 refine zc (.slice E ((qb g d).length) (m - (qd g d))) (fun w I=>aO mj mc rfl (.inl (congrArg (fun z=>some (Value.int .i64 z)) (Int.toNat_of_nonneg Z).symm)) (.inr ⟨rfl,rfl⟩) br) (zP (.agg #[.slice C ((qc g d).length) (m - 0),.slice E ((qb g d).length) (m - (qd g d))]) (by kernel_rfl) (zh (fun w I=>ph (li (fv:=yfn lqq1230) [iv 2,.agg #[.slice C ((qc g d).length) (m - 0),.slice E ((qb g d).length) (m - (qd g d))]] rfl (by kernel_rfl) ?_))))
 have I:=I.pk [0,1,2,3,4,5,6,7,8,9,10,11,12] rfl
 refine eu I hofq1230 [10,11] hpsq1230 rfl (by decide) ?_
 rw [hasq1230]
 refine uL rfl (pu (iv 2) rfl (aa (rgn rfl (ph (bh I _ zeroValue179 rfl fun aU w I=>xi I 0 _ zs179 rfl fun w I=>aa (⟨rfl,_,I.pk [1,0,2,3,4,5,6,7,8,9,10,11,12,13] rfl,?_⟩))))))
 intro w I
 rw [hboq1230]
 refine au (rgn rfl (pu (iv 2) rfl (xm I 1 zi179 zs179 rfl (ph (gr 119 [.agg #[.slice C ((qc g d).length) (m - 0),.slice E ((qb g d).length) (m - (qd g d))]] (by kernel_rfl) (az (n:=10) func119 rfl ntmps119 rfl (uL rfl (ph (ca I _ rfl fun a0 w I=>pu (iv 0) rfl (aa (uL rfl (pu (pt a0) rfl (xg I 0 (.slice C ((qc g d).length) (m - 0)) mq rfl (pu2 (iv (((qc g d).length:Nat):Int)) (uF a0 1) (by kernel_rfl) (xg I 0 (.slice E ((qb g d).length) (m - (qd g d))) mq rfl (pu (iv (((qb g d).length:Nat):Int)) (by kernel_rfl) (ckE F (fun aP F=>xa rfl aP (pu (iv (((qc g d).length:Int)+((qb g d).length:Int))) rfl (aa (aj (⟨iv (((qc g d).length:Int)+((qb g d).length:Int)),Ret.r1 rfl rfl,?_⟩))))))))))))))))))))))
 refine pu2 (uF t 3) (uF t 5) rfl (xq I 9 1 [iv (((qc g d).length:Int)+((qb g d).length:Int))] zs3 rfl (mx rfl) fun w I=>aa (⟨_,I.pk [1,0,2,3,4,5,6,7,8,9,10,11,12,13,14] rfl,fun w I=>?_⟩))
 refine pu bF rfl (aa (ai rfl (ak (rgn rfl (pu2 (iv 3) (iv 3) rfl (aa (⟨rfl,lh ?_⟩)))))))
 refine uL rfl (xl rfl (fun h=>absurd h (by decide)) (fun _=>aa (ab (ai rfl (bw (⟨.tuple #[],Ret.r0 rfl,?_⟩))))))
 refine ⟨_,.inl ⟨I.pk [0,1,2,3,4,5,6,7,8,9,10,11,12,13,14] rfl,fun w I=>?_⟩⟩
 refine uL rfl (xm I 9 mt mi rfl (xi I 13 _ mi rfl fun w I=>aa (aj (cf.mark (D:=rcq1230.defers) (I.pk [7,0,1,2,3,4,5,6,8,9,10,11,12,13,14] rfl) ?_))))
 intro w I
 cases F
 exact ⟨_,Ret.c rfl rfl (ce I 12 6 [uN O N.1 P,uN Q N.2.1 R,uN S N.2.2.1 T,iv (((qc e a).length:Int)+((qb e a).length:Int)),iv (((qc f b).length:Int)+((qb f b).length:Int)),iv (((qc g d).length:Int)+((qb g d).length:Int))] mt mi rfl rfl rfl),⟨O,P,a5,Q,R,a6,S,T,a7,rfl,I.pk [9,10,11] rfl,a8.to rfl rfl,a9.to rfl rfl,aA.to rfl rfl⟩⟩

end Go.K
