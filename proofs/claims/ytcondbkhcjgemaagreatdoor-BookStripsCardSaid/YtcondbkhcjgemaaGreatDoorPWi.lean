import Derived.Test.YtcondbkhcjgemaaGreatDoorPWh
namespace Go.K
open Go.Proofs.Tryz
open Go.Proofs Go.RowKit
set_option linter.unusedVariables false
set_option linter.unusedSimpArgs false
set_option maxRecDepth 100000
attribute [local irreducible] Seq cw cx fl opX
theorem L148 (w0:World) (e:Str) (f:Int) (N:Nat) (r:Str) (F:F148 N e f=some r):bn Tryz.prog 148 [.string (bts e),iv f] w0 fun v w=>v=.string (bts r)∧Below w0.heap.size w0 w:=by
 refine az (n:=48) func148 rfl ntmps148 rfl ?_
 have I:=Inv.start w0
 unfold F148 at F
 refine ab (rgn (by kernel_rfl) (pu (.string (bts [])) (by kernel_rfl) (aa (ab (rgn (by kernel_rfl) (ac (fu I [] 5 (fun b=>slv (some b) 0 0) (by kernel_rfl) fun C w I=>pu (.slice (some ⟨C,0,none⟩) 0 0) (by kernel_rfl) (aa (ab (ab (rgn (by kernel_rfl) (pu (iv 0) (by kernel_rfl) (aa (au ?_))))))))))))))
 have Y:Row 1 (some C) 0 0 [] (al eB ([]:List Int)):=Row.lit ew (l:=([]:List Int)) rfl (mx rfl)
 refine cb (fun m ρ w=>∃ (o:Option Nat) (p:Nat) (x:List Value) (a:List Int) (d:Int) (mm:Nat),cd ρ [(0,.string (bts e)),(1,iv f),(5,slv o a.length p),(6,iv d)]∧Inv [] w0 w [(o,blk x 5)]∧(Row 1 o (a.length) p x (al eB a))∧F148l1 e f mm a d=some r∧mm=m) (m:=N) ⟨some C,0,[],([]:List Int),0,N,⟨rfl,rfl,rfl,rfl,trivial⟩,I.pk [0] rfl rfl,(Y.to rfl rfl),F,rfl⟩ ?_
 rintro m ρ w ⟨o,p,x,a,d,mm,hag,I,y,F,hm⟩
 subst hm; obtain ⟨ρ,rfl⟩:=hag.form; clear hag
 obtain _ | m1:=mm
 ·cases (show (none:Option Str)=some r from F)
 replace F:F148b1 e f (F148l1 e f m1) a d=some r:=F; unfold F148b1 at F
 refine ab (ab (rgn (by kernel_rfl) (pu3 (iv d) (.string (bts e)) (iv (e.length:Int)) (by kernel_rfl) (ifN F (fun D F=>?_) (fun D F=>?_)))))
 ·
  refine ac (cm rfl rfl (fun h=>absurd h D) (fun _=>aa (ai rfl (bw (ab (rgn (by kernel_rfl) (pu (slv o a.length p) (by kernel_rfl) (ac (fx (l:=a) mg zu5 zu9 rfl rfl (I.rowCells 0 rfl y) (pu (.string (bts (bl a))) (by kernel_rfl) (aa (aj ?_))))))))))))
  cases F
  exact ⟨_,Ret.r1 rfl rfl,⟨rfl,I.below⟩⟩


 refine ac (cm rfl rfl (fun _=>?_) (fun h=>absurd D h))
 refine aa (ah rfl (ak (dn (fun ρ w=>∃ (t:Option Nat) (A:Nat) (B:List Value) (s:List Int),cd ρ [(0,.string (bts e)),(1,iv f),(5,slv t s.length A),(6,iv d)]∧Inv [] w0 w [(t,blk B 5)]∧(Row 1 t (s.length) A B (al eB s))∧F148j2 (F148l1 e f m1) d s=some r) ?_ ?_)))
 ·
  refine au (ab (rgn (by kernel_rfl) (pu2 (.string (bts e)) (iv d) (by kernel_rfl) (gdE F (fun Z F=>bt F (fun g a0 F=>ac (fb (d).toNat zu9 rfl rfl (Int.toNat_of_nonneg Z).symm a0 (pu (.int .u8 (nb g)) (by kernel_rfl) (aa (ab (rgn (by kernel_rfl) (pu (.int .u8 32) (by kernel_rfl) (aa (dn (fun ρ w=>∃ (i:Int),cd ρ [(0,.string (bts e)),(1,iv f),(5,slv o a.length p),(6,iv d),(7,.int .u8 (nb g)),(8,.int .u8 i)]∧Inv [] w0 w [(o,blk x 5)]∧F148j3 f (F148l1 e f m1) a d g i=some r) ?_ ?_))))))))))))))
  ·
   refine ab (rgn (by kernel_rfl) (pu (iv d) (by kernel_rfl) (ckE F (fun T F=>ac (cj rfl rfl T (pu2 (.string (bts e)) (iv (e.length:Int)) (by kernel_rfl) (ifN F (fun E F=>?_) (fun E F=>?_))))))))
   ·
    refine ac (cm rfl rfl (fun h=>absurd h E) (fun _=>aa (ai rfl (ak (.inl ⟨rfl,⟨32,⟨rfl,rfl,rfl,rfl,rfl,rfl,trivial⟩,I.pk [0] rfl rfl,F⟩⟩)))))
   refine ac (cm rfl rfl (fun _=>?_) (fun h=>absurd E h))
   refine aa (ah rfl (rgn (by kernel_rfl) (pu2 (.string (bts e)) (iv d) (by kernel_rfl) (ac (cj rfl rfl T (gdE F (fun a1 F=>bt F (fun U a2 F=>ac (fb ((d+1).toNat) zu9 rfl rfl (Int.toNat_of_nonneg a1).symm a2 (pu (.int .u8 (nb U)) (by kernel_rfl) (aa (.inl ⟨rfl,⟨nb U,⟨rfl,rfl,rfl,rfl,rfl,rfl,trivial⟩,I.pk [0] rfl rfl,F⟩⟩))))))))))))
  intro ρ w hJ
  obtain ⟨i,hag,I,F⟩:=hJ
  obtain ⟨ρ,rfl⟩:=hag.form; clear hag
  unfold F148j3 at F
  refine ab (rgn (by kernel_rfl) (pu (iv f) (by kernel_rfl) (ifE F (fun G F=>?_) (fun G F=>?_))))
  ·
   refine ac (di rfl rfl (fun _=>?_) (fun h=>absurd G h))
   refine aa (ah rfl (rgn (by kernel_rfl) (pu2 (slv o a.length p) (.int .u8 (nb g)) (by kernel_rfl) (ac (fu I [.int .u8 (nb g)] 5 (fun b=>slv (some b) 1 1) (by kernel_rfl) fun a6 w I=>gdE F (fun a7 F=>ac (ks I mg (z:=.int .u8 0) (k:=1) (bytes:=1) (by kernel_rfl) rfl rfl 1 rfl rfl y [.int .u8 (nb g)] rfl rfl (I.cells 0 (off:=0) rfl (fun j u h=>by rw [Nat.zero_add]; exact h)) (by simp [Value.oneCell']) (by omega) (by omega) (n2:=(a++[nb g]).length) (kr rfl rfl) ?_)))))))
   intro H J V w I K
   have K:Row 1 H ((a++[nb g]).length) J V (al eB (a++[nb g])):=K.snoc _ rfl
   refine pu (slv H ((a++[nb g]).length) J) (by kernel_rfl) (aa (.inl ⟨rfl,⟨H,J,V,a++[nb g],⟨rfl,rfl,rfl,rfl,trivial⟩,I.pk [1] rfl rfl,(K.to rfl rfl),F⟩⟩))
  refine ac (di rfl rfl (fun h=>absurd h G) (fun _=>aa (ai rfl (ab (rgn (by kernel_rfl) (pu (iv f) (by kernel_rfl) (ifE F (fun L F=>?_) (fun L F=>?_))))))))
  ·
   refine ac (di rfl rfl (fun _=>?_) (fun h=>absurd L h))
   refine aa (ah rfl (rgn (by kernel_rfl) (pu2 (slv o a.length p) (.int .u8 i) (by kernel_rfl) (ac (fu I [.int .u8 i] 5 (fun b=>slv (some b) 1 1) (by kernel_rfl) fun a8 w I=>gdE F (fun a9 F=>ac (ks I mg (z:=.int .u8 0) (k:=1) (bytes:=1) (by kernel_rfl) rfl rfl 1 rfl rfl y [.int .u8 i] rfl rfl (I.cells 0 (off:=0) rfl (fun j u h=>by rw [Nat.zero_add]; exact h)) (by simp [Value.oneCell']) (by omega) (by omega) (n2:=(a++[i]).length) (kr rfl rfl) ?_)))))))
   intro M O W w I P
   have P:Row 1 M ((a++[i]).length) O W (al eB (a++[i])):=P.snoc _ rfl
   refine pu (slv M ((a++[i]).length) O) (by kernel_rfl) (aa (.inl ⟨rfl,⟨M,O,W,a++[i],⟨rfl,rfl,rfl,rfl,trivial⟩,I.pk [1] rfl rfl,(P.to rfl rfl),F⟩⟩))
  refine ac (di rfl rfl (fun h=>absurd h L) (fun _=>aa (ai rfl (rgn (by kernel_rfl) (pu3 (slv o a.length p) (.int .u8 (nb g)) (.int .u8 i) (by kernel_rfl) (bt F (fun q a3 F=>ac (bg I 164 _ _ (by kernel_rfl) (L164 _ (nb g) i _ a3) fun w I=>ac (fu I [.int .u8 q] 5 (fun b=>slv (some b) 1 1) (by kernel_rfl) fun aA w I=>gdE F (fun aB F=>ac (ks I mg (z:=.int .u8 0) (k:=1) (bytes:=1) (by kernel_rfl) rfl rfl 1 rfl rfl y [.int .u8 q] rfl rfl (I.cells 0 (off:=0) rfl (fun j u h=>by rw [Nat.zero_add]; exact h)) (by simp [Value.oneCell']) (by omega) (by omega) (n2:=(a++[q]).length) (kr rfl rfl) ?_)))))))))))
  intro Q R X w I S
  have S:Row 1 Q ((a++[q]).length) R X (al eB (a++[q])):=S.snoc _ rfl
  refine pu (slv Q ((a++[q]).length) R) (by kernel_rfl) (aa (.inl ⟨rfl,⟨Q,R,X,a++[q],⟨rfl,rfl,rfl,rfl,trivial⟩,I.pk [1] rfl rfl,(S.to rfl rfl),F⟩⟩))
 intro ρ w hJ
 obtain ⟨t,A,B,s,hag,I,a4,F⟩:=hJ
 obtain ⟨ρ,rfl⟩:=hag.form; clear hag
 unfold F148j2 at F
 refine rgn (by kernel_rfl) (pu (iv d) (by kernel_rfl) (ckE F (fun a5 F=>ac (cj rfl rfl a5 (pu (iv (d+2)) (by kernel_rfl) (aa (⟨rfl,m1,Nat.lt_succ_self _,⟨t,A,B,s,d+2,m1,⟨rfl,rfl,rfl,rfl,trivial⟩,I.pk [0] rfl rfl,(a4.to rfl rfl),F,rfl⟩⟩)))))))
theorem L89 (w0:World) (g:Rc) (e:Int) (N:Nat) (r:List Sp3) (F:F89 N g e=some r):bn Tryz.prog 89 [.agg #[iv g.p,iv g.n,iv g.k,iv g.d,iv g.kn,iv g.op,iv g.on,.string (bts g.t)],iv e] w0 fun v w=>∃ (z0:Option Nat) (z1:Nat) (z2:List Value),v=slv z0 r.length z1∧Inv [] w0 w [(z0,blk z2 35)]∧Row 3 z0 r.length z1 z2 (al bb r):=by
 refine az (n:=25) func89 rfl ntmps89 rfl ?_
 have I:=Inv.start w0
 unfold F89 at F
 refine ab (rgn (by kernel_rfl) (ac (ca I _ rfl fun J w I=>pu (.slice none 0 0) (by kernel_rfl) (aa (ab (rgn (by kernel_rfl) (ac (ma I 0 mh md rfl rfl rfl (bt F (fun a E F=>ac (bg I 70 _ _ (by kernel_rfl) (L70 _ g N _ E) fun w I=>pu (.string (bts a)) (by kernel_rfl) (aa (ab (rgn (by kernel_rfl) (pu (.slice none 0 0) (by kernel_rfl) (aa (ab (ab (rgn (by kernel_rfl) (pu (iv 0) (by kernel_rfl) (aa (au ?_))))))))))))))))))))))
 have I:=I.nilRow 35
 refine cb (fun m ρ w=>∃ (l:Option Nat) (q:Nat) (s:List Value) (f:List Sp3) (i:Int) (mm:Nat),cd ρ [(1,iv e),(5,.string (bts a)),(6,slv l f.length q),(7,iv i)]∧Inv [] w0 w [(l,blk s 35)]∧(Row 3 l (f.length) q s (al bb f))∧F89l1 e N a mm f i=some r∧mm=m) (m:=N) ⟨none,0,[],[],0,N,⟨rfl,rfl,rfl,rfl,trivial⟩,I.pk [0] rfl rfl,(Row.nil_ 3),F,rfl⟩ ?_
 rintro m ρ w ⟨l,q,s,f,i,mm,hag,I,C,F,hm⟩
 subst hm; obtain ⟨ρ,rfl⟩:=hag.form; clear hag
 obtain _ | m1:=mm
 ·cases (show (none:Option (List Sp3))=some r from F)
 replace F:F89b1 e N a (F89l1 e N a m1) f i=some r:=F; unfold F89b1 at F
 refine ab (ab (rgn (by kernel_rfl) (pu (iv i) (by kernel_rfl) (ifN F (fun x F=>?_) (fun x F=>?_)))))
 ·
  refine ac (cm rfl rfl (fun h=>absurd h x) (fun _=>aa (ai rfl (bw (ab (rgn (by kernel_rfl) (pu2 (slv l f.length q) (slv l f.length q) (by kernel_rfl) (aa (aj ?_)))))))))
  cases F
  exact ⟨_,Ret.r1 rfl rfl,⟨l,q,s,rfl,I.pk [0] rfl rfl,C.to rfl rfl⟩⟩


 refine ac (cm rfl rfl (fun _=>?_) (fun h=>absurd x h))
 refine aa (ah rfl (ak (ab (au (rgn (by kernel_rfl) (pu3 (slv l f.length q) (iv e) (.string (bts a)) (by kernel_rfl) (pu3 (iv (a.length:Int)) (.string (bts a)) (iv i) (by kernel_rfl) (bt F (fun o G F=>ac (bg I 148 _ _ (by kernel_rfl) (L148 _ a i N _ G) fun w I=>pu (.agg #[iv e,iv (a.length:Int),.string (bts o)]) (by kernel_rfl) (ac (fu I [iv e,iv (a.length:Int),.string (bts o)] 35 (fun b=>slv (some b) 1 1) (by kernel_rfl) fun K w I=>gdE F (fun L F=>ac (ks I mj (z:=.agg #[iv 0,iv 0,.string (bts [])]) (k:=3) (bytes:=32) (by kernel_rfl) rfl rfl 1 rfl rfl C [iv e,iv (a.length:Int),.string (bts o)] rfl rfl (I.cells 0 (off:=0) rfl (fun j u h=>by rw [Nat.zero_add]; exact h)) (by simp [Value.oneCell']) (by omega) (by omega) (n2:=(f++[(⟨e,(a.length:Int),o⟩:Sp3)]).length) (kr rfl rfl) ?_))))))))))))))
 intro y A D w I B
 have B:Row 3 y ((f++[(⟨e,(a.length:Int),o⟩:Sp3)]).length) A D (al bb (f++[(⟨e,(a.length:Int),o⟩:Sp3)])):=B.snoc _ rfl
 refine pu (slv y ((f++[(⟨e,(a.length:Int),o⟩:Sp3)]).length) A) (by kernel_rfl) (aa (rgn (by kernel_rfl) (pu (iv i) (by kernel_rfl) (ckE F (fun H F=>ac (cj rfl rfl H (pu (iv (i+1)) (by kernel_rfl) (aa (⟨rfl,m1,Nat.lt_succ_self _,⟨y,A,D,f++[(⟨e,(a.length:Int),o⟩:Sp3)],i+1,m1,⟨rfl,rfl,rfl,rfl,trivial⟩,I.pk [1] rfl rfl,(B.to rfl rfl),F,rfl⟩⟩)))))))))
theorem L21 (w0:World) (a:Rc) (b:Int) (N:Nat) (r:(List Sp3 × Int)) (F:F21 N a b=some r):bn Tryz.prog 21 [.agg #[iv a.p,iv a.n,iv a.k,iv a.d,iv a.kn,iv a.op,iv a.on,.string (bts a.t)],iv b] w0 fun v w=>∃ (z0:Option Nat) (z1:Nat) (z2:List Value),v=.tuple #[slv z0 r.1.length z1,iv r.2]∧Inv [] w0 w [(z0,blk z2 35)]∧Row 3 z0 r.1.length z1 z2 (al bb r.1):=by
 refine az (n:=18) func21 rfl ntmps21 rfl ?_
 have I:=Inv.start w0
 unfold F21 at F
 refine ab (rgn (by kernel_rfl) (ac (ca I _ rfl fun x w I=>pu2 (.slice none 0 0) (iv 0) (by kernel_rfl) (aa (ab (ab (rgn (by kernel_rfl) (ac (ma I 0 mh md rfl rfl rfl (bt F (fun e m F=>ac (bg I 18 _ _ (by kernel_rfl) (L18 _ a N _ m) fun w I=>pu (iv e) (by kernel_rfl) (aa (ab (rgn (by kernel_rfl) (pu (iv e) (by kernel_rfl) (ifN F (fun f F=>?_) (fun f F=>?_))))))))))))))))))
 ·
  refine ac (de rfl rfl (fun _=>?_) (fun h=>absurd h f))
  refine aa (ah rfl (ab (rgn (by kernel_rfl) (pu3 (iv e) (.slice none 0 0) (iv e) (by kernel_rfl) (aa (aj ?_))))))
  have I:=I.nilRow 35
  cases F
  exact ⟨_,Ret.r2 rfl rfl rfl,⟨none,0,[],rfl,I.pk [0] rfl rfl,Row.nil_ 3⟩⟩


 refine ac (de rfl rfl (fun h=>absurd f h) (fun _=>aa (ai rfl (ak (ab (ab (rgn (by kernel_rfl) (pu (iv b) (by kernel_rfl) (bt F (fun y i F=>ifN F (fun g F=>?_) (fun g F=>?_)))))))))))
 ·
  refine ac (bg I 82 _ _ (by kernel_rfl) (bn.mono (L82 _ b 0 59 _ i) (fun v' w' h=>⟨h.1.trans (congrArg Value.bool (Bool.eq_false_iff.2 g)),h.2⟩)) fun w I=>pu bT (by kernel_rfl) (aa (ah rfl (ab (rgn (by kernel_rfl) (pu2 (.slice none 0 0) (iv 1) (by kernel_rfl) (aa (aj ?_))))))))
  have I:=I.nilRow 35
  cases F
  exact ⟨_,Ret.r2 rfl rfl rfl,⟨none,0,[],rfl,I.pk [0] rfl rfl,Row.nil_ 3⟩⟩
 refine ac (bg I 82 _ _ (by kernel_rfl) (bn.mono (L82 _ b 0 59 _ i) (fun v' w' h=>⟨h.1.trans (congrArg Value.bool g),h.2⟩)) fun w I=>pu bF (by kernel_rfl) (aa (ai rfl (ak (ab (rgn (by kernel_rfl) (ac (ma I 0 mh md rfl rfl rfl (pu (iv b) (by kernel_rfl) (bt F (fun o q F=>ac (co 89 _ (by kernel_rfl) (L89 _ a b N _ q) ?_))))))))))))
 rintro v w ⟨j,l,s,rfl,hN,u⟩
 have I:=I.join hN; clear hN
 refine pu2 (slv j o.length l) (iv 0) (by kernel_rfl) (aa (aj ?_))
 cases F
 exact ⟨_,Ret.r2 rfl rfl rfl,⟨j,l,s,rfl,I.pk [0] rfl rfl,u.to rfl rfl⟩⟩
theorem L94 (w0:World) (d:Int) (a:Sp3) (N:Nat) (r:Bool) (F:F94 N d a=some r):bn Tryz.prog 94 [iv d,.agg #[iv a.no,iv a.sz,.string (bts a.t)]] w0 fun v w=>v=.bool r∧Below w0.heap.size w0 w:=by
 refine az (n:=49) func94 rfl ntmps94 rfl ?_
 have I:=Inv.start w0
 unfold F94 at F
 refine ab (rgn (by kernel_rfl) (ac (ca I _ rfl fun b w I=>pu bF (by kernel_rfl) (aa (ab (ab (rgn (by kernel_rfl) (pu (pt b) (by kernel_rfl) (ac (ag I 0 (iv a.no) zi3 rfl rfl rfl (bt F (fun y m F=>ifN F (fun e F=>?_) (fun e F=>?_)))))))))))))
 ·
  refine ac (bg I 82 _ _ (by kernel_rfl) (bn.mono (L82 _ a.no 0 59 _ m) (fun v' w' h=>⟨h.1.trans (congrArg Value.bool (Bool.eq_false_iff.2 e)),h.2⟩)) fun w I=>pu2 bT bT (by kernel_rfl) (sf 4 (by kernel_rfl) (pu2 bT bT (by kernel_rfl) (sf 8 (by kernel_rfl) (pu2 bT bT (by kernel_rfl) (sf 4 (by kernel_rfl) (pu bT (by kernel_rfl) (aa (ah rfl (ab (rgn (by kernel_rfl) (pu bF (by kernel_rfl) (aa (aj ?_))))))))))))))
  cases F
  exact ⟨_,Ret.r1 rfl rfl,⟨rfl,I.below⟩⟩


 refine ac (bg I 82 _ _ (by kernel_rfl) (bn.mono (L82 _ a.no 0 59 _ m) (fun v' w' h=>⟨h.1.trans (congrArg Value.bool e),h.2⟩)) fun w I=>pu2 bF bF (by kernel_rfl) (pup (.pointer (some ⟨b,1,none⟩)) (by kernel_rfl) (aw (by kernel_rfl) (ag I 0 (iv a.sz) zi3 rfl rfl rfl (bt F (fun z o F=>ifN F (fun f F=>?_) (fun f F=>?_)))))))
 ·
  refine aw (by kernel_rfl) (bg I 82 _ _ (by kernel_rfl) (bn.mono (L82 _ a.sz 14 240 _ o) (fun v' w' h=>⟨h.1.trans (congrArg Value.bool (Bool.eq_false_iff.2 f)),h.2⟩)) fun w I=>pup bT (by kernel_rfl) (pu2 bT bT (by kernel_rfl) (sf 8 (by kernel_rfl) (pu2 bT bT (by kernel_rfl) (sf 4 (by kernel_rfl) (pu bT (by kernel_rfl) (aa (ah rfl (ab (rgn (by kernel_rfl) (pu bF (by kernel_rfl) (aa (aj ?_)))))))))))))
  cases F
  exact ⟨_,Ret.r1 rfl rfl,⟨rfl,I.below⟩⟩
 refine aw (by kernel_rfl) (bg I 82 _ _ (by kernel_rfl) (bn.mono (L82 _ a.sz 14 240 _ o) (fun v' w' h=>⟨h.1.trans (congrArg Value.bool f),h.2⟩)) fun w I=>pup bF (by kernel_rfl) (pu2 bF bF (by kernel_rfl) (pup (.pointer (some ⟨b,2,none⟩)) (by kernel_rfl) (aw (by kernel_rfl) (ag I 0 (.string (bts a.t)) zi9 rfl rfl rfl (pup (iv (a.t.length:Int)) (by kernel_rfl) (pup (.pointer (some ⟨b,1,none⟩)) (by kernel_rfl) (aw (by kernel_rfl) (ag I 0 (iv a.sz) zi3 rfl rfl rfl (ckE F (fun p F=>aw (by kernel_rfl) (cj rfl rfl p (aw (by kernel_rfl) (s_quo rfl rfl (by decide) p (ifN F (fun g F=>?_) (fun g F=>?_))))))))))))))))
 ·
  refine aw (by kernel_rfl) (de rfl rfl (fun _=>?_) (fun h=>absurd h g))
  refine pu2 bT bT (by kernel_rfl) (sf 4 (by kernel_rfl) (pu bT (by kernel_rfl) (aa (ah rfl (ab (rgn (by kernel_rfl) (pu bF (by kernel_rfl) (aa (aj ?_)))))))))
  cases F
  exact ⟨_,Ret.r1 rfl rfl,⟨rfl,I.below⟩⟩
 refine aw (by kernel_rfl) (de rfl rfl (fun h=>absurd g h) (fun _=>pu2 bF bF (by kernel_rfl) (pup (.pointer (some ⟨b,2,none⟩)) (by kernel_rfl) (aw (by kernel_rfl) (ag I 0 (.string (bts a.t)) zi9 rfl rfl rfl (bt F (fun A q F=>ifN F (fun i F=>?_) (fun i F=>?_))))))))
 ·
  refine aw (by kernel_rfl) (bg I 84 _ _ (by kernel_rfl) (bn.mono (L84 _ a.t N _ q) (fun v' w' h=>⟨h.1.trans (congrArg Value.bool (Bool.eq_false_iff.2 i)),h.2⟩)) fun w I=>pup bT (by kernel_rfl) (pu bT (by kernel_rfl) (aa (ah rfl (ab (rgn (by kernel_rfl) (pu bF (by kernel_rfl) (aa (aj ?_)))))))))
  cases F
  exact ⟨_,Ret.r1 rfl rfl,⟨rfl,I.below⟩⟩
 refine aw (by kernel_rfl) (bg I 84 _ _ (by kernel_rfl) (bn.mono (L84 _ a.t N _ q) (fun v' w' h=>⟨h.1.trans (congrArg Value.bool i),h.2⟩)) fun w I=>pup bF (by kernel_rfl) (pu bF (by kernel_rfl) (aa (ai rfl (ak (ab (rgn (by kernel_rfl) (pu (iv d) (by kernel_rfl) (ifN F (fun j F=>?_) (fun j F=>?_))))))))))
 ·
  refine ac (de rfl rfl (fun _=>?_) (fun h=>absurd h j))
  refine pu bT (by kernel_rfl) (sf 4 (by kernel_rfl) (pu2 bT bT (by kernel_rfl) (sf 8 (by kernel_rfl) (pu2 bT bT (by kernel_rfl) (aa (aj ?_))))))
  cases F
  exact ⟨_,Ret.r1 rfl rfl,⟨rfl,I.below⟩⟩
 refine ac (de rfl rfl (fun h=>absurd j h) (fun _=>pu bF (by kernel_rfl) (pup (.pointer (some ⟨b,1,none⟩)) (by kernel_rfl) (aw (by kernel_rfl) (ag I 0 (iv a.sz) zi3 rfl rfl rfl (aw (by kernel_rfl) (s_rem rfl rfl (by decide) (ifE F (fun k F=>?_) (fun k F=>?_)))))))))
 ·
  refine aw (by kernel_rfl) (di rfl rfl (fun _=>?_) (fun h=>absurd k h))
  refine pu2 bT bT (by kernel_rfl) (sf 8 (by kernel_rfl) (pu2 bT bT (by kernel_rfl) (aa (aj ?_))))
  cases F
  exact ⟨_,Ret.r1 rfl rfl,⟨rfl,I.below⟩⟩
 refine aw (by kernel_rfl) (di rfl rfl (fun h=>absurd h k) (fun _=>pu2 bF bF (by kernel_rfl) (pup (.pointer (some ⟨b,2,none⟩)) (by kernel_rfl) (aw (by kernel_rfl) (ag I 0 (.string (bts a.t)) zi9 rfl rfl rfl (pup (.pointer (some ⟨b,2,none⟩)) (by kernel_rfl) (aw (by kernel_rfl) (ag I 0 (.string (bts a.t)) zi9 rfl rfl rfl (pup (iv (a.t.length:Int)) (by kernel_rfl) (ckE F (fun s F=>aw (by kernel_rfl) (s_sub rfl rfl s (gdE F (fun u F=>bt F (fun B x F=>aw (by kernel_rfl) (fb (((a.t.length:Int) - 1).toNat) zu9 rfl rfl (Int.toNat_of_nonneg u).symm x (ifE F (fun l F=>?_) (fun l F=>?_))))))))))))))))))
 ·
  refine aw (by kernel_rfl) (s_eql8 rfl rfl (fun _=>?_) (fun h=>absurd l h))
  refine pu2 bT bT (by kernel_rfl) (aa (aj ?_))
  cases F
  exact ⟨_,Ret.r1 rfl rfl,⟨rfl,I.below⟩⟩
 refine aw (by kernel_rfl) (s_eql8 rfl rfl (fun h=>absurd h l) (fun _=>pu2 bF bF (by kernel_rfl) (aa (aj ?_))))
 cases F
 exact ⟨_,Ret.r1 rfl rfl,⟨rfl,I.below⟩⟩
theorem L150 (w0:World) (a:Int) (b:Int) (r:Int) (F:F150 a b=some r):bn Tryz.prog 150 [.int .u8 a,.int .u8 b] w0 fun v w=>v=.int .u8 r∧Below w0.heap.size w0 w:=by
 refine az (n:=14) func150 rfl ntmps150 rfl ?_
 have I:=Inv.start w0
 unfold F150 at F
 refine ab (rgn (by kernel_rfl) (pu (.int .u8 0) (by kernel_rfl) (aa (ab (rgn (by kernel_rfl) (pu (.int .u8 a) (by kernel_rfl) (ckE F (fun h6 F=>ac (s_conv8 zu3 zu5 rfl h6 (pu (.int .u8 b) (by kernel_rfl) (ckE F (fun h7 F=>ac (s_conv8 zu3 zu5 rfl h7 (ckE F (fun h8 F=>ac (s_sub rfl rfl h8 (ckE F (fun h9 F=>ac (cj rfl rfl h9 (ac (s_rem rfl rfl (by decide) (ckE F (fun d F=>ac (cj rfl rfl d (ac (s_convTo8 zu5 zu3 rfl (pu (.int .u8 (w8 (32+(((a - b)+95).tmod 95)))) (by kernel_rfl) (aa (aj ?_)))))))))))))))))))))))))))))
 cases F
 exact ⟨_,Ret.r1 rfl rfl,⟨rfl,I.below⟩⟩


theorem L95 (w0:World) (g:Int) (i:Int) (a:Sp3) (f:Sp3) (N:Nat) (r:Str) (F:F95 N g i a f=some r):bn Tryz.prog 95 [.agg #[iv g,iv i],.agg #[iv a.no,iv a.sz,.string (bts a.t)],.agg #[iv f.no,iv f.sz,.string (bts f.t)]] w0 fun v w=>v=.string (bts r)∧Below w0.heap.size w0 w:=by
 refine az (n:=59) func95 rfl ntmps95 rfl ?_
 have I:=Inv.start w0
 unfold F95 at F
 refine ab (rgn (by kernel_rfl) (ac (ca I _ rfl fun E w I=>ac (ca I _ rfl fun p w I=>ac (ca I _ rfl fun B w I=>pu (.string (bts [])) (by kernel_rfl) (aa (ab (rgn (by kernel_rfl) (ac (fu I [] 5 (fun b=>slv (some b) 0 0) (by kernel_rfl) fun P w I=>pu (.slice (some ⟨P,0,none⟩) 0 0) (by kernel_rfl) (aa (dn (fun ρ w=>∃ (H:Option Nat) (J:Nat) (L:List Value) (y:List Int),cd ρ [(4,pt p),(7,slv H y.length J)]∧Inv [] w0 w [(some p,blk [iv a.no,iv a.sz,.string (bts a.t)] 35),(H,blk L 5)]∧(Row 1 H (y.length) J L (al eB y))∧F95j1 a y=some r) ?_ ?_))))))))))))
 ·
  refine ab (rgn (by kernel_rfl) (pu (iv 0) (by kernel_rfl) (aa (au ?_))))
  have a3:Row 1 (some P) 0 0 [] (al eB ([]:List Int)):=Row.lit ew (l:=([]:List Int)) rfl (mx rfl)
  refine cb (fun m ρ w=>∃ (A:Option Nat) (D:Nat) (G:List Value) (o:List Int) (e:Int) (mm:Nat),cd ρ [(3,pt E),(4,pt p),(5,pt B),(7,slv A o.length D),(8,iv e)]∧Inv [] w0 w [(some E,blk [iv g,iv i] 130),(some p,blk [iv a.no,iv a.sz,.string (bts a.t)] 35),(some B,blk [iv f.no,iv f.sz,.string (bts f.t)] 35),(A,blk G 5)]∧(Row 1 A (o.length) D G (al eB o))∧F95l2 g i a f mm o e=some r∧mm=m) (m:=N) ⟨some P,0,[],([]:List Int),0,N,⟨rfl,rfl,rfl,rfl,rfl,trivial⟩,I.pk [3,2,1,0] rfl rfl,(a3.to rfl rfl),F,rfl⟩ ?_
  rintro m ρ w ⟨A,D,G,o,e,mm,hag,I,Z,F,hm⟩
  subst hm; obtain ⟨ρ,rfl⟩:=hag.form; clear hag
  obtain _ | m2:=mm
  ·cases (show (none:Option Str)=some r from F)
  replace F:F95b2 g i a f (F95l2 g i a f m2) o e=some r:=F; unfold F95b2 at F
  refine ab (ab (rgn (by kernel_rfl) (pu2 (iv e) (.pointer (some ⟨p,2,none⟩)) (by kernel_rfl) (ac (ag I 1 (.string (bts a.t)) zi9 rfl rfl rfl (pu (iv (a.t.length:Int)) (by kernel_rfl) (ifN F (fun Q F=>?_) (fun Q F=>?_))))))))
  ·
   refine ac (cm rfl rfl (fun h=>absurd h Q) (fun _=>aa (ai rfl (bw (.inl ⟨rfl,⟨A,D,G,o,⟨rfl,rfl,trivial⟩,I.pk [1,3] rfl rfl,(Z.to rfl rfl),F⟩⟩)))))
  refine ac (cm rfl rfl (fun _=>?_) (fun h=>absurd Q h))
  refine aa (ah rfl (ak (ab (au (ab (rgn (by kernel_rfl) (pu (.pointer (some ⟨p,2,none⟩)) (by kernel_rfl) (ac (ag I 1 (.string (bts a.t)) zi9 rfl rfl rfl (pu (iv e) (by kernel_rfl) (gdE F (fun K F=>bt F (fun q R F=>ac (fb (e).toNat zu9 rfl rfl (Int.toNat_of_nonneg K).symm R (pu (.int .u8 (nb q)) (by kernel_rfl) (aa (ab (rgn (by kernel_rfl) (pu (.pointer (some ⟨B,2,none⟩)) (by kernel_rfl) (ac (ag I 2 (.string (bts f.t)) zi9 rfl rfl rfl (pu (iv e) (by kernel_rfl) (bt F (fun C a0 F=>ac (fb (e).toNat zu9 rfl rfl (Int.toNat_of_nonneg K).symm a0 (pu (.int .u8 (nb C)) (by kernel_rfl) (aa (dn (fun ρ w=>∃ (M:Int),cd ρ [(3,pt E),(4,pt p),(5,pt B),(7,slv A o.length D),(8,iv e),(9,.int .u8 (nb q)),(10,.int .u8 M)]∧Inv [] w0 w [(some E,blk [iv g,iv i] 130),(some p,blk [iv a.no,iv a.sz,.string (bts a.t)] 35),(some B,blk [iv f.no,iv f.sz,.string (bts f.t)] 35),(A,blk G 5)]∧F95j3 g i (F95l2 g i a f m2) o e q C M=some r) ?_ ?_))))))))))))))))))))))))))))
  ·
   refine ab (rgn (by kernel_rfl) (ac (ma I 0 zi130 zs130 rfl rfl rfl (pu (.agg #[iv 0,iv 2]) (by kernel_rfl) (ifN F (fun S F=>?_) (fun S F=>?_))))))
   ·
    refine ac (kz (b:=decide (([g,i]:List Int)=[0,2])) rfl rfl (by kernel_rfl) (run_eqInts (d:=9998) (xs:=[g,i]) (ys:=[0,2]) zu130 zs3 zu3 zi3 rfl rfl) (fun h=>absurd h S) (fun _=>aa (ai rfl (ak (.inl ⟨rfl,⟨nb C,⟨rfl,rfl,rfl,rfl,rfl,rfl,rfl,trivial⟩,I.pk [0,1,2,3] rfl rfl,F⟩⟩)))))
   refine ac (kz (b:=decide (([g,i]:List Int)=[0,2])) rfl rfl (by kernel_rfl) (run_eqInts (d:=9998) (xs:=[g,i]) (ys:=[0,2]) zu130 zs3 zu3 zi3 rfl rfl) (fun _=>?_) (fun h=>absurd S h))
   refine aa (ah rfl (rgn (by kernel_rfl) (pu2 (.int .u8 (nb C)) (.int .u8 (nb q)) (by kernel_rfl) (bt F (fun a1 a4 F=>ac (bg I 150 _ _ (by kernel_rfl) (L150 _ (nb C) (nb q) _ a4) fun w I=>pu (.int .u8 a1) (by kernel_rfl) (aa (.inl ⟨rfl,⟨a1,⟨rfl,rfl,rfl,rfl,rfl,rfl,rfl,trivial⟩,I.pk [0,1,2,3] rfl rfl,F⟩⟩))))))))
  intro ρ w hJ
  obtain ⟨M,hag,I,F⟩:=hJ
  obtain ⟨ρ,rfl⟩:=hag.form; clear hag
  unfold F95j3 at F
  refine dn (fun ρ w=>∃ (s:Int) (x:Int),cd ρ [(3,pt E),(4,pt p),(5,pt B),(7,slv A o.length D),(8,iv e),(9,.int .u8 s),(10,.int .u8 x)]∧Inv [] w0 w [(some E,blk [iv g,iv i] 130),(some p,blk [iv a.no,iv a.sz,.string (bts a.t)] 35),(some B,blk [iv f.no,iv f.sz,.string (bts f.t)] 35),(A,blk G 5)]∧F95j4 (F95l2 g i a f m2) o e s x=some r) ?_ ?_
  ·
   refine ab (rgn (by kernel_rfl) (ac (ma I 0 zi130 zs130 rfl rfl rfl (pu (.agg #[iv 1,iv 2]) (by kernel_rfl) (ifN F (fun T F=>?_) (fun T F=>?_))))))
   ·
    refine ac (kz (b:=decide (([g,i]:List Int)=[1,2])) rfl rfl (by kernel_rfl) (run_eqInts (d:=9998) (xs:=[g,i]) (ys:=[1,2]) zu130 zs3 zu3 zi3 rfl rfl) (fun h=>absurd h T) (fun _=>aa (ai rfl (ak (.inl ⟨rfl,⟨nb q,M,⟨rfl,rfl,rfl,rfl,rfl,rfl,rfl,trivial⟩,I.pk [0,1,2,3] rfl rfl,F⟩⟩)))))
   refine ac (kz (b:=decide (([g,i]:List Int)=[1,2])) rfl rfl (by kernel_rfl) (run_eqInts (d:=9998) (xs:=[g,i]) (ys:=[1,2]) zu130 zs3 zu3 zi3 rfl rfl) (fun _=>?_) (fun h=>absurd T h))
   refine aa (ah rfl (ab (gm 10 I (by kernel_rfl) (zp (.pointer (some ⟨B,2,none⟩)) (fun _=>(by kernel_rfl)) (zc (.string (bts f.t)) (fun w I=>ag I 2 (.string (bts f.t)) zi9 rfl rfl rfl br) (zp (iv e) (fun _=>(by kernel_rfl)) (zc (.int .u8 (nb C)) (fun w I=>fb (e).toNat zu9 rfl rfl (Int.toNat_of_nonneg K).symm a0 br) (zp (.pointer (some ⟨p,2,none⟩)) (fun _=>(by kernel_rfl)) (zc (.string (bts a.t)) (fun w I=>ag I 1 (.string (bts a.t)) zi9 rfl rfl rfl br) (zp (iv e) (fun _=>(by kernel_rfl)) (zc (.int .u8 (nb q)) (fun w I=>fb (e).toNat zu9 rfl rfl (Int.toNat_of_nonneg K).symm R br) (bt F (fun U a5 F=>zc (.int .u8 U) (fun w I=>co 150 [.int .u8 (nb C),.int .u8 (nb q)] (by kernel_rfl) (L150 _ (nb C) (nb q) _ a5) (fun v' w' h=>h)) (zp (.int .u8 U) (fun _=>(by kernel_rfl)) (zh (fun w I=>aa (rgn (by kernel_rfl) (pu (.pointer (some ⟨p,2,none⟩)) (by kernel_rfl) (ac (ag I 1 (.string (bts a.t)) zi9 rfl rfl rfl (pu (iv e) (by kernel_rfl) (ac (fb (e).toNat zu9 rfl rfl (Int.toNat_of_nonneg K).symm R (pu (.int .u8 (nb q)) (by kernel_rfl) (aa (.inl ⟨rfl,⟨U,nb q,⟨rfl,rfl,rfl,rfl,rfl,rfl,rfl,trivial⟩,I.pk [0,1,2,3] rfl rfl,F⟩⟩))))))))))))))))))))))))))
  intro ρ w hJ
  obtain ⟨s,x,hag,I,F⟩:=hJ
  obtain ⟨ρ,rfl⟩:=hag.form; clear hag
  unfold F95j4 at F
  refine rgn (by kernel_rfl) (pu3 (slv A o.length D) (.int .u8 s) (.int .u8 x) (by kernel_rfl) (ac (fu I [.int .u8 s,.int .u8 x] 5 (fun b=>slv (some b) 2 2) (by kernel_rfl) fun aB w I=>gdE F (fun aC F=>ac (ks I mg (z:=.int .u8 0) (k:=1) (bytes:=1) (by kernel_rfl) rfl rfl 4 rfl rfl Z [.int .u8 s,.int .u8 x] rfl rfl (I.cells 0 (off:=0) rfl (fun j u h=>by rw [Nat.zero_add]; exact h)) (by simp [Value.oneCell']) (by omega) (by omega) (n2:=(o++[s,x]).length) (kr rfl rfl) ?_)))))
  intro V W a2 w I X
  have X:Row 1 V ((o++[s,x]).length) W a2 (al eB (o++[s,x])):=X.more
  refine pu (slv V ((o++[s,x]).length) W) (by kernel_rfl) (aa (rgn (by kernel_rfl) (pu (iv e) (by kernel_rfl) (ckE F (fun a6 F=>ac (cj rfl rfl a6 (pu (iv (e+1)) (by kernel_rfl) (aa (⟨rfl,m2,Nat.lt_succ_self _,⟨V,W,a2,o++[s,x],e+1,m2,⟨rfl,rfl,rfl,rfl,rfl,trivial⟩,I.pk [1,2,3,4] rfl rfl,(X.to rfl rfl),F,rfl⟩⟩)))))))))
 intro ρ w hJ
 obtain ⟨H,J,L,y,hag,I,Y,F⟩:=hJ
 obtain ⟨ρ,rfl⟩:=hag.form; clear hag
 unfold F95j1 at F
 refine ab (rgn (by kernel_rfl) (pu2 (slv H y.length J) (.pointer (some ⟨p,1,none⟩)) (by kernel_rfl) (ac (ag I 0 (iv a.sz) zi3 rfl rfl rfl (gdE F (fun a7 F=>?_))))))
 obtain ⟨a8,rfl⟩:=Y.some_ (ll rfl a7)
 refine gdE F (fun a9 F=>gdE F (fun O F=>?_))
 have aA:Row 1 (some a8) (y.take ((a.sz).toNat)).length J L (al eB (y.take ((a.sz).toNat))):=(Y.cut ew (by decide) ((a.sz).toNat) (ll rfl O)).to rfl (take_len2 O)
 refine ac (s_sliceHiN mg zs5 rfl (congrArg (Value.int .i64) (Int.toNat_of_nonneg a9).symm) (take_len2 O) (Nat.le_trans O (am rfl Y.cap)) (ac (fx (l:=y.take ((a.sz).toNat)) mg zu5 zu9 rfl rfl (I.rowCells 1 rfl aA) (pu (.string (bts (bl (y.take ((a.sz).toNat))))) (by kernel_rfl) (aa (aj ?_))))))
 cases F
 exact ⟨_,Ret.r1 rfl rfl,⟨rfl,I.below⟩⟩


theorem L23 (w0:World) (a:Int) (d:Sp3) (b:Int) (e:Sp3) (N:Nat) (r:(Str × Int)) (F:F23 N a d b e=some r):bn Tryz.prog 23 [iv a,.agg #[iv d.no,iv d.sz,.string (bts d.t)],iv b,.agg #[iv e.no,iv e.sz,.string (bts e.t)]] w0 fun v w=>v=.tuple #[.string (bts r.1),iv r.2]∧Below w0.heap.size w0 w:=by
 refine az (n:=62) func23 rfl ntmps23 rfl ?_
 have I:=Inv.start w0
 unfold F23 at F
 refine ab (rgn (by kernel_rfl) (ac (ca I _ rfl fun p w I=>ac (ca I _ rfl fun q w I=>pu2 (.string (bts [])) (iv 0) (by kernel_rfl) (aa (ab (ab (rgn (by kernel_rfl) (pu (iv a) (by kernel_rfl) (bt F (fun D s F=>ifN F (fun f F=>?_) (fun f F=>?_))))))))))))
 ·
  refine ac (bg I 82 _ _ (by kernel_rfl) (bn.mono (L82 _ a 0 2 _ s) (fun v' w' h=>⟨h.1.trans (congrArg Value.bool (Bool.eq_false_iff.2 f)),h.2⟩)) fun w I=>pu2 bT bT (by kernel_rfl) (sf 3 (by kernel_rfl) (pu2 bT bT (by kernel_rfl) (sf 3 (by kernel_rfl) (pu bT (by kernel_rfl) (aa (ah rfl (ab (rgn (by kernel_rfl) (pu2 (.string (bts [])) (iv 1) (by kernel_rfl) (aa (aj ?_))))))))))))
  cases F
  exact ⟨_,Ret.r2 rfl rfl rfl,⟨rfl,I.below⟩⟩


 refine ac (bg I 82 _ _ (by kernel_rfl) (bn.mono (L82 _ a 0 2 _ s) (fun v' w' h=>⟨h.1.trans (congrArg Value.bool f),h.2⟩)) fun w I=>pu2 bF bF (by kernel_rfl) (pup (iv b) (by kernel_rfl) (bt F (fun E u F=>ifN F (fun g F=>?_) (fun g F=>?_)))))
 ·
  refine aw (by kernel_rfl) (bg I 82 _ _ (by kernel_rfl) (bn.mono (L82 _ b 0 2 _ u) (fun v' w' h=>⟨h.1.trans (congrArg Value.bool (Bool.eq_false_iff.2 g)),h.2⟩)) fun w I=>pup bT (by kernel_rfl) (pu2 bT bT (by kernel_rfl) (sf 3 (by kernel_rfl) (pu bT (by kernel_rfl) (aa (ah rfl (ab (rgn (by kernel_rfl) (pu2 (.string (bts [])) (iv 1) (by kernel_rfl) (aa (aj ?_)))))))))))
  cases F
  exact ⟨_,Ret.r2 rfl rfl rfl,⟨rfl,I.below⟩⟩
 refine aw (by kernel_rfl) (bg I 82 _ _ (by kernel_rfl) (bn.mono (L82 _ b 0 2 _ u) (fun v' w' h=>⟨h.1.trans (congrArg Value.bool g),h.2⟩)) fun w I=>pup bF (by kernel_rfl) (pu2 bF bF (by kernel_rfl) (pup (iv a) (by kernel_rfl) (pup (iv b) (by kernel_rfl) (ifE F (fun i F=>?_) (fun i F=>?_))))))
 ·
  refine aw (by kernel_rfl) (di rfl rfl (fun _=>?_) (fun h=>absurd i h))
  refine pu bT (by kernel_rfl) (aa (ah rfl (ab (rgn (by kernel_rfl) (pu2 (.string (bts [])) (iv 1) (by kernel_rfl) (aa (aj ?_)))))))
  cases F
  exact ⟨_,Ret.r2 rfl rfl rfl,⟨rfl,I.below⟩⟩
 refine aw (by kernel_rfl) (di rfl rfl (fun h=>absurd h i) (fun _=>pu bF (by kernel_rfl) (aa (ai rfl (ak (ab (ab (rgn (by kernel_rfl) (pu (iv a) (by kernel_rfl) (ac (ma I 1 me mc rfl rfl rfl (bt F (fun G x F=>ifN F (fun j F=>?_) (fun j F=>?_))))))))))))))
 ·
  refine ac (bg I 94 _ _ (by kernel_rfl) (bn.mono (L94 _ a d N _ x) (fun v' w' h=>⟨h.1.trans (congrArg Value.bool (Bool.eq_false_iff.2 j)),h.2⟩)) fun w I=>pu2 bT bT (by kernel_rfl) (sf 4 (by kernel_rfl) (pu2 bT bT (by kernel_rfl) (sf 5 (by kernel_rfl) (pu2 bT bT (by kernel_rfl) (sf 5 (by kernel_rfl) (pu bT (by kernel_rfl) (aa (ah rfl (ab (rgn (by kernel_rfl) (pu2 (.string (bts [])) (iv 84) (by kernel_rfl) (aa (aj ?_))))))))))))))
  cases F
  exact ⟨_,Ret.r2 rfl rfl rfl,⟨rfl,I.below⟩⟩
 refine ac (bg I 94 _ _ (by kernel_rfl) (bn.mono (L94 _ a d N _ x) (fun v' w' h=>⟨h.1.trans (congrArg Value.bool j),h.2⟩)) fun w I=>pu2 bF bF (by kernel_rfl) (pup (iv b) (by kernel_rfl) (aw (by kernel_rfl) (ma I 0 me mc rfl rfl rfl (bt F (fun H y F=>ifN F (fun k F=>?_) (fun k F=>?_)))))))
 ·
  refine aw (by kernel_rfl) (bg I 94 _ _ (by kernel_rfl) (bn.mono (L94 _ b e N _ y) (fun v' w' h=>⟨h.1.trans (congrArg Value.bool (Bool.eq_false_iff.2 k)),h.2⟩)) fun w I=>pup bT (by kernel_rfl) (pu2 bT bT (by kernel_rfl) (sf 5 (by kernel_rfl) (pu2 bT bT (by kernel_rfl) (sf 5 (by kernel_rfl) (pu bT (by kernel_rfl) (aa (ah rfl (ab (rgn (by kernel_rfl) (pu2 (.string (bts [])) (iv 84) (by kernel_rfl) (aa (aj ?_)))))))))))))
  cases F
  exact ⟨_,Ret.r2 rfl rfl rfl,⟨rfl,I.below⟩⟩
 refine aw (by kernel_rfl) (bg I 94 _ _ (by kernel_rfl) (bn.mono (L94 _ b e N _ y) (fun v' w' h=>⟨h.1.trans (congrArg Value.bool k),h.2⟩)) fun w I=>pup bF (by kernel_rfl) (pu2 bF bF (by kernel_rfl) (pup (pt p) (by kernel_rfl) (aw (by kernel_rfl) (ag I 1 (iv d.no) zi3 rfl rfl rfl (pup (pt q) (by kernel_rfl) (aw (by kernel_rfl) (ag I 0 (iv e.no) zi3 rfl rfl rfl (ifN F (fun l F=>?_) (fun l F=>?_))))))))))
 ·
  refine aw (by kernel_rfl) (de rfl rfl (fun _=>?_) (fun h=>absurd h l))
  refine pu2 bT bT (by kernel_rfl) (sf 5 (by kernel_rfl) (pu bT (by kernel_rfl) (aa (ah rfl (ab (rgn (by kernel_rfl) (pu2 (.string (bts [])) (iv 84) (by kernel_rfl) (aa (aj ?_)))))))))
  cases F
  exact ⟨_,Ret.r2 rfl rfl rfl,⟨rfl,I.below⟩⟩
 refine aw (by kernel_rfl) (de rfl rfl (fun h=>absurd l h) (fun _=>pu2 bF bF (by kernel_rfl) (pup (.pointer (some ⟨p,1,none⟩)) (by kernel_rfl) (aw (by kernel_rfl) (ag I 1 (iv d.sz) zi3 rfl rfl rfl (pup (.pointer (some ⟨q,1,none⟩)) (by kernel_rfl) (aw (by kernel_rfl) (ag I 0 (iv e.sz) zi3 rfl rfl rfl (ifN F (fun m F=>?_) (fun m F=>?_))))))))))
 ·
  refine aw (by kernel_rfl) (de rfl rfl (fun _=>?_) (fun h=>absurd h m))
  refine pu bT (by kernel_rfl) (aa (ah rfl (ab (rgn (by kernel_rfl) (pu2 (.string (bts [])) (iv 84) (by kernel_rfl) (aa (aj ?_)))))))
  cases F
  exact ⟨_,Ret.r2 rfl rfl rfl,⟨rfl,I.below⟩⟩
 refine aw (by kernel_rfl) (de rfl rfl (fun h=>absurd m h) (fun _=>pu bF (by kernel_rfl) (aa (ai rfl (ak (ab (ab (rgn (by kernel_rfl) (pu2 (iv a) (iv b) (by kernel_rfl) (ifE F (fun o F=>?_) (fun o F=>?_)))))))))))
 ·
  refine ac (s_gtr rfl rfl (fun _=>?_) (fun h=>absurd o h))
  refine aa (ah rfl (ab (rgn (by kernel_rfl) (pu3 (iv b) (iv a) (.agg #[iv b,iv a]) (by kernel_rfl) (ac (ma I 0 me mc rfl rfl rfl (ac (ma I 1 me mc rfl rfl rfl (bt F (fun z A F=>ac (bg I 95 _ _ (by kernel_rfl) (L95 _ b a e d N _ A) fun w I=>pu2 (.string (bts z)) (iv 0) (by kernel_rfl) (aa (aj ?_)))))))))))))
  cases F
  exact ⟨_,Ret.r2 rfl rfl rfl,⟨rfl,I.below⟩⟩
 refine ac (s_gtr rfl rfl (fun h=>absurd h o) (fun _=>aa (ai rfl (ak (ab (rgn (by kernel_rfl) (pu3 (iv a) (iv b) (.agg #[iv a,iv b]) (by kernel_rfl) (ac (ma I 1 me mc rfl rfl rfl (ac (ma I 0 me mc rfl rfl rfl (bt F (fun B C F=>ac (bg I 95 _ _ (by kernel_rfl) (L95 _ a b d e N _ C) fun w I=>pu2 (.string (bts B)) (iv 0) (by kernel_rfl) (aa (aj ?_))))))))))))))))
 cases F
 exact ⟨_,Ret.r2 rfl rfl rfl,⟨rfl,I.below⟩⟩
theorem L24 (w0:World) (i:Option Addr) (j:Nat) (e:List Sp3) (k:Option Addr) (l:Nat) (g:List Sp3) (y:bi w0 i (al bb e)) (O:e.length≤9223372036854775807) (P:e.length≤j) (z:bi w0 k (al bb g)) (Q:g.length≤9223372036854775807) (R:g.length≤l) (N:Nat) (r:Bool) (F:F24 N e g=some r):bn Tryz.prog 24 [.slice i e.length j,.slice k g.length l] w0 fun v w=>v=.bool r∧Below w0.heap.size w0 w:=by
 refine az (n:=26) func24 rfl ntmps24 rfl ?_
 have I:=Inv.start w0
 unfold F24 at F
 refine ab (rgn (by kernel_rfl) (pu bF (by kernel_rfl) (aa (ab (ab (rgn (by kernel_rfl) (pu3 (.slice i e.length j) (iv ((e.length:Nat):Int)) (.slice k g.length l) (by kernel_rfl) (pu (iv ((g.length:Nat):Int)) (by kernel_rfl) (ifN F (fun o F=>?_) (fun o F=>?_))))))))))
 ·
  refine ac (de rfl rfl (fun _=>?_) (fun h=>absurd h o))
  refine aa (ah rfl (ab (rgn (by kernel_rfl) (pu bF (by kernel_rfl) (aa (aj ?_))))))
  cases F
  exact ⟨_,Ret.r1 rfl rfl,⟨rfl,I.below⟩⟩


 refine ac (de rfl rfl (fun h=>absurd o h) (fun _=>aa (ai rfl (ak (ab (ab (rgn (by kernel_rfl) (pu3 (.slice i e.length j) (iv ((e.length:Nat):Int)) (iv 0) (by kernel_rfl) (aa (au (cb (fun m ρ w=>∃ (f:Int) (mm:Nat),cd ρ [(0,.slice i e.length j),(1,.slice k g.length l),(12,iv (e.length:Int)),(13,iv f)]∧Inv [] w0 w []∧F24l1 e g mm f=some r∧mm=m) (m:=N) ⟨0,N,⟨rfl,rfl,rfl,rfl,trivial⟩,I.pk [] rfl rfl,F,rfl⟩ ?_)))))))))))
 rintro m ρ w ⟨f,mm,hag,I,F,hm⟩
 subst hm; obtain ⟨ρ,rfl⟩:=hag.form; clear hag
 obtain _ | m1:=mm
 ·cases (show (none:Option Bool)=some r from F)
 replace F:F24b1 e g (F24l1 e g m1) f=some r:=F; unfold F24b1 at F
 refine ab (rgn (by kernel_rfl) (ifN F (fun p F=>?_) (fun p F=>?_)))
 ·
  refine ac (cm rfl rfl (fun h=>absurd h p) (fun _=>aa (ab (ai rfl (bw (ab (rgn (by kernel_rfl) (pu bT (by kernel_rfl) (aa (aj ?_))))))))))
  cases F
  exact ⟨_,Ret.r1 rfl rfl,⟨rfl,I.below⟩⟩
 refine ac (cm rfl rfl (fun _=>?_) (fun h=>absurd p h))
 refine aa (ab (ah rfl (ak (ab (au (ab (rgn (by kernel_rfl) (pu2 (iv f) (iv f) (by kernel_rfl) (aa (ab (gm 9 I (by kernel_rfl) (zp2 (.slice i e.length j) (iv f) (fun _=>(by kernel_rfl)) (gdE F (fun s F=>bt F (fun a u F=>?_)))))))))))))))
 obtain ⟨A,B,C,D,E⟩:=y.at_ bk (by decide) u
 refine zc (.pointer (some ⟨A,B+(f).toNat * 3,none⟩)) (fun w I=>cn (f).toNat mj mc rfl C rfl (Int.toNat_of_nonneg s).symm (fa u rfl) br) (zc (.agg #[iv a.no,iv a.sz,.string (bts a.t)]) (fun w I=>ef I [iv a.no,iv a.sz,.string (bts a.t)] me mc rfl rfl D (by simp) E br) (zp2 (.slice k g.length l) (iv f) (fun _=>(by kernel_rfl)) (bt F (fun d x F=>?_))))
 obtain ⟨G,H,J,K,L⟩:=z.at_ bk (by decide) x
 refine zc (.pointer (some ⟨G,H+(f).toNat * 3,none⟩)) (fun w I=>cn (f).toNat mj mc rfl J rfl (Int.toNat_of_nonneg s).symm (fa x rfl) br) (zc (.agg #[iv d.no,iv d.sz,.string (bts d.t)]) (fun w I=>ef I [iv d.no,iv d.sz,.string (bts d.t)] me mc rfl rfl K (by simp) L br) (ifN F (fun q F=>?_) (fun q F=>?_)))
 ·
  refine zc bT (fun w I=>lg (b:=decide (a.no=d.no) && decide (a.sz=d.sz) && decide (a.t=d.t)) rfl rfl (by kernel_rfl) (fun w=>eq35 _ a.no a.sz a.t d.no d.sz d.t w) (fun _=>br) (fun h=>absurd h q)) (zh (fun w I=>aa (ah rfl (ab (rgn (by kernel_rfl) (pu bF (by kernel_rfl) (aa (aj ?_))))))))
  cases F
  exact ⟨_,Ret.r1 rfl rfl,⟨rfl,I.below⟩⟩
 refine zc bF (fun w I=>lg (b:=decide (a.no=d.no) && decide (a.sz=d.sz) && decide (a.t=d.t)) rfl rfl (by kernel_rfl) (fun w=>eq35 _ a.no a.sz a.t d.no d.sz d.t w) (fun h=>absurd q h) (fun _=>br)) (zh (fun w I=>aa (ai rfl (ak (rgn (by kernel_rfl) (ckE F (fun M F=>ac (cj rfl rfl M (pu (iv (f+1)) (by kernel_rfl) (aa (⟨rfl,m1,Nat.lt_succ_self _,⟨f+1,m1,⟨rfl,rfl,rfl,rfl,trivial⟩,I.pk [] rfl rfl,F,rfl⟩⟩)))))))))))
theorem L26 (w0:World) (a:Int) (b:Sp3) (N:Nat) (r:Int) (F:F26 N a b=some r):bn Tryz.prog 26 [iv a,.agg #[iv b.no,iv b.sz,.string (bts b.t)]] w0 fun v w=>v=iv r∧Below w0.heap.size w0 w:=by
 refine az (n:=12) func26 rfl ntmps26 rfl ?_
 have I:=Inv.start w0
 unfold F26 at F
 refine ab (rgn (by kernel_rfl) (ac (ca I _ rfl fun i w I=>pu (iv 0) (by kernel_rfl) (aa (ab (ab (rgn (by kernel_rfl) (pu (iv a) (by kernel_rfl) (bt F (fun j f F=>ifN F (fun d F=>?_) (fun d F=>?_)))))))))))
 ·
  refine ac (bg I 82 _ _ (by kernel_rfl) (bn.mono (L82 _ a 0 2 _ f) (fun v' w' h=>⟨h.1.trans (congrArg Value.bool (Bool.eq_false_iff.2 d)),h.2⟩)) fun w I=>pu bT (by kernel_rfl) (aa (ah rfl (ab (rgn (by kernel_rfl) (pu (iv 1) (by kernel_rfl) (aa (aj ?_))))))))
  cases F
  exact ⟨_,Ret.r1 rfl rfl,⟨rfl,I.below⟩⟩


 refine ac (bg I 82 _ _ (by kernel_rfl) (bn.mono (L82 _ a 0 2 _ f) (fun v' w' h=>⟨h.1.trans (congrArg Value.bool d),h.2⟩)) fun w I=>pu bF (by kernel_rfl) (aa (ai rfl (ak (ab (ab (rgn (by kernel_rfl) (pu (iv a) (by kernel_rfl) (ac (ma I 0 me mc rfl rfl rfl (bt F (fun k g F=>ifE F (fun e F=>?_) (fun e F=>?_)))))))))))))
 ·
  refine ac (bg I 94 _ _ (by kernel_rfl) (bn.mono (L94 _ a b N _ g) (fun v' w' h=>⟨h.1.trans (congrArg Value.bool e),h.2⟩)) fun w I=>pu bF (by kernel_rfl) (aa (ai rfl (ak (ab (rgn (by kernel_rfl) (pu (iv 0) (by kernel_rfl) (aa (aj ?_)))))))))
  cases F
  exact ⟨_,Ret.r1 rfl rfl,⟨rfl,I.below⟩⟩
 refine ac (bg I 94 _ _ (by kernel_rfl) (bn.mono (L94 _ a b N _ g) (fun v' w' h=>⟨h.1.trans (congrArg Value.bool (Bool.eq_false_iff.2 e)),h.2⟩)) fun w I=>pu bT (by kernel_rfl) (aa (ah rfl (ab (rgn (by kernel_rfl) (pu (iv 84) (by kernel_rfl) (aa (aj ?_))))))))
 cases F
 exact ⟨_,Ret.r1 rfl rfl,⟨rfl,I.below⟩⟩
theorem L4 (w0:World) (o:Rc) (A:Int) (e:Int) (B:Int) (f:Int) (g:Int) (i:Str) (C:Int) (D:Int) (E:Str) (hG:Gl w0) (N:Nat) (r:Bool) (F:F4 N o A e B f g i C D E=some r):bn Tryz.prog 4 [.agg #[iv o.p,iv o.n,iv o.k,iv o.d,iv o.kn,iv o.op,iv o.on,.string (bts o.t)],iv A,.agg #[iv e,iv B,iv f,iv g,.string (bts i),iv C,iv D,.string (bts E)]] w0 fun v w=>v=.bool r∧Below w0.heap.size w0 w:=by
 refine az (n:=85) func4 rfl ntmps4 rfl ?_
 have I:=Inv.start w0
 unfold F4 at F
 refine ab (rgn (by kernel_rfl) (ac (ca I _ rfl fun a0 w I=>ac (ca I _ rfl fun j w I=>pu bF (by kernel_rfl) (aa (ab (rgn (by kernel_rfl) (ac (ma I 1 mh md rfl rfl rfl (pu (iv A) (by kernel_rfl) (bt F (fun l R F=>ac (co 20 _ (by kernel_rfl) (L20 _ o A (hG.up I) N _ R) ?_)))))))))))))
 rintro v w ⟨u,x,a1,rfl,hN,G⟩
 have I:=I.join hN; clear hN
 refine pu3 (.tuple #[slv u l.1.length x,iv l.2]) (slv u l.1.length x) (iv l.2) (by kernel_rfl) (pu2 (slv u l.1.length x) (iv l.2) (by kernel_rfl) (aa (ab (rgn (by kernel_rfl) (ac (ma I 2 mh md rfl rfl rfl (pu (iv A) (by kernel_rfl) (bt F (fun m S F=>ac (co 21 _ (by kernel_rfl) (L21 _ o A N _ S) ?_))))))))))
 rintro v w ⟨y,z,a2,rfl,hN,H⟩
 have I:=I.join hN; clear hN
 refine pu3 (.tuple #[slv y m.1.length z,iv m.2]) (slv y m.1.length z) (iv m.2) (by kernel_rfl) (pu2 (slv y m.1.length z) (iv m.2) (by kernel_rfl) (aa (ab (rgn (by kernel_rfl) (pu (pt j) (by kernel_rfl) (ac (ag I 2 (iv e) zi3 rfl rfl rfl (pu (.pointer (some ⟨j,2,none⟩)) (by kernel_rfl) (ac (ar I 2 3 [iv f,iv g,.string (bts i)] me mc rfl rfl rfl rfl (pu (.pointer (some ⟨j,1,none⟩)) (by kernel_rfl) (ac (ag I 2 (iv B) zi3 rfl rfl rfl (pu (.pointer (some ⟨j,5,none⟩)) (by kernel_rfl) (ac (ar I 2 3 [iv C,iv D,.string (bts E)] me mc rfl rfl rfl rfl (bt F (fun q T F=>ac (bg I 22 _ _ (by kernel_rfl) (L22 _ e (⟨f,g,i⟩:Sp3) B (⟨C,D,E⟩:Sp3) N _ T) fun w I=>pu3 (.tuple #[.string (bts q.1),iv q.2]) (.string (bts q.1)) (iv q.2) (by kernel_rfl) (pu2 (.string (bts q.1)) (iv q.2) (by kernel_rfl) (aa (ab (rgn (by kernel_rfl) (pu (pt j) (by kernel_rfl) (ac (ag I 2 (iv e) zi3 rfl rfl rfl (pu (.pointer (some ⟨j,2,none⟩)) (by kernel_rfl) (ac (ar I 2 3 [iv f,iv g,.string (bts i)] me mc rfl rfl rfl rfl (pu (.pointer (some ⟨j,1,none⟩)) (by kernel_rfl) (ac (ag I 2 (iv B) zi3 rfl rfl rfl (pu (.pointer (some ⟨j,5,none⟩)) (by kernel_rfl) (ac (ar I 2 3 [iv C,iv D,.string (bts E)] me mc rfl rfl rfl rfl (bt F (fun s U F=>ac (bg I 23 _ _ (by kernel_rfl) (L23 _ e (⟨f,g,i⟩:Sp3) B (⟨C,D,E⟩:Sp3) N _ U) fun w I=>pu3 (.tuple #[.string (bts s.1),iv s.2]) (.string (bts s.1)) (iv s.2) (by kernel_rfl) (pu2 (.string (bts s.1)) (iv s.2) (by kernel_rfl) (aa (ab (gm 35 I (by kernel_rfl) (zp2 (slv u l.1.length x) (slv y m.1.length z) (fun _=>(by kernel_rfl)) (bt F (fun a3 Q F=>ifN F (fun J F=>?_) (fun J F=>?_))))))))))))))))))))))))))))))))))))))))))))))
 ·
  refine zc bF (fun w I=>co 24 [slv u l.1.length x,slv y m.1.length z] (by kernel_rfl) (bn.mono (L24 _ (u.map fun b=>⟨b,0,none⟩) x l.1 (y.map fun b=>⟨b,0,none⟩) z m.1 (I.rowCells 1 rfl G) (am rfl G.big) (am rfl G.cap) (I.rowCells 0 rfl H) (am rfl H.big) (am rfl H.cap) N _ Q) (fun v' w' h=>⟨h.1.trans (congrArg Value.bool (Bool.eq_false_iff.2 J)),h.2⟩)) (fun v' w' h=>h)) (zp bF (fun _=>(by kernel_rfl)) (zf 3 (by kernel_rfl) (zp2 bF bF (fun _=>(by kernel_rfl)) (zf 3 (by kernel_rfl) (zp2 bF bF (fun _=>(by kernel_rfl)) (zf 3 (by kernel_rfl) (zp2 bF bF (fun _=>(by kernel_rfl)) (zf 11 (by kernel_rfl) (zp2 bF bF (fun _=>(by kernel_rfl)) (zf 1 (by kernel_rfl) (zp2 bF bF (fun _=>(by kernel_rfl)) (zh (fun w I=>aa (aj ?_))))))))))))))
  cases F
  exact ⟨_,Ret.r1 rfl rfl,⟨rfl,I.below⟩⟩


 refine zc bT (fun w I=>co 24 [slv u l.1.length x,slv y m.1.length z] (by kernel_rfl) (bn.mono (L24 _ (u.map fun b=>⟨b,0,none⟩) x l.1 (y.map fun b=>⟨b,0,none⟩) z m.1 (I.rowCells 1 rfl G) (am rfl G.big) (am rfl G.cap) (I.rowCells 0 rfl H) (am rfl H.big) (am rfl H.cap) N _ Q) (fun v' w' h=>⟨h.1.trans (congrArg Value.bool J),h.2⟩)) (fun v' w' h=>h)) (zp bT (fun _=>(by kernel_rfl)) (zq (iv l.2) (by kernel_rfl) (fun _=>(by kernel_rfl)) (zq (iv m.2) (by kernel_rfl) (fun _=>(by kernel_rfl)) (ifN F (fun K F=>?_) (fun K F=>?_)))))
 ·
  refine zo bF (by kernel_rfl) (fun w I=>di rfl rfl (fun h=>absurd h K) (fun _=>br)) (zp2 bF bF (fun _=>(by kernel_rfl)) (zf 3 (by kernel_rfl) (zp2 bF bF (fun _=>(by kernel_rfl)) (zf 3 (by kernel_rfl) (zp2 bF bF (fun _=>(by kernel_rfl)) (zf 1 (by kernel_rfl) (zf 10 (by kernel_rfl) (zp2 bF bF (fun _=>(by kernel_rfl)) (zf 1 (by kernel_rfl) (zp2 bF bF (fun _=>(by kernel_rfl)) (zh (fun w I=>aa (aj ?_)))))))))))))
  cases F
  exact ⟨_,Ret.r1 rfl rfl,⟨rfl,I.below⟩⟩
 refine zo bT (by kernel_rfl) (fun w I=>di rfl rfl (fun _=>br) (fun h=>absurd K h)) (zp2 bT bT (fun _=>(by kernel_rfl)) (zq (.string (bts q.1)) (by kernel_rfl) (fun _=>(by kernel_rfl)) (zq (.string (bts s.1)) (by kernel_rfl) (fun _=>(by kernel_rfl)) (ifN F (fun L F=>?_) (fun L F=>?_)))))
 ·
  refine zo bF (by kernel_rfl) (fun w I=>s_strEq (a:=q.1) (b:=s.1) rfl rfl (fun h=>absurd h L) (fun _=>br)) (zp2 bF bF (fun _=>(by kernel_rfl)) (zf 3 (by kernel_rfl) (zp2 bF bF (fun _=>(by kernel_rfl)) (zf 11 (by kernel_rfl) (zp2 bF bF (fun _=>(by kernel_rfl)) (zf 1 (by kernel_rfl) (zp2 bF bF (fun _=>(by kernel_rfl)) (zh (fun w I=>aa (aj ?_))))))))))
  cases F
  exact ⟨_,Ret.r1 rfl rfl,⟨rfl,I.below⟩⟩
 refine zo bT (by kernel_rfl) (fun w I=>s_strEq (a:=q.1) (b:=s.1) rfl rfl (fun _=>br) (fun h=>absurd L h)) (zp2 bT bT (fun _=>(by kernel_rfl)) (zq (iv q.2) (by kernel_rfl) (fun _=>(by kernel_rfl)) (zq (iv s.2) (by kernel_rfl) (fun _=>(by kernel_rfl)) (ifN F (fun M F=>?_) (fun M F=>?_)))))
 ·
  refine zo bF (by kernel_rfl) (fun w I=>di rfl rfl (fun h=>absurd h M) (fun _=>br)) (zp2 bF bF (fun _=>(by kernel_rfl)) (zf 11 (by kernel_rfl) (zp2 bF bF (fun _=>(by kernel_rfl)) (zf 1 (by kernel_rfl) (zp2 bF bF (fun _=>(by kernel_rfl)) (zh (fun w I=>aa (aj ?_))))))))
  cases F
  exact ⟨_,Ret.r1 rfl rfl,⟨rfl,I.below⟩⟩
 refine zo bT (by kernel_rfl) (fun w I=>di rfl rfl (fun _=>br) (fun h=>absurd M h)) (zp2 bT bT (fun _=>(by kernel_rfl)) (zq (pt j) (by kernel_rfl) (fun _=>(by kernel_rfl)) (zo (iv e) (by kernel_rfl) (fun w I=>ag I 2 (iv e) zi3 rfl rfl rfl br) (zq (.pointer (some ⟨j,2,none⟩)) (by kernel_rfl) (fun _=>(by kernel_rfl)) (zo (.agg #[iv f,iv g,.string (bts i)]) (by kernel_rfl) (fun w I=>ar I 2 3 [iv f,iv g,.string (bts i)] me mc rfl rfl rfl rfl br) (bt F (fun V W F=>zo (iv V) (by kernel_rfl) (fun w I=>co 25 [iv e,.agg #[iv f,iv g,.string (bts i)]] (by kernel_rfl) (L25 _ e (⟨f,g,i⟩:Sp3) N _ W) (fun v' w' h=>h)) (zq (pt j) (by kernel_rfl) (fun _=>(by kernel_rfl)) (zo (iv e) (by kernel_rfl) (fun w I=>ag I 2 (iv e) zi3 rfl rfl rfl br) (zq (.pointer (some ⟨j,2,none⟩)) (by kernel_rfl) (fun _=>(by kernel_rfl)) (zo (.agg #[iv f,iv g,.string (bts i)]) (by kernel_rfl) (fun w I=>ar I 2 3 [iv f,iv g,.string (bts i)] me mc rfl rfl rfl rfl br) (bt F (fun X Y F=>zo (iv X) (by kernel_rfl) (fun w I=>co 26 [iv e,.agg #[iv f,iv g,.string (bts i)]] (by kernel_rfl) (L26 _ e (⟨f,g,i⟩:Sp3) N _ Y) (fun v' w' h=>h)) (ifN F (fun O F=>?_) (fun O F=>?_)))))))))))))))
 ·
  refine zo bF (by kernel_rfl) (fun w I=>di rfl rfl (fun h=>absurd h O) (fun _=>br)) (zp2 bF bF (fun _=>(by kernel_rfl)) (zf 1 (by kernel_rfl) (zp2 bF bF (fun _=>(by kernel_rfl)) (zh (fun w I=>aa (aj ?_))))))
  cases F
  exact ⟨_,Ret.r1 rfl rfl,⟨rfl,I.below⟩⟩
 refine zo bT (by kernel_rfl) (fun w I=>di rfl rfl (fun _=>br) (fun h=>absurd O h)) (zp2 bT bT (fun _=>(by kernel_rfl)) (bt F (fun P Z F=>zo (.bool P) (by kernel_rfl) (fun w I=>co 19 [] (by kernel_rfl) (L19 _ (hG.up I) N _ Z) (fun v' w' h=>h)) (zp2 (.bool P) (.bool P) (fun _=>(by kernel_rfl)) (zh (fun w I=>aa (aj ?_)))))))
 cases F
 exact ⟨_,Ret.r1 rfl rfl,⟨rfl,I.below⟩⟩
end Go.K
