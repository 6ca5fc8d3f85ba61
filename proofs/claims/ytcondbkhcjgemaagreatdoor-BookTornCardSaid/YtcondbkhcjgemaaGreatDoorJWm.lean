import Derived.Test.YtcondbkhcjgemaaGreatDoorJWl
namespace Go.K
open Go.Proofs.Tryz
open Go.Proofs Go.RowKit
set_option linter.unusedVariables false
set_option linter.unusedSimpArgs false
set_option maxRecDepth 100000
attribute [local irreducible] Seq cw cx fl opX
theorem L140 (w0:World) (e:Str) (N:Nat) (r:Str) (F:F140 N e=some r):bn Tryz.prog 140 [.string (bts e)] w0 fun v w=>v=.string (bts r)∧Below w0.heap.size w0 w:=by
 refine az (n:=35) func140 rfl ntmps140 rfl ?_
 have I:=Inv.start w0
 unfold F140 at F
 refine ab (rgn (by kernel_rfl) (pu (.string (bts [])) (by kernel_rfl) (aa (ab (rgn (by kernel_rfl) (ph (fu I [] 5 (fun b=>slv (some b) 0 0) (by kernel_rfl) fun y w I=>pu (.slice (some ⟨y,0,none⟩) 0 0) (by kernel_rfl) (aa (ab (ab (rgn (by kernel_rfl) (pu (iv 0) (by kernel_rfl) (aa (au ?_))))))))))))))
 have M:Row 1 (some y) 0 0 [] (al eB ([]:List Int)):=Row.lit ew (l:=([]:List Int)) rfl (mx rfl)
 refine cb (fun m ρ w=>∃ (f:Option Nat) (g:Nat) (p:List Value) (a:List Int) (d:Int) (mm:Nat),cd ρ [(0,.string (bts e)),(3,slv f a.length g),(4,iv d)]∧Inv [] w0 w [(f,blk p 5)]∧(Row 1 f (a.length) g p (al eB a))∧F140l1 e mm a d=some r∧mm=m) (m:=N) ⟨some y,0,[],([]:List Int),0,N,⟨rfl,rfl,rfl,trivial⟩,I.pk [0] rfl rfl,(M.to rfl rfl),F,rfl⟩ ?_
 rintro m ρ w ⟨f,g,p,a,d,mm,hag,I,s,F,hm⟩
 subst hm; obtain ⟨ρ,rfl⟩:=hag.form; clear hag
 obtain _ | m1:=mm
 ·cases (show (none:Option Str)=some r from F)
 replace F:F140b1 e (F140l1 e m1) a d=some r:=F; unfold F140b1 at F
 refine ab (ab (rgn (by kernel_rfl) (pu3 (iv d) (.string (bts e)) (iv (e.length:Int)) (by kernel_rfl) (ifN F (fun A F=>?_) (fun A F=>?_)))))
 ·
  refine ph (cm rfl rfl (fun h=>absurd h A) (fun _=>pu bF (by kernel_rfl) (sf 3 (by kernel_rfl) (pu bF (by kernel_rfl) (aa (ai rfl (bw (ab (rgn (by kernel_rfl) (pu (slv f a.length g) (by kernel_rfl) (ph (s_convBS (l:=a) mg zu5 zu9 rfl rfl (I.rowCells 0 rfl s) (pu (.string (bts (bl a))) (by kernel_rfl) (aa (aj ?_)))))))))))))))
  cases F
  exact ⟨_,Ret.r1 rfl rfl,⟨rfl,I.below⟩⟩


 refine ph (cm rfl rfl (fun _=>?_) (fun h=>absurd A h))
 refine pu bT (by kernel_rfl) (pup (slv f a.length g) (by kernel_rfl) (pup (iv ((a.length:Nat):Int)) (by kernel_rfl) (ifN F (fun B F=>?_) (fun B F=>?_))))
 ·
  refine aw (by kernel_rfl) (cm rfl rfl (fun h=>absurd h B) (fun _=>pu bF (by kernel_rfl) (aa (ai rfl (bw (ab (rgn (by kernel_rfl) (pu (slv f a.length g) (by kernel_rfl) (ph (s_convBS (l:=a) mg zu5 zu9 rfl rfl (I.rowCells 0 rfl s) (pu (.string (bts (bl a))) (by kernel_rfl) (aa (aj ?_)))))))))))))
  cases F
  exact ⟨_,Ret.r1 rfl rfl,⟨rfl,I.below⟩⟩
 refine aw (by kernel_rfl) (cm rfl rfl (fun _=>?_) (fun h=>absurd B h))
 refine pu bT (by kernel_rfl) (aa (ah rfl (ak (dn (fun ρ w=>∃ (q:Option Nat) (t:Nat) (x:List Value) (o:List Int),cd ρ [(0,.string (bts e)),(3,slv q o.length t),(4,iv d)]∧Inv [] w0 w [(q,blk x 5)]∧(Row 1 q (o.length) t x (al eB o))∧F140j2 (F140l1 e m1) d o=some r) ?_ ?_))))
 ·
  refine au (dn (fun ρ w=>cd ρ [(0,.string (bts e)),(3,slv f a.length g),(4,iv d),(26,bF)]∧Inv [] w0 w [(f,blk p 5)]∧F140j3 (F140l1 e m1) a d=some r) ?_ ?_)
  ·
   refine rgn (by kernel_rfl) (pu2 (.string (bts e)) (iv d) (by kernel_rfl) (gdE F (fun C F=>bt F (fun i D F=>ph (s_strIdx (d).toNat zu9 rfl rfl (Int.toNat_of_nonneg C).symm D (ifN F (fun E F=>?_) (fun E F=>?_)))))))
   ·
    refine ph (s_geq8 rfl rfl (fun h=>absurd h E) (fun _=>pu bF (by kernel_rfl) (sf 4 (by kernel_rfl) (pu bF (by kernel_rfl) (aa (.inl ⟨rfl,⟨⟨rfl,rfl,rfl,rfl,trivial⟩,I.pk [0] rfl rfl,F⟩⟩))))))
   refine ph (s_geq8 rfl rfl (fun _=>?_) (fun h=>absurd E h))
   refine pu bT (by kernel_rfl) (pup (.string (bts e)) (by kernel_rfl) (pup (iv d) (by kernel_rfl) (aw (by kernel_rfl) (s_strIdx (d).toNat zu9 rfl rfl (Int.toNat_of_nonneg C).symm D (ifN F (fun G F=>?_) (fun G F=>?_))))))
   ·
    refine aw (by kernel_rfl) (s_leq8 rfl rfl (fun h=>absurd h G) (fun _=>pu bF (by kernel_rfl) (aa (.inl ⟨rfl,⟨⟨rfl,rfl,rfl,rfl,trivial⟩,I.pk [0] rfl rfl,F⟩⟩))))
   refine aw (by kernel_rfl) (s_leq8 rfl rfl (fun _=>?_) (fun h=>absurd G h))
   refine pu bT (by kernel_rfl) (aa (.inr (ah rfl (rgn (by kernel_rfl) (pu3 (slv f a.length g) (.string (bts e)) (iv d) (by kernel_rfl) (ph (s_strIdx (d).toNat zu9 rfl rfl (Int.toNat_of_nonneg C).symm D (ph (fu I [.int .u8 (nb i)] 5 (fun b=>slv (some b) 1 1) (by kernel_rfl) fun Q w I=>gdE F (fun R F=>ph (ks I mg (z:=.int .u8 0) (k:=1) (bytes:=1) (by kernel_rfl) rfl rfl 1 rfl rfl s [.int .u8 (nb i)] rfl rfl (I.cells 0 (off:=0) rfl (fun j u h=>by rw [Nat.zero_add]; exact h)) (by simp [Value.oneCell']) (by omega) (by omega) (n2:=(a++[nb i]).length) (kr rfl rfl) ?_)))))))))))
   intro H J L w I K
   have K:Row 1 H ((a++[nb i]).length) J L (al eB (a++[nb i])):=K.snoc _ rfl
   refine pu (slv H ((a++[nb i]).length) J) (by kernel_rfl) (aa (.inl ⟨rfl,⟨H,J,L,a++[nb i],⟨rfl,rfl,rfl,trivial⟩,I.pk [1] rfl rfl,(K.to rfl rfl),F⟩⟩))
  intro ρ w hJ
  obtain ⟨hag,I,F⟩:=hJ
  obtain ⟨ρ,rfl⟩:=hag.form; clear hag
  unfold F140j3 at F
  refine ai rfl (ak (.inl ⟨rfl,⟨f,g,p,a,⟨rfl,rfl,rfl,trivial⟩,I.pk [0] rfl rfl,(s.to rfl rfl),F⟩⟩))
 intro ρ w hJ
 obtain ⟨q,t,x,o,hag,I,O,F⟩:=hJ
 obtain ⟨ρ,rfl⟩:=hag.form; clear hag
 unfold F140j2 at F
 refine rgn (by kernel_rfl) (pu (iv d) (by kernel_rfl) (ckE F (fun P F=>ph (cj rfl rfl P (pu (iv (d+1)) (by kernel_rfl) (aa (⟨rfl,m1,Nat.lt_succ_self _,⟨q,t,x,o,d+1,m1,⟨rfl,rfl,rfl,trivial⟩,I.pk [0] rfl rfl,(O.to rfl rfl),F,rfl⟩⟩)))))))
theorem L64 (w0:World) (f:Option Addr) (g:Nat) (b:List Rc) (q:Int) (j:Int) (a:Int) (e:Str) (s:Option Addr) (t:Nat) (i:List Int) (u:bi w0 f (al eRc b)) (x:b.length≤9223372036854775807) (y:b.length≤g) (G:bi w0 s (al eInt i)) (H:i.length≤9223372036854775807) (J:i.length≤t) (N:Nat) (r:(Int × Int × Int × Int × Int × Int × Int × Str)) (F:F64 N b q j a e i=some r):bn Tryz.prog 64 [.slice f b.length g,.agg #[iv q,iv j,iv a,.string (bts e),.slice s i.length t]] w0 fun v w=>v=.agg #[iv r.1,iv r.2.1,iv r.2.2.1,iv r.2.2.2.1,iv r.2.2.2.2.1,iv r.2.2.2.2.2.1,iv r.2.2.2.2.2.2.1,.string (bts r.2.2.2.2.2.2.2)]∧Below w0.heap.size w0 w:=by
 refine az (n:=25) func64 rfl ntmps64 rfl ?_
 have I:=Inv.start w0
 unfold F64 at F
 refine ab (rgn (by kernel_rfl) (ph (ca I _ rfl fun k w I=>ph (bh I _ zeroValue25 rfl fun K w I=>aa (ab (rgn (by kernel_rfl) (pu (.pointer (some ⟨k,1,none⟩)) (by kernel_rfl) (ph (ag I 1 (iv j) zi3 rfl rfl rfl (bt F (fun d z F=>ph (bg I 63 _ _ (by kernel_rfl) (L63 _ j 6 _ z) fun w I=>pu (iv d) (by kernel_rfl) (aa (ab (gm 16 I (by kernel_rfl) (zp2 (iv d) (.slice f b.length g) (fun _=>(by kernel_rfl)) (zp (iv d) (fun _=>(by kernel_rfl)) (bt F (fun l A F=>zc (iv l) (fun w I=>co 132 [.slice f b.length g,iv d] (by kernel_rfl) (L132 _ f g b d (u.inv0 I) x y N _ A) (fun v' w' h=>h)) (zp2 (.agg #[iv d,iv l]) (.pointer (some ⟨k,2,none⟩)) (fun _=>(by kernel_rfl)) (zc (iv a) (fun w I=>ag I 1 (iv a) zi3 rfl rfl rfl br) (bt F (fun m B F=>zc (iv m) (fun w I=>co 63 [iv a,iv 9] (by kernel_rfl) (L63 _ a 9 _ B) (fun v' w' h=>h)) (ckE F (fun C F=>zc (iv (1+m)) (fun w I=>cj rfl rfl C br) (zp (.pointer (some ⟨k,2,none⟩)) (fun _=>(by kernel_rfl)) (zc (iv a) (fun w I=>ag I 1 (iv a) zi3 rfl rfl rfl br) (bt F (fun o D F=>zc (iv o) (fun w I=>co 63 [iv a,iv 100] (by kernel_rfl) (L63 _ a 100 _ D) (fun v' w' h=>h)) (zp (.pointer (some ⟨k,3,none⟩)) (fun _=>(by kernel_rfl)) (zc (.string (bts e)) (fun w I=>ag I 1 (.string (bts e)) zi9 rfl rfl rfl br) (bt F (fun p E F=>zc (.string (bts p)) (fun w I=>co 140 [.string (bts e)] (by kernel_rfl) (L140 _ e N _ E) (fun v' w' h=>h)) (zp (.agg #[iv d,iv l,iv (1+m),iv o,iv 0,iv 0,iv 0,.string (bts p)]) (fun _=>(by kernel_rfl)) (zh (fun w I=>ph (mb I 0 _ md rfl rfl rfl rfl rfl rfl fun w I=>aa (aj ?_))))))))))))))))))))))))))))))))))))))
 cases F
 exact ⟨_,Ret.c rfl rfl (ce I 0 8 [iv d,iv l,iv (1+m),iv o,iv 0,iv 0,iv 0,.string (bts p)] mh md rfl rfl rfl),⟨rfl,I.below⟩⟩


theorem L10 (w0:World) (O:Option Addr) (P:Nat) (i:List Stp) (cC:List Dsp) (hG:Gl w0) (dB:bi w0 O (al eDsp cC)) (dC:cC.map Dsp.p=i) (a8:∀ d∈cC,okDsp w0 d) (eV:i.length≤9223372036854775807) (eW:i.length≤P) (N:Nat) (r:Bool) (F:F10 N i=some true):bn Tryz.prog 10 [.slice O i.length P] w0 fun v w=>v=bT∧Below w0.heap.size w0 w:=by
 refine az (n:=97) func10 rfl ntmps10 rfl ?_
 have I:=Inv.start w0
 unfold F10 at F
 refine ab (rgn (by kernel_rfl) (pu bF (by kernel_rfl) (aa (ab (rgn (by kernel_rfl) (ph (bh I _ zeroValue63 rfl fun Q w I=>aa (ab (rgn (by kernel_rfl) (pu (.slice none 0 0) (by kernel_rfl) (aa (ab (rgn (by kernel_rfl) (pu (iv 0) (by kernel_rfl) (aa (dn (fun ρ w=>cd ρ []∧Inv [] w0 w []∧F10j1 N=some true) ?_ ?_))))))))))))))))
 ·
  refine ab (rgn (by kernel_rfl) (pu (iv 0) (by kernel_rfl) (aa (au ?_))))
  have I:=I.nilRow 35
  have I:=I.nilRow 35
  have I:=I.nilRow 35
  have I:=I.nilRow 25
  refine cb (fun m ρ w=>∃ (q:Option Nat) (J:Nat) (aM:List Value) (s:Option Nat) (K:Nat) (aN:List Value) (u:Option Nat) (L:Nat) (aO:List Value) (g:Option Nat) (k:Nat) (a9:List Value) (x:List Sp3) (y:List Sp3) (z:List Sp3) (E:Int) (G:Int) (H:Int) (e:List Rc) (M:Int) (j:Int) (mm:Nat),cd ρ [(0,.slice O i.length P),(3,pt Q),(4,slv g e.length k),(5,iv M),(6,iv j)]∧Inv [] w0 w [(some Q,blk [slv q x.length J,slv s y.length K,slv u z.length L,iv E,iv G,iv H] 63),(q,blk aM 35),(s,blk aN 35),(u,blk aO 35),(g,blk a9 25)]∧(Row 3 q (x.length) J aM (al bb x))∧(Row 3 s (y.length) K aN (al bb y))∧(Row 3 u (z.length) L aO (al bb z))∧(Row 8 g (e.length) k a9 (al eRc e))∧F10l2 i N mm x y z E G H e M j=some true∧mm=m) (m:=N) ⟨none,0,[],none,0,[],none,0,[],none,0,[],[],[],[],0,0,0,[],0,0,N,⟨rfl,rfl,rfl,rfl,rfl,trivial⟩,I.pk [4,1,2,3,0] rfl rfl,(Row.nil_ 3),(Row.nil_ 3),(Row.nil_ 3),(Row.nil_ 8),F,rfl⟩ ?_
  rintro m ρ w ⟨q,J,aM,s,K,aN,u,L,aO,g,k,a9,x,y,z,E,G,H,e,M,j,mm,hag,I,A,B,C,D,F,hm⟩
  subst hm; obtain ⟨ρ,rfl⟩:=hag.form; clear hag
  obtain _ | m2:=mm
  ·cases (show (none:Option Bool)=some true from F)
  replace F:F10b2 i N (F10l2 i N m2) x y z E G H e M j=some true:=F; unfold F10b2 at F
  refine ab (dn (fun ρ w=>cd ρ [(0,.slice O i.length P),(3,pt Q),(4,slv g e.length k),(5,iv M),(6,iv j),(20,bF)]∧Inv [] w0 w [(some Q,blk [slv q x.length J,slv s y.length K,slv u z.length L,iv E,iv G,iv H] 63),(q,blk aM 35),(s,blk aN 35),(u,blk aO 35),(g,blk a9 25)]∧F10j3 N=some true) ?_ ?_)
  ·
   refine rgn (by kernel_rfl) (pu3 (iv j) (.slice O i.length P) (iv ((i.length:Nat):Int)) (by kernel_rfl) (ifN F (fun cD F=>?_) (fun cD F=>?_)))
   ·
    refine ph (cm rfl rfl (fun h=>absurd h cD) (fun _=>pu bF (by kernel_rfl) (sf 2 (by kernel_rfl) (pu bF (by kernel_rfl) (aa (.inl ⟨rfl,⟨⟨rfl,rfl,rfl,rfl,rfl,rfl,trivial⟩,I.pk [0,1,2,3,4] rfl rfl,F⟩⟩))))))
   refine ph (cm rfl rfl (fun _=>?_) (fun h=>absurd cD h))
   refine pu bT (by kernel_rfl) (pup (iv j) (by kernel_rfl) (ifN F (fun cE F=>?_) (fun cE F=>?_)))
   ·
    refine aw (by kernel_rfl) (cm rfl rfl (fun h=>absurd h cE) (fun _=>pu bF (by kernel_rfl) (aa (.inl ⟨rfl,⟨⟨rfl,rfl,rfl,rfl,rfl,rfl,trivial⟩,I.pk [0,1,2,3,4] rfl rfl,F⟩⟩))))
   refine aw (by kernel_rfl) (cm rfl rfl (fun _=>?_) (fun h=>absurd cE h))
   refine pu bT (by kernel_rfl) (aa (.inr (ah rfl (ak (ab (au (ab (rgn (by kernel_rfl) (pu2 (.slice O i.length P) (iv j) (by kernel_rfl) (gdE F (fun dD F=>bt F (fun f cT F=>?_))))))))))))
   obtain ⟨aA,aB,a1⟩:=getDsp dC cT
   obtain ⟨eX,eY,dE,dF,dG⟩:=dB.at_ eDsp_len (by decide) a1
   refine ph (cn (j).toNat zu115 zs117 rfl dE rfl (Int.toNat_of_nonneg dD).symm (fa cT rfl) (ph (ef I [iv f.ac,iv f.pa,iv f.dy,.string (bts f.t),.slice aA f.pk.length aB] zi117 zs117 rfl rfl dF (by simp) dG (ph (bh I _ zeroValue117 rfl fun cU w I=>ph (mb I 0 _ zs117 rfl rfl rfl rfl rfl rfl fun w I=>aa (dn (fun ρ w=>∃ (aC:Option Nat) (aP:Nat) (aY:List Value) (aD:Option Nat) (aQ:Nat) (aZ:List Value) (aE:Option Nat) (aR:Nat) (b0:List Value) (a2:Option Nat) (aF:Nat) (b1:List Value) (a3:List Sp3) (a4:List Sp3) (a5:List Sp3) (aS:Int) (aT:Int) (aU:Int) (R:List Rc) (b2:Int),cd ρ [(0,.slice O i.length P),(3,pt Q),(4,slv a2 R.length aF),(5,iv b2),(6,iv j)]∧Inv [] w0 w [(some Q,blk [slv aC a3.length aP,slv aD a4.length aQ,slv aE a5.length aR,iv aS,iv aT,iv aU] 63),(aC,blk aY 35),(aD,blk aZ 35),(aE,blk b0 35),(a2,blk b1 25)]∧(Row 3 aC (a3.length) aP aY (al bb a3))∧(Row 3 aD (a4.length) aQ aZ (al bb a4))∧(Row 3 aE (a5.length) aR b0 (al bb a5))∧(Row 8 a2 (R.length) aF b1 (al eRc R))∧F10j4 N (F10l2 i N m2) j a3 a4 a5 aS aT aU R b2=some true) ?_ ?_)))))))
   ·
    refine ab (rgn (by kernel_rfl) (pu (pt cU) (by kernel_rfl) (ph (ag I 0 (iv f.ac) zi3 rfl rfl rfl (bt F (fun eZ dH F=>ph (bg I 63 _ _ (by kernel_rfl) (L63 _ f.ac 6 _ dH) fun w I=>aa (au (ab (rgn (by kernel_rfl) (ifE F (fun cF F=>?_) (fun cF F=>?_))))))))))))
    ·
     refine ph (di rfl rfl (fun _=>?_) (fun h=>absurd cF h))
     refine pu bT (by kernel_rfl) (aa (ah rfl (ab (rgn (by kernel_rfl) (ph (ma I 1 mt mi rfl rfl rfl (bt F (fun aG dI F=>ph (co 43 _ (by kernel_rfl) (L43 _ (q.map fun b=>⟨b,0,none⟩) J x (s.map fun b=>⟨b,0,none⟩) K y (u.map fun b=>⟨b,0,none⟩) L z E G H (I.rowCells 2 rfl A) (am rfl A.big) (am rfl A.cap) (I.rowCells 3 rfl B) (am rfl B.big) (am rfl B.cap) (I.rowCells 4 rfl C) (am rfl C.big) (am rfl C.cap) _ dI) ?_)))))))))
     rintro v w ⟨dJ,dK,dL,dM,dN,dO,dP,dQ,dR,rfl,hN,dS,dT,dU⟩
     have I:=I.join hN; clear hN
     refine ph (mb I 4 _ mi rfl rfl rfl rfl rfl rfl fun w I=>aa (rgn (by kernel_rfl) (pu3 (slv g e.length k) (iv ((e.length:Nat):Int)) (iv (e.length:Int)) (by kernel_rfl) (aa (.inl ⟨rfl,⟨dJ,dK,dL,dM,dN,dO,dP,dQ,dR,g,k,a9,aG.1,aG.2.1,aG.2.2.1,aG.2.2.2.1,aG.2.2.2.2.1,aG.2.2.2.2.2,e,(e.length:Int),⟨rfl,rfl,rfl,rfl,rfl,trivial⟩,I.pk [4,0,1,2,8] rfl rfl,(dS.to rfl rfl),(dT.to rfl rfl),(dU.to rfl rfl),(D.to rfl rfl),F⟩⟩)))))
    refine ph (di rfl rfl (fun h=>absurd h cF) (fun _=>pu bF (by kernel_rfl) (aa (ai rfl (ab (rgn (by kernel_rfl) (ifE F (fun cG F=>?_) (fun cG F=>?_))))))))
    ·
     refine ph (di rfl rfl (fun _=>?_) (fun h=>absurd cG h))
     refine pu bT (by kernel_rfl) (aa (ah rfl (ab (rgn (by kernel_rfl) (ph (ma I 1 mt mi rfl rfl rfl (pu (.pointer (some ⟨cU,4,none⟩)) (by kernel_rfl) (ph (ag I 0 (.slice aA f.pk.length aB) zi64 rfl rfl rfl (bt F (fun aH dV F=>ph (co 45 _ (by kernel_rfl) (L45 _ (q.map fun b=>⟨b,0,none⟩) J x (s.map fun b=>⟨b,0,none⟩) K y (u.map fun b=>⟨b,0,none⟩) L z E G H aA aB f.pk (I.rowCells 2 rfl A) (am rfl A.big) (am rfl A.cap) (I.rowCells 3 rfl B) (am rfl B.big) (am rfl B.cap) (I.rowCells 4 rfl C) (am rfl C.big) (am rfl C.cap) (((a8 _ (bz a1))).1.inv0 I) ((a8 _ (bz a1))).2.1 ((a8 _ (bz a1))).2.2 N _ dV) ?_))))))))))))
     rintro v w ⟨dW,dX,f0,dY,dZ,f1,e0,e1,f2,rfl,hN,cH,cI,cJ⟩
     have I:=I.join hN; clear hN
     refine bt F (fun a e2 F=>ph (co 40 _ (by kernel_rfl) (L40 _ (dW.map fun b=>⟨b,0,none⟩) dX aH.1 (dY.map fun b=>⟨b,0,none⟩) dZ aH.2.1 (e0.map fun b=>⟨b,0,none⟩) e1 aH.2.2.1 aH.2.2.2.1 aH.2.2.2.2.1 aH.2.2.2.2.2 (hG.up I) (I.rowCells 0 rfl cH) (am rfl cH.big) (am rfl cH.cap) (I.rowCells 1 rfl cI) (am rfl cI.big) (am rfl cI.cap) (I.rowCells 2 rfl cJ) (am rfl cJ.big) (am rfl cJ.cap) N _ e2) ?_))
     rintro v w ⟨b3,b4,e3,b5,b6,e4,b7,b8,e5,l,o,e6,rfl,hN,b9,bA,bB,a6⟩
     have I:=I.join hN; clear hN
     refine pu3 (.tuple #[.agg #[slv b3 a.1.length b4,slv b5 a.2.1.length b6,slv b7 a.2.2.1.length b8,iv a.2.2.2.1,iv a.2.2.2.2.1,iv a.2.2.2.2.2.1],slv l a.2.2.2.2.2.2.length o]) (.agg #[slv b3 a.1.length b4,slv b5 a.2.1.length b6,slv b7 a.2.2.1.length b8,iv a.2.2.2.1,iv a.2.2.2.2.1,iv a.2.2.2.2.2.1]) (slv l a.2.2.2.2.2.2.length o) (by kernel_rfl) (ph (bh I _ zeroValue63 rfl fun f3 w I=>ph (mb I 0 _ mi rfl rfl rfl rfl rfl rfl fun w I=>pu (slv l a.2.2.2.2.2.2.length o) (by kernel_rfl) (aa (ab (ab (rgn (by kernel_rfl) (pu3 (slv l a.2.2.2.2.2.2.length o) (iv ((a.2.2.2.2.2.2.length:Nat):Int)) (iv M) (by kernel_rfl) (ifE F (fun cV F=>?_) (fun cV F=>?_))))))))))
     · cases F
     refine ph (cm rfl rfl (fun h=>absurd h cV) (fun _=>pu bF (by kernel_rfl) (pup (slv l a.2.2.2.2.2.2.length o) (by kernel_rfl) (pup (iv ((a.2.2.2.2.2.2.length:Nat):Int)) (by kernel_rfl) (pup (slv g e.length k) (by kernel_rfl) (pup (iv ((e.length:Nat):Int)) (by kernel_rfl) (ifE F (fun cW F=>?_) (fun cW F=>?_))))))))
     · cases F
     refine aw (by kernel_rfl) (s_gtr rfl rfl (fun h=>absurd h cW) (fun _=>pu2 bF bF (by kernel_rfl) (pup (slv l a.2.2.2.2.2.2.length o) (by kernel_rfl) (pup (slv g e.length k) (by kernel_rfl) (pup (slv l a.2.2.2.2.2.2.length o) (by kernel_rfl) (pup (iv ((a.2.2.2.2.2.2.length:Nat):Int)) (by kernel_rfl) (pup (slv l a.2.2.2.2.2.2.length o) (by kernel_rfl) (pup (iv ((a.2.2.2.2.2.2.length:Nat):Int)) (by kernel_rfl) (gdE F (fun bC F=>?_))))))))))
     have cX:Row 8 g (e.take a.2.2.2.2.2.2.length).length k a9 (al eRc (e.take a.2.2.2.2.2.2.length)):=(D.cut bx (by decide) a.2.2.2.2.2.2.length (ll rfl bC)).to rfl (take_len2 bC)
     refine aw (by kernel_rfl) (s_slice3zN zu45 md rfl (congrArg (Value.int .i64) rfl) (congrArg (Value.int .i64) rfl) (take_len2 bC) (Nat.le_trans bC (am rfl D.cap)) (bt F (fun f4 e7 F=>ifN F (fun cY F=>?_) (fun cY F=>?_))))
     · cases F
     refine aw (by kernel_rfl) (bg I 35 _ _ (by kernel_rfl) (bn.mono (L35 _ (l.map fun b=>⟨b,0,none⟩) o a.2.2.2.2.2.2 (Option.map (fun b=>(⟨b,0,none⟩:Addr)) g) ((e.take a.2.2.2.2.2.2.length).length) (e.take a.2.2.2.2.2.2.length) (I.rowCells 4 rfl a6) (am rfl a6.big) (am rfl a6.cap) (I.rowCells 13 rfl cX) cX.big (Nat.le_refl _) N _ e7) (fun v' w' h=>⟨h.1.trans (congrArg Value.bool cY),h.2⟩)) fun w I=>pup bF (by kernel_rfl) (pu2 bF bF (by kernel_rfl) (aw (by kernel_rfl) (ma I 0 mt mi rfl rfl rfl (pup (slv l a.2.2.2.2.2.2.length o) (by kernel_rfl) (bt F (fun f5 e8 F=>aw (by kernel_rfl) (bg I 47 _ _ (by kernel_rfl) (L47 _ (b3.map fun b=>⟨b,0,none⟩) b4 a.1 (b5.map fun b=>⟨b,0,none⟩) b6 a.2.1 (b7.map fun b=>⟨b,0,none⟩) b8 a.2.2.1 a.2.2.2.1 a.2.2.2.2.1 a.2.2.2.2.2.1 (l.map fun b=>⟨b,0,none⟩) o a.2.2.2.2.2.2 (hG.up I) (I.rowCells 1 rfl b9) (am rfl b9.big) (am rfl b9.cap) (I.rowCells 2 rfl bA) (am rfl bA.big) (am rfl bA.cap) (I.rowCells 3 rfl bB) (am rfl bB.big) (am rfl bB.cap) (I.rowCells 4 rfl a6) (am rfl a6.big) (am rfl a6.cap) N _ e8) fun w I=>ifN F (fun cZ F=>?_) (fun cZ F=>?_)))))))))
     · cases F
     refine aw (by kernel_rfl) (de rfl rfl (fun h=>absurd cZ h) (fun _=>pu bF (by kernel_rfl) (aa (ai rfl (ak (ab (rgn (by kernel_rfl) (ph (ma I 0 mt mi rfl rfl rfl (ph (mb I 9 _ mi rfl rfl rfl rfl rfl rfl fun w I=>aa (ab (rgn (by kernel_rfl) (pu2 (slv l a.2.2.2.2.2.2.length o) (slv l a.2.2.2.2.2.2.length o) (by kernel_rfl) (aa (rgn (by kernel_rfl) (pu3 (slv l a.2.2.2.2.2.2.length o) (iv ((a.2.2.2.2.2.2.length:Nat):Int)) (iv (a.2.2.2.2.2.2.length:Int)) (by kernel_rfl) (aa (.inl ⟨rfl,⟨b3,b4,e3,b5,b6,e4,b7,b8,e5,l,o,e6,a.1,a.2.1,a.2.2.1,a.2.2.2.1,a.2.2.2.2.1,a.2.2.2.2.2.1,a.2.2.2.2.2.2,(a.2.2.2.2.2.2.length:Int),⟨rfl,rfl,rfl,rfl,rfl,trivial⟩,I.pk [9,1,2,3,4] rfl rfl,(b9.to rfl rfl),(bA.to rfl rfl),(bB.to rfl rfl),(a6.to rfl rfl),F⟩⟩)))))))))))))))))))
    refine ph (di rfl rfl (fun h=>absurd h cG) (fun _=>pu bF (by kernel_rfl) (aa (ai rfl (dn (fun ρ w=>∃ (cK:Nat) (aV:Option Nat) (bD:Nat) (bE:List Value) (aW:Option Nat) (bG:Nat) (bH:List Value) (aX:Option Nat) (bI:Nat) (bJ:List Value) (a7:Option Nat) (aI:Nat) (bK:List Value) (aJ:List Sp3) (aK:List Sp3) (aL:List Sp3) (bL:Int) (bM:Int) (bN:Int) (S:List Rc) (bO:Int),cd ρ [(0,.slice O i.length P),(3,pt Q),(5,iv M),(6,iv j),(10,pt cK),(11,slv a7 S.length aI),(12,iv bO)]∧Inv [] w0 w [(some Q,blk [slv q x.length J,slv s y.length K,slv u z.length L,iv E,iv G,iv H] 63),(q,blk aM 35),(s,blk aN 35),(u,blk aO 35),(some cK,blk [slv aV aJ.length bD,slv aW aK.length bG,slv aX aL.length bI,iv bL,iv bM,iv bN] 63),(aV,blk bE 35),(aW,blk bH 35),(aX,blk bJ 35),(a7,blk bK 25)]∧(Row 3 aV (aJ.length) bD bE (al bb aJ))∧(Row 3 aW (aK.length) bG bH (al bb aK))∧(Row 3 aX (aL.length) bI bJ (al bb aL))∧(Row 8 a7 (S.length) aI bK (al eRc S))∧F10j5 N (F10l2 i N m2) M j aJ aK aL bL bM bN S bO=some true) ?_ ?_)))))
    ·
     refine bt F (fun e9 eA F=>?_)
     obtain ⟨cL,cM,cN,cO,cP,cQ,cR,cS⟩:=e9
     refine bt F (fun eC d0 F=>?_)
     obtain ⟨T,U,V,W,X,Y,Z,a0⟩:=eC
     refine dh I [0,1,2,3,4,5] (by decide) rfl (by kernel_rfl) (by kernel_rfl) fun hsub=>ap 0 (.agg #[slv q x.length J,slv s y.length K,slv u z.length L,iv E,iv G,iv H]) hsub rfl (by kernel_rfl) (fun w I=>ma I 1 mt mi rfl rfl rfl br) (alp 1 (slv g e.length k) hsub rfl (by kernel_rfl) (fun _=>(by kernel_rfl)) (alp 2 (slv g e.length k) hsub rfl (by kernel_rfl) (fun _=>(by kernel_rfl)) (ap 3 (.agg #[iv f.ac,iv f.pa,iv f.dy,.string (bts f.t),.slice aA f.pk.length aB]) hsub rfl (by kernel_rfl) (fun w I=>ma I 0 zi117 zs117 rfl rfl rfl br) (ap 4 (.agg #[iv cL,iv cM,iv cN,iv cO,iv cP,iv cQ,iv cR,.string (bts cS)]) hsub rfl (by kernel_rfl) (fun w I=>co 64 [slv g e.length k,.agg #[iv f.ac,iv f.pa,iv f.dy,.string (bts f.t),.slice aA f.pk.length aB]] (by kernel_rfl) (L64 _ (g.map fun b=>⟨b,0,none⟩) k e f.ac f.pa f.dy f.t aA aB f.pk (I.rowCells 5 rfl D) (am rfl D.big) (am rfl D.cap) (((a8 _ (bz a1))).1.inv0 I) ((a8 _ (bz a1))).2.1 ((a8 _ (bz a1))).2.2 N _ eA) (fun v' w' h=>h)) (bc [5,10] (by kernel_rfl) rfl (each2 ?_ ?_))))))
     ·intro w I
      refine dg rfl (co 38 _ (by kernel_rfl) (L38 _ (q.map fun b=>⟨b,0,none⟩) J x (s.map fun b=>⟨b,0,none⟩) K y (u.map fun b=>⟨b,0,none⟩) L z E G H (g.map fun b=>⟨b,0,none⟩) k e (⟨cL,cM,cN,cO,cP,cQ,cR,cS⟩:Rc) (hG.up I) (I.rowCells 2 rfl A) (am rfl A.big) (am rfl A.cap) (I.rowCells 3 rfl B) (am rfl B.big) (am rfl B.cap) (I.rowCells 4 rfl C) (am rfl C.big) (am rfl C.cap) (I.rowCells 5 rfl D) (am rfl D.big) (am rfl D.cap) N _ d0) ?_)
      rintro v w ⟨bP,bQ,eD,bR,bS,eE,bU,bV,eF,bW,bX,eG,hv,hN,d1,d2,d3,d4⟩
      dsimp only at hv hN d1 d2 d3 d4; subst hv
      have I:=I.join hN; clear hN
      refine ⟨_,I,dc (fun _ h=>h.pk [4,5,6,7,8,9] rfl rfl) ?_⟩
      intro hsub
      refine alp 6 (.tuple #[.agg #[slv bP T.length bQ,slv bR U.length bS,slv bU V.length bV,iv W,iv X,iv Y],slv bW Z.length bX,iv a0]) hsub rfl (by kernel_rfl) (fun _=>(by kernel_rfl)) (alp 7 (.agg #[slv bP T.length bQ,slv bR U.length bS,slv bU V.length bV,iv W,iv X,iv Y]) hsub rfl (by kernel_rfl) (fun _=>(by kernel_rfl)) (alp 8 (slv bW Z.length bX) hsub rfl (by kernel_rfl) (fun _=>(by kernel_rfl)) (alp 9 (iv a0) hsub rfl (by kernel_rfl) (fun _=>(by kernel_rfl)) (bc [10] (by kernel_rfl) rfl (cz fun w I=>dg rfl (bh I [.slice none 0 0,.slice none 0 0,.slice none 0 0,iv 0,iv 0,iv 0] zeroValue63 rfl fun eH w I=>⟨_,I,dc (fun _ h=>h.pk [5,6,7,8,9,10] rfl rfl) ?_⟩))))))
      intro hsub
      refine bc [11] (by kernel_rfl) rfl (cz fun w I=>dg rfl (aq I 0 6 [slv bP T.length bQ,slv bR U.length bS,slv bU V.length bV,iv W,iv X,iv Y] mi rfl rfl rfl rfl rfl (mx rfl) fun w I=>⟨_,I,dc (fun _ h=>h.pk [5,6,7,8,9,10] rfl rfl) ?_⟩))
      intro hsub
      refine alp 12 (slv bW Z.length bX) hsub rfl (by kernel_rfl) (fun _=>(by kernel_rfl)) (alp 13 (iv a0) hsub rfl (by kernel_rfl) (fun _=>(by kernel_rfl)) (cp (by kernel_rfl) (fun w I=>.inl ⟨rfl,⟨eH,bP,bQ,eD,bR,bS,eE,bU,bV,eF,bW,bX,eG,T,U,V,W,X,Y,Z,a0,⟨rfl,rfl,rfl,rfl,rfl,rfl,rfl,trivial⟩,I.pk [6,7,8,9,0,1,2,3,4] rfl rfl,(d1.to rfl rfl),(d2.to rfl rfl),(d3.to rfl rfl),(d4.to rfl rfl),F⟩⟩)))
     intro w I
     refine dg rfl (bh I [.slice none 0 0,.slice none 0 0,.slice none 0 0,iv 0,iv 0,iv 0] zeroValue63 rfl fun eI w I=>⟨_,I,dc (fun _ h=>h.pk [1,2,3,4,5,6] rfl rfl) ?_⟩)
     intro hsub
     refine bc [5] (by kernel_rfl) rfl (cz fun w I=>dg rfl (co 38 _ (by kernel_rfl) (L38 _ (q.map fun b=>⟨b,0,none⟩) J x (s.map fun b=>⟨b,0,none⟩) K y (u.map fun b=>⟨b,0,none⟩) L z E G H (g.map fun b=>⟨b,0,none⟩) k e (⟨cL,cM,cN,cO,cP,cQ,cR,cS⟩:Rc) (hG.up I) (I.rowCells 3 rfl A) (am rfl A.big) (am rfl A.cap) (I.rowCells 4 rfl B) (am rfl B.big) (am rfl B.cap) (I.rowCells 5 rfl C) (am rfl C.big) (am rfl C.cap) (I.rowCells 6 rfl D) (am rfl D.big) (am rfl D.cap) N _ d0) ?_))
     rintro v w ⟨bY,bZ,eJ,c0,c1,eK,c2,c4,eL,c5,c6,eM,hv,hN,d5,d6,d7,d8⟩
     dsimp only at hv hN d5 d6 d7 d8; subst hv
     have I:=I.join hN; clear hN
     refine ⟨_,I,dc (fun _ h=>h.pk [5,6,7,8,9,10] rfl rfl) ?_⟩
     intro hsub
     refine alp 6 (.tuple #[.agg #[slv bY T.length bZ,slv c0 U.length c1,slv c2 V.length c4,iv W,iv X,iv Y],slv c5 Z.length c6,iv a0]) hsub rfl (by kernel_rfl) (fun _=>(by kernel_rfl)) (alp 7 (.agg #[slv bY T.length bZ,slv c0 U.length c1,slv c2 V.length c4,iv W,iv X,iv Y]) hsub rfl (by kernel_rfl) (fun _=>(by kernel_rfl)) (alp 8 (slv c5 Z.length c6) hsub rfl (by kernel_rfl) (fun _=>(by kernel_rfl)) (alp 9 (iv a0) hsub rfl (by kernel_rfl) (fun _=>(by kernel_rfl)) (bc [11] (by kernel_rfl) rfl (cz fun w I=>dg rfl (aq I 4 6 [slv bY T.length bZ,slv c0 U.length c1,slv c2 V.length c4,iv W,iv X,iv Y] mi rfl rfl rfl rfl rfl (mx rfl) fun w I=>⟨_,I,dc (fun _ h=>h.pk [5,6,7,8,9,10] rfl rfl) ?_⟩))))))
     intro hsub
     refine alp 12 (slv c5 Z.length c6) hsub rfl (by kernel_rfl) (fun _=>(by kernel_rfl)) (alp 13 (iv a0) hsub rfl (by kernel_rfl) (fun _=>(by kernel_rfl)) (cp (by kernel_rfl) (fun w I=>.inl ⟨rfl,⟨eI,bY,bZ,eJ,c0,c1,eK,c2,c4,eL,c5,c6,eM,T,U,V,W,X,Y,Z,a0,⟨rfl,rfl,rfl,rfl,rfl,rfl,rfl,trivial⟩,I.pk [6,7,8,9,4,0,1,2,3] rfl rfl,(d5.to rfl rfl),(d6.to rfl rfl),(d7.to rfl rfl),(d8.to rfl rfl),F⟩⟩)))
    intro ρ w hJ
    obtain ⟨cK,aV,bD,bE,aW,bG,bH,aX,bI,bJ,a7,aI,bK,aJ,aK,aL,bL,bM,bN,S,bO,hag,I,eN,eO,eP,eQ,F⟩:=hJ
    obtain ⟨ρ,rfl⟩:=hag.form; clear hag
    unfold F10j5 at F
    refine ab (ab (rgn (by kernel_rfl) (pu (iv bO) (by kernel_rfl) (ifN F (fun d9 F=>?_) (fun d9 F=>?_)))))
    · cases F
    refine ph (de rfl rfl (fun h=>absurd d9 h) (fun _=>aa (ai rfl (ak (ab (rgn (by kernel_rfl) (ph (ma I 4 mt mi rfl rfl rfl (ph (mb I 0 _ mi rfl rfl rfl rfl rfl rfl fun w I=>aa (rgn (by kernel_rfl) (pu2 (slv a7 S.length aI) (slv a7 S.length aI) (by kernel_rfl) (aa (.inl ⟨rfl,⟨aV,bD,bE,aW,bG,bH,aX,bI,bJ,a7,aI,bK,aJ,aK,aL,bL,bM,bN,S,M,⟨rfl,rfl,rfl,rfl,rfl,trivial⟩,I.pk [0,5,6,7,8] rfl rfl,(eN.to rfl rfl),(eO.to rfl rfl),(eP.to rfl rfl),(eQ.to rfl rfl),F⟩⟩))))))))))))))
   intro ρ w hJ
   obtain ⟨aC,aP,aY,aD,aQ,aZ,aE,aR,b0,a2,aF,b1,a3,a4,a5,aS,aT,aU,R,b2,hag,I,c7,c8,cA,cB,F⟩:=hJ
   obtain ⟨ρ,rfl⟩:=hag.form; clear hag
   unfold F10j4 at F
   refine ab (rgn (by kernel_rfl) (ph (ma I 0 mt mi rfl rfl rfl (pu (slv a2 R.length aF) (by kernel_rfl) (bt F (fun f6 eR F=>ph (bg I 47 _ _ (by kernel_rfl) (L47 _ (aC.map fun b=>⟨b,0,none⟩) aP a3 (aD.map fun b=>⟨b,0,none⟩) aQ a4 (aE.map fun b=>⟨b,0,none⟩) aR a5 aS aT aU (a2.map fun b=>⟨b,0,none⟩) aF R (hG.up I) (I.rowCells 1 rfl c7) (am rfl c7.big) (am rfl c7.cap) (I.rowCells 2 rfl c8) (am rfl c8.big) (am rfl c8.cap) (I.rowCells 3 rfl cA) (am rfl cA.big) (am rfl cA.cap) (I.rowCells 4 rfl cB) (am rfl cB.big) (am rfl cB.cap) N _ eR) fun w I=>ifN F (fun dA F=>?_) (fun dA F=>?_))))))))
   · cases F
   refine ph (de rfl rfl (fun h=>absurd dA h) (fun _=>aa (ai rfl (ak (rgn (by kernel_rfl) (pu (iv j) (by kernel_rfl) (ckE F (fun eS F=>ph (cj rfl rfl eS (pu (iv (j+1)) (by kernel_rfl) (aa (⟨rfl,m2,Nat.lt_succ_self _,⟨aC,aP,aY,aD,aQ,aZ,aE,aR,b0,a2,aF,b1,a3,a4,a5,aS,aT,aU,R,b2,j+1,m2,⟨rfl,rfl,rfl,rfl,rfl,trivial⟩,I.pk [0,1,2,3,4] rfl rfl,(c7.to rfl rfl),(c8.to rfl rfl),(cA.to rfl rfl),(cB.to rfl rfl),F,rfl⟩⟩))))))))))))
  intro ρ w hJ
  obtain ⟨hag,I,F⟩:=hJ
  obtain ⟨ρ,rfl⟩:=hag.form; clear hag
  unfold F10j3 at F
  refine ai rfl (bw (.inl ⟨rfl,⟨trivial,I.pk [] rfl rfl,F⟩⟩))
 intro ρ w hJ
 obtain ⟨hag,I,F⟩:=hJ
 obtain ⟨ρ,rfl⟩:=hag.form; clear hag
 unfold F10j1 at F
 refine ab (rgn (by kernel_rfl) (bt F (fun eT eU F=>?_)))
 obtain rfl:eT=true:=Option.some.inj F
 refine ph (bg I 19 _ _ (by kernel_rfl) (L19 _ (hG.up I) N eU) fun w I=>pu bT (by kernel_rfl) (aa (aj ?_)))
 cases F
 exact ⟨_,Ret.r1 rfl rfl,⟨rfl,I.below⟩⟩

end Go.K
