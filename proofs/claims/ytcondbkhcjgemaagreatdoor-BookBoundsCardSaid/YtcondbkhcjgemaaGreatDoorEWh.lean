import Derived.Test.YtcondbkhcjgemaaGreatDoorEWg
namespace Go.K
open Go.Proofs.Tryz
open Go.Proofs Go.RowKit
set_option linter.unusedVariables false
set_option linter.unusedSimpArgs false
set_option maxRecDepth 100000
attribute [local irreducible] Seq cw cx fl opX
theorem L24 (w0:World) (i:Option Addr) (j:Nat) (e:List Sp3) (k:Option Addr) (l:Nat) (g:List Sp3) (y:bi w0 i (al bb e)) (O:e.length≤9223372036854775807) (P:e.length≤j) (z:bi w0 k (al bb g)) (Q:g.length≤9223372036854775807) (R:g.length≤l) (N:Nat) (r:Bool) (F:F24 N e g=some r):bn Tryz.prog 24 [uM i e j,uM k g l] w0 fun v w=>v=.bool r∧Below w0.heap.size w0 w:=by
 refine az (n:=26) func24 rfl ntmps24 rfl ?_
 have I:=Inv.start w0
 unfold F24 at F
 refine uL rfl (pu bF rfl (aa (ab (uL rfl (pu3 (uM i e j) (iv ((e.length:Nat):Int)) (uM k g l) (by kernel_rfl) (pu (iv ((g.length:Nat):Int)) (by kernel_rfl) (ifN F (fun o F=>?_) (fun o F=>?_))))))))
 ·
  refine xn rfl (fun _=>?_) (uP o)
  refine aa (ah rfl (uL rfl (pu bF rfl (aa (aj ?_)))))
  cases F
  exact uJ I rfl


 refine xn rfl (uO o) (fun _=>aa (ai rfl (ak (ab (uL rfl (pu3 (uM i e j) (iv ((e.length:Nat):Int)) (iv 0) (by kernel_rfl) (aa (au (cb (fun m ρ w=>∃ f mm,cd ρ [(0,uM i e j),(1,uM k g l),(12,iv (e.length:Int)),(13,iv f)]∧Inv [] w0 w []∧F24l1 e g mm f=some r∧mm=m) (m:=N) ⟨0,N,(uK rfl),I.pk [] rfl,F,rfl⟩ ?_)))))))))
 rintro m ρ w ⟨f,mm,hag,I,F,hm⟩
 subst hm; obtain ⟨ρ,rfl⟩:=hag.form
 obtain _ | m1:=mm
 ·cases (show (none:Option Bool)=some r from F)
 replace F:F24b1 e g (F24l1 e g m1) f=some r:=F; unfold F24b1 at F
 refine uL rfl (ifN F (fun p F=>?_) (fun p F=>?_))
 ·
  refine xl rfl (uP p) (fun _=>aa (ab (ai rfl (bw (uL rfl (pu bT rfl (aa (aj ?_))))))))
  cases F
  exact uJ I rfl
 refine xl rfl (fun _=>?_) (uO p)
 refine aa (ab (ah rfl (ak (ab (au (uL rfl (pu2 (iv f) (iv f) rfl (aa (ab (gm 9 I (by kernel_rfl) (zB (uM i e j) (iv f) rfl (gdE F (fun s F=>bt F (fun a u F=>?_))))))))))))))
 obtain ⟨A,B,C,D,E⟩:=y.at_ bk (by decide) u
 refine zc (uF A (B+(f).toNat * 3)) (fun w I=>cn (f).toNat mj mc rfl C rfl (Int.toNat_of_nonneg s).symm (fa u rfl) br) (zc (.agg (qh a).toArray) (fun w I=>ef I (qh a) me mc rfl rfl D (by simp) E br) (zB (uM k g l) (iv f) rfl (bt F (fun d x F=>?_))))
 obtain ⟨G,H,J,K,L⟩:=z.at_ bk (by decide) x
 refine zc (uF G (H+(f).toNat * 3)) (fun w I=>cn (f).toNat mj mc rfl J rfl (Int.toNat_of_nonneg s).symm (fa x rfl) br) (zc (.agg (qh d).toArray) (fun w I=>ef I (qh d) me mc rfl rfl K (by simp) L br) (ifN F (fun q F=>?_) (fun q F=>?_)))
 ·
  refine zc bT (fun w I=>lg (b:=decide (a.no=d.no) && decide (a.sz=d.sz) && decide (a.t=d.t)) rfl rfl (by kernel_rfl) (fun w=>eq35 _ a.no a.sz a.t d.no d.sz d.t w) (fun _=>br) (uP q)) (zh (fun w I=>aa (ah rfl (uL rfl (pu bF rfl (aa (aj ?_)))))))
  cases F
  exact uJ I rfl
 refine zc bF (fun w I=>lg (b:=decide (a.no=d.no) && decide (a.sz=d.sz) && decide (a.t=d.t)) rfl rfl (by kernel_rfl) (fun w=>eq35 _ a.no a.sz a.t d.no d.sz d.t w) (uO q) (fun _=>br)) (zh (fun w I=>aa (ai rfl (ak (rgn rfl (ckE F (fun M F=>xa rfl M (pu (iv (f+1)) rfl (aa (⟨rfl,m1,Nat.lt_succ_self _,⟨f+1,m1,(uK rfl),I.pk [] rfl,F,rfl⟩⟩))))))))))
theorem L132 (w0:World) (i:Option Addr) (j:Nat) (a:List Rc) (e:Int) (x:bi w0 i (al eRc a)) (E:a.length≤9223372036854775807) (G:a.length≤j) (N:Nat) (r:Int) (F:F132 N a e=some r):bn Tryz.prog 132 [uM i a j,iv e] w0 fun v w=>v=iv r∧Below w0.heap.size w0 w:=by
 refine az (n:=23) func132 rfl ntmps132 rfl ?_
 have I:=Inv.start w0
 unfold F132 at F
 refine uL rfl (pu (iv 0) rfl (aa (uL rfl (pu (iv 0) rfl (aa (ab (uL rfl (pu3 (uM i a j) (iv ((a.length:Nat):Int)) (iv 0) (by kernel_rfl) (aa (au (cb (fun m ρ w=>∃ b f mm,cd ρ [(1,iv e),(5,iv b),(8,uM i a j),(9,iv (a.length:Int)),(10,iv f)]∧Inv [] w0 w []∧F132l1 a e mm b f=some r∧mm=m) (m:=N) ⟨0,0,N,(uK rfl),I.pk [] rfl,F,rfl⟩ ?_)))))))))))
 rintro m ρ w ⟨b,f,mm,hag,I,F,hm⟩
 subst hm; obtain ⟨ρ,rfl⟩:=hag.form
 obtain _ | m1:=mm
 ·cases (show (none:Option Int)=some r from F)
 replace F:F132b1 a e (F132l1 a e m1) b f=some r:=F; unfold F132b1 at F
 refine uL rfl (ifN F (fun o F=>?_) (fun o F=>?_))
 ·
  refine xl rfl (uP o) (fun _=>aa (ab (ai rfl (bw (uL rfl (pu2 (iv b) (iv b) rfl (aa (aj ?_))))))))
  cases F
  exact uJ I rfl


 refine xl rfl (fun _=>?_) (uO o)
 refine aa (ab (ah rfl (ak (dn (fun ρ w=>∃ l,cd ρ [(1,iv e),(5,iv l),(8,uM i a j),(9,iv (a.length:Int)),(10,iv f)]∧Inv [] w0 w []∧F132j2 (F132l1 a e m1) f l=some r) ?_ ?_))))
 ·
  refine au (uL rfl (gdE F (fun y F=>bt F (fun g s F=>?_))))
  obtain ⟨H,J,z,A,B⟩:=x.at_ bx (by decide) s
  refine ph (cn (f).toNat nt md rfl z rfl (Int.toNat_of_nonneg y).symm (fa s rfl) (ph (ef I (qg g) mh md rfl rfl A (by simp) B (ph (bh I _ zeroValue25 rfl fun u w I=>xi I 0 _ md rfl fun w I=>aa (uL rfl (pu2 (pt u) (pt u) rfl (xg I 0 (iv g.p) zi3 rfl (pu (iv e) rfl (ifN F (fun q F=>?_) (fun q F=>?_)))))))))))
  ·
   refine xe rfl (uP q) (fun _=>aa (ai rfl (ak (.inl ⟨rfl,⟨b,(uK rfl),I.pk [] rfl,F⟩⟩))))
  refine xe rfl (fun _=>?_) (uO q)
  refine aa (ah rfl (rgn rfl (pu (iv b) rfl (ckE F (fun C F=>xa rfl C (pu (iv (b+1)) rfl (aa (.inl ⟨rfl,⟨b+1,(uK rfl),I.pk [] rfl,F⟩⟩))))))))
 intro ρ w hJ
 obtain ⟨l,hag,I,F⟩:=hJ
 obtain ⟨ρ,rfl⟩:=hag.form
 unfold F132j2 at F
 refine rgn rfl (ckE F (fun D F=>xa rfl D (pu (iv (f+1)) rfl (aa (⟨rfl,m1,Nat.lt_succ_self _,⟨l,f+1,m1,(uK rfl),I.pk [] rfl,F,rfl⟩⟩)))))
theorem L116 (w0:World) (e:Option Addr) (f:Nat) (b:List Rc) (a:Rc) (m:bi w0 e (al eRc b)) (o:b.length≤9223372036854775807) (q:b.length≤f) (N:Nat) (r:Bool) (F:F116 N b a=some r):bn Tryz.prog 116 [uM e b f,.agg (qg a).toArray] w0 fun v w=>v=.bool r∧Below w0.heap.size w0 w:=by
 refine az (n:=24) func116 rfl ntmps116 rfl ?_
 have I:=Inv.start w0
 unfold F116 at F
 refine uL rfl (ph (ca I _ rfl fun g w I=>pu bF rfl (aa (ab (gm 20 I (by kernel_rfl) (zP (uM e b f) rfl (zc (iv (b.length:Int)) (fun w I=>kl (iv ((b.length:Nat):Int)) (by kernel_rfl) br) (ifN F (fun i F=>?_) (fun i F=>?_)))))))))
 ·
  refine zc bF (fun w I=>cm rfl rfl (uP i) (fun _=>br)) (zP bF rfl (zf 3 rfl (zB bF bF rfl (zf 9 rfl (zB bF bF rfl (zh (fun w I=>aa (aj ?_))))))))
  cases F
  exact uJ I rfl


 refine zc bT (fun w I=>cm rfl rfl (fun _=>br) (uO i)) (zP bT rfl (zo (.agg (qg a).toArray) rfl (fun w I=>ma I 0 mh md rfl rfl rfl br) (bt F (fun s u F=>zo (iv s) rfl (fun w I=>co 18 [.agg (qg a).toArray] (by kernel_rfl) (L18 _ a N _ u) uI) (ifN F (fun j F=>?_) (fun j F=>?_))))))
 ·
  refine zo bF rfl (fun w I=>di rfl rfl (uP j) (fun _=>br)) (zB bF bF rfl (zf 9 rfl (zB bF bF rfl (zh (fun w I=>aa (aj ?_))))))
  cases F
  exact uJ I rfl
 refine zo bT rfl (fun w I=>di rfl rfl (fun _=>br) (uO j)) (zB bT bT rfl (zQ (pt g) rfl rfl (zQ (uF g 1) rfl rfl (zG 0 (iv a.n) zi3 rfl rfl (zQ (uM e b f) rfl rfl (zQ (pt g) rfl rfl (zQ (pt g) rfl rfl (zG 0 (iv a.p) zi3 rfl rfl (bt F (fun x y F=>zo (iv x) rfl (fun w I=>co 132 [uM e b f,iv a.p] (by kernel_rfl) (L132 _ e f b a.p (m.inv0 I) o q N _ y) uI) (ifE F (fun l F=>?_) (fun l F=>?_))))))))))))
 ·
  refine zo bT rfl (fun w I=>di rfl rfl (fun _=>br) (uO l)) (zB bT bT rfl (zh (fun w I=>aa (aj ?_))))
  cases F
  exact uJ I rfl
 refine zo bF rfl (fun w I=>di rfl rfl (uP l) (fun _=>br)) (zB bF bF rfl (zh (fun w I=>aa (aj ?_))))
 cases F
 exact uJ I rfl
theorem L98 (w0:World) (q:Option Addr) (s:Nat) (f:List Rc) (J:bi w0 q (al eRc f)) (Q:f.length≤9223372036854775807) (R:f.length≤s) (N:Nat) (r:Bool) (F:F98 N f=some r):bn Tryz.prog 98 [uM q f s] w0 fun v w=>v=.bool r∧Below w0.heap.size w0 w:=by
 refine az (n:=21) func98 rfl ntmps98 rfl ?_
 have I:=Inv.start w0
 unfold F98 at F
 refine uL (by rfl) (pu bF (by rfl) (aa (uL (by rfl) (pu uD (by rfl) (aa (ab (uL (by rfl) (pu3 (uM q f s) (iv ((f.length:Nat):Int)) (iv 0) (by kernel_rfl) (aa (au ?_))))))))))
 have I:=I.nilRow 25
 refine cb (fun m ρ w=>∃ (g i x:_) (e:List Rc) (l mm:_),cd ρ [(3,uN g e i),(6,uM q f s),(7,iv (f.length:Int)),(8,iv l)]∧Inv [] w0 w [(g,blk x 25)]∧(Row 8 g (e.length) i x (al eRc e))∧F98l1 f N mm e l=some r∧mm=m) (m:=N) ⟨none,0,[],[],0,N,(uK rfl),I.pk [0] rfl,(Row.nil_ 8),F,rfl⟩ ?_
 rintro m ρ w ⟨g,i,x,e,l,mm,hag,I,o,F,hm⟩
 subst hm; obtain ⟨ρ,rfl⟩:=hag.form
 obtain _ | m1:=mm
 ·cases (show (none:Option Bool)=some r from F)
 replace F:F98b1 f N (F98l1 f N m1) e l=some r:=F; unfold F98b1 at F
 refine uL (by rfl) (ifN F (fun y F=>?_) (fun y F=>?_))
 ·
  refine xl rfl (uP y) (fun _=>aa (ab (ai rfl (bw (uL (by rfl) (pu bT (by rfl) (aa (aj ?_))))))))
  cases F
  exact uJ I rfl


 refine xl rfl (fun _=>?_) (uO y)
 refine aa (ab (ah rfl (ak (ab (au (uL (by rfl) (gdE F (fun K F=>bt F (fun a E F=>?_)))))))))
 obtain ⟨S,T,L,M,O⟩:=J.at_ bx (by decide) E
 refine ph (cn (l).toNat nt md rfl L rfl (Int.toNat_of_nonneg K).symm (fa E rfl) (ph (ef I (qg a) mh md rfl rfl M (by simp) O (ph (bh I _ zeroValue25 rfl fun U w I=>xi I 0 _ md rfl fun w I=>aa (ab (uL (by rfl) (pu (uN g e i) (by rfl) (xm I 0 mh md rfl (bt F (fun V G F=>ifN F (fun A F=>?_) (fun A F=>?_))))))))))))
 ·
  refine ph (bg I 116 _ _ (by kernel_rfl) (bn.mono (L116 _ (uG g) i e a (I.rowCells 1 rfl o) (am rfl o.big) (am rfl o.cap) N _ G) (uH (Bool.eq_false_iff.2 A))) fun w I=>pu bT (by kernel_rfl) (aa (ah rfl (uL (by kernel_rfl) (pu bF (by kernel_rfl) (aa (aj ?_)))))))
  cases F
  exact uJ I rfl
 refine ph (bg I 116 _ _ (by kernel_rfl) (bn.mono (L116 _ (uG g) i e a (I.rowCells 1 rfl o) (am rfl o.big) (am rfl o.cap) N _ G) (uH A)) fun w I=>pu bF (by kernel_rfl) (aa (ai rfl (ak (rgn (by kernel_rfl) (pu (uN g e i) (by kernel_rfl) (xm I 0 mh md rfl (ph (fu I (qg a) 25 (fun b=>slv (some b) 1 1) (by kernel_rfl) fun W w I=>gdE F (fun X F=>ph (xk I xf 2 o (⟨a.p,a.n,a.k,a.d,a.kn,a.op,a.on,a.t⟩:Rc) 0 rfl (by omega) ?_)))))))))))
 intro B C H w I D
 refine pu (slv B ((e++[(⟨a.p,a.n,a.k,a.d,a.kn,a.op,a.on,a.t⟩:Rc)]).length) C) (by rfl) (aa (rgn (by rfl) (ckE F (fun P F=>xa rfl P (pu (iv (l+1)) (by rfl) (aa (⟨rfl,m1,Nat.lt_succ_self _,⟨B,C,H,e++[(⟨a.p,a.n,a.k,a.d,a.kn,a.op,a.on,a.t⟩:Rc)],l+1,m1,(uK rfl),I.pk [2] rfl,(D.to rfl rfl),F,rfl⟩⟩)))))))
theorem L105 (w0:World) (i:Option Addr) (j:Nat) (f:List Rc) (e:It) (u:bi w0 i (al eRc f)) (D:f.length≤9223372036854775807) (E:f.length≤j) (N:Nat) (r:Int) (F:F105 N f e=some r):bn Tryz.prog 105 [uM i f j,.agg #[iv e.p,iv e.n]] w0 fun v w=>v=iv r∧Below w0.heap.size w0 w:=by
 refine az (n:=20) func105 rfl ntmps105 rfl ?_
 have I:=Inv.start w0
 unfold F105 at F
 refine uL rfl (ph (ca I _ rfl fun q w I=>pu (iv 0) rfl (aa (ab (uL rfl (pu3 (uM i f j) (iv ((f.length:Nat):Int)) (iv 0) (by kernel_rfl) (aa (au (cb (fun m ρ w=>∃ g mm,cd ρ [(3,pt q),(7,uM i f j),(8,iv (f.length:Int)),(9,iv g)]∧Inv [] w0 w [(some q,blk [iv e.p,iv e.n] 23)]∧F105l1 f e mm g=some r∧mm=m) (m:=N) ⟨0,N,(uK rfl),I.pk [0] rfl,F,rfl⟩ ?_)))))))))
 rintro m ρ w ⟨g,mm,hag,I,F,hm⟩
 subst hm; obtain ⟨ρ,rfl⟩:=hag.form
 obtain _ | m1:=mm
 ·cases (show (none:Option Int)=some r from F)
 replace F:F105b1 f e (F105l1 f e m1) g=some r:=F; unfold F105b1 at F
 refine uL rfl (ifN F (fun l F=>?_) (fun l F=>?_))
 ·
  refine xl rfl (uP l) (fun _=>aa (ab (ai rfl (bw (uL rfl (pu (iv (-1)) rfl (aa (aj ?_))))))))
  cases F
  exact uJ I rfl


 refine xl rfl (fun _=>?_) (uO l)
 refine aa (ab (ah rfl (ak (ab (au (uL rfl (pu (iv g) rfl (gdE F (fun x F=>bt F (fun a s F=>?_))))))))))
 obtain ⟨G,H,y,z,A⟩:=u.at_ bx (by decide) s
 refine ph (cn (g).toNat nt md rfl y rfl (Int.toNat_of_nonneg x).symm (fa s rfl) (ph (ef I (qg a) mh md rfl rfl z (by simp) A (ph (bh I _ zeroValue25 rfl fun B w I=>pu (iv g) rfl (xi I 0 _ md rfl fun w I=>aa (uL rfl (pu (pt B) rfl (xr I 0 2 [iv a.p,iv a.n] zi23 zs23 rfl (xm I 1 zi23 zs23 rfl (ifE F (fun o F=>?_) (fun o F=>?_))))))))))))
 ·
  refine ph (kz (b:=decide (a.p=e.p) && decide (a.n=e.n)) rfl rfl (by kernel_rfl) (fun w=>eq23 _ a.p a.n e.p e.n w) (fun _=>?_) (uO o))
  refine aa (ah rfl (uL rfl (pu2 (iv g) (iv g) rfl (aa (aj ?_)))))
  cases F
  exact uJ I rfl
 refine ph (kz (b:=decide (a.p=e.p) && decide (a.n=e.n)) rfl rfl (by kernel_rfl) (fun w=>eq23 _ a.p a.n e.p e.n w) (uP o) (fun _=>aa (ai rfl (ak (rgn rfl (ckE F (fun C F=>xa rfl C (pu (iv (g+1)) rfl (aa (⟨rfl,m1,Nat.lt_succ_self _,⟨g+1,m1,(uK rfl),I.pk [1] rfl,F,rfl⟩⟩))))))))))
theorem L103 (w0:World) (g:Option Addr) (i:Nat) (f:List Rc) (a:Rc) (q:bi w0 g (al eRc f)) (A:f.length≤9223372036854775807) (B:f.length≤i) (N:Nat) (r:(Bool × Int)) (F:F103 N f a=some r):bn Tryz.prog 103 [uM g f i,.agg (qg a).toArray] w0 fun v w=>v=.tuple #[.bool r.1,iv r.2]∧Below w0.heap.size w0 w:=by
 refine az (n:=41) func103 rfl ntmps103 rfl ?_
 have I:=Inv.start w0
 unfold F103 at F
 refine uL (by kernel_rfl) (ph (ca I _ rfl fun l w I=>pu2 bF (iv 0) (by kernel_rfl) (aa (ab (uL (by kernel_rfl) (xm I 0 mh md rfl (bt F (fun m D F=>ph (bg I 18 _ _ (by kernel_rfl) (L18 _ a N _ D) fun w I=>pu (iv m) (by kernel_rfl) (aa (uL (by kernel_rfl) (pu (iv m) (by kernel_rfl) (ifN F (fun s F=>?_) (fun s F=>?_))))))))))))))
 ·
  refine xn rfl (fun _=>?_) (uP s)
  refine aa (ah rfl (uL rfl (pu3 (iv m) bF (iv m) (by kernel_rfl) (aa (aj ?_)))))
  cases F
  exact ⟨_,Ret.r2 rfl rfl rfl,⟨rfl,I.below⟩⟩


 refine xn rfl (uO s) (fun _=>aa (ai rfl (ak (uL (by kernel_rfl) (pu2 (uM g f i) (pt l) (by kernel_rfl) (xr I 0 2 [iv a.p,iv a.n] zi23 zs23 rfl (bt F (fun j E F=>ph (bg I 105 _ _ (by kernel_rfl) (L105 _ g i f (⟨a.p,a.n⟩:It) (q.inv0 I) A B N _ E) fun w I=>pu (iv j) (by kernel_rfl) (aa (ab (dn (fun ρ w=>cd ρ [(0,uM g f i),(3,pt l),(7,iv j),(26,bF)]∧Inv [] w0 w [(some l,blk (qg a) 25)]∧F103j1 f a N j=some r) ?_ ?_))))))))))))
 ·
  refine gm 10 I (by kernel_rfl) (zP (iv j) rfl (ifN F (fun o F=>?_) (fun o F=>?_)))
  ·
   refine zc bF (fun w I=>s_geq rfl rfl (uP o) (fun _=>br)) (zP bF rfl (zf 6 rfl (zP bF rfl (zh (fun w I=>aa (.inl ⟨rfl,⟨(uK rfl),I.pk [0] rfl,F⟩⟩))))))
  refine zc bT (fun w I=>s_geq rfl rfl (fun _=>br) (uO o)) (zP bT rfl (zQ (uM g f i) rfl rfl (zQ (iv j) rfl rfl (bt F (fun e C F=>?_)))))
  obtain ⟨G,H,J,K,L⟩:=q.at_ bx (by decide) C
  refine zo (uF G (H+(j).toNat * 8)) rfl (fun w I=>cn (j).toNat nt md rfl J rfl (Int.toNat_of_nonneg o).symm (fa C rfl) br) (zo (.agg (qg e).toArray) rfl (fun w I=>ef I (qg e) mh md rfl rfl K (by simp) L br) (zo (.agg (qg a).toArray) rfl (fun w I=>ma I 0 mh md rfl rfl rfl br) (ifE F (fun u F=>?_) (fun u F=>?_))))
  ·
   refine zo bF rfl (fun w I=>lg (b:=decide (e.p=a.p) && decide (e.n=a.n) && decide (e.k=a.k) && decide (e.d=a.d) && decide (e.kn=a.kn) && decide (e.op=a.op) && decide (e.on=a.on) && decide (e.t=a.t)) rfl rfl (by kernel_rfl) (fun w=>eq25 _ e.p e.n e.k e.d e.kn e.op e.on e.t a.p a.n a.k a.d a.kn a.op a.on a.t w) (uO u) (fun _=>br)) (zP bF rfl (zh (fun w I=>aa (.inl ⟨rfl,⟨(uK rfl),I.pk [0] rfl,F⟩⟩))))
  refine zo bT rfl (fun w I=>lg (b:=decide (e.p=a.p) && decide (e.n=a.n) && decide (e.k=a.k) && decide (e.d=a.d) && decide (e.kn=a.kn) && decide (e.op=a.op) && decide (e.on=a.on) && decide (e.t=a.t)) rfl rfl (by kernel_rfl) (fun w=>eq25 _ e.p e.n e.k e.d e.kn e.op e.on e.t a.p a.n a.k a.d a.kn a.op a.on a.t w) (fun _=>br) (uP u)) (zP bT rfl (zh (fun w I=>aa (.inr (ah rfl (uL rfl (pu2 bF (iv 82) rfl (aa (aj ?_)))))))))
  cases F
  exact ⟨_,Ret.r2 rfl rfl rfl,⟨rfl,I.below⟩⟩
 intro ρ w hJ
 obtain ⟨hag,I,F⟩:=hJ
 obtain ⟨ρ,rfl⟩:=hag.form
 unfold F103j1 at F
 refine ai rfl (ak (ab (uL rfl (pu (iv j) rfl (ifE F (fun x F=>?_) (fun x F=>?_))))))
 ·
  refine ph (s_geq rfl rfl (fun _=>?_) (uO x))
  refine aa (ah rfl (uL rfl (pu2 bT (iv 0) rfl (aa (aj ?_)))))
  cases F
  exact ⟨_,Ret.r2 rfl rfl rfl,⟨rfl,I.below⟩⟩
 refine ph (s_geq rfl rfl (uP x) (fun _=>aa (ai rfl (ak (ab (ab (gm 9 I (by kernel_rfl) (zB (pt l) (uF l 1) rfl (zg 0 (iv a.n) zi3 rfl (zB (uM g f i) (pt l) rfl (zP (pt l) rfl (zg 0 (iv a.p) zi3 rfl (bt F (fun M O F=>zc (iv M) (fun w I=>co 132 [uM g f i,iv a.p] (by kernel_rfl) (L132 _ g i f a.p (q.inv0 I) A B N _ O) uI) (ifE F (fun y F=>?_) (fun y F=>?_))))))))))))))))
 ·
  refine zc bT (fun w I=>fh rfl rfl (fun _=>br) (uO y)) (zh (fun w I=>aa (ah rfl (uL rfl (pu2 bF (iv 83) rfl (aa (aj ?_)))))))
  cases F
  exact ⟨_,Ret.r2 rfl rfl rfl,⟨rfl,I.below⟩⟩
 refine zc bF (fun w I=>fh rfl rfl (uP y) (fun _=>br)) (zh (fun w I=>aa (ai rfl (ak (ab (uL rfl (pu2 (uM g f i) (iv ((f.length:Nat):Int)) (by kernel_rfl) (ifE F (fun z F=>?_) (fun z F=>?_)))))))))
 ·
  refine xe rfl (fun _=>?_) (uO z)
  refine aa (ah rfl (uL rfl (pu2 bF (iv 2) rfl (aa (aj ?_)))))
  cases F
  exact ⟨_,Ret.r2 rfl rfl rfl,⟨rfl,I.below⟩⟩
 refine xe rfl (uP z) (fun _=>aa (ai rfl (ak (uL rfl (pu2 bF (iv 0) rfl (aa (aj ?_)))))))
 cases F
 exact ⟨_,Ret.r2 rfl rfl rfl,⟨rfl,I.below⟩⟩
theorem L35 (w0:World) (j:Option Addr) (l:Nat) (f:List Rc) (o:Option Addr) (q:Nat) (i:List Rc) (B:bi w0 j (al eRc f)) (R:f.length≤9223372036854775807) (S:f.length≤l) (C:bi w0 o (al eRc i)) (T:i.length≤9223372036854775807) (U:i.length≤q) (N:Nat) (r:Bool) (F:F35 N f i=some r):bn Tryz.prog 35 [uM j f l,uM o i q] w0 fun v w=>v=.bool r∧Below w0.heap.size w0 w:=by
 refine az (n:=26) func35 rfl ntmps35 rfl ?_
 have I:=Inv.start w0
 unfold F35 at F
 refine uL rfl (pu bF rfl (aa (ab (uL rfl (pu3 (uM j f l) (iv ((f.length:Nat):Int)) (uM o i q) (by kernel_rfl) (pu (iv ((i.length:Nat):Int)) (by kernel_rfl) (ifN F (fun s F=>?_) (fun s F=>?_))))))))
 ·
  refine xn rfl (fun _=>?_) (uP s)
  refine aa (ah rfl (uL rfl (pu bF rfl (aa (aj ?_)))))
  cases F
  exact uJ I rfl


 refine xn rfl (uO s) (fun _=>aa (ai rfl (ak (ab (uL rfl (pu3 (uM j f l) (iv ((f.length:Nat):Int)) (iv 0) (by kernel_rfl) (aa (au (cb (fun m ρ w=>∃ g mm,cd ρ [(0,uM j f l),(1,uM o i q),(12,iv (f.length:Int)),(13,iv g)]∧Inv [] w0 w []∧F35l1 f i mm g=some r∧mm=m) (m:=N) ⟨0,N,(uK rfl),I.pk [] rfl,F,rfl⟩ ?_)))))))))
 rintro m ρ w ⟨g,mm,hag,I,F,hm⟩
 subst hm; obtain ⟨ρ,rfl⟩:=hag.form
 obtain _ | m1:=mm
 ·cases (show (none:Option Bool)=some r from F)
 replace F:F35b1 f i (F35l1 f i m1) g=some r:=F; unfold F35b1 at F
 refine uL rfl (ifN F (fun u F=>?_) (fun u F=>?_))
 ·
  refine xl rfl (uP u) (fun _=>aa (ab (ai rfl (bw (uL rfl (pu bT rfl (aa (aj ?_))))))))
  cases F
  exact uJ I rfl
 refine xl rfl (fun _=>?_) (uO u)
 refine aa (ab (ah rfl (ak (ab (au (uL rfl (pu2 (iv g) (iv g) rfl (aa (ab (gm 9 I (by kernel_rfl) (zB (uM j f l) (iv g) rfl (gdE F (fun y F=>bt F (fun a z F=>?_))))))))))))))
 obtain ⟨D,E,G,H,J⟩:=B.at_ bx (by decide) z
 refine zc (uF D (E+(g).toNat * 8)) (fun w I=>cn (g).toNat nt md rfl G rfl (Int.toNat_of_nonneg y).symm (fa z rfl) br) (zc (.agg (qg a).toArray) (fun w I=>ef I (qg a) mh md rfl rfl H (by simp) J br) (zB (uM o i q) (iv g) rfl (bt F (fun e A F=>?_))))
 obtain ⟨K,L,M,O,P⟩:=C.at_ bx (by decide) A
 refine zc (uF K (L+(g).toNat * 8)) (fun w I=>cn (g).toNat nt md rfl M rfl (Int.toNat_of_nonneg y).symm (fa A rfl) br) (zc (.agg (qg e).toArray) (fun w I=>ef I (qg e) mh md rfl rfl O (by simp) P br) (ifN F (fun x F=>?_) (fun x F=>?_)))
 ·
  refine zc bT (fun w I=>lg (b:=decide (a.p=e.p) && decide (a.n=e.n) && decide (a.k=e.k) && decide (a.d=e.d) && decide (a.kn=e.kn) && decide (a.op=e.op) && decide (a.on=e.on) && decide (a.t=e.t)) rfl rfl (by kernel_rfl) (fun w=>eq25 _ a.p a.n a.k a.d a.kn a.op a.on a.t e.p e.n e.k e.d e.kn e.op e.on e.t w) (fun _=>br) (uP x)) (zh (fun w I=>aa (ah rfl (uL rfl (pu bF rfl (aa (aj ?_)))))))
  cases F
  exact uJ I rfl
 refine zc bF (fun w I=>lg (b:=decide (a.p=e.p) && decide (a.n=e.n) && decide (a.k=e.k) && decide (a.d=e.d) && decide (a.kn=e.kn) && decide (a.op=e.op) && decide (a.on=e.on) && decide (a.t=e.t)) rfl rfl (by kernel_rfl) (fun w=>eq25 _ a.p a.n a.k a.d a.kn a.op a.on a.t e.p e.n e.k e.d e.kn e.op e.on e.t w) (uO x) (fun _=>br)) (zh (fun w I=>aa (ai rfl (ak (rgn rfl (ckE F (fun Q F=>xa rfl Q (pu (iv (g+1)) rfl (aa (⟨rfl,m1,Nat.lt_succ_self _,⟨g+1,m1,(uK rfl),I.pk [] rfl,F,rfl⟩⟩))))))))))
set_option maxHeartbeats 8000000 in
theorem L117 (w0:World) (P:Option Addr) (Q:Nat) (A:List Rc) (aX:bi w0 P (al eRc A)) (bB:A.length≤9223372036854775807) (bC:A.length≤Q) (N:Nat) (r:(List Sp3 × List Sp3 × List Sp3 × Int × Int × Int)) (F:F117 N A=some r):bn Tryz.prog 117 [uM P A Q] w0 fun v w=>∃ z0 z1 z2 z3 z4 z5 z6 z7 z8,v=.agg #[uN z0 r.1 z1,uN z3 r.2.1 z4,uN z6 r.2.2.1 z7,iv r.2.2.2.1,iv r.2.2.2.2.1,iv r.2.2.2.2.2]∧Inv [] w0 w [(z0,blk z2 35),(z3,blk z5 35),(z6,blk z8 35)]∧Row 3 z0 r.1.length z1 z2 (al bb r.1)∧Row 3 z3 r.2.1.length z4 z5 (al bb r.2.1)∧Row 3 z6 r.2.2.1.length z7 z8 (al bb r.2.2.1):=by
 refine az (n:=44) func117 rfl ntmps117 rfl ?_
 have I:=Inv.start w0
 unfold F117 at F
 refine uL rfl (ph (bh I _ zeroValue63 rfl fun L w I=>aa (uL rfl (ph (bh I _ zeroValue63 rfl fun l w I=>aa (ab (uL rfl (pu3 (uM P A Q) (iv ((A.length:Nat):Int)) (iv 0) (by kernel_rfl) (aa (au ?_))))))))))
 have I:=I.nilRow 35
 have I:=I.nilRow 35
 have I:=I.nilRow 35
 refine cb (fun m ρ w=>∃ (K M a2 D H V B C S:_) (q:List Sp3) (s:List Sp3) (x:List Sp3) (f mm:_),cd ρ [(2,pt L),(3,pt l),(8,uM P A Q),(9,iv (A.length:Int)),(10,iv f)]∧Inv [] w0 w [(some L,blk [uD,uD,uD,iv 0,iv 0,iv 0] 63),(some l,blk [uN K q M,uN D s H,uN B x C,iv f,iv f,iv f] 63),(K,blk a2 35),(D,blk V 35),(B,blk S 35)]∧(Row 3 K (q.length) M a2 (al bb q))∧(Row 3 D (s.length) H V (al bb s))∧(Row 3 B (x.length) C S (al bb x))∧F117l1 A N mm q s x f=some r∧mm=m) (m:=N) ⟨none,0,[],none,0,[],none,0,[],[],[],[],0,N,(uK rfl),I.pk [4,3,0,1,2] rfl,(Row.nil_ 3),(Row.nil_ 3),(Row.nil_ 3),F,rfl⟩ ?_
 rintro m ρ w ⟨K,M,a2,D,H,V,B,C,S,q,s,x,f,mm,hag,I,aP,aQ,aR,F,hm⟩
 subst hm; obtain ⟨ρ,rfl⟩:=hag.form
 obtain _ | m1:=mm
 ·cases (show (none:Option (List Sp3 × List Sp3 × List Sp3 × Int × Int × Int))=some r from F)
 replace F:F117b1 A N (F117l1 A N m1) q s x f=some r:=F; unfold F117b1 at F
 refine uL rfl (ifN F (fun aK F=>?_) (fun aK F=>?_))
 ·
  refine xl rfl (uP aK) (fun _=>aa (ab (ai rfl (bw (uL rfl (xm I 1 mt mi rfl (xi I 0 _ mi rfl fun w I=>aa (aj ?_))))))))
  cases F
  exact ⟨_,Ret.c rfl rfl (ce I 0 6 [uN K q M,uN D s H,uN B x C,iv f,iv f,iv f] mt mi rfl rfl rfl),⟨K,M,a2,D,H,V,B,C,S,rfl,I.pk [2,3,4] rfl,aP.to rfl rfl,aQ.to rfl rfl,aR.to rfl rfl⟩⟩


 refine xl rfl (fun _=>?_) (uO aK)
 refine aa (ab (ah rfl (ak (dn (fun ρ w=>∃ (a3 aA aB a4 aC aD a5 aE aF:_) (W:List Sp3) (Y:List Sp3) (Z:List Sp3),cd ρ [(2,pt L),(3,pt l),(8,uM P A Q),(9,iv (A.length:Int)),(10,iv f)]∧Inv [] w0 w [(some L,blk [uD,uD,uD,iv 0,iv 0,iv 0] 63),(some l,blk [uN a3 W aA,uN a4 Y aC,uN a5 Z aE,iv (f+1),iv (f+1),iv (f+1)] 63),(a3,blk aB 35),(a4,blk aD 35),(a5,blk aF 35)]∧(Row 3 a3 (W.length) aA aB (al bb W))∧(Row 3 a4 (Y.length) aC aD (al bb Y))∧(Row 3 a5 (Z.length) aE aF (al bb Z))∧F117j2 (F117l1 A N m1) f W Y Z=some r) ?_ ?_))))
 ·
  refine au (uL rfl (pu (iv f) rfl (gdE F (fun aY F=>bt F (fun o aS F=>?_)))))
  obtain ⟨bD,bE,aZ,b0,b1⟩:=aX.at_ bx (by decide) aS
  refine ph (cn (f).toNat nt md rfl aZ rfl (Int.toNat_of_nonneg aY).symm (fa aS rfl) (ph (ef I (qg o) mh md rfl rfl b0 (by simp) b1 (ph (bh I _ zeroValue25 rfl fun aL w I=>pu (iv f) (by kernel_rfl) (xi I 0 _ md rfl fun w I=>aa (uL (by kernel_rfl) (xm I 0 mh md rfl (pu (iv f) (by kernel_rfl) (bt F (fun T b2 F=>ph (co 89 _ (by kernel_rfl) (L89 _ o f N _ b2) ?_))))))))))))
  rintro v w ⟨b3,U,a0,rfl,hN,aM⟩
  have I:=I.join hN; clear hN
  refine pu (uN b3 T U) rfl (aa (uL rfl (pu (iv 0) rfl (aa (au (jx 4 (lh (ab (uL rfl (pu (iv 0) rfl (xl rfl (fun _=>?_) (fun h=>absurd (by decide) h))))))))))))
  refine aa (ah rfl (ak (ab (au (ab (bt F (fun a aT F=>gdE F (fun bG F=>?_))))))))
  obtain ⟨E,rfl,b4⟩:=aM.at_ bk (by decide) aT
  refine kx [tv (fun _=>(iv 0)),tv (fun _=>(iv 0)),tv (fun _=>(pt l)),tv (fun _=>(pt l)),tr (fun _=>(uN K q M)) [17],tv (fun _=>(uN (some E) T U)),tv (fun _=>(iv 0)),tr (fun _=>(uF E (0 * 3))) [],tr (fun _=>(.agg (qh a).toArray)) [14],⟨fun y=>(.slice (some ⟨(y 9).b,0,none⟩) 1 1),fun y=>[(some (y 9).b,blk (qh a) 35)],fun _=>True,[],[]⟩,⟨fun y=>(slv ((y 10).g 0) ((q++[(⟨a.no,a.sz,a.t⟩:Sp3)]).length) ((y 10).c 0)),fun y=>[(((y 10).g 0),blk ((y 10).cl 0) 35)],fun y=>(Row 3 ((y 10).g 0) ((q++[(⟨a.no,a.sz,a.t⟩:Sp3)]).length) ((y 10).c 0) ((y 10).cl 0) (al bb (q++[(⟨a.no,a.sz,a.t⟩:Sp3)]))),[18],[9]⟩,tv (fun _=>(pt l)),tv (fun _=>(pt l)),tst (fun y=>[(some l,blk [slv ((y 10).g 0) ((q++[(⟨a.no,a.sz,a.t⟩:Sp3)]).length) ((y 10).c 0),uN D s H,uN B x C,iv f,iv f,iv f] 63)]) 17] (fun _=>[(2,pt L),(3,pt l),(6,uN (some E) T U),(7,iv 0),(8,uM P A Q),(9,iv (A.length:Int)),(10,iv f)]) (fun y=>[(some (y 9).b,blk (qh a) 35),(((y 10).g 0),blk ((y 10).cl 0) 35),(some l,blk [slv ((y 10).g 0) ((q++[(⟨a.no,a.sz,a.t⟩:Sp3)]).length) ((y 10).c 0),uN D s H,uN B x C,iv f,iv f,iv f] 63),(some E,blk a0 35),(some aL,blk (qg o) 25),(some L,blk [uD,uD,uD,iv 0,iv 0,iv 0] 63),(D,blk V 35),(B,blk S 35)]) I (by kernel_rfl) (fun y=>⟨rfl,rfl⟩) (fun y=>?_) ?_
  ·
   refine tt rfl rfl (tt rfl rfl (tt rfl rfl (tt rfl rfl (tl1 [(some l,blk [uN K q M,uN D s H,uN B x C,iv f,iv f,iv f] 63)] rfl rfl (fun X w I=>ag I 0 (uN K q M) mq rfl rfl rfl br) (tt rfl rfl (tt rfl rfl (tl0 rfl (fun X w I=>be 0 mj mc rfl rfl rfl (fa aT rfl) br) (tl1 [(some E,blk a0 35)] rfl rfl (fun X w I=>cq I 0 (qh a) me mc rfl rfl rfl b4 br) (tg (.slice (some ⟨(y 9).b,0,none⟩) 1 1) [] [] rfl ⟨rfl,rfl,rfl⟩ ?_ ?_)))))))))
   ·intro hp X w I
    refine fu I (qh a) 35 (fun b=>slv (some b) 1 1) (by kernel_rfl) fun aG w I=>⟨wit aG [] [] [] [],rfl,trivial,I.castL rfl⟩
   refine tg (slv ((y 10).g 0) ((q++[(⟨a.no,a.sz,a.t⟩:Sp3)]).length) ((y 10).c 0)) [(K,blk a2 35),(some (y 9).b,blk (qh a) 35)] [(some (y 9).b,blk (qh a) 35)] rfl ⟨rfl,rfl,rfl⟩ ?_ ?_
   ·intro hp X w I
    refine xk I xd 0 aP (⟨a.no,a.sz,a.t⟩:Sp3) 1 rfl (by omega) ?_
    intro G J a1 w I a6
    exact ⟨wit 0 [G] [J] [a1] [],rfl,Eq.mp rfl a6,I.castL rfl⟩
   refine tt rfl rfl (tt rfl rfl (tS [(some l,blk [uN K q M,uN D s H,uN B x C,iv f,iv f,iv f] 63)] rfl ⟨rfl,rfl⟩ (fun X w I=>aq I 0 1 [slv ((y 10).g 0) ((q++[(⟨a.no,a.sz,a.t⟩:Sp3)]).length) ((y 10).c 0)] mw rfl rfl rfl rfl rfl (mx rfl) fun w I=>⟨rfl,I.castL rfl⟩) (tn)))
  intro y hp ρ w hag I
  have a6:Row 3 ((y 10).g 0) ((q++[(⟨a.no,a.sz,a.t⟩:Sp3)]).length) ((y 10).c 0) ((y 10).cl 0) (al bb (q++[(⟨a.no,a.sz,a.t⟩:Sp3)])):=pgl hp (k:=10) (by decide) rfl
  clear hp
  generalize (y 9).b=aG at *
  generalize (y 10).g 0=G at *
  generalize (y 10).c 0=J at *
  generalize (y 10).cl 0=a1 at *
  obtain ⟨ρ,rfl⟩:=hag.form
  refine rgn rfl (pu3 (iv 0) (uF l 3) (uF l 3) (by kernel_rfl) (xg I 2 (iv f) zi3 rfl (ckE F (fun aN F=>xa rfl aN (pu2 (uF l 3) (uF l 3) rfl (xq I 2 1 [iv (f+1)] zs3 rfl (mx rfl) fun w I=>aa (rgn rfl (pu3 (iv 0) (iv 1) (iv 1) (by kernel_rfl) (aa (⟨rfl,lh ?_⟩))))))))))
  refine ab (uL rfl (pu (iv 1) rfl (xl rfl (fun _=>?_) (fun h=>absurd (by decide) h))))
  refine aa (ah rfl (ak (ab (au (ab (bt F (fun e aU F=>gdE F (fun bH F=>?_))))))))
  have b5:=aM.atS bk (by decide) aU
  refine kx [tv (fun _=>(iv 1)),tv (fun _=>(iv 1)),tv (fun _=>(pt l)),tv (fun _=>(uF l 1)),tr (fun _=>(uN D s H)) [16],tv (fun _=>(uN (some E) T U)),tv (fun _=>(iv 1)),tr (fun _=>(uF E (1 * 3))) [],tr (fun _=>(.agg (qh e).toArray)) [17],⟨fun y=>(.slice (some ⟨(y 9).b,0,none⟩) 1 1),fun y=>[(some (y 9).b,blk (qh e) 35)],fun _=>True,[],[]⟩,⟨fun y=>(slv ((y 10).g 0) ((s++[(⟨e.no,e.sz,e.t⟩:Sp3)]).length) ((y 10).c 0)),fun y=>[(((y 10).g 0),blk ((y 10).cl 0) 35)],fun y=>(Row 3 ((y 10).g 0) ((s++[(⟨e.no,e.sz,e.t⟩:Sp3)]).length) ((y 10).c 0) ((y 10).cl 0) (al bb (s++[(⟨e.no,e.sz,e.t⟩:Sp3)]))),[20],[9]⟩,tv (fun _=>(pt l)),tv (fun _=>(uF l 1)),tst (fun y=>[(some l,blk [slv G ((q++[(⟨a.no,a.sz,a.t⟩:Sp3)]).length) J,slv ((y 10).g 0) ((s++[(⟨e.no,e.sz,e.t⟩:Sp3)]).length) ((y 10).c 0),uN B x C,iv (f+1),iv f,iv f] 63)]) 16] (fun _=>[(2,pt L),(3,pt l),(6,uN (some E) T U),(7,iv 1),(8,uM P A Q),(9,iv (A.length:Int)),(10,iv f)]) (fun y=>[(some (y 9).b,blk (qh e) 35),(((y 10).g 0),blk ((y 10).cl 0) 35),(some l,blk [slv G ((q++[(⟨a.no,a.sz,a.t⟩:Sp3)]).length) J,slv ((y 10).g 0) ((s++[(⟨e.no,e.sz,e.t⟩:Sp3)]).length) ((y 10).c 0),uN B x C,iv (f+1),iv f,iv f] 63),(some aG,blk (qh a) 35),(G,blk a1 35),(some E,blk a0 35),(some aL,blk (qg o) 25),(some L,blk [uD,uD,uD,iv 0,iv 0,iv 0] 63),(B,blk S 35)]) I (by kernel_rfl) (fun y=>⟨rfl,rfl⟩) (fun y=>?_) ?_
  ·
   refine tt rfl rfl (tt rfl rfl (tt rfl rfl (tt rfl rfl (tl1 [(some l,blk [slv G ((q++[(⟨a.no,a.sz,a.t⟩:Sp3)]).length) J,uN D s H,uN B x C,iv (f+1),iv f,iv f] 63)] rfl rfl (fun X w I=>ag I 0 (uN D s H) mq rfl rfl rfl br) (tt rfl rfl (tt rfl rfl (tl0 rfl (fun X w I=>be 1 mj mc rfl rfl rfl (fa aU rfl) br) (tl1 [(some E,blk a0 35)] rfl rfl (fun X w I=>cq I 0 (qh e) me mc rfl rfl rfl b5 br) (tg (.slice (some ⟨(y 9).b,0,none⟩) 1 1) [] [] rfl ⟨rfl,rfl,rfl⟩ ?_ ?_)))))))))
   ·intro hp X w I
    refine fu I (qh e) 35 (fun b=>slv (some b) 1 1) (by kernel_rfl) fun aO w I=>⟨wit aO [] [] [] [],rfl,trivial,I.castL rfl⟩
   refine tg (slv ((y 10).g 0) ((s++[(⟨e.no,e.sz,e.t⟩:Sp3)]).length) ((y 10).c 0)) [(D,blk V 35),(some (y 9).b,blk (qh e) 35)] [(some (y 9).b,blk (qh e) 35)] rfl ⟨rfl,rfl,rfl⟩ ?_ ?_
   ·intro hp X w I
    refine xk I xd 0 aQ (⟨e.no,e.sz,e.t⟩:Sp3) 1 rfl (by omega) ?_
    intro O R a7 w I a8
    exact ⟨wit 0 [O] [R] [a7] [],rfl,Eq.mp rfl a8,I.castL rfl⟩
   refine tt rfl rfl (tt rfl rfl (tS [(some l,blk [slv G ((q++[(⟨a.no,a.sz,a.t⟩:Sp3)]).length) J,uN D s H,uN B x C,iv (f+1),iv f,iv f] 63)] rfl ⟨rfl,rfl⟩ (fun X w I=>aq I 0 1 [slv ((y 10).g 0) ((s++[(⟨e.no,e.sz,e.t⟩:Sp3)]).length) ((y 10).c 0)] mw rfl rfl rfl rfl rfl (mx rfl) fun w I=>⟨rfl,I.castL rfl⟩) (tn)))
  intro y hp ρ w hag I
  have a8:Row 3 ((y 10).g 0) ((s++[(⟨e.no,e.sz,e.t⟩:Sp3)]).length) ((y 10).c 0) ((y 10).cl 0) (al bb (s++[(⟨e.no,e.sz,e.t⟩:Sp3)])):=pgl hp (k:=10) (by decide) rfl
  clear hp
  generalize (y 9).b=aO at *
  generalize (y 10).g 0=O at *
  generalize (y 10).c 0=R at *
  generalize (y 10).cl 0=a7 at *
  obtain ⟨ρ,rfl⟩:=hag.form
  refine rgn rfl (pu3 (iv 1) (uF l 3) (uF l 4) (by kernel_rfl) (xg I 2 (iv f) zi3 rfl (xa rfl aN (pu2 (uF l 3) (uF l 4) rfl (xq I 2 1 [iv (f+1)] zs3 rfl (mx rfl) fun w I=>aa (rgn rfl (pu3 (iv 1) (iv 2) (iv 2) (by kernel_rfl) (aa (⟨rfl,lh ?_⟩)))))))))
  refine ab (uL rfl (pu (iv 2) rfl (xl rfl (fun _=>?_) (fun h=>absurd (by decide) h))))
  refine aa (ah rfl (ak (ab (au (ab (bt F (fun i aV F=>gdE F (fun bI F=>?_))))))))
  have b6:=aM.atS bk (by decide) aV
  refine kx [tv (fun _=>(iv 2)),tv (fun _=>(iv 2)),tv (fun _=>(pt l)),tv (fun _=>(uF l 2)),tr (fun _=>(uN B x C)) [16],tv (fun _=>(uN (some E) T U)),tv (fun _=>(iv 2)),tr (fun _=>(uF E (2 * 3))) [],tr (fun _=>(.agg (qh i).toArray)) [19],⟨fun y=>(.slice (some ⟨(y 9).b,0,none⟩) 1 1),fun y=>[(some (y 9).b,blk (qh i) 35)],fun _=>True,[],[]⟩,⟨fun y=>(slv ((y 10).g 0) ((x++[(⟨i.no,i.sz,i.t⟩:Sp3)]).length) ((y 10).c 0)),fun y=>[(((y 10).g 0),blk ((y 10).cl 0) 35)],fun y=>(Row 3 ((y 10).g 0) ((x++[(⟨i.no,i.sz,i.t⟩:Sp3)]).length) ((y 10).c 0) ((y 10).cl 0) (al bb (x++[(⟨i.no,i.sz,i.t⟩:Sp3)]))),[22],[9]⟩,tv (fun _=>(pt l)),tv (fun _=>(uF l 2)),tst (fun y=>[(some l,blk [slv G ((q++[(⟨a.no,a.sz,a.t⟩:Sp3)]).length) J,slv O ((s++[(⟨e.no,e.sz,e.t⟩:Sp3)]).length) R,slv ((y 10).g 0) ((x++[(⟨i.no,i.sz,i.t⟩:Sp3)]).length) ((y 10).c 0),iv (f+1),iv (f+1),iv f] 63)]) 16] (fun _=>[(2,pt L),(3,pt l),(6,uN (some E) T U),(7,iv 2),(8,uM P A Q),(9,iv (A.length:Int)),(10,iv f)]) (fun y=>[(some (y 9).b,blk (qh i) 35),(((y 10).g 0),blk ((y 10).cl 0) 35),(some l,blk [slv G ((q++[(⟨a.no,a.sz,a.t⟩:Sp3)]).length) J,slv O ((s++[(⟨e.no,e.sz,e.t⟩:Sp3)]).length) R,slv ((y 10).g 0) ((x++[(⟨i.no,i.sz,i.t⟩:Sp3)]).length) ((y 10).c 0),iv (f+1),iv (f+1),iv f] 63),(some aO,blk (qh e) 35),(O,blk a7 35),(some aG,blk (qh a) 35),(G,blk a1 35),(some E,blk a0 35),(some aL,blk (qg o) 25),(some L,blk [uD,uD,uD,iv 0,iv 0,iv 0] 63)]) I (by kernel_rfl) (fun y=>⟨rfl,rfl⟩) (fun y=>?_) ?_
  ·
   refine tt rfl rfl (tt rfl rfl (tt rfl rfl (tt rfl rfl (tl1 [(some l,blk [slv G ((q++[(⟨a.no,a.sz,a.t⟩:Sp3)]).length) J,slv O ((s++[(⟨e.no,e.sz,e.t⟩:Sp3)]).length) R,uN B x C,iv (f+1),iv (f+1),iv f] 63)] rfl rfl (fun X w I=>ag I 0 (uN B x C) mq rfl rfl rfl br) (tt rfl rfl (tt rfl rfl (tl0 rfl (fun X w I=>be 2 mj mc rfl rfl rfl (fa aV rfl) br) (tl1 [(some E,blk a0 35)] rfl rfl (fun X w I=>cq I 0 (qh i) me mc rfl rfl rfl b6 br) (tg (.slice (some ⟨(y 9).b,0,none⟩) 1 1) [] [] rfl ⟨rfl,rfl,rfl⟩ ?_ ?_)))))))))
   ·intro hp X w I
    refine fu I (qh i) 35 (fun b=>slv (some b) 1 1) (by kernel_rfl) fun aW w I=>⟨wit aW [] [] [] [],rfl,trivial,I.castL rfl⟩
   refine tg (slv ((y 10).g 0) ((x++[(⟨i.no,i.sz,i.t⟩:Sp3)]).length) ((y 10).c 0)) [(B,blk S 35),(some (y 9).b,blk (qh i) 35)] [(some (y 9).b,blk (qh i) 35)] rfl ⟨rfl,rfl,rfl⟩ ?_ ?_
   ·intro hp X w I
    refine xk I xd 0 aR (⟨i.no,i.sz,i.t⟩:Sp3) 1 rfl (by omega) ?_
    intro aH aI aJ w I a9
    exact ⟨wit 0 [aH] [aI] [aJ] [],rfl,Eq.mp rfl a9,I.castL rfl⟩
   refine tt rfl rfl (tt rfl rfl (tS [(some l,blk [slv G ((q++[(⟨a.no,a.sz,a.t⟩:Sp3)]).length) J,slv O ((s++[(⟨e.no,e.sz,e.t⟩:Sp3)]).length) R,uN B x C,iv (f+1),iv (f+1),iv f] 63)] rfl ⟨rfl,rfl⟩ (fun X w I=>aq I 0 1 [slv ((y 10).g 0) ((x++[(⟨i.no,i.sz,i.t⟩:Sp3)]).length) ((y 10).c 0)] mw rfl rfl rfl rfl rfl (mx rfl) fun w I=>⟨rfl,I.castL rfl⟩) (tn)))
  intro y hp ρ w hag I
  have a9:Row 3 ((y 10).g 0) ((x++[(⟨i.no,i.sz,i.t⟩:Sp3)]).length) ((y 10).c 0) ((y 10).cl 0) (al bb (x++[(⟨i.no,i.sz,i.t⟩:Sp3)])):=pgl hp (k:=10) (by decide) rfl
  clear hp
  generalize (y 9).b=aW at *
  generalize (y 10).g 0=aH at *
  generalize (y 10).c 0=aI at *
  generalize (y 10).cl 0=aJ at *
  obtain ⟨ρ,rfl⟩:=hag.form
  refine rgn rfl (pu3 (iv 2) (uF l 3) (uF l 5) (by kernel_rfl) (xg I 2 (iv f) zi3 rfl (xa rfl aN (pu2 (uF l 3) (uF l 5) rfl (xq I 2 1 [iv (f+1)] zs3 rfl (mx rfl) fun w I=>aa (rgn rfl (pu3 (iv 2) (iv 3) (iv 3) (by kernel_rfl) (aa (⟨rfl,lh ?_⟩)))))))))
  refine ab (uL rfl (pu (iv 3) rfl (xl rfl (fun h=>absurd h (by decide)) (fun _=>aa (ai rfl (bw (.inl ⟨rfl,⟨G,J,a1,O,R,a7,aH,aI,aJ,q++[(⟨a.no,a.sz,a.t⟩:Sp3)],s++[(⟨e.no,e.sz,e.t⟩:Sp3)],x++[(⟨i.no,i.sz,i.t⟩:Sp3)],(uK rfl),I.pk [9,2,6,4,1] rfl,(a6.to rfl rfl),(a8.to rfl rfl),(a9.to rfl rfl),F⟩⟩)))))))
 intro ρ w hJ
 obtain ⟨a3,aA,aB,a4,aC,aD,a5,aE,aF,W,Y,Z,hag,I,b7,b8,b9,F⟩:=hJ
 obtain ⟨ρ,rfl⟩:=hag.form
 unfold F117j2 at F
 refine rgn rfl (ckE F (fun bA F=>xa rfl bA (pu (iv (f+1)) rfl (aa (⟨rfl,m1,Nat.lt_succ_self _,⟨a3,aA,aB,a4,aC,aD,a5,aE,aF,W,Y,Z,f+1,m1,(uK rfl),I.pk [0,1,2,3,4] rfl,(b7.to rfl rfl),(b8.to rfl rfl),(b9.to rfl rfl),F,rfl⟩⟩)))))
end Go.K
