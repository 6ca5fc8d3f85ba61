import Derived.Test.YtcondbkhcjgemaaGreatDoorCWh
namespace Go.K
open Go.Proofs.Tryz
open Go.Proofs Go.RowKit
set_option linter.unusedVariables false
set_option linter.unusedSimpArgs false
set_option maxRecDepth 100000
attribute [local irreducible] Seq cw cx fl opX
theorem L27 (w0:World) (b:Option Addr) (d:Nat) (a:List Rc) (e:bi w0 b (al eRc a)) (f:a.length≤9223372036854775807) (g:a.length≤d) (N:Nat) (r:(List Rc × Int)) (F:F27 N a=some r):bn Tryz.prog 27 [.slice b a.length d] w0 fun v w=>∃ (z0:Option Nat) (z1:Nat) (z2:List Value),v=.tuple #[.agg #[slv z0 r.1.length z1],iv r.2]∧Inv [] w0 w [(z0,blk z2 25)]∧Row 8 z0 r.1.length z1 z2 (al eRc r.1):=by
 refine az (n:=10) func27 rfl ntmps27 rfl ?_
 have I:=Inv.start w0
 unfold F27 at F
 refine ab (rgn (by kernel_rfl) (ac (bh I _ zeroValue47 rfl fun q w I=>pu (iv 0) (by kernel_rfl) (aa (ab (ab (rgn (by kernel_rfl) (pu (.slice b a.length d) (by kernel_rfl) (bt F (fun s i F=>ifN F (fun h8 F=>?_) (fun h8 F=>?_)))))))))))
 ·
  refine ac (bg I 96 _ _ (by kernel_rfl) (bn.mono (L96 _ b d a (e.inv0 I) f g N _ i) (fun v' w' h=>⟨h.1.trans (congrArg Value.bool (Bool.eq_false_iff.2 h8)),h.2⟩)) fun w I=>pu bT (by kernel_rfl) (aa (ah rfl (ab (rgn (by kernel_rfl) (pu (.agg #[.slice none 0 0]) (by kernel_rfl) (ac (mb I 0 _ nm rfl rfl rfl rfl rfl rfl fun w I=>pu (iv 81) (by kernel_rfl) (aa (aj ?_))))))))))
  have I:=I.nilRow 25
  cases F
  exact ⟨_,Ret.ct rfl rfl (ce I 1 1 [.slice none 0 0] zi47 nm rfl rfl rfl) rfl,⟨none,0,[],rfl,I.pk [0] rfl rfl,Row.nil_ 8⟩⟩


 refine ac (bg I 96 _ _ (by kernel_rfl) (bn.mono (L96 _ b d a (e.inv0 I) f g N _ i) (fun v' w' h=>⟨h.1.trans (congrArg Value.bool h8),h.2⟩)) fun w I=>pu bF (by kernel_rfl) (aa (ai rfl (ak (ab (rgn (by kernel_rfl) (pu (.slice b a.length d) (by kernel_rfl) (bt F (fun l m F=>ac (co 97 _ (by kernel_rfl) (L97 _ b d a (e.inv0 I) f g _ m) ?_))))))))))
 rintro v w ⟨j,k,o,rfl,hN,p⟩
 have I:=I.join hN; clear hN
 refine ac (mb I 1 _ nm rfl rfl rfl rfl rfl rfl fun w I=>pu (iv 0) (by kernel_rfl) (aa (aj ?_)))
 cases F
 exact ⟨_,Ret.ct rfl rfl (ce I 1 1 [slv j l.length k] zi47 nm rfl rfl rfl) rfl,⟨j,k,o,rfl,I.pk [0] rfl rfl,p.to rfl rfl⟩⟩
theorem L132 (w0:World) (i:Option Addr) (j:Nat) (a:List Rc) (e:Int) (x:bi w0 i (al eRc a)) (E:a.length≤9223372036854775807) (G:a.length≤j) (N:Nat) (r:Int) (F:F132 N a e=some r):bn Tryz.prog 132 [.slice i a.length j,iv e] w0 fun v w=>v=iv r∧Below w0.heap.size w0 w:=by
 refine az (n:=23) func132 rfl ntmps132 rfl ?_
 have I:=Inv.start w0
 unfold F132 at F
 refine ab (rgn (by kernel_rfl) (pu (iv 0) (by kernel_rfl) (aa (ab (rgn (by kernel_rfl) (pu (iv 0) (by kernel_rfl) (aa (ab (ab (rgn (by kernel_rfl) (pu3 (.slice i a.length j) (iv ((a.length:Nat):Int)) (iv 0) (by kernel_rfl) (aa (au (cb (fun m ρ w=>∃ (b:Int) (f:Int) (mm:Nat),cd ρ [(1,iv e),(5,iv b),(8,.slice i a.length j),(9,iv (a.length:Int)),(10,iv f)]∧Inv [] w0 w []∧F132l1 a e mm b f=some r∧mm=m) (m:=N) ⟨0,0,N,⟨rfl,rfl,rfl,rfl,rfl,trivial⟩,I.pk [] rfl rfl,F,rfl⟩ ?_))))))))))))))
 rintro m ρ w ⟨b,f,mm,hag,I,F,hm⟩
 subst hm; obtain ⟨ρ,rfl⟩:=hag.form; clear hag
 obtain _ | m1:=mm
 ·cases (show (none:Option Int)=some r from F)
 replace F:F132b1 a e (F132l1 a e m1) b f=some r:=F; unfold F132b1 at F
 refine ab (rgn (by kernel_rfl) (ifN F (fun o F=>?_) (fun o F=>?_)))
 ·
  refine ac (cm rfl rfl (fun h=>absurd h o) (fun _=>aa (ab (ai rfl (bw (ab (rgn (by kernel_rfl) (pu2 (iv b) (iv b) (by kernel_rfl) (aa (aj ?_))))))))))
  cases F
  exact ⟨_,Ret.r1 rfl rfl,⟨rfl,I.below⟩⟩


 refine ac (cm rfl rfl (fun _=>?_) (fun h=>absurd o h))
 refine aa (ab (ah rfl (ak (dn (fun ρ w=>∃ (l:Int),cd ρ [(1,iv e),(5,iv l),(8,.slice i a.length j),(9,iv (a.length:Int)),(10,iv f)]∧Inv [] w0 w []∧F132j2 (F132l1 a e m1) f l=some r) ?_ ?_))))
 ·
  refine au (ab (rgn (by kernel_rfl) (gdE F (fun y F=>bt F (fun g s F=>?_)))))
  obtain ⟨H,J,z,A,B⟩:=x.at_ bx (by decide) s
  refine ac (cn (f).toNat nt md rfl z rfl (Int.toNat_of_nonneg y).symm (fa s rfl) (ac (ef I (qg g) mh md rfl rfl A (by simp) B (ac (bh I _ zeroValue25 rfl fun u w I=>ac (mb I 0 _ md rfl rfl rfl rfl rfl rfl fun w I=>aa (ab (rgn (by kernel_rfl) (pu2 (pt u) (pt u) (by kernel_rfl) (ac (ag I 0 (iv g.p) zi3 rfl rfl rfl (pu (iv e) (by kernel_rfl) (ifN F (fun q F=>?_) (fun q F=>?_))))))))))))))
  ·
   refine ac (di rfl rfl (fun h=>absurd h q) (fun _=>aa (ai rfl (ak (.inl ⟨rfl,⟨b,⟨rfl,rfl,rfl,rfl,rfl,trivial⟩,I.pk [] rfl rfl,F⟩⟩)))))
  refine ac (di rfl rfl (fun _=>?_) (fun h=>absurd q h))
  refine aa (ah rfl (rgn (by kernel_rfl) (pu (iv b) (by kernel_rfl) (ckE F (fun C F=>ac (cj rfl rfl C (pu (iv (b+1)) (by kernel_rfl) (aa (.inl ⟨rfl,⟨b+1,⟨rfl,rfl,rfl,rfl,rfl,trivial⟩,I.pk [] rfl rfl,F⟩⟩)))))))))
 intro ρ w hJ
 obtain ⟨l,hag,I,F⟩:=hJ
 obtain ⟨ρ,rfl⟩:=hag.form; clear hag
 unfold F132j2 at F
 refine rgn (by kernel_rfl) (ckE F (fun D F=>ac (cj rfl rfl D (pu (iv (f+1)) (by kernel_rfl) (aa (⟨rfl,m1,Nat.lt_succ_self _,⟨l,f+1,m1,⟨rfl,rfl,rfl,rfl,rfl,trivial⟩,I.pk [] rfl rfl,F,rfl⟩⟩))))))
theorem L116 (w0:World) (e:Option Addr) (f:Nat) (b:List Rc) (a:Rc) (m:bi w0 e (al eRc b)) (o:b.length≤9223372036854775807) (q:b.length≤f) (N:Nat) (r:Bool) (F:F116 N b a=some r):bn Tryz.prog 116 [.slice e b.length f,.agg (qg a).toArray] w0 fun v w=>v=.bool r∧Below w0.heap.size w0 w:=by
 refine az (n:=24) func116 rfl ntmps116 rfl ?_
 have I:=Inv.start w0
 unfold F116 at F
 refine ab (rgn (by kernel_rfl) (ac (ca I _ rfl fun g w I=>pu bF (by kernel_rfl) (aa (ab (gm 20 I (by kernel_rfl) (zp (.slice e b.length f) (fun _=>(by kernel_rfl)) (zc (iv (b.length:Int)) (fun w I=>kl (iv ((b.length:Nat):Int)) (by kernel_rfl) br) (ifN F (fun i F=>?_) (fun i F=>?_))))))))))
 ·
  refine zc bF (fun w I=>cm rfl rfl (fun h=>absurd h i) (fun _=>br)) (zp bF (fun _=>(by kernel_rfl)) (zf 3 (by kernel_rfl) (zp2 bF bF (fun _=>(by kernel_rfl)) (zf 9 (by kernel_rfl) (zp2 bF bF (fun _=>(by kernel_rfl)) (zh (fun w I=>aa (aj ?_))))))))
  cases F
  exact ⟨_,Ret.r1 rfl rfl,⟨rfl,I.below⟩⟩


 refine zc bT (fun w I=>cm rfl rfl (fun _=>br) (fun h=>absurd i h)) (zp bT (fun _=>(by kernel_rfl)) (zo (.agg (qg a).toArray) (by kernel_rfl) (fun w I=>ma I 0 mh md rfl rfl rfl br) (bt F (fun s u F=>zo (iv s) (by kernel_rfl) (fun w I=>co 18 [.agg (qg a).toArray] (by kernel_rfl) (L18 _ a N _ u) (fun v' w' h=>h)) (ifN F (fun j F=>?_) (fun j F=>?_))))))
 ·
  refine zo bF (by kernel_rfl) (fun w I=>di rfl rfl (fun h=>absurd h j) (fun _=>br)) (zp2 bF bF (fun _=>(by kernel_rfl)) (zf 9 (by kernel_rfl) (zp2 bF bF (fun _=>(by kernel_rfl)) (zh (fun w I=>aa (aj ?_))))))
  cases F
  exact ⟨_,Ret.r1 rfl rfl,⟨rfl,I.below⟩⟩
 refine zo bT (by kernel_rfl) (fun w I=>di rfl rfl (fun _=>br) (fun h=>absurd j h)) (zp2 bT bT (fun _=>(by kernel_rfl)) (zq (pt g) (by kernel_rfl) (fun _=>(by kernel_rfl)) (zq (.pointer (some ⟨g,1,none⟩)) (by kernel_rfl) (fun _=>(by kernel_rfl)) (zo (iv a.n) (by kernel_rfl) (fun w I=>ag I 0 (iv a.n) zi3 rfl rfl rfl br) (zq (.slice e b.length f) (by kernel_rfl) (fun _=>(by kernel_rfl)) (zq (pt g) (by kernel_rfl) (fun _=>(by kernel_rfl)) (zq (pt g) (by kernel_rfl) (fun _=>(by kernel_rfl)) (zo (iv a.p) (by kernel_rfl) (fun w I=>ag I 0 (iv a.p) zi3 rfl rfl rfl br) (bt F (fun x y F=>zo (iv x) (by kernel_rfl) (fun w I=>co 132 [.slice e b.length f,iv a.p] (by kernel_rfl) (L132 _ e f b a.p (m.inv0 I) o q N _ y) (fun v' w' h=>h)) (ifE F (fun l F=>?_) (fun l F=>?_))))))))))))
 ·
  refine zo bT (by kernel_rfl) (fun w I=>di rfl rfl (fun _=>br) (fun h=>absurd l h)) (zp2 bT bT (fun _=>(by kernel_rfl)) (zh (fun w I=>aa (aj ?_))))
  cases F
  exact ⟨_,Ret.r1 rfl rfl,⟨rfl,I.below⟩⟩
 refine zo bF (by kernel_rfl) (fun w I=>di rfl rfl (fun h=>absurd h l) (fun _=>br)) (zp2 bF bF (fun _=>(by kernel_rfl)) (zh (fun w I=>aa (aj ?_))))
 cases F
 exact ⟨_,Ret.r1 rfl rfl,⟨rfl,I.below⟩⟩
theorem L98 (w0:World) (q:Option Addr) (s:Nat) (f:List Rc) (J:bi w0 q (al eRc f)) (Q:f.length≤9223372036854775807) (R:f.length≤s) (N:Nat) (r:Bool) (F:F98 N f=some r):bn Tryz.prog 98 [.slice q f.length s] w0 fun v w=>v=.bool r∧Below w0.heap.size w0 w:=by
 refine az (n:=21) func98 rfl ntmps98 rfl ?_
 have I:=Inv.start w0
 unfold F98 at F
 refine ab (rgn (by kernel_rfl) (pu bF (by kernel_rfl) (aa (ab (rgn (by kernel_rfl) (pu (.slice none 0 0) (by kernel_rfl) (aa (ab (ab (rgn (by kernel_rfl) (pu3 (.slice q f.length s) (iv ((f.length:Nat):Int)) (iv 0) (by kernel_rfl) (aa (au ?_)))))))))))))
 have I:=I.nilRow 25
 refine cb (fun m ρ w=>∃ (g:Option Nat) (i:Nat) (x:List Value) (e:List Rc) (l:Int) (mm:Nat),cd ρ [(3,slv g e.length i),(6,.slice q f.length s),(7,iv (f.length:Int)),(8,iv l)]∧Inv [] w0 w [(g,blk x 25)]∧(Row 8 g (e.length) i x (al eRc e))∧F98l1 f N mm e l=some r∧mm=m) (m:=N) ⟨none,0,[],[],0,N,⟨rfl,rfl,rfl,rfl,trivial⟩,I.pk [0] rfl rfl,(Row.nil_ 8),F,rfl⟩ ?_
 rintro m ρ w ⟨g,i,x,e,l,mm,hag,I,o,F,hm⟩
 subst hm; obtain ⟨ρ,rfl⟩:=hag.form; clear hag
 obtain _ | m1:=mm
 ·cases (show (none:Option Bool)=some r from F)
 replace F:F98b1 f N (F98l1 f N m1) e l=some r:=F; unfold F98b1 at F
 refine ab (rgn (by kernel_rfl) (ifN F (fun y F=>?_) (fun y F=>?_)))
 ·
  refine ac (cm rfl rfl (fun h=>absurd h y) (fun _=>aa (ab (ai rfl (bw (ab (rgn (by kernel_rfl) (pu bT (by kernel_rfl) (aa (aj ?_))))))))))
  cases F
  exact ⟨_,Ret.r1 rfl rfl,⟨rfl,I.below⟩⟩


 refine ac (cm rfl rfl (fun _=>?_) (fun h=>absurd y h))
 refine aa (ab (ah rfl (ak (ab (au (ab (rgn (by kernel_rfl) (gdE F (fun K F=>bt F (fun a E F=>?_))))))))))
 obtain ⟨S,T,L,M,O⟩:=J.at_ bx (by decide) E
 refine ac (cn (l).toNat nt md rfl L rfl (Int.toNat_of_nonneg K).symm (fa E rfl) (ac (ef I (qg a) mh md rfl rfl M (by simp) O (ac (bh I _ zeroValue25 rfl fun U w I=>ac (mb I 0 _ md rfl rfl rfl rfl rfl rfl fun w I=>aa (ab (ab (rgn (by kernel_rfl) (pu (slv g e.length i) (by kernel_rfl) (ac (ma I 0 mh md rfl rfl rfl (bt F (fun V G F=>ifN F (fun A F=>?_) (fun A F=>?_)))))))))))))))
 ·
  refine ac (bg I 116 _ _ (by kernel_rfl) (bn.mono (L116 _ (g.map fun b=>⟨b,0,none⟩) i e a (I.rowCells 1 rfl o) (am rfl o.big) (am rfl o.cap) N _ G) (fun v' w' h=>⟨h.1.trans (congrArg Value.bool (Bool.eq_false_iff.2 A)),h.2⟩)) fun w I=>pu bT (by kernel_rfl) (aa (ah rfl (ab (rgn (by kernel_rfl) (pu bF (by kernel_rfl) (aa (aj ?_))))))))
  cases F
  exact ⟨_,Ret.r1 rfl rfl,⟨rfl,I.below⟩⟩
 refine ac (bg I 116 _ _ (by kernel_rfl) (bn.mono (L116 _ (g.map fun b=>⟨b,0,none⟩) i e a (I.rowCells 1 rfl o) (am rfl o.big) (am rfl o.cap) N _ G) (fun v' w' h=>⟨h.1.trans (congrArg Value.bool A),h.2⟩)) fun w I=>pu bF (by kernel_rfl) (aa (ai rfl (ak (rgn (by kernel_rfl) (pu (slv g e.length i) (by kernel_rfl) (ac (ma I 0 mh md rfl rfl rfl (ac (fu I (qg a) 25 (fun b=>slv (some b) 1 1) (by kernel_rfl) fun W w I=>gdE F (fun X F=>ac (ks I nt (z:=.agg #[iv 0,iv 0,iv 0,iv 0,iv 0,iv 0,iv 0,.string (bts [])]) (k:=8) (bytes:=72) (by kernel_rfl) rfl rfl 2 rfl rfl o (qg a) rfl rfl (I.cells 0 (off:=0) rfl (fun j u h=>by rw [Nat.zero_add]; exact h)) (by simp [Value.oneCell']) (by omega) (by omega) (n2:=(e++[(⟨a.p,a.n,a.k,a.d,a.kn,a.op,a.on,a.t⟩:Rc)]).length) (kr rfl rfl) ?_))))))))))))
 intro B C H w I D
 have D:Row 8 B ((e++[(⟨a.p,a.n,a.k,a.d,a.kn,a.op,a.on,a.t⟩:Rc)]).length) C H (al eRc (e++[(⟨a.p,a.n,a.k,a.d,a.kn,a.op,a.on,a.t⟩:Rc)])):=D.snoc _ rfl
 refine pu (slv B ((e++[(⟨a.p,a.n,a.k,a.d,a.kn,a.op,a.on,a.t⟩:Rc)]).length) C) (by kernel_rfl) (aa (rgn (by kernel_rfl) (ckE F (fun P F=>ac (cj rfl rfl P (pu (iv (l+1)) (by kernel_rfl) (aa (⟨rfl,m1,Nat.lt_succ_self _,⟨B,C,H,e++[(⟨a.p,a.n,a.k,a.d,a.kn,a.op,a.on,a.t⟩:Rc)],l+1,m1,⟨rfl,rfl,rfl,rfl,trivial⟩,I.pk [2] rfl rfl,(D.to rfl rfl),F,rfl⟩⟩))))))))
theorem L108 (w0:World) (a:Rc) (b:Rc) (r:Bool) (F:F108 a b=some r):bn Tryz.prog 108 [.agg (qg a).toArray,.agg (qg b).toArray] w0 fun v w=>v=.bool r∧Below w0.heap.size w0 w:=by
 refine az (n:=30) func108 rfl ntmps108 rfl ?_
 have I:=Inv.start w0
 unfold F108 at F
 refine ab (rgn (by kernel_rfl) (ac (ca I _ rfl fun b4 w I=>ac (ca I _ rfl fun b5 w I=>pu bF (by kernel_rfl) (aa (ab (rgn (by kernel_rfl) (pu2 (pt b4) (pt b4) (by kernel_rfl) (ac (ag I 1 (iv a.p) zi3 rfl rfl rfl (pu2 (pt b5) (pt b5) (by kernel_rfl) (ac (ag I 0 (iv b.p) zi3 rfl rfl rfl (ifE F (fun e F=>?_) (fun e F=>?_)))))))))))))))
 ·
  refine ac (cm rfl rfl (fun _=>?_) (fun h=>absurd e h))
  refine pu bT (by kernel_rfl) (sf 8 (by kernel_rfl) (seq_offN (by kernel_rfl) (seq_offN (by kernel_rfl) (seq_offN (by kernel_rfl) (seq_offN (by kernel_rfl) (seq_offN (by kernel_rfl) (seq_offN (by kernel_rfl) (seq_offN (by kernel_rfl) (of_ (by kernel_rfl) (pu2 bT bT (by kernel_rfl) (aa (aj ?_))))))))))))
  cases F
  exact ⟨_,Ret.r1 rfl rfl,⟨rfl,I.below⟩⟩
 refine ac (cm rfl rfl (fun h=>absurd h e) (fun _=>pu bF (by kernel_rfl) (pup (pt b4) (by kernel_rfl) (pup (pt b4) (by kernel_rfl) (aw (by kernel_rfl) (ag I 1 (iv a.p) zi3 rfl rfl rfl (pup (pt b5) (by kernel_rfl) (pup (pt b5) (by kernel_rfl) (aw (by kernel_rfl) (ag I 0 (iv b.p) zi3 rfl rfl rfl (ifN F (fun f F=>?_) (fun f F=>?_))))))))))))
 ·
  refine aw (by kernel_rfl) (di rfl rfl (fun h=>absurd h f) (fun _=>pup bF (by kernel_rfl) (sf 7 (by kernel_rfl) (pup bF (by kernel_rfl) (pu2 bF bF (by kernel_rfl) (aa (aj ?_)))))))
  cases F
  exact ⟨_,Ret.r1 rfl rfl,⟨rfl,I.below⟩⟩


 refine aw (by kernel_rfl) (di rfl rfl (fun _=>?_) (fun h=>absurd f h))
 refine pup bT (by kernel_rfl) (pup (pt b4) (by kernel_rfl) (pup (.pointer (some ⟨b4,1,none⟩)) (by kernel_rfl) (aw (by kernel_rfl) (ag I 1 (iv a.n) zi3 rfl rfl rfl (pup (pt b5) (by kernel_rfl) (pup (.pointer (some ⟨b5,1,none⟩)) (by kernel_rfl) (aw (by kernel_rfl) (ag I 0 (iv b.n) zi3 rfl rfl rfl (ifE F (fun g F=>?_) (fun g F=>?_))))))))))
 ·
  refine aw (by kernel_rfl) (cm rfl rfl (fun _=>?_) (fun h=>absurd g h))
  refine pup bT (by kernel_rfl) (pu2 bT bT (by kernel_rfl) (aa (aj ?_)))
  cases F
  exact ⟨_,Ret.r1 rfl rfl,⟨rfl,I.below⟩⟩
 refine aw (by kernel_rfl) (cm rfl rfl (fun h=>absurd h g) (fun _=>pup bF (by kernel_rfl) (pu2 bF bF (by kernel_rfl) (aa (aj ?_)))))
 cases F
 exact ⟨_,Ret.r1 rfl rfl,⟨rfl,I.below⟩⟩
theorem L37 (w0:World) (g:Option Addr) (i:Nat) (e:List Rc) (l:bi w0 g (al eRc e)) (x:e.length≤9223372036854775807) (y:e.length≤i) (N:Nat) (r:Int) (F:F37 N e=some r):bn Tryz.prog 37 [.agg #[.slice g e.length i]] w0 fun v w=>v=iv r∧Below w0.heap.size w0 w:=by
 refine az (n:=32) func37 rfl ntmps37 rfl ?_
 have I:=Inv.start w0
 unfold F37 at F
 refine ab (rgn (by kernel_rfl) (ac (ca I _ rfl fun j w I=>pu (iv 0) (by kernel_rfl) (aa (ab (ab (rgn (by kernel_rfl) (pu (pt j) (by kernel_rfl) (ac (ag I 0 (.slice g e.length i) mv rfl rfl rfl (bt F (fun U z F=>ifN F (fun o F=>?_) (fun o F=>?_)))))))))))))
 ·
  refine ac (bg I 98 _ _ (by kernel_rfl) (bn.mono (L98 _ g i e (l.inv0 I) x y N _ z) (fun v' w' h=>⟨h.1.trans (congrArg Value.bool (Bool.eq_false_iff.2 o)),h.2⟩)) fun w I=>pu bT (by kernel_rfl) (aa (ah rfl (ab (rgn (by kernel_rfl) (pu (iv 81) (by kernel_rfl) (aa (aj ?_))))))))
  cases F
  exact ⟨_,Ret.r1 rfl rfl,⟨rfl,I.below⟩⟩


 refine ac (bg I 98 _ _ (by kernel_rfl) (bn.mono (L98 _ g i e (l.inv0 I) x y N _ z) (fun v' w' h=>⟨h.1.trans (congrArg Value.bool o),h.2⟩)) fun w I=>pu bF (by kernel_rfl) (aa (ai rfl (ak (ab (ab (rgn (by kernel_rfl) (pu (pt j) (by kernel_rfl) (ac (ag I 0 (.slice g e.length i) mv rfl rfl rfl (pu2 (iv ((e.length:Nat):Int)) (iv 0) (by kernel_rfl) (aa (au (cb (fun m ρ w=>∃ (f:Int) (mm:Nat),cd ρ [(1,pt j),(10,iv (e.length:Int)),(11,iv f)]∧Inv [] w0 w [(some j,blk [.slice g e.length i] 47)]∧F37l1 e mm f=some r∧mm=m) (m:=N) ⟨0,N,⟨rfl,rfl,rfl,trivial⟩,I.pk [0] rfl rfl,F,rfl⟩ ?_))))))))))))))
 rintro m ρ w ⟨f,mm,hag,I,F,hm⟩
 subst hm; obtain ⟨ρ,rfl⟩:=hag.form; clear hag
 obtain _ | m1:=mm
 ·cases (show (none:Option Int)=some r from F)
 replace F:F37b1 e (F37l1 e m1) f=some r:=F; unfold F37b1 at F
 refine ab (rgn (by kernel_rfl) (ifN F (fun q F=>?_) (fun q F=>?_)))
 ·
  refine ac (cm rfl rfl (fun h=>absurd h q) (fun _=>aa (ab (ai rfl (bw (ab (rgn (by kernel_rfl) (pu (iv 0) (by kernel_rfl) (aa (aj ?_))))))))))
  cases F
  exact ⟨_,Ret.r1 rfl rfl,⟨rfl,I.below⟩⟩
 refine ac (cm rfl rfl (fun _=>?_) (fun h=>absurd q h))
 refine aa (ab (ah rfl (ak (ab (au (ab (rgn (by kernel_rfl) (pu2 (iv f) (iv f) (by kernel_rfl) (aa (dn (fun ρ w=>cd ρ [(1,pt j),(10,iv (e.length:Int)),(11,iv f),(30,bF)]∧Inv [] w0 w [(some j,blk [.slice g e.length i] 47)]∧F37j2 (F37l1 e m1) f=some r) ?_ ?_))))))))))
 ·
  refine gm 17 I (by kernel_rfl) (zp (iv f) (fun _=>(by kernel_rfl)) (ifN F (fun s F=>?_) (fun s F=>?_)))
  ·
   refine zc bF (fun w I=>s_gtr rfl rfl (fun h=>absurd h s) (fun _=>br)) (zp bF (fun _=>(by kernel_rfl)) (zf 13 (by kernel_rfl) (zp bF (fun _=>(by kernel_rfl)) (zh (fun w I=>aa (.inl ⟨rfl,⟨⟨rfl,rfl,rfl,rfl,trivial⟩,I.pk [0] rfl rfl,F⟩⟩))))))
  refine zc bT (fun w I=>s_gtr rfl rfl (fun _=>br) (fun h=>absurd s h)) (zp bT (fun _=>(by kernel_rfl)) (zq (pt j) (by kernel_rfl) (fun _=>(by kernel_rfl)) (zo (.slice g e.length i) (by kernel_rfl) (fun w I=>ag I 0 (.slice g e.length i) mv rfl rfl rfl br) (zq (iv f) (by kernel_rfl) (fun _=>(by kernel_rfl)) (ckE F (fun D F=>zo (iv (f - 1)) (by kernel_rfl) (fun w I=>s_sub rfl rfl D br) (gdE F (fun E F=>bt F (fun a A F=>?_)))))))))
  obtain ⟨G,H,J,K,L⟩:=l.at_ bx (by decide) A
  refine zo (.pointer (some ⟨G,H+((f - 1).toNat) * 8,none⟩)) (by kernel_rfl) (fun w I=>cn ((f - 1).toNat) nt md rfl J rfl (Int.toNat_of_nonneg E).symm (fa A rfl) br) (zo (.agg (qg a).toArray) (by kernel_rfl) (fun w I=>ef I (qg a) mh md rfl rfl K (by simp) L br) (zq (pt j) (by kernel_rfl) (fun _=>(by kernel_rfl)) (zo (.slice g e.length i) (by kernel_rfl) (fun w I=>ag I 0 (.slice g e.length i) mv rfl rfl rfl br) (zq (iv f) (by kernel_rfl) (fun _=>(by kernel_rfl)) (gdE F (fun M F=>bt F (fun b B F=>?_)))))))
  obtain ⟨O,P,Q,R,S⟩:=l.at_ bx (by decide) B
  refine zo (.pointer (some ⟨O,P+(f).toNat * 8,none⟩)) (by kernel_rfl) (fun w I=>cn (f).toNat nt md rfl Q rfl (Int.toNat_of_nonneg M).symm (fa B rfl) br) (zo (.agg (qg b).toArray) (by kernel_rfl) (fun w I=>ef I (qg b) mh md rfl rfl R (by simp) S br) (bt F (fun V C F=>ifE F (fun u F=>?_) (fun u F=>?_))))
  ·
   refine zo bT (by kernel_rfl) (fun w I=>co 108 [.agg (qg a).toArray,.agg (qg b).toArray] (by kernel_rfl) (bn.mono (L108 _ a b _ C) (fun v' w' h=>⟨h.1.trans (congrArg Value.bool u),h.2⟩)) (fun v' w' h=>h)) (zq bF (by kernel_rfl) (fun _=>(by kernel_rfl)) (zp bF (fun _=>(by kernel_rfl)) (zh (fun w I=>aa (.inl ⟨rfl,⟨⟨rfl,rfl,rfl,rfl,trivial⟩,I.pk [0] rfl rfl,F⟩⟩)))))
  refine zo bF (by kernel_rfl) (fun w I=>co 108 [.agg (qg a).toArray,.agg (qg b).toArray] (by kernel_rfl) (bn.mono (L108 _ a b _ C) (fun v' w' h=>⟨h.1.trans (congrArg Value.bool (Bool.eq_false_iff.2 u)),h.2⟩)) (fun v' w' h=>h)) (zq bT (by kernel_rfl) (fun _=>(by kernel_rfl)) (zp bT (fun _=>(by kernel_rfl)) (zh (fun w I=>aa (.inr (ah rfl (ab (rgn (by kernel_rfl) (pu (iv 81) (by kernel_rfl) (aa (aj ?_)))))))))))
  cases F
  exact ⟨_,Ret.r1 rfl rfl,⟨rfl,I.below⟩⟩
 intro ρ w hJ
 obtain ⟨hag,I,F⟩:=hJ
 obtain ⟨ρ,rfl⟩:=hag.form; clear hag
 unfold F37j2 at F
 refine ai rfl (ak (rgn (by kernel_rfl) (ckE F (fun T F=>ac (cj rfl rfl T (pu (iv (f+1)) (by kernel_rfl) (aa (⟨rfl,m1,Nat.lt_succ_self _,⟨f+1,m1,⟨rfl,rfl,rfl,trivial⟩,I.pk [0] rfl rfl,F,rfl⟩⟩))))))))
theorem L105 (w0:World) (i:Option Addr) (j:Nat) (f:List Rc) (e:It) (u:bi w0 i (al eRc f)) (D:f.length≤9223372036854775807) (E:f.length≤j) (N:Nat) (r:Int) (F:F105 N f e=some r):bn Tryz.prog 105 [.slice i f.length j,.agg #[iv e.p,iv e.n]] w0 fun v w=>v=iv r∧Below w0.heap.size w0 w:=by
 refine az (n:=20) func105 rfl ntmps105 rfl ?_
 have I:=Inv.start w0
 unfold F105 at F
 refine ab (rgn (by kernel_rfl) (ac (ca I _ rfl fun q w I=>pu (iv 0) (by kernel_rfl) (aa (ab (ab (rgn (by kernel_rfl) (pu3 (.slice i f.length j) (iv ((f.length:Nat):Int)) (iv 0) (by kernel_rfl) (aa (au (cb (fun m ρ w=>∃ (g:Int) (mm:Nat),cd ρ [(3,pt q),(7,.slice i f.length j),(8,iv (f.length:Int)),(9,iv g)]∧Inv [] w0 w [(some q,blk [iv e.p,iv e.n] 23)]∧F105l1 f e mm g=some r∧mm=m) (m:=N) ⟨0,N,⟨rfl,rfl,rfl,rfl,trivial⟩,I.pk [0] rfl rfl,F,rfl⟩ ?_)))))))))))
 rintro m ρ w ⟨g,mm,hag,I,F,hm⟩
 subst hm; obtain ⟨ρ,rfl⟩:=hag.form; clear hag
 obtain _ | m1:=mm
 ·cases (show (none:Option Int)=some r from F)
 replace F:F105b1 f e (F105l1 f e m1) g=some r:=F; unfold F105b1 at F
 refine ab (rgn (by kernel_rfl) (ifN F (fun l F=>?_) (fun l F=>?_)))
 ·
  refine ac (cm rfl rfl (fun h=>absurd h l) (fun _=>aa (ab (ai rfl (bw (ab (rgn (by kernel_rfl) (pu (iv (-1)) (by kernel_rfl) (aa (aj ?_))))))))))
  cases F
  exact ⟨_,Ret.r1 rfl rfl,⟨rfl,I.below⟩⟩


 refine ac (cm rfl rfl (fun _=>?_) (fun h=>absurd l h))
 refine aa (ab (ah rfl (ak (ab (au (ab (rgn (by kernel_rfl) (pu (iv g) (by kernel_rfl) (gdE F (fun x F=>bt F (fun a s F=>?_)))))))))))
 obtain ⟨G,H,y,z,A⟩:=u.at_ bx (by decide) s
 refine ac (cn (g).toNat nt md rfl y rfl (Int.toNat_of_nonneg x).symm (fa s rfl) (ac (ef I (qg a) mh md rfl rfl z (by simp) A (ac (bh I _ zeroValue25 rfl fun B w I=>pu (iv g) (by kernel_rfl) (ac (mb I 0 _ md rfl rfl rfl rfl rfl rfl fun w I=>aa (ab (rgn (by kernel_rfl) (pu (pt B) (by kernel_rfl) (ac (ar I 0 2 [iv a.p,iv a.n] zi23 zs23 rfl rfl rfl rfl (ac (ma I 1 zi23 zs23 rfl rfl rfl (ifE F (fun o F=>?_) (fun o F=>?_))))))))))))))))
 ·
  refine ac (kz (b:=decide (a.p=e.p) && decide (a.n=e.n)) rfl rfl (by kernel_rfl) (fun w=>eq23 _ a.p a.n e.p e.n w) (fun _=>?_) (fun h=>absurd o h))
  refine aa (ah rfl (ab (rgn (by kernel_rfl) (pu2 (iv g) (iv g) (by kernel_rfl) (aa (aj ?_))))))
  cases F
  exact ⟨_,Ret.r1 rfl rfl,⟨rfl,I.below⟩⟩
 refine ac (kz (b:=decide (a.p=e.p) && decide (a.n=e.n)) rfl rfl (by kernel_rfl) (fun w=>eq23 _ a.p a.n e.p e.n w) (fun h=>absurd h o) (fun _=>aa (ai rfl (ak (rgn (by kernel_rfl) (ckE F (fun C F=>ac (cj rfl rfl C (pu (iv (g+1)) (by kernel_rfl) (aa (⟨rfl,m1,Nat.lt_succ_self _,⟨g+1,m1,⟨rfl,rfl,rfl,rfl,trivial⟩,I.pk [1] rfl rfl,F,rfl⟩⟩)))))))))))
theorem L31 (w0:World) (i:Option Addr) (l:Nat) (e:List Rc) (x:Option Addr) (y:Nat) (f:List Rc) (P:bi w0 i (al eRc e)) (Q:e.length≤9223372036854775807) (R:e.length≤l) (a5:bi w0 x (al eRc f)) (aD:f.length≤9223372036854775807) (aE:f.length≤y) (N:Nat) (r:(List Rc × Int)) (F:F31 N e f=some r):bn Tryz.prog 31 [.agg #[.slice i e.length l],.agg #[.slice x f.length y]] w0 fun v w=>∃ (z0:Option Nat) (z1:Nat) (z2:List Value),v=.tuple #[.agg #[slv z0 r.1.length z1],iv r.2]∧Inv [] w0 w [(z0,blk z2 25)]∧Row 8 z0 r.1.length z1 z2 (al eRc r.1):=by
 refine az (n:=56) func31 rfl ntmps31 rfl ?_
 have I:=Inv.start w0
 unfold F31 at F
 refine ab (rgn (by kernel_rfl) (ac (ca I _ rfl fun C w I=>ac (ca I _ rfl fun aF w I=>ac (bh I _ zeroValue47 rfl fun D w I=>pu (iv 0) (by kernel_rfl) (aa (ab (ab (gm 4 I (by kernel_rfl) (zc (.agg #[.slice i e.length l]) (fun w I=>ma I 2 zi47 nm rfl rfl rfl br) (bt F (fun S aG F=>zc (iv S) (fun w I=>co 36 [.agg #[.slice i e.length l]] (by kernel_rfl) (L36 _ i l e (P.inv0 I) Q R N _ aG) (fun v' w' h=>h)) (zc (.agg #[.slice x f.length y]) (fun w I=>ma I 1 zi47 nm rfl rfl rfl br) (bt F (fun T aH F=>zc (iv T) (fun w I=>co 36 [.agg #[.slice x f.length y]] (by kernel_rfl) (L36 _ x y f (a5.inv0 I) aD aE N _ aH) (fun v' w' h=>h)) (zh (fun w I=>ac (fu I [iv S,iv T] 26 (fun b=>slv (some b) 2 2) (by kernel_rfl) fun aI w I=>bt F (fun L aJ F=>ac (bg I 86 _ _ (by kernel_rfl) (L86 _ (some ⟨aI,0,none⟩) 2 [S,T] (I.cells 0 (off:=0) rfl (fun j u h=>by rw [Nat.zero_add]; exact h)) (mx rfl) (Nat.le_refl _) N _ aJ) fun w I=>pu (iv L) (by kernel_rfl) (aa (ab (rgn (by kernel_rfl) (pu (iv L) (by kernel_rfl) (ifN F (fun U F=>?_) (fun U F=>?_))))))))))))))))))))))))))
 ·
  refine ac (de rfl rfl (fun _=>?_) (fun h=>absurd h U))
  refine aa (ah rfl (ab (rgn (by kernel_rfl) (pu2 (.agg #[.slice none 0 0]) (iv L) (by kernel_rfl) (ac (mb I 1 _ nm rfl rfl rfl rfl rfl rfl fun w I=>pu (iv L) (by kernel_rfl) (aa (aj ?_))))))))
  have I:=I.nilRow 25
  cases F
  exact ⟨_,Ret.ct rfl rfl (ce I 2 1 [.slice none 0 0] zi47 nm rfl rfl rfl) rfl,⟨none,0,[],rfl,I.pk [0] rfl rfl,Row.nil_ 8⟩⟩


 refine ac (de rfl rfl (fun h=>absurd U h) (fun _=>aa (ai rfl (ak (ab (rgn (by kernel_rfl) (pu (pt C) (by kernel_rfl) (ac (ag I 3 (.slice i e.length l) mv rfl rfl rfl (bt F (fun a6 aK F=>ac (co 102 _ (by kernel_rfl) (L102 _ i l e (P.inv0 I) Q R _ aK) ?_))))))))))))
 rintro v w ⟨a7,a8,aL,rfl,hN,aM⟩
 have I:=I.join hN; clear hN
 refine pu (slv a7 a6.length a8) (by kernel_rfl) (aa (dn (fun ρ w=>∃ (A:Option Nat) (E:Nat) (V:List Value) (o:List Rc),cd ρ [(4,pt D),(7,slv A o.length E)]∧Inv [] w0 w [(some D,blk [.slice none 0 0] 47),(A,blk V 25)]∧(Row 8 A (o.length) E V (al eRc o))∧F31j1 o=some r) ?_ ?_))
 ·
  refine ab (rgn (by kernel_rfl) (pu (pt aF) (by kernel_rfl) (ac (ag I 3 (.slice x f.length y) mv rfl rfl rfl (pu2 (iv ((f.length:Nat):Int)) (iv 0) (by kernel_rfl) (aa (au (cb (fun m ρ w=>∃ (B:Option Nat) (G:Nat) (J:List Value) (g:List Rc) (q:Int) (mm:Nat),cd ρ [(2,pt C),(4,pt D),(7,slv B g.length G),(26,.slice x f.length y),(27,iv (f.length:Int)),(28,iv q)]∧Inv [] w0 w [(some C,blk [.slice i e.length l] 47),(some D,blk [.slice none 0 0] 47),(B,blk J 25)]∧(Row 8 B (g.length) G J (al eRc g))∧F31l2 e f N mm g q=some r∧mm=m) (m:=N) ⟨a7,a8,aL,a6,0,N,⟨rfl,rfl,rfl,rfl,rfl,rfl,trivial⟩,I.pk [4,2,0] rfl rfl,(aM.to rfl rfl),F,rfl⟩ ?_))))))))
  rintro m ρ w ⟨B,G,J,g,q,mm,hag,I,W,F,hm⟩
  subst hm; obtain ⟨ρ,rfl⟩:=hag.form; clear hag
  obtain _ | m2:=mm
  ·cases (show (none:Option (List Rc × Int))=some r from F)
  replace F:F31b2 e f N (F31l2 e f N m2) g q=some r:=F; unfold F31b2 at F
  refine ab (rgn (by kernel_rfl) (ifN F (fun X F=>?_) (fun X F=>?_)))
  ·
   refine ac (cm rfl rfl (fun h=>absurd h X) (fun _=>aa (ab (ai rfl (bw (.inl ⟨rfl,⟨B,G,J,g,⟨rfl,rfl,trivial⟩,I.pk [1,2] rfl rfl,(W.to rfl rfl),F⟩⟩))))))
  refine ac (cm rfl rfl (fun _=>?_) (fun h=>absurd X h))
  refine aa (ab (ah rfl (ak (dn (fun ρ w=>∃ (K:Option Nat) (M:Nat) (O:List Value) (H:List Rc),cd ρ [(2,pt C),(4,pt D),(7,slv K H.length M),(26,.slice x f.length y),(27,iv (f.length:Int)),(28,iv q)]∧Inv [] w0 w [(some C,blk [.slice i e.length l] 47),(some D,blk [.slice none 0 0] 47),(K,blk O 25)]∧(Row 8 K (H.length) M O (al eRc H))∧F31j3 (F31l2 e f N m2) q H=some r) ?_ ?_))))
  ·
   refine au (ab (rgn (by kernel_rfl) (gdE F (fun aN F=>bt F (fun a a9 F=>?_)))))
   obtain ⟨aY,aZ,aO,aP,aQ⟩:=a5.at_ bx (by decide) a9
   refine ac (cn (q).toNat nt md rfl aO rfl (Int.toNat_of_nonneg aN).symm (fa a9 rfl) (ac (ef I (qg a) mh md rfl rfl aP (by simp) aQ (ac (bh I _ zeroValue25 rfl fun b0 w I=>ac (mb I 0 _ md rfl rfl rfl rfl rfl rfl fun w I=>aa (ab (rgn (by kernel_rfl) (pu (pt C) (by kernel_rfl) (ac (ag I 1 (.slice i e.length l) mv rfl rfl rfl (ac (ma I 0 mh md rfl rfl rfl (bt F (fun s aR F=>ac (bg I 100 _ _ (by kernel_rfl) (L100 _ i l e a (P.inv0 I) Q R N _ aR) fun w I=>pu3 (.tuple #[.bool s.1,iv s.2]) (.bool s.1) (iv s.2) (by kernel_rfl) (pu2 (.bool s.1) (iv s.2) (by kernel_rfl) (aa (ab (ab (rgn (by kernel_rfl) (pu (iv s.2) (by kernel_rfl) (ifN F (fun Y F=>?_) (fun Y F=>?_))))))))))))))))))))))))
   ·
    refine ac (de rfl rfl (fun _=>?_) (fun h=>absurd h Y))
    refine aa (ah rfl (ab (rgn (by kernel_rfl) (pu2 (.agg #[.slice none 0 0]) (iv s.2) (by kernel_rfl) (ac (mb I 2 _ nm rfl rfl rfl rfl rfl rfl fun w I=>pu (iv s.2) (by kernel_rfl) (aa (aj ?_))))))))
    have I:=I.nilRow 25
    cases F
    exact ⟨_,Ret.ct rfl rfl (ce I 3 1 [.slice none 0 0] zi47 nm rfl rfl rfl) rfl,⟨none,0,[],rfl,I.pk [0] rfl rfl,Row.nil_ 8⟩⟩
   refine ac (de rfl rfl (fun h=>absurd Y h) (fun _=>aa (ai rfl (ak (ab (ifE F (fun Z F=>?_) (fun Z F=>?_)))))))
   ·
    rw [Z]
    refine rgn (by kernel_rfl) (pu2 bT bF (by kernel_rfl) (aa (ai rfl (ak (.inl ⟨rfl,⟨B,G,J,g,⟨rfl,rfl,rfl,rfl,rfl,rfl,trivial⟩,I.pk [1,2,3] rfl rfl,(W.to rfl rfl),F⟩⟩)))))
   rw [(Bool.eq_false_iff.2 Z)]
   refine rgn (by kernel_rfl) (pu2 bF bT (by kernel_rfl) (aa (ah rfl (rgn (by kernel_rfl) (pu (slv B g.length G) (by kernel_rfl) (ac (ma I 0 mh md rfl rfl rfl (ac (fu I (qg a) 25 (fun b=>slv (some b) 1 1) (by kernel_rfl) fun b1 w I=>gdE F (fun b2 F=>ac (ks I nt (z:=.agg #[iv 0,iv 0,iv 0,iv 0,iv 0,iv 0,iv 0,.string (bts [])]) (k:=8) (bytes:=72) (by kernel_rfl) rfl rfl 4 rfl rfl W (qg a) rfl rfl (I.cells 0 (off:=0) rfl (fun j u h=>by rw [Nat.zero_add]; exact h)) (by simp [Value.oneCell']) (by omega) (by omega) (n2:=(g++[(⟨a.p,a.n,a.k,a.d,a.kn,a.op,a.on,a.t⟩:Rc)]).length) (kr rfl rfl) ?_)))))))))))
   intro a0 a1 aA w I a2
   have a2:Row 8 a0 ((g++[(⟨a.p,a.n,a.k,a.d,a.kn,a.op,a.on,a.t⟩:Rc)]).length) a1 aA (al eRc (g++[(⟨a.p,a.n,a.k,a.d,a.kn,a.op,a.on,a.t⟩:Rc)])):=a2.snoc _ rfl
   refine pu (slv a0 ((g++[(⟨a.p,a.n,a.k,a.d,a.kn,a.op,a.on,a.t⟩:Rc)]).length) a1) (by kernel_rfl) (aa (.inl ⟨rfl,⟨a0,a1,aA,g++[(⟨a.p,a.n,a.k,a.d,a.kn,a.op,a.on,a.t⟩:Rc)],⟨rfl,rfl,rfl,rfl,rfl,rfl,trivial⟩,I.pk [2,3,4] rfl rfl,(a2.to rfl rfl),F⟩⟩))
  intro ρ w hJ
  obtain ⟨K,M,O,H,hag,I,aS,F⟩:=hJ
  obtain ⟨ρ,rfl⟩:=hag.form; clear hag
  unfold F31j3 at F
  refine rgn (by kernel_rfl) (ckE F (fun aT F=>ac (cj rfl rfl aT (pu (iv (q+1)) (by kernel_rfl) (aa (⟨rfl,m2,Nat.lt_succ_self _,⟨K,M,O,H,q+1,m2,⟨rfl,rfl,rfl,rfl,rfl,rfl,trivial⟩,I.pk [0,1,2] rfl rfl,(aS.to rfl rfl),F,rfl⟩⟩))))))
 intro ρ w hJ
 obtain ⟨A,E,V,o,hag,I,a3,F⟩:=hJ
 obtain ⟨ρ,rfl⟩:=hag.form; clear hag
 unfold F31j1 at F
 refine ab (ab (rgn (by kernel_rfl) (pu2 (slv A o.length E) (iv ((o.length:Nat):Int)) (by kernel_rfl) (ifE F (fun a4 F=>?_) (fun a4 F=>?_)))))
 ·
  refine ac (s_gtr rfl rfl (fun _=>?_) (fun h=>absurd a4 h))
  refine aa (ah rfl (ab (rgn (by kernel_rfl) (pu (.agg #[.slice none 0 0]) (by kernel_rfl) (ac (mb I 0 _ nm rfl rfl rfl rfl rfl rfl fun w I=>pu (iv 2) (by kernel_rfl) (aa (aj ?_))))))))
  have I:=I.nilRow 25
  cases F
  exact ⟨_,Ret.ct rfl rfl (ce I 1 1 [.slice none 0 0] zi47 nm rfl rfl rfl) rfl,⟨none,0,[],rfl,I.pk [0] rfl rfl,Row.nil_ 8⟩⟩
 refine ac (s_gtr rfl rfl (fun h=>absurd h a4) (fun _=>aa (ai rfl (ak (ab (rgn (by kernel_rfl) (pu (slv A o.length E) (by kernel_rfl) (bt F (fun aU aV F=>ac (co 97 _ (by kernel_rfl) (L97 _ (A.map fun b=>⟨b,0,none⟩) E o (I.rowCells 1 rfl a3) (am rfl a3.big) (am rfl a3.cap) _ aV) ?_))))))))))
 rintro v w ⟨aB,aC,aW,rfl,hN,aX⟩
 have I:=I.join hN; clear hN
 refine ac (mb I 1 _ nm rfl rfl rfl rfl rfl rfl fun w I=>pu (iv 0) (by kernel_rfl) (aa (aj ?_)))
 cases F
 exact ⟨_,Ret.ct rfl rfl (ce I 1 1 [slv aB aU.length aC] zi47 nm rfl rfl rfl) rfl,⟨aB,aC,aW,rfl,I.pk [0] rfl rfl,aX.to rfl rfl⟩⟩
theorem L35 (w0:World) (j:Option Addr) (l:Nat) (f:List Rc) (o:Option Addr) (q:Nat) (i:List Rc) (B:bi w0 j (al eRc f)) (R:f.length≤9223372036854775807) (S:f.length≤l) (C:bi w0 o (al eRc i)) (T:i.length≤9223372036854775807) (U:i.length≤q) (N:Nat) (r:Bool) (F:F35 N f i=some r):bn Tryz.prog 35 [.slice j f.length l,.slice o i.length q] w0 fun v w=>v=.bool r∧Below w0.heap.size w0 w:=by
 refine az (n:=26) func35 rfl ntmps35 rfl ?_
 have I:=Inv.start w0
 unfold F35 at F
 refine ab (rgn (by kernel_rfl) (pu bF (by kernel_rfl) (aa (ab (ab (rgn (by kernel_rfl) (pu3 (.slice j f.length l) (iv ((f.length:Nat):Int)) (.slice o i.length q) (by kernel_rfl) (pu (iv ((i.length:Nat):Int)) (by kernel_rfl) (ifN F (fun s F=>?_) (fun s F=>?_))))))))))
 ·
  refine ac (de rfl rfl (fun _=>?_) (fun h=>absurd h s))
  refine aa (ah rfl (ab (rgn (by kernel_rfl) (pu bF (by kernel_rfl) (aa (aj ?_))))))
  cases F
  exact ⟨_,Ret.r1 rfl rfl,⟨rfl,I.below⟩⟩


 refine ac (de rfl rfl (fun h=>absurd s h) (fun _=>aa (ai rfl (ak (ab (ab (rgn (by kernel_rfl) (pu3 (.slice j f.length l) (iv ((f.length:Nat):Int)) (iv 0) (by kernel_rfl) (aa (au (cb (fun m ρ w=>∃ (g:Int) (mm:Nat),cd ρ [(0,.slice j f.length l),(1,.slice o i.length q),(12,iv (f.length:Int)),(13,iv g)]∧Inv [] w0 w []∧F35l1 f i mm g=some r∧mm=m) (m:=N) ⟨0,N,⟨rfl,rfl,rfl,rfl,trivial⟩,I.pk [] rfl rfl,F,rfl⟩ ?_)))))))))))
 rintro m ρ w ⟨g,mm,hag,I,F,hm⟩
 subst hm; obtain ⟨ρ,rfl⟩:=hag.form; clear hag
 obtain _ | m1:=mm
 ·cases (show (none:Option Bool)=some r from F)
 replace F:F35b1 f i (F35l1 f i m1) g=some r:=F; unfold F35b1 at F
 refine ab (rgn (by kernel_rfl) (ifN F (fun u F=>?_) (fun u F=>?_)))
 ·
  refine ac (cm rfl rfl (fun h=>absurd h u) (fun _=>aa (ab (ai rfl (bw (ab (rgn (by kernel_rfl) (pu bT (by kernel_rfl) (aa (aj ?_))))))))))
  cases F
  exact ⟨_,Ret.r1 rfl rfl,⟨rfl,I.below⟩⟩
 refine ac (cm rfl rfl (fun _=>?_) (fun h=>absurd u h))
 refine aa (ab (ah rfl (ak (ab (au (ab (rgn (by kernel_rfl) (pu2 (iv g) (iv g) (by kernel_rfl) (aa (ab (gm 9 I (by kernel_rfl) (zp2 (.slice j f.length l) (iv g) (fun _=>(by kernel_rfl)) (gdE F (fun y F=>bt F (fun a z F=>?_)))))))))))))))
 obtain ⟨D,E,G,H,J⟩:=B.at_ bx (by decide) z
 refine zc (.pointer (some ⟨D,E+(g).toNat * 8,none⟩)) (fun w I=>cn (g).toNat nt md rfl G rfl (Int.toNat_of_nonneg y).symm (fa z rfl) br) (zc (.agg (qg a).toArray) (fun w I=>ef I (qg a) mh md rfl rfl H (by simp) J br) (zp2 (.slice o i.length q) (iv g) (fun _=>(by kernel_rfl)) (bt F (fun e A F=>?_))))
 obtain ⟨K,L,M,O,P⟩:=C.at_ bx (by decide) A
 refine zc (.pointer (some ⟨K,L+(g).toNat * 8,none⟩)) (fun w I=>cn (g).toNat nt md rfl M rfl (Int.toNat_of_nonneg y).symm (fa A rfl) br) (zc (.agg (qg e).toArray) (fun w I=>ef I (qg e) mh md rfl rfl O (by simp) P br) (ifN F (fun x F=>?_) (fun x F=>?_)))
 ·
  refine zc bT (fun w I=>lg (b:=decide (a.p=e.p) && decide (a.n=e.n) && decide (a.k=e.k) && decide (a.d=e.d) && decide (a.kn=e.kn) && decide (a.op=e.op) && decide (a.on=e.on) && decide (a.t=e.t)) rfl rfl (by kernel_rfl) (fun w=>eq25 _ a.p a.n a.k a.d a.kn a.op a.on a.t e.p e.n e.k e.d e.kn e.op e.on e.t w) (fun _=>br) (fun h=>absurd h x)) (zh (fun w I=>aa (ah rfl (ab (rgn (by kernel_rfl) (pu bF (by kernel_rfl) (aa (aj ?_))))))))
  cases F
  exact ⟨_,Ret.r1 rfl rfl,⟨rfl,I.below⟩⟩
 refine zc bF (fun w I=>lg (b:=decide (a.p=e.p) && decide (a.n=e.n) && decide (a.k=e.k) && decide (a.d=e.d) && decide (a.kn=e.kn) && decide (a.op=e.op) && decide (a.on=e.on) && decide (a.t=e.t)) rfl rfl (by kernel_rfl) (fun w=>eq25 _ a.p a.n a.k a.d a.kn a.op a.on a.t e.p e.n e.k e.d e.kn e.op e.on e.t w) (fun h=>absurd x h) (fun _=>br)) (zh (fun w I=>aa (ai rfl (ak (rgn (by kernel_rfl) (ckE F (fun Q F=>ac (cj rfl rfl Q (pu (iv (g+1)) (by kernel_rfl) (aa (⟨rfl,m1,Nat.lt_succ_self _,⟨g+1,m1,⟨rfl,rfl,rfl,rfl,trivial⟩,I.pk [] rfl rfl,F,rfl⟩⟩)))))))))))
end Go.K
