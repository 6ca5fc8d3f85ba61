import Derived.Test.YtcondbkhcjgemaaGreatDoorBWh
namespace Go.K
open Go.Proofs.Tryz
open Go.Proofs Go.RowKit
set_option linter.unusedVariables false
set_option linter.unusedSimpArgs false
set_option maxRecDepth 100000
attribute [local irreducible] Seq cw cx fl opX
theorem L27 (w0:World) (b:Option Addr) (d:Nat) (a:List Rc) (e:bi w0 b (al eRc a)) (f:a.length≤9223372036854775807) (g:a.length≤d) (N:Nat) (r:(List Rc × Int)) (F:F27 N a=some r):bn Tryz.prog 27 [.slice b a.length d] w0 fun v w=>∃ (z0:Option Nat) (z1:Nat) (z2:List Value),v=.tuple #[.agg #[slv z0 r.1.length z1],iv r.2]∧Inv [] w0 w [(z0,blk z2 25)]∧Row 8 z0 r.1.length z1 z2 (al eRc r.1):=by
 refine az (n:=10) func27 rfl ntmps27 rfl ?_
 have I:=Inv.start w0
 unfold F27 at F
 refine ab (rgn (by kernel_rfl) (ac (bh I _ zeroValue47 rfl fun q w I=>pu (iv 0) (by kernel_rfl) (aa (ab (ab (rgn (by kernel_rfl) (pu (.slice b a.length d) (by kernel_rfl) (bt F (fun s i F=>ifN F (fun h8 F=>?_) (fun h8 F=>?_)))))))))))
 ·
  refine ac (bg I 96 _ _ (by kernel_rfl) (bn.mono (L96 _ b d a (e.inv0 I) f g N _ i) (fun v' w' h=>⟨h.1.trans (congrArg Value.bool (Bool.eq_false_iff.2 h8)),h.2⟩)) fun w I=>pu bT (by kernel_rfl) (aa (ah rfl (ab (rgn (by kernel_rfl) (pu (.agg #[.slice none 0 0]) (by kernel_rfl) (ac (mb I 0 _ nm rfl rfl rfl rfl rfl rfl fun w I=>pu (iv 81) (by kernel_rfl) (aa (aj ?_))))))))))
  have I:=I.nilRow 25
  cases F
  exact ⟨_,Ret.ct rfl rfl (ce I 1 1 [.slice none 0 0] nu nm rfl rfl rfl) rfl,⟨none,0,[],rfl,I.pk [0] rfl rfl,Row.nil_ 8⟩⟩


 refine ac (bg I 96 _ _ (by kernel_rfl) (bn.mono (L96 _ b d a (e.inv0 I) f g N _ i) (fun v' w' h=>⟨h.1.trans (congrArg Value.bool h8),h.2⟩)) fun w I=>pu bF (by kernel_rfl) (aa (ai rfl (ak (ab (rgn (by kernel_rfl) (pu (.slice b a.length d) (by kernel_rfl) (bt F (fun l m F=>ac (co 97 _ (by kernel_rfl) (L97 _ b d a (e.inv0 I) f g _ m) ?_))))))))))
 rintro v w ⟨j,k,o,rfl,hN,p⟩
 have I:=I.join hN; clear hN
 refine ac (mb I 1 _ nm rfl rfl rfl rfl rfl rfl fun w I=>pu (iv 0) (by kernel_rfl) (aa (aj ?_)))
 cases F
 exact ⟨_,Ret.ct rfl rfl (ce I 1 1 [slv j l.length k] nu nm rfl rfl rfl) rfl,⟨j,k,o,rfl,I.pk [0] rfl rfl,p.to rfl rfl⟩⟩
theorem L132 (w0:World) (i:Option Addr) (j:Nat) (a:List Rc) (e:Int) (x:bi w0 i (al eRc a)) (E:a.length≤9223372036854775807) (G:a.length≤j) (N:Nat) (r:Int) (F:F132 N a e=some r):bn Tryz.prog 132 [.slice i a.length j,iv e] w0 fun v w=>v=iv r∧Below w0.heap.size w0 w:=by
 refine az (n:=23) func132 rfl ntmps132 rfl ?_
 have I:=Inv.start w0
 unfold F132 at F
 refine ab (rgn (by kernel_rfl) (pu (iv 0) (by kernel_rfl) (aa (ab (rgn (by kernel_rfl) (pu (iv 0) (by kernel_rfl) (aa (ab (ab (rgn (by kernel_rfl) (pu3 (.slice i a.length j) (iv ((a.length:Nat):Int)) (iv 0) (by kernel_rfl) (aa (au (cb (fun m ρ w=>∃ (b:Int) (f:Int) (mm:Nat),cd ρ [(1,iv e),(5,iv b),(8,.slice i a.length j),(9,iv (a.length:Int)),(10,iv f)]∧Inv [] w0 w []∧F132l1 a e mm b f=some r∧mm=m) (m:=N) ⟨0,0,N,⟨rfl,rfl,rfl,rfl,rfl,trivial⟩,I.pk [] rfl rfl,F,rfl⟩ ?_))))))))))))))
 rintro m ρ w ⟨b,f,mm,hag,I,F,hm⟩
 subst hm; obtain ⟨ρ,rfl⟩:=hag.form; clear hag
 obtain _ | m1:=mm
 ·cases (show (none:Option Int)=some r from F)
 replace F:F132b1 a e (F132l1 a e m1) b f=some r:=F; unfold F132b1 at F
 refine ab (rgn (by kernel_rfl) (ifN F (fun o F=>?_) (fun o F=>?_)))
 ·
  refine ac (cm rfl rfl (fun h=>absurd h o) (fun _=>aa (ab (ai rfl (bw (ab (rgn (by kernel_rfl) (pu2 (iv b) (iv b) (by kernel_rfl) (aa (aj ?_))))))))))
  cases F
  exact ⟨_,Ret.r1 rfl rfl,⟨rfl,I.below⟩⟩


 refine ac (cm rfl rfl (fun _=>?_) (fun h=>absurd o h))
 refine aa (ab (ah rfl (ak (dn (fun ρ w=>∃ (l:Int),cd ρ [(1,iv e),(5,iv l),(8,.slice i a.length j),(9,iv (a.length:Int)),(10,iv f)]∧Inv [] w0 w []∧F132j2 (F132l1 a e m1) f l=some r) ?_ ?_))))
 ·
  refine au (ab (rgn (by kernel_rfl) (gdE F (fun y F=>bt F (fun g s F=>?_)))))
  obtain ⟨H,J,z,A,B⟩:=x.at_ bx (by decide) s
  refine ac (cn (f).toNat nt md rfl z rfl (Int.toNat_of_nonneg y).symm (fa s rfl) (ac (ef I (qg g) mh md rfl rfl A (by simp) B (ac (bh I _ zeroValue25 rfl fun u w I=>ac (mb I 0 _ md rfl rfl rfl rfl rfl rfl fun w I=>aa (ab (rgn (by kernel_rfl) (pu2 (pt u) (pt u) (by kernel_rfl) (ac (ag I 0 (iv g.p) zi3 rfl rfl rfl (pu (iv e) (by kernel_rfl) (ifN F (fun q F=>?_) (fun q F=>?_))))))))))))))
  ·
   refine ac (di rfl rfl (fun h=>absurd h q) (fun _=>aa (ai rfl (ak (.inl ⟨rfl,⟨b,⟨rfl,rfl,rfl,rfl,rfl,trivial⟩,I.pk [] rfl rfl,F⟩⟩)))))
  refine ac (di rfl rfl (fun _=>?_) (fun h=>absurd q h))
  refine aa (ah rfl (rgn (by kernel_rfl) (pu (iv b) (by kernel_rfl) (ckE F (fun C F=>ac (cj rfl rfl C (pu (iv (b+1)) (by kernel_rfl) (aa (.inl ⟨rfl,⟨b+1,⟨rfl,rfl,rfl,rfl,rfl,trivial⟩,I.pk [] rfl rfl,F⟩⟩)))))))))
 intro ρ w hJ
 obtain ⟨l,hag,I,F⟩:=hJ
 obtain ⟨ρ,rfl⟩:=hag.form; clear hag
 unfold F132j2 at F
 refine rgn (by kernel_rfl) (ckE F (fun D F=>ac (cj rfl rfl D (pu (iv (f+1)) (by kernel_rfl) (aa (⟨rfl,m1,Nat.lt_succ_self _,⟨l,f+1,m1,⟨rfl,rfl,rfl,rfl,rfl,trivial⟩,I.pk [] rfl rfl,F,rfl⟩⟩))))))
theorem L116 (w0:World) (e:Option Addr) (f:Nat) (b:List Rc) (a:Rc) (m:bi w0 e (al eRc b)) (o:b.length≤9223372036854775807) (q:b.length≤f) (N:Nat) (r:Bool) (F:F116 N b a=some r):bn Tryz.prog 116 [.slice e b.length f,.agg (qg a).toArray] w0 fun v w=>v=.bool r∧Below w0.heap.size w0 w:=by
 refine az (n:=24) func116 rfl ntmps116 rfl ?_
 have I:=Inv.start w0
 unfold F116 at F
 refine ab (rgn (by kernel_rfl) (ac (ca I _ rfl fun g w I=>pu bF (by kernel_rfl) (aa (ab (gm 20 I (by kernel_rfl) (zp (.slice e b.length f) (fun _=>(by kernel_rfl)) (zc (iv (b.length:Int)) (fun w I=>kl (iv ((b.length:Nat):Int)) (by kernel_rfl) br) (ifN F (fun i F=>?_) (fun i F=>?_))))))))))
 ·
  refine zc bF (fun w I=>cm rfl rfl (fun h=>absurd h i) (fun _=>br)) (zp bF (fun _=>(by kernel_rfl)) (zf 3 (by kernel_rfl) (zp2 bF bF (fun _=>(by kernel_rfl)) (zf 9 (by kernel_rfl) (zp2 bF bF (fun _=>(by kernel_rfl)) (zh (fun w I=>aa (aj ?_))))))))
  cases F
  exact ⟨_,Ret.r1 rfl rfl,⟨rfl,I.below⟩⟩


 refine zc bT (fun w I=>cm rfl rfl (fun _=>br) (fun h=>absurd i h)) (zp bT (fun _=>(by kernel_rfl)) (zo (.agg (qg a).toArray) (by kernel_rfl) (fun w I=>ma I 0 mh md rfl rfl rfl br) (bt F (fun s u F=>zo (iv s) (by kernel_rfl) (fun w I=>co 18 [.agg (qg a).toArray] (by kernel_rfl) (L18 _ a N _ u) (fun v' w' h=>h)) (ifN F (fun j F=>?_) (fun j F=>?_))))))
 ·
  refine zo bF (by kernel_rfl) (fun w I=>di rfl rfl (fun h=>absurd h j) (fun _=>br)) (zp2 bF bF (fun _=>(by kernel_rfl)) (zf 9 (by kernel_rfl) (zp2 bF bF (fun _=>(by kernel_rfl)) (zh (fun w I=>aa (aj ?_))))))
  cases F
  exact ⟨_,Ret.r1 rfl rfl,⟨rfl,I.below⟩⟩
 refine zo bT (by kernel_rfl) (fun w I=>di rfl rfl (fun _=>br) (fun h=>absurd j h)) (zp2 bT bT (fun _=>(by kernel_rfl)) (zq (pt g) (by kernel_rfl) (fun _=>(by kernel_rfl)) (zq (.pointer (some ⟨g,1,none⟩)) (by kernel_rfl) (fun _=>(by kernel_rfl)) (zo (iv a.n) (by kernel_rfl) (fun w I=>ag I 0 (iv a.n) zi3 rfl rfl rfl br) (zq (.slice e b.length f) (by kernel_rfl) (fun _=>(by kernel_rfl)) (zq (pt g) (by kernel_rfl) (fun _=>(by kernel_rfl)) (zq (pt g) (by kernel_rfl) (fun _=>(by kernel_rfl)) (zo (iv a.p) (by kernel_rfl) (fun w I=>ag I 0 (iv a.p) zi3 rfl rfl rfl br) (bt F (fun x y F=>zo (iv x) (by kernel_rfl) (fun w I=>co 132 [.slice e b.length f,iv a.p] (by kernel_rfl) (L132 _ e f b a.p (m.inv0 I) o q N _ y) (fun v' w' h=>h)) (ifE F (fun l F=>?_) (fun l F=>?_))))))))))))
 ·
  refine zo bT (by kernel_rfl) (fun w I=>di rfl rfl (fun _=>br) (fun h=>absurd l h)) (zp2 bT bT (fun _=>(by kernel_rfl)) (zh (fun w I=>aa (aj ?_))))
  cases F
  exact ⟨_,Ret.r1 rfl rfl,⟨rfl,I.below⟩⟩
 refine zo bF (by kernel_rfl) (fun w I=>di rfl rfl (fun h=>absurd h l) (fun _=>br)) (zp2 bF bF (fun _=>(by kernel_rfl)) (zh (fun w I=>aa (aj ?_))))
 cases F
 exact ⟨_,Ret.r1 rfl rfl,⟨rfl,I.below⟩⟩
theorem L98 (w0:World) (q:Option Addr) (s:Nat) (f:List Rc) (J:bi w0 q (al eRc f)) (Q:f.length≤9223372036854775807) (R:f.length≤s) (N:Nat) (r:Bool) (F:F98 N f=some r):bn Tryz.prog 98 [.slice q f.length s] w0 fun v w=>v=.bool r∧Below w0.heap.size w0 w:=by
 refine az (n:=21) func98 rfl ntmps98 rfl ?_
 have I:=Inv.start w0
 unfold F98 at F
 refine ab (rgn (by kernel_rfl) (pu bF (by kernel_rfl) (aa (ab (rgn (by kernel_rfl) (pu (.slice none 0 0) (by kernel_rfl) (aa (ab (ab (rgn (by kernel_rfl) (pu3 (.slice q f.length s) (iv ((f.length:Nat):Int)) (iv 0) (by kernel_rfl) (aa (au ?_)))))))))))))
 have I:=I.nilRow 25
 refine cb (fun m ρ w=>∃ (g:Option Nat) (i:Nat) (x:List Value) (e:List Rc) (l:Int) (mm:Nat),cd ρ [(3,slv g e.length i),(6,.slice q f.length s),(7,iv (f.length:Int)),(8,iv l)]∧Inv [] w0 w [(g,blk x 25)]∧(Row 8 g (e.length) i x (al eRc e))∧F98l1 f N mm e l=some r∧mm=m) (m:=N) ⟨none,0,[],[],0,N,⟨rfl,rfl,rfl,rfl,trivial⟩,I.pk [0] rfl rfl,(Row.nil_ 8),F,rfl⟩ ?_
 rintro m ρ w ⟨g,i,x,e,l,mm,hag,I,o,F,hm⟩
 subst hm; obtain ⟨ρ,rfl⟩:=hag.form; clear hag
 obtain _ | m1:=mm
 ·cases (show (none:Option Bool)=some r from F)
 replace F:F98b1 f N (F98l1 f N m1) e l=some r:=F; unfold F98b1 at F
 refine ab (rgn (by kernel_rfl) (ifN F (fun y F=>?_) (fun y F=>?_)))
 ·
  refine ac (cm rfl rfl (fun h=>absurd h y) (fun _=>aa (ab (ai rfl (bw (ab (rgn (by kernel_rfl) (pu bT (by kernel_rfl) (aa (aj ?_))))))))))
  cases F
  exact ⟨_,Ret.r1 rfl rfl,⟨rfl,I.below⟩⟩


 refine ac (cm rfl rfl (fun _=>?_) (fun h=>absurd y h))
 refine aa (ab (ah rfl (ak (ab (au (ab (rgn (by kernel_rfl) (gdE F (fun K F=>bt F (fun a E F=>?_))))))))))
 obtain ⟨S,T,L,M,O⟩:=J.at_ bx (by decide) E
 refine ac (cn (l).toNat nt md rfl L rfl (Int.toNat_of_nonneg K).symm (fa E rfl) (ac (ef I (qg a) mh md rfl rfl M (by simp) O (ac (bh I _ zeroValue25 rfl fun U w I=>ac (mb I 0 _ md rfl rfl rfl rfl rfl rfl fun w I=>aa (ab (ab (rgn (by kernel_rfl) (pu (slv g e.length i) (by kernel_rfl) (ac (ma I 0 mh md rfl rfl rfl (bt F (fun V G F=>ifN F (fun A F=>?_) (fun A F=>?_)))))))))))))))
 ·
  refine ac (bg I 116 _ _ (by kernel_rfl) (bn.mono (L116 _ (g.map fun b=>⟨b,0,none⟩) i e a (I.rowCells 1 rfl o) (am rfl o.big) (am rfl o.cap) N _ G) (fun v' w' h=>⟨h.1.trans (congrArg Value.bool (Bool.eq_false_iff.2 A)),h.2⟩)) fun w I=>pu bT (by kernel_rfl) (aa (ah rfl (ab (rgn (by kernel_rfl) (pu bF (by kernel_rfl) (aa (aj ?_))))))))
  cases F
  exact ⟨_,Ret.r1 rfl rfl,⟨rfl,I.below⟩⟩
 refine ac (bg I 116 _ _ (by kernel_rfl) (bn.mono (L116 _ (g.map fun b=>⟨b,0,none⟩) i e a (I.rowCells 1 rfl o) (am rfl o.big) (am rfl o.cap) N _ G) (fun v' w' h=>⟨h.1.trans (congrArg Value.bool A),h.2⟩)) fun w I=>pu bF (by kernel_rfl) (aa (ai rfl (ak (rgn (by kernel_rfl) (pu (slv g e.length i) (by kernel_rfl) (ac (ma I 0 mh md rfl rfl rfl (ac (fu I (qg a) 25 (fun b=>slv (some b) 1 1) (by kernel_rfl) fun W w I=>gdE F (fun X F=>ac (ks I nt (z:=.agg #[iv 0,iv 0,iv 0,iv 0,iv 0,iv 0,iv 0,.string (bts [])]) (k:=8) (bytes:=72) (by kernel_rfl) rfl rfl 2 rfl rfl o (qg a) rfl rfl (I.cells 0 (off:=0) rfl (fun j u h=>by rw [Nat.zero_add]; exact h)) (by simp [Value.oneCell']) (by omega) (by omega) (n2:=(e++[(⟨a.p,a.n,a.k,a.d,a.kn,a.op,a.on,a.t⟩:Rc)]).length) (kr rfl rfl) ?_))))))))))))
 intro B C H w I D
 have D:Row 8 B ((e++[(⟨a.p,a.n,a.k,a.d,a.kn,a.op,a.on,a.t⟩:Rc)]).length) C H (al eRc (e++[(⟨a.p,a.n,a.k,a.d,a.kn,a.op,a.on,a.t⟩:Rc)])):=D.snoc _ rfl
 refine pu (slv B ((e++[(⟨a.p,a.n,a.k,a.d,a.kn,a.op,a.on,a.t⟩:Rc)]).length) C) (by kernel_rfl) (aa (rgn (by kernel_rfl) (ckE F (fun P F=>ac (cj rfl rfl P (pu (iv (l+1)) (by kernel_rfl) (aa (⟨rfl,m1,Nat.lt_succ_self _,⟨B,C,H,e++[(⟨a.p,a.n,a.k,a.d,a.kn,a.op,a.on,a.t⟩:Rc)],l+1,m1,⟨rfl,rfl,rfl,rfl,trivial⟩,I.pk [2] rfl rfl,(D.to rfl rfl),F,rfl⟩⟩))))))))
theorem L108 (w0:World) (a:Rc) (b:Rc) (r:Bool) (F:F108 a b=some r):bn Tryz.prog 108 [.agg (qg a).toArray,.agg (qg b).toArray] w0 fun v w=>v=.bool r∧Below w0.heap.size w0 w:=by
 refine az (n:=30) func108 rfl ntmps108 rfl ?_
 have I:=Inv.start w0
 unfold F108 at F
 refine ab (rgn (by kernel_rfl) (ac (ca I _ rfl fun b4 w I=>ac (ca I _ rfl fun b5 w I=>pu bF (by kernel_rfl) (aa (ab (rgn (by kernel_rfl) (pu2 (pt b4) (pt b4) (by kernel_rfl) (ac (ag I 1 (iv a.p) zi3 rfl rfl rfl (pu2 (pt b5) (pt b5) (by kernel_rfl) (ac (ag I 0 (iv b.p) zi3 rfl rfl rfl (ifE F (fun e F=>?_) (fun e F=>?_)))))))))))))))
 ·
  refine ac (cm rfl rfl (fun _=>?_) (fun h=>absurd e h))
  refine pu bT (by kernel_rfl) (sf 8 (by kernel_rfl) (seq_offN (by kernel_rfl) (seq_offN (by kernel_rfl) (seq_offN (by kernel_rfl) (seq_offN (by kernel_rfl) (seq_offN (by kernel_rfl) (seq_offN (by kernel_rfl) (seq_offN (by kernel_rfl) (of_ (by kernel_rfl) (pu2 bT bT (by kernel_rfl) (aa (aj ?_))))))))))))
  cases F
  exact ⟨_,Ret.r1 rfl rfl,⟨rfl,I.below⟩⟩
 refine ac (cm rfl rfl (fun h=>absurd h e) (fun _=>pu bF (by kernel_rfl) (pup (pt b4) (by kernel_rfl) (pup (pt b4) (by kernel_rfl) (aw (by kernel_rfl) (ag I 1 (iv a.p) zi3 rfl rfl rfl (pup (pt b5) (by kernel_rfl) (pup (pt b5) (by kernel_rfl) (aw (by kernel_rfl) (ag I 0 (iv b.p) zi3 rfl rfl rfl (ifN F (fun f F=>?_) (fun f F=>?_))))))))))))
 ·
  refine aw (by kernel_rfl) (di rfl rfl (fun h=>absurd h f) (fun _=>pup bF (by kernel_rfl) (sf 7 (by kernel_rfl) (pup bF (by kernel_rfl) (pu2 bF bF (by kernel_rfl) (aa (aj ?_)))))))
  cases F
  exact ⟨_,Ret.r1 rfl rfl,⟨rfl,I.below⟩⟩


 refine aw (by kernel_rfl) (di rfl rfl (fun _=>?_) (fun h=>absurd f h))
 refine pup bT (by kernel_rfl) (pup (pt b4) (by kernel_rfl) (pup (.pointer (some ⟨b4,1,none⟩)) (by kernel_rfl) (aw (by kernel_rfl) (ag I 1 (iv a.n) zi3 rfl rfl rfl (pup (pt b5) (by kernel_rfl) (pup (.pointer (some ⟨b5,1,none⟩)) (by kernel_rfl) (aw (by kernel_rfl) (ag I 0 (iv b.n) zi3 rfl rfl rfl (ifE F (fun g F=>?_) (fun g F=>?_))))))))))
 ·
  refine aw (by kernel_rfl) (cm rfl rfl (fun _=>?_) (fun h=>absurd g h))
  refine pup bT (by kernel_rfl) (pu2 bT bT (by kernel_rfl) (aa (aj ?_)))
  cases F
  exact ⟨_,Ret.r1 rfl rfl,⟨rfl,I.below⟩⟩
 refine aw (by kernel_rfl) (cm rfl rfl (fun h=>absurd h g) (fun _=>pup bF (by kernel_rfl) (pu2 bF bF (by kernel_rfl) (aa (aj ?_)))))
 cases F
 exact ⟨_,Ret.r1 rfl rfl,⟨rfl,I.below⟩⟩
theorem L104 (w0:World) (s:Option Addr) (q:Nat) (e:List Rc) (a:Rc) (H:bi w0 s (al eRc e)) (aC:e.length≤9223372036854775807) (S:e.length≤q) (N:Nat) (r:List Rc) (F:F104 N e a=some r):bn Tryz.prog 104 [.slice s e.length q,.agg (qg a).toArray] w0 fun v w=>∃ (z0:Option Nat) (z1:Nat) (z2:List Value),v=slv z0 r.length z1∧Inv [] w0 w [(z0,blk z2 25)]∧Row 8 z0 r.length z1 z2 (al eRc r):=by
 refine az (n:=32) func104 rfl ntmps104 rfl ?_
 have I:=Inv.start w0
 unfold F104 at F
 refine ab (rgn (by kernel_rfl) (ac (ca I _ rfl fun x w I=>pu (.slice none 0 0) (by kernel_rfl) (aa (ab (rgn (by kernel_rfl) (pu (iv 0) (by kernel_rfl) (aa (dn (fun ρ w=>∃ (f:Int),cd ρ [(0,.slice s e.length q),(3,pt x),(5,iv f)]∧Inv [] w0 w [(some x,blk (qg a) 25)]∧F104j1 e a f=some r) ?_ ?_)))))))))
 ·
  refine au (cb (fun m ρ w=>∃ (o:Int) (mm:Nat),cd ρ [(0,.slice s e.length q),(3,pt x),(5,iv o)]∧Inv [] w0 w [(some x,blk (qg a) 25)]∧F104l2 e a mm o=some r∧mm=m) (m:=N) ⟨0,N,⟨rfl,rfl,rfl,trivial⟩,I.pk [0] rfl rfl,F,rfl⟩ ?_)
  rintro m ρ w ⟨o,mm,hag,I,F,hm⟩
  subst hm; obtain ⟨ρ,rfl⟩:=hag.form; clear hag
  obtain _ | m2:=mm
  ·cases (show (none:Option (List Rc))=some r from F)
  replace F:F104b2 e a (F104l2 e a m2) o=some r:=F; unfold F104b2 at F
  refine ab (dn (fun ρ w=>cd ρ [(0,.slice s e.length q),(3,pt x),(5,iv o),(17,bF)]∧Inv [] w0 w [(some x,blk (qg a) 25)]∧F104j3 e a o=some r) ?_ ?_)
  ·
   refine gm 12 I (by kernel_rfl) (zp2 (iv o) (.slice s e.length q) (fun _=>(by kernel_rfl)) (zc (iv (e.length:Int)) (fun w I=>kl (iv ((e.length:Nat):Int)) (by kernel_rfl) br) (ifN F (fun J F=>?_) (fun J F=>?_))))
   ·
    refine zc bF (fun w I=>cm rfl rfl (fun h=>absurd h J) (fun _=>br)) (zp bF (fun _=>(by kernel_rfl)) (zf 6 (by kernel_rfl) (zp bF (fun _=>(by kernel_rfl)) (zh (fun w I=>aa (.inl ⟨rfl,⟨⟨rfl,rfl,rfl,rfl,trivial⟩,I.pk [0] rfl rfl,F⟩⟩))))))
   refine zc bT (fun w I=>cm rfl rfl (fun _=>br) (fun h=>absurd J h)) (zp bT (fun _=>(by kernel_rfl)) (zq (.slice s e.length q) (by kernel_rfl) (fun _=>(by kernel_rfl)) (zq (iv o) (by kernel_rfl) (fun _=>(by kernel_rfl)) (gdE F (fun Z F=>bt F (fun i T F=>?_))))))
   obtain ⟨a0,a1,a2,a3,a4⟩:=H.at_ bx (by decide) T
   refine zo (.pointer (some ⟨a0,a1+(o).toNat * 8,none⟩)) (by kernel_rfl) (fun w I=>cn (o).toNat nt md rfl a2 rfl (Int.toNat_of_nonneg Z).symm (fa T rfl) br) (zo (.agg (qg i).toArray) (by kernel_rfl) (fun w I=>ef I (qg i) mh md rfl rfl a3 (by simp) a4 br) (zo (.agg (qg a).toArray) (by kernel_rfl) (fun w I=>ma I 0 mh md rfl rfl rfl br) (bt F (fun aD U F=>ifN F (fun K F=>?_) (fun K F=>?_)))))
   ·
    refine zo bF (by kernel_rfl) (fun w I=>co 108 [.agg (qg i).toArray,.agg (qg a).toArray] (by kernel_rfl) (bn.mono (L108 _ i a _ U) (fun v' w' h=>⟨h.1.trans (congrArg Value.bool (Bool.eq_false_iff.2 K)),h.2⟩)) (fun v' w' h=>h)) (zp bF (fun _=>(by kernel_rfl)) (zh (fun w I=>aa (.inl ⟨rfl,⟨⟨rfl,rfl,rfl,rfl,trivial⟩,I.pk [0] rfl rfl,F⟩⟩))))
   refine zo bT (by kernel_rfl) (fun w I=>co 108 [.agg (qg i).toArray,.agg (qg a).toArray] (by kernel_rfl) (bn.mono (L108 _ i a _ U) (fun v' w' h=>⟨h.1.trans (congrArg Value.bool K),h.2⟩)) (fun v' w' h=>h)) (zp bT (fun _=>(by kernel_rfl)) (zh (fun w I=>aa (.inr (ah rfl (ak (au (rgn (by kernel_rfl) (pu (iv o) (by kernel_rfl) (ckE F (fun a5 F=>ac (cj rfl rfl a5 (pu (iv (o+1)) (by kernel_rfl) (aa (⟨rfl,m2,Nat.lt_succ_self _,⟨o+1,m2,⟨rfl,rfl,rfl,trivial⟩,I.pk [0] rfl rfl,F,rfl⟩⟩)))))))))))))))
  intro ρ w hJ
  obtain ⟨hag,I,F⟩:=hJ
  obtain ⟨ρ,rfl⟩:=hag.form; clear hag
  unfold F104j3 at F
  refine ai rfl (bw (.inl ⟨rfl,⟨o,⟨rfl,rfl,rfl,trivial⟩,I.pk [0] rfl rfl,F⟩⟩))
 intro ρ w hJ
 obtain ⟨f,hag,I,F⟩:=hJ
 obtain ⟨ρ,rfl⟩:=hag.form; clear hag
 unfold F104j1 at F
 refine ab (gdE F (fun V F=>gdE F (fun a6 F=>gdE F (fun aE F=>gdE F (fun aF F=>gdE F (fun a7 F=>gdE F (fun aG F=>?_)))))))
 obtain ⟨a8,hC787,a9⟩:=cutA (enc:=eRc) (l:=e) (lo:=0) (hi:=(f).toNat) (c:=q) (k:=8) bx H a6 S
 obtain ⟨aA,hC798,aB⟩:=cutA (enc:=eRc) (l:=e) (lo:=(f).toNat) (hi:=e.length) (c:=q) (k:=8) bx H a7 S
 refine kx [⟨fun y=>(.slice (some ⟨(y 0).b,0,none⟩) 0 0),fun y=>[(some (y 0).b,blk [] 25)],fun _=>True,[],[]⟩,tv (fun _=>(.slice s e.length q)),tv (fun _=>(iv f)),tr (fun _=>(.slice a8 (((e.drop 0).take ((f).toNat - 0)).length) (q - 0))) [],⟨fun y=>(slv ((y 4).g 0) (((e.drop 0).take ((f).toNat - 0)).length) ((y 4).c 0)),fun y=>[(((y 4).g 0),blk ((y 4).cl 0) 25)],fun y=>(Row 8 ((y 4).g 0) (((e.drop 0).take ((f).toNat - 0)).length) ((y 4).c 0) ((y 4).cl 0) (al eRc ((e.drop 0).take ((f).toNat - 0)))),[0],[]⟩,tr (fun _=>(.agg (qg a).toArray)) [13],⟨fun y=>(.slice (some ⟨(y 6).b,0,none⟩) 1 1),fun y=>[(some (y 6).b,blk (qg a) 25)],fun _=>True,[],[]⟩,⟨fun y=>(slv ((y 7).g 0) ((((e.drop 0).take ((f).toNat - 0))++[(⟨a.p,a.n,a.k,a.d,a.kn,a.op,a.on,a.t⟩:Rc)]).length) ((y 7).c 0)),fun y=>[(((y 7).g 0),blk ((y 7).cl 0) 25)],fun y=>(Row 8 ((y 7).g 0) ((((e.drop 0).take ((f).toNat - 0))++[(⟨a.p,a.n,a.k,a.d,a.kn,a.op,a.on,a.t⟩:Rc)]).length) ((y 7).c 0) ((y 7).cl 0) (al eRc (((e.drop 0).take ((f).toNat - 0))++[(⟨a.p,a.n,a.k,a.d,a.kn,a.op,a.on,a.t⟩:Rc)]))),[4],[6]⟩,tv (fun _=>(.slice s e.length q)),tv (fun _=>(iv f)),tr (fun _=>(.slice aA (((e.drop (f).toNat).take (e.length - (f).toNat)).length) (q - (f).toNat))) [],⟨fun y=>(slv ((y 11).g 0) (((((e.drop 0).take ((f).toNat - 0))++[(⟨a.p,a.n,a.k,a.d,a.kn,a.op,a.on,a.t⟩:Rc)])++((e.drop (f).toNat).take (e.length - (f).toNat))).length) ((y 11).c 0)),fun y=>[(((y 11).g 0),blk ((y 11).cl 0) 25)],fun y=>(Row 8 ((y 11).g 0) (((((e.drop 0).take ((f).toNat - 0))++[(⟨a.p,a.n,a.k,a.d,a.kn,a.op,a.on,a.t⟩:Rc)])++((e.drop (f).toNat).take (e.length - (f).toNat))).length) ((y 11).c 0) ((y 11).cl 0) (al eRc ((((e.drop 0).take ((f).toNat - 0))++[(⟨a.p,a.n,a.k,a.d,a.kn,a.op,a.on,a.t⟩:Rc)])++((e.drop (f).toNat).take (e.length - (f).toNat))))),[7],[]⟩,tv (fun y=>(slv ((y 11).g 0) (((((e.drop 0).take ((f).toNat - 0))++[(⟨a.p,a.n,a.k,a.d,a.kn,a.op,a.on,a.t⟩:Rc)])++((e.drop (f).toNat).take (e.length - (f).toNat))).length) ((y 11).c 0)))] (fun y=>[(4,slv ((y 11).g 0) (((((e.drop 0).take ((f).toNat - 0))++[(⟨a.p,a.n,a.k,a.d,a.kn,a.op,a.on,a.t⟩:Rc)])++((e.drop (f).toNat).take (e.length - (f).toNat))).length) ((y 11).c 0))]) (fun y=>[(some (y 6).b,blk (qg a) 25),(((y 11).g 0),blk ((y 11).cl 0) 25),(some x,blk (qg a) 25)]) I (by kernel_rfl) (fun y=>⟨(by kernel_rfl),(by kernel_rfl)⟩) (fun y=>?_) ?_
 ·
  refine tg (.slice (some ⟨(y 0).b,0,none⟩) 0 0) [] [] rfl ⟨(by kernel_rfl),(by kernel_rfl),(by kernel_rfl)⟩ ?_ ?_
  ·intro hp X w I
   refine fu I [] 25 (fun b=>slv (some b) 0 0) (by kernel_rfl) fun W w I=>⟨wit W [] [] [] [],(by kernel_rfl),trivial,I.castL (by kernel_rfl)⟩
  refine tp rfl (fun _=>(by kernel_rfl)) (tp rfl (fun _=>(by kernel_rfl)) (tl0 rfl (fun X w I=>a9 nt md rfl (.inr ⟨rfl,rfl⟩) (.inl (congrArg (fun z=>some (Value.int .i64 z)) (Int.toNat_of_nonneg V).symm)) br) (tg (slv ((y 4).g 0) (((e.drop 0).take ((f).toNat - 0)).length) ((y 4).c 0)) [(some (y 0).b,blk [] 25)] [] rfl ⟨(by kernel_rfl),(by kernel_rfl),(by kernel_rfl)⟩ ?_ ?_)))
  ·intro hp X w I
   refine ks I nt (z:=.agg #[iv 0,iv 0,iv 0,iv 0,iv 0,iv 0,iv 0,.string (bts [])]) (k:=8) (bytes:=72) (by kernel_rfl) rfl rfl 0 rfl rfl (Row.zero_ 8 (y 0).b) (al eRc ((e.drop 0).take ((f).toNat - 0))) rfl (dt bx _) (hC787.inv0 I) (nz eRc_cell _) (by omega) (by omega) (n2:=((e.drop 0).take ((f).toNat - 0)).length) (app_len0 rfl) ?_
   intro L M O w I A
   have A:Row 8 L (((e.drop 0).take ((f).toNat - 0)).length) M O (al eRc ((e.drop 0).take ((f).toNat - 0))):=A
   exact ⟨wit 0 [L] [M] [O] [],(by kernel_rfl),Eq.mp (by kernel_rfl) A,I.castL (by kernel_rfl)⟩
  refine tl1 [(some x,blk (qg a) 25)] rfl (by kernel_rfl) (fun X w I=>ma I 0 mh md rfl rfl rfl br) (tg (.slice (some ⟨(y 6).b,0,none⟩) 1 1) [] [] rfl ⟨(by kernel_rfl),(by kernel_rfl),(by kernel_rfl)⟩ ?_ ?_)
  ·intro hp X w I
   refine fu I (qg a) 25 (fun b=>slv (some b) 1 1) (by kernel_rfl) fun Y w I=>⟨wit Y [] [] [] [],(by kernel_rfl),trivial,I.castL (by kernel_rfl)⟩
  refine tg (slv ((y 7).g 0) ((((e.drop 0).take ((f).toNat - 0))++[(⟨a.p,a.n,a.k,a.d,a.kn,a.op,a.on,a.t⟩:Rc)]).length) ((y 7).c 0)) [(((y 4).g 0),blk ((y 4).cl 0) 25),(some (y 6).b,blk (qg a) 25)] [(some (y 6).b,blk (qg a) 25)] rfl ⟨(by kernel_rfl),(by kernel_rfl),(by kernel_rfl)⟩ ?_ ?_
  ·intro hp X w I
   have A:Row 8 ((y 4).g 0) (((e.drop 0).take ((f).toNat - 0)).length) ((y 4).c 0) ((y 4).cl 0) (al eRc ((e.drop 0).take ((f).toNat - 0))):=pg hp (k:=4) ⟨(by kernel_rfl),(by kernel_rfl)⟩
   refine ks I nt (z:=.agg #[iv 0,iv 0,iv 0,iv 0,iv 0,iv 0,iv 0,.string (bts [])]) (k:=8) (bytes:=72) (by kernel_rfl) rfl rfl 0 rfl rfl A (qg a) rfl rfl (I.cells 1 (off:=0) rfl (fun j u h=>by rw [Nat.zero_add]; exact h)) (by simp [Value.oneCell']) (by omega) (by omega) (n2:=(((e.drop 0).take ((f).toNat - 0))++[(⟨a.p,a.n,a.k,a.d,a.kn,a.op,a.on,a.t⟩:Rc)]).length) (kr rfl rfl) ?_
   intro P Q R w I B
   have B:Row 8 P ((((e.drop 0).take ((f).toNat - 0))++[(⟨a.p,a.n,a.k,a.d,a.kn,a.op,a.on,a.t⟩:Rc)]).length) Q R (al eRc (((e.drop 0).take ((f).toNat - 0))++[(⟨a.p,a.n,a.k,a.d,a.kn,a.op,a.on,a.t⟩:Rc)])):=B.snoc _ rfl
   exact ⟨wit 0 [P] [Q] [R] [],(by kernel_rfl),Eq.mp (by kernel_rfl) B,I.castL (by kernel_rfl)⟩
  refine tp rfl (fun _=>(by kernel_rfl)) (tp rfl (fun _=>(by kernel_rfl)) (tl0 rfl (fun X w I=>aB nt md rfl (.inl (congrArg (fun z=>some (Value.int .i64 z)) (Int.toNat_of_nonneg V).symm)) (.inr ⟨rfl,rfl⟩) br) (tg (slv ((y 11).g 0) (((((e.drop 0).take ((f).toNat - 0))++[(⟨a.p,a.n,a.k,a.d,a.kn,a.op,a.on,a.t⟩:Rc)])++((e.drop (f).toNat).take (e.length - (f).toNat))).length) ((y 11).c 0)) [(((y 7).g 0),blk ((y 7).cl 0) 25)] [] rfl ⟨(by kernel_rfl),(by kernel_rfl),(by kernel_rfl)⟩ ?_ ?_)))
  ·intro hp X w I
   have B:Row 8 ((y 7).g 0) ((((e.drop 0).take ((f).toNat - 0))++[(⟨a.p,a.n,a.k,a.d,a.kn,a.op,a.on,a.t⟩:Rc)]).length) ((y 7).c 0) ((y 7).cl 0) (al eRc (((e.drop 0).take ((f).toNat - 0))++[(⟨a.p,a.n,a.k,a.d,a.kn,a.op,a.on,a.t⟩:Rc)])):=pg hp (k:=7) ⟨(by kernel_rfl),(by kernel_rfl)⟩
   refine ks I nt (z:=.agg #[iv 0,iv 0,iv 0,iv 0,iv 0,iv 0,iv 0,.string (bts [])]) (k:=8) (bytes:=72) (by kernel_rfl) rfl rfl 0 rfl rfl B (al eRc ((e.drop (f).toNat).take (e.length - (f).toNat))) rfl (dt bx _) (hC798.inv0 I) (nz eRc_cell _) (by omega) (by omega) (n2:=((((e.drop 0).take ((f).toNat - 0))++[(⟨a.p,a.n,a.k,a.d,a.kn,a.op,a.on,a.t⟩:Rc)])++((e.drop (f).toNat).take (e.length - (f).toNat))).length) (kr rfl rfl) ?_
   intro D E G w I C
   have C:Row 8 D (((((e.drop 0).take ((f).toNat - 0))++[(⟨a.p,a.n,a.k,a.d,a.kn,a.op,a.on,a.t⟩:Rc)])++((e.drop (f).toNat).take (e.length - (f).toNat))).length) E G (al eRc ((((e.drop 0).take ((f).toNat - 0))++[(⟨a.p,a.n,a.k,a.d,a.kn,a.op,a.on,a.t⟩:Rc)])++((e.drop (f).toNat).take (e.length - (f).toNat)))):=C.more
   exact ⟨wit 0 [D] [E] [G] [],(by kernel_rfl),Eq.mp (by kernel_rfl) C,I.castL (by kernel_rfl)⟩
  refine tpv (slv ((y 11).g 0) (((((e.drop 0).take ((f).toNat - 0))++[(⟨a.p,a.n,a.k,a.d,a.kn,a.op,a.on,a.t⟩:Rc)])++((e.drop (f).toNat).take (e.length - (f).toNat))).length) ((y 11).c 0)) rfl ⟨(by kernel_rfl),fun _=>(by kernel_rfl)⟩ (tn)
 intro y hp ρ w hag I
 have C:Row 8 ((y 11).g 0) (((((e.drop 0).take ((f).toNat - 0))++[(⟨a.p,a.n,a.k,a.d,a.kn,a.op,a.on,a.t⟩:Rc)])++((e.drop (f).toNat).take (e.length - (f).toNat))).length) ((y 11).c 0) ((y 11).cl 0) (al eRc ((((e.drop 0).take ((f).toNat - 0))++[(⟨a.p,a.n,a.k,a.d,a.kn,a.op,a.on,a.t⟩:Rc)])++((e.drop (f).toNat).take (e.length - (f).toNat)))):=pgl hp (k:=11) (by decide) (by kernel_rfl)
 clear hp
 generalize (y 0).b=W at *
 generalize (y 4).g 0=L at *
 generalize (y 4).c 0=M at *
 generalize (y 4).cl 0=O at *
 generalize (y 6).b=Y at *
 generalize (y 7).g 0=P at *
 generalize (y 7).c 0=Q at *
 generalize (y 7).cl 0=R at *
 generalize (y 11).g 0=D at *
 generalize (y 11).c 0=E at *
 generalize (y 11).cl 0=G at *
 obtain ⟨ρ,rfl⟩:=hag.form; clear hag
 refine aj ?_
 cases F
 exact ⟨_,Ret.r1 rfl rfl,⟨D,E,G,rfl,I.pk [1] rfl rfl,C.to rfl rfl⟩⟩


theorem L99 (w0:World) (l:Option Addr) (o:Nat) (a:List Rc) (C:bi w0 l (al eRc a)) (O:a.length≤9223372036854775807) (P:a.length≤o) (N:Nat) (r:List Rc) (F:F99 N a=some r):bn Tryz.prog 99 [.slice l a.length o] w0 fun v w=>∃ (z0:Option Nat) (z1:Nat) (z2:List Value),v=.agg #[slv z0 r.length z1]∧Inv [] w0 w [(z0,blk z2 25)]∧Row 8 z0 r.length z1 z2 (al eRc r):=by
 refine az (n:=18) func99 rfl ntmps99 rfl ?_
 have I:=Inv.start w0
 unfold F99 at F
 refine ab (rgn (by kernel_rfl) (ac (bh I _ zeroValue47 rfl fun x w I=>aa (ab (rgn (by kernel_rfl) (pu (.slice none 0 0) (by kernel_rfl) (aa (ab (ab (rgn (by kernel_rfl) (pu3 (.slice l a.length o) (iv ((a.length:Nat):Int)) (iv 0) (by kernel_rfl) (aa (au ?_)))))))))))))
 have I:=I.nilRow 25
 refine cb (fun m ρ w=>∃ (f:Option Nat) (g:Nat) (q:List Value) (e:List Rc) (j:Int) (mm:Nat),cd ρ [(2,pt x),(3,slv f e.length g),(6,.slice l a.length o),(7,iv (a.length:Int)),(8,iv j)]∧Inv [] w0 w [(some x,blk [.slice none 0 0] 47),(f,blk q 25)]∧(Row 8 f (e.length) g q (al eRc e))∧F99l1 a N mm e j=some r∧mm=m) (m:=N) ⟨none,0,[],[],0,N,⟨rfl,rfl,rfl,rfl,rfl,trivial⟩,I.pk [1,0] rfl rfl,(Row.nil_ 8),F,rfl⟩ ?_
 rintro m ρ w ⟨f,g,q,e,j,mm,hag,I,s,F,hm⟩
 subst hm; obtain ⟨ρ,rfl⟩:=hag.form; clear hag
 obtain _ | m1:=mm
 ·cases (show (none:Option (List Rc))=some r from F)
 replace F:F99b1 a N (F99l1 a N m1) e j=some r:=F; unfold F99b1 at F
 refine ab (rgn (by kernel_rfl) (ifN F (fun u F=>?_) (fun u F=>?_)))
 ·
  refine ac (cm rfl rfl (fun h=>absurd h u) (fun _=>aa (ab (ai rfl (bw (ab (rgn (by kernel_rfl) (pu2 (slv f e.length g) (.agg #[slv f e.length g]) (by kernel_rfl) (ac (mb I 0 _ nm rfl rfl rfl rfl rfl rfl fun w I=>aa (aj ?_)))))))))))
  replace F:=Option.some.inj F; subst F
  exact ⟨_,Ret.c rfl rfl (ce I 0 1 [slv f e.length g] nu nm rfl rfl rfl),⟨f,g,q,rfl,I.pk [1] rfl rfl,s.to rfl rfl⟩⟩


 refine ac (cm rfl rfl (fun _=>?_) (fun h=>absurd u h))
 refine aa (ab (ah rfl (ak (ab (au (ab (rgn (by kernel_rfl) (gdE F (fun D F=>bt F (fun i y F=>?_))))))))))
 obtain ⟨Q,R,E,G,H⟩:=C.at_ bx (by decide) y
 refine ac (cn (j).toNat nt md rfl E rfl (Int.toNat_of_nonneg D).symm (fa y rfl) (ac (ef I (qg i) mh md rfl rfl G (by simp) H (ac (bh I _ zeroValue25 rfl fun S w I=>ac (mb I 0 _ md rfl rfl rfl rfl rfl rfl fun w I=>aa (rgn (by kernel_rfl) (pu (slv f e.length g) (by kernel_rfl) (ac (ma I 0 mh md rfl rfl rfl (bt F (fun z J F=>ac (co 104 _ (by kernel_rfl) (L104 _ (f.map fun b=>⟨b,0,none⟩) g e i (I.rowCells 2 rfl s) (am rfl s.big) (am rfl s.cap) N _ J) ?_)))))))))))))
 rintro v w ⟨A,B,K,rfl,hN,L⟩
 have I:=I.join hN; clear hN
 refine pu (slv A z.length B) (by kernel_rfl) (aa (rgn (by kernel_rfl) (ckE F (fun M F=>ac (cj rfl rfl M (pu (iv (j+1)) (by kernel_rfl) (aa (⟨rfl,m1,Nat.lt_succ_self _,⟨A,B,K,z,j+1,m1,⟨rfl,rfl,rfl,rfl,rfl,trivial⟩,I.pk [2,0] rfl rfl,(L.to rfl rfl),F,rfl⟩⟩))))))))
theorem L28 (w0:World) (b:Option Addr) (d:Nat) (a:List Rc) (e:bi w0 b (al eRc a)) (f:a.length≤9223372036854775807) (g:a.length≤d) (N:Nat) (r:(List Rc × Int)) (F:F28 N a=some r):bn Tryz.prog 28 [.slice b a.length d] w0 fun v w=>∃ (z0:Option Nat) (z1:Nat) (z2:List Value),v=.tuple #[.agg #[slv z0 r.1.length z1],iv r.2]∧Inv [] w0 w [(z0,blk z2 25)]∧Row 8 z0 r.1.length z1 z2 (al eRc r.1):=by
 refine az (n:=10) func28 rfl ntmps28 rfl ?_
 have I:=Inv.start w0
 unfold F28 at F
 refine ab (rgn (by kernel_rfl) (ac (bh I _ zeroValue47 rfl fun q w I=>pu (iv 0) (by kernel_rfl) (aa (ab (ab (rgn (by kernel_rfl) (pu (.slice b a.length d) (by kernel_rfl) (bt F (fun s i F=>ifN F (fun h8 F=>?_) (fun h8 F=>?_)))))))))))
 ·
  refine ac (bg I 98 _ _ (by kernel_rfl) (bn.mono (L98 _ b d a (e.inv0 I) f g N _ i) (fun v' w' h=>⟨h.1.trans (congrArg Value.bool (Bool.eq_false_iff.2 h8)),h.2⟩)) fun w I=>pu bT (by kernel_rfl) (aa (ah rfl (ab (rgn (by kernel_rfl) (pu (.agg #[.slice none 0 0]) (by kernel_rfl) (ac (mb I 0 _ nm rfl rfl rfl rfl rfl rfl fun w I=>pu (iv 81) (by kernel_rfl) (aa (aj ?_))))))))))
  have I:=I.nilRow 25
  cases F
  exact ⟨_,Ret.ct rfl rfl (ce I 1 1 [.slice none 0 0] nu nm rfl rfl rfl) rfl,⟨none,0,[],rfl,I.pk [0] rfl rfl,Row.nil_ 8⟩⟩


 refine ac (bg I 98 _ _ (by kernel_rfl) (bn.mono (L98 _ b d a (e.inv0 I) f g N _ i) (fun v' w' h=>⟨h.1.trans (congrArg Value.bool h8),h.2⟩)) fun w I=>pu bF (by kernel_rfl) (aa (ai rfl (ak (ab (rgn (by kernel_rfl) (pu (.slice b a.length d) (by kernel_rfl) (bt F (fun l m F=>ac (co 99 _ (by kernel_rfl) (L99 _ b d a (e.inv0 I) f g N _ m) ?_))))))))))
 rintro v w ⟨j,k,o,rfl,hN,p⟩
 have I:=I.join hN; clear hN
 refine ac (mb I 1 _ nm rfl rfl rfl rfl rfl rfl fun w I=>pu (iv 0) (by kernel_rfl) (aa (aj ?_)))
 cases F
 exact ⟨_,Ret.ct rfl rfl (ce I 1 1 [slv j l.length k] nu nm rfl rfl rfl) rfl,⟨j,k,o,rfl,I.pk [0] rfl rfl,p.to rfl rfl⟩⟩
theorem L37 (w0:World) (g:Option Addr) (i:Nat) (e:List Rc) (l:bi w0 g (al eRc e)) (x:e.length≤9223372036854775807) (y:e.length≤i) (N:Nat) (r:Int) (F:F37 N e=some r):bn Tryz.prog 37 [.agg #[.slice g e.length i]] w0 fun v w=>v=iv r∧Below w0.heap.size w0 w:=by
 refine az (n:=32) func37 rfl ntmps37 rfl ?_
 have I:=Inv.start w0
 unfold F37 at F
 refine ab (rgn (by kernel_rfl) (ac (ca I _ rfl fun j w I=>pu (iv 0) (by kernel_rfl) (aa (ab (ab (rgn (by kernel_rfl) (pu (pt j) (by kernel_rfl) (ac (ag I 0 (.slice g e.length i) mv rfl rfl rfl (bt F (fun U z F=>ifN F (fun o F=>?_) (fun o F=>?_)))))))))))))
 ·
  refine ac (bg I 98 _ _ (by kernel_rfl) (bn.mono (L98 _ g i e (l.inv0 I) x y N _ z) (fun v' w' h=>⟨h.1.trans (congrArg Value.bool (Bool.eq_false_iff.2 o)),h.2⟩)) fun w I=>pu bT (by kernel_rfl) (aa (ah rfl (ab (rgn (by kernel_rfl) (pu (iv 81) (by kernel_rfl) (aa (aj ?_))))))))
  cases F
  exact ⟨_,Ret.r1 rfl rfl,⟨rfl,I.below⟩⟩


 refine ac (bg I 98 _ _ (by kernel_rfl) (bn.mono (L98 _ g i e (l.inv0 I) x y N _ z) (fun v' w' h=>⟨h.1.trans (congrArg Value.bool o),h.2⟩)) fun w I=>pu bF (by kernel_rfl) (aa (ai rfl (ak (ab (ab (rgn (by kernel_rfl) (pu (pt j) (by kernel_rfl) (ac (ag I 0 (.slice g e.length i) mv rfl rfl rfl (pu2 (iv ((e.length:Nat):Int)) (iv 0) (by kernel_rfl) (aa (au (cb (fun m ρ w=>∃ (f:Int) (mm:Nat),cd ρ [(1,pt j),(10,iv (e.length:Int)),(11,iv f)]∧Inv [] w0 w [(some j,blk [.slice g e.length i] 47)]∧F37l1 e mm f=some r∧mm=m) (m:=N) ⟨0,N,⟨rfl,rfl,rfl,trivial⟩,I.pk [0] rfl rfl,F,rfl⟩ ?_))))))))))))))
 rintro m ρ w ⟨f,mm,hag,I,F,hm⟩
 subst hm; obtain ⟨ρ,rfl⟩:=hag.form; clear hag
 obtain _ | m1:=mm
 ·cases (show (none:Option Int)=some r from F)
 replace F:F37b1 e (F37l1 e m1) f=some r:=F; unfold F37b1 at F
 refine ab (rgn (by kernel_rfl) (ifN F (fun q F=>?_) (fun q F=>?_)))
 ·
  refine ac (cm rfl rfl (fun h=>absurd h q) (fun _=>aa (ab (ai rfl (bw (ab (rgn (by kernel_rfl) (pu (iv 0) (by kernel_rfl) (aa (aj ?_))))))))))
  cases F
  exact ⟨_,Ret.r1 rfl rfl,⟨rfl,I.below⟩⟩
 refine ac (cm rfl rfl (fun _=>?_) (fun h=>absurd q h))
 refine aa (ab (ah rfl (ak (ab (au (ab (rgn (by kernel_rfl) (pu2 (iv f) (iv f) (by kernel_rfl) (aa (dn (fun ρ w=>cd ρ [(1,pt j),(10,iv (e.length:Int)),(11,iv f),(30,bF)]∧Inv [] w0 w [(some j,blk [.slice g e.length i] 47)]∧F37j2 (F37l1 e m1) f=some r) ?_ ?_))))))))))
 ·
  refine gm 17 I (by kernel_rfl) (zp (iv f) (fun _=>(by kernel_rfl)) (ifN F (fun s F=>?_) (fun s F=>?_)))
  ·
   refine zc bF (fun w I=>fh rfl rfl (fun h=>absurd h s) (fun _=>br)) (zp bF (fun _=>(by kernel_rfl)) (zf 13 (by kernel_rfl) (zp bF (fun _=>(by kernel_rfl)) (zh (fun w I=>aa (.inl ⟨rfl,⟨⟨rfl,rfl,rfl,rfl,trivial⟩,I.pk [0] rfl rfl,F⟩⟩))))))
  refine zc bT (fun w I=>fh rfl rfl (fun _=>br) (fun h=>absurd s h)) (zp bT (fun _=>(by kernel_rfl)) (zq (pt j) (by kernel_rfl) (fun _=>(by kernel_rfl)) (zo (.slice g e.length i) (by kernel_rfl) (fun w I=>ag I 0 (.slice g e.length i) mv rfl rfl rfl br) (zq (iv f) (by kernel_rfl) (fun _=>(by kernel_rfl)) (ckE F (fun D F=>zo (iv (f - 1)) (by kernel_rfl) (fun w I=>s_sub rfl rfl D br) (gdE F (fun E F=>bt F (fun a A F=>?_)))))))))
  obtain ⟨G,H,J,K,L⟩:=l.at_ bx (by decide) A
  refine zo (.pointer (some ⟨G,H+((f - 1).toNat) * 8,none⟩)) (by kernel_rfl) (fun w I=>cn ((f - 1).toNat) nt md rfl J rfl (Int.toNat_of_nonneg E).symm (fa A rfl) br) (zo (.agg (qg a).toArray) (by kernel_rfl) (fun w I=>ef I (qg a) mh md rfl rfl K (by simp) L br) (zq (pt j) (by kernel_rfl) (fun _=>(by kernel_rfl)) (zo (.slice g e.length i) (by kernel_rfl) (fun w I=>ag I 0 (.slice g e.length i) mv rfl rfl rfl br) (zq (iv f) (by kernel_rfl) (fun _=>(by kernel_rfl)) (gdE F (fun M F=>bt F (fun b B F=>?_)))))))
  obtain ⟨O,P,Q,R,S⟩:=l.at_ bx (by decide) B
  refine zo (.pointer (some ⟨O,P+(f).toNat * 8,none⟩)) (by kernel_rfl) (fun w I=>cn (f).toNat nt md rfl Q rfl (Int.toNat_of_nonneg M).symm (fa B rfl) br) (zo (.agg (qg b).toArray) (by kernel_rfl) (fun w I=>ef I (qg b) mh md rfl rfl R (by simp) S br) (bt F (fun V C F=>ifE F (fun u F=>?_) (fun u F=>?_))))
  ·
   refine zo bT (by kernel_rfl) (fun w I=>co 108 [.agg (qg a).toArray,.agg (qg b).toArray] (by kernel_rfl) (bn.mono (L108 _ a b _ C) (fun v' w' h=>⟨h.1.trans (congrArg Value.bool u),h.2⟩)) (fun v' w' h=>h)) (zq bF (by kernel_rfl) (fun _=>(by kernel_rfl)) (zp bF (fun _=>(by kernel_rfl)) (zh (fun w I=>aa (.inl ⟨rfl,⟨⟨rfl,rfl,rfl,rfl,trivial⟩,I.pk [0] rfl rfl,F⟩⟩)))))
  refine zo bF (by kernel_rfl) (fun w I=>co 108 [.agg (qg a).toArray,.agg (qg b).toArray] (by kernel_rfl) (bn.mono (L108 _ a b _ C) (fun v' w' h=>⟨h.1.trans (congrArg Value.bool (Bool.eq_false_iff.2 u)),h.2⟩)) (fun v' w' h=>h)) (zq bT (by kernel_rfl) (fun _=>(by kernel_rfl)) (zp bT (fun _=>(by kernel_rfl)) (zh (fun w I=>aa (.inr (ah rfl (ab (rgn (by kernel_rfl) (pu (iv 81) (by kernel_rfl) (aa (aj ?_)))))))))))
  cases F
  exact ⟨_,Ret.r1 rfl rfl,⟨rfl,I.below⟩⟩
 intro ρ w hJ
 obtain ⟨hag,I,F⟩:=hJ
 obtain ⟨ρ,rfl⟩:=hag.form; clear hag
 unfold F37j2 at F
 refine ai rfl (ak (rgn (by kernel_rfl) (ckE F (fun T F=>ac (cj rfl rfl T (pu (iv (f+1)) (by kernel_rfl) (aa (⟨rfl,m1,Nat.lt_succ_self _,⟨f+1,m1,⟨rfl,rfl,rfl,trivial⟩,I.pk [0] rfl rfl,F,rfl⟩⟩))))))))
theorem L105 (w0:World) (i:Option Addr) (j:Nat) (f:List Rc) (e:It) (u:bi w0 i (al eRc f)) (D:f.length≤9223372036854775807) (E:f.length≤j) (N:Nat) (r:Int) (F:F105 N f e=some r):bn Tryz.prog 105 [.slice i f.length j,.agg #[iv e.p,iv e.n]] w0 fun v w=>v=iv r∧Below w0.heap.size w0 w:=by
 refine az (n:=20) func105 rfl ntmps105 rfl ?_
 have I:=Inv.start w0
 unfold F105 at F
 refine ab (rgn (by kernel_rfl) (ac (ca I _ rfl fun q w I=>pu (iv 0) (by kernel_rfl) (aa (ab (ab (rgn (by kernel_rfl) (pu3 (.slice i f.length j) (iv ((f.length:Nat):Int)) (iv 0) (by kernel_rfl) (aa (au (cb (fun m ρ w=>∃ (g:Int) (mm:Nat),cd ρ [(3,pt q),(7,.slice i f.length j),(8,iv (f.length:Int)),(9,iv g)]∧Inv [] w0 w [(some q,blk [iv e.p,iv e.n] 23)]∧F105l1 f e mm g=some r∧mm=m) (m:=N) ⟨0,N,⟨rfl,rfl,rfl,rfl,trivial⟩,I.pk [0] rfl rfl,F,rfl⟩ ?_)))))))))))
 rintro m ρ w ⟨g,mm,hag,I,F,hm⟩
 subst hm; obtain ⟨ρ,rfl⟩:=hag.form; clear hag
 obtain _ | m1:=mm
 ·cases (show (none:Option Int)=some r from F)
 replace F:F105b1 f e (F105l1 f e m1) g=some r:=F; unfold F105b1 at F
 refine ab (rgn (by kernel_rfl) (ifN F (fun l F=>?_) (fun l F=>?_)))
 ·
  refine ac (cm rfl rfl (fun h=>absurd h l) (fun _=>aa (ab (ai rfl (bw (ab (rgn (by kernel_rfl) (pu (iv (-1)) (by kernel_rfl) (aa (aj ?_))))))))))
  cases F
  exact ⟨_,Ret.r1 rfl rfl,⟨rfl,I.below⟩⟩


 refine ac (cm rfl rfl (fun _=>?_) (fun h=>absurd l h))
 refine aa (ab (ah rfl (ak (ab (au (ab (rgn (by kernel_rfl) (pu (iv g) (by kernel_rfl) (gdE F (fun x F=>bt F (fun a s F=>?_)))))))))))
 obtain ⟨G,H,y,z,A⟩:=u.at_ bx (by decide) s
 refine ac (cn (g).toNat nt md rfl y rfl (Int.toNat_of_nonneg x).symm (fa s rfl) (ac (ef I (qg a) mh md rfl rfl z (by simp) A (ac (bh I _ zeroValue25 rfl fun B w I=>pu (iv g) (by kernel_rfl) (ac (mb I 0 _ md rfl rfl rfl rfl rfl rfl fun w I=>aa (ab (rgn (by kernel_rfl) (pu (pt B) (by kernel_rfl) (ac (ar I 0 2 [iv a.p,iv a.n] zi23 zs23 rfl rfl rfl rfl (ac (ma I 1 zi23 zs23 rfl rfl rfl (ifE F (fun o F=>?_) (fun o F=>?_))))))))))))))))
 ·
  refine ac (kz (b:=decide (a.p=e.p) && decide (a.n=e.n)) rfl rfl (by kernel_rfl) (fun w=>eq23 _ a.p a.n e.p e.n w) (fun _=>?_) (fun h=>absurd o h))
  refine aa (ah rfl (ab (rgn (by kernel_rfl) (pu2 (iv g) (iv g) (by kernel_rfl) (aa (aj ?_))))))
  cases F
  exact ⟨_,Ret.r1 rfl rfl,⟨rfl,I.below⟩⟩
 refine ac (kz (b:=decide (a.p=e.p) && decide (a.n=e.n)) rfl rfl (by kernel_rfl) (fun w=>eq23 _ a.p a.n e.p e.n w) (fun h=>absurd h o) (fun _=>aa (ai rfl (ak (rgn (by kernel_rfl) (ckE F (fun C F=>ac (cj rfl rfl C (pu (iv (g+1)) (by kernel_rfl) (aa (⟨rfl,m1,Nat.lt_succ_self _,⟨g+1,m1,⟨rfl,rfl,rfl,rfl,trivial⟩,I.pk [1] rfl rfl,F,rfl⟩⟩)))))))))))
theorem L103 (w0:World) (g:Option Addr) (i:Nat) (f:List Rc) (a:Rc) (q:bi w0 g (al eRc f)) (A:f.length≤9223372036854775807) (B:f.length≤i) (N:Nat) (r:(Bool × Int)) (F:F103 N f a=some r):bn Tryz.prog 103 [.slice g f.length i,.agg (qg a).toArray] w0 fun v w=>v=.tuple #[.bool r.1,iv r.2]∧Below w0.heap.size w0 w:=by
 refine az (n:=41) func103 rfl ntmps103 rfl ?_
 have I:=Inv.start w0
 unfold F103 at F
 refine ab (rgn (by kernel_rfl) (ac (ca I _ rfl fun l w I=>pu2 bF (iv 0) (by kernel_rfl) (aa (ab (ab (rgn (by kernel_rfl) (ac (ma I 0 mh md rfl rfl rfl (bt F (fun m D F=>ac (bg I 18 _ _ (by kernel_rfl) (L18 _ a N _ D) fun w I=>pu (iv m) (by kernel_rfl) (aa (ab (rgn (by kernel_rfl) (pu (iv m) (by kernel_rfl) (ifN F (fun s F=>?_) (fun s F=>?_))))))))))))))))))
 ·
  refine ac (de rfl rfl (fun _=>?_) (fun h=>absurd h s))
  refine aa (ah rfl (ab (rgn (by kernel_rfl) (pu3 (iv m) bF (iv m) (by kernel_rfl) (aa (aj ?_))))))
  cases F
  exact ⟨_,Ret.r2 rfl rfl rfl,⟨rfl,I.below⟩⟩


 refine ac (de rfl rfl (fun h=>absurd s h) (fun _=>aa (ai rfl (ak (ab (rgn (by kernel_rfl) (pu2 (.slice g f.length i) (pt l) (by kernel_rfl) (ac (ar I 0 2 [iv a.p,iv a.n] zi23 zs23 rfl rfl rfl rfl (bt F (fun j E F=>ac (bg I 105 _ _ (by kernel_rfl) (L105 _ g i f (⟨a.p,a.n⟩:It) (q.inv0 I) A B N _ E) fun w I=>pu (iv j) (by kernel_rfl) (aa (ab (dn (fun ρ w=>cd ρ [(0,.slice g f.length i),(3,pt l),(7,iv j),(26,bF)]∧Inv [] w0 w [(some l,blk (qg a) 25)]∧F103j1 f a N j=some r) ?_ ?_)))))))))))))))
 ·
  refine gm 10 I (by kernel_rfl) (zp (iv j) (fun _=>(by kernel_rfl)) (ifN F (fun o F=>?_) (fun o F=>?_)))
  ·
   refine zc bF (fun w I=>s_geq rfl rfl (fun h=>absurd h o) (fun _=>br)) (zp bF (fun _=>(by kernel_rfl)) (zf 6 (by kernel_rfl) (zp bF (fun _=>(by kernel_rfl)) (zh (fun w I=>aa (.inl ⟨rfl,⟨⟨rfl,rfl,rfl,rfl,trivial⟩,I.pk [0] rfl rfl,F⟩⟩))))))
  refine zc bT (fun w I=>s_geq rfl rfl (fun _=>br) (fun h=>absurd o h)) (zp bT (fun _=>(by kernel_rfl)) (zq (.slice g f.length i) (by kernel_rfl) (fun _=>(by kernel_rfl)) (zq (iv j) (by kernel_rfl) (fun _=>(by kernel_rfl)) (bt F (fun e C F=>?_)))))
  obtain ⟨G,H,J,K,L⟩:=q.at_ bx (by decide) C
  refine zo (.pointer (some ⟨G,H+(j).toNat * 8,none⟩)) (by kernel_rfl) (fun w I=>cn (j).toNat nt md rfl J rfl (Int.toNat_of_nonneg o).symm (fa C rfl) br) (zo (.agg (qg e).toArray) (by kernel_rfl) (fun w I=>ef I (qg e) mh md rfl rfl K (by simp) L br) (zo (.agg (qg a).toArray) (by kernel_rfl) (fun w I=>ma I 0 mh md rfl rfl rfl br) (ifE F (fun u F=>?_) (fun u F=>?_))))
  ·
   refine zo bF (by kernel_rfl) (fun w I=>lg (b:=decide (e.p=a.p) && decide (e.n=a.n) && decide (e.k=a.k) && decide (e.d=a.d) && decide (e.kn=a.kn) && decide (e.op=a.op) && decide (e.on=a.on) && decide (e.t=a.t)) rfl rfl (by kernel_rfl) (fun w=>eq25 _ e.p e.n e.k e.d e.kn e.op e.on e.t a.p a.n a.k a.d a.kn a.op a.on a.t w) (fun h=>absurd u h) (fun _=>br)) (zp bF (fun _=>(by kernel_rfl)) (zh (fun w I=>aa (.inl ⟨rfl,⟨⟨rfl,rfl,rfl,rfl,trivial⟩,I.pk [0] rfl rfl,F⟩⟩))))
  refine zo bT (by kernel_rfl) (fun w I=>lg (b:=decide (e.p=a.p) && decide (e.n=a.n) && decide (e.k=a.k) && decide (e.d=a.d) && decide (e.kn=a.kn) && decide (e.op=a.op) && decide (e.on=a.on) && decide (e.t=a.t)) rfl rfl (by kernel_rfl) (fun w=>eq25 _ e.p e.n e.k e.d e.kn e.op e.on e.t a.p a.n a.k a.d a.kn a.op a.on a.t w) (fun _=>br) (fun h=>absurd h u)) (zp bT (fun _=>(by kernel_rfl)) (zh (fun w I=>aa (.inr (ah rfl (ab (rgn (by kernel_rfl) (pu2 bF (iv 82) (by kernel_rfl) (aa (aj ?_))))))))))
  cases F
  exact ⟨_,Ret.r2 rfl rfl rfl,⟨rfl,I.below⟩⟩
 intro ρ w hJ
 obtain ⟨hag,I,F⟩:=hJ
 obtain ⟨ρ,rfl⟩:=hag.form; clear hag
 unfold F103j1 at F
 refine ai rfl (ak (ab (ab (rgn (by kernel_rfl) (pu (iv j) (by kernel_rfl) (ifE F (fun x F=>?_) (fun x F=>?_)))))))
 ·
  refine ac (s_geq rfl rfl (fun _=>?_) (fun h=>absurd x h))
  refine aa (ah rfl (ab (rgn (by kernel_rfl) (pu2 bT (iv 0) (by kernel_rfl) (aa (aj ?_))))))
  cases F
  exact ⟨_,Ret.r2 rfl rfl rfl,⟨rfl,I.below⟩⟩
 refine ac (s_geq rfl rfl (fun h=>absurd h x) (fun _=>aa (ai rfl (ak (ab (ab (gm 9 I (by kernel_rfl) (zp2 (pt l) (.pointer (some ⟨l,1,none⟩)) (fun _=>(by kernel_rfl)) (zc (iv a.n) (fun w I=>ag I 0 (iv a.n) zi3 rfl rfl rfl br) (zp2 (.slice g f.length i) (pt l) (fun _=>(by kernel_rfl)) (zp (pt l) (fun _=>(by kernel_rfl)) (zc (iv a.p) (fun w I=>ag I 0 (iv a.p) zi3 rfl rfl rfl br) (bt F (fun M O F=>zc (iv M) (fun w I=>co 132 [.slice g f.length i,iv a.p] (by kernel_rfl) (L132 _ g i f a.p (q.inv0 I) A B N _ O) (fun v' w' h=>h)) (ifE F (fun y F=>?_) (fun y F=>?_))))))))))))))))
 ·
  refine zc bT (fun w I=>fh rfl rfl (fun _=>br) (fun h=>absurd y h)) (zh (fun w I=>aa (ah rfl (ab (rgn (by kernel_rfl) (pu2 bF (iv 83) (by kernel_rfl) (aa (aj ?_))))))))
  cases F
  exact ⟨_,Ret.r2 rfl rfl rfl,⟨rfl,I.below⟩⟩
 refine zc bF (fun w I=>fh rfl rfl (fun h=>absurd h y) (fun _=>br)) (zh (fun w I=>aa (ai rfl (ak (ab (ab (rgn (by kernel_rfl) (pu2 (.slice g f.length i) (iv ((f.length:Nat):Int)) (by kernel_rfl) (ifE F (fun z F=>?_) (fun z F=>?_))))))))))
 ·
  refine ac (di rfl rfl (fun _=>?_) (fun h=>absurd z h))
  refine aa (ah rfl (ab (rgn (by kernel_rfl) (pu2 bF (iv 2) (by kernel_rfl) (aa (aj ?_))))))
  cases F
  exact ⟨_,Ret.r2 rfl rfl rfl,⟨rfl,I.below⟩⟩
 refine ac (di rfl rfl (fun h=>absurd h z) (fun _=>aa (ai rfl (ak (ab (rgn (by kernel_rfl) (pu2 bF (iv 0) (by kernel_rfl) (aa (aj ?_)))))))))
 cases F
 exact ⟨_,Ret.r2 rfl rfl rfl,⟨rfl,I.below⟩⟩
theorem L30 (w0:World) (e:Option Addr) (f:Nat) (a:List Rc) (b:Rc) (i:bi w0 e (al eRc a)) (j:a.length≤9223372036854775807) (l:a.length≤f) (N:Nat) (r:(List Rc × Int)) (F:F30 N a b=some r):bn Tryz.prog 30 [.agg #[.slice e a.length f],.agg (qg b).toArray] w0 fun v w=>∃ (z0:Option Nat) (z1:Nat) (z2:List Value),v=.tuple #[.agg #[slv z0 r.1.length z1],iv r.2]∧Inv [] w0 w [(z0,blk z2 25)]∧Row 8 z0 r.1.length z1 z2 (al eRc r.1):=by
 refine az (n:=35) func30 rfl ntmps30 rfl ?_
 have I:=Inv.start w0
 unfold F30 at F
 refine ab (rgn (by kernel_rfl) (ac (ca I _ rfl fun o w I=>ac (ca I _ rfl fun O w I=>ac (bh I _ zeroValue47 rfl fun P w I=>pu (iv 0) (by kernel_rfl) (aa (ab (ab (rgn (by kernel_rfl) (ac (ma I 2 nu nm rfl rfl rfl (bt F (fun m C F=>ac (bg I 37 _ _ (by kernel_rfl) (L37 _ e f a (i.inv0 I) j l N _ C) fun w I=>pu (iv m) (by kernel_rfl) (aa (ab (rgn (by kernel_rfl) (pu (iv m) (by kernel_rfl) (ifN F (fun q F=>?_) (fun q F=>?_))))))))))))))))))))
 ·
  refine ac (de rfl rfl (fun _=>?_) (fun h=>absurd h q))
  refine aa (ah rfl (ab (rgn (by kernel_rfl) (pu2 (.agg #[.slice none 0 0]) (iv m) (by kernel_rfl) (ac (mb I 0 _ nm rfl rfl rfl rfl rfl rfl fun w I=>pu (iv m) (by kernel_rfl) (aa (aj ?_))))))))
  have I:=I.nilRow 25
  cases F
  exact ⟨_,Ret.ct rfl rfl (ce I 1 1 [.slice none 0 0] nu nm rfl rfl rfl) rfl,⟨none,0,[],rfl,I.pk [0] rfl rfl,Row.nil_ 8⟩⟩


 refine ac (de rfl rfl (fun h=>absurd q h) (fun _=>aa (ai rfl (ak (ab (rgn (by kernel_rfl) (pu (pt o) (by kernel_rfl) (ac (ag I 2 (.slice e a.length f) mv rfl rfl rfl (ac (ma I 1 mh md rfl rfl rfl (bt F (fun g D F=>ac (bg I 103 _ _ (by kernel_rfl) (L103 _ e f a b (i.inv0 I) j l N _ D) fun w I=>pu3 (.tuple #[.bool g.1,iv g.2]) (.bool g.1) (iv g.2) (by kernel_rfl) (pu2 (.bool g.1) (iv g.2) (by kernel_rfl) (aa (ab (ab (rgn (by kernel_rfl) (pu (iv g.2) (by kernel_rfl) (ifN F (fun s F=>?_) (fun s F=>?_))))))))))))))))))))))
 ·
  refine ac (de rfl rfl (fun _=>?_) (fun h=>absurd h s))
  refine aa (ah rfl (ab (rgn (by kernel_rfl) (pu2 (.agg #[.slice none 0 0]) (iv g.2) (by kernel_rfl) (ac (mb I 0 _ nm rfl rfl rfl rfl rfl rfl fun w I=>pu (iv g.2) (by kernel_rfl) (aa (aj ?_))))))))
  have I:=I.nilRow 25
  cases F
  exact ⟨_,Ret.ct rfl rfl (ce I 1 1 [.slice none 0 0] nu nm rfl rfl rfl) rfl,⟨none,0,[],rfl,I.pk [0] rfl rfl,Row.nil_ 8⟩⟩
 refine ac (de rfl rfl (fun h=>absurd s h) (fun _=>aa (ai rfl (ak (ab (ab (ifE F (fun u F=>?_) (fun u F=>?_))))))))
 ·
  rw [u]
  refine rgn (by kernel_rfl) (pu bT (by kernel_rfl) (aa (ah rfl (ab (rgn (by kernel_rfl) (pu (pt o) (by kernel_rfl) (ac (ag I 2 (.slice e a.length f) mv rfl rfl rfl (bt F (fun E G F=>ac (co 99 _ (by kernel_rfl) (L99 _ e f a (i.inv0 I) j l N _ G) ?_)))))))))))
  rintro v w ⟨z,A,H,rfl,hN,J⟩
  have I:=I.join hN; clear hN
  refine ac (mb I 1 _ nm rfl rfl rfl rfl rfl rfl fun w I=>pu (iv 0) (by kernel_rfl) (aa (aj ?_)))
  cases F
  exact ⟨_,Ret.ct rfl rfl (ce I 1 1 [slv z E.length A] nu nm rfl rfl rfl) rfl,⟨z,A,H,rfl,I.pk [0] rfl rfl,J.to rfl rfl⟩⟩
 rw [(Bool.eq_false_iff.2 u)]
 refine rgn (by kernel_rfl) (pu bF (by kernel_rfl) (aa (ai rfl (ak (ab (rgn (by kernel_rfl) (pu (pt o) (by kernel_rfl) (ac (ag I 2 (.slice e a.length f) mv rfl rfl rfl (ac (ma I 1 mh md rfl rfl rfl (bt F (fun B K F=>ac (co 104 _ (by kernel_rfl) (L104 _ e f a b (i.inv0 I) j l N _ K) ?_))))))))))))))
 rintro v w ⟨x,y,L,rfl,hN,M⟩
 have I:=I.join hN; clear hN
 refine pu (.agg #[slv x B.length y]) (by kernel_rfl) (ac (mb I 1 _ nm rfl rfl rfl rfl rfl rfl fun w I=>pu (iv 0) (by kernel_rfl) (aa (aj ?_))))
 cases F
 exact ⟨_,Ret.ct rfl rfl (ce I 1 1 [slv x B.length y] nu nm rfl rfl rfl) rfl,⟨x,y,L,rfl,I.pk [0] rfl rfl,M.to rfl rfl⟩⟩
theorem L31 (w0:World) (i:Option Addr) (l:Nat) (e:List Rc) (x:Option Addr) (y:Nat) (f:List Rc) (P:bi w0 i (al eRc e)) (Q:e.length≤9223372036854775807) (R:e.length≤l) (a5:bi w0 x (al eRc f)) (aD:f.length≤9223372036854775807) (aE:f.length≤y) (N:Nat) (r:(List Rc × Int)) (F:F31 N e f=some r):bn Tryz.prog 31 [.agg #[.slice i e.length l],.agg #[.slice x f.length y]] w0 fun v w=>∃ (z0:Option Nat) (z1:Nat) (z2:List Value),v=.tuple #[.agg #[slv z0 r.1.length z1],iv r.2]∧Inv [] w0 w [(z0,blk z2 25)]∧Row 8 z0 r.1.length z1 z2 (al eRc r.1):=by
 refine az (n:=56) func31 rfl ntmps31 rfl ?_
 have I:=Inv.start w0
 unfold F31 at F
 refine ab (rgn (by kernel_rfl) (ac (ca I _ rfl fun C w I=>ac (ca I _ rfl fun aF w I=>ac (bh I _ zeroValue47 rfl fun D w I=>pu (iv 0) (by kernel_rfl) (aa (ab (ab (gm 4 I (by kernel_rfl) (zc (.agg #[.slice i e.length l]) (fun w I=>ma I 2 nu nm rfl rfl rfl br) (bt F (fun S aG F=>zc (iv S) (fun w I=>co 36 [.agg #[.slice i e.length l]] (by kernel_rfl) (L36 _ i l e (P.inv0 I) Q R N _ aG) (fun v' w' h=>h)) (zc (.agg #[.slice x f.length y]) (fun w I=>ma I 1 nu nm rfl rfl rfl br) (bt F (fun T aH F=>zc (iv T) (fun w I=>co 36 [.agg #[.slice x f.length y]] (by kernel_rfl) (L36 _ x y f (a5.inv0 I) aD aE N _ aH) (fun v' w' h=>h)) (zh (fun w I=>ac (fu I [iv S,iv T] 26 (fun b=>slv (some b) 2 2) (by kernel_rfl) fun aI w I=>bt F (fun L aJ F=>ac (bg I 86 _ _ (by kernel_rfl) (L86 _ (some ⟨aI,0,none⟩) 2 [S,T] (I.cells 0 (off:=0) rfl (fun j u h=>by rw [Nat.zero_add]; exact h)) (mx rfl) (Nat.le_refl _) N _ aJ) fun w I=>pu (iv L) (by kernel_rfl) (aa (ab (rgn (by kernel_rfl) (pu (iv L) (by kernel_rfl) (ifN F (fun U F=>?_) (fun U F=>?_))))))))))))))))))))))))))
 ·
  refine ac (de rfl rfl (fun _=>?_) (fun h=>absurd h U))
  refine aa (ah rfl (ab (rgn (by kernel_rfl) (pu2 (.agg #[.slice none 0 0]) (iv L) (by kernel_rfl) (ac (mb I 1 _ nm rfl rfl rfl rfl rfl rfl fun w I=>pu (iv L) (by kernel_rfl) (aa (aj ?_))))))))
  have I:=I.nilRow 25
  cases F
  exact ⟨_,Ret.ct rfl rfl (ce I 2 1 [.slice none 0 0] nu nm rfl rfl rfl) rfl,⟨none,0,[],rfl,I.pk [0] rfl rfl,Row.nil_ 8⟩⟩


 refine ac (de rfl rfl (fun h=>absurd U h) (fun _=>aa (ai rfl (ak (ab (rgn (by kernel_rfl) (pu (pt C) (by kernel_rfl) (ac (ag I 3 (.slice i e.length l) mv rfl rfl rfl (bt F (fun a6 aK F=>ac (co 102 _ (by kernel_rfl) (L102 _ i l e (P.inv0 I) Q R _ aK) ?_))))))))))))
 rintro v w ⟨a7,a8,aL,rfl,hN,aM⟩
 have I:=I.join hN; clear hN
 refine pu (slv a7 a6.length a8) (by kernel_rfl) (aa (dn (fun ρ w=>∃ (A:Option Nat) (E:Nat) (V:List Value) (o:List Rc),cd ρ [(4,pt D),(7,slv A o.length E)]∧Inv [] w0 w [(some D,blk [.slice none 0 0] 47),(A,blk V 25)]∧(Row 8 A (o.length) E V (al eRc o))∧F31j1 o=some r) ?_ ?_))
 ·
  refine ab (rgn (by kernel_rfl) (pu (pt aF) (by kernel_rfl) (ac (ag I 3 (.slice x f.length y) mv rfl rfl rfl (pu2 (iv ((f.length:Nat):Int)) (iv 0) (by kernel_rfl) (aa (au (cb (fun m ρ w=>∃ (B:Option Nat) (G:Nat) (J:List Value) (g:List Rc) (q:Int) (mm:Nat),cd ρ [(2,pt C),(4,pt D),(7,slv B g.length G),(26,.slice x f.length y),(27,iv (f.length:Int)),(28,iv q)]∧Inv [] w0 w [(some C,blk [.slice i e.length l] 47),(some D,blk [.slice none 0 0] 47),(B,blk J 25)]∧(Row 8 B (g.length) G J (al eRc g))∧F31l2 e f N mm g q=some r∧mm=m) (m:=N) ⟨a7,a8,aL,a6,0,N,⟨rfl,rfl,rfl,rfl,rfl,rfl,trivial⟩,I.pk [4,2,0] rfl rfl,(aM.to rfl rfl),F,rfl⟩ ?_))))))))
  rintro m ρ w ⟨B,G,J,g,q,mm,hag,I,W,F,hm⟩
  subst hm; obtain ⟨ρ,rfl⟩:=hag.form; clear hag
  obtain _ | m2:=mm
  ·cases (show (none:Option (List Rc × Int))=some r from F)
  replace F:F31b2 e f N (F31l2 e f N m2) g q=some r:=F; unfold F31b2 at F
  refine ab (rgn (by kernel_rfl) (ifN F (fun X F=>?_) (fun X F=>?_)))
  ·
   refine ac (cm rfl rfl (fun h=>absurd h X) (fun _=>aa (ab (ai rfl (bw (.inl ⟨rfl,⟨B,G,J,g,⟨rfl,rfl,trivial⟩,I.pk [1,2] rfl rfl,(W.to rfl rfl),F⟩⟩))))))
  refine ac (cm rfl rfl (fun _=>?_) (fun h=>absurd X h))
  refine aa (ab (ah rfl (ak (dn (fun ρ w=>∃ (K:Option Nat) (M:Nat) (O:List Value) (H:List Rc),cd ρ [(2,pt C),(4,pt D),(7,slv K H.length M),(26,.slice x f.length y),(27,iv (f.length:Int)),(28,iv q)]∧Inv [] w0 w [(some C,blk [.slice i e.length l] 47),(some D,blk [.slice none 0 0] 47),(K,blk O 25)]∧(Row 8 K (H.length) M O (al eRc H))∧F31j3 (F31l2 e f N m2) q H=some r) ?_ ?_))))
  ·
   refine au (ab (rgn (by kernel_rfl) (gdE F (fun aN F=>bt F (fun a a9 F=>?_)))))
   obtain ⟨aY,aZ,aO,aP,aQ⟩:=a5.at_ bx (by decide) a9
   refine ac (cn (q).toNat nt md rfl aO rfl (Int.toNat_of_nonneg aN).symm (fa a9 rfl) (ac (ef I (qg a) mh md rfl rfl aP (by simp) aQ (ac (bh I _ zeroValue25 rfl fun b0 w I=>ac (mb I 0 _ md rfl rfl rfl rfl rfl rfl fun w I=>aa (ab (rgn (by kernel_rfl) (pu (pt C) (by kernel_rfl) (ac (ag I 1 (.slice i e.length l) mv rfl rfl rfl (ac (ma I 0 mh md rfl rfl rfl (bt F (fun s aR F=>ac (bg I 100 _ _ (by kernel_rfl) (L100 _ i l e a (P.inv0 I) Q R N _ aR) fun w I=>pu3 (.tuple #[.bool s.1,iv s.2]) (.bool s.1) (iv s.2) (by kernel_rfl) (pu2 (.bool s.1) (iv s.2) (by kernel_rfl) (aa (ab (ab (rgn (by kernel_rfl) (pu (iv s.2) (by kernel_rfl) (ifN F (fun Y F=>?_) (fun Y F=>?_))))))))))))))))))))))))
   ·
    refine ac (de rfl rfl (fun _=>?_) (fun h=>absurd h Y))
    refine aa (ah rfl (ab (rgn (by kernel_rfl) (pu2 (.agg #[.slice none 0 0]) (iv s.2) (by kernel_rfl) (ac (mb I 2 _ nm rfl rfl rfl rfl rfl rfl fun w I=>pu (iv s.2) (by kernel_rfl) (aa (aj ?_))))))))
    have I:=I.nilRow 25
    cases F
    exact ⟨_,Ret.ct rfl rfl (ce I 3 1 [.slice none 0 0] nu nm rfl rfl rfl) rfl,⟨none,0,[],rfl,I.pk [0] rfl rfl,Row.nil_ 8⟩⟩
   refine ac (de rfl rfl (fun h=>absurd Y h) (fun _=>aa (ai rfl (ak (ab (ifE F (fun Z F=>?_) (fun Z F=>?_)))))))
   ·
    rw [Z]
    refine rgn (by kernel_rfl) (pu2 bT bF (by kernel_rfl) (aa (ai rfl (ak (.inl ⟨rfl,⟨B,G,J,g,⟨rfl,rfl,rfl,rfl,rfl,rfl,trivial⟩,I.pk [1,2,3] rfl rfl,(W.to rfl rfl),F⟩⟩)))))
   rw [(Bool.eq_false_iff.2 Z)]
   refine rgn (by kernel_rfl) (pu2 bF bT (by kernel_rfl) (aa (ah rfl (rgn (by kernel_rfl) (pu (slv B g.length G) (by kernel_rfl) (ac (ma I 0 mh md rfl rfl rfl (ac (fu I (qg a) 25 (fun b=>slv (some b) 1 1) (by kernel_rfl) fun b1 w I=>gdE F (fun b2 F=>ac (ks I nt (z:=.agg #[iv 0,iv 0,iv 0,iv 0,iv 0,iv 0,iv 0,.string (bts [])]) (k:=8) (bytes:=72) (by kernel_rfl) rfl rfl 4 rfl rfl W (qg a) rfl rfl (I.cells 0 (off:=0) rfl (fun j u h=>by rw [Nat.zero_add]; exact h)) (by simp [Value.oneCell']) (by omega) (by omega) (n2:=(g++[(⟨a.p,a.n,a.k,a.d,a.kn,a.op,a.on,a.t⟩:Rc)]).length) (kr rfl rfl) ?_)))))))))))
   intro a0 a1 aA w I a2
   have a2:Row 8 a0 ((g++[(⟨a.p,a.n,a.k,a.d,a.kn,a.op,a.on,a.t⟩:Rc)]).length) a1 aA (al eRc (g++[(⟨a.p,a.n,a.k,a.d,a.kn,a.op,a.on,a.t⟩:Rc)])):=a2.snoc _ rfl
   refine pu (slv a0 ((g++[(⟨a.p,a.n,a.k,a.d,a.kn,a.op,a.on,a.t⟩:Rc)]).length) a1) (by kernel_rfl) (aa (.inl ⟨rfl,⟨a0,a1,aA,g++[(⟨a.p,a.n,a.k,a.d,a.kn,a.op,a.on,a.t⟩:Rc)],⟨rfl,rfl,rfl,rfl,rfl,rfl,trivial⟩,I.pk [2,3,4] rfl rfl,(a2.to rfl rfl),F⟩⟩))
  intro ρ w hJ
  obtain ⟨K,M,O,H,hag,I,aS,F⟩:=hJ
  obtain ⟨ρ,rfl⟩:=hag.form; clear hag
  unfold F31j3 at F
  refine rgn (by kernel_rfl) (ckE F (fun aT F=>ac (cj rfl rfl aT (pu (iv (q+1)) (by kernel_rfl) (aa (⟨rfl,m2,Nat.lt_succ_self _,⟨K,M,O,H,q+1,m2,⟨rfl,rfl,rfl,rfl,rfl,rfl,trivial⟩,I.pk [0,1,2] rfl rfl,(aS.to rfl rfl),F,rfl⟩⟩))))))
 intro ρ w hJ
 obtain ⟨A,E,V,o,hag,I,a3,F⟩:=hJ
 obtain ⟨ρ,rfl⟩:=hag.form; clear hag
 unfold F31j1 at F
 refine ab (ab (rgn (by kernel_rfl) (pu2 (slv A o.length E) (iv ((o.length:Nat):Int)) (by kernel_rfl) (ifE F (fun a4 F=>?_) (fun a4 F=>?_)))))
 ·
  refine ac (fh rfl rfl (fun _=>?_) (fun h=>absurd a4 h))
  refine aa (ah rfl (ab (rgn (by kernel_rfl) (pu (.agg #[.slice none 0 0]) (by kernel_rfl) (ac (mb I 0 _ nm rfl rfl rfl rfl rfl rfl fun w I=>pu (iv 2) (by kernel_rfl) (aa (aj ?_))))))))
  have I:=I.nilRow 25
  cases F
  exact ⟨_,Ret.ct rfl rfl (ce I 1 1 [.slice none 0 0] nu nm rfl rfl rfl) rfl,⟨none,0,[],rfl,I.pk [0] rfl rfl,Row.nil_ 8⟩⟩
 refine ac (fh rfl rfl (fun h=>absurd h a4) (fun _=>aa (ai rfl (ak (ab (rgn (by kernel_rfl) (pu (slv A o.length E) (by kernel_rfl) (bt F (fun aU aV F=>ac (co 97 _ (by kernel_rfl) (L97 _ (A.map fun b=>⟨b,0,none⟩) E o (I.rowCells 1 rfl a3) (am rfl a3.big) (am rfl a3.cap) _ aV) ?_))))))))))
 rintro v w ⟨aB,aC,aW,rfl,hN,aX⟩
 have I:=I.join hN; clear hN
 refine ac (mb I 1 _ nm rfl rfl rfl rfl rfl rfl fun w I=>pu (iv 0) (by kernel_rfl) (aa (aj ?_)))
 cases F
 exact ⟨_,Ret.ct rfl rfl (ce I 1 1 [slv aB aU.length aC] nu nm rfl rfl rfl) rfl,⟨aB,aC,aW,rfl,I.pk [0] rfl rfl,aX.to rfl rfl⟩⟩
theorem L32 (w0:World) (j:Option Addr) (l:Nat) (f:List Rc) (D:Option Addr) (E:Nat) (g:List Rc) (L:bi w0 j (al eRc f)) (a1:f.length≤9223372036854775807) (a2:f.length≤l) (a3:bi w0 D (al eRc g)) (aA:g.length≤9223372036854775807) (aB:g.length≤E) (N:Nat) (r:(List Rc × Int)) (F:F32 N f g=some r):bn Tryz.prog 32 [.agg #[.slice j f.length l],.agg #[.slice D g.length E]] w0 fun v w=>∃ (z0:Option Nat) (z1:Nat) (z2:List Value),v=.tuple #[.agg #[slv z0 r.1.length z1],iv r.2]∧Inv [] w0 w [(z0,blk z2 25)]∧Row 8 z0 r.1.length z1 z2 (al eRc r.1):=by
 refine az (n:=59) func32 rfl ntmps32 rfl ?_
 have I:=Inv.start w0
 unfold F32 at F
 refine ab (rgn (by kernel_rfl) (ac (ca I _ rfl fun u w I=>ac (ca I _ rfl fun aC w I=>ac (bh I _ zeroValue47 rfl fun y w I=>pu (iv 0) (by kernel_rfl) (aa (ab (ab (rgn (by kernel_rfl) (ac (ma I 2 nu nm rfl rfl rfl (bt F (fun aW aD F=>ac (bg I 37 _ _ (by kernel_rfl) (L37 _ j l f (L.inv0 I) a1 a2 N _ aD) fun w I=>ifN F (fun R F=>?_) (fun R F=>?_)))))))))))))))
 ·
  refine ac (de rfl rfl (fun _=>?_) (fun h=>absurd h R))
  refine pu bT (by kernel_rfl) (sf 3 (by kernel_rfl) (pu bT (by kernel_rfl) (aa (ah rfl (ab (rgn (by kernel_rfl) (pu (.agg #[.slice none 0 0]) (by kernel_rfl) (ac (mb I 0 _ nm rfl rfl rfl rfl rfl rfl fun w I=>pu (iv 81) (by kernel_rfl) (aa (aj ?_)))))))))))
  have I:=I.nilRow 25
  cases F
  exact ⟨_,Ret.ct rfl rfl (ce I 1 1 [.slice none 0 0] nu nm rfl rfl rfl) rfl,⟨none,0,[],rfl,I.pk [0] rfl rfl,Row.nil_ 8⟩⟩


 refine ac (de rfl rfl (fun h=>absurd R h) (fun _=>pu bF (by kernel_rfl) (aw (by kernel_rfl) (ma I 1 nu nm rfl rfl rfl (bt F (fun aX aE F=>aw (by kernel_rfl) (bg I 37 _ _ (by kernel_rfl) (L37 _ D E g (a3.inv0 I) aA aB N _ aE) fun w I=>ifN F (fun S F=>?_) (fun S F=>?_))))))))
 ·
  refine aw (by kernel_rfl) (de rfl rfl (fun _=>?_) (fun h=>absurd h S))
  refine pu bT (by kernel_rfl) (aa (ah rfl (ab (rgn (by kernel_rfl) (pu (.agg #[.slice none 0 0]) (by kernel_rfl) (ac (mb I 0 _ nm rfl rfl rfl rfl rfl rfl fun w I=>pu (iv 81) (by kernel_rfl) (aa (aj ?_)))))))))
  have I:=I.nilRow 25
  cases F
  exact ⟨_,Ret.ct rfl rfl (ce I 1 1 [.slice none 0 0] nu nm rfl rfl rfl) rfl,⟨none,0,[],rfl,I.pk [0] rfl rfl,Row.nil_ 8⟩⟩
 refine aw (by kernel_rfl) (de rfl rfl (fun h=>absurd S h) (fun _=>pu bF (by kernel_rfl) (aa (ai rfl (ak (ab (rgn (by kernel_rfl) (ac (fu I [] 25 (fun b=>slv (some b) 0 0) (by kernel_rfl) fun aF w I=>pu (pt u) (by kernel_rfl) (ac (ag I 3 (.slice j f.length l) mv rfl rfl rfl (gdE F (fun aY F=>ac (ks I nt (z:=.agg #[iv 0,iv 0,iv 0,iv 0,iv 0,iv 0,iv 0,.string (bts [])]) (k:=8) (bytes:=72) (by kernel_rfl) rfl rfl 0 rfl rfl (Row.zero_ 8 aF) (al eRc f) rfl (dt bx _) (L.inv0 I) (nz eRc_cell _) (by omega) (by omega) (n2:=f.length) (app_len0 rfl) ?_))))))))))))))
 intro T U a4 w I V
 have V:Row 8 T f.length U a4 (al eRc f):=V
 refine pu (slv T f.length U) (by kernel_rfl) (aa (dn (fun ρ w=>∃ (x:Option Nat) (A:Nat) (M:List Value) (q:List Rc),cd ρ [(4,pt y),(6,slv x q.length A)]∧Inv [] w0 w [(some y,blk [.slice none 0 0] 47),(x,blk M 25)]∧(Row 8 x (q.length) A M (al eRc q))∧F32j1 q=some r) ?_ ?_))
 ·
  refine ab (rgn (by kernel_rfl) (pu (pt aC) (by kernel_rfl) (ac (ag I 2 (.slice D g.length E) mv rfl rfl rfl (pu2 (iv ((g.length:Nat):Int)) (iv 0) (by kernel_rfl) (aa (au (cb (fun m ρ w=>∃ (s:Option Nat) (B:Nat) (G:List Value) (i:List Rc) (o:Int) (mm:Nat),cd ρ [(2,pt u),(4,pt y),(6,slv s i.length B),(24,.slice D g.length E),(25,iv (g.length:Int)),(26,iv o)]∧Inv [] w0 w [(some u,blk [.slice j f.length l] 47),(some y,blk [.slice none 0 0] 47),(s,blk G 25)]∧(Row 8 s (i.length) B G (al eRc i))∧F32l2 f g N mm i o=some r∧mm=m) (m:=N) ⟨T,U,a4,f,0,N,⟨rfl,rfl,rfl,rfl,rfl,rfl,trivial⟩,I.pk [3,1,0] rfl rfl,(V.to rfl rfl),F,rfl⟩ ?_))))))))
  rintro m ρ w ⟨s,B,G,i,o,mm,hag,I,J,F,hm⟩
  subst hm; obtain ⟨ρ,rfl⟩:=hag.form; clear hag
  obtain _ | m2:=mm
  ·cases (show (none:Option (List Rc × Int))=some r from F)
  replace F:F32b2 f g N (F32l2 f g N m2) i o=some r:=F; unfold F32b2 at F
  refine ab (rgn (by kernel_rfl) (ifN F (fun W F=>?_) (fun W F=>?_)))
  ·
   refine ac (cm rfl rfl (fun h=>absurd h W) (fun _=>aa (ab (ai rfl (bw (.inl ⟨rfl,⟨s,B,G,i,⟨rfl,rfl,trivial⟩,I.pk [1,2] rfl rfl,(J.to rfl rfl),F⟩⟩))))))
  refine ac (cm rfl rfl (fun _=>?_) (fun h=>absurd W h))
  refine aa (ab (ah rfl (ak (dn (fun ρ w=>∃ (K:Option Nat) (O:Nat) (P:List Value) (H:List Rc),cd ρ [(2,pt u),(4,pt y),(6,slv K H.length O),(24,.slice D g.length E),(25,iv (g.length:Int)),(26,iv o)]∧Inv [] w0 w [(some u,blk [.slice j f.length l] 47),(some y,blk [.slice none 0 0] 47),(K,blk P 25)]∧(Row 8 K (H.length) O P (al eRc H))∧F32j3 (F32l2 f g N m2) o H=some r) ?_ ?_))))
  ·
   refine au (ab (rgn (by kernel_rfl) (gdE F (fun aG F=>bt F (fun a a5 F=>?_)))))
   obtain ⟨aZ,b0,aH,aI,aJ⟩:=a3.at_ bx (by decide) a5
   refine ac (cn (o).toNat nt md rfl aH rfl (Int.toNat_of_nonneg aG).symm (fa a5 rfl) (ac (ef I (qg a) mh md rfl rfl aI (by simp) aJ (ac (bh I _ zeroValue25 rfl fun X w I=>ac (mb I 0 _ md rfl rfl rfl rfl rfl rfl fun w I=>aa (ab (rgn (by kernel_rfl) (pu (pt u) (by kernel_rfl) (ac (ag I 1 (.slice j f.length l) mv rfl rfl rfl (pu (pt X) (by kernel_rfl) (ac (ar I 0 2 [iv a.p,iv a.n] zi23 zs23 rfl rfl rfl rfl (bt F (fun C aK F=>ac (bg I 105 _ _ (by kernel_rfl) (L105 _ j l f (⟨a.p,a.n⟩:It) (L.inv0 I) a1 a2 N _ aK) fun w I=>pu (iv C) (by kernel_rfl) (aa (ab (dn (fun ρ w=>cd ρ [(2,pt u),(4,pt y),(6,slv s i.length B),(8,pt X),(9,iv C),(24,.slice D g.length E),(25,iv (g.length:Int)),(26,iv o),(45,bF)]∧Inv [] w0 w [(some u,blk [.slice j f.length l] 47),(some y,blk [.slice none 0 0] 47),(s,blk G 25),(some X,blk (qg a) 25)]∧F32j4 N (F32l2 f g N m2) i o a C=some r) ?_ ?_))))))))))))))))))))
   ·
    refine gm 11 I (by kernel_rfl) (zp (iv C) (fun _=>(by kernel_rfl)) (ifN F (fun Q F=>?_) (fun Q F=>?_)))
    ·
     refine zc bF (fun w I=>s_geq rfl rfl (fun h=>absurd h Q) (fun _=>br)) (zp bF (fun _=>(by kernel_rfl)) (zf 7 (by kernel_rfl) (zp bF (fun _=>(by kernel_rfl)) (zh (fun w I=>aa (.inl ⟨rfl,⟨⟨rfl,rfl,rfl,rfl,rfl,rfl,rfl,rfl,rfl,trivial⟩,I.pk [1,2,3,0] rfl rfl,F⟩⟩))))))
    refine zc bT (fun w I=>s_geq rfl rfl (fun _=>br) (fun h=>absurd Q h)) (zp bT (fun _=>(by kernel_rfl)) (zq (pt u) (by kernel_rfl) (fun _=>(by kernel_rfl)) (zo (.slice j f.length l) (by kernel_rfl) (fun w I=>ag I 1 (.slice j f.length l) mv rfl rfl rfl br) (zq (iv C) (by kernel_rfl) (fun _=>(by kernel_rfl)) (bt F (fun e a6 F=>?_))))))
    obtain ⟨aL,aM,aN,aO,aP⟩:=L.at_ bx (by decide) a6
    refine zo (.pointer (some ⟨aL,aM+(C).toNat * 8,none⟩)) (by kernel_rfl) (fun w I=>cn (C).toNat nt md rfl aN rfl (Int.toNat_of_nonneg Q).symm (fa a6 rfl) br) (zo (.agg (qg e).toArray) (by kernel_rfl) (fun w I=>ef I (qg e) mh md rfl rfl aO (by simp) aP br) (zo (.agg (qg a).toArray) (by kernel_rfl) (fun w I=>ma I 0 mh md rfl rfl rfl br) (ifE F (fun Y F=>?_) (fun Y F=>?_))))
    ·
     refine zo bF (by kernel_rfl) (fun w I=>lg (b:=decide (e.p=a.p) && decide (e.n=a.n) && decide (e.k=a.k) && decide (e.d=a.d) && decide (e.kn=a.kn) && decide (e.op=a.op) && decide (e.on=a.on) && decide (e.t=a.t)) rfl rfl (by kernel_rfl) (fun w=>eq25 _ e.p e.n e.k e.d e.kn e.op e.on e.t a.p a.n a.k a.d a.kn a.op a.on a.t w) (fun h=>absurd Y h) (fun _=>br)) (zp bF (fun _=>(by kernel_rfl)) (zh (fun w I=>aa (.inl ⟨rfl,⟨⟨rfl,rfl,rfl,rfl,rfl,rfl,rfl,rfl,rfl,trivial⟩,I.pk [1,2,3,0] rfl rfl,F⟩⟩))))
    refine zo bT (by kernel_rfl) (fun w I=>lg (b:=decide (e.p=a.p) && decide (e.n=a.n) && decide (e.k=a.k) && decide (e.d=a.d) && decide (e.kn=a.kn) && decide (e.op=a.op) && decide (e.on=a.on) && decide (e.t=a.t)) rfl rfl (by kernel_rfl) (fun w=>eq25 _ e.p e.n e.k e.d e.kn e.op e.on e.t a.p a.n a.k a.d a.kn a.op a.on a.t w) (fun _=>br) (fun h=>absurd h Y)) (zp bT (fun _=>(by kernel_rfl)) (zh (fun w I=>aa (.inr (ah rfl (ab (rgn (by kernel_rfl) (pu (.agg #[.slice none 0 0]) (by kernel_rfl) (ac (mb I 2 _ nm rfl rfl rfl rfl rfl rfl fun w I=>pu (iv 82) (by kernel_rfl) (aa (aj ?_))))))))))))
    have I:=I.nilRow 25
    cases F
    exact ⟨_,Ret.ct rfl rfl (ce I 3 1 [.slice none 0 0] nu nm rfl rfl rfl) rfl,⟨none,0,[],rfl,I.pk [0] rfl rfl,Row.nil_ 8⟩⟩
   intro ρ w hJ
   obtain ⟨hag,I,F⟩:=hJ
   obtain ⟨ρ,rfl⟩:=hag.form; clear hag
   unfold F32j4 at F
   refine ai rfl (ak (ab (rgn (by kernel_rfl) (pu (iv C) (by kernel_rfl) (ifN F (fun Z F=>?_) (fun Z F=>?_))))))
   ·
    refine ac (cm rfl rfl (fun h=>absurd h Z) (fun _=>aa (ai rfl (ak (.inl ⟨rfl,⟨s,B,G,i,⟨rfl,rfl,rfl,rfl,rfl,rfl,trivial⟩,I.pk [0,1,2] rfl rfl,(J.to rfl rfl),F⟩⟩)))))
   refine ac (cm rfl rfl (fun _=>?_) (fun h=>absurd Z h))
   refine aa (ah rfl (rgn (by kernel_rfl) (pu (slv s i.length B) (by kernel_rfl) (ac (ma I 3 mh md rfl rfl rfl (bt F (fun a7 aQ F=>ac (co 104 _ (by kernel_rfl) (L104 _ (s.map fun b=>⟨b,0,none⟩) B i a (I.rowCells 2 rfl J) (am rfl J.big) (am rfl J.cap) N _ aQ) ?_))))))))
   rintro v w ⟨a8,a9,aR,rfl,hN,aS⟩
   have I:=I.join hN; clear hN
   refine pu (slv a8 a7.length a9) (by kernel_rfl) (aa (.inl ⟨rfl,⟨a8,a9,aR,a7,⟨rfl,rfl,rfl,rfl,rfl,rfl,trivial⟩,I.pk [1,2,0] rfl rfl,(aS.to rfl rfl),F⟩⟩))
  intro ρ w hJ
  obtain ⟨K,O,P,H,hag,I,aT,F⟩:=hJ
  obtain ⟨ρ,rfl⟩:=hag.form; clear hag
  unfold F32j3 at F
  refine rgn (by kernel_rfl) (ckE F (fun aU F=>ac (cj rfl rfl aU (pu (iv (o+1)) (by kernel_rfl) (aa (⟨rfl,m2,Nat.lt_succ_self _,⟨K,O,P,H,o+1,m2,⟨rfl,rfl,rfl,rfl,rfl,rfl,trivial⟩,I.pk [0,1,2] rfl rfl,(aT.to rfl rfl),F,rfl⟩⟩))))))
 intro ρ w hJ
 obtain ⟨x,A,M,q,hag,I,aV,F⟩:=hJ
 obtain ⟨ρ,rfl⟩:=hag.form; clear hag
 unfold F32j1 at F
 refine ab (ab (rgn (by kernel_rfl) (pu2 (slv x q.length A) (iv ((q.length:Nat):Int)) (by kernel_rfl) (ifE F (fun a0 F=>?_) (fun a0 F=>?_)))))
 ·
  refine ac (fh rfl rfl (fun _=>?_) (fun h=>absurd a0 h))
  refine aa (ah rfl (ab (rgn (by kernel_rfl) (pu (.agg #[.slice none 0 0]) (by kernel_rfl) (ac (mb I 0 _ nm rfl rfl rfl rfl rfl rfl fun w I=>pu (iv 2) (by kernel_rfl) (aa (aj ?_))))))))
  have I:=I.nilRow 25
  cases F
  exact ⟨_,Ret.ct rfl rfl (ce I 1 1 [.slice none 0 0] nu nm rfl rfl rfl) rfl,⟨none,0,[],rfl,I.pk [0] rfl rfl,Row.nil_ 8⟩⟩
 refine ac (fh rfl rfl (fun h=>absurd h a0) (fun _=>aa (ai rfl (ak (ab (rgn (by kernel_rfl) (pu2 (slv x q.length A) (.agg #[slv x q.length A]) (by kernel_rfl) (ac (mb I 0 _ nm rfl rfl rfl rfl rfl rfl fun w I=>pu (iv 0) (by kernel_rfl) (aa (aj ?_)))))))))))
 cases F
 exact ⟨_,Ret.ct rfl rfl (ce I 0 1 [slv x q.length A] nu nm rfl rfl rfl) rfl,⟨x,A,M,rfl,I.pk [1] rfl rfl,aV.to rfl rfl⟩⟩
theorem L33 (w0:World) (l:Option Addr) (o:Nat) (a:List Rc) (E:bi w0 l (al eRc a)) (G:a.length≤9223372036854775807) (H:a.length≤o) (N:Nat) (r:(Int × Int × Int × Int × Int × Int × Int)) (F:F33 N a=some r):bn Tryz.prog 33 [.agg #[.slice l a.length o]] w0 fun v w=>v=.tuple #[.agg #[iv r.1,iv r.2.1,iv r.2.2.1,iv r.2.2.2.1,iv r.2.2.2.2.1,iv r.2.2.2.2.2.1],iv r.2.2.2.2.2.2]∧Below w0.heap.size w0 w:=by
 refine az (n:=24) func33 rfl ntmps33 rfl ?_
 have I:=Inv.start w0
 unfold F33 at F
 refine ab (rgn (by kernel_rfl) (ac (ca I _ rfl fun p w I=>ac (bh I _ zeroValue54 rfl fun q w I=>pu (iv 0) (by kernel_rfl) (aa (ab (rgn (by kernel_rfl) (ac (bh I _ zeroValue54 rfl fun s w I=>aa (ab (ab (rgn (by kernel_rfl) (ac (ma I 2 nu nm rfl rfl rfl (bt F (fun t Q F=>ac (bg I 36 _ _ (by kernel_rfl) (L36 _ l o a (E.inv0 I) G H N _ Q) fun w I=>pu (iv t) (by kernel_rfl) (aa (ab (rgn (by kernel_rfl) (pu (iv t) (by kernel_rfl) (ifN F (fun C F=>?_) (fun C F=>?_)))))))))))))))))))))))
 ·
  refine ac (de rfl rfl (fun _=>?_) (fun h=>absurd h C))
  refine aa (ah rfl (ab (rgn (by kernel_rfl) (ac (ma I 0 zi54 mo rfl rfl rfl (pu (iv t) (by kernel_rfl) (ac (mb I 1 _ mo rfl rfl rfl rfl rfl rfl fun w I=>pu (iv t) (by kernel_rfl) (aa (aj ?_))))))))))
  cases F
  exact ⟨_,Ret.ct rfl rfl (ce I 1 6 [iv 0,iv 0,iv 0,iv 0,iv 0,iv 0] zi54 mo rfl rfl rfl) rfl,⟨rfl,I.below⟩⟩


 refine ac (de rfl rfl (fun h=>absurd C h) (fun _=>aa (ai rfl (ak (ab (ab (rgn (by kernel_rfl) (pu (iv 0) (by kernel_rfl) (aa (au (cb (fun m ρ w=>∃ (e:Int) (f:Int) (g:Int) (i:Int) (j:Int) (k:Int) (b:Int) (mm:Nat),cd ρ [(1,pt p),(2,pt q),(4,pt s),(13,iv b)]∧Inv [] w0 w [(some p,blk [.slice l a.length o] 47),(some q,blk [iv 0,iv 0,iv 0,iv 0,iv 0,iv 0] 54),(some s,blk [iv e,iv f,iv g,iv i,iv j,iv k] 54)]∧F33l1 a N mm e f g i j k b=some r∧mm=m) (m:=N) ⟨0,0,0,0,0,0,0,N,⟨rfl,rfl,rfl,rfl,trivial⟩,I.pk [2,1,0] rfl rfl,F,rfl⟩ ?_)))))))))))
 rintro m ρ w ⟨e,f,g,i,j,k,b,mm,hag,I,F,hm⟩
 subst hm; obtain ⟨ρ,rfl⟩:=hag.form; clear hag
 obtain _ | m1:=mm
 ·cases (show (none:Option (Int × Int × Int × Int × Int × Int × Int))=some r from F)
 replace F:F33b1 a N (F33l1 a N m1) e f g i j k b=some r:=F; unfold F33b1 at F
 refine ab (rgn (by kernel_rfl) (ifN F (fun D F=>?_) (fun D F=>?_)))
 ·
  refine ac (cm rfl rfl (fun h=>absurd h D) (fun _=>aa (ab (ai rfl (bw (ab (rgn (by kernel_rfl) (ac (ma I 2 zi54 mo rfl rfl rfl (ac (mb I 1 _ mo rfl rfl rfl rfl rfl rfl fun w I=>pu (iv 0) (by kernel_rfl) (aa (aj ?_)))))))))))))
  cases F
  exact ⟨_,Ret.ct rfl rfl (ce I 1 6 [iv e,iv f,iv g,iv i,iv j,iv k] zi54 mo rfl rfl rfl) rfl,⟨rfl,I.below⟩⟩
 refine ac (cm rfl rfl (fun _=>?_) (fun h=>absurd D h))
 refine aa (ab (ah rfl (ak (dn (fun ρ w=>∃ (u:Int) (x:Int) (y:Int) (z:Int) (A:Int) (B:Int),cd ρ [(1,pt p),(2,pt q),(4,pt s),(13,iv b)]∧Inv [] w0 w [(some p,blk [.slice l a.length o] 47),(some q,blk [iv 0,iv 0,iv 0,iv 0,iv 0,iv 0] 54),(some s,blk [iv u,iv x,iv y,iv z,iv A,iv B] 54)]∧F33j2 (F33l1 a N m1) b u x y z A B=some r) ?_ ?_))))
 ·
  refine au (ab (rgn (by kernel_rfl) (pu2 (iv b) (iv b) (by kernel_rfl) (aa (rgn (by kernel_rfl) (pu2 (iv b) (pt p) (by kernel_rfl) (ac (ag I 0 (.slice l a.length o) mv rfl rfl rfl (pu (iv b) (by kernel_rfl) (bt F (fun d R F=>ac (bg I 101 _ _ (by kernel_rfl) (L101 _ l o a b (E.inv0 I) G H N _ R) fun w I=>ifE F (fun J F=>?_) (fun J F=>?_)))))))))))))
  ·
   refine ac (av 0 mf zs3 rfl rfl J (by decide) 0 rfl (ac (aq I 2 1 [iv d] zs3 rfl rfl rfl rfl rfl (mx rfl) fun w I=>aa (.inl ⟨rfl,⟨d,f,g,i,j,k,⟨rfl,rfl,rfl,rfl,trivial⟩,I.pk [0,1,2] rfl rfl,F⟩⟩))))
  refine ifE F (fun K F=>?_) (fun K F=>?_)
  ·
   refine ac (av 1 mf zs3 rfl rfl K (by decide) 1 rfl (ac (aq I 2 1 [iv d] zs3 rfl rfl rfl rfl rfl (mx rfl) fun w I=>aa (.inl ⟨rfl,⟨e,d,g,i,j,k,⟨rfl,rfl,rfl,rfl,trivial⟩,I.pk [0,1,2] rfl rfl,F⟩⟩))))
  refine ifE F (fun L F=>?_) (fun L F=>?_)
  ·
   refine ac (av 2 mf zs3 rfl rfl L (by decide) 2 rfl (ac (aq I 2 1 [iv d] zs3 rfl rfl rfl rfl rfl (mx rfl) fun w I=>aa (.inl ⟨rfl,⟨e,f,d,i,j,k,⟨rfl,rfl,rfl,rfl,trivial⟩,I.pk [0,1,2] rfl rfl,F⟩⟩))))
  refine ifE F (fun M F=>?_) (fun M F=>?_)
  ·
   refine ac (av 3 mf zs3 rfl rfl M (by decide) 3 rfl (ac (aq I 2 1 [iv d] zs3 rfl rfl rfl rfl rfl (mx rfl) fun w I=>aa (.inl ⟨rfl,⟨e,f,g,d,j,k,⟨rfl,rfl,rfl,rfl,trivial⟩,I.pk [0,1,2] rfl rfl,F⟩⟩))))
  refine ifE F (fun O F=>?_) (fun O F=>?_)
  ·
   refine ac (av 4 mf zs3 rfl rfl O (by decide) 4 rfl (ac (aq I 2 1 [iv d] zs3 rfl rfl rfl rfl rfl (mx rfl) fun w I=>aa (.inl ⟨rfl,⟨e,f,g,i,d,k,⟨rfl,rfl,rfl,rfl,trivial⟩,I.pk [0,1,2] rfl rfl,F⟩⟩))))
  refine ifN F (fun P F=>?_) (fun P F=>?_)
  ·
   cases F
  refine ac (av 5 mf zs3 rfl rfl P (by decide) 5 rfl (ac (aq I 2 1 [iv d] zs3 rfl rfl rfl rfl rfl (mx rfl) fun w I=>aa (.inl ⟨rfl,⟨e,f,g,i,j,d,⟨rfl,rfl,rfl,rfl,trivial⟩,I.pk [0,1,2] rfl rfl,F⟩⟩))))
 intro ρ w hJ
 obtain ⟨u,x,y,z,A,B,hag,I,F⟩:=hJ
 obtain ⟨ρ,rfl⟩:=hag.form; clear hag
 unfold F33j2 at F
 refine rgn (by kernel_rfl) (ckE F (fun S F=>ac (cj rfl rfl S (pu (iv (b+1)) (by kernel_rfl) (aa (⟨rfl,m1,Nat.lt_succ_self _,⟨u,x,y,z,A,B,b+1,m1,⟨rfl,rfl,rfl,rfl,trivial⟩,I.pk [0,1,2] rfl rfl,F,rfl⟩⟩))))))
theorem L34 (w0:World) (q:Option Addr) (s:Nat) (a:List Rc) (Q:bi w0 q (al eRc a)) (T:a.length≤9223372036854775807) (U:a.length≤s) (N:Nat) (r:(Int × Int × Int × Int × Int × Int × Int)) (F:F34 N a=some r):bn Tryz.prog 34 [.agg #[.slice q a.length s]] w0 fun v w=>v=.tuple #[.agg #[iv r.1,iv r.2.1,iv r.2.2.1,iv r.2.2.2.1,iv r.2.2.2.2.1,iv r.2.2.2.2.2.1],iv r.2.2.2.2.2.2]∧Below w0.heap.size w0 w:=by
 refine az (n:=30) func34 rfl ntmps34 rfl ?_
 have I:=Inv.start w0
 unfold F34 at F
 refine ab (rgn (by kernel_rfl) (ac (ca I _ rfl fun V w I=>ac (bh I _ zeroValue54 rfl fun u w I=>pu (iv 0) (by kernel_rfl) (aa (ab (rgn (by kernel_rfl) (ac (bh I _ zeroValue54 rfl fun x w I=>aa (ab (ab (rgn (by kernel_rfl) (ac (ma I 2 nu nm rfl rfl rfl (bt F (fun y W F=>ac (bg I 37 _ _ (by kernel_rfl) (L37 _ q s a (Q.inv0 I) T U N _ W) fun w I=>pu (iv y) (by kernel_rfl) (aa (ab (rgn (by kernel_rfl) (pu (iv y) (by kernel_rfl) (ifN F (fun G F=>?_) (fun G F=>?_)))))))))))))))))))))))
 ·
  refine ac (de rfl rfl (fun _=>?_) (fun h=>absurd h G))
  refine aa (ah rfl (ab (rgn (by kernel_rfl) (ac (ma I 0 zi54 mo rfl rfl rfl (pu (iv y) (by kernel_rfl) (ac (mb I 1 _ mo rfl rfl rfl rfl rfl rfl fun w I=>pu (iv y) (by kernel_rfl) (aa (aj ?_))))))))))
  cases F
  exact ⟨_,Ret.ct rfl rfl (ce I 1 6 [iv 0,iv 0,iv 0,iv 0,iv 0,iv 0] zi54 mo rfl rfl rfl) rfl,⟨rfl,I.below⟩⟩


 refine ac (de rfl rfl (fun h=>absurd G h) (fun _=>aa (ai rfl (ak (ab (ab (rgn (by kernel_rfl) (pu (pt V) (by kernel_rfl) (ac (ag I 2 (.slice q a.length s) mv rfl rfl rfl (pu2 (iv ((a.length:Nat):Int)) (iv 0) (by kernel_rfl) (aa (au (cb (fun m ρ w=>∃ (b:Int) (e:Int) (f:Int) (g:Int) (i:Int) (j:Int) (l:Int) (mm:Nat),cd ρ [(2,pt u),(4,pt x),(15,.slice q a.length s),(16,iv (a.length:Int)),(17,iv l)]∧Inv [] w0 w [(some u,blk [iv 0,iv 0,iv 0,iv 0,iv 0,iv 0] 54),(some x,blk [iv b,iv e,iv f,iv g,iv i,iv j] 54)]∧F34l1 a mm b e f g i j l=some r∧mm=m) (m:=N) ⟨0,0,0,0,0,0,0,N,⟨rfl,rfl,rfl,rfl,rfl,trivial⟩,I.pk [1,0] rfl rfl,F,rfl⟩ ?_))))))))))))))
 rintro m ρ w ⟨b,e,f,g,i,j,l,mm,hag,I,F,hm⟩
 subst hm; obtain ⟨ρ,rfl⟩:=hag.form; clear hag
 obtain _ | m1:=mm
 ·cases (show (none:Option (Int × Int × Int × Int × Int × Int × Int))=some r from F)
 replace F:F34b1 a (F34l1 a m1) b e f g i j l=some r:=F; unfold F34b1 at F
 refine ab (rgn (by kernel_rfl) (ifN F (fun H F=>?_) (fun H F=>?_)))
 ·
  refine ac (cm rfl rfl (fun h=>absurd h H) (fun _=>aa (ab (ai rfl (bw (ab (rgn (by kernel_rfl) (ac (ma I 1 zi54 mo rfl rfl rfl (ac (mb I 0 _ mo rfl rfl rfl rfl rfl rfl fun w I=>pu (iv 0) (by kernel_rfl) (aa (aj ?_)))))))))))))
  cases F
  exact ⟨_,Ret.ct rfl rfl (ce I 0 6 [iv b,iv e,iv f,iv g,iv i,iv j] zi54 mo rfl rfl rfl) rfl,⟨rfl,I.below⟩⟩
 refine ac (cm rfl rfl (fun _=>?_) (fun h=>absurd H h))
 refine aa (ab (ah rfl (ak (dn (fun ρ w=>∃ (z:Int) (A:Int) (B:Int) (C:Int) (D:Int) (E:Int),cd ρ [(2,pt u),(4,pt x),(15,.slice q a.length s),(16,iv (a.length:Int)),(17,iv l)]∧Inv [] w0 w [(some u,blk [iv 0,iv 0,iv 0,iv 0,iv 0,iv 0] 54),(some x,blk [iv z,iv A,iv B,iv C,iv D,iv E] 54)]∧F34j2 (F34l1 a m1) l z A B C D E=some r) ?_ ?_))))
 ·
  refine au (ab (rgn (by kernel_rfl) (gdE F (fun X F=>bt F (fun o R F=>?_)))))
  obtain ⟨a8,a9,Y,Z,a0⟩:=Q.at_ bx (by decide) R
  refine ac (cn (l).toNat nt md rfl Y rfl (Int.toNat_of_nonneg X).symm (fa R rfl) (ac (ef I (qg o) mh md rfl rfl Z (by simp) a0 (ac (bh I _ zeroValue25 rfl fun S w I=>ac (mb I 0 _ md rfl rfl rfl rfl rfl rfl fun w I=>aa (rgn (by kernel_rfl) (pu2 (pt S) (pt S) (by kernel_rfl) (ac (ag I 0 (iv o.p) zi3 rfl rfl rfl (ifE F (fun J F=>?_) (fun J F=>?_))))))))))))
  ·
   refine ac (av 0 mf zs3 rfl rfl J (by decide) 0 rfl (ac (ag I 2 (iv b) zi3 rfl rfl rfl (ckE F (fun a1 F=>ac (cj rfl rfl a1 (ac (av 0 mf zs3 rfl rfl J (by decide) 0 rfl (ac (aq I 2 1 [iv (b+1)] zs3 rfl rfl rfl rfl rfl (mx rfl) fun w I=>aa (.inl ⟨rfl,⟨b+1,e,f,g,i,j,⟨rfl,rfl,rfl,rfl,rfl,trivial⟩,I.pk [1,2] rfl rfl,F⟩⟩)))))))))))
  refine ifE F (fun K F=>?_) (fun K F=>?_)
  ·
   refine ac (av 1 mf zs3 rfl rfl K (by decide) 1 rfl (ac (ag I 2 (iv e) zi3 rfl rfl rfl (ckE F (fun a2 F=>ac (cj rfl rfl a2 (ac (av 1 mf zs3 rfl rfl K (by decide) 1 rfl (ac (aq I 2 1 [iv (e+1)] zs3 rfl rfl rfl rfl rfl (mx rfl) fun w I=>aa (.inl ⟨rfl,⟨b,e+1,f,g,i,j,⟨rfl,rfl,rfl,rfl,rfl,trivial⟩,I.pk [1,2] rfl rfl,F⟩⟩)))))))))))
  refine ifE F (fun L F=>?_) (fun L F=>?_)
  ·
   refine ac (av 2 mf zs3 rfl rfl L (by decide) 2 rfl (ac (ag I 2 (iv f) zi3 rfl rfl rfl (ckE F (fun a3 F=>ac (cj rfl rfl a3 (ac (av 2 mf zs3 rfl rfl L (by decide) 2 rfl (ac (aq I 2 1 [iv (f+1)] zs3 rfl rfl rfl rfl rfl (mx rfl) fun w I=>aa (.inl ⟨rfl,⟨b,e,f+1,g,i,j,⟨rfl,rfl,rfl,rfl,rfl,trivial⟩,I.pk [1,2] rfl rfl,F⟩⟩)))))))))))
  refine ifE F (fun M F=>?_) (fun M F=>?_)
  ·
   refine ac (av 3 mf zs3 rfl rfl M (by decide) 3 rfl (ac (ag I 2 (iv g) zi3 rfl rfl rfl (ckE F (fun a4 F=>ac (cj rfl rfl a4 (ac (av 3 mf zs3 rfl rfl M (by decide) 3 rfl (ac (aq I 2 1 [iv (g+1)] zs3 rfl rfl rfl rfl rfl (mx rfl) fun w I=>aa (.inl ⟨rfl,⟨b,e,f,g+1,i,j,⟨rfl,rfl,rfl,rfl,rfl,trivial⟩,I.pk [1,2] rfl rfl,F⟩⟩)))))))))))
  refine ifE F (fun O F=>?_) (fun O F=>?_)
  ·
   refine ac (av 4 mf zs3 rfl rfl O (by decide) 4 rfl (ac (ag I 2 (iv i) zi3 rfl rfl rfl (ckE F (fun a5 F=>ac (cj rfl rfl a5 (ac (av 4 mf zs3 rfl rfl O (by decide) 4 rfl (ac (aq I 2 1 [iv (i+1)] zs3 rfl rfl rfl rfl rfl (mx rfl) fun w I=>aa (.inl ⟨rfl,⟨b,e,f,g,i+1,j,⟨rfl,rfl,rfl,rfl,rfl,trivial⟩,I.pk [1,2] rfl rfl,F⟩⟩)))))))))))
  refine ifN F (fun P F=>?_) (fun P F=>?_)
  ·
   cases F
  refine ac (av 5 mf zs3 rfl rfl P (by decide) 5 rfl (ac (ag I 2 (iv j) zi3 rfl rfl rfl (ckE F (fun a6 F=>ac (cj rfl rfl a6 (ac (av 5 mf zs3 rfl rfl P (by decide) 5 rfl (ac (aq I 2 1 [iv (j+1)] zs3 rfl rfl rfl rfl rfl (mx rfl) fun w I=>aa (.inl ⟨rfl,⟨b,e,f,g,i,j+1,⟨rfl,rfl,rfl,rfl,rfl,trivial⟩,I.pk [1,2] rfl rfl,F⟩⟩)))))))))))
 intro ρ w hJ
 obtain ⟨z,A,B,C,D,E,hag,I,F⟩:=hJ
 obtain ⟨ρ,rfl⟩:=hag.form; clear hag
 unfold F34j2 at F
 refine rgn (by kernel_rfl) (ckE F (fun a7 F=>ac (cj rfl rfl a7 (pu (iv (l+1)) (by kernel_rfl) (aa (⟨rfl,m1,Nat.lt_succ_self _,⟨z,A,B,C,D,E,l+1,m1,⟨rfl,rfl,rfl,rfl,rfl,trivial⟩,I.pk [0,1] rfl rfl,F,rfl⟩⟩))))))
theorem L35 (w0:World) (j:Option Addr) (l:Nat) (f:List Rc) (o:Option Addr) (q:Nat) (i:List Rc) (B:bi w0 j (al eRc f)) (R:f.length≤9223372036854775807) (S:f.length≤l) (C:bi w0 o (al eRc i)) (T:i.length≤9223372036854775807) (U:i.length≤q) (N:Nat) (r:Bool) (F:F35 N f i=some r):bn Tryz.prog 35 [.slice j f.length l,.slice o i.length q] w0 fun v w=>v=.bool r∧Below w0.heap.size w0 w:=by
 refine az (n:=26) func35 rfl ntmps35 rfl ?_
 have I:=Inv.start w0
 unfold F35 at F
 refine ab (rgn (by kernel_rfl) (pu bF (by kernel_rfl) (aa (ab (ab (rgn (by kernel_rfl) (pu3 (.slice j f.length l) (iv ((f.length:Nat):Int)) (.slice o i.length q) (by kernel_rfl) (pu (iv ((i.length:Nat):Int)) (by kernel_rfl) (ifN F (fun s F=>?_) (fun s F=>?_))))))))))
 ·
  refine ac (de rfl rfl (fun _=>?_) (fun h=>absurd h s))
  refine aa (ah rfl (ab (rgn (by kernel_rfl) (pu bF (by kernel_rfl) (aa (aj ?_))))))
  cases F
  exact ⟨_,Ret.r1 rfl rfl,⟨rfl,I.below⟩⟩


 refine ac (de rfl rfl (fun h=>absurd s h) (fun _=>aa (ai rfl (ak (ab (ab (rgn (by kernel_rfl) (pu3 (.slice j f.length l) (iv ((f.length:Nat):Int)) (iv 0) (by kernel_rfl) (aa (au (cb (fun m ρ w=>∃ (g:Int) (mm:Nat),cd ρ [(0,.slice j f.length l),(1,.slice o i.length q),(12,iv (f.length:Int)),(13,iv g)]∧Inv [] w0 w []∧F35l1 f i mm g=some r∧mm=m) (m:=N) ⟨0,N,⟨rfl,rfl,rfl,rfl,trivial⟩,I.pk [] rfl rfl,F,rfl⟩ ?_)))))))))))
 rintro m ρ w ⟨g,mm,hag,I,F,hm⟩
 subst hm; obtain ⟨ρ,rfl⟩:=hag.form; clear hag
 obtain _ | m1:=mm
 ·cases (show (none:Option Bool)=some r from F)
 replace F:F35b1 f i (F35l1 f i m1) g=some r:=F; unfold F35b1 at F
 refine ab (rgn (by kernel_rfl) (ifN F (fun u F=>?_) (fun u F=>?_)))
 ·
  refine ac (cm rfl rfl (fun h=>absurd h u) (fun _=>aa (ab (ai rfl (bw (ab (rgn (by kernel_rfl) (pu bT (by kernel_rfl) (aa (aj ?_))))))))))
  cases F
  exact ⟨_,Ret.r1 rfl rfl,⟨rfl,I.below⟩⟩
 refine ac (cm rfl rfl (fun _=>?_) (fun h=>absurd u h))
 refine aa (ab (ah rfl (ak (ab (au (ab (rgn (by kernel_rfl) (pu2 (iv g) (iv g) (by kernel_rfl) (aa (ab (gm 9 I (by kernel_rfl) (zp2 (.slice j f.length l) (iv g) (fun _=>(by kernel_rfl)) (gdE F (fun y F=>bt F (fun a z F=>?_)))))))))))))))
 obtain ⟨D,E,G,H,J⟩:=B.at_ bx (by decide) z
 refine zc (.pointer (some ⟨D,E+(g).toNat * 8,none⟩)) (fun w I=>cn (g).toNat nt md rfl G rfl (Int.toNat_of_nonneg y).symm (fa z rfl) br) (zc (.agg (qg a).toArray) (fun w I=>ef I (qg a) mh md rfl rfl H (by simp) J br) (zp2 (.slice o i.length q) (iv g) (fun _=>(by kernel_rfl)) (bt F (fun e A F=>?_))))
 obtain ⟨K,L,M,O,P⟩:=C.at_ bx (by decide) A
 refine zc (.pointer (some ⟨K,L+(g).toNat * 8,none⟩)) (fun w I=>cn (g).toNat nt md rfl M rfl (Int.toNat_of_nonneg y).symm (fa A rfl) br) (zc (.agg (qg e).toArray) (fun w I=>ef I (qg e) mh md rfl rfl O (by simp) P br) (ifN F (fun x F=>?_) (fun x F=>?_)))
 ·
  refine zc bT (fun w I=>lg (b:=decide (a.p=e.p) && decide (a.n=e.n) && decide (a.k=e.k) && decide (a.d=e.d) && decide (a.kn=e.kn) && decide (a.op=e.op) && decide (a.on=e.on) && decide (a.t=e.t)) rfl rfl (by kernel_rfl) (fun w=>eq25 _ a.p a.n a.k a.d a.kn a.op a.on a.t e.p e.n e.k e.d e.kn e.op e.on e.t w) (fun _=>br) (fun h=>absurd h x)) (zh (fun w I=>aa (ah rfl (ab (rgn (by kernel_rfl) (pu bF (by kernel_rfl) (aa (aj ?_))))))))
  cases F
  exact ⟨_,Ret.r1 rfl rfl,⟨rfl,I.below⟩⟩
 refine zc bF (fun w I=>lg (b:=decide (a.p=e.p) && decide (a.n=e.n) && decide (a.k=e.k) && decide (a.d=e.d) && decide (a.kn=e.kn) && decide (a.op=e.op) && decide (a.on=e.on) && decide (a.t=e.t)) rfl rfl (by kernel_rfl) (fun w=>eq25 _ a.p a.n a.k a.d a.kn a.op a.on a.t e.p e.n e.k e.d e.kn e.op e.on e.t w) (fun h=>absurd x h) (fun _=>br)) (zh (fun w I=>aa (ai rfl (ak (rgn (by kernel_rfl) (ckE F (fun Q F=>ac (cj rfl rfl Q (pu (iv (g+1)) (by kernel_rfl) (aa (⟨rfl,m1,Nat.lt_succ_self _,⟨g+1,m1,⟨rfl,rfl,rfl,rfl,trivial⟩,I.pk [] rfl rfl,F,rfl⟩⟩)))))))))))
end Go.K
