import Derived.Test.YtcondbkhcjgemaaGreatDoorJWh
namespace Go.K
open Go.Proofs.Tryz
open Go.Proofs Go.RowKit
set_option linter.unusedVariables false
set_option linter.unusedSimpArgs false
set_option maxRecDepth 100000
attribute [local irreducible] Seq cw cx fl opX
theorem L132 (w0:World) (i:Option Addr) (j:Nat) (a:List Rc) (e:Int) (x:bi w0 i (al eRc a)) (E:a.length≤9223372036854775807) (G:a.length≤j) (N:Nat) (r:Int) (F:F132 N a e=some r):bn Tryz.prog 132 [.slice i a.length j,iv e] w0 fun v w=>v=iv r∧Below w0.heap.size w0 w:=by
 refine az (n:=23) func132 rfl ntmps132 rfl ?_
 have I:=Inv.start w0
 unfold F132 at F
 refine ab (rgn (by kernel_rfl) (pu (iv 0) (by kernel_rfl) (aa (ab (rgn (by kernel_rfl) (pu (iv 0) (by kernel_rfl) (aa (ab (ab (rgn (by kernel_rfl) (pu3 (.slice i a.length j) (iv ((a.length:Nat):Int)) (iv 0) (by kernel_rfl) (aa (au (cb (fun m ρ w=>∃ (b:Int) (f:Int) (mm:Nat),cd ρ [(1,iv e),(5,iv b),(8,.slice i a.length j),(9,iv (a.length:Int)),(10,iv f)]∧Inv [] w0 w []∧F132l1 a e mm b f=some r∧mm=m) (m:=N) ⟨0,0,N,⟨rfl,rfl,rfl,rfl,rfl,trivial⟩,I.pk [] rfl rfl,F,rfl⟩ ?_))))))))))))))
 rintro m ρ w ⟨b,f,mm,hag,I,F,hm⟩
 subst hm; obtain ⟨ρ,rfl⟩:=hag.form; clear hag
 obtain _ | m1:=mm
 ·cases (show (none:Option Int)=some r from F)
 replace F:F132b1 a e (F132l1 a e m1) b f=some r:=F; unfold F132b1 at F
 refine ab (rgn (by kernel_rfl) (ifN F (fun o F=>?_) (fun o F=>?_)))
 ·
  refine ph (cm rfl rfl (fun h=>absurd h o) (fun _=>aa (ab (ai rfl (bw (ab (rgn (by kernel_rfl) (pu2 (iv b) (iv b) (by kernel_rfl) (aa (aj ?_))))))))))
  cases F
  exact ⟨_,Ret.r1 rfl rfl,⟨rfl,I.below⟩⟩


 refine ph (cm rfl rfl (fun _=>?_) (fun h=>absurd o h))
 refine aa (ab (ah rfl (ak (dn (fun ρ w=>∃ (l:Int),cd ρ [(1,iv e),(5,iv l),(8,.slice i a.length j),(9,iv (a.length:Int)),(10,iv f)]∧Inv [] w0 w []∧F132j2 (F132l1 a e m1) f l=some r) ?_ ?_))))
 ·
  refine au (ab (rgn (by kernel_rfl) (gdE F (fun y F=>bt F (fun g s F=>?_)))))
  obtain ⟨H,J,z,A,B⟩:=x.at_ bx (by decide) s
  refine ph (cn (f).toNat zu45 md rfl z rfl (Int.toNat_of_nonneg y).symm (fa s rfl) (ph (ef I (qg g) mh md rfl rfl A (by simp) B (ph (bh I _ zeroValue25 rfl fun u w I=>ph (mb I 0 _ md rfl rfl rfl rfl rfl rfl fun w I=>aa (ab (rgn (by kernel_rfl) (pu2 (pt u) (pt u) (by kernel_rfl) (ph (ag I 0 (iv g.p) zi3 rfl rfl rfl (pu (iv e) (by kernel_rfl) (ifN F (fun q F=>?_) (fun q F=>?_))))))))))))))
  ·
   refine ph (di rfl rfl (fun h=>absurd h q) (fun _=>aa (ai rfl (ak (.inl ⟨rfl,⟨b,⟨rfl,rfl,rfl,rfl,rfl,trivial⟩,I.pk [] rfl rfl,F⟩⟩)))))
  refine ph (di rfl rfl (fun _=>?_) (fun h=>absurd q h))
  refine aa (ah rfl (rgn (by kernel_rfl) (pu (iv b) (by kernel_rfl) (ckE F (fun C F=>ph (cj rfl rfl C (pu (iv (b+1)) (by kernel_rfl) (aa (.inl ⟨rfl,⟨b+1,⟨rfl,rfl,rfl,rfl,rfl,trivial⟩,I.pk [] rfl rfl,F⟩⟩)))))))))
 intro ρ w hJ
 obtain ⟨l,hag,I,F⟩:=hJ
 obtain ⟨ρ,rfl⟩:=hag.form; clear hag
 unfold F132j2 at F
 refine rgn (by kernel_rfl) (ckE F (fun D F=>ph (cj rfl rfl D (pu (iv (f+1)) (by kernel_rfl) (aa (⟨rfl,m1,Nat.lt_succ_self _,⟨l,f+1,m1,⟨rfl,rfl,rfl,rfl,rfl,trivial⟩,I.pk [] rfl rfl,F,rfl⟩⟩))))))
theorem L35 (w0:World) (j:Option Addr) (l:Nat) (f:List Rc) (o:Option Addr) (q:Nat) (i:List Rc) (B:bi w0 j (al eRc f)) (R:f.length≤9223372036854775807) (S:f.length≤l) (C:bi w0 o (al eRc i)) (T:i.length≤9223372036854775807) (U:i.length≤q) (N:Nat) (r:Bool) (F:F35 N f i=some r):bn Tryz.prog 35 [.slice j f.length l,.slice o i.length q] w0 fun v w=>v=.bool r∧Below w0.heap.size w0 w:=by
 refine az (n:=26) func35 rfl ntmps35 rfl ?_
 have I:=Inv.start w0
 unfold F35 at F
 refine ab (rgn (by kernel_rfl) (pu bF (by kernel_rfl) (aa (ab (ab (rgn (by kernel_rfl) (pu3 (.slice j f.length l) (iv ((f.length:Nat):Int)) (.slice o i.length q) (by kernel_rfl) (pu (iv ((i.length:Nat):Int)) (by kernel_rfl) (ifN F (fun s F=>?_) (fun s F=>?_))))))))))
 ·
  refine ph (de rfl rfl (fun _=>?_) (fun h=>absurd h s))
  refine aa (ah rfl (ab (rgn (by kernel_rfl) (pu bF (by kernel_rfl) (aa (aj ?_))))))
  cases F
  exact ⟨_,Ret.r1 rfl rfl,⟨rfl,I.below⟩⟩


 refine ph (de rfl rfl (fun h=>absurd s h) (fun _=>aa (ai rfl (ak (ab (ab (rgn (by kernel_rfl) (pu3 (.slice j f.length l) (iv ((f.length:Nat):Int)) (iv 0) (by kernel_rfl) (aa (au (cb (fun m ρ w=>∃ (g:Int) (mm:Nat),cd ρ [(0,.slice j f.length l),(1,.slice o i.length q),(12,iv (f.length:Int)),(13,iv g)]∧Inv [] w0 w []∧F35l1 f i mm g=some r∧mm=m) (m:=N) ⟨0,N,⟨rfl,rfl,rfl,rfl,trivial⟩,I.pk [] rfl rfl,F,rfl⟩ ?_)))))))))))
 rintro m ρ w ⟨g,mm,hag,I,F,hm⟩
 subst hm; obtain ⟨ρ,rfl⟩:=hag.form; clear hag
 obtain _ | m1:=mm
 ·cases (show (none:Option Bool)=some r from F)
 replace F:F35b1 f i (F35l1 f i m1) g=some r:=F; unfold F35b1 at F
 refine ab (rgn (by kernel_rfl) (ifN F (fun u F=>?_) (fun u F=>?_)))
 ·
  refine ph (cm rfl rfl (fun h=>absurd h u) (fun _=>aa (ab (ai rfl (bw (ab (rgn (by kernel_rfl) (pu bT (by kernel_rfl) (aa (aj ?_))))))))))
  cases F
  exact ⟨_,Ret.r1 rfl rfl,⟨rfl,I.below⟩⟩
 refine ph (cm rfl rfl (fun _=>?_) (fun h=>absurd u h))
 refine aa (ab (ah rfl (ak (ab (au (ab (rgn (by kernel_rfl) (pu2 (iv g) (iv g) (by kernel_rfl) (aa (ab (gm 9 I (by kernel_rfl) (zp2 (.slice j f.length l) (iv g) (fun _=>(by kernel_rfl)) (gdE F (fun y F=>bt F (fun a z F=>?_)))))))))))))))
 obtain ⟨D,E,G,H,J⟩:=B.at_ bx (by decide) z
 refine zc (.pointer (some ⟨D,E+(g).toNat * 8,none⟩)) (fun w I=>cn (g).toNat zu45 md rfl G rfl (Int.toNat_of_nonneg y).symm (fa z rfl) br) (zc (.agg (qg a).toArray) (fun w I=>ef I (qg a) mh md rfl rfl H (by simp) J br) (zp2 (.slice o i.length q) (iv g) (fun _=>(by kernel_rfl)) (bt F (fun e A F=>?_))))
 obtain ⟨K,L,M,O,P⟩:=C.at_ bx (by decide) A
 refine zc (.pointer (some ⟨K,L+(g).toNat * 8,none⟩)) (fun w I=>cn (g).toNat zu45 md rfl M rfl (Int.toNat_of_nonneg y).symm (fa A rfl) br) (zc (.agg (qg e).toArray) (fun w I=>ef I (qg e) mh md rfl rfl O (by simp) P br) (ifN F (fun x F=>?_) (fun x F=>?_)))
 ·
  refine zc bT (fun w I=>s_neqA (b:=decide (a.p=e.p) && decide (a.n=e.n) && decide (a.k=e.k) && decide (a.d=e.d) && decide (a.kn=e.kn) && decide (a.op=e.op) && decide (a.on=e.on) && decide (a.t=e.t)) rfl rfl (by kernel_rfl) (fun w=>eq25 _ a.p a.n a.k a.d a.kn a.op a.on a.t e.p e.n e.k e.d e.kn e.op e.on e.t w) (fun _=>br) (fun h=>absurd h x)) (zh (fun w I=>aa (ah rfl (ab (rgn (by kernel_rfl) (pu bF (by kernel_rfl) (aa (aj ?_))))))))
  cases F
  exact ⟨_,Ret.r1 rfl rfl,⟨rfl,I.below⟩⟩
 refine zc bF (fun w I=>s_neqA (b:=decide (a.p=e.p) && decide (a.n=e.n) && decide (a.k=e.k) && decide (a.d=e.d) && decide (a.kn=e.kn) && decide (a.op=e.op) && decide (a.on=e.on) && decide (a.t=e.t)) rfl rfl (by kernel_rfl) (fun w=>eq25 _ a.p a.n a.k a.d a.kn a.op a.on a.t e.p e.n e.k e.d e.kn e.op e.on e.t w) (fun h=>absurd x h) (fun _=>br)) (zh (fun w I=>aa (ai rfl (ak (rgn (by kernel_rfl) (ckE F (fun Q F=>ph (cj rfl rfl Q (pu (iv (g+1)) (by kernel_rfl) (aa (⟨rfl,m1,Nat.lt_succ_self _,⟨g+1,m1,⟨rfl,rfl,rfl,rfl,trivial⟩,I.pk [] rfl rfl,F,rfl⟩⟩)))))))))))
end Go.K
