import Derived.Test.YtkmnjiejlgoglaaEWb
namespace Go.K
open Go.Proofs Go.RowKit
set_option linter.unusedVariables false
set_option linter.unusedSimpArgs false
set_option maxRecDepth 100000
attribute [local irreducible] Seq cw CallV AnyE opX
theorem L69 (w0:World) (g:Option Addr) (i:Nat) (d:List Ch) (e:Option Addr) (f:Nat) (b:List Ce) (a:Dr) (k:bi w0 g (al eCh d)) (l:d.length≤9223372036854775807) (m:d.length≤i) (o:bi w0 e (al eCe b)) (p:b.length≤9223372036854775807) (q:b.length≤f) (r:Bool) (F:F69 d b a=some r):cc Try.prog 69 [.agg #[.slice g d.length i,.slice e b.length f],.agg #[iv a.fr,iv a.to]] w0 fun v w=>v=.bool r∧Below w0.heap.size w0 w:=by
 refine az (n:=18) Try.func69 rfl Try.ntmps69 rfl ?_
 have I:=Inv.start w0
 unfold F69 at F
 refine ab (rgn (by kernel_rfl) (ph (ca I _ rfl fun b8 w I=>ph (ca I _ rfl fun b9 w I=>pu bF (by kernel_rfl) (aa (ab (rgn (by kernel_rfl) (pu (pt b9) (by kernel_rfl) (ph (ag I 0 (iv a.fr) Try.isAgg3 rfl rfl rfl (pu (.pointer (some ⟨b9,1,none⟩)) (by kernel_rfl) (ph (ag I 0 (iv a.to) Try.isAgg3 rfl rfl rfl (bt F (fun s j F=>ifN F (fun h7 F=>?_) (fun h7 F=>?_))))))))))))))))
 ·
  refine ph (ac I 61 _ _ (by kernel_rfl) (cc.mono (L61 _ a.fr 0 a.to _ j) (fun v' w' h=>⟨h.1.trans (congrArg Value.bool (Bool.eq_false_iff.2 h7)),h.2⟩)) fun w I=>pu bF (by kernel_rfl) (sf 6 (by kernel_rfl) (pu2 bF bF (by kernel_rfl) (aa (aj ?_)))))
  cases F
  exact ⟨_,Ret.r1 rfl rfl,⟨rfl,I.below⟩⟩


 refine ph (ac I 61 _ _ (by kernel_rfl) (cc.mono (L61 _ a.fr 0 a.to _ j) (fun v' w' h=>⟨h.1.trans (congrArg Value.bool h7),h.2⟩)) fun w I=>pu bT (by kernel_rfl) (pup (.pointer (some ⟨b9,1,none⟩)) (by kernel_rfl) (aw (by kernel_rfl) (ag I 0 (iv a.to) Try.isAgg3 rfl rfl rfl (pup (.pointer (some ⟨b8,1,none⟩)) (by kernel_rfl) (aw (by kernel_rfl) (ag I 1 (.slice e b.length f) Try.isAgg23 rfl rfl rfl (pup (iv ((b.length:Nat):Int)) (by kernel_rfl) (ifE F (fun h8 F=>?_) (fun h8 F=>?_))))))))))
 ·
  refine aw (by kernel_rfl) (cm rfl rfl (fun _=>?_) (fun h=>absurd h8 h))
  refine pu2 bT bT (by kernel_rfl) (aa (aj ?_))
  cases F
  exact ⟨_,Ret.r1 rfl rfl,⟨rfl,I.below⟩⟩
 refine aw (by kernel_rfl) (cm rfl rfl (fun h=>absurd h h8) (fun _=>pu2 bF bF (by kernel_rfl) (aa (aj ?_))))
 cases F
 exact ⟨_,Ret.r1 rfl rfl,⟨rfl,I.below⟩⟩
theorem L77 (w0:World) (l:Option Addr) (o:Nat) (f:List Ch) (g:Option Addr) (i:Nat) (a:List Ce) (j:Int) (e:Int) (G:bi w0 l (al eCh f)) (H:f.length≤9223372036854775807) (J:f.length≤o) (u:bi w0 g (al eCe a)) (K:a.length≤9223372036854775807) (L:a.length≤i) (N:Nat) (r:Int) (F:F77 N f a j e=some r):cc Try.prog 77 [.agg #[.slice l f.length o,.slice g a.length i],iv j,iv e] w0 fun v w=>v=iv r∧Below w0.heap.size w0 w:=by
 refine az (n:=31) Try.func77 rfl Try.ntmps77 rfl ?_
 have I:=Inv.start w0
 unfold F77 at F
 refine ab (rgn (by kernel_rfl) (ph (ca I _ rfl fun k w I=>pu (iv 0) (by kernel_rfl) (aa (ab (rgn (by kernel_rfl) (pu (iv 0) (by kernel_rfl) (aa (ab (ab (rgn (by kernel_rfl) (pu2 (iv j) (iv j) (by kernel_rfl) (aa (au (cb (fun m ρ w=>∃ (d:Int) (b:Int) (mm:Nat),cd ρ [(2,iv e),(3,pt k),(7,iv d),(8,iv b)]∧Inv [] w0 w [(some k,blk [.slice l f.length o,.slice g a.length i] 25)]∧F77l1 a e mm d b=some r∧mm=m) (m:=N) ⟨0,j,N,⟨rfl,rfl,rfl,rfl,trivial⟩,I.pk [0] rfl rfl,F,rfl⟩ ?_)))))))))))))))
 rintro m ρ w ⟨d,b,mm,hag,I,F,hm⟩
 subst hm; obtain ⟨ρ,rfl⟩:=hag.form; clear hag
 obtain _ | m1:=mm
 ·cases (show (none:Option Int)=some r from F)
 replace F:F77b1 a e (F77l1 a e m1) d b=some r:=F; unfold F77b1 at F
 refine ab (ab (rgn (by kernel_rfl) (pu2 (iv b) (iv e) (by kernel_rfl) (ifN F (fun p F=>?_) (fun p F=>?_)))))
 ·
  refine ph (fq rfl rfl (fun h=>absurd h p) (fun _=>pu bF (by kernel_rfl) (sf 5 (by kernel_rfl) (pu bF (by kernel_rfl) (aa (ai rfl (bw (ab (rgn (by kernel_rfl) (pu2 (iv d) (iv d) (by kernel_rfl) (aa (aj ?_))))))))))))
  cases F
  exact ⟨_,Ret.r1 rfl rfl,⟨rfl,I.below⟩⟩


 refine ph (fq rfl rfl (fun _=>?_) (fun h=>absurd p h))
 refine pu bT (by kernel_rfl) (pup (iv b) (by kernel_rfl) (pup (.pointer (some ⟨k,1,none⟩)) (by kernel_rfl) (aw (by kernel_rfl) (ag I 0 (.slice g a.length i) Try.isAgg23 rfl rfl rfl (pup (iv ((a.length:Nat):Int)) (by kernel_rfl) (ifN F (fun q F=>?_) (fun q F=>?_)))))))
 ·
  refine aw (by kernel_rfl) (cm rfl rfl (fun h=>absurd h q) (fun _=>pu bF (by kernel_rfl) (aa (ai rfl (bw (ab (rgn (by kernel_rfl) (pu2 (iv d) (iv d) (by kernel_rfl) (aa (aj ?_))))))))))
  cases F
  exact ⟨_,Ret.r1 rfl rfl,⟨rfl,I.below⟩⟩
 refine aw (by kernel_rfl) (cm rfl rfl (fun _=>?_) (fun h=>absurd q h))
 refine pu bT (by kernel_rfl) (aa (ah rfl (ak (ab (au (rgn (by kernel_rfl) (pu2 (iv d) (.pointer (some ⟨k,1,none⟩)) (by kernel_rfl) (ph (ag I 0 (.slice g a.length i) Try.isAgg23 rfl rfl rfl (pu (iv b) (by kernel_rfl) (gdE F (fun x F=>bt F (fun s t F=>?_)))))))))))))
 obtain ⟨y,z,A,B,C⟩:=u.at_ eCe_len (by decide) t
 refine ph (cn (b).toNat Try.underlying23 Try.sizeOf32 rfl A rfl (Int.toNat_of_nonneg x).symm (fa t rfl) (pu (.pointer (some ⟨y,z+(b).toNat * 3+2,none⟩)) (by kernel_rfl) (ph (dj I (iv s.wo) Try.isAgg3 rfl B (by simp) (C 2 _ rfl) (ckE F (fun D F=>ph (cj rfl rfl D (pu (iv (d+s.wo)) (by kernel_rfl) (aa (rgn (by kernel_rfl) (pu (iv b) (by kernel_rfl) (ckE F (fun E F=>ph (cj rfl rfl E (pu (iv (b+1)) (by kernel_rfl) (aa (⟨rfl,m1,Nat.lt_succ_self _,⟨d+s.wo,b+1,m1,⟨rfl,rfl,rfl,rfl,trivial⟩,I.pk [0] rfl rfl,F,rfl⟩⟩)))))))))))))))))
theorem L53 (w0:World) (a:Gn) (b:Gn) (r:Bool) (F:F53 a b=some r):cc Try.prog 53 [.agg #[iv a.num,iv a.den],.agg #[iv b.num,iv b.den]] w0 fun v w=>v=.bool r∧Below w0.heap.size w0 w:=by
 refine az (n:=16) Try.func53 rfl Try.ntmps53 rfl ?_
 have I:=Inv.start w0
 unfold F53 at F
 refine ab (rgn (by kernel_rfl) (ph (ca I _ rfl fun b4 w I=>ph (ca I _ rfl fun b5 w I=>pu bF (by kernel_rfl) (aa (ab (rgn (by kernel_rfl) (pu (pt b4) (by kernel_rfl) (ph (ag I 1 (iv a.num) Try.isAgg3 rfl rfl rfl (pu (.pointer (some ⟨b5,1,none⟩)) (by kernel_rfl) (ph (ag I 0 (iv b.den) Try.isAgg3 rfl rfl rfl (ckE F (fun e F=>ph (s_mul rfl rfl e (pu (pt b5) (by kernel_rfl) (ph (ag I 0 (iv b.num) Try.isAgg3 rfl rfl rfl (pu (.pointer (some ⟨b4,1,none⟩)) (by kernel_rfl) (ph (ag I 1 (iv a.den) Try.isAgg3 rfl rfl rfl (ckE F (fun f F=>ph (s_mul rfl rfl f (ifE F (fun d F=>?_) (fun d F=>?_)))))))))))))))))))))))))))
 ·
  refine ph (cm rfl rfl (fun _=>?_) (fun h=>absurd d h))
  refine pu bT (by kernel_rfl) (aa (aj ?_))
  cases F
  exact ⟨_,Ret.r1 rfl rfl,⟨rfl,I.below⟩⟩
 refine ph (cm rfl rfl (fun h=>absurd h d) (fun _=>pu bF (by kernel_rfl) (aa (aj ?_))))
 cases F
 exact ⟨_,Ret.r1 rfl rfl,⟨rfl,I.below⟩⟩


theorem L80 (w0:World) (a:Gn) (r:Bool) (F:F80 a=some r):cc Try.prog 80 [.agg #[iv a.num,iv a.den]] w0 fun v w=>v=.bool r∧Below w0.heap.size w0 w:=by
 refine az (n:=11) Try.func80 rfl Try.ntmps80 rfl ?_
 have I:=Inv.start w0
 unfold F80 at F
 refine ab (rgn (by kernel_rfl) (ph (ca I _ rfl fun b w I=>pu bF (by kernel_rfl) (aa (ab (rgn (by kernel_rfl) (pu (pt b) (by kernel_rfl) (ph (ag I 0 (iv a.num) Try.isAgg3 rfl rfl rfl (bt F (fun g d F=>ifN F (fun h4 F=>?_) (fun h4 F=>?_))))))))))))
 ·
  refine ph (ac I 61 _ _ (by kernel_rfl) (cc.mono (L61 _ a.num 0 1000000 _ d) (fun v' w' h=>⟨h.1.trans (congrArg Value.bool (Bool.eq_false_iff.2 h4)),h.2⟩)) fun w I=>pu bF (by kernel_rfl) (sf 3 (by kernel_rfl) (pu2 bF bF (by kernel_rfl) (aa (aj ?_)))))
  cases F
  exact ⟨_,Ret.r1 rfl rfl,⟨rfl,I.below⟩⟩


 refine ph (ac I 61 _ _ (by kernel_rfl) (cc.mono (L61 _ a.num 0 1000000 _ d) (fun v' w' h=>⟨h.1.trans (congrArg Value.bool h4),h.2⟩)) fun w I=>pu bT (by kernel_rfl) (pup (.pointer (some ⟨b,1,none⟩)) (by kernel_rfl) (aw (by kernel_rfl) (ag I 0 (iv a.den) Try.isAgg3 rfl rfl rfl (bt F (fun e f F=>aw (by kernel_rfl) (ac I 61 _ _ (by kernel_rfl) (L61 _ a.den 1 1000000 _ f) fun w I=>pu2 (.bool e) (.bool e) (by kernel_rfl) (aa (aj ?_)))))))))
 cases F
 exact ⟨_,Ret.r1 rfl rfl,⟨rfl,I.below⟩⟩
theorem L81 (w0:World) (u:Option Addr) (x:Nat) (i:List Ch) (y:Option Addr) (z:Nat) (k:List Ce) (A:Nat) (B:List En) (J:Nat) (K:Int→Option Int) (l:Option Addr) (o:Nat) (b:List Cl) (p:Option Addr) (q:Nat) (a:List Dr) (a0:bi w0 u (al eCh i)) (a1:i.length≤9223372036854775807) (a2:i.length≤x) (a3:bi w0 y (al eCe k)) (a4:k.length≤9223372036854775807) (a5:k.length≤z) (a6:w0.heap[A]?=some (fp B J)) (a7:MOk B J) (a8:∀ j,el B j=(K j).map (Value.int .i64)) (Q:bi w0 l (al eCl b)) (a9:b.length≤9223372036854775807) (aA:b.length≤o) (R:bi w0 p (al eDr a)) (aB:a.length≤9223372036854775807) (aC:a.length≤q) (N:Nat) (r:Bool) (F:F81 N i k K b a=some r):cc Try.prog 81 [.agg #[.slice u i.length x,.slice y k.length z,.map (some A),.slice l b.length o],.slice p a.length q] w0 fun v w=>v=.bool r∧Below w0.heap.size w0 w:=by
 refine az (n:=52) Try.func81 rfl Try.ntmps81 rfl ?_
 have I:=Inv.start w0
 unfold F81 at F
 refine ab (rgn (by kernel_rfl) (ph (ca I _ rfl fun t w I=>pu bF (by kernel_rfl) (aa (ab (ab (rgn (by kernel_rfl) (pu3 (.slice p a.length q) (iv ((a.length:Nat):Int)) (.pointer (some ⟨t,3,none⟩)) (by kernel_rfl) (ph (ag I 0 (.slice l b.length o) Try.isAgg26 rfl rfl rfl (pu (iv ((b.length:Nat):Int)) (by kernel_rfl) (ifN F (fun C F=>?_) (fun C F=>?_)))))))))))))
 ·
  refine ph (de rfl rfl (fun _=>?_) (fun h=>absurd h C))
  refine aa (ah rfl (ab (rgn (by kernel_rfl) (pu bF (by kernel_rfl) (aa (aj ?_))))))
  cases F
  exact ⟨_,Ret.r1 rfl rfl,⟨rfl,I.below⟩⟩


 refine ph (de rfl rfl (fun h=>absurd C h) (fun _=>aa (ai rfl (ak (ab (rgn (by kernel_rfl) (pu (iv 0) (by kernel_rfl) (aa (ab (ab (rgn (by kernel_rfl) (pu3 (.slice p a.length q) (iv ((a.length:Nat):Int)) (iv 0) (by kernel_rfl) (aa (au (cb (fun m ρ w=>∃ (g:Int) (d:Int) (mm:Nat),cd ρ [(2,pt t),(5,iv g),(15,.slice p a.length q),(16,iv (a.length:Int)),(17,iv d)]∧Inv [] w0 w [(some t,blk [.slice u i.length x,.slice y k.length z,.map (some A),.slice l b.length o] 120)]∧F81l1 b a mm g d=some r∧mm=m) (m:=N) ⟨0,0,N,⟨rfl,rfl,rfl,rfl,rfl,trivial⟩,I.pk [0] rfl rfl,F,rfl⟩ ?_)))))))))))))))
 rintro m ρ w ⟨g,d,mm,hag,I,F,hm⟩
 subst hm; obtain ⟨ρ,rfl⟩:=hag.form; clear hag
 obtain _ | m1:=mm
 ·cases (show (none:Option Bool)=some r from F)
 replace F:F81b1 b a (F81l1 b a m1) g d=some r:=F; unfold F81b1 at F
 refine ab (rgn (by kernel_rfl) (ifN F (fun D F=>?_) (fun D F=>?_)))
 ·
  refine ph (cm rfl rfl (fun h=>absurd h D) (fun _=>aa (ab (ai rfl (bw (ab (rgn (by kernel_rfl) (pu bT (by kernel_rfl) (aa (aj ?_))))))))))
  cases F
  exact ⟨_,Ret.r1 rfl rfl,⟨rfl,I.below⟩⟩
 refine ph (cm rfl rfl (fun _=>?_) (fun h=>absurd D h))
 refine aa (ab (ah rfl (ak (ab (au (ab (rgn (by kernel_rfl) (pu (iv d) (by kernel_rfl) (gdE F (fun L F=>bt F (fun e M F=>?_)))))))))))
 obtain ⟨aD,aE,S,T,U⟩:=R.at_ eDr_len (by decide) M
 refine ph (cn (d).toNat Try.underlying63 Try.sizeOf49 rfl S rfl (Int.toNat_of_nonneg L).symm (fa M rfl) (ph (ef I [iv e.fr,iv e.to] Try.isAgg49 Try.sizeOf49 rfl rfl T (by simp) U (ph (bh I _ Try.zeroValue49 rfl fun s w I=>pu (iv d) (by kernel_rfl) (ph (mb I 0 _ Try.sizeOf49 rfl rfl rfl rfl rfl rfl fun w I=>aa (ab (rgn (by kernel_rfl) (pu (.pointer (some ⟨t,3,none⟩)) (by kernel_rfl) (ph (ag I 1 (.slice l b.length o) Try.isAgg26 rfl rfl rfl (pu (iv d) (by kernel_rfl) (bt F (fun f O F=>?_)))))))))))))))
 obtain ⟨aF,aG,V,W,X⟩:=Q.at_ eb (by decide) O
 refine ph (cn (d).toNat Try.underlying26 Try.sizeOf34 rfl V rfl (Int.toNat_of_nonneg L).symm (fa O rfl) (ph (ef I [iv f.fam,iv f.hd,iv f.fr,iv f.to] Try.isAgg34 Try.sizeOf34 rfl rfl W (by simp) X (ph (bh I _ Try.zeroValue34 rfl fun P w I=>ph (mb I 0 _ Try.sizeOf34 rfl rfl rfl rfl rfl rfl fun w I=>aa (ab (ab (rgn (by kernel_rfl) (pu (pt s) (by kernel_rfl) (ph (ag I 1 (iv e.fr) Try.isAgg3 rfl rfl rfl (pu2 (iv g) (.pointer (some ⟨P,2,none⟩)) (by kernel_rfl) (ph (ag I 0 (iv f.fr) Try.isAgg3 rfl rfl rfl (pu (iv (if f.fr > g then f.fr else g)) (by kernel_rfl) (ifE F (fun E F=>?_) (fun E F=>?_))))))))))))))))))
 ·
  refine ph (cm rfl rfl (fun _=>?_) (fun h=>absurd E h))
  refine pu bT (by kernel_rfl) (sf 5 (by kernel_rfl) (pu2 bT bT (by kernel_rfl) (sf 5 (by kernel_rfl) (pu bT (by kernel_rfl) (aa (ah rfl (ab (rgn (by kernel_rfl) (pu bF (by kernel_rfl) (aa (aj ?_)))))))))))
  cases F
  exact ⟨_,Ret.r1 rfl rfl,⟨rfl,I.below⟩⟩
 refine ph (cm rfl rfl (fun h=>absurd h E) (fun _=>pu bF (by kernel_rfl) (pup (pt s) (by kernel_rfl) (aw (by kernel_rfl) (ag I 1 (iv e.fr) Try.isAgg3 rfl rfl rfl (pup (.pointer (some ⟨s,1,none⟩)) (by kernel_rfl) (aw (by kernel_rfl) (ag I 1 (iv e.to) Try.isAgg3 rfl rfl rfl (ifE F (fun G F=>?_) (fun G F=>?_))))))))))
 ·
  refine aw (by kernel_rfl) (fh rfl rfl (fun _=>?_) (fun h=>absurd G h))
  refine pu2 bT bT (by kernel_rfl) (sf 5 (by kernel_rfl) (pu bT (by kernel_rfl) (aa (ah rfl (ab (rgn (by kernel_rfl) (pu bF (by kernel_rfl) (aa (aj ?_)))))))))
  cases F
  exact ⟨_,Ret.r1 rfl rfl,⟨rfl,I.below⟩⟩
 refine aw (by kernel_rfl) (fh rfl rfl (fun h=>absurd h G) (fun _=>pu2 bF bF (by kernel_rfl) (pup (.pointer (some ⟨s,1,none⟩)) (by kernel_rfl) (aw (by kernel_rfl) (ag I 1 (iv e.to) Try.isAgg3 rfl rfl rfl (pup (.pointer (some ⟨P,3,none⟩)) (by kernel_rfl) (aw (by kernel_rfl) (ag I 0 (iv f.to) Try.isAgg3 rfl rfl rfl (ifE F (fun H F=>?_) (fun H F=>?_))))))))))
 ·
  refine aw (by kernel_rfl) (fh rfl rfl (fun _=>?_) (fun h=>absurd H h))
  refine pu bT (by kernel_rfl) (aa (ah rfl (ab (rgn (by kernel_rfl) (pu bF (by kernel_rfl) (aa (aj ?_)))))))
  cases F
  exact ⟨_,Ret.r1 rfl rfl,⟨rfl,I.below⟩⟩
 refine aw (by kernel_rfl) (fh rfl rfl (fun h=>absurd h H) (fun _=>pu bF (by kernel_rfl) (aa (ai rfl (ak (rgn (by kernel_rfl) (pu (.pointer (some ⟨s,1,none⟩)) (by kernel_rfl) (ph (ag I 1 (iv e.to) Try.isAgg3 rfl rfl rfl (ckE F (fun Y F=>ph (cj rfl rfl Y (pu (iv (e.to+1)) (by kernel_rfl) (aa (rgn (by kernel_rfl) (ckE F (fun Z F=>ph (cj rfl rfl Z (pu (iv (d+1)) (by kernel_rfl) (aa (⟨rfl,m1,Nat.lt_succ_self _,⟨e.to+1,d+1,m1,⟨rfl,rfl,rfl,rfl,rfl,trivial⟩,I.pk [2] rfl rfl,F,rfl⟩⟩)))))))))))))))))))))
theorem L35 (w0:World) (o:Option Addr) (p:Nat) (f:List Ch) (q:Option Addr) (s:Nat) (g:List Ce) (i:Option Addr) (l:Nat) (d:List Cl) (A:Option Addr) (B:Nat) (t:List Dr) (E:bi w0 o (al eCh f)) (G:f.length≤9223372036854775807) (H:f.length≤p) (J:bi w0 q (al eCe g)) (K:g.length≤9223372036854775807) (L:g.length≤s) (M:bi w0 i (al eCl d)) (O:d.length≤9223372036854775807) (P:d.length≤l) (V:bi w0 A (al eDr t)) (W:t.length≤9223372036854775807) (X:t.length≤B) (N:Nat) (r:(List Gn × Int)) (F:F35 N f g d t=some r):cc Try.prog 35 [.agg #[.slice o f.length p,.slice q g.length s],.slice i d.length l,.slice A t.length B] w0 fun v w=>∃ (z0:Option Nat) (z1:Nat) (z2:List Value),v=.tuple #[slv z0 r.1.length z1,iv r.2]∧Inv [] w0 w [(z0,blk z2 51)]∧Row 2 z0 r.1.length z1 z2 (al eGn r.1):=by
 refine az (n:=40) Try.func35 rfl Try.ntmps35 rfl ?_
 have I:=Inv.start w0
 unfold F35 at F
 refine ab (rgn (by kernel_rfl) (ph (ca I _ rfl fun aP w I=>pu2 (.slice none 0 0) (iv 0) (by kernel_rfl) (aa (ab (rgn (by kernel_rfl) (ph (ma I 0 Try.isAgg25 Try.sizeOf25 rfl rfl rfl (pu (.slice i d.length l) (by kernel_rfl) (bindS3E F (fun aQ aD F=>?_) (fun aR aE F=>?_) (fun Y aF F=>?_)))))))))))
 ·
  refine ph (ac I 64 _ _ (by kernel_rfl) (L64 _ o p f q s g i l d (E.inv0 I) G H (J.inv0 I) K L (M.inv0 I) O P N _ aD) fun w I=>pu3 (.tuple #[.agg #[.slice none 0 0,.slice none 0 0,.map none,.slice none 0 0],iv 42]) (.agg #[.slice none 0 0,.slice none 0 0,.map none,.slice none 0 0]) (iv 42) (by kernel_rfl) (ph (bh I _ Try.zeroValue120 rfl fun aS w I=>ph (mb I 0 _ Try.sizeOf120 rfl rfl rfl rfl rfl rfl fun w I=>pu (iv 42) (by kernel_rfl) (aa (ab (ab (rgn (by kernel_rfl) (pu (iv 42) (by kernel_rfl) (ph (de rfl rfl (fun _=>?_) (fun h=>absurd h (by decide)))))))))))))
  refine aa (ah rfl (ab (rgn (by kernel_rfl) (pu3 (iv 42) (.slice none 0 0) (iv 42) (by kernel_rfl) (aa (aj ?_))))))
  have I:=I.nilRow 51
  cases F
  exact ⟨_,Ret.r2 rfl rfl rfl,⟨none,0,[],rfl,I.pk [0] rfl rfl,Row.nil_ 2⟩⟩
 ·
  refine ph (ac I 64 _ _ (by kernel_rfl) (L64 _ o p f q s g i l d (E.inv0 I) G H (J.inv0 I) K L (M.inv0 I) O P N _ aE) fun w I=>pu3 (.tuple #[.agg #[.slice none 0 0,.slice none 0 0,.map none,.slice none 0 0],iv 44]) (.agg #[.slice none 0 0,.slice none 0 0,.map none,.slice none 0 0]) (iv 44) (by kernel_rfl) (ph (bh I _ Try.zeroValue120 rfl fun aT w I=>ph (mb I 0 _ Try.sizeOf120 rfl rfl rfl rfl rfl rfl fun w I=>pu (iv 44) (by kernel_rfl) (aa (ab (ab (rgn (by kernel_rfl) (pu (iv 44) (by kernel_rfl) (ph (de rfl rfl (fun _=>?_) (fun h=>absurd h (by decide)))))))))))))
  refine aa (ah rfl (ab (rgn (by kernel_rfl) (pu3 (iv 44) (.slice none 0 0) (iv 44) (by kernel_rfl) (aa (aj ?_))))))
  have I:=I.nilRow 51
  cases F
  exact ⟨_,Ret.r2 rfl rfl rfl,⟨none,0,[],rfl,I.pk [0] rfl rfl,Row.nil_ 2⟩⟩
 refine ph (co 64 _ (by kernel_rfl) (L64 _ o p f q s g i l d (E.inv0 I) G H (J.inv0 I) K L (M.inv0 I) O P N _ aF) ?_)
 rintro v w ⟨Q,Z,a0,rfl,hN,a1,a2⟩
 have I:=I.join hN; clear hN
 refine pu3 (.tuple #[.agg #[.slice o f.length p,.slice q g.length s,.map (some Q),.slice i d.length l],iv 0]) (.agg #[.slice o f.length p,.slice q g.length s,.map (some Q),.slice i d.length l]) (iv 0) (by kernel_rfl) (ph (bh I _ Try.zeroValue120 rfl fun aU w I=>ph (mb I 0 _ Try.sizeOf120 rfl rfl rfl rfl rfl rfl fun w I=>pu (iv 0) (by kernel_rfl) (aa (ab (ab (rgn (by kernel_rfl) (pu (iv 0) (by kernel_rfl) (ph (de rfl rfl (fun h=>absurd (by decide) h) (fun _=>aa (ai rfl (ak (ab (ab (rgn (by kernel_rfl) (ph (ma I 0 Try.isAgg120 Try.sizeOf120 rfl rfl rfl (pu (.slice A t.length B) (by kernel_rfl) (bt F (fun aV a8 F=>ifN F (fun a3 F=>?_) (fun a3 F=>?_))))))))))))))))))))))
 ·
  refine ph (ac I 81 _ _ (by kernel_rfl) (cc.mono (L81 _ o p f q s g Q Z a0 Y i l d A B t (E.inv0 I) G H (J.inv0 I) K L (I.has 1 _ _ rfl).1 a1 a2 (M.inv0 I) O P (V.inv0 I) W X N _ a8) (fun v' w' h=>⟨h.1.trans (congrArg Value.bool (Bool.eq_false_iff.2 a3)),h.2⟩)) fun w I=>pu bT (by kernel_rfl) (aa (ah rfl (ab (rgn (by kernel_rfl) (pu2 (.slice none 0 0) (iv 46) (by kernel_rfl) (aa (aj ?_))))))))
  have I:=I.nilRow 51
  cases F
  exact ⟨_,Ret.r2 rfl rfl rfl,⟨none,0,[],rfl,I.pk [0] rfl rfl,Row.nil_ 2⟩⟩


 refine ph (ac I 81 _ _ (by kernel_rfl) (cc.mono (L81 _ o p f q s g Q Z a0 Y i l d A B t (E.inv0 I) G H (J.inv0 I) K L (I.has 1 _ _ rfl).1 a1 a2 (M.inv0 I) O P (V.inv0 I) W X N _ a8) (fun v' w' h=>⟨h.1.trans (congrArg Value.bool a3),h.2⟩)) fun w I=>pu bF (by kernel_rfl) (aa (ai rfl (ak (ab (rgn (by kernel_rfl) (pu (.slice none 0 0) (by kernel_rfl) (aa (ab (ab (rgn (by kernel_rfl) (ph (ma I 0 Try.isAgg120 Try.sizeOf120 rfl rfl rfl (pu (.slice A t.length B) (by kernel_rfl) (bt F (fun x aG F=>ph (co 82 _ (by kernel_rfl) (L82 _ o p f q s g Q Z a0 Y i l d A B t (E.inv0 I) G H (J.inv0 I) K L (I.has 1 _ _ rfl).1 a1 a2 (M.inv0 I) O P (V.inv0 I) W X N _ aG) ?_)))))))))))))))))
 rintro v w ⟨aH,aI,aJ,rfl,hN,aK⟩
 have I:=I.join hN; clear hN
 refine pu2 (iv ((x.length:Nat):Int)) (iv 0) (by kernel_rfl) (aa (au ?_))
 have I:=I.nilRow 51
 refine cb (fun m ρ w=>∃ (y:Option Nat) (C:Nat) (R:List Value) (S:Option Nat) (T:Nat) (U:List Value) (e:List Gn) (D:Int) (mm:Nat),cd ρ [(10,slv y e.length C),(28,slv S x.length T),(29,iv (x.length:Int)),(30,iv D)]∧Inv [] w0 w [(y,blk R 51),(S,blk U 136)]∧(Row 2 y (e.length) C R (al eGn e))∧(Row 2 S (x.length) T U (al eGn x))∧F35l1 x mm e D=some r∧mm=m) (m:=N) ⟨none,0,[],aH,aI,aJ,[],0,N,⟨rfl,rfl,rfl,rfl,trivial⟩,I.pk [0,1] rfl rfl,(Row.nil_ 2),(aK.to rfl rfl),F,rfl⟩ ?_
 rintro m ρ w ⟨y,C,R,S,T,U,e,D,mm,hag,I,a9,aA,F,hm⟩
 subst hm; obtain ⟨ρ,rfl⟩:=hag.form; clear hag
 obtain _ | m1:=mm
 ·cases (show (none:Option (List Gn × Int))=some r from F)
 replace F:F35b1 x (F35l1 x m1) e D=some r:=F; unfold F35b1 at F
 refine ab (rgn (by kernel_rfl) (ifN F (fun a4 F=>?_) (fun a4 F=>?_)))
 ·
  refine ph (cm rfl rfl (fun h=>absurd h a4) (fun _=>aa (ab (ai rfl (bw (ab (rgn (by kernel_rfl) (pu3 (slv y e.length C) (slv y e.length C) (iv 0) (by kernel_rfl) (aa (aj ?_))))))))))
  cases F
  exact ⟨_,Ret.r2 rfl rfl rfl,⟨y,C,R,rfl,I.pk [0] rfl rfl,a9.to rfl rfl⟩⟩
 refine ph (cm rfl rfl (fun _=>?_) (fun h=>absurd a4 h))
 refine aa (ab (ah rfl (ak (ab (au (ab (rgn (by kernel_rfl) (gdE F (fun aL F=>bt F (fun a aB F=>?_))))))))))
 obtain ⟨aM,rfl,aN⟩:=aA.at_ ms (by decide) aB
 refine ph (be (D).toNat Try.underlying140 Try.sizeOf136 rfl rfl (Int.toNat_of_nonneg aL).symm (fa aB rfl) (ph (cq I 1 [iv a.num,iv a.den] Try.isAgg136 Try.sizeOf136 rfl rfl rfl aN (ph (bh I _ Try.zeroValue136 rfl fun aW w I=>ph (mb I 0 _ Try.sizeOf136 rfl rfl rfl rfl rfl rfl fun w I=>aa (rgn (by kernel_rfl) (pu (slv y e.length C) (by kernel_rfl) (ph (ma I 0 Try.isAgg136 Try.sizeOf136 rfl rfl rfl (ph (fu I [iv a.num,iv a.den] 51 (fun b=>slv (some b) 1 1) (by kernel_rfl) fun aX w I=>gdE F (fun aY F=>ph (ks I Try.underlying72 (z:=.agg #[iv 0,iv 0]) (k:=2) (bytes:=16) (by kernel_rfl) rfl rfl 2 rfl rfl a9 [iv a.num,iv a.den] rfl rfl (I.cells 0 (off:=0) rfl (fun j u h=>by rw [Nat.zero_add]; exact h)) (by simp [Value.oneCell']) (by omega) (by omega) (n2:=(e++[(⟨a.num,a.den⟩:Gn)]).length) (kr rfl rfl) ?_))))))))))))))
 intro a5 a6 aC w I a7
 have a7:Row 2 a5 ((e++[(⟨a.num,a.den⟩:Gn)]).length) a6 aC (al eGn (e++[(⟨a.num,a.den⟩:Gn)])):=a7.snoc _ rfl
 refine pu (slv a5 ((e++[(⟨a.num,a.den⟩:Gn)]).length) a6) (by kernel_rfl) (aa (rgn (by kernel_rfl) (ckE F (fun aO F=>ph (cj rfl rfl aO (pu (iv (D+1)) (by kernel_rfl) (aa (⟨rfl,m1,Nat.lt_succ_self _,⟨a5,a6,aC,some aM,T,U,e++[(⟨a.num,a.den⟩:Gn)],D+1,m1,⟨rfl,rfl,rfl,rfl,trivial⟩,I.pk [2,3] rfl rfl,(a7.to rfl rfl),(aA.to rfl rfl),F,rfl⟩⟩))))))))
theorem L88 (w0:World) (i:Option Addr) (j:Nat) (d:List Ch) (k:Option Addr) (l:Nat) (e:List Ce) (o:Option Addr) (p:Nat) (b:List Cl) (q:Option Addr) (s:Nat) (g:List Dr) (L:bi w0 i (al eCh d)) (M:d.length≤9223372036854775807) (O:d.length≤j) (P:bi w0 k (al eCe e)) (Q:e.length≤9223372036854775807) (R:e.length≤l) (a2:bi w0 o (al eCl b)) (aC:b.length≤9223372036854775807) (aD:b.length≤p) (S:bi w0 q (al eDr g)) (aE:g.length≤9223372036854775807) (aF:g.length≤s) (N:Nat) (r:Bool) (F:F88 N d e b g=some r):cc Try.prog 88 [.agg #[.slice i d.length j,.slice k e.length l],.slice o b.length p,.slice q g.length s] w0 fun v w=>v=.bool r∧Below w0.heap.size w0 w:=by
 refine az (n:=63) Try.func88 rfl Try.ntmps88 rfl ?_
 have I:=Inv.start w0
 unfold F88 at F
 refine ab (rgn (by kernel_rfl) (ph (ca I _ rfl fun t w I=>pu bF (by kernel_rfl) (aa (ab (ab (rgn (by kernel_rfl) (pu3 (.slice q g.length s) (iv ((g.length:Nat):Int)) (.slice o b.length p) (by kernel_rfl) (pu (iv ((b.length:Nat):Int)) (by kernel_rfl) (ifN F (fun z F=>?_) (fun z F=>?_)))))))))))
 ·
  refine ph (de rfl rfl (fun _=>?_) (fun h=>absurd h z))
  refine aa (ah rfl (ab (rgn (by kernel_rfl) (pu bF (by kernel_rfl) (aa (aj ?_))))))
  cases F
  exact ⟨_,Ret.r1 rfl rfl,⟨rfl,I.below⟩⟩


 refine ph (de rfl rfl (fun h=>absurd z h) (fun _=>aa (ai rfl (ak (ab (ab (rgn (by kernel_rfl) (pu (iv 0) (by kernel_rfl) (aa (au (cb (fun m ρ w=>∃ (a:Int) (mm:Nat),cd ρ [(1,.slice o b.length p),(2,.slice q g.length s),(3,pt t),(7,iv a)]∧Inv [] w0 w [(some t,blk [.slice i d.length j,.slice k e.length l] 25)]∧F88l1 d e b g mm a=some r∧mm=m) (m:=N) ⟨0,N,⟨rfl,rfl,rfl,rfl,trivial⟩,I.pk [0] rfl rfl,F,rfl⟩ ?_)))))))))))
 rintro m ρ w ⟨a,mm,hag,I,F,hm⟩
 subst hm; obtain ⟨ρ,rfl⟩:=hag.form; clear hag
 obtain _ | m1:=mm
 ·cases (show (none:Option Bool)=some r from F)
 replace F:F88b1 d e b g (F88l1 d e b g m1) a=some r:=F; unfold F88b1 at F
 refine ab (ab (rgn (by kernel_rfl) (pu3 (iv a) (.slice o b.length p) (iv ((b.length:Nat):Int)) (by kernel_rfl) (ifN F (fun A F=>?_) (fun A F=>?_)))))
 ·
  refine ph (cm rfl rfl (fun h=>absurd h A) (fun _=>aa (ai rfl (bw (ab (rgn (by kernel_rfl) (pu bT (by kernel_rfl) (aa (aj ?_)))))))))
  cases F
  exact ⟨_,Ret.r1 rfl rfl,⟨rfl,I.below⟩⟩
 refine ph (cm rfl rfl (fun _=>?_) (fun h=>absurd A h))
 refine aa (ah rfl (ak (ab (au (ab (rgn (by kernel_rfl) (pu2 (.slice q g.length s) (iv a) (by kernel_rfl) (gdE F (fun B F=>bt F (fun f T F=>?_))))))))))
 obtain ⟨aG,aH,a3,a4,a5⟩:=S.at_ eDr_len (by decide) T
 refine ph (cn (a).toNat Try.underlying63 Try.sizeOf49 rfl a3 rfl (Int.toNat_of_nonneg B).symm (fa T rfl) (ph (ef I [iv f.fr,iv f.to] Try.isAgg49 Try.sizeOf49 rfl rfl a4 (by simp) a5 (ph (bh I _ Try.zeroValue49 rfl fun C w I=>ph (mb I 0 _ Try.sizeOf49 rfl rfl rfl rfl rfl rfl fun w I=>aa (dn (fun ρ w=>cd ρ [(1,.slice o b.length p),(2,.slice q g.length s),(3,pt t),(7,iv a),(62,bF)]∧Inv [] w0 w [(some t,blk [.slice i d.length j,.slice k e.length l] 25)]∧F88j2 (F88l1 d e b g m1) a=some r) ?_ ?_)))))))
 ·
  refine gm 39 I (by kernel_rfl) (zc (.agg #[.slice i d.length j,.slice k e.length l]) (fun w I=>ma I 1 Try.isAgg25 Try.sizeOf25 rfl rfl rfl br) (zc (.agg #[iv f.fr,iv f.to]) (fun w I=>ma I 0 Try.isAgg49 Try.sizeOf49 rfl rfl rfl br) (bt F (fun aI U F=>ifN F (fun D F=>?_) (fun D F=>?_)))))
  ·
   refine zc bF (fun w I=>co 69 [.agg #[.slice i d.length j,.slice k e.length l],.agg #[iv f.fr,iv f.to]] (by kernel_rfl) (cc.mono (L69 _ i j d k l e f (L.inv0 I) M O (P.inv0 I) Q R _ U) (fun v' w' h=>⟨h.1.trans (congrArg Value.bool (Bool.eq_false_iff.2 D)),h.2⟩)) (fun v' w' h=>h)) (zp2 bT bT (fun _=>(by kernel_rfl)) (zf 8 (by kernel_rfl) (zp2 bT bT (fun _=>(by kernel_rfl)) (zf 8 (by kernel_rfl) (zp2 bT bT (fun _=>(by kernel_rfl)) (zf 1 (by kernel_rfl) (zf 12 (by kernel_rfl) (zp bT (fun _=>(by kernel_rfl)) (zh (fun w I=>aa (.inr (ah rfl (ab (rgn (by kernel_rfl) (pu bF (by kernel_rfl) (aa (aj ?_)))))))))))))))))
   cases F
   exact ⟨_,Ret.r1 rfl rfl,⟨rfl,I.below⟩⟩
  refine zc bT (fun w I=>co 69 [.agg #[.slice i d.length j,.slice k e.length l],.agg #[iv f.fr,iv f.to]] (by kernel_rfl) (cc.mono (L69 _ i j d k l e f (L.inv0 I) M O (P.inv0 I) Q R _ U) (fun v' w' h=>⟨h.1.trans (congrArg Value.bool D),h.2⟩)) (fun v' w' h=>h)) (zp2 bF bF (fun _=>(by kernel_rfl)) (zq (pt C) (by kernel_rfl) (fun _=>(by kernel_rfl)) (zo (iv f.fr) (by kernel_rfl) (fun w I=>ag I 0 (iv f.fr) Try.isAgg3 rfl rfl rfl br) (zq (.slice o b.length p) (by kernel_rfl) (fun _=>(by kernel_rfl)) (zq (iv a) (by kernel_rfl) (fun _=>(by kernel_rfl)) (bt F (fun u E F=>?_)))))))
  obtain ⟨x,y,V,W,X⟩:=a2.at_ eb (by decide) E
  refine zo (.pointer (some ⟨x,y+(a).toNat * 4,none⟩)) (by kernel_rfl) (fun w I=>cn (a).toNat Try.underlying26 Try.sizeOf34 rfl V rfl (Int.toNat_of_nonneg B).symm (fa E rfl) br) (zq (.pointer (some ⟨x,y+(a).toNat * 4+2,none⟩)) (by kernel_rfl) (fun _=>(by kernel_rfl)) (zo (iv u.fr) (by kernel_rfl) (fun w I=>dj I (iv u.fr) Try.isAgg3 rfl W (by simp) (X 2 _ rfl) br) (ifE F (fun G F=>?_) (fun G F=>?_))))
  ·
   refine zo bT (by kernel_rfl) (fun w I=>cm rfl rfl (fun _=>br) (fun h=>absurd G h)) (zp2 bT bT (fun _=>(by kernel_rfl)) (zf 8 (by kernel_rfl) (zp2 bT bT (fun _=>(by kernel_rfl)) (zf 13 (by kernel_rfl) (zp bT (fun _=>(by kernel_rfl)) (zh (fun w I=>aa (.inr (ah rfl (ab (rgn (by kernel_rfl) (pu bF (by kernel_rfl) (aa (aj ?_))))))))))))))
   cases F
   exact ⟨_,Ret.r1 rfl rfl,⟨rfl,I.below⟩⟩
  refine zo bF (by kernel_rfl) (fun w I=>cm rfl rfl (fun h=>absurd h G) (fun _=>br)) (zp2 bF bF (fun _=>(by kernel_rfl)) (zq (.pointer (some ⟨C,1,none⟩)) (by kernel_rfl) (fun _=>(by kernel_rfl)) (zo (iv f.to) (by kernel_rfl) (fun w I=>ag I 0 (iv f.to) Try.isAgg3 rfl rfl rfl br) (zq (.slice o b.length p) (by kernel_rfl) (fun _=>(by kernel_rfl)) (zq (iv a) (by kernel_rfl) (fun _=>(by kernel_rfl)) (zo (.pointer (some ⟨x,y+(a).toNat * 4,none⟩)) (by kernel_rfl) (fun w I=>cn (a).toNat Try.underlying26 Try.sizeOf34 rfl V rfl (Int.toNat_of_nonneg B).symm (fa E rfl) br) (zq (.pointer (some ⟨x,y+(a).toNat * 4+3,none⟩)) (by kernel_rfl) (fun _=>(by kernel_rfl)) (zo (iv u.to) (by kernel_rfl) (fun w I=>dj I (iv u.to) Try.isAgg3 rfl W (by simp) (X 3 _ rfl) br) (ifE F (fun H F=>?_) (fun H F=>?_))))))))))
  ·
   refine zo bT (by kernel_rfl) (fun w I=>fh rfl rfl (fun _=>br) (fun h=>absurd H h)) (zp2 bT bT (fun _=>(by kernel_rfl)) (zf 13 (by kernel_rfl) (zp bT (fun _=>(by kernel_rfl)) (zh (fun w I=>aa (.inr (ah rfl (ab (rgn (by kernel_rfl) (pu bF (by kernel_rfl) (aa (aj ?_))))))))))))
   cases F
   exact ⟨_,Ret.r1 rfl rfl,⟨rfl,I.below⟩⟩
  refine zo bF (by kernel_rfl) (fun w I=>fh rfl rfl (fun h=>absurd h H) (fun _=>br)) (zp2 bF bF (fun _=>(by kernel_rfl)) (zq (iv a) (by kernel_rfl) (fun _=>(by kernel_rfl)) (ifN F (fun J F=>?_) (fun J F=>?_))))
  ·
   refine zo bF (by kernel_rfl) (fun w I=>fh rfl rfl (fun h=>absurd h J) (fun _=>br)) (zq bF (by kernel_rfl) (fun _=>(by kernel_rfl)) (zf 9 (by kernel_rfl) (zq bF (by kernel_rfl) (fun _=>(by kernel_rfl)) (zp bF (fun _=>(by kernel_rfl)) (zh (fun w I=>aa (.inl ⟨rfl,⟨⟨rfl,rfl,rfl,rfl,rfl,trivial⟩,I.pk [1] rfl rfl,F⟩⟩)))))))
  refine zo bT (by kernel_rfl) (fun w I=>fh rfl rfl (fun _=>br) (fun h=>absurd J h)) (zq bT (by kernel_rfl) (fun _=>(by kernel_rfl)) (zq (.slice q g.length s) (by kernel_rfl) (fun _=>(by kernel_rfl)) (zq (iv a) (by kernel_rfl) (fun _=>(by kernel_rfl)) (ckE F (fun a6 F=>zo (iv (a - 1)) (by kernel_rfl) (fun w I=>dm rfl rfl a6 br) (gdE F (fun a7 F=>bt F (fun Y Z F=>?_))))))))
  obtain ⟨a0,a1,a8,a9,aA⟩:=S.at_ eDr_len (by decide) Z
  refine zo (.pointer (some ⟨a0,a1+((a - 1).toNat) * 2,none⟩)) (by kernel_rfl) (fun w I=>cn ((a - 1).toNat) Try.underlying63 Try.sizeOf49 rfl a8 rfl (Int.toNat_of_nonneg a7).symm (fa Z rfl) br) (zq (.pointer (some ⟨a0,a1+((a - 1).toNat) * 2+1,none⟩)) (by kernel_rfl) (fun _=>(by kernel_rfl)) (zo (iv Y.to) (by kernel_rfl) (fun w I=>dj I (iv Y.to) Try.isAgg3 rfl a9 (by simp) (aA 1 _ rfl) br) (zq (pt C) (by kernel_rfl) (fun _=>(by kernel_rfl)) (zo (iv f.fr) (by kernel_rfl) (fun w I=>ag I 0 (iv f.fr) Try.isAgg3 rfl rfl rfl br) (ifN F (fun K F=>?_) (fun K F=>?_))))))
  ·
   refine zo bF (by kernel_rfl) (fun w I=>iq rfl rfl (fun h=>absurd h K) (fun _=>br)) (zq bF (by kernel_rfl) (fun _=>(by kernel_rfl)) (zp bF (fun _=>(by kernel_rfl)) (zh (fun w I=>aa (.inl ⟨rfl,⟨⟨rfl,rfl,rfl,rfl,rfl,trivial⟩,I.pk [1] rfl rfl,F⟩⟩)))))
  refine zo bT (by kernel_rfl) (fun w I=>iq rfl rfl (fun _=>br) (fun h=>absurd K h)) (zq bT (by kernel_rfl) (fun _=>(by kernel_rfl)) (zp bT (fun _=>(by kernel_rfl)) (zh (fun w I=>aa (.inr (ah rfl (ab (rgn (by kernel_rfl) (pu bF (by kernel_rfl) (aa (aj ?_)))))))))))
  cases F
  exact ⟨_,Ret.r1 rfl rfl,⟨rfl,I.below⟩⟩
 intro ρ w hJ
 obtain ⟨hag,I,F⟩:=hJ
 obtain ⟨ρ,rfl⟩:=hag.form; clear hag
 unfold F88j2 at F
 refine ai rfl (ak (rgn (by kernel_rfl) (pu (iv a) (by kernel_rfl) (ckE F (fun aB F=>ph (cj rfl rfl aB (pu (iv (a+1)) (by kernel_rfl) (aa (⟨rfl,m1,Nat.lt_succ_self _,⟨a+1,m1,⟨rfl,rfl,rfl,rfl,trivial⟩,I.pk [0] rfl rfl,F,rfl⟩⟩)))))))))
theorem L44 (w0:World) (j:Option Addr) (k:Nat) (b:List Ch) (l:Option Addr) (m:Nat) (d:List Ce) (f:Option Addr) (g:Nat) (a:List Cl) (o:Option Addr) (p:Nat) (e:List Dr) (q:bi w0 j (al eCh b)) (s:b.length≤9223372036854775807) (t:b.length≤k) (u:bi w0 l (al eCe d)) (x:d.length≤9223372036854775807) (y:d.length≤m) (z:bi w0 f (al eCl a)) (A:a.length≤9223372036854775807) (B:a.length≤g) (E:bi w0 o (al eDr e)) (G:e.length≤9223372036854775807) (H:e.length≤p) (N:Nat) (r:Int) (F:F44 N b d a e=some r):cc Try.prog 44 [.agg #[.slice j b.length k,.slice l d.length m],.slice f a.length g,.slice o e.length p] w0 fun v w=>v=iv r∧Below w0.heap.size w0 w:=by
 refine az (n:=21) Try.func44 rfl Try.ntmps44 rfl ?_
 have I:=Inv.start w0
 unfold F44 at F
 refine ab (rgn (by kernel_rfl) (ph (ca I _ rfl fun L w I=>pu (iv 0) (by kernel_rfl) (aa (ab (rgn (by kernel_rfl) (ph (ma I 0 Try.isAgg25 Try.sizeOf25 rfl rfl rfl (pu (.slice f a.length g) (by kernel_rfl) (bt F (fun i K F=>ph (ac I 18 _ _ (by kernel_rfl) (L18 _ j k b l m d f g a (q.inv0 I) s t (u.inv0 I) x y (z.inv0 I) A B N _ K) fun w I=>pu (iv i) (by kernel_rfl) (aa (ab (ab (rgn (by kernel_rfl) (pu (iv i) (by kernel_rfl) (ifN F (fun C F=>?_) (fun C F=>?_)))))))))))))))))))
 ·
  refine ph (di rfl rfl (fun h=>absurd h C) (fun _=>pu bF (by kernel_rfl) (sf 5 (by kernel_rfl) (pu bF (by kernel_rfl) (aa (ai rfl (ak (ab (rgn (by kernel_rfl) (pu2 (iv i) (iv i) (by kernel_rfl) (aa (aj ?_))))))))))))
  cases F
  exact ⟨_,Ret.r1 rfl rfl,⟨rfl,I.below⟩⟩


 refine ph (di rfl rfl (fun _=>?_) (fun h=>absurd C h))
 refine pu bT (by kernel_rfl) (aw (by kernel_rfl) (ma I 0 Try.isAgg25 Try.sizeOf25 rfl rfl rfl (pup (.slice f a.length g) (by kernel_rfl) (pup (.slice o e.length p) (by kernel_rfl) (bt F (fun M J F=>ifN F (fun D F=>?_) (fun D F=>?_)))))))
 ·
  refine aw (by kernel_rfl) (ac I 88 _ _ (by kernel_rfl) (cc.mono (L88 _ j k b l m d f g a o p e (q.inv0 I) s t (u.inv0 I) x y (z.inv0 I) A B (E.inv0 I) G H N _ J) (fun v' w' h=>⟨h.1.trans (congrArg Value.bool (Bool.eq_false_iff.2 D)),h.2⟩)) fun w I=>pup bT (by kernel_rfl) (pu bT (by kernel_rfl) (aa (ah rfl (ab (rgn (by kernel_rfl) (pu (iv 46) (by kernel_rfl) (aa (aj ?_)))))))))
  cases F
  exact ⟨_,Ret.r1 rfl rfl,⟨rfl,I.below⟩⟩
 refine aw (by kernel_rfl) (ac I 88 _ _ (by kernel_rfl) (cc.mono (L88 _ j k b l m d f g a o p e (q.inv0 I) s t (u.inv0 I) x y (z.inv0 I) A B (E.inv0 I) G H N _ J) (fun v' w' h=>⟨h.1.trans (congrArg Value.bool D),h.2⟩)) fun w I=>pup bF (by kernel_rfl) (pu bF (by kernel_rfl) (aa (ai rfl (ak (ab (rgn (by kernel_rfl) (pu2 (iv i) (iv i) (by kernel_rfl) (aa (aj ?_))))))))))
 cases F
 exact ⟨_,Ret.r1 rfl rfl,⟨rfl,I.below⟩⟩
theorem L83 (w0:World) (a:Int) (b:Int) (N:Nat) (r:(Int × Int)) (F:F83 N a b=some r):cc Try.prog 83 [iv a,iv b] w0 fun v w=>v=.agg #[iv r.1,iv r.2]∧Below w0.heap.size w0 w:=by
 refine az (n:=24) Try.func83 rfl Try.ntmps83 rfl ?_
 have I:=Inv.start w0
 unfold F83 at F
 refine ab (rgn (by kernel_rfl) (ph (bh I _ Try.zeroValue51 rfl fun g w I=>aa (ab (rgn (by kernel_rfl) (pu2 (iv a) (iv a) (by kernel_rfl) (aa (ab (rgn (by kernel_rfl) (pu2 (iv b) (iv b) (by kernel_rfl) (aa (dn (fun ρ w=>∃ (e:Int),cd ρ [(0,iv a),(1,iv b),(4,pt g),(5,iv e)]∧Inv [] w0 w [(some g,blk [iv 0,iv 0] 51)]∧F83j1 a b e=some r) ?_ ?_))))))))))))
 ·
  refine au (cb (fun m ρ w=>∃ (f:Int) (d:Int) (mm:Nat),cd ρ [(0,iv a),(1,iv b),(4,pt g),(5,iv f),(6,iv d)]∧Inv [] w0 w [(some g,blk [iv 0,iv 0] 51)]∧F83l2 a b mm f d=some r∧mm=m) (m:=N) ⟨a,b,N,⟨rfl,rfl,rfl,rfl,rfl,trivial⟩,I.pk [0] rfl rfl,F,rfl⟩ ?_)
  rintro m ρ w ⟨f,d,mm,hag,I,F,hm⟩
  subst hm; obtain ⟨ρ,rfl⟩:=hag.form; clear hag
  obtain _ | m2:=mm
  ·cases (show (none:Option (Int × Int))=some r from F)
  replace F:F83b2 a b (F83l2 a b m2) f d=some r:=F; unfold F83b2 at F
  refine ab (ab (rgn (by kernel_rfl) (pu (iv d) (by kernel_rfl) (ifE F (fun i F=>?_) (fun i F=>?_)))))
  ·
   refine ph (de rfl rfl (fun h=>absurd i h) (fun _=>aa (ai rfl (bw (.inl ⟨rfl,⟨f,⟨rfl,rfl,rfl,rfl,trivial⟩,I.pk [0] rfl rfl,F⟩⟩)))))
  refine ph (de rfl rfl (fun _=>?_) (fun h=>absurd h i))
  refine aa (ah rfl (ak (au (ab (rgn (by kernel_rfl) (pu2 (iv f) (iv d) (by kernel_rfl) (gdE F (fun k F=>ph (s_rem rfl rfl k (pu (iv (f.tmod d)) (by kernel_rfl) (aa (ab (rgn (by kernel_rfl) (pu2 (iv d) (iv d) (by kernel_rfl) (aa (rgn (by kernel_rfl) (pu2 (iv (f.tmod d)) (iv (f.tmod d)) (by kernel_rfl) (aa (⟨rfl,m2,Nat.lt_succ_self _,⟨d,f.tmod d,m2,⟨rfl,rfl,rfl,rfl,rfl,trivial⟩,I.pk [0] rfl rfl,F,rfl⟩⟩)))))))))))))))))))
 intro ρ w hJ
 obtain ⟨e,hag,I,F⟩:=hJ
 obtain ⟨ρ,rfl⟩:=hag.form; clear hag
 unfold F83j1 at F
 refine ab (gm 7 I (by kernel_rfl) (zp2 (iv a) (iv e) (fun _=>(by kernel_rfl)) (gdE F (fun j F=>ckE F (fun l F=>zc (iv (a.tdiv e)) (fun w I=>s_quo rfl rfl j l br) (zp2 (iv b) (iv e) (fun _=>(by kernel_rfl)) (ckE F (fun o F=>zc (iv (b.tdiv e)) (fun w I=>s_quo rfl rfl j o br) (zp (.agg #[iv (a.tdiv e),iv (b.tdiv e)]) (fun _=>(by kernel_rfl)) (zh (fun w I=>ph (mb I 0 _ Try.sizeOf51 rfl rfl rfl rfl rfl rfl fun w I=>aa (aj ?_)))))))))))))
 cases F
 exact ⟨_,Ret.c rfl rfl (ce I 0 2 [iv (a.tdiv e),iv (b.tdiv e)] Try.isAgg51 Try.sizeOf51 rfl rfl rfl),⟨rfl,I.below⟩⟩


theorem L36 (w0:World) (p:Option Addr) (q:Nat) (f:List Ch) (s:Option Addr) (t:Nat) (i:List Ce) (A:Option Addr) (B:Nat) (l:List Cl) (C:Option Addr) (D:Nat) (o:List Dr) (Z:bi w0 p (al eCh f)) (a0:f.length≤9223372036854775807) (a1:f.length≤q) (a2:bi w0 s (al eCe i)) (a3:i.length≤9223372036854775807) (a4:i.length≤t) (a5:bi w0 A (al eCl l)) (aF:l.length≤9223372036854775807) (aG:l.length≤B) (a6:bi w0 C (al eDr o)) (aH:o.length≤9223372036854775807) (aI:o.length≤D) (N:Nat) (r:(List Gn × Int)) (F:F36 N f i l o=some r):cc Try.prog 36 [.agg #[.slice p f.length q,.slice s i.length t],.slice A l.length B,.slice C o.length D] w0 fun v w=>∃ (z0:Option Nat) (z1:Nat) (z2:List Value),v=.tuple #[slv z0 r.1.length z1,iv r.2]∧Inv [] w0 w [(z0,blk z2 51)]∧Row 2 z0 r.1.length z1 z2 (al eGn r.1):=by
 refine az (n:=46) Try.func36 rfl Try.ntmps36 rfl ?_
 have I:=Inv.start w0
 unfold F36 at F
 refine ab (rgn (by kernel_rfl) (ph (ca I _ rfl fun H w I=>pu2 (.slice none 0 0) (iv 0) (by kernel_rfl) (aa (ab (rgn (by kernel_rfl) (ph (ma I 0 Try.isAgg25 Try.sizeOf25 rfl rfl rfl (pu2 (.slice A l.length B) (.slice C o.length D) (by kernel_rfl) (bt F (fun L aJ F=>ph (ac I 44 _ _ (by kernel_rfl) (L44 _ p q f s t i A B l C D o (Z.inv0 I) a0 a1 (a2.inv0 I) a3 a4 (a5.inv0 I) aF aG (a6.inv0 I) aH aI N _ aJ) fun w I=>pu (iv L) (by kernel_rfl) (aa (ab (ab (rgn (by kernel_rfl) (pu (iv L) (by kernel_rfl) (ifN F (fun T F=>?_) (fun T F=>?_)))))))))))))))))))
 ·
  refine ph (de rfl rfl (fun _=>?_) (fun h=>absurd h T))
  refine aa (ah rfl (ab (rgn (by kernel_rfl) (pu3 (iv L) (.slice none 0 0) (iv L) (by kernel_rfl) (aa (aj ?_))))))
  have I:=I.nilRow 51
  cases F
  exact ⟨_,Ret.r2 rfl rfl rfl,⟨none,0,[],rfl,I.pk [0] rfl rfl,Row.nil_ 2⟩⟩


 refine ph (de rfl rfl (fun h=>absurd T h) (fun _=>aa (ai rfl (ak (ab (rgn (by kernel_rfl) (pu (.slice none 0 0) (by kernel_rfl) (aa (ab (ab (rgn (by kernel_rfl) (pu (iv 0) (by kernel_rfl) (aa (au ?_))))))))))))))
 have I:=I.nilRow 51
 refine cb (fun m ρ w=>∃ (x:Option Nat) (G:Nat) (J:List Value) (d:List Gn) (e:Int) (mm:Nat),cd ρ [(1,.slice A l.length B),(2,.slice C o.length D),(3,pt H),(9,slv x d.length G),(10,iv e)]∧Inv [] w0 w [(some H,blk [.slice p f.length q,.slice s i.length t] 25),(x,blk J 51)]∧(Row 2 x (d.length) G J (al eGn d))∧F36l1 f i l o N mm d e=some r∧mm=m) (m:=N) ⟨none,0,[],[],0,N,⟨rfl,rfl,rfl,rfl,rfl,trivial⟩,I.pk [1,0] rfl rfl,(Row.nil_ 2),F,rfl⟩ ?_
 rintro m ρ w ⟨x,G,J,d,e,mm,hag,I,a7,F,hm⟩
 subst hm; obtain ⟨ρ,rfl⟩:=hag.form; clear hag
 obtain _ | m1:=mm
 ·cases (show (none:Option (List Gn × Int))=some r from F)
 replace F:F36b1 f i l o N (F36l1 f i l o N m1) d e=some r:=F; unfold F36b1 at F
 refine ab (ab (rgn (by kernel_rfl) (pu3 (iv e) (.slice A l.length B) (iv ((l.length:Nat):Int)) (by kernel_rfl) (ifN F (fun U F=>?_) (fun U F=>?_)))))
 ·
  refine ph (cm rfl rfl (fun h=>absurd h U) (fun _=>aa (ai rfl (bw (ab (rgn (by kernel_rfl) (pu3 (slv x d.length G) (slv x d.length G) (iv 0) (by kernel_rfl) (aa (aj ?_)))))))))
  cases F
  exact ⟨_,Ret.r2 rfl rfl rfl,⟨x,G,J,rfl,I.pk [1] rfl rfl,a7.to rfl rfl⟩⟩
 refine ph (cm rfl rfl (fun _=>?_) (fun h=>absurd U h))
 refine aa (ah rfl (ak (ab (au (gdE F (fun V F=>bt F (fun E W F=>bt F (fun Y aK F=>bt F (fun M a8 F=>bt F (fun a aL F=>gdE F (fun aQ F=>?_)))))))))))
 obtain ⟨O,P,a9,aA,aB⟩:=a6.at_ eDr_len (by decide) W
 obtain ⟨aC,aD,aM,aN,aO⟩:=a5.at_ eb (by decide) a8
 refine wp_toks [tv (fun _=>(slv x d.length G)),tr (fun _=>(.agg #[.slice p f.length q,.slice s i.length t])) [22],tv (fun _=>(.slice C o.length D)),tv (fun _=>(iv e)),tr (fun _=>(.pointer (some ⟨O,P+(e).toNat * 2,none⟩))) [],tv (fun _=>(.pointer (some ⟨O,P+(e).toNat * 2,none⟩))),tr (fun _=>(iv E.fr)) [],tv (fun _=>(.slice C o.length D)),tv (fun _=>(iv e)),tr (fun _=>(.pointer (some ⟨O,P+(e).toNat * 2,none⟩))) [],tv (fun _=>(.pointer (some ⟨O,P+(e).toNat * 2+1,none⟩))),tr (fun _=>(iv E.to)) [],tr (fun _=>(iv Y)) [],tv (fun _=>(.slice A l.length B)),tv (fun _=>(iv e)),tr (fun _=>(.pointer (some ⟨aC,aD+(e).toNat * 4,none⟩))) [],tv (fun _=>(.pointer (some ⟨aC,aD+(e).toNat * 4+1,none⟩))),tr (fun _=>(iv M.hd)) [],tr (fun _=>(.agg #[iv a.1,iv a.2])) [],⟨fun y=>(.slice (some ⟨(y 19).b,0,none⟩) 1 1),fun y=>[(some (y 19).b,blk [iv a.1,iv a.2] 51)],fun _=>True,[],[]⟩,⟨fun y=>(slv ((y 20).g 0) ((d++[(⟨a.1,a.2⟩:Gn)]).length) ((y 20).c 0)),fun y=>[(((y 20).g 0),blk ((y 20).cl 0) 51)],fun y=>(Row 2 ((y 20).g 0) ((d++[(⟨a.1,a.2⟩:Gn)]).length) ((y 20).c 0) ((y 20).cl 0) (al eGn (d++[(⟨a.1,a.2⟩:Gn)]))),[23],[19]⟩,tv (fun y=>(slv ((y 20).g 0) ((d++[(⟨a.1,a.2⟩:Gn)]).length) ((y 20).c 0)))] (fun y=>[(1,.slice A l.length B),(2,.slice C o.length D),(3,pt H),(9,slv ((y 20).g 0) ((d++[(⟨a.1,a.2⟩:Gn)]).length) ((y 20).c 0)),(10,iv e)]) (fun y=>[(some (y 19).b,blk [iv a.1,iv a.2] 51),(((y 20).g 0),blk ((y 20).cl 0) 51),(some H,blk [.slice p f.length q,.slice s i.length t] 25)]) I (by kernel_rfl) (fun y=>⟨(by kernel_rfl),(by kernel_rfl)⟩) (fun y=>?_) ?_
 ·
  refine tp rfl (fun _=>(by kernel_rfl)) (tl1 [(some H,blk [.slice p f.length q,.slice s i.length t] 25)] rfl (by kernel_rfl) (fun X w I=>ma I 0 Try.isAgg25 Try.sizeOf25 rfl rfl rfl br) (tp rfl (fun _=>(by kernel_rfl)) (tp rfl (fun _=>(by kernel_rfl)) (tl0 rfl (fun X w I=>cn (e).toNat Try.underlying63 Try.sizeOf49 rfl a9 rfl (Int.toNat_of_nonneg V).symm (fa W rfl) br) (tp rfl (fun _=>(by kernel_rfl)) (tl0 rfl (fun X w I=>dj I (iv E.fr) Try.isAgg3 rfl aA (by simp) (aB 0 _ rfl) br) (tp rfl (fun _=>(by kernel_rfl)) (tp rfl (fun _=>(by kernel_rfl)) (tl0 rfl (fun X w I=>cn (e).toNat Try.underlying63 Try.sizeOf49 rfl a9 rfl (Int.toNat_of_nonneg V).symm (fa W rfl) br) (tp rfl (fun _=>(by kernel_rfl)) (tl0 rfl (fun X w I=>dj I (iv E.to) Try.isAgg3 rfl aA (by simp) (aB 1 _ rfl) br) (tl0 rfl (fun X w I=>co 77 [.agg #[.slice p f.length q,.slice s i.length t],iv E.fr,iv E.to] (by kernel_rfl) (L77 _ p q f s t i E.fr E.to (Z.inv0 I) a0 a1 (a2.inv0 I) a3 a4 N _ aK) (fun v' w' h=>h)) (tp rfl (fun _=>(by kernel_rfl)) (tp rfl (fun _=>(by kernel_rfl)) (tl0 rfl (fun X w I=>cn (e).toNat Try.underlying26 Try.sizeOf34 rfl aM rfl (Int.toNat_of_nonneg V).symm (fa a8 rfl) br) (tp rfl (fun _=>(by kernel_rfl)) (tl0 rfl (fun X w I=>dj I (iv M.hd) Try.isAgg3 rfl aN (by simp) (aO 1 _ rfl) br) (tl0 rfl (fun X w I=>co 83 [iv Y,iv M.hd] (by kernel_rfl) (L83 _ Y M.hd N _ aL) (fun v' w' h=>h)) (tg (.slice (some ⟨(y 19).b,0,none⟩) 1 1) [] [] rfl ⟨(by kernel_rfl),(by kernel_rfl),(by kernel_rfl)⟩ ?_ ?_)))))))))))))))))))
  ·intro hp X w I
   refine fu I [iv a.1,iv a.2] 51 (fun b=>slv (some b) 1 1) (by kernel_rfl) fun aE w I=>⟨wit aE [] [] [] [],(by kernel_rfl),trivial,I.castL (by kernel_rfl)⟩
  refine tg (slv ((y 20).g 0) ((d++[(⟨a.1,a.2⟩:Gn)]).length) ((y 20).c 0)) [(x,blk J 51),(some (y 19).b,blk [iv a.1,iv a.2] 51)] [(some (y 19).b,blk [iv a.1,iv a.2] 51)] rfl ⟨(by kernel_rfl),(by kernel_rfl),(by kernel_rfl)⟩ ?_ ?_
  ·intro hp X w I
   refine ks I Try.underlying72 (z:=.agg #[iv 0,iv 0]) (k:=2) (bytes:=16) (by kernel_rfl) rfl rfl 0 rfl rfl a7 [iv a.1,iv a.2] rfl rfl (I.cells 1 (off:=0) rfl (fun j u h=>by rw [Nat.zero_add]; exact h)) (by simp [Value.oneCell']) (by omega) (by omega) (n2:=(d++[(⟨a.1,a.2⟩:Gn)]).length) (kr rfl rfl) ?_
   intro Q R S w I K
   have K:Row 2 Q ((d++[(⟨a.1,a.2⟩:Gn)]).length) R S (al eGn (d++[(⟨a.1,a.2⟩:Gn)])):=K.snoc _ rfl
   exact ⟨wit 0 [Q] [R] [S] [],(by kernel_rfl),Eq.mp (by kernel_rfl) K,I.castL (by kernel_rfl)⟩
  refine tpv (slv ((y 20).g 0) ((d++[(⟨a.1,a.2⟩:Gn)]).length) ((y 20).c 0)) rfl ⟨(by kernel_rfl),fun _=>(by kernel_rfl)⟩ (tn)
 intro y hp ρ w hag I
 have K:Row 2 ((y 20).g 0) ((d++[(⟨a.1,a.2⟩:Gn)]).length) ((y 20).c 0) ((y 20).cl 0) (al eGn (d++[(⟨a.1,a.2⟩:Gn)])):=pgl hp (k:=20) (by decide) (by kernel_rfl)
 clear hp
 generalize (y 19).b=aE at *
 generalize (y 20).g 0=Q at *
 generalize (y 20).c 0=R at *
 generalize (y 20).cl 0=S at *
 obtain ⟨ρ,rfl⟩:=hag.form; clear hag
 refine rgn (by kernel_rfl) (pu (iv e) (by kernel_rfl) (ckE F (fun aP F=>ph (cj rfl rfl aP (pu (iv (e+1)) (by kernel_rfl) (aa (⟨rfl,m1,Nat.lt_succ_self _,⟨Q,R,S,d++[(⟨a.1,a.2⟩:Gn)],e+1,m1,⟨rfl,rfl,rfl,rfl,rfl,trivial⟩,I.pk [2,1] rfl rfl,(K.to rfl rfl),F,rfl⟩⟩)))))))
end Go.K
