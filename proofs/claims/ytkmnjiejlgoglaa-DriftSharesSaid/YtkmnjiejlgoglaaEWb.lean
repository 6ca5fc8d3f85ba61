import Derived.Test.YtkmnjiejlgoglaaEWa
namespace Go.K
open Go.Proofs Go.RowKit
set_option linter.unusedVariables false
set_option linter.unusedSimpArgs false
set_option maxRecDepth 100000
attribute [local irreducible] Seq cw CallV AnyE opX
theorem L84 (w0:World) (i:Option Addr) (j:Nat) (d:List Ch) (k:Option Addr) (l:Nat) (e:List Ce) (f:Option Addr) (g:Nat) (b:List Cl) (m:bi w0 i (al eCh d)) (o:d.length≤9223372036854775807) (p:d.length≤j) (q:bi w0 k (al eCe e)) (s:e.length≤9223372036854775807) (t:e.length≤l) (u:bi w0 f (al eCl b)) (x:b.length≤9223372036854775807) (y:b.length≤g) (N:Nat) (r:(List Dr × Int × Int × List Int × Int)) (F:F84 N d e b=some r):cc Try.prog 84 [.agg #[.slice i d.length j,.slice k e.length l],.slice f b.length g] w0 fun v w=>∃ (z0:Option Nat) (z1:Nat) (z2:List Value) (z3:Option Nat) (z4:Nat) (z5:List Value),v=.tuple #[.agg #[slv z0 r.1.length z1,iv r.2.1,iv r.2.2.1,slv z3 r.2.2.2.1.length z4],iv r.2.2.2.2]∧Inv [] w0 w [(z0,blk z2 49),(z3,blk z5 3)]∧Row 2 z0 r.1.length z1 z2 (al eDr r.1)∧Row 1 z3 r.2.2.2.1.length z4 z5 (al dv r.2.2.2.1):=by
 refine az (n:=29) Try.func84 rfl Try.ntmps84 rfl ?_
 have I:=Inv.start w0
 unfold F84 at F
 refine ab (rgn (by kernel_rfl) (ph (ca I _ rfl fun U w I=>ph (bh I _ Try.zeroValue144 rfl fun V w I=>pu (iv 0) (by kernel_rfl) (aa (ab (rgn (by kernel_rfl) (ph (ma I 1 Try.isAgg25 Try.sizeOf25 rfl rfl rfl (pu (.slice f b.length g) (by kernel_rfl) (bindS3E F (fun W E F=>?_) (fun X G F=>?_) (fun H J F=>?_))))))))))))
 ·
  refine ph (ac I 64 _ _ (by kernel_rfl) (L64 _ i j d k l e f g b (m.inv0 I) o p (q.inv0 I) s t (u.inv0 I) x y N _ E) fun w I=>pu3 (.tuple #[.agg #[.slice none 0 0,.slice none 0 0,.map none,.slice none 0 0],iv 42]) (.agg #[.slice none 0 0,.slice none 0 0,.map none,.slice none 0 0]) (iv 42) (by kernel_rfl) (ph (bh I _ Try.zeroValue120 rfl fun Y w I=>ph (mb I 0 _ Try.sizeOf120 rfl rfl rfl rfl rfl rfl fun w I=>pu (iv 42) (by kernel_rfl) (aa (ab (ab (rgn (by kernel_rfl) (pu (iv 42) (by kernel_rfl) (ph (de rfl rfl (fun _=>?_) (fun h=>absurd h (by decide)))))))))))))
  refine aa (ah rfl (ab (rgn (by kernel_rfl) (pu2 (.agg #[.slice none 0 0,iv 0,iv 0,.slice none 0 0]) (iv 42) (by kernel_rfl) (ph (mb I 1 _ Try.sizeOf144 rfl rfl rfl rfl rfl rfl fun w I=>pu (iv 42) (by kernel_rfl) (aa (aj ?_))))))))
  have I:=I.nilRow 49
  have I:=I.nilRow 3
  cases F
  exact ⟨_,Ret.ct rfl rfl (ce I 3 4 [.slice none 0 0,iv 0,iv 0,.slice none 0 0] Try.isAgg144 Try.sizeOf144 rfl rfl rfl) rfl,⟨none,0,[],none,0,[],rfl,I.pk [1,0] rfl rfl,Row.nil_ 2,Row.nil_ 1⟩⟩
 ·
  refine ph (ac I 64 _ _ (by kernel_rfl) (L64 _ i j d k l e f g b (m.inv0 I) o p (q.inv0 I) s t (u.inv0 I) x y N _ G) fun w I=>pu3 (.tuple #[.agg #[.slice none 0 0,.slice none 0 0,.map none,.slice none 0 0],iv 44]) (.agg #[.slice none 0 0,.slice none 0 0,.map none,.slice none 0 0]) (iv 44) (by kernel_rfl) (ph (bh I _ Try.zeroValue120 rfl fun Z w I=>ph (mb I 0 _ Try.sizeOf120 rfl rfl rfl rfl rfl rfl fun w I=>pu (iv 44) (by kernel_rfl) (aa (ab (ab (rgn (by kernel_rfl) (pu (iv 44) (by kernel_rfl) (ph (de rfl rfl (fun _=>?_) (fun h=>absurd h (by decide)))))))))))))
  refine aa (ah rfl (ab (rgn (by kernel_rfl) (pu2 (.agg #[.slice none 0 0,iv 0,iv 0,.slice none 0 0]) (iv 44) (by kernel_rfl) (ph (mb I 1 _ Try.sizeOf144 rfl rfl rfl rfl rfl rfl fun w I=>pu (iv 44) (by kernel_rfl) (aa (aj ?_))))))))
  have I:=I.nilRow 49
  have I:=I.nilRow 3
  cases F
  exact ⟨_,Ret.ct rfl rfl (ce I 3 4 [.slice none 0 0,iv 0,iv 0,.slice none 0 0] Try.isAgg144 Try.sizeOf144 rfl rfl rfl) rfl,⟨none,0,[],none,0,[],rfl,I.pk [1,0] rfl rfl,Row.nil_ 2,Row.nil_ 1⟩⟩
 refine ph (co 64 _ (by kernel_rfl) (L64 _ i j d k l e f g b (m.inv0 I) o p (q.inv0 I) s t (u.inv0 I) x y N _ J) ?_)
 rintro v w ⟨D,K,L,rfl,hN,M,O⟩
 have I:=I.join hN; clear hN
 refine pu3 (.tuple #[.agg #[.slice i d.length j,.slice k e.length l,.map (some D),.slice f b.length g],iv 0]) (.agg #[.slice i d.length j,.slice k e.length l,.map (some D),.slice f b.length g]) (iv 0) (by kernel_rfl) (ph (bh I _ Try.zeroValue120 rfl fun a0 w I=>ph (mb I 0 _ Try.sizeOf120 rfl rfl rfl rfl rfl rfl fun w I=>pu (iv 0) (by kernel_rfl) (aa (ab (ab (rgn (by kernel_rfl) (pu (iv 0) (by kernel_rfl) (ph (de rfl rfl (fun h=>absurd (by decide) h) (fun _=>aa (ai rfl (ak (ab (rgn (by kernel_rfl) (ph (ma I 0 Try.isAgg120 Try.sizeOf120 rfl rfl rfl (bt F (fun a P F=>ph (co 86 _ (by kernel_rfl) (L86 _ i j d k l e D K L H f g b (m.inv0 I) o p (q.inv0 I) s t (I.has 1 _ _ rfl).1 M O (u.inv0 I) x y N _ P) ?_))))))))))))))))))))
 rintro v w ⟨z,A,Q,B,C,R,rfl,hN,S,T⟩
 have I:=I.join hN; clear hN
 refine pu3 (.tuple #[.agg #[slv z a.1.length A,iv a.2.1,iv a.2.2.1,slv B a.2.2.2.1.length C],.bool a.2.2.2.2]) (.agg #[slv z a.1.length A,iv a.2.1,iv a.2.2.1,slv B a.2.2.2.1.length C]) (.bool a.2.2.2.2) (by kernel_rfl) (ph (bh I _ Try.zeroValue144 rfl fun a1 w I=>ph (mb I 0 _ Try.sizeOf144 rfl rfl rfl rfl rfl rfl fun w I=>pu (.bool a.2.2.2.2) (by kernel_rfl) (aa (ab (ab (ifE F (fun h4 F=>?_) (fun h4 F=>?_))))))))
 ·
  rw [h4]
  refine rgn (by kernel_rfl) (pu2 bT bF (by kernel_rfl) (aa (ai rfl (ak (ab (rgn (by kernel_rfl) (ph (ma I 0 Try.isAgg144 Try.sizeOf144 rfl rfl rfl (ph (mb I 5 _ Try.sizeOf144 rfl rfl rfl rfl rfl rfl fun w I=>pu (iv 0) (by kernel_rfl) (aa (aj ?_))))))))))))
  cases F
  exact ⟨_,Ret.ct rfl rfl (ce I 5 4 [slv z a.1.length A,iv a.2.1,iv a.2.2.1,slv B a.2.2.2.1.length C] Try.isAgg144 Try.sizeOf144 rfl rfl rfl) rfl,⟨z,A,Q,B,C,R,rfl,I.pk [1,2] rfl rfl,S.to rfl rfl,T.to rfl rfl⟩⟩
 rw [(Bool.eq_false_iff.2 h4)]
 refine rgn (by kernel_rfl) (pu2 bF bT (by kernel_rfl) (aa (ah rfl (ab (rgn (by kernel_rfl) (pu (.agg #[.slice none 0 0,iv 0,iv 0,.slice none 0 0]) (by kernel_rfl) (ph (mb I 5 _ Try.sizeOf144 rfl rfl rfl rfl rfl rfl fun w I=>pu (iv 47) (by kernel_rfl) (aa (aj ?_))))))))))
 have I:=I.nilRow 49
 have I:=I.nilRow 3
 cases F
 exact ⟨_,Ret.ct rfl rfl (ce I 7 4 [.slice none 0 0,iv 0,iv 0,.slice none 0 0] Try.isAgg144 Try.sizeOf144 rfl rfl rfl) rfl,⟨none,0,[],none,0,[],rfl,I.pk [1,0] rfl rfl,Row.nil_ 2,Row.nil_ 1⟩⟩


theorem L37 (w0:World) (h:Option Addr) (i:Nat) (d:List Ch) (j:Option Addr) (k:Nat) (e:List Ce) (f:Option Addr) (g:Nat) (b:List Cl) (q:bi w0 h (al eCh d)) (s:d.length≤9223372036854775807) (t:d.length≤i) (u:bi w0 j (al eCe e)) (x:e.length≤9223372036854775807) (y:e.length≤k) (z:bi w0 f (al eCl b)) (A:b.length≤9223372036854775807) (B:b.length≤g) (N:Nat) (r:(Int × Int × Int)) (F:F37 N d e b=some r):cc Try.prog 37 [.agg #[.slice h d.length i,.slice j e.length k],.slice f b.length g] w0 fun v w=>v=.tuple #[.agg #[iv r.1,iv r.2.1],iv r.2.2]∧Below w0.heap.size w0 w:=by
 refine az (n:=17) Try.func37 rfl Try.ntmps37 rfl ?_
 have I:=Inv.start w0
 unfold F37 at F
 refine ab (rgn (by kernel_rfl) (ph (ca I _ rfl fun E w I=>ph (bh I _ Try.zeroValue51 rfl fun G w I=>pu (iv 0) (by kernel_rfl) (aa (ab (rgn (by kernel_rfl) (ph (ma I 1 Try.isAgg25 Try.sizeOf25 rfl rfl rfl (pu (.slice f b.length g) (by kernel_rfl) (bt F (fun a C F=>ph (co 84 _ (by kernel_rfl) (L84 _ h i d j k e f g b (q.inv0 I) s t (u.inv0 I) x y (z.inv0 I) A B N _ C) ?_)))))))))))))
 rintro v w ⟨l,m,H,o,p,J,rfl,hN,K,L⟩
 have I:=I.join hN; clear hN
 refine pu3 (.tuple #[.agg #[slv l a.1.length m,iv a.2.1,iv a.2.2.1,slv o a.2.2.2.1.length p],iv a.2.2.2.2]) (.agg #[slv l a.1.length m,iv a.2.1,iv a.2.2.1,slv o a.2.2.2.1.length p]) (iv a.2.2.2.2) (by kernel_rfl) (ph (bh I _ Try.zeroValue144 rfl fun D w I=>ph (mb I 0 _ Try.sizeOf144 rfl rfl rfl rfl rfl rfl fun w I=>pu (iv a.2.2.2.2) (by kernel_rfl) (aa (ab (rgn (by kernel_rfl) (pu (.pointer (some ⟨D,1,none⟩)) (by kernel_rfl) (ph (ar I 0 2 [iv a.2.1,iv a.2.2.1] Try.isAgg136 Try.sizeOf136 rfl rfl rfl rfl (pu (iv a.2.2.2.2) (by kernel_rfl) (ph (mb I 3 _ Try.sizeOf51 rfl rfl rfl rfl rfl rfl fun w I=>pu (iv a.2.2.2.2) (by kernel_rfl) (aa (aj ?_))))))))))))))
 cases F
 exact ⟨_,Ret.ct rfl rfl (ce I 3 2 [iv a.2.1,iv a.2.2.1] Try.isAgg51 Try.sizeOf51 rfl rfl rfl) rfl,⟨rfl,I.below⟩⟩


theorem L98 (w0:World) (d:Nat) (e:Nat) (j:List Value) (a:List Cl) (f:Int) (g:Int) (A:w0.heap[d]?=some (blk j 34)) (i:Row 4 (some d) a.length e j (al eCl a)) (r:List Cl) (F:F98 a f g=some r):cc Try.prog 98 [slv (some d) a.length e,iv f,iv g] w0 fun v w=>∃ (z0:Option Nat) (z1:Nat) (z2:List Value),v=slv z0 r.length z1∧Inv [d] w0 w [(z0,blk z2 34)]∧Row 4 z0 r.length z1 z2 (al eCl r):=by
 refine az (n:=33) Try.func98 rfl Try.ntmps98 rfl ?_
 have I:=Inv.lent w0 (some d) (blk j 34) (fun b hb=>by injection hb with hb; subst hb; exact A)
 unfold F98 at F
 refine ab (rgn (by kernel_rfl) (pu (.slice none 0 0) (by kernel_rfl) (aa (ab (rgn (by kernel_rfl) (pu3 (slv (some d) a.length e) (iv f) (iv g) (by kernel_rfl) (pu2 (slv (some d) a.length e) (iv ((a.length:Nat):Int)) (by kernel_rfl) (gdE F (fun u F=>gdE F (fun x F=>gdE F (fun p F=>ph (s_slice3 (l:=(f).toNat) (h:=(g).toNat) (q:=a.length) Try.underlying26 Try.sizeOf34 rfl (congrArg (Value.int .i64) (Int.toNat_of_nonneg u).symm) (congrArg (Value.int .i64) (Int.toNat_of_nonneg x).symm) (congrArg (Value.int .i64) rfl) ⟨p.1,p.2.1,Nat.le_trans p.2.2 (am rfl i.cap)⟩ (aa (ab (ab (rgn (by kernel_rfl) (pu2 (iv f) (iv g) (by kernel_rfl) (ifE F (fun s F=>?_) (fun s F=>?_)))))))))))))))))))
 ·
  refine ph (di rfl rfl (fun _=>?_) (fun h=>absurd s h))
  refine aa (ah rfl (ab (rgn (by kernel_rfl) (pu2 (slv (some d) a.length e) (slv (some d) a.length e) (by kernel_rfl) (aa (aj ?_))))))
  replace F:=Option.some.inj F; subst F
  exact ⟨_,Ret.r1 rfl rfl,⟨some d,e,j,rfl,I.pk [0] rfl rfl,i.to rfl rfl⟩⟩
 refine ph (di rfl rfl (fun h=>absurd h s) (fun _=>aa (ai rfl (ak (ab (rgn (by kernel_rfl) (pu3 (slv (some d) a.length e) (iv ((a.length:Nat):Int)) (iv (a.length:Int)) (by kernel_rfl) (aa (ab (gm 6 I (by kernel_rfl) (zp2 (slv (some d) a.length e) (iv f) (fun _=>(by kernel_rfl)) (gdE F (fun m F=>?_)))))))))))))
 have B:Row 4 (some d) (a.take (f).toNat).length e j (al eCl (a.take (f).toNat)):=(i.cut eb (by decide) (f).toNat (len_ge rfl m)).to rfl (take_len2 m)
 refine zc (slv (some d) ((a.take (f).toNat).length) e) (fun w I=>s_sliceHiN Try.underlying26 Try.sizeOf34 rfl (congrArg (Value.int .i64) (Int.toNat_of_nonneg u).symm) (take_len2 m) (Nat.le_trans m (am rfl i.cap)) br) (zp2 (slv (some d) a.length e) (iv g) (fun _=>(by kernel_rfl)) (gdE F (fun t F=>zc (.slice (K.sub (some (⟨d,0,none⟩:Addr)) e (g).toNat 4) ((a.drop (g).toNat).length) (e - (g).toNat)) (fun w I=>s_sliceLoN Try.underlying26 Try.sizeOf34 rfl (congrArg (Value.int .i64) (Int.toNat_of_nonneg x).symm) (len_ge rfl t) (drop_len2 rfl t) i.cap br) (zh (fun w I=>gdE F (fun y F=>ph (s_appRoomN I Try.underlying26 (z:=.agg #[iv 0,iv 0,iv 0,iv 0]) (k:=4) (bytes:=32) (by kernel_rfl) 0 rfl rfl B (al eCl (a.drop (g).toNat)) rfl (dt eb _) (bi.fromRow eb (I.rowCells 0 rfl (i.to rfl rfl)) t i.cap rfl) (flat_cell eCl_cell _) (n2:=((a.take (f).toNat)++(a.drop (g).toNat)).length) (kr rfl rfl) (Nat.le_trans y (am rfl i.cap)) ?_)))))))
 intro C w I o
 have o:Row 4 (some d) (((a.take (f).toNat)++(a.drop (g).toNat)).length) e C (al eCl ((a.take (f).toNat)++(a.drop (g).toNat))):=o.more
 refine pu (slv (some d) (((a.take (f).toNat)++(a.drop (g).toNat)).length) e) (by kernel_rfl) (aa (ab (rgn (by kernel_rfl) (pu3 (slv (some d) (((a.take (f).toNat)++(a.drop (g).toNat)).length) e) (slv (some d) (((a.take (f).toNat)++(a.drop (g).toNat)).length) e) (iv ((((a.take (f).toNat)++(a.drop (g).toNat)).length:Nat):Int)) (by kernel_rfl) (pu (iv (a.length:Int)) (by kernel_rfl) (gdE F (fun D F=>gdE F (fun E F=>ph (s_slice Try.underlying26 Try.sizeOf34 rfl (.inl (congrArg some (congrArg (Value.int .i64) (Int.toNat_of_nonneg D).symm))) (.inl (congrArg some (congrArg (Value.int .i64) rfl))) E (am rfl i.cap) (ph (s_clearTail I 0 (n:=a.length) Try.underlying26 Try.zeroValue34 rfl rfl rfl rfl y (am rfl i.cap) o.size ?_)))))))))))
 intro G w I hl0 ht0
 have H:=o.same hl0 ht0
 refine aa (ab (rgn (by kernel_rfl) (pu2 (slv (some d) (((a.take (f).toNat)++(a.drop (g).toNat)).length) e) (slv (some d) (((a.take (f).toNat)++(a.drop (g).toNat)).length) e) (by kernel_rfl) (aa (aj ?_)))))
 replace F:=Option.some.inj F; subst F
 exact ⟨_,Ret.r1 rfl rfl,⟨some d,e,G,rfl,I.pk [0] rfl rfl,H.to rfl rfl⟩⟩

theorem L99 (w0:World) (d:Option Addr) (e:Nat) (a:List Cl) (f:bi w0 d (al eCl a)) (g:a.length≤9223372036854775807) (h:a.length≤e) (r:List Cl) (F:F99 a=some r):cc Try.prog 99 [.slice d a.length e] w0 fun v w=>∃ (z0:Option Nat) (z1:Nat) (z2:List Value),v=slv z0 r.length z1∧Inv [] w0 w [(z0,blk z2 34)]∧Row 4 z0 r.length z1 z2 (al eCl r):=by
 refine gdE F (fun hb F=>?_)
 replace F:=Option.some.inj F; subst F
 refine az (n:=8) Try.func99 rfl Try.ntmps99 rfl ?_
 have I:=Inv.start w0
 refine ab (rgn (by kernel_rfl) (pu (.slice none 0 0) (by kernel_rfl) (aa (ab (ab (rgn (by kernel_rfl) (pu (.slice d a.length e) (by kernel_rfl) (ph (s_eqnil Try.underlying26 rfl rfl ?_ ?_)))))))))
 · intro h1; subst h1
   obtain rfl:=flat_nil_of eb (by decide) f.nil_of
   refine aa (ah rfl (ab (rgn (by kernel_rfl) (pu (.slice none 0 0) (by kernel_rfl) (aa (aj ?_))))))
   have I:=I.nilRow 34
   exact ⟨.slice none 0 0,Ret.r1 rfl rfl,⟨none,0,[],rfl,I.pk [0] rfl rfl,Row.nil_ 4⟩⟩
 intro h2
 refine aa (ai rfl (ak (ab (rgn (by kernel_rfl) (ph (fu I [] 34 (fun b=>slv (some b) 0 0) (by kernel_rfl) fun b1 w I=>pu (.slice d a.length e) (by kernel_rfl) (ph (ks I Try.underlying26 (z:=.agg #[iv 0,iv 0,iv 0,iv 0]) (k:=4) (bytes:=32) (by kernel_rfl) rfl rfl 0 rfl rfl (Row.zero_ 4 b1) (al eCl a) rfl (dt eb _) (f.inv0 I) (flat_cell eCl_cell _) (by omega) (by omega) (n2:=a.length) (by omega) fun g2 c3 cl4 w I r5=>pu (slv g2 a.length c3) (by kernel_rfl) (aa (aj (⟨slv g2 a.length c3,Ret.r1 rfl rfl,⟨g2,c3,cl4,rfl,I.pk [0] rfl rfl,r5⟩⟩)))))))))))


theorem L87 (w0:World) (d:Option Addr) (e:Nat) (a:List Ch) (f:Option Addr) (g:Nat) (b:List Ce) (i:Nat) (s:List En) (u:Nat) (x:Int→Option Int) (m:Option Addr) (o:Nat) (k:List Cl) (l:Int) (N:bi w0 d (al eCh a)) (O:a.length≤9223372036854775807) (P:a.length≤e) (Q:bi w0 f (al eCe b)) (R:b.length≤9223372036854775807) (S:b.length≤g) (T:w0.heap[i]?=some (fp s u)) (U:MOk s u) (V:∀ j,el s j=(x j).map (Value.int .i64)) (A:bi w0 m (al eCl k)) (B:k.length≤9223372036854775807) (C:k.length≤o) (r:List Cl) (F:F87 a b x k l=some r):cc Try.prog 87 [.agg #[.slice d a.length e,.slice f b.length g,.map (some i),.slice m k.length o],iv l] w0 fun v w=>∃ (z0:Option Nat) (z1:Nat) (z2:List Value),v=.agg #[.slice d a.length e,.slice f b.length g,.map (some i),slv z0 r.length z1]∧Inv [] w0 w [(z0,blk z2 34)]∧Row 4 z0 r.length z1 z2 (al eCl r):=by
 refine az (n:=15) Try.func87 rfl Try.ntmps87 rfl ?_
 have I:=Inv.start w0
 unfold F87 at F
 refine ab (rgn (by kernel_rfl) (ph (ca I _ rfl fun y w I=>ph (bh I _ Try.zeroValue120 rfl fun W w I=>aa (ab (bt F (fun D E F=>ckE F (fun h7 F=>gdE F (fun h8 F=>bt F (fun t G F=>?_))))))))))
 replace I:=I.pk [1,0] rfl rfl
 refine wp_drawn2 I [0] (by decide) rfl (by kernel_rfl) (by kernel_rfl) fun hsub=>alp 0 (pt y) hsub rfl (by kernel_rfl) (fun _=>(by kernel_rfl)) (al_light 1 (.agg #[.slice d a.length e,.slice f b.length g,.map (some i)]) hsub rfl (by kernel_rfl) (fun w I=>ar I 0 3 [.slice d a.length e,.slice f b.length g,.map (some i)] Try.isAgg115 Try.sizeOf115 rfl rfl rfl rfl br) (alp 2 (.pointer (some ⟨y,3,none⟩)) hsub rfl (by kernel_rfl) (fun _=>(by kernel_rfl)) (al_light 3 (.slice m k.length o) hsub rfl (by kernel_rfl) (fun w I=>ag I 0 (.slice m k.length o) Try.isAgg26 rfl rfl rfl br) (alp 5 (iv l) hsub rfl (by kernel_rfl) (fun _=>(by kernel_rfl)) (alp 6 (iv l) hsub rfl (by kernel_rfl) (fun _=>(by kernel_rfl)) (al_light 7 (iv (l+1)) hsub rfl (by kernel_rfl) (fun w I=>cj rfl rfl h7 br) (any_heavy [4] (by kernel_rfl) rfl (each1 fun w I=>ol_c rfl (co 99 _ (by kernel_rfl) (L99 _ m o k (A.inv0 I) B C _ E) ?_)))))))))
 rintro v w ⟨X,H,J,rfl,hN,z⟩
 have I:=I.join hN; clear hN
 refine ⟨_,I,subk (fun _ h=>h.pk [1] rfl rfl) ?_⟩
 intro hsub
 refine any_heavy [8] (by kernel_rfl) rfl (each1 ?_)
 intro w I
 obtain ⟨K,rfl⟩:=z.some_ (len_ge rfl h8)
 refine ol_c rfl (co 98 _ (by kernel_rfl) (L98 _ K H J D l (l+1) (I.has 0 _ _ rfl).1 (z.to rfl rfl) _ G) ?_)
 rintro v w ⟨p,q,L,rfl,hN,M⟩
 have I:=I.back 0 rfl hN; clear hN; have I:=I.nils 1 _ rfl (blk [] 34)
 refine ⟨_,I,subk (fun _ h=>h.pk [2] rfl rfl) ?_⟩
 intro hsub
 refine alp 9 (.agg #[.slice d a.length e,.slice f b.length g,.map (some i),slv p t.length q]) hsub rfl (by kernel_rfl) (fun _=>(by kernel_rfl)) (any_heavy [10] (by kernel_rfl) rfl (each1 fun w I=>ol_c rfl (aq I 3 4 [.slice d a.length e,.slice f b.length g,.map (some i),slv p t.length q] Try.sizeOf120 rfl rfl rfl rfl rfl (qa rfl) fun w I=>⟨_,I,subk (fun _ h=>h.pk [2] rfl rfl) ?_⟩)))
 intro hsub
 refine any_end (by kernel_rfl) (fun w I=>aj ?_)
 replace F:=Option.some.inj F; subst F
 exact ⟨_,Ret.c rfl rfl (ce I 3 4 [.slice d a.length e,.slice f b.length g,.map (some i),slv p t.length q] Try.isAgg120 Try.sizeOf120 rfl rfl rfl),⟨p,q,L,rfl,I.pk [0] rfl rfl,M.to rfl rfl⟩⟩


theorem L39 (w0:World) (t:Option Addr) (x:Nat) (f:List Ch) (y:Option Addr) (A:Nat) (g:List Ce) (i:Option Addr) (o:Nat) (d:List Cl) (L:bi w0 t (al eCh f)) (M:f.length≤9223372036854775807) (O:f.length≤x) (P:bi w0 y (al eCe g)) (Q:g.length≤9223372036854775807) (R:g.length≤A) (J:bi w0 i (al eCl d)) (Y:d.length≤9223372036854775807) (Z:d.length≤o) (N:Nat) (r:(List Int × Int)) (F:F39 N f g d=some r):cc Try.prog 39 [.agg #[.slice t f.length x,.slice y g.length A],.slice i d.length o] w0 fun v w=>∃ (z0:Option Nat) (z1:Nat) (z2:List Value),v=.tuple #[slv z0 r.1.length z1,iv r.2]∧Inv [] w0 w [(z0,blk z2 3)]∧Row 1 z0 r.1.length z1 z2 (al dv r.1):=by
 refine az (n:=68) Try.func39 rfl Try.ntmps39 rfl ?_
 have I:=Inv.start w0
 unfold F39 at F
 refine ab (rgn (by kernel_rfl) (ph (ca I _ rfl fun bD w I=>pu2 (.slice none 0 0) (iv 0) (by kernel_rfl) (aa (ab (rgn (by kernel_rfl) (ph (ma I 0 Try.isAgg25 Try.sizeOf25 rfl rfl rfl (pu (.slice i d.length o) (by kernel_rfl) (bindS3E F (fun bE aR F=>?_) (fun bG aS F=>?_) (fun E aT F=>?_)))))))))))
 ·
  refine ph (ac I 64 _ _ (by kernel_rfl) (L64 _ t x f y A g i o d (L.inv0 I) M O (P.inv0 I) Q R (J.inv0 I) Y Z N _ aR) fun w I=>pu3 (.tuple #[.agg #[.slice none 0 0,.slice none 0 0,.map none,.slice none 0 0],iv 42]) (.agg #[.slice none 0 0,.slice none 0 0,.map none,.slice none 0 0]) (iv 42) (by kernel_rfl) (ph (bh I _ Try.zeroValue120 rfl fun bH w I=>ph (mb I 0 _ Try.sizeOf120 rfl rfl rfl rfl rfl rfl fun w I=>pu (iv 42) (by kernel_rfl) (aa (ab (ab (rgn (by kernel_rfl) (pu (iv 42) (by kernel_rfl) (ph (de rfl rfl (fun _=>?_) (fun h=>absurd h (by decide)))))))))))))
  refine aa (ah rfl (ab (rgn (by kernel_rfl) (pu3 (iv 42) (.slice none 0 0) (iv 42) (by kernel_rfl) (aa (aj ?_))))))
  have I:=I.nilRow 3
  cases F
  exact ⟨_,Ret.r2 rfl rfl rfl,⟨none,0,[],rfl,I.pk [0] rfl rfl,Row.nil_ 1⟩⟩
 ·
  refine ph (ac I 64 _ _ (by kernel_rfl) (L64 _ t x f y A g i o d (L.inv0 I) M O (P.inv0 I) Q R (J.inv0 I) Y Z N _ aS) fun w I=>pu3 (.tuple #[.agg #[.slice none 0 0,.slice none 0 0,.map none,.slice none 0 0],iv 44]) (.agg #[.slice none 0 0,.slice none 0 0,.map none,.slice none 0 0]) (iv 44) (by kernel_rfl) (ph (bh I _ Try.zeroValue120 rfl fun bI w I=>ph (mb I 0 _ Try.sizeOf120 rfl rfl rfl rfl rfl rfl fun w I=>pu (iv 44) (by kernel_rfl) (aa (ab (ab (rgn (by kernel_rfl) (pu (iv 44) (by kernel_rfl) (ph (de rfl rfl (fun _=>?_) (fun h=>absurd h (by decide)))))))))))))
  refine aa (ah rfl (ab (rgn (by kernel_rfl) (pu3 (iv 44) (.slice none 0 0) (iv 44) (by kernel_rfl) (aa (aj ?_))))))
  have I:=I.nilRow 3
  cases F
  exact ⟨_,Ret.r2 rfl rfl rfl,⟨none,0,[],rfl,I.pk [0] rfl rfl,Row.nil_ 1⟩⟩
 refine ph (co 64 _ (by kernel_rfl) (L64 _ t x f y A g i o d (L.inv0 I) M O (P.inv0 I) Q R (J.inv0 I) Y Z N _ aT) ?_)
 rintro v w ⟨B,S,T,rfl,hN,a5,a6⟩
 have I:=I.join hN; clear hN
 refine pu3 (.tuple #[.agg #[.slice t f.length x,.slice y g.length A,.map (some B),.slice i d.length o],iv 0]) (.agg #[.slice t f.length x,.slice y g.length A,.map (some B),.slice i d.length o]) (iv 0) (by kernel_rfl) (ph (bh I _ Try.zeroValue120 rfl fun U w I=>ph (mb I 0 _ Try.sizeOf120 rfl rfl rfl rfl rfl rfl fun w I=>pu (iv 0) (by kernel_rfl) (aa (ab (ab (rgn (by kernel_rfl) (pu (iv 0) (by kernel_rfl) (ph (de rfl rfl (fun h=>absurd (by decide) h) (fun _=>aa (ai rfl (ak (ab (ab (rgn (by kernel_rfl) (pu2 (.slice i d.length o) (iv ((d.length:Nat):Int)) (by kernel_rfl) (ifE F (fun a7 F=>?_) (fun a7 F=>?_)))))))))))))))))))
 ·
  refine ph (di rfl rfl (fun _=>?_) (fun h=>absurd a7 h))
  refine aa (ah rfl (ab (rgn (by kernel_rfl) (pu (.slice i d.length o) (by kernel_rfl) (bt F (fun V aK F=>?_))))))
  obtain ⟨aU,aV,aW,aX,aY⟩:=J.at_ eb (by decide) aK
  refine ph (cn 0 Try.underlying26 Try.sizeOf34 rfl aW rfl rfl (fa aK rfl) (pu (.pointer (some ⟨aU,aV+0 * 4,none⟩)) (by kernel_rfl) (ph (dj I (iv V.fam) Try.isAgg3 rfl aX (by simp) (aY 0 _ rfl) (ph (fu I [iv V.fam] 3 (fun b=>slv (some b) 1 1) (by kernel_rfl) fun a8 w I=>pu2 (.slice (some ⟨a8,0,none⟩) 1 1) (iv 0) (by kernel_rfl) (aa (aj ?_))))))))
  have aZ:Row 1 (some a8) 1 1 [iv V.fam] (al dv [V.fam]):=Row.lit cy (l:=[V.fam]) rfl (qa rfl)
  cases F
  exact ⟨_,Ret.r2 rfl rfl rfl,⟨some a8,1,[iv V.fam],(by first | (simp only [List.length_set,sortI_len] <;> rfl) | rfl),I.pk [0] rfl rfl,aZ.to rfl rfl⟩⟩
 refine ph (di rfl rfl (fun h=>absurd h a7) (fun _=>aa (ai rfl (ak (ab (rgn (by kernel_rfl) (ph (ma I 0 Try.isAgg120 Try.sizeOf120 rfl rfl rfl (bt F (fun a b0 F=>ph (co 86 _ (by kernel_rfl) (L86 _ t x f y A g B S T E i o d (L.inv0 I) M O (P.inv0 I) Q R (I.has 1 _ _ rfl).1 a5 a6 (J.inv0 I) Y Z N _ b0) ?_)))))))))))
 rintro v w ⟨G,a0,a9,H,a1,aA,rfl,hN,bJ,bK⟩
 have I:=I.join hN; clear hN
 refine pu3 (.tuple #[.agg #[slv G a.1.length a0,iv a.2.1,iv a.2.2.1,slv H a.2.2.2.1.length a1],.bool a.2.2.2.2]) (.agg #[slv G a.1.length a0,iv a.2.1,iv a.2.2.1,slv H a.2.2.2.1.length a1]) (.bool a.2.2.2.2) (by kernel_rfl) (ph (bh I _ Try.zeroValue144 rfl fun K w I=>ph (mb I 0 _ Try.sizeOf144 rfl rfl rfl rfl rfl rfl fun w I=>pu (.bool a.2.2.2.2) (by kernel_rfl) (aa (ab (rgn (by kernel_rfl) (pu (.slice none 0 0) (by kernel_rfl) (aa (ab (ab (rgn (by kernel_rfl) (pu3 (.slice i d.length o) (iv ((d.length:Nat):Int)) (iv 0) (by kernel_rfl) (aa (au ?_))))))))))))))
 have I:=I.nilRow 3
 refine cb (fun m ρ w=>∃ (C:Option Nat) (D:Nat) (W:List Value) (p:List Int) (s:Int) (mm:Nat),cd ρ [(6,pt U),(8,pt K),(9,.bool a.2.2.2.2),(10,slv C p.length D),(37,.slice i d.length o),(38,iv (d.length:Int)),(39,iv s)]∧Inv [] w0 w [(some U,blk [.slice t f.length x,.slice y g.length A,.map (some B),.slice i d.length o] 120),(some B,fp S T),(some K,blk [slv G a.1.length a0,iv a.2.1,iv a.2.2.1,slv H a.2.2.2.1.length a1] 144),(G,blk a9 49),(H,blk aA 3),(C,blk W 3)]∧(Row 1 C (p.length) D W (al dv p))∧F39l1 f g d N E a mm p s=some r∧mm=m) (m:=N) ⟨none,0,[],[],0,N,⟨rfl,rfl,rfl,rfl,rfl,rfl,rfl,trivial⟩,I.pk [4,5,1,2,3,0] rfl rfl,(Row.nil_ 1),F,rfl⟩ ?_
 rintro m ρ w ⟨C,D,W,p,s,mm,hag,I,aB,F,hm⟩
 subst hm; obtain ⟨ρ,rfl⟩:=hag.form; clear hag
 obtain _ | m1:=mm
 ·cases (show (none:Option (List Int × Int))=some r from F)
 replace F:F39b1 f g d N E a (F39l1 f g d N E a m1) p s=some r:=F; unfold F39b1 at F
 refine ab (rgn (by kernel_rfl) (ifN F (fun aC F=>?_) (fun aC F=>?_)))
 ·
  refine ph (cm rfl rfl (fun h=>absurd h aC) (fun _=>aa (ab (ai rfl (bw (ab (rgn (by kernel_rfl) (pu3 (slv C p.length D) (slv C p.length D) (iv 0) (by kernel_rfl) (aa (aj ?_))))))))))
  cases F
  exact ⟨_,Ret.r2 rfl rfl rfl,⟨C,D,W,rfl,I.pk [5] rfl rfl,aB.to rfl rfl⟩⟩


 refine ph (cm rfl rfl (fun _=>?_) (fun h=>absurd aC h))
 refine aa (ab (ah rfl (ak (dn (fun ρ w=>∃ (a2:Option Nat) (a3:Nat) (a4:List Value) (X:List Int),cd ρ [(6,pt U),(8,pt K),(9,.bool a.2.2.2.2),(10,slv a2 X.length a3),(37,.slice i d.length o),(38,iv (d.length:Int)),(39,iv s)]∧Inv [] w0 w [(some U,blk [.slice t f.length x,.slice y g.length A,.map (some B),.slice i d.length o] 120),(some B,fp S T),(some K,blk [slv G a.1.length a0,iv a.2.1,iv a.2.2.1,slv H a.2.2.2.1.length a1] 144),(G,blk a9 49),(H,blk aA 3),(a2,blk a4 3)]∧(Row 1 a2 (X.length) a3 a4 (al dv X))∧F39j2 (F39l1 f g d N E a m1) s X=some r) ?_ ?_))))
 ·
  refine au (ab (rgn (by kernel_rfl) (pu (iv s) (by kernel_rfl) (gdE F (fun b1 F=>bt F (fun q aL F=>?_))))))
  obtain ⟨bL,bM,b2,b3,b4⟩:=J.at_ eb (by decide) aL
  refine ph (cn (s).toNat Try.underlying26 Try.sizeOf34 rfl b2 rfl (Int.toNat_of_nonneg b1).symm (fa aL rfl) (ph (ef I [iv q.fam,iv q.hd,iv q.fr,iv q.to] Try.isAgg34 Try.sizeOf34 rfl rfl b3 (by simp) b4 (ph (bh I _ Try.zeroValue34 rfl fun aD w I=>pu (iv s) (by kernel_rfl) (ph (mb I 0 _ Try.sizeOf34 rfl rfl rfl rfl rfl rfl fun w I=>aa (ab (rgn (by kernel_rfl) (ph (ma I 1 Try.isAgg120 Try.sizeOf120 rfl rfl rfl (pu (iv s) (by kernel_rfl) (bt F (fun b5 b6 F=>ph (co 87 _ (by kernel_rfl) (L87 _ t x f y A g B S T E i o d s (L.inv0 I) M O (P.inv0 I) Q R (I.has 2 _ _ rfl).1 a5 a6 (J.inv0 I) Y Z _ b6) ?_)))))))))))))))
  rintro v w ⟨b7,b8,bN,rfl,hN,aE⟩
  have I:=I.join hN; clear hN
  refine bt F (fun e b9 F=>ph (co 86 _ (by kernel_rfl) (L86 _ t x f y A g B S T E (b7.map fun b=>⟨b,0,none⟩) b8 b5 (L.inv0 I) M O (P.inv0 I) Q R (I.has 3 _ _ rfl).1 a5 a6 (I.rowCells 0 rfl aE) (am rfl aE.big) (am rfl aE.cap) N _ b9) ?_))
  rintro v w ⟨aM,aN,bO,aO,aP,bP,rfl,hN,bQ,bR⟩
  have I:=I.join hN; clear hN
  refine pu3 (.tuple #[.agg #[slv aM e.1.length aN,iv e.2.1,iv e.2.2.1,slv aO e.2.2.2.1.length aP],.bool e.2.2.2.2]) (.agg #[slv aM e.1.length aN,iv e.2.1,iv e.2.2.1,slv aO e.2.2.2.1.length aP]) (.bool e.2.2.2.2) (by kernel_rfl) (ph (bh I _ Try.zeroValue144 rfl fun bA w I=>ph (mb I 0 _ Try.sizeOf144 rfl rfl rfl rfl rfl rfl fun w I=>pu (.bool e.2.2.2.2) (by kernel_rfl) (aa (dn (fun ρ w=>cd ρ [(6,pt U),(8,pt K),(9,.bool a.2.2.2.2),(10,slv C p.length D),(12,pt aD),(37,.slice i d.length o),(38,iv (d.length:Int)),(39,iv s),(60,bT)]∧Inv [] w0 w [(some U,blk [.slice t f.length x,.slice y g.length A,.map (some B),.slice i d.length o] 120),(some B,fp S T),(some K,blk [slv G a.1.length a0,iv a.2.1,iv a.2.2.1,slv H a.2.2.2.1.length a1] 144),(G,blk a9 49),(H,blk aA 3),(C,blk W 3),(some aD,blk [iv q.fam,iv q.hd,iv q.fr,iv q.to] 34)]∧F39j3 (F39l1 f g d N E a m1) p s q=some r) ?_ ?_)))))
  ·
   refine rgn (by kernel_rfl) (pu2 (.bool a.2.2.2.2) (.bool e.2.2.2.2) (by kernel_rfl) (ifN F (fun aF F=>?_) (fun aF F=>?_)))
   ·
    refine ph (s_neqB Try.underlying4 rfl rfl (fun _=>?_) (fun h=>absurd h aF))
    refine pu bT (by kernel_rfl) (sf 5 (by kernel_rfl) (pu bT (by kernel_rfl) (aa (.inl ⟨rfl,⟨⟨rfl,rfl,rfl,rfl,rfl,rfl,rfl,rfl,rfl,trivial⟩,I.pk [5,6,7,8,9,10,4] rfl rfl,F⟩⟩))))
   refine ph (s_neqB Try.underlying4 rfl rfl (fun h=>absurd aF h) (fun _=>pu bF (by kernel_rfl) (pup (.pointer (some ⟨K,1,none⟩)) (by kernel_rfl) (aw (by kernel_rfl) (ar I 7 2 [iv a.2.1,iv a.2.2.1] Try.isAgg136 Try.sizeOf136 rfl rfl rfl rfl (pup (.pointer (some ⟨bA,1,none⟩)) (by kernel_rfl) (aw (by kernel_rfl) (ar I 0 2 [iv e.2.1,iv e.2.2.1] Try.isAgg136 Try.sizeOf136 rfl rfl rfl rfl (ifN F (fun aG F=>?_) (fun aG F=>?_))))))))))
   ·
    refine aw (by kernel_rfl) (s_neqA (b:=decide (a.2.1=e.2.1) && decide (a.2.2.1=e.2.2.1)) rfl rfl (by kernel_rfl) (fun w=>eq136 _ a.2.1 a.2.2.1 e.2.1 e.2.2.1 w) (fun _=>?_) (fun h=>absurd h aG))
    refine pu bT (by kernel_rfl) (aa (.inl ⟨rfl,⟨⟨rfl,rfl,rfl,rfl,rfl,rfl,rfl,rfl,rfl,trivial⟩,I.pk [5,6,7,8,9,10,4] rfl rfl,F⟩⟩))
   refine aw (by kernel_rfl) (s_neqA (b:=decide (a.2.1=e.2.1) && decide (a.2.2.1=e.2.2.1)) rfl rfl (by kernel_rfl) (fun w=>eq136 _ a.2.1 a.2.2.1 e.2.1 e.2.2.1 w) (fun h=>absurd aG h) (fun _=>pu bF (by kernel_rfl) (aa (.inr (ai rfl (ak (.inl ⟨rfl,⟨C,D,W,p,⟨rfl,rfl,rfl,rfl,rfl,rfl,rfl,trivial⟩,I.pk [5,6,7,8,9,10] rfl rfl,(aB.to rfl rfl),F⟩⟩)))))))
  intro ρ w hJ
  obtain ⟨hag,I,F⟩:=hJ
  obtain ⟨ρ,rfl⟩:=hag.form; clear hag
  unfold F39j3 at F
  refine ah rfl (rgn (by kernel_rfl) (pu2 (slv C p.length D) (pt aD) (by kernel_rfl) (ph (ag I 6 (iv q.fam) Try.isAgg3 rfl rfl rfl (ph (fu I [iv q.fam] 3 (fun b=>slv (some b) 1 1) (by kernel_rfl) fun bS w I=>gdE F (fun bU F=>ph (ks I Try.underlying52 (z:=iv 0) (k:=1) (bytes:=8) (by kernel_rfl) rfl rfl 6 rfl rfl aB [iv q.fam] rfl rfl (I.cells 0 (off:=0) rfl (fun j u h=>by rw [Nat.zero_add]; exact h)) (by simp [Value.oneCell']) (by omega) (by omega) (n2:=(p++[q.fam]).length) (kr rfl rfl) ?_))))))))
  intro aH aI aQ w I aJ
  have aJ:Row 1 aH ((p++[q.fam]).length) aI aQ (al dv (p++[q.fam])):=aJ.snoc _ rfl
  refine pu (slv aH ((p++[q.fam]).length) aI) (by kernel_rfl) (aa (.inl ⟨rfl,⟨aH,aI,aQ,p++[q.fam],⟨rfl,rfl,rfl,rfl,rfl,rfl,rfl,trivial⟩,I.pk [1,2,3,4,5,6] rfl rfl,(aJ.to rfl rfl),F⟩⟩))
 intro ρ w hJ
 obtain ⟨a2,a3,a4,X,hag,I,bB,F⟩:=hJ
 obtain ⟨ρ,rfl⟩:=hag.form; clear hag
 unfold F39j2 at F
 refine rgn (by kernel_rfl) (ckE F (fun bC F=>ph (cj rfl rfl bC (pu (iv (s+1)) (by kernel_rfl) (aa (⟨rfl,m1,Nat.lt_succ_self _,⟨a2,a3,a4,X,s+1,m1,⟨rfl,rfl,rfl,rfl,rfl,rfl,rfl,trivial⟩,I.pk [0,1,2,3,4,5] rfl rfl,(bB.to rfl rfl),F,rfl⟩⟩))))))
theorem L42 (w0:World) (e:Option Addr) (f:Nat) (a:List Int) (g:Option Addr) (i:Nat) (d:List Int) (C:bi w0 e (al dv a)) (S:a.length≤9223372036854775807) (T:a.length≤f) (D:bi w0 g (al dv d)) (U:d.length≤9223372036854775807) (V:d.length≤i) (N:Nat) (r:Bool) (F:F42 N a d=some r):cc Try.prog 42 [.slice e a.length f,.slice g d.length i] w0 fun v w=>v=.bool r∧Below w0.heap.size w0 w:=by
 refine az (n:=31) Try.func42 rfl Try.ntmps42 rfl ?_
 have I:=Inv.start w0
 unfold F42 at F
 refine ab (rgn (by kernel_rfl) (pu bF (by kernel_rfl) (aa (dn (fun ρ w=>∃ (k:Bool),cd ρ [(0,.slice e a.length f),(1,.slice g d.length i),(5,.bool k)]∧Inv [] w0 w []∧F42j1 a d N k=some r) ?_ ?_))))
 ·
  refine rgn (by kernel_rfl) (pu3 (.slice e a.length f) (iv ((a.length:Nat):Int)) (.slice g d.length i) (by kernel_rfl) (pu (iv ((d.length:Nat):Int)) (by kernel_rfl) (ifE F (fun q F=>?_) (fun q F=>?_))))
  ·
   refine ph (di rfl rfl (fun _=>?_) (fun h=>absurd q h))
   refine pu bT (by kernel_rfl) (aa (.inl ⟨rfl,⟨true,⟨rfl,rfl,rfl,trivial⟩,I.pk [] rfl rfl,F⟩⟩))
  refine ph (di rfl rfl (fun h=>absurd h q) (fun _=>pu bF (by kernel_rfl) (aa (.inl ⟨rfl,⟨false,⟨rfl,rfl,rfl,trivial⟩,I.pk [] rfl rfl,F⟩⟩))))
 intro ρ w hJ
 obtain ⟨k,hag,I,F⟩:=hJ
 obtain ⟨ρ,rfl⟩:=hag.form; clear hag
 unfold F42j1 at F
 refine dn (fun ρ w=>∃ (l:Bool),cd ρ [(5,.bool l)]∧Inv [] w0 w []∧F42j2 l=some r) ?_ ?_
 ·
  refine ab (rgn (by kernel_rfl) (pu (iv 0) (by kernel_rfl) (aa (au (cb (fun m ρ w=>∃ (j:Bool) (b:Int) (mm:Nat),cd ρ [(0,.slice e a.length f),(1,.slice g d.length i),(5,.bool j),(6,iv b)]∧Inv [] w0 w []∧F42l3 a d mm j b=some r∧mm=m) (m:=N) ⟨k,0,N,⟨rfl,rfl,rfl,rfl,trivial⟩,I.pk [] rfl rfl,F,rfl⟩ ?_)))))
  rintro m ρ w ⟨j,b,mm,hag,I,F,hm⟩
  subst hm; obtain ⟨ρ,rfl⟩:=hag.form; clear hag
  obtain _ | m3:=mm
  ·cases (show (none:Option Bool)=some r from F)
  replace F:F42b3 a d (F42l3 a d m3) j b=some r:=F; unfold F42b3 at F
  refine ab (dn (fun ρ w=>∃ (o:Bool),cd ρ [(0,.slice e a.length f),(1,.slice g d.length i),(5,.bool o),(6,iv b),(18,bF)]∧Inv [] w0 w []∧F42j4 o=some r) ?_ ?_)
  ·
   have hG:=F; rcases Bool.eq_false_or_eq_true j with rfl | rfl
   ·
    have F:=hG; clear hG
    refine ifE F (fun _ F=>?_) (fun h=>absurd rfl h)
    refine rgn (by kernel_rfl) (pu3 (iv b) (.slice e a.length f) (iv ((a.length:Nat):Int)) (by kernel_rfl) (ifN F (fun s F=>?_) (fun s F=>?_)))
    ·
     refine ph (cm rfl rfl (fun h=>absurd h s) (fun _=>pu bF (by kernel_rfl) (of_ (by kernel_rfl) (pu bF (by kernel_rfl) (aa (.inl ⟨rfl,⟨true,⟨rfl,rfl,rfl,rfl,rfl,trivial⟩,I.pk [] rfl rfl,F⟩⟩))))))
    refine ph (cm rfl rfl (fun _=>?_) (fun h=>absurd s h))
    refine pu bT (by kernel_rfl) (pup bT (by kernel_rfl) (pu bT (by kernel_rfl) (aa (.inr (ah rfl (ak (dn (fun ρ w=>∃ (p:Bool),cd ρ [(0,.slice e a.length f),(1,.slice g d.length i),(5,.bool p),(6,iv b)]∧Inv [] w0 w []∧F42j5 (F42l3 a d m3) b p=some r) ?_ ?_)))))))
    ·
     refine au (gm 10 I (by kernel_rfl) (zp2 (.slice e a.length f) (iv b) (fun _=>(by kernel_rfl)) (gdE F (fun x F=>bt F (fun y z F=>?_)))))
     obtain ⟨E,G,H,J,K⟩:=C.at_ cy (by decide) z
     refine zc (.pointer (some ⟨E,G+(b).toNat * 1,none⟩)) (fun w I=>cn (b).toNat Try.underlying52 Try.sizeOf3 rfl H rfl (Int.toNat_of_nonneg x).symm (fa z rfl) br) (zc (iv y) (fun w I=>dj I (iv y) Try.isAgg3 rfl J (by simp) (K 0 _ rfl) br) (zp2 (.slice g d.length i) (iv b) (fun _=>(by kernel_rfl)) (bt F (fun A B F=>?_))))
     obtain ⟨L,M,O,P,Q⟩:=D.at_ cy (by decide) B
     refine zc (.pointer (some ⟨L,M+(b).toNat * 1,none⟩)) (fun w I=>cn (b).toNat Try.underlying52 Try.sizeOf3 rfl O rfl (Int.toNat_of_nonneg x).symm (fa B rfl) br) (zc (iv A) (fun w I=>dj I (iv A) Try.isAgg3 rfl P (by simp) (Q 0 _ rfl) br) (ifE F (fun t F=>?_) (fun t F=>?_)))
     ·
      refine zc bT (fun w I=>di rfl rfl (fun _=>br) (fun h=>absurd t h)) (zp bT (fun _=>(by kernel_rfl)) (zh (fun w I=>aa (.inl ⟨rfl,⟨true,⟨rfl,rfl,rfl,rfl,trivial⟩,I.pk [] rfl rfl,F⟩⟩))))
     refine zc bF (fun w I=>di rfl rfl (fun h=>absurd h t) (fun _=>br)) (zp bF (fun _=>(by kernel_rfl)) (zh (fun w I=>aa (.inl ⟨rfl,⟨false,⟨rfl,rfl,rfl,rfl,trivial⟩,I.pk [] rfl rfl,F⟩⟩))))
    intro ρ w hJ
    obtain ⟨p,hag,I,F⟩:=hJ
    obtain ⟨ρ,rfl⟩:=hag.form; clear hag
    unfold F42j5 at F
    refine rgn (by kernel_rfl) (pu (iv b) (by kernel_rfl) (ckE F (fun R F=>ph (cj rfl rfl R (pu (iv (b+1)) (by kernel_rfl) (aa (⟨rfl,m3,Nat.lt_succ_self _,⟨p,b+1,m3,⟨rfl,rfl,rfl,rfl,trivial⟩,I.pk [] rfl rfl,F,rfl⟩⟩)))))))
   have F:=hG; clear hG
   refine ifE F (fun h=>absurd h (by decide)) (fun _ F=>rgn (by kernel_rfl) (pu3 (iv b) (.slice e a.length f) (iv ((a.length:Nat):Int)) (by kernel_rfl) (ifN F (fun u F=>?_) (fun u F=>?_))))
   ·
    refine ph (cm rfl rfl (fun h=>absurd h u) (fun _=>pu bF (by kernel_rfl) (of_ (by kernel_rfl) (pu bF (by kernel_rfl) (aa (.inl ⟨rfl,⟨false,⟨rfl,rfl,rfl,rfl,rfl,trivial⟩,I.pk [] rfl rfl,F⟩⟩))))))
   refine ph (cm rfl rfl (fun _=>?_) (fun h=>absurd u h))
   refine pu bT (by kernel_rfl) (pup bF (by kernel_rfl) (pu bF (by kernel_rfl) (aa (.inl ⟨rfl,⟨false,⟨rfl,rfl,rfl,rfl,rfl,trivial⟩,I.pk [] rfl rfl,F⟩⟩))))
  intro ρ w hJ
  obtain ⟨o,hag,I,F⟩:=hJ
  obtain ⟨ρ,rfl⟩:=hag.form; clear hag
  unfold F42j4 at F
  refine ai rfl (bw (.inl ⟨rfl,⟨o,⟨rfl,trivial⟩,I.pk [] rfl rfl,F⟩⟩))
 intro ρ w hJ
 obtain ⟨l,hag,I,F⟩:=hJ
 obtain ⟨ρ,rfl⟩:=hag.form; clear hag
 unfold F42j2 at F
 refine ab ?_
 have hG:=F; rcases Bool.eq_false_or_eq_true l with rfl | rfl
 ·
  have F:=hG; clear hG
  refine ifE F (fun _ F=>?_) (fun h=>absurd rfl h)
  refine rgn (by kernel_rfl) (pu2 bT bT (by kernel_rfl) (aa (aj ?_)))
  cases F
  exact ⟨_,Ret.r1 rfl rfl,⟨rfl,I.below⟩⟩
 have F:=hG; clear hG
 refine ifE F (fun h=>absurd h (by decide)) (fun _ F=>rgn (by kernel_rfl) (pu2 bF bF (by kernel_rfl) (aa (aj ?_))))
 cases F
 exact ⟨_,Ret.r1 rfl rfl,⟨rfl,I.below⟩⟩


theorem L78 (w0:World) (a:Gn) (r:Bool) (F:F78 a=some r):cc Try.prog 78 [.agg #[iv a.num,iv a.den]] w0 fun v w=>v=.bool r∧Below w0.heap.size w0 w:=by
 refine az (n:=11) Try.func78 rfl Try.ntmps78 rfl ?_
 have I:=Inv.start w0
 unfold F78 at F
 refine ab (rgn (by kernel_rfl) (ph (ca I _ rfl fun b w I=>pu bF (by kernel_rfl) (aa (ab (rgn (by kernel_rfl) (pu (pt b) (by kernel_rfl) (ph (ag I 0 (iv a.num) Try.isAgg3 rfl rfl rfl (bt F (fun g d F=>ifN F (fun h4 F=>?_) (fun h4 F=>?_))))))))))))
 ·
  refine ph (ac I 59 _ _ (by kernel_rfl) (cc.mono (L59 _ a.num 0 1000000 _ d) (fun v' w' h=>⟨h.1.trans (congrArg Value.bool (Bool.eq_false_iff.2 h4)),h.2⟩)) fun w I=>pu bF (by kernel_rfl) (sf 3 (by kernel_rfl) (pu2 bF bF (by kernel_rfl) (aa (aj ?_)))))
  cases F
  exact ⟨_,Ret.r1 rfl rfl,⟨rfl,I.below⟩⟩


 refine ph (ac I 59 _ _ (by kernel_rfl) (cc.mono (L59 _ a.num 0 1000000 _ d) (fun v' w' h=>⟨h.1.trans (congrArg Value.bool h4),h.2⟩)) fun w I=>pu bT (by kernel_rfl) (pup (.pointer (some ⟨b,1,none⟩)) (by kernel_rfl) (aw (by kernel_rfl) (ag I 0 (iv a.den) Try.isAgg3 rfl rfl rfl (bt F (fun e f F=>aw (by kernel_rfl) (ac I 59 _ _ (by kernel_rfl) (L59 _ a.den 1 1000000 _ f) fun w I=>pu2 (.bool e) (.bool e) (by kernel_rfl) (aa (aj ?_)))))))))
 cases F
 exact ⟨_,Ret.r1 rfl rfl,⟨rfl,I.below⟩⟩
theorem L90 (w0:World) (t:Option Addr) (u:Nat) (l:List Ch) (x:Option Addr) (y:Nat) (o:List Ce) (z:Nat) (A:List En) (H:Nat) (J:Int→Option Int) (i:Option Addr) (k:Nat) (a:List Cl) (d:Int) (f:Option Addr) (g:Nat) (b:List Int) (aE:bi w0 t (al eCh l)) (aF:l.length≤9223372036854775807) (aG:l.length≤u) (aH:bi w0 x (al eCe o)) (aI:o.length≤9223372036854775807) (aJ:o.length≤y) (aK:w0.heap[z]?=some (fp A H)) (aL:MOk A H) (aM:∀ j,el A j=(J j).map (Value.int .i64)) (W:bi w0 i (al eCl a)) (aN:a.length≤9223372036854775807) (aO:a.length≤k) (K:bi w0 f (al dv b)) (aP:b.length≤9223372036854775807) (aQ:b.length≤g) (N:Nat) (r:Bool) (F:F90 N l o J a d b=some r):cc Try.prog 90 [.agg #[.slice t l.length u,.slice x o.length y,.map (some z),.slice i a.length k],.agg #[iv d,.slice f b.length g]] w0 fun v w=>v=.bool r∧Below w0.heap.size w0 w:=by
 refine az (n:=52) Try.func90 rfl Try.ntmps90 rfl ?_
 have I:=Inv.start w0
 unfold F90 at F
 refine ab (rgn (by kernel_rfl) (ph (ca I _ rfl fun p w I=>ph (ca I _ rfl fun e w I=>pu bF (by kernel_rfl) (aa (ab (ab (rgn (by kernel_rfl) (pu (pt e) (by kernel_rfl) (ph (ag I 0 (iv d) Try.isAgg3 rfl rfl rfl (pu (.pointer (some ⟨p,3,none⟩)) (by kernel_rfl) (ph (ag I 1 (.slice i a.length k) Try.isAgg26 rfl rfl rfl (pu (iv ((a.length:Nat):Int)) (by kernel_rfl) (ckE F (fun X F=>ph (dm rfl rfl X (bt F (fun aR L F=>ifN F (fun B F=>?_) (fun B F=>?_)))))))))))))))))))))
 ·
  refine ph (ac I 59 _ _ (by kernel_rfl) (cc.mono (L59 _ d 0 ((a.length:Int) - 1) _ L) (fun v' w' h=>⟨h.1.trans (congrArg Value.bool (Bool.eq_false_iff.2 B)),h.2⟩)) fun w I=>pu2 bT bT (by kernel_rfl) (sf 12 (by kernel_rfl) (pu bT (by kernel_rfl) (aa (ah rfl (ab (rgn (by kernel_rfl) (pu bF (by kernel_rfl) (aa (aj ?_))))))))))
  cases F
  exact ⟨_,Ret.r1 rfl rfl,⟨rfl,I.below⟩⟩


 refine ph (ac I 59 _ _ (by kernel_rfl) (cc.mono (L59 _ d 0 ((a.length:Int) - 1) _ L) (fun v' w' h=>⟨h.1.trans (congrArg Value.bool B),h.2⟩)) fun w I=>pu2 bF bF (by kernel_rfl) (pup (.pointer (some ⟨e,1,none⟩)) (by kernel_rfl) (aw (by kernel_rfl) (ag I 0 (.slice f b.length g) Try.isAgg52 rfl rfl rfl (pup (iv ((b.length:Nat):Int)) (by kernel_rfl) (pup (.pointer (some ⟨p,3,none⟩)) (by kernel_rfl) (aw (by kernel_rfl) (ag I 1 (.slice i a.length k) Try.isAgg26 rfl rfl rfl (pup (iv ((a.length:Nat):Int)) (by kernel_rfl) (pup (pt e) (by kernel_rfl) (aw (by kernel_rfl) (ag I 0 (iv d) Try.isAgg3 rfl rfl rfl (ckE F (fun Y F=>aw (by kernel_rfl) (dm rfl rfl Y (ckE F (fun Z F=>aw (by kernel_rfl) (cj rfl rfl Z (bt F (fun aS M F=>ifN F (fun C F=>?_) (fun C F=>?_)))))))))))))))))))))
 ·
  refine aw (by kernel_rfl) (ac I 59 _ _ (by kernel_rfl) (cc.mono (L59 _ (b.length:Int) 2 (((a.length:Int) - d)+1) _ M) (fun v' w' h=>⟨h.1.trans (congrArg Value.bool (Bool.eq_false_iff.2 C)),h.2⟩)) fun w I=>pup bT (by kernel_rfl) (pu bT (by kernel_rfl) (aa (ah rfl (ab (rgn (by kernel_rfl) (pu bF (by kernel_rfl) (aa (aj ?_)))))))))
  cases F
  exact ⟨_,Ret.r1 rfl rfl,⟨rfl,I.below⟩⟩
 refine aw (by kernel_rfl) (ac I 59 _ _ (by kernel_rfl) (cc.mono (L59 _ (b.length:Int) 2 (((a.length:Int) - d)+1) _ M) (fun v' w' h=>⟨h.1.trans (congrArg Value.bool C),h.2⟩)) fun w I=>pup bF (by kernel_rfl) (pu bF (by kernel_rfl) (aa (ai rfl (ak (dn (fun ρ w=>cd ρ [(2,pt p),(3,pt e)]∧Inv [] w0 w [(some p,blk [.slice t l.length u,.slice x o.length y,.map (some z),.slice i a.length k] 120),(some e,blk [iv d,.slice f b.length g] 67)]∧F90j1 a d b=some r) ?_ ?_))))))
 ·
  refine ab (rgn (by kernel_rfl) (pu (.pointer (some ⟨e,1,none⟩)) (by kernel_rfl) (ph (ag I 0 (.slice f b.length g) Try.isAgg52 rfl rfl rfl (pu2 (iv ((b.length:Nat):Int)) (iv 0) (by kernel_rfl) (aa (au (cb (fun m ρ w=>∃ (q:Int) (mm:Nat),cd ρ [(2,pt p),(3,pt e),(30,.slice f b.length g),(31,iv (b.length:Int)),(32,iv q)]∧Inv [] w0 w [(some p,blk [.slice t l.length u,.slice x o.length y,.map (some z),.slice i a.length k] 120),(some e,blk [iv d,.slice f b.length g] 67)]∧F90l2 a d b mm q=some r∧mm=m) (m:=N) ⟨0,N,⟨rfl,rfl,rfl,rfl,rfl,trivial⟩,I.pk [1,0] rfl rfl,F,rfl⟩ ?_))))))))
  rintro m ρ w ⟨q,mm,hag,I,F,hm⟩
  subst hm; obtain ⟨ρ,rfl⟩:=hag.form; clear hag
  obtain _ | m2:=mm
  ·cases (show (none:Option Bool)=some r from F)
  replace F:F90b2 a d b (F90l2 a d b m2) q=some r:=F; unfold F90b2 at F
  refine ab (rgn (by kernel_rfl) (ifN F (fun D F=>?_) (fun D F=>?_)))
  ·
   refine ph (cm rfl rfl (fun h=>absurd h D) (fun _=>aa (ab (ai rfl (bw (.inl ⟨rfl,⟨⟨rfl,rfl,trivial⟩,I.pk [0,1] rfl rfl,F⟩⟩))))))
  refine ph (cm rfl rfl (fun _=>?_) (fun h=>absurd D h))
  refine aa (ab (ah rfl (ak (ab (au (ab (rgn (by kernel_rfl) (gdE F (fun a0 F=>bt F (fun s O F=>?_))))))))))
  obtain ⟨aT,aU,a1,a2,a3⟩:=K.at_ cy (by decide) O
  refine ph (cn (q).toNat Try.underlying52 Try.sizeOf3 rfl a1 rfl (Int.toNat_of_nonneg a0).symm (fa O rfl) (ph (dj I (iv s) Try.isAgg3 rfl a2 (by simp) (a3 0 _ rfl) (pu (iv s) (by kernel_rfl) (aa (ab (rgn (by kernel_rfl) (pu (iv s) (by kernel_rfl) (bt F (fun aV P F=>ifN F (fun E F=>?_) (fun E F=>?_)))))))))))
  ·
   refine ph (ac I 59 _ _ (by kernel_rfl) (cc.mono (L59 _ s 0 25 _ P) (fun v' w' h=>⟨h.1.trans (congrArg Value.bool (Bool.eq_false_iff.2 E)),h.2⟩)) fun w I=>pu bT (by kernel_rfl) (aa (ah rfl (ab (rgn (by kernel_rfl) (pu bF (by kernel_rfl) (aa (aj ?_))))))))
   cases F
   exact ⟨_,Ret.r1 rfl rfl,⟨rfl,I.below⟩⟩
  refine ph (ac I 59 _ _ (by kernel_rfl) (cc.mono (L59 _ s 0 25 _ P) (fun v' w' h=>⟨h.1.trans (congrArg Value.bool E),h.2⟩)) fun w I=>pu bF (by kernel_rfl) (aa (ai rfl (ak (rgn (by kernel_rfl) (ckE F (fun a4 F=>ph (cj rfl rfl a4 (pu (iv (q+1)) (by kernel_rfl) (aa (⟨rfl,m2,Nat.lt_succ_self _,⟨q+1,m2,⟨rfl,rfl,rfl,rfl,rfl,trivial⟩,I.pk [0,1] rfl rfl,F,rfl⟩⟩)))))))))))
 intro ρ w hJ
 obtain ⟨hag,I,F⟩:=hJ
 obtain ⟨ρ,rfl⟩:=hag.form; clear hag
 unfold F90j1 at F
 refine ab (gm 13 I (by kernel_rfl) (zp (.pointer (some ⟨e,1,none⟩)) (fun _=>(by kernel_rfl)) (zc (.slice f b.length g) (fun w I=>ag I 1 (.slice f b.length g) Try.isAgg52 rfl rfl rfl br) (bt F (fun Q R F=>?_)))))
 obtain ⟨a5,a6,a7,a8,a9⟩:=K.at_ cy (by decide) R
 refine zc (.pointer (some ⟨a5,a6+0 * 1,none⟩)) (fun w I=>cn 0 Try.underlying52 Try.sizeOf3 rfl a7 rfl rfl (fa R rfl) br) (zc (iv Q) (fun w I=>dj I (iv Q) Try.isAgg3 rfl a8 (by simp) (a9 0 _ rfl) br) (zp (.pointer (some ⟨p,3,none⟩)) (fun _=>(by kernel_rfl)) (zc (.slice i a.length k) (fun w I=>ag I 0 (.slice i a.length k) Try.isAgg26 rfl rfl rfl br) (zp (pt e) (fun _=>(by kernel_rfl)) (zc (iv d) (fun w I=>ag I 1 (iv d) Try.isAgg3 rfl rfl rfl br) (gdE F (fun aA F=>bt F (fun S T F=>?_))))))))
 obtain ⟨U,V,aB,aC,aD⟩:=W.at_ eb (by decide) T
 refine zc (.pointer (some ⟨U,V+(d).toNat * 4,none⟩)) (fun w I=>cn (d).toNat Try.underlying26 Try.sizeOf34 rfl aB rfl (Int.toNat_of_nonneg aA).symm (fa T rfl) br) (zp (.pointer (some ⟨U,V+(d).toNat * 4+2,none⟩)) (fun _=>(by kernel_rfl)) (zc (iv S.fr) (fun w I=>dj I (iv S.fr) Try.isAgg3 rfl aC (by simp) (aD 2 _ rfl) br) (ifE F (fun G F=>?_) (fun G F=>?_))))
 ·
  refine zc bT (fun w I=>di rfl rfl (fun _=>br) (fun h=>absurd G h)) (zp bT (fun _=>(by kernel_rfl)) (zh (fun w I=>aa (aj ?_))))
  cases F
  exact ⟨_,Ret.r1 rfl rfl,⟨rfl,I.below⟩⟩
 refine zc bF (fun w I=>di rfl rfl (fun h=>absurd h G) (fun _=>br)) (zp bF (fun _=>(by kernel_rfl)) (zh (fun w I=>aa (aj ?_))))
 cases F
 exact ⟨_,Ret.r1 rfl rfl,⟨rfl,I.below⟩⟩
theorem L91 (w0:World) (y:Option Addr) (A:Nat) (i:List Ch) (B:Option Addr) (C:Nat) (o:List Ce) (D:Nat) (K:List En) (L:Nat) (H:Int→Option Int) (E:Option Addr) (u:Nat) (e:List Cl) (b:Int) (q:Option Addr) (s:Nat) (a:List Int) (p:Gn) (a5:bi w0 y (al eCh i)) (a6:i.length≤9223372036854775807) (a7:i.length≤A) (a8:bi w0 B (al eCe o)) (a9:o.length≤9223372036854775807) (aA:o.length≤C) (aB:w0.heap[D]?=some (fp K L)) (aC:MOk K L) (aD:∀ j,el K j=(H j).map (Value.int .i64)) (T:bi w0 E (al eCl e)) (bJ:e.length≤9223372036854775807) (aE:e.length≤u) (M:bi w0 q (al dv a)) (bK:a.length≤9223372036854775807) (bL:a.length≤s) (N:Nat) (r:Bool) (F:F91 N i o H e b a p=some r):cc Try.prog 91 [.agg #[.slice y i.length A,.slice B o.length C,.map (some D),.slice E e.length u],.agg #[iv b,.slice q a.length s],.agg #[iv p.num,iv p.den]] w0 fun v w=>v=.bool r∧Below w0.heap.size w0 w:=by
 refine az (n:=77) Try.func91 rfl Try.ntmps91 rfl ?_
 have I:=Inv.start w0
 unfold F91 at F
 refine ab (rgn (by kernel_rfl) (ph (ca I _ rfl fun G w I=>ph (ca I _ rfl fun t w I=>ph (ca I _ rfl fun U w I=>pu bF (by kernel_rfl) (aa (ab (rgn (by kernel_rfl) (pu (.pointer (some ⟨t,1,none⟩)) (by kernel_rfl) (ph (ag I 1 (.slice q a.length s) Try.isAgg52 rfl rfl rfl (pu (iv ((a.length:Nat):Int)) (by kernel_rfl) (ckE F (fun aF F=>ph (dm rfl rfl aF (pu (iv ((a.length:Int) - 1)) (by kernel_rfl) (aa (dn (fun ρ w=>cd ρ [(3,pt G),(4,pt t),(7,iv ((a.length:Int) - 1))]∧Inv [] w0 w [(some G,blk [.slice y i.length A,.slice B o.length C,.map (some D),.slice E e.length u] 120),(some t,blk [iv b,.slice q a.length s] 67)]∧F91j1 e b a=some r) ?_ ?_))))))))))))))))))
 ·
  refine ab (rgn (by kernel_rfl) (pu (.pointer (some ⟨G,3,none⟩)) (by kernel_rfl) (ph (ag I 2 (.slice E e.length u) Try.isAgg26 rfl rfl rfl (pu (pt t) (by kernel_rfl) (ph (ag I 1 (iv b) Try.isAgg3 rfl rfl rfl (pu (pt t) (by kernel_rfl) (ph (ag I 1 (iv b) Try.isAgg3 rfl rfl rfl (pu (iv ((a.length:Int) - 1)) (by kernel_rfl) (ckE F (fun aG F=>ph (cj rfl rfl aG (gdE F (fun aH F=>gdE F (fun aI F=>gdE F (fun aJ F=>?_))))))))))))))))))
  obtain ⟨aK,hC1582,aL⟩:=cutA (enc:=eCl) (l:=e) (lo:=(b).toNat) (hi:=(b+((a.length:Int) - 1)).toNat) (c:=u) (k:=4) eb T aJ aE
  refine ph (aL Try.underlying26 Try.sizeOf34 rfl (.inl (congrArg (fun z=>some (Value.int .i64 z)) (Int.toNat_of_nonneg aH).symm)) (.inl (congrArg (fun z=>some (Value.int .i64 z)) (Int.toNat_of_nonneg aI).symm)) (pu2 (iv ((((e.drop (b).toNat).take ((b+((a.length:Int) - 1)).toNat - (b).toNat)).length:Nat):Int)) (iv 0) (by kernel_rfl) (aa (au (cb (fun m ρ w=>∃ (f:Int) (mm:Nat),cd ρ [(3,pt G),(4,pt t),(5,pt U),(7,iv ((a.length:Int) - 1)),(24,.slice aK (((e.drop (b).toNat).take ((b+((a.length:Int) - 1)).toNat - (b).toNat)).length) (u - (b).toNat)),(25,iv (((e.drop (b).toNat).take ((b+((a.length:Int) - 1)).toNat - (b).toNat)).length:Int)),(26,iv f)]∧Inv [] w0 w [(some G,blk [.slice y i.length A,.slice B o.length C,.map (some D),.slice E e.length u] 120),(some t,blk [iv b,.slice q a.length s] 67),(some U,blk [iv p.num,iv p.den] 136)]∧F91l2 i o H e b a p N mm f=some r∧mm=m) (m:=N) ⟨0,N,⟨rfl,rfl,rfl,rfl,rfl,rfl,rfl,trivial⟩,I.pk [2,1,0] rfl rfl,F,rfl⟩ ?_)))))
  rintro m ρ w ⟨f,mm,hag,I,F,hm⟩
  subst hm; obtain ⟨ρ,rfl⟩:=hag.form; clear hag
  obtain _ | m2:=mm
  ·cases (show (none:Option Bool)=some r from F)
  replace F:F91b2 i o H e b a p N (F91l2 i o H e b a p N m2) f=some r:=F; unfold F91b2 at F
  refine ab (rgn (by kernel_rfl) (ifN F (fun O F=>?_) (fun O F=>?_)))
  ·
   refine ph (cm rfl rfl (fun h=>absurd h O) (fun _=>aa (ab (ai rfl (bw (.inl ⟨rfl,⟨⟨rfl,rfl,rfl,trivial⟩,I.pk [0,1] rfl rfl,F⟩⟩))))))
  refine ph (cm rfl rfl (fun _=>?_) (fun h=>absurd O h))
  refine aa (ab (ah rfl (ak (ab (au (ab (rgn (by kernel_rfl) (pu (iv f) (by kernel_rfl) (gdE F (fun V F=>bt F (fun d W F=>?_)))))))))))
  obtain ⟨bM,bN,aM,aN,aO⟩:=hC1582.at_ eb (by decide) W
  refine ph (cn (f).toNat Try.underlying26 Try.sizeOf34 rfl aM rfl (Int.toNat_of_nonneg V).symm (fa W rfl) (ph (ef I [iv d.fam,iv d.hd,iv d.fr,iv d.to] Try.isAgg34 Try.sizeOf34 rfl rfl aN (by simp) aO (ph (bh I _ Try.zeroValue34 rfl fun aP w I=>pu (iv f) (by kernel_rfl) (ph (mb I 0 _ Try.sizeOf34 rfl rfl rfl rfl rfl rfl fun w I=>aa (ab (gm 16 I (by kernel_rfl) (zp (.pointer (some ⟨t,1,none⟩)) (fun _=>(by kernel_rfl)) (zc (.slice q a.length s) (fun w I=>ag I 2 (.slice q a.length s) Try.isAgg52 rfl rfl rfl br) (zp (iv f) (fun _=>(by kernel_rfl)) (bt F (fun g X F=>?_))))))))))))))
  obtain ⟨aQ,aR,aS,aT,aU⟩:=M.at_ cy (by decide) X
  refine zc (.pointer (some ⟨aQ,aR+(f).toNat * 1,none⟩)) (fun w I=>cn (f).toNat Try.underlying52 Try.sizeOf3 rfl aS rfl (Int.toNat_of_nonneg V).symm (fa X rfl) br) (zc (iv g) (fun w I=>dj I (iv g) Try.isAgg3 rfl aT (by simp) (aU 0 _ rfl) br) (zp (.pointer (some ⟨aP,2,none⟩)) (fun _=>(by kernel_rfl)) (zc (iv d.fr) (fun w I=>ag I 0 (iv d.fr) Try.isAgg3 rfl rfl rfl br) (zp2 (iv (if d.fr > g then d.fr else g)) (.pointer (some ⟨t,1,none⟩)) (fun _=>(by kernel_rfl)) (zc (.slice q a.length s) (fun w I=>ag I 2 (.slice q a.length s) Try.isAgg52 rfl rfl rfl br) (zp (iv f) (fun _=>(by kernel_rfl)) (ckE F (fun Y F=>zc (iv (f+1)) (fun w I=>cj rfl rfl Y br) (gdE F (fun aV F=>bt F (fun x Z F=>?_)))))))))))
  obtain ⟨aW,aX,aY,aZ,b0⟩:=M.at_ cy (by decide) Z
  refine zc (.pointer (some ⟨aW,aX+((f+1).toNat) * 1,none⟩)) (fun w I=>cn ((f+1).toNat) Try.underlying52 Try.sizeOf3 rfl aY rfl (Int.toNat_of_nonneg aV).symm (fa Z rfl) br) (zc (iv x) (fun w I=>dj I (iv x) Try.isAgg3 rfl aZ (by simp) (b0 0 _ rfl) br) (zp2 (iv (if d.fr > g then d.fr else g)) (iv x) (fun _=>(by kernel_rfl)) (zh (fun w I=>aa (ab (ab (rgn (by kernel_rfl) (pu2 (iv x) (iv (if d.fr > g then d.fr else g)) (by kernel_rfl) (ifE F (fun P F=>?_) (fun P F=>?_))))))))))
  ·
   refine ph (fq rfl rfl (fun _=>?_) (fun h=>absurd P h))
   refine aa (ah rfl (ab (rgn (by kernel_rfl) (pu bF (by kernel_rfl) (aa (aj ?_))))))
   cases F
   exact ⟨_,Ret.r1 rfl rfl,⟨rfl,I.below⟩⟩
  refine ph (fq rfl rfl (fun h=>absurd h P) (fun _=>aa (ai rfl (ak (ab (gm 11 I (by kernel_rfl) (zp (pt G) (fun _=>(by kernel_rfl)) (zc (.agg #[.slice y i.length A,.slice B o.length C,.map (some D)]) (fun w I=>ar I 1 3 [.slice y i.length A,.slice B o.length C,.map (some D)] Try.isAgg115 Try.sizeOf115 rfl rfl rfl rfl br) (zc (.agg #[iv d.fam,iv d.hd,iv d.fr,iv d.to]) (fun w I=>ma I 0 Try.isAgg34 Try.sizeOf34 rfl rfl rfl br) (zp2 (iv (if d.fr > g then d.fr else g)) (iv x) (fun _=>(by kernel_rfl)) (ckE F (fun b1 F=>zc (iv (x - 2)) (fun w I=>dm rfl rfl b1 br) (zp (.agg #[iv (if d.fr > g then d.fr else g),iv (x - 2)]) (fun _=>(by kernel_rfl)) (bt F (fun J b2 F=>zc (.agg #[iv J.1,iv J.2]) (fun w I=>co 94 [.agg #[.slice y i.length A,.slice B o.length C,.map (some D)],.agg #[iv d.fam,iv d.hd,iv d.fr,iv d.to],.agg #[iv (if d.fr > g then d.fr else g),iv (x - 2)]] (by kernel_rfl) (L94 _ y A i B C o D K L H d (⟨if d.fr > g then d.fr else g,x - 2⟩:Dr) (a5.inv0 I) a6 a7 (a8.inv0 I) a9 aA (I.at0 (aB)) aC aD N _ b2) (fun v' w' h=>h)) (zc (.agg #[iv p.num,iv p.den]) (fun w I=>ma I 3 Try.isAgg136 Try.sizeOf136 rfl rfl rfl br) (bt F (fun b3 b4 F=>zc (iv b3) (fun w I=>co 79 [.agg #[iv J.1,iv J.2],.agg #[iv p.num,iv p.den]] (by kernel_rfl) (L79 _ (⟨J.1,J.2⟩:Gn) p _ b4) (fun v' w' h=>h)) (ifE F (fun Q F=>?_) (fun Q F=>?_))))))))))))))))))))
  ·
   refine zc bT (fun w I=>fh rfl rfl (fun _=>br) (fun h=>absurd Q h)) (zh (fun w I=>aa (ah rfl (ab (rgn (by kernel_rfl) (pu bF (by kernel_rfl) (aa (aj ?_))))))))
   cases F
   exact ⟨_,Ret.r1 rfl rfl,⟨rfl,I.below⟩⟩
  refine zc bF (fun w I=>fh rfl rfl (fun h=>absurd h Q) (fun _=>br)) (zh (fun w I=>aa (ai rfl (ak (rgn (by kernel_rfl) (ph (cj rfl rfl Y (pu (iv (f+1)) (by kernel_rfl) (aa (⟨rfl,m2,Nat.lt_succ_self _,⟨f+1,m2,⟨rfl,rfl,rfl,rfl,rfl,rfl,rfl,trivial⟩,I.pk [1,2,3] rfl rfl,F,rfl⟩⟩))))))))))
 intro ρ w hJ
 obtain ⟨hag,I,F⟩:=hJ
 obtain ⟨ρ,rfl⟩:=hag.form; clear hag
 unfold F91j1 at F
 refine ab (gm 18 I (by kernel_rfl) (zp (.pointer (some ⟨t,1,none⟩)) (fun _=>(by kernel_rfl)) (zc (.slice q a.length s) (fun w I=>ag I 1 (.slice q a.length s) Try.isAgg52 rfl rfl rfl br) (zp (iv ((a.length:Int) - 1)) (fun _=>(by kernel_rfl)) (gdE F (fun b5 F=>bt F (fun R a0 F=>?_)))))))
 obtain ⟨b6,b7,b8,b9,bA⟩:=M.at_ cy (by decide) a0
 refine zc (.pointer (some ⟨b6,b7+(((a.length:Int) - 1).toNat) * 1,none⟩)) (fun w I=>cn (((a.length:Int) - 1).toNat) Try.underlying52 Try.sizeOf3 rfl b8 rfl (Int.toNat_of_nonneg b5).symm (fa a0 rfl) br) (zc (iv R) (fun w I=>dj I (iv R) Try.isAgg3 rfl b9 (by simp) (bA 0 _ rfl) br) (ckE F (fun bB F=>zc (iv (R - 1)) (fun w I=>dm rfl rfl bB br) (zp (.pointer (some ⟨G,3,none⟩)) (fun _=>(by kernel_rfl)) (zc (.slice E e.length u) (fun w I=>ag I 0 (.slice E e.length u) Try.isAgg26 rfl rfl rfl br) (zp (pt t) (fun _=>(by kernel_rfl)) (zc (iv b) (fun w I=>ag I 1 (iv b) Try.isAgg3 rfl rfl rfl br) (zp (iv ((a.length:Int) - 1)) (fun _=>(by kernel_rfl)) (ckE F (fun bC F=>zc (iv (b+((a.length:Int) - 1))) (fun w I=>cj rfl rfl bC br) (ckE F (fun bD F=>zc (iv ((b+((a.length:Int) - 1)) - 1)) (fun w I=>dm rfl rfl bD br) (gdE F (fun bE F=>bt F (fun a1 a2 F=>?_)))))))))))))))
 obtain ⟨a3,a4,bG,bH,bI⟩:=T.at_ eb (by decide) a2
 refine zc (.pointer (some ⟨a3,a4+(((b+((a.length:Int) - 1)) - 1).toNat) * 4,none⟩)) (fun w I=>cn (((b+((a.length:Int) - 1)) - 1).toNat) Try.underlying26 Try.sizeOf34 rfl bG rfl (Int.toNat_of_nonneg bE).symm (fa a2 rfl) br) (zp (.pointer (some ⟨a3,a4+(((b+((a.length:Int) - 1)) - 1).toNat) * 4+3,none⟩)) (fun _=>(by kernel_rfl)) (zc (iv a1.to) (fun w I=>dj I (iv a1.to) Try.isAgg3 rfl bH (by simp) (bI 3 _ rfl) br) (ifE F (fun S F=>?_) (fun S F=>?_))))
 ·
  refine zc bT (fun w I=>fh rfl rfl (fun _=>br) (fun h=>absurd S h)) (zp bT (fun _=>(by kernel_rfl)) (zh (fun w I=>aa (aj ?_))))
  cases F
  exact ⟨_,Ret.r1 rfl rfl,⟨rfl,I.below⟩⟩
 refine zc bF (fun w I=>fh rfl rfl (fun h=>absurd h S) (fun _=>br)) (zp bF (fun _=>(by kernel_rfl)) (zh (fun w I=>aa (aj ?_))))
 cases F
 exact ⟨_,Ret.r1 rfl rfl,⟨rfl,I.below⟩⟩


theorem L47 (w0:World) (g:Option Addr) (i:Nat) (b:List Ch) (j:Option Addr) (k:Nat) (d:List Ce) (e:Option Addr) (f:Nat) (a:List Cl) (A:Int) (B:Option Addr) (C:Nat) (l:List Int) (m:Gn) (o:bi w0 g (al eCh b)) (p:b.length≤9223372036854775807) (q:b.length≤i) (s:bi w0 j (al eCe d)) (t:d.length≤9223372036854775807) (u:d.length≤k) (x:bi w0 e (al eCl a)) (y:a.length≤9223372036854775807) (z:a.length≤f) (E:bi w0 B (al dv l)) (G:l.length≤9223372036854775807) (H:l.length≤C) (N:Nat) (r:Int) (F:F47 N b d a A l m=some r):cc Try.prog 47 [.agg #[.slice g b.length i,.slice j d.length k],.slice e a.length f,.agg #[iv A,.slice B l.length C],.agg #[iv m.num,iv m.den]] w0 fun v w=>v=iv r∧Below w0.heap.size w0 w:=by
 refine az (n:=34) Try.func47 rfl Try.ntmps47 rfl ?_
 have I:=Inv.start w0
 unfold F47 at F
 refine ab (rgn (by kernel_rfl) (ph (ca I _ rfl fun Y w I=>ph (ca I _ rfl fun Z w I=>ph (ca I _ rfl fun a0 w I=>pu (iv 0) (by kernel_rfl) (aa (ab (rgn (by kernel_rfl) (ph (ma I 2 Try.isAgg25 Try.sizeOf25 rfl rfl rfl (pu (.slice e a.length f) (by kernel_rfl) (bindS3E F (fun a1 V F=>?_) (fun a2 W F=>?_) (fun J X F=>?_)))))))))))))
 ·
  refine ph (ac I 64 _ _ (by kernel_rfl) (L64 _ g i b j k d e f a (o.inv0 I) p q (s.inv0 I) t u (x.inv0 I) y z N _ V) fun w I=>pu3 (.tuple #[.agg #[.slice none 0 0,.slice none 0 0,.map none,.slice none 0 0],iv 42]) (.agg #[.slice none 0 0,.slice none 0 0,.map none,.slice none 0 0]) (iv 42) (by kernel_rfl) (ph (bh I _ Try.zeroValue120 rfl fun a3 w I=>ph (mb I 0 _ Try.sizeOf120 rfl rfl rfl rfl rfl rfl fun w I=>pu (iv 42) (by kernel_rfl) (aa (ab (ab (rgn (by kernel_rfl) (pu (iv 42) (by kernel_rfl) (ph (de rfl rfl (fun _=>?_) (fun h=>absurd h (by decide)))))))))))))
  refine aa (ah rfl (ab (rgn (by kernel_rfl) (pu2 (iv 42) (iv 42) (by kernel_rfl) (aa (aj ?_))))))
  cases F
  exact ⟨_,Ret.r1 rfl rfl,⟨rfl,I.below⟩⟩
 ·
  refine ph (ac I 64 _ _ (by kernel_rfl) (L64 _ g i b j k d e f a (o.inv0 I) p q (s.inv0 I) t u (x.inv0 I) y z N _ W) fun w I=>pu3 (.tuple #[.agg #[.slice none 0 0,.slice none 0 0,.map none,.slice none 0 0],iv 44]) (.agg #[.slice none 0 0,.slice none 0 0,.map none,.slice none 0 0]) (iv 44) (by kernel_rfl) (ph (bh I _ Try.zeroValue120 rfl fun a4 w I=>ph (mb I 0 _ Try.sizeOf120 rfl rfl rfl rfl rfl rfl fun w I=>pu (iv 44) (by kernel_rfl) (aa (ab (ab (rgn (by kernel_rfl) (pu (iv 44) (by kernel_rfl) (ph (de rfl rfl (fun _=>?_) (fun h=>absurd h (by decide)))))))))))))
  refine aa (ah rfl (ab (rgn (by kernel_rfl) (pu2 (iv 44) (iv 44) (by kernel_rfl) (aa (aj ?_))))))
  cases F
  exact ⟨_,Ret.r1 rfl rfl,⟨rfl,I.below⟩⟩
 refine ph (co 64 _ (by kernel_rfl) (L64 _ g i b j k d e f a (o.inv0 I) p q (s.inv0 I) t u (x.inv0 I) y z N _ X) ?_)
 rintro v w ⟨D,K,L,rfl,hN,M,O⟩
 have I:=I.join hN; clear hN
 refine pu3 (.tuple #[.agg #[.slice g b.length i,.slice j d.length k,.map (some D),.slice e a.length f],iv 0]) (.agg #[.slice g b.length i,.slice j d.length k,.map (some D),.slice e a.length f]) (iv 0) (by kernel_rfl) (ph (bh I _ Try.zeroValue120 rfl fun a5 w I=>ph (mb I 0 _ Try.sizeOf120 rfl rfl rfl rfl rfl rfl fun w I=>pu (iv 0) (by kernel_rfl) (aa (ab (ab (rgn (by kernel_rfl) (pu (iv 0) (by kernel_rfl) (ph (de rfl rfl (fun h=>absurd (by decide) h) (fun _=>aa (ai rfl (ak (ab (ab (rgn (by kernel_rfl) (ph (ma I 2 Try.isAgg51 Try.sizeOf51 rfl rfl rfl (bt F (fun a6 S F=>ifN F (fun P F=>?_) (fun P F=>?_)))))))))))))))))))))
 ·
  refine ph (ac I 78 _ _ (by kernel_rfl) (cc.mono (L78 _ m _ S) (fun v' w' h=>⟨h.1.trans (congrArg Value.bool (Bool.eq_false_iff.2 P)),h.2⟩)) fun w I=>pu bT (by kernel_rfl) (aa (ah rfl (ab (rgn (by kernel_rfl) (pu (iv 1) (by kernel_rfl) (aa (aj ?_))))))))
  cases F
  exact ⟨_,Ret.r1 rfl rfl,⟨rfl,I.below⟩⟩


 refine ph (ac I 78 _ _ (by kernel_rfl) (cc.mono (L78 _ m _ S) (fun v' w' h=>⟨h.1.trans (congrArg Value.bool P),h.2⟩)) fun w I=>pu bF (by kernel_rfl) (aa (ai rfl (ak (ab (ab (rgn (by kernel_rfl) (ph (ma I 0 Try.isAgg120 Try.sizeOf120 rfl rfl rfl (ph (ma I 3 Try.isAgg67 Try.sizeOf67 rfl rfl rfl (bt F (fun a7 T F=>ifN F (fun Q F=>?_) (fun Q F=>?_))))))))))))))
 ·
  refine ph (ac I 90 _ _ (by kernel_rfl) (cc.mono (L90 _ g i b j k d D K L J e f a A B C l (o.inv0 I) p q (s.inv0 I) t u (I.has 1 _ _ rfl).1 M O (x.inv0 I) y z (E.inv0 I) G H N _ T) (fun v' w' h=>⟨h.1.trans (congrArg Value.bool (Bool.eq_false_iff.2 Q)),h.2⟩)) fun w I=>pu2 bT bT (by kernel_rfl) (sf 5 (by kernel_rfl) (pu bT (by kernel_rfl) (aa (ah rfl (ab (rgn (by kernel_rfl) (pu (iv 49) (by kernel_rfl) (aa (aj ?_))))))))))
  cases F
  exact ⟨_,Ret.r1 rfl rfl,⟨rfl,I.below⟩⟩
 refine ph (ac I 90 _ _ (by kernel_rfl) (cc.mono (L90 _ g i b j k d D K L J e f a A B C l (o.inv0 I) p q (s.inv0 I) t u (I.has 1 _ _ rfl).1 M O (x.inv0 I) y z (E.inv0 I) G H N _ T) (fun v' w' h=>⟨h.1.trans (congrArg Value.bool Q),h.2⟩)) fun w I=>pu2 bF bF (by kernel_rfl) (aw (by kernel_rfl) (ma I 0 Try.isAgg120 Try.sizeOf120 rfl rfl rfl (aw (by kernel_rfl) (ma I 3 Try.isAgg67 Try.sizeOf67 rfl rfl rfl (aw (by kernel_rfl) (ma I 2 Try.isAgg51 Try.sizeOf51 rfl rfl rfl (bt F (fun a8 U F=>ifE F (fun R F=>?_) (fun R F=>?_))))))))))
 ·
  refine aw (by kernel_rfl) (ac I 91 _ _ (by kernel_rfl) (cc.mono (L91 _ g i b j k d D K L J e f a A B C l m (o.inv0 I) p q (s.inv0 I) t u (I.has 1 _ _ rfl).1 M O (x.inv0 I) y z (E.inv0 I) G H N _ U) (fun v' w' h=>⟨h.1.trans (congrArg Value.bool R),h.2⟩)) fun w I=>pup bF (by kernel_rfl) (pu bF (by kernel_rfl) (aa (ai rfl (ak (ab (rgn (by kernel_rfl) (pu (iv 0) (by kernel_rfl) (aa (aj ?_))))))))))
  cases F
  exact ⟨_,Ret.r1 rfl rfl,⟨rfl,I.below⟩⟩
 refine aw (by kernel_rfl) (ac I 91 _ _ (by kernel_rfl) (cc.mono (L91 _ g i b j k d D K L J e f a A B C l m (o.inv0 I) p q (s.inv0 I) t u (I.has 1 _ _ rfl).1 M O (x.inv0 I) y z (E.inv0 I) G H N _ U) (fun v' w' h=>⟨h.1.trans (congrArg Value.bool (Bool.eq_false_iff.2 R)),h.2⟩)) fun w I=>pup bT (by kernel_rfl) (pu bT (by kernel_rfl) (aa (ah rfl (ab (rgn (by kernel_rfl) (pu (iv 49) (by kernel_rfl) (aa (aj ?_)))))))))
 cases F
 exact ⟨_,Ret.r1 rfl rfl,⟨rfl,I.below⟩⟩
theorem L49 (w0:World) (j:Option Addr) (k:Nat) (d:List Ch) (l:Option Addr) (m:Nat) (e:List Ce) (h:Option Addr) (i:Nat) (b:List Cl) (q:bi w0 j (al eCh d)) (s:d.length≤9223372036854775807) (t:d.length≤k) (u:bi w0 l (al eCe e)) (x:e.length≤9223372036854775807) (y:e.length≤m) (z:bi w0 h (al eCl b)) (A:b.length≤9223372036854775807) (B:b.length≤i) (N:Nat) (r:(List Dr × Int)) (F:F49 N d e b=some r):cc Try.prog 49 [.agg #[.slice j d.length k,.slice l e.length m],.slice h b.length i] w0 fun v w=>∃ (z0:Option Nat) (z1:Nat) (z2:List Value),v=.tuple #[slv z0 r.1.length z1,iv r.2]∧Inv [] w0 w [(z0,blk z2 49)]∧Row 2 z0 r.1.length z1 z2 (al eDr r.1):=by
 refine az (n:=17) Try.func49 rfl Try.ntmps49 rfl ?_
 have I:=Inv.start w0
 unfold F49 at F
 refine ab (rgn (by kernel_rfl) (ph (ca I _ rfl fun H w I=>pu2 (.slice none 0 0) (iv 0) (by kernel_rfl) (aa (ab (rgn (by kernel_rfl) (ph (ma I 0 Try.isAgg25 Try.sizeOf25 rfl rfl rfl (pu (.slice h b.length i) (by kernel_rfl) (bt F (fun a C F=>ph (co 84 _ (by kernel_rfl) (L84 _ j k d l m e h i b (q.inv0 I) s t (u.inv0 I) x y (z.inv0 I) A B N _ C) ?_))))))))))))
 rintro v w ⟨f,g,D,o,p,J,rfl,hN,E,K⟩
 have I:=I.join hN; clear hN
 refine pu3 (.tuple #[.agg #[slv f a.1.length g,iv a.2.1,iv a.2.2.1,slv o a.2.2.2.1.length p],iv a.2.2.2.2]) (.agg #[slv f a.1.length g,iv a.2.1,iv a.2.2.1,slv o a.2.2.2.1.length p]) (iv a.2.2.2.2) (by kernel_rfl) (ph (bh I _ Try.zeroValue144 rfl fun G w I=>ph (mb I 0 _ Try.sizeOf144 rfl rfl rfl rfl rfl rfl fun w I=>pu (iv a.2.2.2.2) (by kernel_rfl) (aa (ab (rgn (by kernel_rfl) (pu (pt G) (by kernel_rfl) (ph (ag I 0 (slv f a.1.length g) Try.isAgg63 rfl rfl rfl (pu3 (iv a.2.2.2.2) (slv f a.1.length g) (iv a.2.2.2.2) (by kernel_rfl) (aa (aj ?_))))))))))))
 cases F
 exact ⟨_,Ret.r2 rfl rfl rfl,⟨f,g,D,rfl,I.pk [1] rfl rfl,E.to rfl rfl⟩⟩


theorem L89 (w0:World) (p:Option Addr) (q:Nat) (k:List Ch) (s:Option Addr) (t:Nat) (l:List Ce) (u:Nat) (m:List En) (x:Nat) (y:Int→Option Int) (g:Option Addr) (i:Nat) (a:List Cl) (e:Int) (f:Int) (V:bi w0 p (al eCh k)) (W:k.length≤9223372036854775807) (X:k.length≤q) (Y:bi w0 s (al eCe l)) (Z:l.length≤9223372036854775807) (a0:l.length≤t) (a1:w0.heap[u]?=some (fp m x)) (a2:MOk m x) (a3:∀ j,el m j=(y j).map (Value.int .i64)) (z:bi w0 g (al eCl a)) (a4:a.length≤9223372036854775807) (a5:a.length≤i) (r:Bool) (F:F89 k l y a e f=some r):cc Try.prog 89 [.agg #[.slice p k.length q,.slice s l.length t,.map (some u),.slice g a.length i],iv e,iv f] w0 fun v w=>v=.bool r∧Below w0.heap.size w0 w:=by
 refine az (n:=29) Try.func89 rfl Try.ntmps89 rfl ?_
 have I:=Inv.start w0
 unfold F89 at F
 refine ab (rgn (by kernel_rfl) (ph (ca I _ rfl fun A w I=>pu bF (by kernel_rfl) (aa (ab (gm 15 I (by kernel_rfl) (zp (.pointer (some ⟨A,3,none⟩)) (fun _=>(by kernel_rfl)) (zc (.slice g a.length i) (fun w I=>ag I 0 (.slice g a.length i) Try.isAgg26 rfl rfl rfl br) (zp (iv f) (fun _=>(by kernel_rfl)) (gdE F (fun J F=>bt F (fun b B F=>?_))))))))))))
 obtain ⟨C,D,K,L,M⟩:=z.at_ eb (by decide) B
 refine zc (.pointer (some ⟨C,D+(f).toNat * 4,none⟩)) (fun w I=>cn (f).toNat Try.underlying26 Try.sizeOf34 rfl K rfl (Int.toNat_of_nonneg J).symm (fa B rfl) br) (zp (.pointer (some ⟨C,D+(f).toNat * 4+3,none⟩)) (fun _=>(by kernel_rfl)) (zc (iv b.to) (fun w I=>dj I (iv b.to) Try.isAgg3 rfl L (by simp) (M 3 _ rfl) br) (zp (.pointer (some ⟨A,3,none⟩)) (fun _=>(by kernel_rfl)) (zc (.slice g a.length i) (fun w I=>ag I 0 (.slice g a.length i) Try.isAgg26 rfl rfl rfl br) (zp (iv e) (fun _=>(by kernel_rfl)) (gdE F (fun N F=>bt F (fun d E F=>?_))))))))
 obtain ⟨G,H,O,P,Q⟩:=z.at_ eb (by decide) E
 refine zc (.pointer (some ⟨G,H+(e).toNat * 4,none⟩)) (fun w I=>cn (e).toNat Try.underlying26 Try.sizeOf34 rfl O rfl (Int.toNat_of_nonneg N).symm (fa E rfl) br) (zp (.pointer (some ⟨G,H+(e).toNat * 4+2,none⟩)) (fun _=>(by kernel_rfl)) (zc (iv d.fr) (fun w I=>dj I (iv d.fr) Try.isAgg3 rfl P (by simp) (Q 2 _ rfl) br) (ckE F (fun R F=>zc (iv (b.to - d.fr)) (fun w I=>dm rfl rfl R br) (ckE F (fun S F=>zc (iv ((b.to - d.fr)+1)) (fun w I=>cj rfl rfl S br) (zp (iv ((b.to - d.fr)+1)) (fun _=>(by kernel_rfl)) (zh (fun w I=>aa (ab (rgn (by kernel_rfl) (pu3 (iv ((b.to - d.fr)+1)) (iv (if ((b.to - d.fr)+1) > 0 then ((b.to - d.fr)+1) else 0)) (iv f) (by kernel_rfl) (pu (iv e) (by kernel_rfl) (ckE F (fun T F=>ph (dm rfl rfl T (ckE F (fun U F=>ph (cj rfl rfl U (ifE F (fun o F=>?_) (fun o F=>?_)))))))))))))))))))))
 ·
  refine ph (cm rfl rfl (fun _=>?_) (fun h=>absurd o h))
  refine pu bT (by kernel_rfl) (aa (aj ?_))
  cases F
  exact ⟨_,Ret.r1 rfl rfl,⟨rfl,I.below⟩⟩
 refine ph (cm rfl rfl (fun h=>absurd h o) (fun _=>pu bF (by kernel_rfl) (aa (aj ?_))))
 cases F
 exact ⟨_,Ret.r1 rfl rfl,⟨rfl,I.below⟩⟩


theorem L51 (w0:World) (j:Option Addr) (k:Nat) (b:List Ch) (l:Option Addr) (o:Nat) (d:List Ce) (f:Option Addr) (g:Nat) (a:List Cl) (u:bi w0 j (al eCh b)) (x:b.length≤9223372036854775807) (y:b.length≤k) (z:bi w0 l (al eCe d)) (A:d.length≤9223372036854775807) (B:d.length≤o) (C:bi w0 f (al eCl a)) (D:a.length≤9223372036854775807) (E:a.length≤g) (N:Nat) (r:(Int × Int × Int)) (F:F51 N b d a=some r):cc Try.prog 51 [.agg #[.slice j b.length k,.slice l d.length o],.slice f a.length g] w0 fun v w=>v=.tuple #[.agg #[iv r.1,iv r.2.1],iv r.2.2]∧Below w0.heap.size w0 w:=by
 refine az (n:=41) Try.func51 rfl Try.ntmps51 rfl ?_
 have I:=Inv.start w0
 unfold F51 at F
 refine ab (rgn (by kernel_rfl) (ph (ca I _ rfl fun V w I=>ph (bh I _ Try.zeroValue65 rfl fun s w I=>pu (iv 0) (by kernel_rfl) (aa (ab (rgn (by kernel_rfl) (ph (ma I 1 Try.isAgg25 Try.sizeOf25 rfl rfl rfl (pu (.slice f a.length g) (by kernel_rfl) (bindS3E F (fun W Q F=>?_) (fun X R F=>?_) (fun p S F=>?_))))))))))))
 ·
  refine ph (ac I 64 _ _ (by kernel_rfl) (L64 _ j k b l o d f g a (u.inv0 I) x y (z.inv0 I) A B (C.inv0 I) D E N _ Q) fun w I=>pu3 (.tuple #[.agg #[.slice none 0 0,.slice none 0 0,.map none,.slice none 0 0],iv 42]) (.agg #[.slice none 0 0,.slice none 0 0,.map none,.slice none 0 0]) (iv 42) (by kernel_rfl) (ph (bh I _ Try.zeroValue120 rfl fun Y w I=>ph (mb I 0 _ Try.sizeOf120 rfl rfl rfl rfl rfl rfl fun w I=>pu (iv 42) (by kernel_rfl) (aa (ab (ab (rgn (by kernel_rfl) (pu (iv 42) (by kernel_rfl) (ph (de rfl rfl (fun _=>?_) (fun h=>absurd h (by decide)))))))))))))
  refine aa (ah rfl (ab (rgn (by kernel_rfl) (pu2 (.agg #[iv 0,iv 0]) (iv 42) (by kernel_rfl) (ph (mb I 1 _ Try.sizeOf65 rfl rfl rfl rfl rfl rfl fun w I=>pu (iv 42) (by kernel_rfl) (aa (aj ?_))))))))
  cases F
  exact ⟨_,Ret.ct rfl rfl (ce I 1 2 [iv 0,iv 0] Try.isAgg65 Try.sizeOf65 rfl rfl rfl) rfl,⟨rfl,I.below⟩⟩
 ·
  refine ph (ac I 64 _ _ (by kernel_rfl) (L64 _ j k b l o d f g a (u.inv0 I) x y (z.inv0 I) A B (C.inv0 I) D E N _ R) fun w I=>pu3 (.tuple #[.agg #[.slice none 0 0,.slice none 0 0,.map none,.slice none 0 0],iv 44]) (.agg #[.slice none 0 0,.slice none 0 0,.map none,.slice none 0 0]) (iv 44) (by kernel_rfl) (ph (bh I _ Try.zeroValue120 rfl fun Z w I=>ph (mb I 0 _ Try.sizeOf120 rfl rfl rfl rfl rfl rfl fun w I=>pu (iv 44) (by kernel_rfl) (aa (ab (ab (rgn (by kernel_rfl) (pu (iv 44) (by kernel_rfl) (ph (de rfl rfl (fun _=>?_) (fun h=>absurd h (by decide)))))))))))))
  refine aa (ah rfl (ab (rgn (by kernel_rfl) (pu2 (.agg #[iv 0,iv 0]) (iv 44) (by kernel_rfl) (ph (mb I 1 _ Try.sizeOf65 rfl rfl rfl rfl rfl rfl fun w I=>pu (iv 44) (by kernel_rfl) (aa (aj ?_))))))))
  cases F
  exact ⟨_,Ret.ct rfl rfl (ce I 1 2 [iv 0,iv 0] Try.isAgg65 Try.sizeOf65 rfl rfl rfl) rfl,⟨rfl,I.below⟩⟩
 refine ph (co 64 _ (by kernel_rfl) (L64 _ j k b l o d f g a (u.inv0 I) x y (z.inv0 I) A B (C.inv0 I) D E N _ S) ?_)
 rintro v w ⟨q,G,H,rfl,hN,M,O⟩
 have I:=I.join hN; clear hN
 refine pu3 (.tuple #[.agg #[.slice j b.length k,.slice l d.length o,.map (some q),.slice f a.length g],iv 0]) (.agg #[.slice j b.length k,.slice l d.length o,.map (some q),.slice f a.length g]) (iv 0) (by kernel_rfl) (ph (bh I _ Try.zeroValue120 rfl fun t w I=>ph (mb I 0 _ Try.sizeOf120 rfl rfl rfl rfl rfl rfl fun w I=>pu (iv 0) (by kernel_rfl) (aa (ab (ab (rgn (by kernel_rfl) (pu (iv 0) (by kernel_rfl) (ph (de rfl rfl (fun h=>absurd (by decide) h) (fun _=>aa (ai rfl (ak (ab (ab (rgn (by kernel_rfl) (pu3 (.slice f a.length g) (iv ((a.length:Nat):Int)) (iv 0) (by kernel_rfl) (aa (au (cb (fun m ρ w=>∃ (e:Int) (mm:Nat),cd ρ [(1,.slice f a.length g),(4,pt s),(6,pt t),(21,iv (a.length:Int)),(22,iv e)]∧Inv [] w0 w [(some s,blk [iv 0,iv 0] 65),(some t,blk [.slice j b.length k,.slice l d.length o,.map (some q),.slice f a.length g] 120),(some q,fp G H)]∧F51l1 b d a N p mm e=some r∧mm=m) (m:=N) ⟨0,N,⟨rfl,rfl,rfl,rfl,rfl,trivial⟩,I.pk [2,0,1] rfl rfl,F,rfl⟩ ?_))))))))))))))))))))
 rintro m ρ w ⟨e,mm,hag,I,F,hm⟩
 subst hm; obtain ⟨ρ,rfl⟩:=hag.form; clear hag
 obtain _ | m1:=mm
 ·cases (show (none:Option (Int × Int × Int))=some r from F)
 replace F:F51b1 b d a N p (F51l1 b d a N p m1) e=some r:=F; unfold F51b1 at F
 refine ab (rgn (by kernel_rfl) (ifN F (fun J F=>?_) (fun J F=>?_)))
 ·
  refine ph (cm rfl rfl (fun h=>absurd h J) (fun _=>aa (ab (ai rfl (bw (ab (rgn (by kernel_rfl) (pu (.agg #[iv 0,iv 0]) (by kernel_rfl) (ph (mb I 0 _ Try.sizeOf65 rfl rfl rfl rfl rfl rfl fun w I=>pu (iv 48) (by kernel_rfl) (aa (aj ?_))))))))))))
  cases F
  exact ⟨_,Ret.ct rfl rfl (ce I 0 2 [iv 0,iv 0] Try.isAgg65 Try.sizeOf65 rfl rfl rfl) rfl,⟨rfl,I.below⟩⟩


 refine ph (cm rfl rfl (fun _=>?_) (fun h=>absurd J h))
 refine aa (ab (ah rfl (ak (dn (fun ρ w=>cd ρ [(1,.slice f a.length g),(4,pt s),(6,pt t),(21,iv (a.length:Int)),(22,iv e)]∧Inv [] w0 w [(some s,blk [iv 0,iv 0] 65),(some t,blk [.slice j b.length k,.slice l d.length o,.map (some q),.slice f a.length g] 120),(some q,fp G H)]∧F51j2 (F51l1 b d a N p m1) e=some r) ?_ ?_))))
 ·
  refine au (ab (rgn (by kernel_rfl) (pu2 (iv e) (iv e) (by kernel_rfl) (aa (ab (rgn (by kernel_rfl) (pu2 (iv e) (iv e) (by kernel_rfl) (aa (au (cb (fun m ρ w=>∃ (i:Int) (mm:Nat),cd ρ [(1,.slice f a.length g),(4,pt s),(6,pt t),(8,iv e),(9,iv i),(21,iv (a.length:Int)),(22,iv e)]∧Inv [] w0 w [(some s,blk [iv 0,iv 0] 65),(some t,blk [.slice j b.length k,.slice l d.length o,.map (some q),.slice f a.length g] 120),(some q,fp G H)]∧F51l3 b d a (F51l1 b d a N p m1) p e mm i=some r∧mm=m) (m:=N) ⟨e,N,⟨rfl,rfl,rfl,rfl,rfl,rfl,rfl,trivial⟩,I.pk [0,1,2] rfl rfl,F,rfl⟩ ?_))))))))))
  rintro m ρ w ⟨i,mm,hag,I,F,hm⟩
  subst hm; obtain ⟨ρ,rfl⟩:=hag.form; clear hag
  obtain _ | m3:=mm
  ·cases (show (none:Option (Int × Int × Int))=some r from F)
  replace F:F51b3 b d a (F51l1 b d a N p m1) p e (F51l3 b d a (F51l1 b d a N p m1) p e m3) i=some r:=F; unfold F51b3 at F
  refine ab (ab (rgn (by kernel_rfl) (pu3 (iv i) (.slice f a.length g) (iv ((a.length:Nat):Int)) (by kernel_rfl) (ifN F (fun K F=>?_) (fun K F=>?_)))))
  ·
   refine ph (cm rfl rfl (fun h=>absurd h K) (fun _=>aa (ai rfl (bw (.inl ⟨rfl,⟨⟨rfl,rfl,rfl,rfl,rfl,trivial⟩,I.pk [0,1,2] rfl rfl,F⟩⟩)))))
  refine ph (cm rfl rfl (fun _=>?_) (fun h=>absurd K h))
  refine aa (ah rfl (ak (ab (au (ab (rgn (by kernel_rfl) (ph (ma I 1 Try.isAgg120 Try.sizeOf120 rfl rfl rfl (pu2 (iv e) (iv i) (by kernel_rfl) (bt F (fun a0 P F=>ifN F (fun L F=>?_) (fun L F=>?_))))))))))))
  ·
   refine ph (ac I 89 _ _ (by kernel_rfl) (cc.mono (L89 _ j k b l o d q G H p f g a e i (u.inv0 I) x y (z.inv0 I) A B (I.has 2 _ _ rfl).1 M O (C.inv0 I) D E _ P) (fun v' w' h=>⟨h.1.trans (congrArg Value.bool (Bool.eq_false_iff.2 L)),h.2⟩)) fun w I=>aa (ai rfl (ak (rgn (by kernel_rfl) (pu (iv i) (by kernel_rfl) (ckE F (fun T F=>ph (cj rfl rfl T (pu (iv (i+1)) (by kernel_rfl) (aa (⟨rfl,m3,Nat.lt_succ_self _,⟨i+1,m3,⟨rfl,rfl,rfl,rfl,rfl,rfl,rfl,trivial⟩,I.pk [0,1,2] rfl rfl,F,rfl⟩⟩)))))))))))
  refine ph (ac I 89 _ _ (by kernel_rfl) (cc.mono (L89 _ j k b l o d q G H p f g a e i (u.inv0 I) x y (z.inv0 I) A B (I.has 2 _ _ rfl).1 M O (C.inv0 I) D E _ P) (fun v' w' h=>⟨h.1.trans (congrArg Value.bool L),h.2⟩)) fun w I=>aa (ah rfl (ab (rgn (by kernel_rfl) (pu3 (iv e) (iv i) (.agg #[iv e,iv i]) (by kernel_rfl) (ph (mb I 0 _ Try.sizeOf65 rfl rfl rfl rfl rfl rfl fun w I=>pu (iv 0) (by kernel_rfl) (aa (aj ?_)))))))))
  cases F
  exact ⟨_,Ret.ct rfl rfl (ce I 0 2 [iv e,iv i] Try.isAgg65 Try.sizeOf65 rfl rfl rfl) rfl,⟨rfl,I.below⟩⟩
 intro ρ w hJ
 obtain ⟨hag,I,F⟩:=hJ
 obtain ⟨ρ,rfl⟩:=hag.form; clear hag
 unfold F51j2 at F
 refine rgn (by kernel_rfl) (ckE F (fun U F=>ph (cj rfl rfl U (pu (iv (e+1)) (by kernel_rfl) (aa (⟨rfl,m1,Nat.lt_succ_self _,⟨e+1,m1,⟨rfl,rfl,rfl,rfl,rfl,trivial⟩,I.pk [0,1,2] rfl rfl,F,rfl⟩⟩))))))
theorem L57 (w0:World) (r:(List Ch × List Ce)) (F:F57=some r):cc Try.prog 57 [] w0 fun v w=>∃ (z0:Option Nat) (z1:Nat) (z2:List Value) (z3:Option Nat) (z4:Nat) (z5:List Value),v=.agg #[slv z0 r.1.length z1,slv z3 r.2.length z4]∧Inv [] w0 w [(z0,blk z2 30),(z3,blk z5 32)]∧Row 3 z0 r.1.length z1 z2 (al eCh r.1)∧Row 3 z3 r.2.length z4 z5 (al eCe r.2):=by
 refine az (n:=13) Try.func57 rfl Try.ntmps57 rfl ?_
 have I:=Inv.start w0
 unfold F57 at F
 refine ab (rgn (by kernel_rfl) (ph (bh I _ Try.zeroValue25 rfl fun b6 w I=>aa (ab (rgn (by kernel_rfl) (pu3 (.agg #[iv 98,iv 102]) (.agg #[iv 1,iv 98,iv 102]) (.agg #[iv 99,iv 100]) (by kernel_rfl) (pu (.agg #[iv 2,iv 99,iv 100]) (by kernel_rfl) (ph (fu I [iv 1,iv 98,iv 102,iv 2,iv 99,iv 100] 30 (fun b=>slv (some b) 2 2) (by kernel_rfl) fun b7 w I=>pu3 (.agg #[iv 1,iv 10,iv 6]) (.agg #[iv 1,iv 5,iv 2]) (.agg #[iv 2,iv 10,iv 4]) (by kernel_rfl) (pu2 (.agg #[iv 2,iv 5,iv 9]) (.agg #[iv 1,iv 10,iv 3]) (by kernel_rfl) (ph (fu I [iv 1,iv 10,iv 6,iv 1,iv 5,iv 2,iv 2,iv 10,iv 4,iv 2,iv 5,iv 9,iv 1,iv 10,iv 3] 32 (fun b=>slv (some b) 5 5) (by kernel_rfl) fun b8 w I=>pu (.agg #[.slice (some ⟨b7,0,none⟩) 2 2,.slice (some ⟨b8,0,none⟩) 5 5]) (by kernel_rfl) (ph (mb I 2 _ Try.sizeOf25 rfl rfl rfl rfl rfl rfl fun w I=>aa (aj ?_)))))))))))))))
 have r9:Row 3 (some b7) 2 2 [iv 1,iv 98,iv 102,iv 2,iv 99,iv 100] (al eCh [(⟨1,98,102⟩:Ch),(⟨2,99,100⟩:Ch)]):=Row.lit eCh_len (l:=[(⟨1,98,102⟩:Ch),(⟨2,99,100⟩:Ch)]) rfl (qa rfl)
 have a:Row 3 (some b8) 5 5 [iv 1,iv 10,iv 6,iv 1,iv 5,iv 2,iv 2,iv 10,iv 4,iv 2,iv 5,iv 9,iv 1,iv 10,iv 3] (al eCe [(⟨1,10,6⟩:Ce),(⟨1,5,2⟩:Ce),(⟨2,10,4⟩:Ce),(⟨2,5,9⟩:Ce),(⟨1,10,3⟩:Ce)]):=Row.lit eCe_len (l:=[(⟨1,10,6⟩:Ce),(⟨1,5,2⟩:Ce),(⟨2,10,4⟩:Ce),(⟨2,5,9⟩:Ce),(⟨1,10,3⟩:Ce)]) rfl (qa rfl)
 cases F
 exact ⟨_,Ret.c rfl rfl (ce I 2 2 [slv (some b7) 2 2,slv (some b8) 5 5] Try.isAgg25 Try.sizeOf25 rfl rfl rfl),⟨some b7,2,[iv 1,iv 98,iv 102,iv 2,iv 99,iv 100],some b8,5,[iv 1,iv 10,iv 6,iv 1,iv 5,iv 2,iv 2,iv 10,iv 4,iv 2,iv 5,iv 9,iv 1,iv 10,iv 3],(by first | (simp only [List.length_set,sortI_len] <;> rfl) | rfl),I.pk [1,0] rfl rfl,r9.to rfl rfl,a.to rfl rfl⟩⟩


theorem L58 (w0:World) (r:List Cl) (F:F58=some r):cc Try.prog 58 [] w0 fun v w=>∃ (z0:Option Nat) (z1:Nat) (z2:List Value),v=slv z0 r.length z1∧Inv [] w0 w [(z0,blk z2 34)]∧Row 4 z0 r.length z1 z2 (al eCl r):=by
 refine az (n:=5) Try.func58 rfl Try.ntmps58 rfl ?_
 have I:=Inv.start w0
 unfold F58 at F
 refine ab (rgn (by kernel_rfl) (pu (.slice none 0 0) (by kernel_rfl) (aa (ab (rgn (by kernel_rfl) (pu3 (.agg #[iv 7,iv 2,iv 0,iv 3]) (.agg #[iv 4,iv 1,iv 1,iv 4]) (.agg #[iv 9,iv 3,iv 2,iv 4]) (by kernel_rfl) (ph (fu I [iv 7,iv 2,iv 0,iv 3,iv 4,iv 1,iv 1,iv 4,iv 9,iv 3,iv 2,iv 4] 34 (fun b=>slv (some b) 3 3) (by kernel_rfl) fun b3 w I=>pu (.slice (some ⟨b3,0,none⟩) 3 3) (by kernel_rfl) (aa (aj ?_))))))))))
 have r4:Row 4 (some b3) 3 3 [iv 7,iv 2,iv 0,iv 3,iv 4,iv 1,iv 1,iv 4,iv 9,iv 3,iv 2,iv 4] (al eCl [(⟨7,2,0,3⟩:Cl),(⟨4,1,1,4⟩:Cl),(⟨9,3,2,4⟩:Cl)]):=Row.lit eb (l:=[(⟨7,2,0,3⟩:Cl),(⟨4,1,1,4⟩:Cl),(⟨9,3,2,4⟩:Cl)]) rfl (qa rfl)
 cases F
 exact ⟨_,Ret.r1 rfl rfl,⟨some b3,3,[iv 7,iv 2,iv 0,iv 3,iv 4,iv 1,iv 1,iv 4,iv 9,iv 3,iv 2,iv 4],(by first | (simp only [List.length_set,sortI_len] <;> rfl) | rfl),I.pk [0] rfl rfl,r4.to rfl rfl⟩⟩


theorem L11 (w0:World) (N:Nat) (r:Bool) (F:F11 N=some r):cc Try.prog 11 [] w0 fun v w=>v=.bool r∧Below w0.heap.size w0 w:=by
 refine az (n:=202) Try.func11 rfl Try.ntmps11 rfl ?_
 have I:=Inv.start w0
 unfold F11 at F
 refine ab (rgn (by kernel_rfl) (pu bF (by kernel_rfl) (aa (ab (rgn (by kernel_rfl) (bt F (fun e aZ F=>ph (co 57 _ (by kernel_rfl) (L57 _ _ aZ) ?_))))))))
 rintro v w ⟨q,y,aP,s,z,aQ,rfl,hN,a,d⟩
 have I:=I.join hN; clear hN
 refine ph (bh I _ Try.zeroValue25 rfl fun W w I=>ph (mb I 0 _ Try.sizeOf25 rfl rfl rfl rfl rfl rfl fun w I=>aa (ab (rgn (by kernel_rfl) (bt F (fun k b0 F=>ph (co 58 _ (by kernel_rfl) (L58 _ _ b0) ?_)))))))
 rintro v w ⟨m,t,aR,rfl,hN,i⟩
 have I:=I.join hN; clear hN
 refine pu (slv m k.length t) (by kernel_rfl) (aa (ab (rgn (by kernel_rfl) (ph (ma I 1 Try.isAgg25 Try.sizeOf25 rfl rfl rfl (pu (.agg #[iv 0,iv 2]) (by kernel_rfl) (bt F (fun o b1 F=>ph (ac I 25 _ _ (by kernel_rfl) (L25 _ (q.map fun b=>⟨b,0,none⟩) y e.1 (s.map fun b=>⟨b,0,none⟩) z e.2 (⟨0,2⟩:Dr) (I.rowCells 2 rfl a) (am rfl a.big) (am rfl a.cap) (I.rowCells 3 rfl d) (am rfl d.big) (am rfl d.cap) N _ b1) fun w I=>pu3 (.tuple #[.agg #[iv o.1,iv o.2.1],iv o.2.2]) (.agg #[iv o.1,iv o.2.1]) (iv o.2.2) (by kernel_rfl) (ph (bh I _ Try.zeroValue28 rfl fun bS w I=>ph (mb I 0 _ Try.sizeOf28 rfl rfl rfl rfl rfl rfl fun w I=>pu (iv o.2.2) (by kernel_rfl) (aa (ab (rgn (by kernel_rfl) (ph (ma I 2 Try.isAgg25 Try.sizeOf25 rfl rfl rfl (pu2 (.agg #[iv 0,iv 0]) (.agg #[iv 2,iv 2]) (by kernel_rfl) (bt F (fun G b2 F=>ph (ac I 27 _ _ (by kernel_rfl) (L27 _ (q.map fun b=>⟨b,0,none⟩) y e.1 (s.map fun b=>⟨b,0,none⟩) z e.2 (⟨0,0⟩:Dr) (⟨2,2⟩:Dr) (I.rowCells 3 rfl a) (am rfl a.big) (am rfl a.cap) (I.rowCells 4 rfl d) (am rfl d.big) (am rfl d.cap) N _ b2) fun w I=>pu3 (.tuple #[iv G.1,iv G.2]) (iv G.1) (iv G.2) (by kernel_rfl) (pu2 (iv G.1) (iv G.2) (by kernel_rfl) (aa (ab (rgn (by kernel_rfl) (ph (ma I 2 Try.isAgg25 Try.sizeOf25 rfl rfl rfl (pu2 (.agg #[iv 0,iv 1]) (.agg #[iv 2,iv 2]) (by kernel_rfl) (bt F (fun H b3 F=>ph (ac I 27 _ _ (by kernel_rfl) (L27 _ (q.map fun b=>⟨b,0,none⟩) y e.1 (s.map fun b=>⟨b,0,none⟩) z e.2 (⟨0,1⟩:Dr) (⟨2,2⟩:Dr) (I.rowCells 3 rfl a) (am rfl a.big) (am rfl a.cap) (I.rowCells 4 rfl d) (am rfl d.big) (am rfl d.cap) N _ b3) fun w I=>pu3 (.tuple #[iv H.1,iv H.2]) (iv H.1) (iv H.2) (by kernel_rfl) (pu2 (iv H.1) (iv H.2) (by kernel_rfl) (aa (ab (rgn (by kernel_rfl) (ph (ma I 2 Try.isAgg25 Try.sizeOf25 rfl rfl rfl (pu (slv m k.length t) (by kernel_rfl) (bt F (fun f b4 F=>ph (ac I 37 _ _ (by kernel_rfl) (L37 _ (q.map fun b=>⟨b,0,none⟩) y e.1 (s.map fun b=>⟨b,0,none⟩) z e.2 (m.map fun b=>⟨b,0,none⟩) t k (I.rowCells 3 rfl a) (am rfl a.big) (am rfl a.cap) (I.rowCells 4 rfl d) (am rfl d.big) (am rfl d.cap) (I.rowCells 1 rfl i) (am rfl i.big) (am rfl i.cap) N _ b4) fun w I=>pu3 (.tuple #[.agg #[iv f.1,iv f.2.1],iv f.2.2]) (.agg #[iv f.1,iv f.2.1]) (iv f.2.2) (by kernel_rfl) (ph (bh I _ Try.zeroValue51 rfl fun X w I=>ph (mb I 0 _ Try.sizeOf51 rfl rfl rfl rfl rfl rfl fun w I=>pu (iv f.2.2) (by kernel_rfl) (aa (ab (rgn (by kernel_rfl) (ph (ma I 3 Try.isAgg25 Try.sizeOf25 rfl rfl rfl (pu (slv m k.length t) (by kernel_rfl) (bt F (fun B b5 F=>ph (co 12 _ (by kernel_rfl) (L12 _ (q.map fun b=>⟨b,0,none⟩) y e.1 (s.map fun b=>⟨b,0,none⟩) z e.2 (m.map fun b=>⟨b,0,none⟩) t k 4 (I.rowCells 4 rfl a) (am rfl a.big) (am rfl a.cap) (I.rowCells 5 rfl d) (am rfl d.big) (am rfl d.cap) (I.rowCells 2 rfl i) (am rfl i.big) (am rfl i.cap) N _ b5) ?_)))))))))))))))))))))))))))))))))))))))))))))))))))))
 rintro v w ⟨L,M,bU,rfl,hN,Y⟩
 have I:=I.join hN; clear hN
 refine pu3 (.tuple #[slv L B.1.length M,iv B.2]) (slv L B.1.length M) (iv B.2) (by kernel_rfl) (pu2 (slv L B.1.length M) (iv B.2) (by kernel_rfl) (aa (ab (rgn (by kernel_rfl) (ph (ma I 4 Try.isAgg25 Try.sizeOf25 rfl rfl rfl (pu (slv L B.1.length M) (by kernel_rfl) (bt F (fun p b6 F=>ph (ac I 37 _ _ (by kernel_rfl) (L37 _ (q.map fun b=>⟨b,0,none⟩) y e.1 (s.map fun b=>⟨b,0,none⟩) z e.2 (L.map fun b=>⟨b,0,none⟩) M B.1 (I.rowCells 5 rfl a) (am rfl a.big) (am rfl a.cap) (I.rowCells 6 rfl d) (am rfl d.big) (am rfl d.cap) (I.rowCells 0 rfl Y) (am rfl Y.big) (am rfl Y.cap) N _ b6) fun w I=>pu3 (.tuple #[.agg #[iv p.1,iv p.2.1],iv p.2.2]) (.agg #[iv p.1,iv p.2.1]) (iv p.2.2) (by kernel_rfl) (ph (bh I _ Try.zeroValue51 rfl fun bV w I=>ph (mb I 0 _ Try.sizeOf51 rfl rfl rfl rfl rfl rfl fun w I=>pu (iv p.2.2) (by kernel_rfl) (aa (ab (rgn (by kernel_rfl) (ph (ma I 5 Try.isAgg25 Try.sizeOf25 rfl rfl rfl (pu (slv m k.length t) (by kernel_rfl) (bt F (fun C b7 F=>ph (co 39 _ (by kernel_rfl) (L39 _ (q.map fun b=>⟨b,0,none⟩) y e.1 (s.map fun b=>⟨b,0,none⟩) z e.2 (m.map fun b=>⟨b,0,none⟩) t k (I.rowCells 6 rfl a) (am rfl a.big) (am rfl a.cap) (I.rowCells 7 rfl d) (am rfl d.big) (am rfl d.cap) (I.rowCells 4 rfl i) (am rfl i.big) (am rfl i.cap) N _ b7) ?_))))))))))))))))))))))
 rintro v w ⟨J,O,b8,rfl,hN,R⟩
 have I:=I.join hN; clear hN
 refine pu3 (.tuple #[slv J C.1.length O,iv C.2]) (slv J C.1.length O) (iv C.2) (by kernel_rfl) (pu2 (slv J C.1.length O) (iv C.2) (by kernel_rfl) (aa (ab (rgn (by kernel_rfl) (ph (ma I 6 Try.isAgg25 Try.sizeOf25 rfl rfl rfl (pu (slv m k.length t) (by kernel_rfl) (bt F (fun A b9 F=>ph (co 49 _ (by kernel_rfl) (L49 _ (q.map fun b=>⟨b,0,none⟩) y e.1 (s.map fun b=>⟨b,0,none⟩) z e.2 (m.map fun b=>⟨b,0,none⟩) t k (I.rowCells 7 rfl a) (am rfl a.big) (am rfl a.cap) (I.rowCells 8 rfl d) (am rfl d.big) (am rfl d.cap) (I.rowCells 5 rfl i) (am rfl i.big) (am rfl i.cap) N _ b9) ?_))))))))))
 rintro v w ⟨P,Q,bA,rfl,hN,aS⟩
 have I:=I.join hN; clear hN
 refine pu3 (.tuple #[slv P A.1.length Q,iv A.2]) (slv P A.1.length Q) (iv A.2) (by kernel_rfl) (pu2 (slv P A.1.length Q) (iv A.2) (by kernel_rfl) (aa (ab (rgn (by kernel_rfl) (pu2 (.agg #[iv 7,iv 1,iv 2,iv 2]) (.agg #[iv 4,iv 1,iv 2,iv 2]) (by kernel_rfl) (ph (fu I [iv 7,iv 1,iv 2,iv 2,iv 4,iv 1,iv 2,iv 2] 34 (fun b=>slv (some b) 2 2) (by kernel_rfl) fun a1 w I=>pu (.slice (some ⟨a1,0,none⟩) 2 2) (by kernel_rfl) (aa (ab (rgn (by kernel_rfl) (ph (ma I 8 Try.isAgg25 Try.sizeOf25 rfl rfl rfl (pu (.slice (some ⟨a1,0,none⟩) 2 2) (by kernel_rfl) (bt F (fun g bB F=>ph (ac I 51 _ _ (by kernel_rfl) (L51 _ (q.map fun b=>⟨b,0,none⟩) y e.1 (s.map fun b=>⟨b,0,none⟩) z e.2 (some ⟨a1,0,none⟩) 2 [(⟨7,1,2,2⟩:Cl),(⟨4,1,2,2⟩:Cl)] (I.rowCells 9 rfl a) (am rfl a.big) (am rfl a.cap) (I.rowCells 10 rfl d) (am rfl d.big) (am rfl d.cap) (I.cells 0 (off:=0) rfl (fun j u h=>by rw [Nat.zero_add]; exact h)) (qa rfl) (Nat.le_refl _) N _ bB) fun w I=>pu3 (.tuple #[.agg #[iv g.1,iv g.2.1],iv g.2.2]) (.agg #[iv g.1,iv g.2.1]) (iv g.2.2) (by kernel_rfl) (ph (bh I _ Try.zeroValue65 rfl fun aT w I=>ph (mb I 0 _ Try.sizeOf65 rfl rfl rfl rfl rfl rfl fun w I=>pu (iv g.2.2) (by kernel_rfl) (aa (ab (ab (rgn (by kernel_rfl) (pu (iv o.2.2) (by kernel_rfl) (ifN F (fun a2 F=>?_) (fun a2 F=>?_))))))))))))))))))))))))))
 ·
  refine ph (de rfl rfl (fun _=>?_) (fun h=>absurd h a2))
  refine pu bT (by kernel_rfl) (sf 2 (by kernel_rfl) (pu2 bT bT (by kernel_rfl) (sf 2 (by kernel_rfl) (pu2 bT bT (by kernel_rfl) (sf 2 (by kernel_rfl) (pu2 bT bT (by kernel_rfl) (sf 2 (by kernel_rfl) (pu2 bT bT (by kernel_rfl) (sf 2 (by kernel_rfl) (pu2 bT bT (by kernel_rfl) (sf 2 (by kernel_rfl) (pu2 bT bT (by kernel_rfl) (of_ (by kernel_rfl) (of_ (by kernel_rfl) (pu2 bT bT (by kernel_rfl) (sf 2 (by kernel_rfl) (pu2 bT bT (by kernel_rfl) (sf 3 (by kernel_rfl) (pu2 bT bT (by kernel_rfl) (of_ (by kernel_rfl) (sf 2 (by kernel_rfl) (pu bT (by kernel_rfl) (aa (ah rfl (ab (rgn (by kernel_rfl) (pu bF (by kernel_rfl) (aa (aj ?_)))))))))))))))))))))))))))))
  cases F
  exact ⟨_,Ret.r1 rfl rfl,⟨rfl,I.below⟩⟩


 refine ph (de rfl rfl (fun h=>absurd a2 h) (fun _=>pu bF (by kernel_rfl) (pup (iv G.2) (by kernel_rfl) (ifN F (fun a3 F=>?_) (fun a3 F=>?_)))))
 ·
  refine aw (by kernel_rfl) (de rfl rfl (fun _=>?_) (fun h=>absurd h a3))
  refine pu2 bT bT (by kernel_rfl) (sf 2 (by kernel_rfl) (pu2 bT bT (by kernel_rfl) (sf 2 (by kernel_rfl) (pu2 bT bT (by kernel_rfl) (sf 2 (by kernel_rfl) (pu2 bT bT (by kernel_rfl) (sf 2 (by kernel_rfl) (pu2 bT bT (by kernel_rfl) (sf 2 (by kernel_rfl) (pu2 bT bT (by kernel_rfl) (sf 2 (by kernel_rfl) (pu2 bT bT (by kernel_rfl) (sf 2 (by kernel_rfl) (pu2 bT bT (by kernel_rfl) (sf 3 (by kernel_rfl) (pu2 bT bT (by kernel_rfl) (sf 3 (by kernel_rfl) (pu bT (by kernel_rfl) (aa (ah rfl (ab (rgn (by kernel_rfl) (pu bF (by kernel_rfl) (aa (aj ?_)))))))))))))))))))))))))
  cases F
  exact ⟨_,Ret.r1 rfl rfl,⟨rfl,I.below⟩⟩
 refine aw (by kernel_rfl) (de rfl rfl (fun h=>absurd a3 h) (fun _=>pu2 bF bF (by kernel_rfl) (pup (iv H.2) (by kernel_rfl) (ifN F (fun a4 F=>?_) (fun a4 F=>?_)))))
 ·
  refine aw (by kernel_rfl) (de rfl rfl (fun _=>?_) (fun h=>absurd h a4))
  refine pu2 bT bT (by kernel_rfl) (sf 2 (by kernel_rfl) (pu2 bT bT (by kernel_rfl) (sf 2 (by kernel_rfl) (pu2 bT bT (by kernel_rfl) (sf 2 (by kernel_rfl) (pu2 bT bT (by kernel_rfl) (sf 2 (by kernel_rfl) (pu2 bT bT (by kernel_rfl) (sf 2 (by kernel_rfl) (pu2 bT bT (by kernel_rfl) (sf 2 (by kernel_rfl) (pu2 bT bT (by kernel_rfl) (sf 3 (by kernel_rfl) (pu2 bT bT (by kernel_rfl) (sf 3 (by kernel_rfl) (pu bT (by kernel_rfl) (aa (ah rfl (ab (rgn (by kernel_rfl) (pu bF (by kernel_rfl) (aa (aj ?_)))))))))))))))))))))))
  cases F
  exact ⟨_,Ret.r1 rfl rfl,⟨rfl,I.below⟩⟩
 refine aw (by kernel_rfl) (de rfl rfl (fun h=>absurd a4 h) (fun _=>pu2 bF bF (by kernel_rfl) (pup (iv f.2.2) (by kernel_rfl) (ifN F (fun a5 F=>?_) (fun a5 F=>?_)))))
 ·
  refine aw (by kernel_rfl) (de rfl rfl (fun _=>?_) (fun h=>absurd h a5))
  refine pu2 bT bT (by kernel_rfl) (sf 2 (by kernel_rfl) (pu2 bT bT (by kernel_rfl) (sf 2 (by kernel_rfl) (pu2 bT bT (by kernel_rfl) (sf 2 (by kernel_rfl) (pu2 bT bT (by kernel_rfl) (sf 2 (by kernel_rfl) (pu2 bT bT (by kernel_rfl) (sf 2 (by kernel_rfl) (pu2 bT bT (by kernel_rfl) (sf 3 (by kernel_rfl) (pu2 bT bT (by kernel_rfl) (sf 3 (by kernel_rfl) (pu bT (by kernel_rfl) (aa (ah rfl (ab (rgn (by kernel_rfl) (pu bF (by kernel_rfl) (aa (aj ?_)))))))))))))))))))))
  cases F
  exact ⟨_,Ret.r1 rfl rfl,⟨rfl,I.below⟩⟩
 refine aw (by kernel_rfl) (de rfl rfl (fun h=>absurd a5 h) (fun _=>pu2 bF bF (by kernel_rfl) (pup (iv B.2) (by kernel_rfl) (ifN F (fun a6 F=>?_) (fun a6 F=>?_)))))
 ·
  refine aw (by kernel_rfl) (de rfl rfl (fun _=>?_) (fun h=>absurd h a6))
  refine pu2 bT bT (by kernel_rfl) (sf 2 (by kernel_rfl) (pu2 bT bT (by kernel_rfl) (sf 2 (by kernel_rfl) (pu2 bT bT (by kernel_rfl) (sf 2 (by kernel_rfl) (pu2 bT bT (by kernel_rfl) (sf 2 (by kernel_rfl) (pu2 bT bT (by kernel_rfl) (sf 3 (by kernel_rfl) (pu2 bT bT (by kernel_rfl) (sf 3 (by kernel_rfl) (pu bT (by kernel_rfl) (aa (ah rfl (ab (rgn (by kernel_rfl) (pu bF (by kernel_rfl) (aa (aj ?_)))))))))))))))))))
  cases F
  exact ⟨_,Ret.r1 rfl rfl,⟨rfl,I.below⟩⟩
 refine aw (by kernel_rfl) (de rfl rfl (fun h=>absurd a6 h) (fun _=>pu2 bF bF (by kernel_rfl) (pup (iv p.2.2) (by kernel_rfl) (ifN F (fun a7 F=>?_) (fun a7 F=>?_)))))
 ·
  refine aw (by kernel_rfl) (de rfl rfl (fun _=>?_) (fun h=>absurd h a7))
  refine pu2 bT bT (by kernel_rfl) (sf 2 (by kernel_rfl) (pu2 bT bT (by kernel_rfl) (sf 2 (by kernel_rfl) (pu2 bT bT (by kernel_rfl) (sf 2 (by kernel_rfl) (pu2 bT bT (by kernel_rfl) (sf 3 (by kernel_rfl) (pu2 bT bT (by kernel_rfl) (sf 3 (by kernel_rfl) (pu bT (by kernel_rfl) (aa (ah rfl (ab (rgn (by kernel_rfl) (pu bF (by kernel_rfl) (aa (aj ?_)))))))))))))))))
  cases F
  exact ⟨_,Ret.r1 rfl rfl,⟨rfl,I.below⟩⟩
 refine aw (by kernel_rfl) (de rfl rfl (fun h=>absurd a7 h) (fun _=>pu2 bF bF (by kernel_rfl) (pup (iv C.2) (by kernel_rfl) (ifN F (fun a8 F=>?_) (fun a8 F=>?_)))))
 ·
  refine aw (by kernel_rfl) (de rfl rfl (fun _=>?_) (fun h=>absurd h a8))
  refine pu2 bT bT (by kernel_rfl) (sf 2 (by kernel_rfl) (pu2 bT bT (by kernel_rfl) (sf 2 (by kernel_rfl) (pu2 bT bT (by kernel_rfl) (sf 3 (by kernel_rfl) (pu2 bT bT (by kernel_rfl) (sf 3 (by kernel_rfl) (pu bT (by kernel_rfl) (aa (ah rfl (ab (rgn (by kernel_rfl) (pu bF (by kernel_rfl) (aa (aj ?_)))))))))))))))
  cases F
  exact ⟨_,Ret.r1 rfl rfl,⟨rfl,I.below⟩⟩
 refine aw (by kernel_rfl) (de rfl rfl (fun h=>absurd a8 h) (fun _=>pu2 bF bF (by kernel_rfl) (pup (iv A.2) (by kernel_rfl) (ifN F (fun a9 F=>?_) (fun a9 F=>?_)))))
 ·
  refine aw (by kernel_rfl) (de rfl rfl (fun _=>?_) (fun h=>absurd h a9))
  refine pu2 bT bT (by kernel_rfl) (sf 2 (by kernel_rfl) (pu2 bT bT (by kernel_rfl) (sf 3 (by kernel_rfl) (pu2 bT bT (by kernel_rfl) (sf 3 (by kernel_rfl) (pu bT (by kernel_rfl) (aa (ah rfl (ab (rgn (by kernel_rfl) (pu bF (by kernel_rfl) (aa (aj ?_)))))))))))))
  cases F
  exact ⟨_,Ret.r1 rfl rfl,⟨rfl,I.below⟩⟩
 refine aw (by kernel_rfl) (de rfl rfl (fun h=>absurd a9 h) (fun _=>pu2 bF bF (by kernel_rfl) (pup (iv g.2.2) (by kernel_rfl) (ifN F (fun aA F=>?_) (fun aA F=>?_)))))
 ·
  refine aw (by kernel_rfl) (de rfl rfl (fun _=>?_) (fun h=>absurd h aA))
  refine pu2 bT bT (by kernel_rfl) (sf 3 (by kernel_rfl) (pu2 bT bT (by kernel_rfl) (sf 3 (by kernel_rfl) (pu bT (by kernel_rfl) (aa (ah rfl (ab (rgn (by kernel_rfl) (pu bF (by kernel_rfl) (aa (aj ?_)))))))))))
  cases F
  exact ⟨_,Ret.r1 rfl rfl,⟨rfl,I.below⟩⟩
 refine aw (by kernel_rfl) (de rfl rfl (fun h=>absurd aA h) (fun _=>pu2 bF bF (by kernel_rfl) (pup (slv P A.1.length Q) (by kernel_rfl) (pup (iv ((A.1.length:Nat):Int)) (by kernel_rfl) (ifN F (fun aB F=>?_) (fun aB F=>?_))))))
 ·
  refine aw (by kernel_rfl) (de rfl rfl (fun _=>?_) (fun h=>absurd h aB))
  refine pu2 bT bT (by kernel_rfl) (sf 3 (by kernel_rfl) (pu bT (by kernel_rfl) (aa (ah rfl (ab (rgn (by kernel_rfl) (pu bF (by kernel_rfl) (aa (aj ?_)))))))))
  cases F
  exact ⟨_,Ret.r1 rfl rfl,⟨rfl,I.below⟩⟩
 refine aw (by kernel_rfl) (de rfl rfl (fun h=>absurd aB h) (fun _=>pu2 bF bF (by kernel_rfl) (pup (slv L B.1.length M) (by kernel_rfl) (pup (iv ((B.1.length:Nat):Int)) (by kernel_rfl) (ifN F (fun aC F=>?_) (fun aC F=>?_))))))
 ·
  refine aw (by kernel_rfl) (de rfl rfl (fun _=>?_) (fun h=>absurd h aC))
  refine pu bT (by kernel_rfl) (aa (ah rfl (ab (rgn (by kernel_rfl) (pu bF (by kernel_rfl) (aa (aj ?_)))))))
  cases F
  exact ⟨_,Ret.r1 rfl rfl,⟨rfl,I.below⟩⟩
 refine aw (by kernel_rfl) (de rfl rfl (fun h=>absurd aC h) (fun _=>pu bF (by kernel_rfl) (aa (ai rfl (ak (ab (rgn (by kernel_rfl) (ph (fu I [iv 0,iv 2,iv 3,iv 6] 3 (fun b=>slv (some b) 4 4) (by kernel_rfl) fun x w I=>pu (.agg #[iv 0,.slice (some ⟨x,0,none⟩) 4 4]) (by kernel_rfl) (ph (bh I _ Try.zeroValue67 rfl fun Z w I=>ph (mb I 0 _ Try.sizeOf67 rfl rfl rfl rfl rfl rfl fun w I=>aa (dn (fun ρ w=>∃ (K:Option Nat) (S:Nat) (a0:List Value) (T:Bool),cd ρ [(1,pt W),(2,slv m k.length t),(9,pt X),(15,slv J C.1.length O),(17,slv P A.1.length Q),(20,pt aT),(22,pt Z),(23,.bool T)]∧Inv [] w0 w [(some W,blk [slv q e.1.length y,slv s e.2.length z] 25),(q,blk aP 30),(s,blk aQ 32),(m,blk aR 34),(some X,blk [iv f.1,iv f.2.1] 51),(J,blk b8 3),(P,blk bA 49),(some aT,blk [iv g.1,iv g.2.1] 65),(some Z,blk [iv 0,slv K ([0,2,3,6].length) S] 67),(K,blk a0 3)]∧(Row 1 K ([0,2,3,6].length) S a0 (al dv [0,2,3,6]))∧F11j1 N e k f C A g T=some r) ?_ ?_)))))))))))))
 ·
  refine rgn (by kernel_rfl) (ph (ma I 9 Try.isAgg28 Try.sizeOf28 rfl rfl rfl (pu (.agg #[iv 2460,iv 2530]) (by kernel_rfl) (ifN F (fun aD F=>?_) (fun aD F=>?_)))))
  ·
   refine ph (kz (b:=decide (o.1=2460) && decide (o.2.1=2530)) rfl rfl (by kernel_rfl) (fun w=>eq28 _ o.1 o.2.1 2460 2530 w) (fun h=>absurd h aD) (fun _=>pu bF (by kernel_rfl) (sf 2 (by kernel_rfl) (pu2 bF bF (by kernel_rfl) (sf 2 (by kernel_rfl) (pu2 bF bF (by kernel_rfl) (sf 3 (by kernel_rfl) (pu2 bF bF (by kernel_rfl) (sf 5 (by kernel_rfl) (pu2 bF bF (by kernel_rfl) (sf 3 (by kernel_rfl) (pu2 bF bF (by kernel_rfl) (aa ?_)))))))))))))
   have bC:Row 1 (some x) 4 4 [iv 0,iv 2,iv 3,iv 6] (al dv [0,2,3,6]):=Row.lit cy (l:=[0,2,3,6]) rfl (qa rfl)
   exact .inl ⟨rfl,⟨some x,4,[iv 0,iv 2,iv 3,iv 6],false,⟨rfl,rfl,rfl,rfl,rfl,rfl,rfl,rfl,trivial⟩,I.pk [11,12,13,10,8,5,4,2,0,1] rfl rfl,(bC.to rfl rfl),F⟩⟩
  refine ph (kz (b:=decide (o.1=2460) && decide (o.2.1=2530)) rfl rfl (by kernel_rfl) (fun w=>eq28 _ o.1 o.2.1 2460 2530 w) (fun _=>?_) (fun h=>absurd aD h))
  refine pu bT (by kernel_rfl) (pup (iv G.1) (by kernel_rfl) (ifN F (fun aE F=>?_) (fun aE F=>?_)))
  ·
   refine aw (by kernel_rfl) (di rfl rfl (fun h=>absurd h aE) (fun _=>pu2 bF bF (by kernel_rfl) (sf 2 (by kernel_rfl) (pu2 bF bF (by kernel_rfl) (sf 3 (by kernel_rfl) (pu2 bF bF (by kernel_rfl) (sf 5 (by kernel_rfl) (pu2 bF bF (by kernel_rfl) (sf 3 (by kernel_rfl) (pu2 bF bF (by kernel_rfl) (aa ?_)))))))))))
   have bD:Row 1 (some x) 4 4 [iv 0,iv 2,iv 3,iv 6] (al dv [0,2,3,6]):=Row.lit cy (l:=[0,2,3,6]) rfl (qa rfl)
   exact .inl ⟨rfl,⟨some x,4,[iv 0,iv 2,iv 3,iv 6],false,⟨rfl,rfl,rfl,rfl,rfl,rfl,rfl,rfl,trivial⟩,I.pk [11,12,13,10,8,5,4,2,0,1] rfl rfl,(bD.to rfl rfl),F⟩⟩
  refine aw (by kernel_rfl) (di rfl rfl (fun _=>?_) (fun h=>absurd aE h))
  refine pu2 bT bT (by kernel_rfl) (pup (iv H.1) (by kernel_rfl) (ifN F (fun aF F=>?_) (fun aF F=>?_)))
  ·
   refine aw (by kernel_rfl) (di rfl rfl (fun h=>absurd h aF) (fun _=>pu2 bF bF (by kernel_rfl) (sf 3 (by kernel_rfl) (pu2 bF bF (by kernel_rfl) (sf 5 (by kernel_rfl) (pu2 bF bF (by kernel_rfl) (sf 3 (by kernel_rfl) (pu2 bF bF (by kernel_rfl) (aa ?_)))))))))
   have bE:Row 1 (some x) 4 4 [iv 0,iv 2,iv 3,iv 6] (al dv [0,2,3,6]):=Row.lit cy (l:=[0,2,3,6]) rfl (qa rfl)
   exact .inl ⟨rfl,⟨some x,4,[iv 0,iv 2,iv 3,iv 6],false,⟨rfl,rfl,rfl,rfl,rfl,rfl,rfl,rfl,trivial⟩,I.pk [11,12,13,10,8,5,4,2,0,1] rfl rfl,(bE.to rfl rfl),F⟩⟩
  refine aw (by kernel_rfl) (di rfl rfl (fun _=>?_) (fun h=>absurd aF h))
  refine pu2 bT bT (by kernel_rfl) (aw (by kernel_rfl) (ma I 8 Try.isAgg51 Try.sizeOf51 rfl rfl rfl (pup (.agg #[iv 4,iv 1]) (by kernel_rfl) (ifN F (fun aG F=>?_) (fun aG F=>?_)))))
  ·
   refine aw (by kernel_rfl) (kz (b:=decide (f.1=4) && decide (f.2.1=1)) rfl rfl (by kernel_rfl) (fun w=>eq51 _ f.1 f.2.1 4 1 w) (fun h=>absurd h aG) (fun _=>pu2 bF bF (by kernel_rfl) (sf 5 (by kernel_rfl) (pu2 bF bF (by kernel_rfl) (sf 3 (by kernel_rfl) (pu2 bF bF (by kernel_rfl) (aa ?_)))))))
   have bG:Row 1 (some x) 4 4 [iv 0,iv 2,iv 3,iv 6] (al dv [0,2,3,6]):=Row.lit cy (l:=[0,2,3,6]) rfl (qa rfl)
   exact .inl ⟨rfl,⟨some x,4,[iv 0,iv 2,iv 3,iv 6],false,⟨rfl,rfl,rfl,rfl,rfl,rfl,rfl,rfl,trivial⟩,I.pk [11,12,13,10,8,5,4,2,0,1] rfl rfl,(bG.to rfl rfl),F⟩⟩
  refine aw (by kernel_rfl) (kz (b:=decide (f.1=4) && decide (f.2.1=1)) rfl rfl (by kernel_rfl) (fun w=>eq51 _ f.1 f.2.1 4 1 w) (fun _=>?_) (fun h=>absurd aG h))
  refine pu2 bT bT (by kernel_rfl) (pup (slv L B.1.length M) (by kernel_rfl) (bt F (fun bH aU F=>?_)))
  obtain ⟨bI,rfl,bJ⟩:=Y.at_ eb (by decide) aU
  refine aw (by kernel_rfl) (be 0 Try.underlying26 Try.sizeOf34 rfl rfl rfl (fa aU rfl) (pup (.pointer (some ⟨bI,0 * 4,none⟩)) (by kernel_rfl) (aw (by kernel_rfl) (s_loadR1 I 7 (iv bH.fam) Try.isAgg3 rfl rfl (bJ 0 _ rfl) (ifN F (fun aH F=>?_) (fun aH F=>?_))))))
  ·
   refine aw (by kernel_rfl) (di rfl rfl (fun h=>absurd h aH) (fun _=>pu2 bF bF (by kernel_rfl) (sf 3 (by kernel_rfl) (pu2 bF bF (by kernel_rfl) (aa ?_)))))
   have bK:Row 1 (some x) 4 4 [iv 0,iv 2,iv 3,iv 6] (al dv [0,2,3,6]):=Row.lit cy (l:=[0,2,3,6]) rfl (qa rfl)
   exact .inl ⟨rfl,⟨some x,4,[iv 0,iv 2,iv 3,iv 6],false,⟨rfl,rfl,rfl,rfl,rfl,rfl,rfl,rfl,trivial⟩,I.pk [11,12,13,10,8,5,4,2,0,1] rfl rfl,(bK.to rfl rfl),F⟩⟩
  refine aw (by kernel_rfl) (di rfl rfl (fun _=>?_) (fun h=>absurd aH h))
  refine pu2 bT bT (by kernel_rfl) (aw (by kernel_rfl) (ma I 6 Try.isAgg51 Try.sizeOf51 rfl rfl rfl (pup (.agg #[iv 4,iv 3]) (by kernel_rfl) (ifE F (fun aI F=>?_) (fun aI F=>?_)))))
  ·
   refine aw (by kernel_rfl) (kz (b:=decide (p.1=4) && decide (p.2.1=3)) rfl rfl (by kernel_rfl) (fun w=>eq51 _ p.1 p.2.1 4 3 w) (fun _=>?_) (fun h=>absurd aI h))
   refine pu2 bT bT (by kernel_rfl) (aa ?_)
   have bL:Row 1 (some x) 4 4 [iv 0,iv 2,iv 3,iv 6] (al dv [0,2,3,6]):=Row.lit cy (l:=[0,2,3,6]) rfl (qa rfl)
   exact .inl ⟨rfl,⟨some x,4,[iv 0,iv 2,iv 3,iv 6],true,⟨rfl,rfl,rfl,rfl,rfl,rfl,rfl,rfl,trivial⟩,I.pk [11,12,13,10,8,5,4,2,0,1] rfl rfl,(bL.to rfl rfl),F⟩⟩
  refine aw (by kernel_rfl) (kz (b:=decide (p.1=4) && decide (p.2.1=3)) rfl rfl (by kernel_rfl) (fun w=>eq51 _ p.1 p.2.1 4 3 w) (fun h=>absurd h aI) (fun _=>pu2 bF bF (by kernel_rfl) (aa ?_)))
  have bM:Row 1 (some x) 4 4 [iv 0,iv 2,iv 3,iv 6] (al dv [0,2,3,6]):=Row.lit cy (l:=[0,2,3,6]) rfl (qa rfl)
  exact .inl ⟨rfl,⟨some x,4,[iv 0,iv 2,iv 3,iv 6],false,⟨rfl,rfl,rfl,rfl,rfl,rfl,rfl,rfl,trivial⟩,I.pk [11,12,13,10,8,5,4,2,0,1] rfl rfl,(bM.to rfl rfl),F⟩⟩
 intro ρ w hJ
 obtain ⟨K,S,a0,T,hag,I,U,F⟩:=hJ
 obtain ⟨ρ,rfl⟩:=hag.form; clear hag
 unfold F11j1 at F
 refine dn (fun ρ w=>∃ (V:Bool),cd ρ [(1,pt W),(2,slv m k.length t),(9,pt X),(22,pt Z),(23,.bool T),(24,.bool V)]∧Inv [] w0 w [(some W,blk [slv q e.1.length y,slv s e.2.length z] 25),(q,blk aP 30),(s,blk aQ 32),(m,blk aR 34),(some X,blk [iv f.1,iv f.2.1] 51),(some Z,blk [iv 0,slv K ([0,2,3,6].length) S] 67),(K,blk a0 3)]∧F11j2 N e k f T V=some r) ?_ ?_
 ·
  refine rgn (by kernel_rfl) (pu (slv J C.1.length O) (by kernel_rfl) (ph (fu I [iv 9] 3 (fun b=>slv (some b) 1 1) (by kernel_rfl) fun aV w I=>bt F (fun bW aW F=>ifN F (fun aJ F=>?_) (fun aJ F=>?_)))))
  ·
   refine ph (ac I 42 _ _ (by kernel_rfl) (cc.mono (L42 _ (J.map fun b=>⟨b,0,none⟩) O C.1 (some ⟨aV,0,none⟩) 1 [9] (I.rowCells 6 rfl R) (am rfl R.big) (am rfl R.cap) (I.cells 0 (off:=0) rfl (fun j u h=>by rw [Nat.zero_add]; exact h)) (qa rfl) (Nat.le_refl _) N _ aW) (fun v' w' h=>⟨h.1.trans (congrArg Value.bool (Bool.eq_false_iff.2 aJ)),h.2⟩)) fun w I=>pu bF (by kernel_rfl) (sf 5 (by kernel_rfl) (pu2 bF bF (by kernel_rfl) (sf 5 (by kernel_rfl) (pu2 bF bF (by kernel_rfl) (sf 3 (by kernel_rfl) (pu2 bF bF (by kernel_rfl) (aa (.inl ⟨rfl,⟨false,⟨rfl,rfl,rfl,rfl,rfl,rfl,trivial⟩,I.pk [1,2,3,4,5,9,10] rfl rfl,F⟩⟩)))))))))
  refine ph (ac I 42 _ _ (by kernel_rfl) (cc.mono (L42 _ (J.map fun b=>⟨b,0,none⟩) O C.1 (some ⟨aV,0,none⟩) 1 [9] (I.rowCells 6 rfl R) (am rfl R.big) (am rfl R.cap) (I.cells 0 (off:=0) rfl (fun j u h=>by rw [Nat.zero_add]; exact h)) (qa rfl) (Nat.le_refl _) N _ aW) (fun v' w' h=>⟨h.1.trans (congrArg Value.bool aJ),h.2⟩)) fun w I=>pu bT (by kernel_rfl) (pup (slv P A.1.length Q) (by kernel_rfl) (bt F (fun D aX F=>?_))))
  obtain ⟨bN,rfl,bO⟩:=aS.at_ eDr_len (by decide) aX
  refine aw (by kernel_rfl) (be 0 Try.underlying63 Try.sizeOf49 rfl rfl rfl (fa aX rfl) (aw (by kernel_rfl) (cq I 7 [iv D.fr,iv D.to] Try.isAgg49 Try.sizeOf49 rfl rfl rfl bO (pup (.agg #[iv 0,iv 1]) (by kernel_rfl) (ifN F (fun aK F=>?_) (fun aK F=>?_))))))
  ·
   refine aw (by kernel_rfl) (kz (b:=decide (D.fr=0) && decide (D.to=1)) rfl rfl (by kernel_rfl) (fun w=>eq49 _ D.fr D.to 0 1 w) (fun h=>absurd h aK) (fun _=>pu2 bF bF (by kernel_rfl) (sf 5 (by kernel_rfl) (pu2 bF bF (by kernel_rfl) (sf 3 (by kernel_rfl) (pu2 bF bF (by kernel_rfl) (aa (.inl ⟨rfl,⟨false,⟨rfl,rfl,rfl,rfl,rfl,rfl,trivial⟩,I.pk [1,2,3,4,5,9,10] rfl rfl,F⟩⟩))))))))
  refine aw (by kernel_rfl) (kz (b:=decide (D.fr=0) && decide (D.to=1)) rfl rfl (by kernel_rfl) (fun w=>eq49 _ D.fr D.to 0 1 w) (fun _=>?_) (fun h=>absurd aK h))
  refine pu2 bT bT (by kernel_rfl) (pup (slv (some bN) A.1.length Q) (by kernel_rfl) (bt F (fun E aY F=>?_)))
  have bP:=aS.atS eDr_len (by decide) aY
  refine aw (by kernel_rfl) (be 2 Try.underlying63 Try.sizeOf49 rfl rfl rfl (fa aY rfl) (aw (by kernel_rfl) (cq I 7 [iv E.fr,iv E.to] Try.isAgg49 Try.sizeOf49 rfl rfl rfl bP (pup (.agg #[iv 3,iv 4]) (by kernel_rfl) (ifN F (fun aL F=>?_) (fun aL F=>?_))))))
  ·
   refine aw (by kernel_rfl) (kz (b:=decide (E.fr=3) && decide (E.to=4)) rfl rfl (by kernel_rfl) (fun w=>eq49 _ E.fr E.to 3 4 w) (fun h=>absurd h aL) (fun _=>pu2 bF bF (by kernel_rfl) (sf 3 (by kernel_rfl) (pu2 bF bF (by kernel_rfl) (aa (.inl ⟨rfl,⟨false,⟨rfl,rfl,rfl,rfl,rfl,rfl,trivial⟩,I.pk [1,2,3,4,5,9,10] rfl rfl,F⟩⟩))))))
  refine aw (by kernel_rfl) (kz (b:=decide (E.fr=3) && decide (E.to=4)) rfl rfl (by kernel_rfl) (fun w=>eq49 _ E.fr E.to 3 4 w) (fun _=>?_) (fun h=>absurd aL h))
  refine pu2 bT bT (by kernel_rfl) (aw (by kernel_rfl) (ma I 8 Try.isAgg65 Try.sizeOf65 rfl rfl rfl (pup (.agg #[iv 0,iv 1]) (by kernel_rfl) (ifE F (fun aM F=>?_) (fun aM F=>?_)))))
  ·
   refine aw (by kernel_rfl) (kz (b:=decide (g.1=0) && decide (g.2.1=1)) rfl rfl (by kernel_rfl) (fun w=>eq65 _ g.1 g.2.1 0 1 w) (fun _=>?_) (fun h=>absurd aM h))
   refine pu2 bT bT (by kernel_rfl) (aa (.inl ⟨rfl,⟨true,⟨rfl,rfl,rfl,rfl,rfl,rfl,trivial⟩,I.pk [1,2,3,4,5,9,10] rfl rfl,F⟩⟩))
  refine aw (by kernel_rfl) (kz (b:=decide (g.1=0) && decide (g.2.1=1)) rfl rfl (by kernel_rfl) (fun w=>eq65 _ g.1 g.2.1 0 1 w) (fun h=>absurd h aM) (fun _=>pu2 bF bF (by kernel_rfl) (aa (.inl ⟨rfl,⟨false,⟨rfl,rfl,rfl,rfl,rfl,rfl,trivial⟩,I.pk [1,2,3,4,5,9,10] rfl rfl,F⟩⟩))))
 intro ρ w hJ
 obtain ⟨V,hag,I,F⟩:=hJ
 obtain ⟨ρ,rfl⟩:=hag.form; clear hag
 unfold F11j2 at F
 refine ab ?_
 have hG:=F; rcases Bool.eq_false_or_eq_true T with rfl | rfl
 ·
  have F:=hG; clear hG
  refine ifE F (fun _ F=>?_) (fun h=>absurd rfl h)
  have hG:=F; rcases Bool.eq_false_or_eq_true V with rfl | rfl
  ·
   have F:=hG; clear hG
   refine ifE F (fun _ F=>?_) (fun h=>absurd rfl h)
   refine rgn (by kernel_rfl) (pu2 bT bT (by kernel_rfl) (pup bT (by kernel_rfl) (pu2 bT bT (by kernel_rfl) (aw (by kernel_rfl) (ma I 0 Try.isAgg25 Try.sizeOf25 rfl rfl rfl (pup (slv m k.length t) (by kernel_rfl) (aw (by kernel_rfl) (ma I 5 Try.isAgg67 Try.sizeOf67 rfl rfl rfl (aw (by kernel_rfl) (ma I 4 Try.isAgg51 Try.sizeOf51 rfl rfl rfl (bt F (fun bX bQ F=>aw (by kernel_rfl) (ac I 47 _ _ (by kernel_rfl) (L47 _ (q.map fun b=>⟨b,0,none⟩) y e.1 (s.map fun b=>⟨b,0,none⟩) z e.2 (m.map fun b=>⟨b,0,none⟩) t k 0 (K.map fun b=>⟨b,0,none⟩) S [0,2,3,6] (⟨f.1,f.2.1⟩:Gn) (I.rowCells 1 rfl a) (am rfl a.big) (am rfl a.cap) (I.rowCells 2 rfl d) (am rfl d.big) (am rfl d.cap) (I.rowCells 3 rfl i) (am rfl i.big) (am rfl i.cap) (I.rowCells 6 rfl U) (am rfl U.big) (am rfl U.cap) N _ bQ) fun w I=>ifN F (fun aN F=>?_) (fun aN F=>?_))))))))))))))
   ·
    refine aw (by kernel_rfl) (di rfl rfl (fun h=>absurd h aN) (fun _=>pu2 bF bF (by kernel_rfl) (sf 6 (by kernel_rfl) (pu2 bF bF (by kernel_rfl) (aa (aj ?_))))))
    cases F
    exact ⟨_,Ret.r1 rfl rfl,⟨rfl,I.below⟩⟩
   refine aw (by kernel_rfl) (di rfl rfl (fun _=>?_) (fun h=>absurd aN h))
   refine pu2 bT bT (by kernel_rfl) (aw (by kernel_rfl) (ma I 0 Try.isAgg25 Try.sizeOf25 rfl rfl rfl (pup (slv m k.length t) (by kernel_rfl) (aw (by kernel_rfl) (ma I 5 Try.isAgg67 Try.sizeOf67 rfl rfl rfl (pup (.agg #[iv 3,iv 1]) (by kernel_rfl) (bt F (fun bY bR F=>aw (by kernel_rfl) (ac I 47 _ _ (by kernel_rfl) (L47 _ (q.map fun b=>⟨b,0,none⟩) y e.1 (s.map fun b=>⟨b,0,none⟩) z e.2 (m.map fun b=>⟨b,0,none⟩) t k 0 (K.map fun b=>⟨b,0,none⟩) S [0,2,3,6] (⟨3,1⟩:Gn) (I.rowCells 1 rfl a) (am rfl a.big) (am rfl a.cap) (I.rowCells 2 rfl d) (am rfl d.big) (am rfl d.cap) (I.rowCells 3 rfl i) (am rfl i.big) (am rfl i.cap) (I.rowCells 6 rfl U) (am rfl U.big) (am rfl U.cap) N _ bR) fun w I=>ifE F (fun aO F=>?_) (fun aO F=>?_))))))))))
   ·
    refine aw (by kernel_rfl) (di rfl rfl (fun _=>?_) (fun h=>absurd aO h))
    refine pu2 bT bT (by kernel_rfl) (aa (aj ?_))
    cases F
    exact ⟨_,Ret.r1 rfl rfl,⟨rfl,I.below⟩⟩
   refine aw (by kernel_rfl) (di rfl rfl (fun h=>absurd h aO) (fun _=>pu2 bF bF (by kernel_rfl) (aa (aj ?_))))
   cases F
   exact ⟨_,Ret.r1 rfl rfl,⟨rfl,I.below⟩⟩
  have F:=hG; clear hG
  refine ifE F (fun h=>absurd h (by decide)) (fun _ F=>rgn (by kernel_rfl) (pu2 bT bT (by kernel_rfl) (pup bF (by kernel_rfl) (pu2 bF bF (by kernel_rfl) (sf 6 (by kernel_rfl) (pu2 bF bF (by kernel_rfl) (of_ (by kernel_rfl) (sf 5 (by kernel_rfl) (pu2 bF bF (by kernel_rfl) (aa (aj ?_)))))))))))
  cases F
  exact ⟨_,Ret.r1 rfl rfl,⟨rfl,I.below⟩⟩
 have F:=hG; clear hG
 refine ifE F (fun h=>absurd h (by decide)) (fun _ F=>?_)
 have hG:=F; rcases Bool.eq_false_or_eq_true V with rfl | rfl
 ·
  have F:=hG; clear hG
  refine ifE F (fun _ F=>?_) (fun h=>absurd rfl h)
  refine rgn (by kernel_rfl) (pu2 bF bF (by kernel_rfl) (of_ (by kernel_rfl) (pu2 bF bF (by kernel_rfl) (sf 6 (by kernel_rfl) (pu2 bF bF (by kernel_rfl) (of_ (by kernel_rfl) (sf 5 (by kernel_rfl) (pu2 bF bF (by kernel_rfl) (aa (aj ?_))))))))))
  cases F
  exact ⟨_,Ret.r1 rfl rfl,⟨rfl,I.below⟩⟩
 have F:=hG; clear hG
 refine ifE F (fun h=>absurd h (by decide)) (fun _ F=>rgn (by kernel_rfl) (pu2 bF bF (by kernel_rfl) (of_ (by kernel_rfl) (pu2 bF bF (by kernel_rfl) (sf 6 (by kernel_rfl) (pu2 bF bF (by kernel_rfl) (of_ (by kernel_rfl) (sf 5 (by kernel_rfl) (pu2 bF bF (by kernel_rfl) (aa (aj ?_)))))))))))
 cases F
 exact ⟨_,Ret.r1 rfl rfl,⟨rfl,I.below⟩⟩
theorem L61 (w0:World) (a:Int) (b:Int) (d:Int) (r:Bool) (F:F61 a b d=some r):cc Try.prog 61 [iv a,iv b,iv d] w0 fun v w=>v=.bool r∧Below w0.heap.size w0 w:=by
 refine az (n:=15) Try.func61 rfl Try.ntmps61 rfl ?_
 have I:=Inv.start w0
 unfold F61 at F
 refine ab (rgn (by kernel_rfl) (pu bF (by kernel_rfl) (aa (ab (rgn (by kernel_rfl) (pu2 (iv a) (iv b) (by kernel_rfl) (ifN F (fun h7 F=>?_) (fun h7 F=>?_))))))))
 ·
  refine ph (iq rfl rfl (fun h=>absurd h h7) (fun _=>pu bF (by kernel_rfl) (sf 3 (by kernel_rfl) (pu2 bF bF (by kernel_rfl) (aa (aj ?_))))))
  cases F
  exact ⟨_,Ret.r1 rfl rfl,⟨rfl,I.below⟩⟩


 refine ph (iq rfl rfl (fun _=>?_) (fun h=>absurd h7 h))
 refine pu bT (by kernel_rfl) (pup (iv a) (by kernel_rfl) (pup (iv d) (by kernel_rfl) (ifE F (fun h8 F=>?_) (fun h8 F=>?_))))
 ·
  refine aw (by kernel_rfl) (fq rfl rfl (fun _=>?_) (fun h=>absurd h8 h))
  refine pu2 bT bT (by kernel_rfl) (aa (aj ?_))
  cases F
  exact ⟨_,Ret.r1 rfl rfl,⟨rfl,I.below⟩⟩
 refine aw (by kernel_rfl) (fq rfl rfl (fun h=>absurd h h8) (fun _=>pu2 bF bF (by kernel_rfl) (aa (aj ?_))))
 cases F
 exact ⟨_,Ret.r1 rfl rfl,⟨rfl,I.below⟩⟩
theorem L20 (w0:World) (a:Ch) (r:Int) (F:F20 a=some r):cc Try.prog 20 [.agg #[iv a.id,iv a.lo,iv a.hi]] w0 fun v w=>v=iv r∧Below w0.heap.size w0 w:=by
 refine az (n:=23) Try.func20 rfl Try.ntmps20 rfl ?_
 have I:=Inv.start w0
 unfold F20 at F
 refine ab (rgn (by kernel_rfl) (ph (ca I _ rfl fun b w I=>pu (iv 0) (by kernel_rfl) (aa (ab (ab (rgn (by kernel_rfl) (pu (pt b) (by kernel_rfl) (ph (ag I 0 (iv a.id) Try.isAgg3 rfl rfl rfl (bt F (fun j g F=>ifN F (fun d F=>?_) (fun d F=>?_)))))))))))))
 ·
  refine ph (ac I 61 _ _ (by kernel_rfl) (cc.mono (L61 _ a.id 1 99 _ g) (fun v' w' h=>⟨h.1.trans (congrArg Value.bool (Bool.eq_false_iff.2 d)),h.2⟩)) fun w I=>pu2 bT bT (by kernel_rfl) (sf 8 (by kernel_rfl) (pu2 bT bT (by kernel_rfl) (sf 4 (by kernel_rfl) (pu bT (by kernel_rfl) (aa (ah rfl (ab (rgn (by kernel_rfl) (pu (iv 40) (by kernel_rfl) (aa (aj ?_))))))))))))
  cases F
  exact ⟨_,Ret.r1 rfl rfl,⟨rfl,I.below⟩⟩


 refine ph (ac I 61 _ _ (by kernel_rfl) (cc.mono (L61 _ a.id 1 99 _ g) (fun v' w' h=>⟨h.1.trans (congrArg Value.bool d),h.2⟩)) fun w I=>pu2 bF bF (by kernel_rfl) (pup (.pointer (some ⟨b,1,none⟩)) (by kernel_rfl) (pup (.pointer (some ⟨b,1,none⟩)) (by kernel_rfl) (aw (by kernel_rfl) (ag I 0 (iv a.lo) Try.isAgg3 rfl rfl rfl (pup (.pointer (some ⟨b,1,none⟩)) (by kernel_rfl) (pup (.pointer (some ⟨b,2,none⟩)) (by kernel_rfl) (aw (by kernel_rfl) (ag I 0 (iv a.hi) Try.isAgg3 rfl rfl rfl (bt F (fun k i F=>ifN F (fun e F=>?_) (fun e F=>?_))))))))))))
 ·
  refine aw (by kernel_rfl) (ac I 61 _ _ (by kernel_rfl) (cc.mono (L61 _ a.lo 1 a.hi _ i) (fun v' w' h=>⟨h.1.trans (congrArg Value.bool (Bool.eq_false_iff.2 e)),h.2⟩)) fun w I=>pup bT (by kernel_rfl) (pu2 bT bT (by kernel_rfl) (sf 4 (by kernel_rfl) (pu bT (by kernel_rfl) (aa (ah rfl (ab (rgn (by kernel_rfl) (pu (iv 40) (by kernel_rfl) (aa (aj ?_)))))))))))
  cases F
  exact ⟨_,Ret.r1 rfl rfl,⟨rfl,I.below⟩⟩
 refine aw (by kernel_rfl) (ac I 61 _ _ (by kernel_rfl) (cc.mono (L61 _ a.lo 1 a.hi _ i) (fun v' w' h=>⟨h.1.trans (congrArg Value.bool e),h.2⟩)) fun w I=>pup bF (by kernel_rfl) (pu2 bF bF (by kernel_rfl) (pup (.pointer (some ⟨b,1,none⟩)) (by kernel_rfl) (pup (.pointer (some ⟨b,2,none⟩)) (by kernel_rfl) (aw (by kernel_rfl) (ag I 0 (iv a.hi) Try.isAgg3 rfl rfl rfl (ifE F (fun f F=>?_) (fun f F=>?_))))))))
 ·
  refine aw (by kernel_rfl) (fh rfl rfl (fun _=>?_) (fun h=>absurd f h))
  refine pu bT (by kernel_rfl) (aa (ah rfl (ab (rgn (by kernel_rfl) (pu (iv 40) (by kernel_rfl) (aa (aj ?_)))))))
  cases F
  exact ⟨_,Ret.r1 rfl rfl,⟨rfl,I.below⟩⟩
 refine aw (by kernel_rfl) (fh rfl rfl (fun h=>absurd h f) (fun _=>pu bF (by kernel_rfl) (aa (ai rfl (ak (ab (rgn (by kernel_rfl) (pu (iv 0) (by kernel_rfl) (aa (aj ?_))))))))))
 cases F
 exact ⟨_,Ret.r1 rfl rfl,⟨rfl,I.below⟩⟩
theorem L22 (w0:World) (a:Ce) (r:Int) (F:F22 a=some r):cc Try.prog 22 [.agg #[iv a.ch,iv a.ln,iv a.wo]] w0 fun v w=>v=iv r∧Below w0.heap.size w0 w:=by
 refine az (n:=19) Try.func22 rfl Try.ntmps22 rfl ?_
 have I:=Inv.start w0
 unfold F22 at F
 refine ab (rgn (by kernel_rfl) (ph (ca I _ rfl fun b w I=>pu (iv 0) (by kernel_rfl) (aa (ab (ab (rgn (by kernel_rfl) (pu (pt b) (by kernel_rfl) (ph (ag I 0 (iv a.ch) Try.isAgg3 rfl rfl rfl (bt F (fun k g F=>ifN F (fun d F=>?_) (fun d F=>?_)))))))))))))
 ·
  refine ph (ac I 61 _ _ (by kernel_rfl) (cc.mono (L61 _ a.ch 1 99 _ g) (fun v' w' h=>⟨h.1.trans (congrArg Value.bool (Bool.eq_false_iff.2 d)),h.2⟩)) fun w I=>pu2 bT bT (by kernel_rfl) (sf 4 (by kernel_rfl) (pu2 bT bT (by kernel_rfl) (sf 4 (by kernel_rfl) (pu bT (by kernel_rfl) (aa (ah rfl (ab (rgn (by kernel_rfl) (pu (iv 41) (by kernel_rfl) (aa (aj ?_))))))))))))
  cases F
  exact ⟨_,Ret.r1 rfl rfl,⟨rfl,I.below⟩⟩


 refine ph (ac I 61 _ _ (by kernel_rfl) (cc.mono (L61 _ a.ch 1 99 _ g) (fun v' w' h=>⟨h.1.trans (congrArg Value.bool d),h.2⟩)) fun w I=>pu2 bF bF (by kernel_rfl) (pup (.pointer (some ⟨b,1,none⟩)) (by kernel_rfl) (aw (by kernel_rfl) (ag I 0 (iv a.ln) Try.isAgg3 rfl rfl rfl (bt F (fun l i F=>ifN F (fun e F=>?_) (fun e F=>?_)))))))
 ·
  refine aw (by kernel_rfl) (ac I 61 _ _ (by kernel_rfl) (cc.mono (L61 _ a.ln 1 1000 _ i) (fun v' w' h=>⟨h.1.trans (congrArg Value.bool (Bool.eq_false_iff.2 e)),h.2⟩)) fun w I=>pup bT (by kernel_rfl) (pu2 bT bT (by kernel_rfl) (sf 4 (by kernel_rfl) (pu bT (by kernel_rfl) (aa (ah rfl (ab (rgn (by kernel_rfl) (pu (iv 41) (by kernel_rfl) (aa (aj ?_)))))))))))
  cases F
  exact ⟨_,Ret.r1 rfl rfl,⟨rfl,I.below⟩⟩
 refine aw (by kernel_rfl) (ac I 61 _ _ (by kernel_rfl) (cc.mono (L61 _ a.ln 1 1000 _ i) (fun v' w' h=>⟨h.1.trans (congrArg Value.bool e),h.2⟩)) fun w I=>pup bF (by kernel_rfl) (pu2 bF bF (by kernel_rfl) (pup (.pointer (some ⟨b,2,none⟩)) (by kernel_rfl) (aw (by kernel_rfl) (ag I 0 (iv a.wo) Try.isAgg3 rfl rfl rfl (bt F (fun m j F=>ifE F (fun f F=>?_) (fun f F=>?_))))))))
 ·
  refine aw (by kernel_rfl) (ac I 61 _ _ (by kernel_rfl) (cc.mono (L61 _ a.wo 0 10000 _ j) (fun v' w' h=>⟨h.1.trans (congrArg Value.bool f),h.2⟩)) fun w I=>pup bF (by kernel_rfl) (pu bF (by kernel_rfl) (aa (ai rfl (ak (ab (rgn (by kernel_rfl) (pu (iv 0) (by kernel_rfl) (aa (aj ?_))))))))))
  cases F
  exact ⟨_,Ret.r1 rfl rfl,⟨rfl,I.below⟩⟩
 refine aw (by kernel_rfl) (ac I 61 _ _ (by kernel_rfl) (cc.mono (L61 _ a.wo 0 10000 _ j) (fun v' w' h=>⟨h.1.trans (congrArg Value.bool (Bool.eq_false_iff.2 f)),h.2⟩)) fun w I=>pup bT (by kernel_rfl) (pu bT (by kernel_rfl) (aa (ah rfl (ab (rgn (by kernel_rfl) (pu (iv 41) (by kernel_rfl) (aa (aj ?_)))))))))
 cases F
 exact ⟨_,Ret.r1 rfl rfl,⟨rfl,I.below⟩⟩
theorem L63 (w0:World) (f:Option Addr) (g:Nat) (b:List Ch) (j:Option Addr) (k:Nat) (e:List Ce) (d:Int) (q:bi w0 f (al eCh b)) (C:b.length≤9223372036854775807) (D:b.length≤g) (E:bi w0 j (al eCe e)) (G:e.length≤9223372036854775807) (H:e.length≤k) (N:Nat) (r:Int) (F:F63 N b e d=some r):cc Try.prog 63 [.agg #[.slice f b.length g,.slice j e.length k],iv d] w0 fun v w=>v=iv r∧Below w0.heap.size w0 w:=by
 refine az (n:=22) Try.func63 rfl Try.ntmps63 rfl ?_
 have I:=Inv.start w0
 unfold F63 at F
 refine ab (rgn (by kernel_rfl) (ph (ca I _ rfl fun i w I=>pu (iv 0) (by kernel_rfl) (aa (ab (ab (rgn (by kernel_rfl) (pu (iv 0) (by kernel_rfl) (aa (au (cb (fun m ρ w=>∃ (a:Int) (mm:Nat),cd ρ [(1,iv d),(2,pt i),(5,iv a)]∧Inv [] w0 w [(some i,blk [.slice f b.length g,.slice j e.length k] 25)]∧F63l1 b d mm a=some r∧mm=m) (m:=N) ⟨0,N,⟨rfl,rfl,rfl,trivial⟩,I.pk [0] rfl rfl,F,rfl⟩ ?_)))))))))))
 rintro m ρ w ⟨a,mm,hag,I,F,hm⟩
 subst hm; obtain ⟨ρ,rfl⟩:=hag.form; clear hag
 obtain _ | m1:=mm
 ·cases (show (none:Option Int)=some r from F)
 replace F:F63b1 b d (F63l1 b d m1) a=some r:=F; unfold F63b1 at F
 refine ab (ab (rgn (by kernel_rfl) (pu2 (iv a) (pt i) (by kernel_rfl) (ph (ag I 0 (.slice f b.length g) Try.isAgg22 rfl rfl rfl (pu (iv ((b.length:Nat):Int)) (by kernel_rfl) (ifN F (fun l F=>?_) (fun l F=>?_))))))))
 ·
  refine ph (cm rfl rfl (fun h=>absurd h l) (fun _=>aa (ai rfl (bw (ab (rgn (by kernel_rfl) (pu (iv (-1)) (by kernel_rfl) (aa (aj ?_)))))))))
  cases F
  exact ⟨_,Ret.r1 rfl rfl,⟨rfl,I.below⟩⟩


 refine ph (cm rfl rfl (fun _=>?_) (fun h=>absurd l h))
 refine aa (ah rfl (ak (ab (au (ab (rgn (by kernel_rfl) (pu (pt i) (by kernel_rfl) (ph (ag I 0 (.slice f b.length g) Try.isAgg22 rfl rfl rfl (pu (iv a) (by kernel_rfl) (gdE F (fun s F=>bt F (fun t p F=>?_)))))))))))))
 obtain ⟨u,x,y,z,A⟩:=q.at_ eCh_len (by decide) p
 refine ph (cn (a).toNat Try.underlying22 Try.sizeOf30 rfl y rfl (Int.toNat_of_nonneg s).symm (fa p rfl) (pu (.pointer (some ⟨u,x+(a).toNat * 3,none⟩)) (by kernel_rfl) (ph (dj I (iv t.id) Try.isAgg3 rfl z (by simp) (A 0 _ rfl) (pu (iv d) (by kernel_rfl) (ifE F (fun o F=>?_) (fun o F=>?_)))))))
 ·
  refine ph (di rfl rfl (fun _=>?_) (fun h=>absurd o h))
  refine aa (ah rfl (ab (rgn (by kernel_rfl) (pu2 (iv a) (iv a) (by kernel_rfl) (aa (aj ?_))))))
  cases F
  exact ⟨_,Ret.r1 rfl rfl,⟨rfl,I.below⟩⟩
 refine ph (di rfl rfl (fun h=>absurd h o) (fun _=>aa (ai rfl (ak (rgn (by kernel_rfl) (pu (iv a) (by kernel_rfl) (ckE F (fun B F=>ph (cj rfl rfl B (pu (iv (a+1)) (by kernel_rfl) (aa (⟨rfl,m1,Nat.lt_succ_self _,⟨a+1,m1,⟨rfl,rfl,rfl,trivial⟩,I.pk [0] rfl rfl,F,rfl⟩⟩))))))))))))
theorem L16 (w0:World) (e:Option Addr) (f:Nat) (a:List Ch) (i:Option Addr) (j:Nat) (b:List Ce) (p:bi w0 e (al eCh a)) (a0:a.length≤9223372036854775807) (a1:a.length≤f) (K:bi w0 i (al eCe b)) (a2:b.length≤9223372036854775807) (a3:b.length≤j) (N:Nat) (r:Int) (F:F16 N a b=some r):cc Try.prog 16 [.agg #[.slice e a.length f,.slice i b.length j]] w0 fun v w=>v=iv r∧Below w0.heap.size w0 w:=by
 refine az (n:=76) Try.func16 rfl Try.ntmps16 rfl ?_
 have I:=Inv.start w0
 unfold F16 at F
 refine ab (rgn (by kernel_rfl) (ph (ca I _ rfl fun g w I=>pu (iv 0) (by kernel_rfl) (aa (ab (ab (rgn (by kernel_rfl) (pu (pt g) (by kernel_rfl) (ph (ag I 0 (.slice e a.length f) Try.isAgg22 rfl rfl rfl (pu (iv ((a.length:Nat):Int)) (by kernel_rfl) (bt F (fun aH L F=>ifN F (fun q F=>?_) (fun q F=>?_))))))))))))))
 ·
  refine ph (ac I 61 _ _ (by kernel_rfl) (cc.mono (L61 _ (a.length:Int) 1 6 _ L) (fun v' w' h=>⟨h.1.trans (congrArg Value.bool (Bool.eq_false_iff.2 q)),h.2⟩)) fun w I=>pu2 bT bT (by kernel_rfl) (sf 5 (by kernel_rfl) (pu bT (by kernel_rfl) (aa (ah rfl (ab (rgn (by kernel_rfl) (pu (iv 42) (by kernel_rfl) (aa (aj ?_))))))))))
  cases F
  exact ⟨_,Ret.r1 rfl rfl,⟨rfl,I.below⟩⟩


 refine ph (ac I 61 _ _ (by kernel_rfl) (cc.mono (L61 _ (a.length:Int) 1 6 _ L) (fun v' w' h=>⟨h.1.trans (congrArg Value.bool q),h.2⟩)) fun w I=>pu2 bF bF (by kernel_rfl) (pup (.pointer (some ⟨g,1,none⟩)) (by kernel_rfl) (aw (by kernel_rfl) (ag I 0 (.slice i b.length j) Try.isAgg23 rfl rfl rfl (pup (iv ((b.length:Nat):Int)) (by kernel_rfl) (bt F (fun aI M F=>ifN F (fun s F=>?_) (fun s F=>?_))))))))
 ·
  refine aw (by kernel_rfl) (ac I 61 _ _ (by kernel_rfl) (cc.mono (L61 _ (b.length:Int) 1 24 _ M) (fun v' w' h=>⟨h.1.trans (congrArg Value.bool (Bool.eq_false_iff.2 s)),h.2⟩)) fun w I=>pup bT (by kernel_rfl) (pu bT (by kernel_rfl) (aa (ah rfl (ab (rgn (by kernel_rfl) (pu (iv 42) (by kernel_rfl) (aa (aj ?_)))))))))
  cases F
  exact ⟨_,Ret.r1 rfl rfl,⟨rfl,I.below⟩⟩
 refine aw (by kernel_rfl) (ac I 61 _ _ (by kernel_rfl) (cc.mono (L61 _ (b.length:Int) 1 24 _ M) (fun v' w' h=>⟨h.1.trans (congrArg Value.bool s),h.2⟩)) fun w I=>pup bF (by kernel_rfl) (pu bF (by kernel_rfl) (aa (ai rfl (ak (dn (fun ρ w=>cd ρ [(1,pt g)]∧Inv [] w0 w [(some g,blk [.slice e a.length f,.slice i b.length j] 25)]∧F16j1 a b N=some r) ?_ ?_))))))
 ·
  refine ab (rgn (by kernel_rfl) (pu (iv 0) (by kernel_rfl) (aa (au (cb (fun m ρ w=>∃ (d:Int) (mm:Nat),cd ρ [(1,pt g),(3,iv d)]∧Inv [] w0 w [(some g,blk [.slice e a.length f,.slice i b.length j] 25)]∧F16l3 a b N mm d=some r∧mm=m) (m:=N) ⟨0,N,⟨rfl,rfl,trivial⟩,I.pk [0] rfl rfl,F,rfl⟩ ?_)))))
  rintro m ρ w ⟨d,mm,hag,I,F,hm⟩
  subst hm; obtain ⟨ρ,rfl⟩:=hag.form; clear hag
  obtain _ | m3:=mm
  ·cases (show (none:Option Int)=some r from F)
  replace F:F16b3 a b N (F16l3 a b N m3) d=some r:=F; unfold F16b3 at F
  refine ab (ab (rgn (by kernel_rfl) (pu2 (iv d) (pt g) (by kernel_rfl) (ph (ag I 0 (.slice e a.length f) Try.isAgg22 rfl rfl rfl (pu (iv ((a.length:Nat):Int)) (by kernel_rfl) (ifN F (fun t F=>?_) (fun t F=>?_))))))))
  ·
   refine ph (cm rfl rfl (fun h=>absurd h t) (fun _=>aa (ai rfl (bw (.inl ⟨rfl,⟨⟨rfl,trivial⟩,I.pk [0] rfl rfl,F⟩⟩)))))
  refine ph (cm rfl rfl (fun _=>?_) (fun h=>absurd t h))
  refine aa (ah rfl (ak (ab (au (dn (fun ρ w=>cd ρ [(1,pt g),(3,iv d),(50,bF)]∧Inv [] w0 w [(some g,blk [.slice e a.length f,.slice i b.length j] 25)]∧F16j4 (F16l3 a b N m3) d=some r) ?_ ?_)))))
  ·
   refine gm 27 I (by kernel_rfl) (zp (pt g) (fun _=>(by kernel_rfl)) (zc (.slice e a.length f) (fun w I=>ag I 0 (.slice e a.length f) Try.isAgg22 rfl rfl rfl br) (zp (iv d) (fun _=>(by kernel_rfl)) (gdE F (fun O F=>bt F (fun o u F=>?_))))))
   obtain ⟨x,y,P,Q,R⟩:=p.at_ eCh_len (by decide) u
   refine zc (.pointer (some ⟨x,y+(d).toNat * 3,none⟩)) (fun w I=>cn (d).toNat Try.underlying22 Try.sizeOf30 rfl P rfl (Int.toNat_of_nonneg O).symm (fa u rfl) br) (zc (.agg #[iv o.id,iv o.lo,iv o.hi]) (fun w I=>ef I [iv o.id,iv o.lo,iv o.hi] Try.isAgg30 Try.sizeOf30 rfl rfl Q (by simp) R br) (bt F (fun a4 a5 F=>zc (iv a4) (fun w I=>co 20 [.agg #[iv o.id,iv o.lo,iv o.hi]] (by kernel_rfl) (L20 _ o _ a5) (fun v' w' h=>h)) (ifN F (fun z F=>?_) (fun z F=>?_)))))
   ·
    refine zc bT (fun w I=>de rfl rfl (fun _=>br) (fun h=>absurd h z)) (zp bT (fun _=>(by kernel_rfl)) (zf 18 (by kernel_rfl) (zp bT (fun _=>(by kernel_rfl)) (zh (fun w I=>aa (.inr (ah rfl (ab (rgn (by kernel_rfl) (pu (iv 42) (by kernel_rfl) (aa (aj ?_))))))))))))
    cases F
    exact ⟨_,Ret.r1 rfl rfl,⟨rfl,I.below⟩⟩
   refine zc bF (fun w I=>de rfl rfl (fun h=>absurd z h) (fun _=>br)) (zp bF (fun _=>(by kernel_rfl)) (zq (iv d) (by kernel_rfl) (fun _=>(by kernel_rfl)) (ifN F (fun A F=>?_) (fun A F=>?_))))
   ·
    refine zo bF (by kernel_rfl) (fun w I=>fh rfl rfl (fun h=>absurd h A) (fun _=>br)) (zq bF (by kernel_rfl) (fun _=>(by kernel_rfl)) (zf 14 (by kernel_rfl) (zq bF (by kernel_rfl) (fun _=>(by kernel_rfl)) (zp bF (fun _=>(by kernel_rfl)) (zh (fun w I=>aa (.inl ⟨rfl,⟨⟨rfl,rfl,rfl,trivial⟩,I.pk [0] rfl rfl,F⟩⟩)))))))
   refine zo bT (by kernel_rfl) (fun w I=>fh rfl rfl (fun _=>br) (fun h=>absurd A h)) (zq bT (by kernel_rfl) (fun _=>(by kernel_rfl)) (zq (pt g) (by kernel_rfl) (fun _=>(by kernel_rfl)) (zo (.slice e a.length f) (by kernel_rfl) (fun w I=>ag I 0 (.slice e a.length f) Try.isAgg22 rfl rfl rfl br) (zq (iv d) (by kernel_rfl) (fun _=>(by kernel_rfl)) (ckE F (fun a6 F=>zo (iv (d - 1)) (by kernel_rfl) (fun w I=>dm rfl rfl a6 br) (gdE F (fun a7 F=>bt F (fun S T F=>?_)))))))))
   obtain ⟨U,V,a8,a9,aA⟩:=p.at_ eCh_len (by decide) T
   refine zo (.pointer (some ⟨U,V+((d - 1).toNat) * 3,none⟩)) (by kernel_rfl) (fun w I=>cn ((d - 1).toNat) Try.underlying22 Try.sizeOf30 rfl a8 rfl (Int.toNat_of_nonneg a7).symm (fa T rfl) br) (zq (.pointer (some ⟨U,V+((d - 1).toNat) * 3,none⟩)) (by kernel_rfl) (fun _=>(by kernel_rfl)) (zo (iv S.id) (by kernel_rfl) (fun w I=>dj I (iv S.id) Try.isAgg3 rfl a9 (by simp) (aA 0 _ rfl) br) (zq (pt g) (by kernel_rfl) (fun _=>(by kernel_rfl)) (zo (.slice e a.length f) (by kernel_rfl) (fun w I=>ag I 0 (.slice e a.length f) Try.isAgg22 rfl rfl rfl br) (zq (iv d) (by kernel_rfl) (fun _=>(by kernel_rfl)) (zo (.pointer (some ⟨x,y+(d).toNat * 3,none⟩)) (by kernel_rfl) (fun w I=>cn (d).toNat Try.underlying22 Try.sizeOf30 rfl P rfl (Int.toNat_of_nonneg O).symm (fa u rfl) br) (zq (.pointer (some ⟨x,y+(d).toNat * 3,none⟩)) (by kernel_rfl) (fun _=>(by kernel_rfl)) (zo (iv o.id) (by kernel_rfl) (fun w I=>dj I (iv o.id) Try.isAgg3 rfl Q (by simp) (R 0 _ rfl) br) (ifN F (fun B F=>?_) (fun B F=>?_))))))))))
   ·
    refine zo bF (by kernel_rfl) (fun w I=>iq rfl rfl (fun h=>absurd h B) (fun _=>br)) (zq bF (by kernel_rfl) (fun _=>(by kernel_rfl)) (zp bF (fun _=>(by kernel_rfl)) (zh (fun w I=>aa (.inl ⟨rfl,⟨⟨rfl,rfl,rfl,trivial⟩,I.pk [0] rfl rfl,F⟩⟩)))))
   refine zo bT (by kernel_rfl) (fun w I=>iq rfl rfl (fun _=>br) (fun h=>absurd B h)) (zq bT (by kernel_rfl) (fun _=>(by kernel_rfl)) (zp bT (fun _=>(by kernel_rfl)) (zh (fun w I=>aa (.inr (ah rfl (ab (rgn (by kernel_rfl) (pu (iv 42) (by kernel_rfl) (aa (aj ?_)))))))))))
   cases F
   exact ⟨_,Ret.r1 rfl rfl,⟨rfl,I.below⟩⟩
  intro ρ w hJ
  obtain ⟨hag,I,F⟩:=hJ
  obtain ⟨ρ,rfl⟩:=hag.form; clear hag
  unfold F16j4 at F
  refine ai rfl (ak (rgn (by kernel_rfl) (pu (iv d) (by kernel_rfl) (ckE F (fun aB F=>ph (cj rfl rfl aB (pu (iv (d+1)) (by kernel_rfl) (aa (⟨rfl,m3,Nat.lt_succ_self _,⟨d+1,m3,⟨rfl,rfl,trivial⟩,I.pk [0] rfl rfl,F,rfl⟩⟩)))))))))
 intro ρ w hJ
 obtain ⟨hag,I,F⟩:=hJ
 obtain ⟨ρ,rfl⟩:=hag.form; clear hag
 unfold F16j1 at F
 refine ab (ab (rgn (by kernel_rfl) (pu (iv 0) (by kernel_rfl) (aa (au (cb (fun m ρ w=>∃ (k:Int) (mm:Nat),cd ρ [(1,pt g),(4,iv k)]∧Inv [] w0 w [(some g,blk [.slice e a.length f,.slice i b.length j] 25)]∧F16l2 a b N mm k=some r∧mm=m) (m:=N) ⟨0,N,⟨rfl,rfl,trivial⟩,I.pk [0] rfl rfl,F,rfl⟩ ?_))))))
 rintro m ρ w ⟨k,mm,hag,I,F,hm⟩
 subst hm; obtain ⟨ρ,rfl⟩:=hag.form; clear hag
 obtain _ | m2:=mm
 ·cases (show (none:Option Int)=some r from F)
 replace F:F16b2 a b N (F16l2 a b N m2) k=some r:=F; unfold F16b2 at F
 refine ab (ab (rgn (by kernel_rfl) (pu2 (iv k) (.pointer (some ⟨g,1,none⟩)) (by kernel_rfl) (ph (ag I 0 (.slice i b.length j) Try.isAgg23 rfl rfl rfl (pu (iv ((b.length:Nat):Int)) (by kernel_rfl) (ifN F (fun C F=>?_) (fun C F=>?_))))))))
 ·
  refine ph (cm rfl rfl (fun h=>absurd h C) (fun _=>aa (ai rfl (bw (ab (rgn (by kernel_rfl) (pu (iv 0) (by kernel_rfl) (aa (aj ?_)))))))))
  cases F
  exact ⟨_,Ret.r1 rfl rfl,⟨rfl,I.below⟩⟩
 refine ph (cm rfl rfl (fun _=>?_) (fun h=>absurd C h))
 refine aa (ah rfl (ak (ab (au (ab (gm 18 I (by kernel_rfl) (zp (.pointer (some ⟨g,1,none⟩)) (fun _=>(by kernel_rfl)) (zc (.slice i b.length j) (fun w I=>ag I 0 (.slice i b.length j) Try.isAgg23 rfl rfl rfl br) (zp (iv k) (fun _=>(by kernel_rfl)) (gdE F (fun W F=>bt F (fun l D F=>?_))))))))))))
 obtain ⟨E,G,X,Y,Z⟩:=K.at_ eCe_len (by decide) D
 refine zc (.pointer (some ⟨E,G+(k).toNat * 3,none⟩)) (fun w I=>cn (k).toNat Try.underlying23 Try.sizeOf32 rfl X rfl (Int.toNat_of_nonneg W).symm (fa D rfl) br) (zc (.agg #[iv l.ch,iv l.ln,iv l.wo]) (fun w I=>ef I [iv l.ch,iv l.ln,iv l.wo] Try.isAgg32 Try.sizeOf32 rfl rfl Y (by simp) Z br) (bt F (fun aC aD F=>zc (iv aC) (fun w I=>co 22 [.agg #[iv l.ch,iv l.ln,iv l.wo]] (by kernel_rfl) (L22 _ l _ aD) (fun v' w' h=>h)) (ifN F (fun H F=>?_) (fun H F=>?_)))))
 ·
  refine zc bT (fun w I=>de rfl rfl (fun _=>br) (fun h=>absurd h H)) (zp bT (fun _=>(by kernel_rfl)) (zf 9 (by kernel_rfl) (zp bT (fun _=>(by kernel_rfl)) (zh (fun w I=>aa (ah rfl (ab (rgn (by kernel_rfl) (pu (iv 42) (by kernel_rfl) (aa (aj ?_)))))))))))
  cases F
  exact ⟨_,Ret.r1 rfl rfl,⟨rfl,I.below⟩⟩
 refine zc bF (fun w I=>de rfl rfl (fun h=>absurd H h) (fun _=>br)) (zp bF (fun _=>(by kernel_rfl)) (zo (.agg #[.slice e a.length f,.slice i b.length j]) (by kernel_rfl) (fun w I=>ma I 0 Try.isAgg25 Try.sizeOf25 rfl rfl rfl br) (zq (.pointer (some ⟨g,1,none⟩)) (by kernel_rfl) (fun _=>(by kernel_rfl)) (zo (.slice i b.length j) (by kernel_rfl) (fun w I=>ag I 0 (.slice i b.length j) Try.isAgg23 rfl rfl rfl br) (zq (iv k) (by kernel_rfl) (fun _=>(by kernel_rfl)) (zo (.pointer (some ⟨E,G+(k).toNat * 3,none⟩)) (by kernel_rfl) (fun w I=>cn (k).toNat Try.underlying23 Try.sizeOf32 rfl X rfl (Int.toNat_of_nonneg W).symm (fa D rfl) br) (zq (.pointer (some ⟨E,G+(k).toNat * 3,none⟩)) (by kernel_rfl) (fun _=>(by kernel_rfl)) (zo (iv l.ch) (by kernel_rfl) (fun w I=>dj I (iv l.ch) Try.isAgg3 rfl Y (by simp) (Z 0 _ rfl) br) (bt F (fun aE aF F=>zo (iv aE) (by kernel_rfl) (fun w I=>co 63 [.agg #[.slice e a.length f,.slice i b.length j],iv l.ch] (by kernel_rfl) (L63 _ e f a i j b l.ch (p.inv0 I) a0 a1 (K.inv0 I) a2 a3 N _ aF) (fun v' w' h=>h)) (ifE F (fun J F=>?_) (fun J F=>?_))))))))))))
 ·
  refine zo bT (by kernel_rfl) (fun w I=>cm rfl rfl (fun _=>br) (fun h=>absurd J h)) (zp bT (fun _=>(by kernel_rfl)) (zh (fun w I=>aa (ah rfl (ab (rgn (by kernel_rfl) (pu (iv 42) (by kernel_rfl) (aa (aj ?_)))))))))
  cases F
  exact ⟨_,Ret.r1 rfl rfl,⟨rfl,I.below⟩⟩
 refine zo bF (by kernel_rfl) (fun w I=>cm rfl rfl (fun h=>absurd h J) (fun _=>br)) (zp bF (fun _=>(by kernel_rfl)) (zh (fun w I=>aa (ai rfl (ak (rgn (by kernel_rfl) (pu (iv k) (by kernel_rfl) (ckE F (fun aG F=>ph (cj rfl rfl aG (pu (iv (k+1)) (by kernel_rfl) (aa (⟨rfl,m2,Nat.lt_succ_self _,⟨k+1,m2,⟨rfl,rfl,trivial⟩,I.pk [0] rfl rfl,F,rfl⟩⟩)))))))))))))
theorem L24 (w0:World) (a:Cl) (r:Int) (F:F24 a=some r):cc Try.prog 24 [.agg #[iv a.fam,iv a.hd,iv a.fr,iv a.to]] w0 fun v w=>v=iv r∧Below w0.heap.size w0 w:=by
 refine az (n:=26) Try.func24 rfl Try.ntmps24 rfl ?_
 have I:=Inv.start w0
 unfold F24 at F
 refine ab (rgn (by kernel_rfl) (ph (ca I _ rfl fun b w I=>pu (iv 0) (by kernel_rfl) (aa (ab (ab (rgn (by kernel_rfl) (pu (pt b) (by kernel_rfl) (ph (ag I 0 (iv a.fam) Try.isAgg3 rfl rfl rfl (bt F (fun l i F=>ifN F (fun d F=>?_) (fun d F=>?_)))))))))))))
 ·
  refine ph (ac I 61 _ _ (by kernel_rfl) (cc.mono (L61 _ a.fam 1 99 _ i) (fun v' w' h=>⟨h.1.trans (congrArg Value.bool (Bool.eq_false_iff.2 d)),h.2⟩)) fun w I=>pu2 bT bT (by kernel_rfl) (sf 4 (by kernel_rfl) (pu2 bT bT (by kernel_rfl) (sf 6 (by kernel_rfl) (pu2 bT bT (by kernel_rfl) (sf 3 (by kernel_rfl) (pu bT (by kernel_rfl) (aa (ah rfl (ab (rgn (by kernel_rfl) (pu (iv 43) (by kernel_rfl) (aa (aj ?_))))))))))))))
  cases F
  exact ⟨_,Ret.r1 rfl rfl,⟨rfl,I.below⟩⟩


 refine ph (ac I 61 _ _ (by kernel_rfl) (cc.mono (L61 _ a.fam 1 99 _ i) (fun v' w' h=>⟨h.1.trans (congrArg Value.bool d),h.2⟩)) fun w I=>pu2 bF bF (by kernel_rfl) (pup (.pointer (some ⟨b,1,none⟩)) (by kernel_rfl) (aw (by kernel_rfl) (ag I 0 (iv a.hd) Try.isAgg3 rfl rfl rfl (bt F (fun m j F=>ifN F (fun e F=>?_) (fun e F=>?_)))))))
 ·
  refine aw (by kernel_rfl) (ac I 61 _ _ (by kernel_rfl) (cc.mono (L61 _ a.hd 1 20 _ j) (fun v' w' h=>⟨h.1.trans (congrArg Value.bool (Bool.eq_false_iff.2 e)),h.2⟩)) fun w I=>pup bT (by kernel_rfl) (pu2 bT bT (by kernel_rfl) (sf 6 (by kernel_rfl) (pu2 bT bT (by kernel_rfl) (sf 3 (by kernel_rfl) (pu bT (by kernel_rfl) (aa (ah rfl (ab (rgn (by kernel_rfl) (pu (iv 43) (by kernel_rfl) (aa (aj ?_)))))))))))))
  cases F
  exact ⟨_,Ret.r1 rfl rfl,⟨rfl,I.below⟩⟩
 refine aw (by kernel_rfl) (ac I 61 _ _ (by kernel_rfl) (cc.mono (L61 _ a.hd 1 20 _ j) (fun v' w' h=>⟨h.1.trans (congrArg Value.bool e),h.2⟩)) fun w I=>pup bF (by kernel_rfl) (pu2 bF bF (by kernel_rfl) (pup (.pointer (some ⟨b,2,none⟩)) (by kernel_rfl) (aw (by kernel_rfl) (ag I 0 (iv a.fr) Try.isAgg3 rfl rfl rfl (pup (.pointer (some ⟨b,3,none⟩)) (by kernel_rfl) (aw (by kernel_rfl) (ag I 0 (iv a.to) Try.isAgg3 rfl rfl rfl (bt F (fun o k F=>ifN F (fun f F=>?_) (fun f F=>?_)))))))))))
 ·
  refine aw (by kernel_rfl) (ac I 61 _ _ (by kernel_rfl) (cc.mono (L61 _ a.fr 0 a.to _ k) (fun v' w' h=>⟨h.1.trans (congrArg Value.bool (Bool.eq_false_iff.2 f)),h.2⟩)) fun w I=>pup bT (by kernel_rfl) (pu2 bT bT (by kernel_rfl) (sf 3 (by kernel_rfl) (pu bT (by kernel_rfl) (aa (ah rfl (ab (rgn (by kernel_rfl) (pu (iv 43) (by kernel_rfl) (aa (aj ?_)))))))))))
  cases F
  exact ⟨_,Ret.r1 rfl rfl,⟨rfl,I.below⟩⟩
 refine aw (by kernel_rfl) (ac I 61 _ _ (by kernel_rfl) (cc.mono (L61 _ a.fr 0 a.to _ k) (fun v' w' h=>⟨h.1.trans (congrArg Value.bool f),h.2⟩)) fun w I=>pup bF (by kernel_rfl) (pu2 bF bF (by kernel_rfl) (pup (.pointer (some ⟨b,3,none⟩)) (by kernel_rfl) (aw (by kernel_rfl) (ag I 0 (iv a.to) Try.isAgg3 rfl rfl rfl (ifE F (fun g F=>?_) (fun g F=>?_)))))))
 ·
  refine aw (by kernel_rfl) (iq rfl rfl (fun _=>?_) (fun h=>absurd g h))
  refine pu bT (by kernel_rfl) (aa (ah rfl (ab (rgn (by kernel_rfl) (pu (iv 43) (by kernel_rfl) (aa (aj ?_)))))))
  cases F
  exact ⟨_,Ret.r1 rfl rfl,⟨rfl,I.below⟩⟩
 refine aw (by kernel_rfl) (iq rfl rfl (fun h=>absurd h g) (fun _=>pu bF (by kernel_rfl) (aa (ai rfl (ak (ab (rgn (by kernel_rfl) (pu (iv 0) (by kernel_rfl) (aa (aj ?_))))))))))
 cases F
 exact ⟨_,Ret.r1 rfl rfl,⟨rfl,I.below⟩⟩
theorem L65 (w0:World) (p:Option Addr) (q:Nat) (j:List Ch) (k:Option Addr) (l:Nat) (e:List Ce) (f:Option Addr) (g:Nat) (a:List Cl) (Y:bi w0 p (al eCh j)) (Z:j.length≤9223372036854775807) (a0:j.length≤q) (a1:bi w0 k (al eCe e)) (a2:e.length≤9223372036854775807) (a3:e.length≤l) (H:bi w0 f (al eCl a)) (a4:a.length≤9223372036854775807) (a5:a.length≤g) (N:Nat) (r:Bool) (F:F65 N j e a=some r):cc Try.prog 65 [.agg #[.slice p j.length q,.slice k e.length l],.slice f a.length g] w0 fun v w=>v=.bool r∧Below w0.heap.size w0 w:=by
 refine az (n:=49) Try.func65 rfl Try.ntmps65 rfl ?_
 have I:=Inv.start w0
 unfold F65 at F
 refine ab (rgn (by kernel_rfl) (ph (ca I _ rfl fun o w I=>pu bF (by kernel_rfl) (aa (dn (fun ρ w=>cd ρ [(1,.slice f a.length g)]∧Inv [] w0 w []∧F65j1 a=some r) ?_ ?_)))))
 ·
  refine ab (rgn (by kernel_rfl) (pu (iv 0) (by kernel_rfl) (aa (au (cb (fun m ρ w=>∃ (b:Int) (mm:Nat),cd ρ [(1,.slice f a.length g),(2,pt o),(5,iv b)]∧Inv [] w0 w [(some o,blk [.slice p j.length q,.slice k e.length l] 25)]∧F65l2 e a N mm b=some r∧mm=m) (m:=N) ⟨0,N,⟨rfl,rfl,rfl,trivial⟩,I.pk [0] rfl rfl,F,rfl⟩ ?_)))))
  rintro m ρ w ⟨b,mm,hag,I,F,hm⟩
  subst hm; obtain ⟨ρ,rfl⟩:=hag.form; clear hag
  obtain _ | m2:=mm
  ·cases (show (none:Option Bool)=some r from F)
  replace F:F65b2 e a N (F65l2 e a N m2) b=some r:=F; unfold F65b2 at F
  refine ab (ab (rgn (by kernel_rfl) (pu3 (iv b) (.slice f a.length g) (iv ((a.length:Nat):Int)) (by kernel_rfl) (ifN F (fun x F=>?_) (fun x F=>?_)))))
  ·
   refine ph (cm rfl rfl (fun h=>absurd h x) (fun _=>aa (ai rfl (bw (.inl ⟨rfl,⟨⟨rfl,trivial⟩,I.pk [] rfl rfl,F⟩⟩)))))
  refine ph (cm rfl rfl (fun _=>?_) (fun h=>absurd x h))
  refine aa (ah rfl (ak (dn (fun ρ w=>cd ρ [(1,.slice f a.length g),(2,pt o),(5,iv b)]∧Inv [] w0 w [(some o,blk [.slice p j.length q,.slice k e.length l] 25)]∧F65j3 (F65l2 e a N m2) b=some r) ?_ ?_)))
  ·
   refine au (ab (ab (gm 17 I (by kernel_rfl) (zp2 (.slice f a.length g) (iv b) (fun _=>(by kernel_rfl)) (gdE F (fun y F=>bt F (fun d u F=>?_)))))))
   obtain ⟨s,t,z,A,B⟩:=H.at_ eb (by decide) u
   refine zc (.pointer (some ⟨s,t+(b).toNat * 4,none⟩)) (fun w I=>cn (b).toNat Try.underlying26 Try.sizeOf34 rfl z rfl (Int.toNat_of_nonneg y).symm (fa u rfl) br) (zc (.agg #[iv d.fam,iv d.hd,iv d.fr,iv d.to]) (fun w I=>ef I [iv d.fam,iv d.hd,iv d.fr,iv d.to] Try.isAgg34 Try.sizeOf34 rfl rfl A (by simp) B br) (bt F (fun O P F=>zc (iv O) (fun w I=>co 24 [.agg #[iv d.fam,iv d.hd,iv d.fr,iv d.to]] (by kernel_rfl) (L24 _ d _ P) (fun v' w' h=>h)) (ifN F (fun C F=>?_) (fun C F=>?_)))))
   ·
    refine zc bT (fun w I=>de rfl rfl (fun _=>br) (fun h=>absurd h C)) (zp bT (fun _=>(by kernel_rfl)) (zf 9 (by kernel_rfl) (zp bT (fun _=>(by kernel_rfl)) (zh (fun w I=>aa (ah rfl (ab (rgn (by kernel_rfl) (pu bF (by kernel_rfl) (aa (aj ?_)))))))))))
    cases F
    exact ⟨_,Ret.r1 rfl rfl,⟨rfl,I.below⟩⟩
   refine zc bF (fun w I=>de rfl rfl (fun h=>absurd C h) (fun _=>br)) (zp bF (fun _=>(by kernel_rfl)) (zq (.slice f a.length g) (by kernel_rfl) (fun _=>(by kernel_rfl)) (zq (iv b) (by kernel_rfl) (fun _=>(by kernel_rfl)) (zo (.pointer (some ⟨s,t+(b).toNat * 4,none⟩)) (by kernel_rfl) (fun w I=>cn (b).toNat Try.underlying26 Try.sizeOf34 rfl z rfl (Int.toNat_of_nonneg y).symm (fa u rfl) br) (zq (.pointer (some ⟨s,t+(b).toNat * 4+3,none⟩)) (by kernel_rfl) (fun _=>(by kernel_rfl)) (zo (iv d.to) (by kernel_rfl) (fun w I=>dj I (iv d.to) Try.isAgg3 rfl A (by simp) (B 3 _ rfl) br) (zq (.pointer (some ⟨o,1,none⟩)) (by kernel_rfl) (fun _=>(by kernel_rfl)) (zo (.slice k e.length l) (by kernel_rfl) (fun w I=>ag I 0 (.slice k e.length l) Try.isAgg23 rfl rfl rfl br) (zo (iv (e.length:Int)) (by kernel_rfl) (fun w I=>kl (iv ((e.length:Nat):Int)) (by kernel_rfl) br) (ifE F (fun D F=>?_) (fun D F=>?_)))))))))))
   ·
    refine zo bT (by kernel_rfl) (fun w I=>iq rfl rfl (fun _=>br) (fun h=>absurd D h)) (zp bT (fun _=>(by kernel_rfl)) (zh (fun w I=>aa (ah rfl (ab (rgn (by kernel_rfl) (pu bF (by kernel_rfl) (aa (aj ?_)))))))))
    cases F
    exact ⟨_,Ret.r1 rfl rfl,⟨rfl,I.below⟩⟩
   refine zo bF (by kernel_rfl) (fun w I=>iq rfl rfl (fun h=>absurd h D) (fun _=>br)) (zp bF (fun _=>(by kernel_rfl)) (zh (fun w I=>aa (ai rfl (ak (ab (rgn (by kernel_rfl) (pu (iv 0) (by kernel_rfl) (aa (au (cb (fun m ρ w=>∃ (i:Int) (mm:Nat),cd ρ [(1,.slice f a.length g),(2,pt o),(5,iv b),(6,iv i)]∧Inv [] w0 w [(some o,blk [.slice p j.length q,.slice k e.length l] 25)]∧F65l4 a (F65l2 e a N m2) b d mm i=some r∧mm=m) (m:=N) ⟨0,N,⟨rfl,rfl,rfl,rfl,trivial⟩,I.pk [0] rfl rfl,F,rfl⟩ ?_)))))))))))
   rintro m ρ w ⟨i,mm,hag,I,F,hm⟩
   subst hm; obtain ⟨ρ,rfl⟩:=hag.form; clear hag
   obtain _ | m4:=mm
   ·cases (show (none:Option Bool)=some r from F)
   replace F:F65b4 a (F65l2 e a N m2) b d (F65l4 a (F65l2 e a N m2) b d m4) i=some r:=F; unfold F65b4 at F
   refine ab (ab (rgn (by kernel_rfl) (pu2 (iv i) (iv b) (by kernel_rfl) (ifN F (fun E F=>?_) (fun E F=>?_)))))
   ·
    refine ph (cm rfl rfl (fun h=>absurd h E) (fun _=>aa (ai rfl (bw (.inl ⟨rfl,⟨⟨rfl,rfl,rfl,trivial⟩,I.pk [0] rfl rfl,F⟩⟩)))))
   refine ph (cm rfl rfl (fun _=>?_) (fun h=>absurd E h))
   refine aa (ah rfl (ak (ab (au (ab (gm 11 I (by kernel_rfl) (zp2 (.slice f a.length g) (iv i) (fun _=>(by kernel_rfl)) (gdE F (fun Q F=>bt F (fun J K F=>?_))))))))))
   obtain ⟨L,M,R,S,T⟩:=H.at_ eb (by decide) K
   refine zc (.pointer (some ⟨L,M+(i).toNat * 4,none⟩)) (fun w I=>cn (i).toNat Try.underlying26 Try.sizeOf34 rfl R rfl (Int.toNat_of_nonneg Q).symm (fa K rfl) br) (zp (.pointer (some ⟨L,M+(i).toNat * 4,none⟩)) (fun _=>(by kernel_rfl)) (zc (iv J.fam) (fun w I=>dj I (iv J.fam) Try.isAgg3 rfl S (by simp) (T 0 _ rfl) br) (zp2 (.slice f a.length g) (iv b) (fun _=>(by kernel_rfl)) (zc (.pointer (some ⟨s,t+(b).toNat * 4,none⟩)) (fun w I=>cn (b).toNat Try.underlying26 Try.sizeOf34 rfl z rfl (Int.toNat_of_nonneg y).symm (fa u rfl) br) (zp (.pointer (some ⟨s,t+(b).toNat * 4,none⟩)) (fun _=>(by kernel_rfl)) (zc (iv d.fam) (fun w I=>dj I (iv d.fam) Try.isAgg3 rfl A (by simp) (B 0 _ rfl) br) (ifE F (fun G F=>?_) (fun G F=>?_))))))))
   ·
    refine zc bT (fun w I=>di rfl rfl (fun _=>br) (fun h=>absurd G h)) (zh (fun w I=>aa (ah rfl (ab (rgn (by kernel_rfl) (pu bF (by kernel_rfl) (aa (aj ?_))))))))
    cases F
    exact ⟨_,Ret.r1 rfl rfl,⟨rfl,I.below⟩⟩
   refine zc bF (fun w I=>di rfl rfl (fun h=>absurd h G) (fun _=>br)) (zh (fun w I=>aa (ai rfl (ak (rgn (by kernel_rfl) (pu (iv i) (by kernel_rfl) (ckE F (fun U F=>ph (cj rfl rfl U (pu (iv (i+1)) (by kernel_rfl) (aa (⟨rfl,m4,Nat.lt_succ_self _,⟨i+1,m4,⟨rfl,rfl,rfl,rfl,trivial⟩,I.pk [0] rfl rfl,F,rfl⟩⟩))))))))))))
  intro ρ w hJ
  obtain ⟨hag,I,F⟩:=hJ
  obtain ⟨ρ,rfl⟩:=hag.form; clear hag
  unfold F65j3 at F
  refine rgn (by kernel_rfl) (pu (iv b) (by kernel_rfl) (ckE F (fun V F=>ph (cj rfl rfl V (pu (iv (b+1)) (by kernel_rfl) (aa (⟨rfl,m2,Nat.lt_succ_self _,⟨b+1,m2,⟨rfl,rfl,rfl,trivial⟩,I.pk [0] rfl rfl,F,rfl⟩⟩)))))))
 intro ρ w hJ
 obtain ⟨hag,I,F⟩:=hJ
 obtain ⟨ρ,rfl⟩:=hag.form; clear hag
 unfold F65j1 at F
 refine ab (rgn (by kernel_rfl) (pu2 (.slice f a.length g) (iv ((a.length:Nat):Int)) (by kernel_rfl) (bt F (fun W X F=>ph (ac I 61 _ _ (by kernel_rfl) (L61 _ (a.length:Int) 1 12 _ X) fun w I=>pu (.bool W) (by kernel_rfl) (aa (aj ?_)))))))
 cases F
 exact ⟨_,Ret.r1 rfl rfl,⟨rfl,I.below⟩⟩


theorem L18 (w0:World) (e:Option Addr) (f:Nat) (a:List Ch) (g:Option Addr) (i:Nat) (b:List Ce) (j:Option Addr) (k:Nat) (d:List Cl) (l:bi w0 e (al eCh a)) (m:a.length≤9223372036854775807) (o:a.length≤f) (p:bi w0 g (al eCe b)) (q:b.length≤9223372036854775807) (s:b.length≤i) (x:bi w0 j (al eCl d)) (y:d.length≤9223372036854775807) (z:d.length≤k) (N:Nat) (r:Int) (F:F18 N a b d=some r):cc Try.prog 18 [.agg #[.slice e a.length f,.slice g b.length i],.slice j d.length k] w0 fun v w=>v=iv r∧Below w0.heap.size w0 w:=by
 refine az (n:=12) Try.func18 rfl Try.ntmps18 rfl ?_
 have I:=Inv.start w0
 unfold F18 at F
 refine ab (rgn (by kernel_rfl) (ph (ca I _ rfl fun C w I=>pu (iv 0) (by kernel_rfl) (aa (ab (ab (rgn (by kernel_rfl) (ph (ma I 0 Try.isAgg25 Try.sizeOf25 rfl rfl rfl (bt F (fun D B F=>ph (ac I 16 _ _ (by kernel_rfl) (L16 _ e f a g i b (l.inv0 I) m o (p.inv0 I) q s N _ B) fun w I=>ifN F (fun t F=>?_) (fun t F=>?_)))))))))))))
 ·
  refine ph (de rfl rfl (fun _=>?_) (fun h=>absurd h t))
  refine aa (ah rfl (ab (rgn (by kernel_rfl) (pu (iv 42) (by kernel_rfl) (aa (aj ?_))))))
  cases F
  exact ⟨_,Ret.r1 rfl rfl,⟨rfl,I.below⟩⟩


 refine ph (de rfl rfl (fun h=>absurd t h) (fun _=>aa (ai rfl (ak (ab (ab (rgn (by kernel_rfl) (ph (ma I 0 Try.isAgg25 Try.sizeOf25 rfl rfl rfl (pu (.slice j d.length k) (by kernel_rfl) (bt F (fun E A F=>ifE F (fun u F=>?_) (fun u F=>?_)))))))))))))
 ·
  refine ph (ac I 65 _ _ (by kernel_rfl) (cc.mono (L65 _ e f a g i b j k d (l.inv0 I) m o (p.inv0 I) q s (x.inv0 I) y z N _ A) (fun v' w' h=>⟨h.1.trans (congrArg Value.bool u),h.2⟩)) fun w I=>pu bF (by kernel_rfl) (aa (ai rfl (ak (ab (rgn (by kernel_rfl) (pu (iv 0) (by kernel_rfl) (aa (aj ?_)))))))))
  cases F
  exact ⟨_,Ret.r1 rfl rfl,⟨rfl,I.below⟩⟩
 refine ph (ac I 65 _ _ (by kernel_rfl) (cc.mono (L65 _ e f a g i b j k d (l.inv0 I) m o (p.inv0 I) q s (x.inv0 I) y z N _ A) (fun v' w' h=>⟨h.1.trans (congrArg Value.bool (Bool.eq_false_iff.2 u)),h.2⟩)) fun w I=>pu bT (by kernel_rfl) (aa (ah rfl (ab (rgn (by kernel_rfl) (pu (iv 44) (by kernel_rfl) (aa (aj ?_))))))))
 cases F
 exact ⟨_,Ret.r1 rfl rfl,⟨rfl,I.below⟩⟩
end Go.K
