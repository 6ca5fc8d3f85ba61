import Derived.Test.YtkmnjiejlgoglaaEWc
namespace Go.K
open Go.Proofs Go.RowKit
set_option linter.unusedVariables false
set_option linter.unusedSimpArgs false
set_option maxRecDepth 100000
attribute [local irreducible] Seq cw CallV AnyE opX
theorem L95 (w0:World) (E:Option Addr) (G:Nat) (g:List Ch) (B:Option Addr) (C:Nat) (e:List Ce) (aF:Option Addr) (aG:Nat) (Y:List Cl) (M:Option Addr) (O:Nat) (i:List (List Gn)) (Z:List D72) (bR:bi w0 E (al eCh g)) (bS:g.length≤9223372036854775807) (bU:g.length≤G) (bV:bi w0 B (al eCe e)) (bW:e.length≤9223372036854775807) (bX:e.length≤C) (bY:bi w0 aF (al eCl Y)) (cO:Y.length≤9223372036854775807) (cP:Y.length≤aG) (bB:bi w0 M (al eD72 Z)) (aH:Z.map D72.p=i) (aP:∀ d∈Z,okD72 w0 d) (cQ:i.length≤9223372036854775807) (cR:i.length≤O) (hz:0 < (i.length:Int)) (N:Nat) (r:List (List Gn)) (F:F95 N g e Y i=some r):cc Try.prog 95 [.agg #[.slice E g.length G,.slice B e.length C],.slice aF Y.length aG,.slice M i.length O] w0 fun v w=>∃ (A:Option Addr) (c:Nat) (dl:List D72),v=.slice A dl.length c∧bi w A (al eD72 dl)∧(∀ d∈dl,okD72 w d)∧dl.map D72.p=r∧dl.length≤9223372036854775807∧dl.length≤c∧Below w0.heap.size w0 w:=by
 refine az (n:=128) Try.func95 rfl Try.ntmps95 rfl ?_
 have I:=Inv.start w0
 unfold F95 at F
 refine ab (rgn (by kernel_rfl) (ph (ca I _ rfl fun q w I=>pu (.slice none 0 0) (by kernel_rfl) (aa (ab (rgn (by kernel_rfl) (pu (.slice none 0 0) (by kernel_rfl) (aa (ab (rgn (by kernel_rfl) (pu (.pointer (some ⟨q,1,none⟩)) (by kernel_rfl) (ph (ag I 0 (.slice B e.length C) Try.isAgg23 rfl rfl rfl (pu (iv ((e.length:Nat):Int)) (by kernel_rfl) (ckE F (fun bC F=>ph (cj rfl rfl bC (gdE F (fun aI F=>gdE F (fun cS F=>ph (s_makeRowN I (enc:=eGn) ms (by decide) ((⟨0,0⟩:Gn)) Try.underlying72 (z:=.agg #[iv 0,iv 0]) (k:=2) (bytes:=16) (by kernel_rfl) rfl ((e.length:Int)+1).toNat (congrArg (Value.int .i64) (Int.toNat_of_nonneg aI).symm) (congrArg (Value.int .i64) (Int.toNat_of_nonneg aI).symm) (by omega) (by decide) fun bZ cT w I cU=>pu (slv (some bZ) ((List.replicate ((e.length:Int)+1).toNat (⟨0,0⟩:Gn)).length) (((e.length:Int)+1).toNat)) (by kernel_rfl) (aa (ab (ab (rgn (by kernel_rfl) (pu2 (.slice M i.length O) (iv ((i.length:Nat):Int)) (by kernel_rfl) (ph (fh rfl rfl (fun _=>?_) (fun h=>absurd hz h)))))))))))))))))))))))))))))
 refine aa (ah rfl (rgn (by kernel_rfl) (pu (.slice M i.length O) (by kernel_rfl) (bt F (fun l bD F=>?_)))))
 obtain ⟨Q,R,bE⟩:=getD72 aH bD
 obtain ⟨cV,cW,c0,c4,c5⟩:=bB.at_ eD72_len (by decide) bE
 refine ph (cn 0 Try.underlying161 Try.sizeOf72 rfl c0 rfl rfl (fa bD rfl) (ph (dj I (.slice Q l.length R) Try.isAgg72 rfl c4 (by simp) (c5 0 _ rfl) (pu (.slice Q l.length R) (by kernel_rfl) (aa (ab (rgn (by kernel_rfl) (pu3 (.slice aF Y.length aG) (.slice aF Y.length aG) (iv ((Y.length:Nat):Int)) (by kernel_rfl) (ckE F (fun c6 F=>ph (dm rfl rfl c6 (pu2 (.slice M i.length O) (iv ((i.length:Nat):Int)) (by kernel_rfl) (ckE F (fun c7 F=>ph (dm rfl rfl c7 (gdE F (fun c8 F=>bt F (fun a bG F=>?_))))))))))))))))))
 obtain ⟨cX,cY,c9,cA,cB⟩:=bY.at_ eb (by decide) bG
 refine ph (cn ((((Y.length:Int) - 1) - (i.length:Int)).toNat) Try.underlying26 Try.sizeOf34 rfl c9 rfl (Int.toNat_of_nonneg c8).symm (fa bG rfl) (ph (ef I [iv a.fam,iv a.hd,iv a.fr,iv a.to] Try.isAgg34 Try.sizeOf34 rfl rfl cA (by simp) cB (ph (bh I _ Try.zeroValue34 rfl fun s w I=>ph (mb I 0 _ Try.sizeOf34 rfl rfl rfl rfl rfl rfl fun w I=>aa (ab (rgn (by kernel_rfl) (pu (.pointer (some ⟨q,1,none⟩)) (by kernel_rfl) (ph (ag I 2 (.slice B e.length C) Try.isAgg23 rfl rfl rfl (pu (iv ((e.length:Nat):Int)) (by kernel_rfl) (ph (cj rfl rfl bC (ph (s_makeRowN I (enc:=eGn) ms (by decide) ((⟨0,0⟩:Gn)) Try.underlying72 (z:=.agg #[iv 0,iv 0]) (k:=2) (bytes:=16) (by kernel_rfl) rfl ((e.length:Int)+1).toNat (congrArg (Value.int .i64) (Int.toNat_of_nonneg aI).symm) (congrArg (Value.int .i64) (Int.toNat_of_nonneg aI).symm) (by omega) (by decide) fun bH cC w I cD=>pu (slv (some bH) ((List.replicate ((e.length:Int)+1).toNat (⟨0,0⟩:Gn)).length) (((e.length:Int)+1).toNat)) (by kernel_rfl) (aa (dn (fun ρ w=>∃ (H:Option Nat) (P:Nat) (aQ:List Value) (D:List Gn),cd ρ [(2,.slice M i.length O),(7,.slice none 0 0),(11,slv H D.length P)]∧Inv [] w0 w [(H,blk aQ 51)]∧(Row 2 H (D.length) P aQ (al eGn D))∧F95j1 i D=some r) ?_ ?_))))))))))))))))))
 ·
  refine ab (rgn (by kernel_rfl) (pu (.pointer (some ⟨q,1,none⟩)) (by kernel_rfl) (ph (ag I 3 (.slice B e.length C) Try.isAgg23 rfl rfl rfl (pu (iv ((e.length:Nat):Int)) (by kernel_rfl) (ckE F (fun cE F=>ph (dm rfl rfl cE (pu (iv ((e.length:Int) - 1)) (by kernel_rfl) (aa (au (cb (fun m ρ w=>∃ (a2:Option Nat) (a0:Nat) (a8:List Value) (U:List Gn) (f:Int) (mm:Nat),cd ρ [(2,.slice M i.length O),(3,pt q),(7,.slice none 0 0),(8,.slice Q l.length R),(10,pt s),(11,slv a2 U.length a0),(12,iv f)]∧Inv [] w0 w [(some q,blk [.slice E g.length G,.slice B e.length C] 25),(some s,blk [iv a.fam,iv a.hd,iv a.fr,iv a.to] 34),(a2,blk a8 51)]∧(Row 2 a2 (U.length) a0 a8 (al eGn U))∧pa g e i N l a mm U f=some r∧mm=m) (m:=N) ⟨some bH,((e.length:Int)+1).toNat,cC,List.replicate ((e.length:Int)+1).toNat (⟨0,0⟩:Gn),(e.length:Int) - 1,N,⟨rfl,rfl,rfl,rfl,rfl,rfl,rfl,trivial⟩,I.pk [3,1,0] rfl rfl,(cD.to rfl rfl),F,rfl⟩ ?_))))))))))))
  rintro m ρ w ⟨a2,a0,a8,U,f,mm,hag,I,a9,F,hm⟩
  subst hm; obtain ⟨ρ,rfl⟩:=hag.form; clear hag
  obtain _ | m2:=mm
  ·cases (show (none:Option (List (List Gn)))=some r from F)
  replace F:F95b2 g e i N l a (pa g e i N l a m2) U f=some r:=F; unfold F95b2 at F
  refine ab (ab (rgn (by kernel_rfl) (pu (iv f) (by kernel_rfl) (ifN F (fun a3 F=>?_) (fun a3 F=>?_)))))
  ·
   refine ph (iq rfl rfl (fun h=>absurd h a3) (fun _=>aa (ai rfl (bw (.inl ⟨rfl,⟨a2,a0,a8,U,⟨rfl,rfl,rfl,trivial⟩,I.pk [2] rfl rfl,(a9.to rfl rfl),F⟩⟩)))))
  refine ph (iq rfl rfl (fun _=>?_) (fun h=>absurd a3 h))
  refine aa (ah rfl (ak (dn (fun ρ w=>∃ (aA:Option Nat) (aJ:Nat) (aK:List Value) (a5:List Gn),cd ρ [(2,.slice M i.length O),(3,pt q),(7,.slice none 0 0),(8,.slice Q l.length R),(10,pt s),(11,slv aA a5.length aJ),(12,iv f)]∧Inv [] w0 w [(some q,blk [.slice E g.length G,.slice B e.length C] 25),(some s,blk [iv a.fam,iv a.hd,iv a.fr,iv a.to] 34),(aA,blk aK 51)]∧(Row 2 aA (a5.length) aJ aK (al eGn a5))∧F95j3 (pa g e i N l a m2) f a5=some r) ?_ ?_)))
  ·
   refine au (ab (rgn (by kernel_rfl) (pu3 (slv a2 U.length a0) (iv f) (slv a2 U.length a0) (by kernel_rfl) (pu (iv f) (by kernel_rfl) (ckE F (fun cF F=>ph (cj rfl rfl cF (gdE F (fun cG F=>bt F (fun a1 bI F=>?_))))))))))
   obtain ⟨aR,rfl,cH⟩:=a9.at_ ms (by decide) bI
   refine ph (be ((f+1).toNat) Try.underlying72 Try.sizeOf51 rfl rfl (Int.toNat_of_nonneg cG).symm (fa bI rfl) (ph (cq I 2 [iv a1.num,iv a1.den] Try.isAgg51 Try.sizeOf51 rfl rfl rfl cH (bt F (fun cZ aS F=>?_)))))
   have d0:=a9.atS ms (by decide) aS
   refine ph (be (f).toNat Try.underlying72 Try.sizeOf51 rfl rfl (Int.toNat_of_nonneg a3).symm (fa aS rfl) ?_)
   have:=fa aS rfl
   refine ph (aq I 2 2 [iv a1.num,iv a1.den] Try.sizeOf51 rfl rfl rfl rfl rfl (a9.room (by omega)) ?_)
   intro w I
   have aT:=a9.put ms (by decide) (f).toNat a1 (by omega)
   obtain ⟨aU,hcl⟩:∃ z,z=le a8 ((f).toNat * 2) (eGn a1):=⟨_,rfl⟩
   rw [← hcl] at aT
   have I:Inv [] w0 w [(some q,blk [.slice E g.length G,.slice B e.length C] 25),(some s,blk [iv a.fam,iv a.hd,iv a.fr,iv a.to] 34),(some aR,blk aU 51)]:=by rw [hcl]; exact I
   clear hcl
   refine aa (ab (ab (rgn (by kernel_rfl) (pu2 (iv f) (.pointer (some ⟨s,2,none⟩)) (by kernel_rfl) (ph (ag I 1 (iv a.fr) Try.isAgg3 rfl rfl rfl (ifE F (fun aV F=>?_) (fun aV F=>?_))))))))
   ·
    refine ph (cm rfl rfl (fun _=>?_) (fun h=>absurd aV h))
    refine aa (ah rfl (bw (.inl ⟨rfl,⟨some aR,a0,aU,(U).set (f).toNat a1,⟨rfl,rfl,rfl,rfl,rfl,(slv_n (km rfl)),rfl,trivial⟩,I.pk [0,1,2] rfl rfl,(aT.to rfl (km rfl)),F⟩⟩)))
   refine ph (cm rfl rfl (fun h=>absurd h aV) (fun _=>aa (ai rfl (ak (ab (rgn (by kernel_rfl) (pu2 (iv f) (iv f) (by kernel_rfl) (aa (au (cb (fun m ρ w=>∃ (V:Option Nat) (S:Nat) (W:List Value) (t:List Gn) (o:Int) (mm:Nat),cd ρ [(2,.slice M i.length O),(3,pt q),(7,.slice none 0 0),(8,.slice Q l.length R),(10,pt s),(11,slv V t.length S),(12,iv f),(13,iv o)]∧Inv [] w0 w [(some q,blk [.slice E g.length G,.slice B e.length C] 25),(some s,blk [iv a.fam,iv a.hd,iv a.fr,iv a.to] 34),(V,blk W 51)]∧(Row 2 V (t.length) S W (al eGn t))∧py g e N (pa g e i N l a m2) l a f mm t o=some r∧mm=m) (m:=N) ⟨some aR,a0,aU,(U).set (f).toNat a1,f,N,⟨rfl,rfl,rfl,rfl,rfl,(slv_n (km rfl)),rfl,rfl,trivial⟩,I.pk [0,1,2] rfl rfl,(aT.to rfl (km rfl)),F,rfl⟩ ?_))))))))))
   rintro m ρ w ⟨V,S,W,t,o,mm,hag,I,a6,F,hm⟩
   subst hm; obtain ⟨ρ,rfl⟩:=hag.form; clear hag
   obtain _ | m4:=mm
   ·cases (show (none:Option (List (List Gn)))=some r from F)
   replace F:F95b4 g e N (pa g e i N l a m2) l a f (py g e N (pa g e i N l a m2) l a f m4) t o=some r:=F; unfold F95b4 at F
   refine ab (ab (rgn (by kernel_rfl) (pu2 (iv o) (.pointer (some ⟨s,3,none⟩)) (by kernel_rfl) (ph (ag I 1 (iv a.to) Try.isAgg3 rfl rfl rfl (ifN F (fun aW F=>?_) (fun aW F=>?_)))))))
   ·
    refine ph (fq rfl rfl (fun h=>absurd h aW) (fun _=>aa (ai rfl (bw (.inl ⟨rfl,⟨V,S,W,t,⟨rfl,rfl,rfl,rfl,rfl,rfl,rfl,trivial⟩,I.pk [0,1,2] rfl rfl,(a6.to rfl rfl),F⟩⟩)))))
   refine ph (fq rfl rfl (fun _=>?_) (fun h=>absurd aW h))
   refine aa (ah rfl (ak (dn (fun ρ w=>∃ (aB:Option Nat) (aL:Nat) (aM:List Value) (a7:List Gn),cd ρ [(2,.slice M i.length O),(3,pt q),(7,.slice none 0 0),(8,.slice Q l.length R),(10,pt s),(11,slv aB a7.length aL),(12,iv f),(13,iv o)]∧Inv [] w0 w [(some q,blk [.slice E g.length G,.slice B e.length C] 25),(some s,blk [iv a.fam,iv a.hd,iv a.fr,iv a.to] 34),(aB,blk aM 51)]∧(Row 2 aB (a7.length) aL aM (al eGn a7))∧F95j5 (py g e N (pa g e i N l a m2) l a f m4) o a7=some r) ?_ ?_)))
   ·
    refine au (ab (ab (rgn (by kernel_rfl) (pu2 (.slice Q l.length R) (iv o) (by kernel_rfl) (ckE F (fun aX F=>ph (cj rfl rfl aX (gdE F (fun aY F=>bt F (fun J aN F=>?_))))))))))
    obtain ⟨bJ,bK,aZ,b0,b1⟩:=((aP _ (mem_of_get bE))).1.at_ ms (by decide) aN
    refine ph (cn ((o+1).toNat) Try.underlying72 Try.sizeOf51 rfl aZ rfl (Int.toNat_of_nonneg aY).symm (fa aN rfl) (pu (.pointer (some ⟨bJ,bK+((o+1).toNat) * 2+1,none⟩)) (by kernel_rfl) (ph (dj I (iv J.den) Try.isAgg3 rfl b0 (by simp) (b1 1 _ rfl) (ifE F (fun b2 F=>?_) (fun b2 F=>?_))))))
    ·
     refine ph (di rfl rfl (fun _=>?_) (fun h=>absurd b2 h))
     refine aa (ah rfl (bw (.inl ⟨rfl,⟨V,S,W,t,⟨rfl,rfl,rfl,rfl,rfl,rfl,rfl,rfl,trivial⟩,I.pk [0,1,2] rfl rfl,(a6.to rfl rfl),F⟩⟩)))
    refine ph (di rfl rfl (fun h=>absurd h b2) (fun _=>aa (ai rfl (ak (ab (bt F (fun b3 cI F=>bt F (fun x cJ F=>wp_toks [tr (fun _=>(.agg #[.slice E g.length G,.slice B e.length C])) [9],tv (fun _=>(iv f)),tv (fun _=>(iv o)),tr (fun _=>(iv b3)) [],tv (fun _=>(.pointer (some ⟨s,1,none⟩))),tr (fun _=>(iv a.hd)) [10],tr (fun _=>(.agg #[iv x.1,iv x.2])) [],tal 7 [iv 0,iv 0] 51,tst (fun y=>[(some (y 7).b,blk [iv x.1,iv x.2] 51)]) 7] (fun y=>[(2,.slice M i.length O),(3,pt q),(7,.slice none 0 0),(8,.slice Q l.length R),(10,pt s),(11,slv V t.length S),(12,iv f),(13,iv o),(14,.pointer (some ⟨(y 7).b,0,none⟩))]) (fun y=>[(some (y 7).b,blk [iv x.1,iv x.2] 51),(some q,blk [.slice E g.length G,.slice B e.length C] 25),(some s,blk [iv a.fam,iv a.hd,iv a.fr,iv a.to] 34),(V,blk W 51)]) I (by kernel_rfl) (fun y=>⟨(by kernel_rfl),(by kernel_rfl)⟩) (fun y=>?_) ?_))))))))
    ·
     refine tl1 [(some q,blk [.slice E g.length G,.slice B e.length C] 25)] rfl (by kernel_rfl) (fun X w I=>ma I 0 Try.isAgg25 Try.sizeOf25 rfl rfl rfl br) (tp rfl (fun _=>(by kernel_rfl)) (tp rfl (fun _=>(by kernel_rfl)) (tl0 rfl (fun X w I=>co 77 [.agg #[.slice E g.length G,.slice B e.length C],iv f,iv o] (by kernel_rfl) (L77 _ E G g B C e f o (bR.inv0 I) bS bU (bV.inv0 I) bW bX N _ cI) (fun v' w' h=>h)) (tp rfl (fun _=>(by kernel_rfl)) (tl1 [(some s,blk [iv a.fam,iv a.hd,iv a.fr,iv a.to] 34)] rfl (by kernel_rfl) (fun X w I=>ag I 0 (iv a.hd) Try.isAgg3 rfl rfl rfl br) (tl0 rfl (fun X w I=>co 83 [iv b3,iv a.hd] (by kernel_rfl) (L83 _ b3 a.hd N _ cJ) (fun v' w' h=>h)) (tA rfl Try.zeroValue51 rfl (tS [(some (y 7).b,blk [iv 0,iv 0] 51)] rfl ⟨(by kernel_rfl),(by kernel_rfl)⟩ (fun X w I=>aq I 0 2 [iv x.1,iv x.2] Try.sizeOf51 rfl rfl rfl rfl rfl (qa rfl) fun w I=>⟨rfl,I.castL (by kernel_rfl)⟩) (tn)))))))))
    intro y hp ρ w hag I
    clear hp
    generalize (y 7).b=aC at *
    obtain ⟨ρ,rfl⟩:=hag.form; clear hag
    refine dn (fun ρ w=>∃ (K:Int) (L:Int),cd ρ [(2,.slice M i.length O),(3,pt q),(7,.slice none 0 0),(8,.slice Q l.length R),(10,pt s),(11,slv V t.length S),(12,iv f),(13,iv o),(14,pt aC)]∧Inv [] w0 w [(some q,blk [.slice E g.length G,.slice B e.length C] 25),(some s,blk [iv a.fam,iv a.hd,iv a.fr,iv a.to] 34),(V,blk W 51),(some aC,blk [iv K,iv L] 51)]∧F95j6 (py g e N (pa g e i N l a m2) l a f m4) f t o K L=some r) ?_ ?_
    ·
     refine ab (gm 7 I (by kernel_rfl) (zp2 (.slice Q l.length R) (iv o) (fun _=>(by kernel_rfl)) (zc (iv (o+1)) (fun w I=>cj rfl rfl aX br) (zc (.pointer (some ⟨bJ,bK+((o+1).toNat) * 2,none⟩)) (fun w I=>cn ((o+1).toNat) Try.underlying72 Try.sizeOf51 rfl aZ rfl (Int.toNat_of_nonneg aY).symm (fa aN rfl) br) (zc (.agg #[iv J.num,iv J.den]) (fun w I=>ef I [iv J.num,iv J.den] Try.isAgg51 Try.sizeOf51 rfl rfl b0 (by simp) b1 br) (zc (.agg #[iv x.1,iv x.2]) (fun w I=>ma I 0 Try.isAgg51 Try.sizeOf51 rfl rfl rfl br) (bt F (fun d1 bL F=>ifN F (fun b4 F=>?_) (fun b4 F=>?_)))))))))
     ·
      refine zc bF (fun w I=>co 53 [.agg #[iv J.num,iv J.den],.agg #[iv x.1,iv x.2]] (by kernel_rfl) (cc.mono (L53 _ J (⟨x.1,x.2⟩:Gn) _ bL) (fun v' w' h=>⟨h.1.trans (congrArg Value.bool (Bool.eq_false_iff.2 b4)),h.2⟩)) (fun v' w' h=>h)) (zh (fun w I=>aa (ai rfl (ak (.inl ⟨rfl,⟨x.1,x.2,⟨rfl,rfl,rfl,rfl,rfl,rfl,rfl,rfl,rfl,trivial⟩,I.pk [1,2,3,0] rfl rfl,F⟩⟩)))))
     refine zc bT (fun w I=>co 53 [.agg #[iv J.num,iv J.den],.agg #[iv x.1,iv x.2]] (by kernel_rfl) (cc.mono (L53 _ J (⟨x.1,x.2⟩:Gn) _ bL) (fun v' w' h=>⟨h.1.trans (congrArg Value.bool b4),h.2⟩)) (fun v' w' h=>h)) (zh (fun w I=>aa (ah rfl (rgn (by kernel_rfl) (pu2 (.slice Q l.length R) (iv o) (by kernel_rfl) (ph (cj rfl rfl aX (ph (cn ((o+1).toNat) Try.underlying72 Try.sizeOf51 rfl aZ rfl (Int.toNat_of_nonneg aY).symm (fa aN rfl) (ph (ef I [iv J.num,iv J.den] Try.isAgg51 Try.sizeOf51 rfl rfl b0 (by simp) b1 (ph (mb I 0 _ Try.sizeOf51 rfl rfl rfl rfl rfl rfl fun w I=>aa (.inl ⟨rfl,⟨J.num,J.den,⟨rfl,rfl,rfl,rfl,rfl,rfl,rfl,rfl,rfl,trivial⟩,I.pk [1,2,3,0] rfl rfl,F⟩⟩))))))))))))))
    intro ρ w hJ
    obtain ⟨K,L,hag,I,F⟩:=hJ
    obtain ⟨ρ,rfl⟩:=hag.form; clear hag
    unfold F95j6 at F
    refine dn (fun ρ w=>∃ (aD:Option Nat) (aE:Nat) (aO:List Value),cd ρ [(2,.slice M i.length O),(3,pt q),(7,.slice none 0 0),(8,.slice Q l.length R),(10,pt s),(11,slv aD t.length aE),(12,iv f),(13,iv o),(14,pt aC),(117,bT)]∧Inv [] w0 w [(some q,blk [.slice E g.length G,.slice B e.length C] 25),(some s,blk [iv a.fam,iv a.hd,iv a.fr,iv a.to] 34),(aD,blk aO 51),(some aC,blk [iv K,iv L] 51)]∧(Row 2 aD (t.length) aE aO (al eGn t))∧F95j7 (py g e N (pa g e i N l a m2) l a f m4) f t o K L=some r) ?_ ?_
    ·
     refine gm 14 I (by kernel_rfl) (zp2 (slv V t.length S) (iv f) (fun _=>(by kernel_rfl)) (bt F (fun T b5 F=>?_)))
     obtain ⟨a4,rfl,bM⟩:=a6.at_ ms (by decide) b5
     refine zc (.pointer (some ⟨a4,(f).toNat * 2,none⟩)) (fun w I=>be (f).toNat Try.underlying72 Try.sizeOf51 rfl rfl (Int.toNat_of_nonneg a3).symm (fa b5 rfl) br) (zp (.pointer (some ⟨a4,(f).toNat * 2+1,none⟩)) (fun _=>(by kernel_rfl)) (zc (iv T.den) (fun w I=>s_loadR1 I 2 (iv T.den) Try.isAgg3 rfl rfl (bM 1 _ rfl) br) (ifE F (fun b6 F=>?_) (fun b6 F=>?_))))
     ·
      refine zc bT (fun w I=>di rfl rfl (fun _=>br) (fun h=>absurd b6 h)) (zp bT (fun _=>(by kernel_rfl)) (zf 6 (by kernel_rfl) (zp bT (fun _=>(by kernel_rfl)) (zh (fun w I=>aa (.inl ⟨rfl,⟨some a4,S,W,⟨rfl,rfl,rfl,rfl,rfl,rfl,rfl,rfl,rfl,rfl,trivial⟩,I.pk [0,1,2,3] rfl rfl,(a6.to rfl rfl),F⟩⟩))))))
     refine zc bF (fun w I=>di rfl rfl (fun h=>absurd h b6) (fun _=>br)) (zp bF (fun _=>(by kernel_rfl)) (zq (slv (some a4) t.length S) (by kernel_rfl) (fun _=>(by kernel_rfl)) (zq (iv f) (by kernel_rfl) (fun _=>(by kernel_rfl)) (zo (.pointer (some ⟨a4,(f).toNat * 2,none⟩)) (by kernel_rfl) (fun w I=>be (f).toNat Try.underlying72 Try.sizeOf51 rfl rfl (Int.toNat_of_nonneg a3).symm (fa b5 rfl) br) (zo (.agg #[iv T.num,iv T.den]) (by kernel_rfl) (fun w I=>cq I 2 [iv T.num,iv T.den] Try.isAgg51 Try.sizeOf51 rfl rfl rfl bM br) (zo (.agg #[iv K,iv L]) (by kernel_rfl) (fun w I=>ma I 3 Try.isAgg51 Try.sizeOf51 rfl rfl rfl br) (bt F (fun d2 bN F=>ifE F (fun b7 F=>?_) (fun b7 F=>?_)))))))))
     ·
      refine zo bT (by kernel_rfl) (fun w I=>co 53 [.agg #[iv T.num,iv T.den],.agg #[iv K,iv L]] (by kernel_rfl) (cc.mono (L53 _ T (⟨K,L⟩:Gn) _ bN) (fun v' w' h=>⟨h.1.trans (congrArg Value.bool b7),h.2⟩)) (fun v' w' h=>h)) (zp bT (fun _=>(by kernel_rfl)) (zh (fun w I=>aa (.inl ⟨rfl,⟨some a4,S,W,⟨rfl,rfl,rfl,rfl,rfl,rfl,rfl,rfl,rfl,rfl,trivial⟩,I.pk [0,1,2,3] rfl rfl,(a6.to rfl rfl),F⟩⟩))))
     refine zo bF (by kernel_rfl) (fun w I=>co 53 [.agg #[iv T.num,iv T.den],.agg #[iv K,iv L]] (by kernel_rfl) (cc.mono (L53 _ T (⟨K,L⟩:Gn) _ bN) (fun v' w' h=>⟨h.1.trans (congrArg Value.bool (Bool.eq_false_iff.2 b7)),h.2⟩)) (fun v' w' h=>h)) (zp bF (fun _=>(by kernel_rfl)) (zh (fun w I=>aa (.inr (ai rfl (ak (.inl ⟨rfl,⟨some a4,S,W,t,⟨rfl,rfl,rfl,rfl,rfl,rfl,rfl,rfl,trivial⟩,I.pk [0,1,2] rfl rfl,(a6.to rfl rfl),F⟩⟩)))))))
    intro ρ w hJ
    obtain ⟨aD,aE,aO,hag,I,b8,F⟩:=hJ
    obtain ⟨ρ,rfl⟩:=hag.form; clear hag
    unfold F95j7 at F
    refine ah rfl (rgn (by kernel_rfl) (pu2 (slv aD t.length aE) (iv f) (by kernel_rfl) (ph (ma I 3 Try.isAgg51 Try.sizeOf51 rfl rfl rfl (bt F (fun d3 b9 F=>?_))))))
    obtain ⟨bO,rfl,d4⟩:=b8.at_ ms (by decide) b9
    refine ph (be (f).toNat Try.underlying72 Try.sizeOf51 rfl rfl (Int.toNat_of_nonneg a3).symm (fa b9 rfl) ?_)
    have:=fa b9 rfl
    refine ph (aq I 2 2 [iv K,iv L] Try.sizeOf51 rfl rfl rfl rfl rfl (b8.room (by omega)) ?_)
    intro w I
    have bP:=b8.put ms (by decide) (f).toNat (⟨K,L⟩:Gn) (by omega)
    obtain ⟨bQ,hcl⟩:∃ z,z=le aO ((f).toNat * 2) (eGn (⟨K,L⟩:Gn)):=⟨_,rfl⟩
    rw [← hcl] at bP
    have I:Inv [] w0 w [(some q,blk [.slice E g.length G,.slice B e.length C] 25),(some s,blk [iv a.fam,iv a.hd,iv a.fr,iv a.to] 34),(some bO,blk bQ 51),(some aC,blk [iv K,iv L] 51)]:=by rw [hcl]; exact I
    clear hcl
    refine aa (.inl ⟨rfl,⟨some bO,aE,bQ,(t).set (f).toNat (⟨K,L⟩:Gn),⟨rfl,rfl,rfl,rfl,rfl,(slv_n (km rfl)),rfl,rfl,trivial⟩,I.pk [0,1,2] rfl rfl,(bP.to rfl (km rfl)),F⟩⟩)
   intro ρ w hJ
   obtain ⟨aB,aL,aM,a7,hag,I,cK,F⟩:=hJ
   obtain ⟨ρ,rfl⟩:=hag.form; clear hag
   unfold F95j5 at F
   refine rgn (by kernel_rfl) (pu (iv o) (by kernel_rfl) (ckE F (fun cL F=>ph (cj rfl rfl cL (pu (iv (o+1)) (by kernel_rfl) (aa (⟨rfl,m4,Nat.lt_succ_self _,⟨aB,aL,aM,a7,o+1,m4,⟨rfl,rfl,rfl,rfl,rfl,rfl,rfl,rfl,trivial⟩,I.pk [0,1,2] rfl rfl,(cK.to rfl rfl),F,rfl⟩⟩)))))))
  intro ρ w hJ
  obtain ⟨aA,aJ,aK,a5,hag,I,cM,F⟩:=hJ
  obtain ⟨ρ,rfl⟩:=hag.form; clear hag
  unfold F95j3 at F
  refine rgn (by kernel_rfl) (pu (iv f) (by kernel_rfl) (ckE F (fun cN F=>ph (dm rfl rfl cN (pu (iv (f - 1)) (by kernel_rfl) (aa (⟨rfl,m2,Nat.lt_succ_self _,⟨aA,aJ,aK,a5,f - 1,m2,⟨rfl,rfl,rfl,rfl,rfl,rfl,rfl,trivial⟩,I.pk [0,1,2] rfl rfl,(cM.to rfl rfl),F,rfl⟩⟩)))))))
 intro ρ w hJ
 obtain ⟨H,P,aQ,D,hag,I,bA,F⟩:=hJ
 obtain ⟨ρ,rfl⟩:=hag.form; clear hag
 unfold F95j1 at F
 refine ab (rgn (by kernel_rfl) (pu2 (.slice none 0 0) (slv H D.length P) (by kernel_rfl) (ph (fu I [slv H D.length P] 72 (fun b=>slv (some b) 1 1) (by kernel_rfl) ?_))))
 intro d5 w I
 have I:=I.nilRow 72
 refine gdE F (fun d6 F=>ph (ks I Try.underlying161 (z:=.slice none 0 0) (k:=1) (bytes:=24) (by kernel_rfl) rfl rfl 0 rfl rfl (Row.nil_ 1) [slv H D.length P] rfl rfl (I.cells 1 (off:=0) rfl (fun j u h=>by rw [Nat.zero_add]; exact h)) (by simp [Value.oneCell']) (by omega) (by omega) (n2:=[(⟨D,(H).map (fun b=>⟨b,0,none⟩),P⟩:D72)].length) (app_len0 rfl) ?_))
 intro g1 c1 cl1 w I r1
 have r1:Row 1 g1 ([(⟨D,(H).map (fun b=>⟨b,0,none⟩),P⟩:D72)].length) c1 cl1 (al eD72 [(⟨D,(H).map (fun b=>⟨b,0,none⟩),P⟩:D72)]):=Row.snoc (X:=[]) (enc:=eD72) r1 _ rfl
 refine pu (.slice M i.length O) (by kernel_rfl) (gdE F (fun d7 F=>ph (ks I Try.underlying161 (z:=.slice none 0 0) (k:=1) (bytes:=24) (by kernel_rfl) rfl rfl 0 rfl rfl r1 (al eD72 Z) rfl (by rw [dt eD72_len,← aH,List.length_map]) (bB.inv0 I) (flat_cell eD72_cell _) (by simp only [List.length_cons,List.length_nil]; omega) (by simp only [List.length_cons,List.length_nil]; omega) (n2:=([(⟨D,(H).map (fun b=>⟨b,0,none⟩),P⟩:D72)]++Z).length) (by rw [List.length_append,← aH,List.length_map]) ?_)))
 intro g2 c2 cl2 w I r2
 have r2:Row 1 g2 (([(⟨D,(H).map (fun b=>⟨b,0,none⟩),P⟩:D72)]++Z).length) c2 cl2 (al eD72 ([(⟨D,(H).map (fun b=>⟨b,0,none⟩),P⟩:D72)]++Z)):=r2.more
 refine pu (slv g2 (([(⟨D,(H).map (fun b=>⟨b,0,none⟩),P⟩:D72)]++Z).length) c2) (by kernel_rfl) (aa (aj ?_))
 cases F
 refine ⟨_,Ret.r1 rfl rfl,⟨_,c2,[(⟨D,(H).map (fun b=>⟨b,0,none⟩),P⟩:D72)]++Z,rfl,I.rowCells 0 rfl r2,?_,?_,r2.big,r2.cap,I.below⟩⟩
 · exact fa_cons ⟨I.rowCells 2 rfl bA,bA.big,bA.cap⟩ (fun d hd=>⟨(aP d hd).1.inv0 I,(aP d hd).2⟩)
 simp [aH]


theorem L95n (w0:World) (C:Option Addr) (D:Nat) (g:List Ch) (q:Option Addr) (s:Nat) (e:List Ce) (a5:Option Addr) (a6:Nat) (G:List Cl) (cA:bi w0 C (al eCh g)) (cB:g.length≤9223372036854775807) (cC:g.length≤D) (cD:bi w0 q (al eCe e)) (cE:e.length≤9223372036854775807) (cF:e.length≤s) (cG:bi w0 a5 (al eCl G)) (d6:G.length≤9223372036854775807) (d7:G.length≤a6) (N:Nat) (r:List (List Gn)) (F:G95 N g e G=some r):cc Try.prog 95 [.agg #[.slice C g.length D,.slice q e.length s],.slice a5 G.length a6,.slice none 0 0] w0 fun v w=>∃ (A:Option Addr) (c:Nat) (dl:List D72),v=.slice A dl.length c∧bi w A (al eD72 dl)∧(∀ d∈dl,okD72 w d)∧dl.map D72.p=r∧dl.length≤9223372036854775807∧dl.length≤c∧Below w0.heap.size w0 w:=by
 refine az (n:=128) Try.func95 rfl Try.ntmps95 rfl ?_
 have I:=Inv.start w0
 unfold G95 at F
 refine ab (rgn (by kernel_rfl) (ph (ca I _ rfl fun o w I=>pu (.slice none 0 0) (by kernel_rfl) (aa (ab (rgn (by kernel_rfl) (pu (.slice none 0 0) (by kernel_rfl) (aa (ab (rgn (by kernel_rfl) (pu (.pointer (some ⟨o,1,none⟩)) (by kernel_rfl) (ph (ag I 0 (.slice q e.length s) Try.isAgg23 rfl rfl rfl (pu (iv ((e.length:Nat):Int)) (by kernel_rfl) (ckE F (fun bR F=>ph (cj rfl rfl bR (gdE F (fun aR F=>gdE F (fun d8 F=>ph (s_makeRowN I (enc:=eGn) ms (by decide) ((⟨0,0⟩:Gn)) Try.underlying72 (z:=.agg #[iv 0,iv 0]) (k:=2) (bytes:=16) (by kernel_rfl) rfl ((e.length:Int)+1).toNat (congrArg (Value.int .i64) (Int.toNat_of_nonneg aR).symm) (congrArg (Value.int .i64) (Int.toNat_of_nonneg aR).symm) (by omega) (by decide) fun bS cH w I cI=>pu (slv (some bS) ((List.replicate ((e.length:Int)+1).toNat (⟨0,0⟩:Gn)).length) (((e.length:Int)+1).toNat)) (by kernel_rfl) (aa (dn (fun ρ w=>∃ (aE:Option Nat) (aS:Nat) (aT:List Value) (i:List Gn),cd ρ [(1,.slice a5 G.length a6),(2,.slice none 0 0),(3,pt o),(7,.slice none 0 0),(8,slv aE i.length aS)]∧Inv [] w0 w [(some o,blk [.slice C g.length D,.slice q e.length s] 25),(aE,blk aT 51)]∧(Row 2 aE (i.length) aS aT (al eGn i))∧G95j1 g e G N i=some r) ?_ ?_)))))))))))))))))))))))
 ·
  refine ab (rgn (by kernel_rfl) (pu2 (.slice none 0 0) (iv ((0:Nat):Int)) (by kernel_rfl) (ph (fh rfl rfl (fun h=>absurd h (by decide)) (fun _=>aa (ai rfl (ab (rgn (by kernel_rfl) (pu (iv 0) (by kernel_rfl) (aa (au (cb (fun m ρ w=>∃ (a7:Option Nat) (a8:Nat) (aF:List Value) (Y:List Gn) (P:Int) (mm:Nat),cd ρ [(1,.slice a5 G.length a6),(2,.slice none 0 0),(3,pt o),(7,.slice none 0 0),(8,slv a7 Y.length a8),(9,iv P)]∧Inv [] w0 w [(some o,blk [.slice C g.length D,.slice q e.length s] 25),(a7,blk aF 51)]∧(Row 2 a7 (Y.length) a8 aF (al eGn Y))∧G95l9 g e G N mm Y P=some r∧mm=m) (m:=N) ⟨some bS,((e.length:Int)+1).toNat,cH,List.replicate ((e.length:Int)+1).toNat (⟨0,0⟩:Gn),0,N,⟨rfl,rfl,rfl,rfl,rfl,rfl,trivial⟩,I.pk [1,0] rfl rfl,(cI.to rfl rfl),F,rfl⟩ ?_))))))))))))
  rintro m ρ w ⟨a7,a8,aF,Y,P,mm,hag,I,aU,F,hm⟩
  subst hm; obtain ⟨ρ,rfl⟩:=hag.form; clear hag
  obtain _ | m9:=mm
  ·cases (show (none:Option (List (List Gn)))=some r from F)
  replace F:G95b9 g e G N (G95l9 g e G N m9) Y P=some r:=F; unfold G95b9 at F
  refine ab (ab (rgn (by kernel_rfl) (pu2 (iv P) (.pointer (some ⟨o,1,none⟩)) (by kernel_rfl) (ph (ag I 0 (.slice q e.length s) Try.isAgg23 rfl rfl rfl (pu (iv ((e.length:Nat):Int)) (by kernel_rfl) (ifN F (fun b5 F=>?_) (fun b5 F=>?_))))))))
  ·
   refine ph (fq rfl rfl (fun h=>absurd h b5) (fun _=>aa (ai rfl (bw (.inl ⟨rfl,⟨a7,a8,aF,Y,⟨rfl,rfl,rfl,rfl,rfl,trivial⟩,I.pk [0,1] rfl rfl,(aU.to rfl rfl),F⟩⟩)))))
  refine ph (fq rfl rfl (fun _=>?_) (fun h=>absurd b5 h))
  refine aa (ah rfl (ak (ab (au (rgn (by kernel_rfl) (pu3 (slv a7 Y.length a8) (iv P) (.agg #[iv 1000000,iv 1]) (by kernel_rfl) (gdE F (fun cJ F=>bt F (fun d9 b6 F=>?_)))))))))
  obtain ⟨bU,rfl,dA⟩:=aU.at_ ms (by decide) b6
  refine ph (be (P).toNat Try.underlying72 Try.sizeOf51 rfl rfl (Int.toNat_of_nonneg cJ).symm (fa b6 rfl) ?_)
  have:=fa b6 rfl
  refine ph (aq I 1 2 [iv 1000000,iv 1] Try.sizeOf51 rfl rfl rfl rfl rfl (aU.room (by omega)) ?_)
  intro w I
  have bV:=aU.put ms (by decide) (P).toNat (⟨1000000,1⟩:Gn) (by omega)
  obtain ⟨bW,hcl⟩:∃ z,z=le aF ((P).toNat * 2) (eGn (⟨1000000,1⟩:Gn)):=⟨_,rfl⟩
  rw [← hcl] at bV
  have I:Inv [] w0 w [(some o,blk [.slice C g.length D,.slice q e.length s] 25),(some bU,blk bW 51)]:=by rw [hcl]; exact I
  clear hcl
  refine aa (rgn (by kernel_rfl) (pu (iv P) (by kernel_rfl) (ckE F (fun cK F=>ph (cj rfl rfl cK (pu (iv (P+1)) (by kernel_rfl) (aa (⟨rfl,m9,Nat.lt_succ_self _,⟨some bU,a8,bW,(Y).set (P).toNat (⟨1000000,1⟩:Gn),P+1,m9,⟨rfl,rfl,rfl,rfl,(slv_n (km rfl)),rfl,trivial⟩,I.pk [0,1] rfl rfl,(bV.to rfl (km rfl)),F,rfl⟩⟩))))))))
 intro ρ w hJ
 obtain ⟨aE,aS,aT,i,hag,I,cL,F⟩:=hJ
 obtain ⟨ρ,rfl⟩:=hag.form; clear hag
 unfold G95j1 at F
 refine ab (rgn (by kernel_rfl) (pu3 (.slice a5 G.length a6) (.slice a5 G.length a6) (iv ((G.length:Nat):Int)) (by kernel_rfl) (ckE F (fun cM F=>ph (dm rfl rfl cM (pu2 (.slice none 0 0) (iv ((0:Nat):Int)) (by kernel_rfl) (ckE F (fun cN F=>ph (dm rfl rfl cN (gdE F (fun cO F=>bt F (fun a bX F=>?_))))))))))))
 obtain ⟨dB,dC,cP,cQ,cR⟩:=cG.at_ eb (by decide) bX
 refine ph (cn ((((G.length:Int) - 1) - 0).toNat) Try.underlying26 Try.sizeOf34 rfl cP rfl (Int.toNat_of_nonneg cO).symm (fa bX rfl) (ph (ef I [iv a.fam,iv a.hd,iv a.fr,iv a.to] Try.isAgg34 Try.sizeOf34 rfl rfl cQ (by simp) cR (ph (bh I _ Try.zeroValue34 rfl fun t w I=>ph (mb I 0 _ Try.sizeOf34 rfl rfl rfl rfl rfl rfl fun w I=>aa (ab (rgn (by kernel_rfl) (pu (.pointer (some ⟨o,1,none⟩)) (by kernel_rfl) (ph (ag I 1 (.slice q e.length s) Try.isAgg23 rfl rfl rfl (pu (iv ((e.length:Nat):Int)) (by kernel_rfl) (ph (cj rfl rfl bR (ph (s_makeRowN I (enc:=eGn) ms (by decide) ((⟨0,0⟩:Gn)) Try.underlying72 (z:=.agg #[iv 0,iv 0]) (k:=2) (bytes:=16) (by kernel_rfl) rfl ((e.length:Int)+1).toNat (congrArg (Value.int .i64) (Int.toNat_of_nonneg aR).symm) (congrArg (Value.int .i64) (Int.toNat_of_nonneg aR).symm) (by omega) (by decide) fun bY cS w I cT=>pu (slv (some bY) ((List.replicate ((e.length:Int)+1).toNat (⟨0,0⟩:Gn)).length) (((e.length:Int)+1).toNat)) (by kernel_rfl) (aa (dn (fun ρ w=>∃ (H:Option Nat) (M:Nat) (b7:List Value) (E:List Gn),cd ρ [(2,.slice none 0 0),(7,.slice none 0 0),(11,slv H E.length M)]∧Inv [] w0 w [(H,blk b7 51)]∧(Row 2 H (E.length) M b7 (al eGn E))∧G95j2 E=some r) ?_ ?_))))))))))))))))))
 ·
  refine ab (rgn (by kernel_rfl) (pu (.pointer (some ⟨o,1,none⟩)) (by kernel_rfl) (ph (ag I 2 (.slice q e.length s) Try.isAgg23 rfl rfl rfl (pu (iv ((e.length:Nat):Int)) (by kernel_rfl) (ckE F (fun cU F=>ph (dm rfl rfl cU (pu (iv ((e.length:Int) - 1)) (by kernel_rfl) (aa (au (cb (fun m ρ w=>∃ (a1:Option Nat) (aG:Nat) (a9:List Value) (a2:Option Nat) (Z:Nat) (aH:List Value) (T:List Gn) (f:Int) (mm:Nat),cd ρ [(2,.slice none 0 0),(3,pt o),(7,.slice none 0 0),(8,slv a1 i.length aG),(10,pt t),(11,slv a2 T.length Z),(12,iv f)]∧Inv [] w0 w [(some o,blk [.slice C g.length D,.slice q e.length s] 25),(a1,blk a9 51),(some t,blk [iv a.fam,iv a.hd,iv a.fr,iv a.to] 34),(a2,blk aH 51)]∧(Row 2 a1 (i.length) aG a9 (al eGn i))∧(Row 2 a2 (T.length) Z aH (al eGn T))∧G95l3 g e N i a mm T f=some r∧mm=m) (m:=N) ⟨aE,aS,aT,some bY,((e.length:Int)+1).toNat,cS,List.replicate ((e.length:Int)+1).toNat (⟨0,0⟩:Gn),(e.length:Int) - 1,N,⟨rfl,rfl,rfl,rfl,rfl,rfl,rfl,trivial⟩,I.pk [2,3,1,0] rfl rfl,(cL.to rfl rfl),(cT.to rfl rfl),F,rfl⟩ ?_))))))))))))
  rintro m ρ w ⟨a1,aG,a9,a2,Z,aH,T,f,mm,hag,I,bZ,aI,F,hm⟩
  subst hm; obtain ⟨ρ,rfl⟩:=hag.form; clear hag
  obtain _ | m3:=mm
  ·cases (show (none:Option (List (List Gn)))=some r from F)
  replace F:G95b3 g e N i a (G95l3 g e N i a m3) T f=some r:=F; unfold G95b3 at F
  refine ab (ab (rgn (by kernel_rfl) (pu (iv f) (by kernel_rfl) (ifN F (fun a3 F=>?_) (fun a3 F=>?_)))))
  ·
   refine ph (iq rfl rfl (fun h=>absurd h a3) (fun _=>aa (ai rfl (bw (.inl ⟨rfl,⟨a2,Z,aH,T,⟨rfl,rfl,rfl,trivial⟩,I.pk [3] rfl rfl,(aI.to rfl rfl),F⟩⟩)))))
  refine ph (iq rfl rfl (fun _=>?_) (fun h=>absurd a3 h))
  refine aa (ah rfl (ak (dn (fun ρ w=>∃ (aJ:Option Nat) (aV:Nat) (aW:List Value) (aK:Option Nat) (aX:Nat) (aY:List Value) (aA:List Gn),cd ρ [(2,.slice none 0 0),(3,pt o),(7,.slice none 0 0),(8,slv aJ i.length aV),(10,pt t),(11,slv aK aA.length aX),(12,iv f)]∧Inv [] w0 w [(some o,blk [.slice C g.length D,.slice q e.length s] 25),(aJ,blk aW 51),(some t,blk [iv a.fam,iv a.hd,iv a.fr,iv a.to] 34),(aK,blk aY 51)]∧(Row 2 aJ (i.length) aV aW (al eGn i))∧(Row 2 aK (aA.length) aX aY (al eGn aA))∧G95j4 (G95l3 g e N i a m3) f aA=some r) ?_ ?_)))
  ·
   refine au (ab (rgn (by kernel_rfl) (pu3 (slv a2 T.length Z) (iv f) (slv a2 T.length Z) (by kernel_rfl) (pu (iv f) (by kernel_rfl) (ckE F (fun cV F=>ph (cj rfl rfl cV (gdE F (fun cW F=>bt F (fun a0 c0 F=>?_))))))))))
   obtain ⟨b8,rfl,cX⟩:=aI.at_ ms (by decide) c0
   refine ph (be ((f+1).toNat) Try.underlying72 Try.sizeOf51 rfl rfl (Int.toNat_of_nonneg cW).symm (fa c0 rfl) (ph (cq I 3 [iv a0.num,iv a0.den] Try.isAgg51 Try.sizeOf51 rfl rfl rfl cX (bt F (fun dD b9 F=>?_)))))
   have dE:=aI.atS ms (by decide) b9
   refine ph (be (f).toNat Try.underlying72 Try.sizeOf51 rfl rfl (Int.toNat_of_nonneg a3).symm (fa b9 rfl) ?_)
   have:=fa b9 rfl
   refine ph (aq I 3 2 [iv a0.num,iv a0.den] Try.sizeOf51 rfl rfl rfl rfl rfl (aI.room (by omega)) ?_)
   intro w I
   have bA:=aI.put ms (by decide) (f).toNat a0 (by omega)
   obtain ⟨bB,hcl⟩:∃ z,z=le aH ((f).toNat * 2) (eGn a0):=⟨_,rfl⟩
   rw [← hcl] at bA
   have I:Inv [] w0 w [(some o,blk [.slice C g.length D,.slice q e.length s] 25),(a1,blk a9 51),(some t,blk [iv a.fam,iv a.hd,iv a.fr,iv a.to] 34),(some b8,blk bB 51)]:=by rw [hcl]; exact I
   clear hcl
   refine aa (ab (ab (rgn (by kernel_rfl) (pu2 (iv f) (.pointer (some ⟨t,2,none⟩)) (by kernel_rfl) (ph (ag I 2 (iv a.fr) Try.isAgg3 rfl rfl rfl (ifE F (fun bC F=>?_) (fun bC F=>?_))))))))
   ·
    refine ph (cm rfl rfl (fun _=>?_) (fun h=>absurd bC h))
    refine aa (ah rfl (bw (.inl ⟨rfl,⟨a1,aG,a9,some b8,Z,bB,(T).set (f).toNat a0,⟨rfl,rfl,rfl,rfl,rfl,(slv_n (km rfl)),rfl,trivial⟩,I.pk [0,1,2,3] rfl rfl,(bZ.to rfl rfl),(bA.to rfl (km rfl)),F⟩⟩)))
   refine ph (cm rfl rfl (fun h=>absurd h bC) (fun _=>aa (ai rfl (ak (ab (rgn (by kernel_rfl) (pu2 (iv f) (iv f) (by kernel_rfl) (aa (au (cb (fun m ρ w=>∃ (aB:Option Nat) (Q:Nat) (U:List Value) (V:Option Nat) (R:Nat) (W:List Value) (x:List Gn) (l:Int) (mm:Nat),cd ρ [(2,.slice none 0 0),(3,pt o),(7,.slice none 0 0),(8,slv aB i.length Q),(10,pt t),(11,slv V x.length R),(12,iv f),(13,iv l)]∧Inv [] w0 w [(some o,blk [.slice C g.length D,.slice q e.length s] 25),(aB,blk U 51),(some t,blk [iv a.fam,iv a.hd,iv a.fr,iv a.to] 34),(V,blk W 51)]∧(Row 2 aB (i.length) Q U (al eGn i))∧(Row 2 V (x.length) R W (al eGn x))∧G95l5 g e N (G95l3 g e N i a m3) i a f mm x l=some r∧mm=m) (m:=N) ⟨a1,aG,a9,some b8,Z,bB,(T).set (f).toNat a0,f,N,⟨rfl,rfl,rfl,rfl,rfl,(slv_n (km rfl)),rfl,rfl,trivial⟩,I.pk [0,1,2,3] rfl rfl,(bZ.to rfl rfl),(bA.to rfl (km rfl)),F,rfl⟩ ?_))))))))))
   rintro m ρ w ⟨aB,Q,U,V,R,W,x,l,mm,hag,I,aL,aC,F,hm⟩
   subst hm; obtain ⟨ρ,rfl⟩:=hag.form; clear hag
   obtain _ | m5:=mm
   ·cases (show (none:Option (List (List Gn)))=some r from F)
   replace F:G95b5 g e N (G95l3 g e N i a m3) i a f (G95l5 g e N (G95l3 g e N i a m3) i a f m5) x l=some r:=F; unfold G95b5 at F
   refine ab (ab (rgn (by kernel_rfl) (pu2 (iv l) (.pointer (some ⟨t,3,none⟩)) (by kernel_rfl) (ph (ag I 2 (iv a.to) Try.isAgg3 rfl rfl rfl (ifN F (fun bD F=>?_) (fun bD F=>?_)))))))
   ·
    refine ph (fq rfl rfl (fun h=>absurd h bD) (fun _=>aa (ai rfl (bw (.inl ⟨rfl,⟨aB,Q,U,V,R,W,x,⟨rfl,rfl,rfl,rfl,rfl,rfl,rfl,trivial⟩,I.pk [0,1,2,3] rfl rfl,(aL.to rfl rfl),(aC.to rfl rfl),F⟩⟩)))))
   refine ph (fq rfl rfl (fun _=>?_) (fun h=>absurd bD h))
   refine aa (ah rfl (ak (dn (fun ρ w=>∃ (aM:Option Nat) (aZ:Nat) (b0:List Value) (aN:Option Nat) (b1:Nat) (b2:List Value) (aD:List Gn),cd ρ [(2,.slice none 0 0),(3,pt o),(7,.slice none 0 0),(8,slv aM i.length aZ),(10,pt t),(11,slv aN aD.length b1),(12,iv f),(13,iv l)]∧Inv [] w0 w [(some o,blk [.slice C g.length D,.slice q e.length s] 25),(aM,blk b0 51),(some t,blk [iv a.fam,iv a.hd,iv a.fr,iv a.to] 34),(aN,blk b2 51)]∧(Row 2 aM (i.length) aZ b0 (al eGn i))∧(Row 2 aN (aD.length) b1 b2 (al eGn aD))∧G95j6 (G95l5 g e N (G95l3 g e N i a m3) i a f m5) l aD=some r) ?_ ?_)))
   ·
    refine au (ab (ab (rgn (by kernel_rfl) (pu2 (slv aB i.length Q) (iv l) (by kernel_rfl) (ckE F (fun bE F=>ph (cj rfl rfl bE (gdE F (fun bG F=>bt F (fun J b3 F=>?_))))))))))
    obtain ⟨O,rfl,bH⟩:=aL.at_ ms (by decide) b3
    refine ph (be ((l+1).toNat) Try.underlying72 Try.sizeOf51 rfl rfl (Int.toNat_of_nonneg bG).symm (fa b3 rfl) (pu (.pointer (some ⟨O,((l+1).toNat) * 2+1,none⟩)) (by kernel_rfl) (ph (s_loadR1 I 1 (iv J.den) Try.isAgg3 rfl rfl (bH 1 _ rfl) (ifE F (fun bI F=>?_) (fun bI F=>?_))))))
    ·
     refine ph (di rfl rfl (fun _=>?_) (fun h=>absurd bI h))
     refine aa (ah rfl (bw (.inl ⟨rfl,⟨some O,Q,U,V,R,W,x,⟨rfl,rfl,rfl,rfl,rfl,rfl,rfl,rfl,trivial⟩,I.pk [0,1,2,3] rfl rfl,(aL.to rfl rfl),(aC.to rfl rfl),F⟩⟩)))
    refine ph (di rfl rfl (fun h=>absurd h bI) (fun _=>aa (ai rfl (ak (ab (bt F (fun bJ cY F=>bt F (fun B cZ F=>wp_toks [tr (fun _=>(.agg #[.slice C g.length D,.slice q e.length s])) [9],tv (fun _=>(iv f)),tv (fun _=>(iv l)),tr (fun _=>(iv bJ)) [],tv (fun _=>(.pointer (some ⟨t,1,none⟩))),tr (fun _=>(iv a.hd)) [11],tr (fun _=>(.agg #[iv B.1,iv B.2])) [],tal 7 [iv 0,iv 0] 51,tst (fun y=>[(some (y 7).b,blk [iv B.1,iv B.2] 51)]) 7] (fun y=>[(2,.slice none 0 0),(3,pt o),(7,.slice none 0 0),(8,slv (some O) i.length Q),(10,pt t),(11,slv V x.length R),(12,iv f),(13,iv l),(14,.pointer (some ⟨(y 7).b,0,none⟩))]) (fun y=>[(some (y 7).b,blk [iv B.1,iv B.2] 51),(some o,blk [.slice C g.length D,.slice q e.length s] 25),(some O,blk U 51),(some t,blk [iv a.fam,iv a.hd,iv a.fr,iv a.to] 34),(V,blk W 51)]) I (by kernel_rfl) (fun y=>⟨(by kernel_rfl),(by kernel_rfl)⟩) (fun y=>?_) ?_))))))))
    ·
     refine tl1 [(some o,blk [.slice C g.length D,.slice q e.length s] 25)] rfl (by kernel_rfl) (fun X w I=>ma I 0 Try.isAgg25 Try.sizeOf25 rfl rfl rfl br) (tp rfl (fun _=>(by kernel_rfl)) (tp rfl (fun _=>(by kernel_rfl)) (tl0 rfl (fun X w I=>co 77 [.agg #[.slice C g.length D,.slice q e.length s],iv f,iv l] (by kernel_rfl) (L77 _ C D g q s e f l (cA.inv0 I) cB cC (cD.inv0 I) cE cF N _ cY) (fun v' w' h=>h)) (tp rfl (fun _=>(by kernel_rfl)) (tl1 [(some t,blk [iv a.fam,iv a.hd,iv a.fr,iv a.to] 34)] rfl (by kernel_rfl) (fun X w I=>ag I 0 (iv a.hd) Try.isAgg3 rfl rfl rfl br) (tl0 rfl (fun X w I=>co 83 [iv bJ,iv a.hd] (by kernel_rfl) (L83 _ bJ a.hd N _ cZ) (fun v' w' h=>h)) (tA rfl Try.zeroValue51 rfl (tS [(some (y 7).b,blk [iv 0,iv 0] 51)] rfl ⟨(by kernel_rfl),(by kernel_rfl)⟩ (fun X w I=>aq I 0 2 [iv B.1,iv B.2] Try.sizeOf51 rfl rfl rfl rfl rfl (qa rfl) fun w I=>⟨rfl,I.castL (by kernel_rfl)⟩) (tn)))))))))
    intro y hp ρ w hag I
    clear hp
    generalize (y 7).b=aO at *
    obtain ⟨ρ,rfl⟩:=hag.form; clear hag
    refine dn (fun ρ w=>∃ (K:Int) (L:Int),cd ρ [(2,.slice none 0 0),(3,pt o),(7,.slice none 0 0),(8,slv (some O) i.length Q),(10,pt t),(11,slv V x.length R),(12,iv f),(13,iv l),(14,pt aO)]∧Inv [] w0 w [(some o,blk [.slice C g.length D,.slice q e.length s] 25),(some O,blk U 51),(some t,blk [iv a.fam,iv a.hd,iv a.fr,iv a.to] 34),(V,blk W 51),(some aO,blk [iv K,iv L] 51)]∧G95j7 (G95l5 g e N (G95l3 g e N i a m3) i a f m5) f x l K L=some r) ?_ ?_
    ·
     refine ab (gm 7 I (by kernel_rfl) (zp2 (slv (some O) i.length Q) (iv l) (fun _=>(by kernel_rfl)) (zc (iv (l+1)) (fun w I=>cj rfl rfl bE br) (zc (.pointer (some ⟨O,((l+1).toNat) * 2,none⟩)) (fun w I=>be ((l+1).toNat) Try.underlying72 Try.sizeOf51 rfl rfl (Int.toNat_of_nonneg bG).symm (fa b3 rfl) br) (zc (.agg #[iv J.num,iv J.den]) (fun w I=>cq I 2 [iv J.num,iv J.den] Try.isAgg51 Try.sizeOf51 rfl rfl rfl bH br) (zc (.agg #[iv B.1,iv B.2]) (fun w I=>ma I 0 Try.isAgg51 Try.sizeOf51 rfl rfl rfl br) (bt F (fun dF c4 F=>ifN F (fun bK F=>?_) (fun bK F=>?_)))))))))
     ·
      refine zc bF (fun w I=>co 53 [.agg #[iv J.num,iv J.den],.agg #[iv B.1,iv B.2]] (by kernel_rfl) (cc.mono (L53 _ J (⟨B.1,B.2⟩:Gn) _ c4) (fun v' w' h=>⟨h.1.trans (congrArg Value.bool (Bool.eq_false_iff.2 bK)),h.2⟩)) (fun v' w' h=>h)) (zh (fun w I=>aa (ai rfl (ak (.inl ⟨rfl,⟨B.1,B.2,⟨rfl,rfl,rfl,rfl,rfl,rfl,rfl,rfl,rfl,trivial⟩,I.pk [1,2,3,4,0] rfl rfl,F⟩⟩)))))
     refine zc bT (fun w I=>co 53 [.agg #[iv J.num,iv J.den],.agg #[iv B.1,iv B.2]] (by kernel_rfl) (cc.mono (L53 _ J (⟨B.1,B.2⟩:Gn) _ c4) (fun v' w' h=>⟨h.1.trans (congrArg Value.bool bK),h.2⟩)) (fun v' w' h=>h)) (zh (fun w I=>aa (ah rfl (rgn (by kernel_rfl) (pu2 (slv (some O) i.length Q) (iv l) (by kernel_rfl) (ph (cj rfl rfl bE (ph (be ((l+1).toNat) Try.underlying72 Try.sizeOf51 rfl rfl (Int.toNat_of_nonneg bG).symm (fa b3 rfl) (ph (cq I 2 [iv J.num,iv J.den] Try.isAgg51 Try.sizeOf51 rfl rfl rfl bH (ph (mb I 0 _ Try.sizeOf51 rfl rfl rfl rfl rfl rfl fun w I=>aa (.inl ⟨rfl,⟨J.num,J.den,⟨rfl,rfl,rfl,rfl,rfl,rfl,rfl,rfl,rfl,trivial⟩,I.pk [1,2,3,4,0] rfl rfl,F⟩⟩))))))))))))))
    intro ρ w hJ
    obtain ⟨K,L,hag,I,F⟩:=hJ
    obtain ⟨ρ,rfl⟩:=hag.form; clear hag
    unfold G95j7 at F
    refine dn (fun ρ w=>∃ (aP:Option Nat) (aQ:Nat) (b4:List Value),cd ρ [(2,.slice none 0 0),(3,pt o),(7,.slice none 0 0),(8,slv (some O) i.length Q),(10,pt t),(11,slv aP x.length aQ),(12,iv f),(13,iv l),(14,pt aO),(117,bT)]∧Inv [] w0 w [(some o,blk [.slice C g.length D,.slice q e.length s] 25),(some O,blk U 51),(some t,blk [iv a.fam,iv a.hd,iv a.fr,iv a.to] 34),(aP,blk b4 51),(some aO,blk [iv K,iv L] 51)]∧(Row 2 aP (x.length) aQ b4 (al eGn x))∧G95j8 (G95l5 g e N (G95l3 g e N i a m3) i a f m5) f x l K L=some r) ?_ ?_
    ·
     refine gm 14 I (by kernel_rfl) (zp2 (slv V x.length R) (iv f) (fun _=>(by kernel_rfl)) (bt F (fun S bL F=>?_)))
     obtain ⟨a4,rfl,c5⟩:=aC.at_ ms (by decide) bL
     refine zc (.pointer (some ⟨a4,(f).toNat * 2,none⟩)) (fun w I=>be (f).toNat Try.underlying72 Try.sizeOf51 rfl rfl (Int.toNat_of_nonneg a3).symm (fa bL rfl) br) (zp (.pointer (some ⟨a4,(f).toNat * 2+1,none⟩)) (fun _=>(by kernel_rfl)) (zc (iv S.den) (fun w I=>s_loadR1 I 3 (iv S.den) Try.isAgg3 rfl rfl (c5 1 _ rfl) br) (ifE F (fun bM F=>?_) (fun bM F=>?_))))
     ·
      refine zc bT (fun w I=>di rfl rfl (fun _=>br) (fun h=>absurd bM h)) (zp bT (fun _=>(by kernel_rfl)) (zf 6 (by kernel_rfl) (zp bT (fun _=>(by kernel_rfl)) (zh (fun w I=>aa (.inl ⟨rfl,⟨some a4,R,W,⟨rfl,rfl,rfl,rfl,rfl,rfl,rfl,rfl,rfl,rfl,trivial⟩,I.pk [0,1,2,3,4] rfl rfl,(aC.to rfl rfl),F⟩⟩))))))
     refine zc bF (fun w I=>di rfl rfl (fun h=>absurd h bM) (fun _=>br)) (zp bF (fun _=>(by kernel_rfl)) (zq (slv (some a4) x.length R) (by kernel_rfl) (fun _=>(by kernel_rfl)) (zq (iv f) (by kernel_rfl) (fun _=>(by kernel_rfl)) (zo (.pointer (some ⟨a4,(f).toNat * 2,none⟩)) (by kernel_rfl) (fun w I=>be (f).toNat Try.underlying72 Try.sizeOf51 rfl rfl (Int.toNat_of_nonneg a3).symm (fa bL rfl) br) (zo (.agg #[iv S.num,iv S.den]) (by kernel_rfl) (fun w I=>cq I 3 [iv S.num,iv S.den] Try.isAgg51 Try.sizeOf51 rfl rfl rfl c5 br) (zo (.agg #[iv K,iv L]) (by kernel_rfl) (fun w I=>ma I 4 Try.isAgg51 Try.sizeOf51 rfl rfl rfl br) (bt F (fun dG c6 F=>ifE F (fun bN F=>?_) (fun bN F=>?_)))))))))
     ·
      refine zo bT (by kernel_rfl) (fun w I=>co 53 [.agg #[iv S.num,iv S.den],.agg #[iv K,iv L]] (by kernel_rfl) (cc.mono (L53 _ S (⟨K,L⟩:Gn) _ c6) (fun v' w' h=>⟨h.1.trans (congrArg Value.bool bN),h.2⟩)) (fun v' w' h=>h)) (zp bT (fun _=>(by kernel_rfl)) (zh (fun w I=>aa (.inl ⟨rfl,⟨some a4,R,W,⟨rfl,rfl,rfl,rfl,rfl,rfl,rfl,rfl,rfl,rfl,trivial⟩,I.pk [0,1,2,3,4] rfl rfl,(aC.to rfl rfl),F⟩⟩))))
     refine zo bF (by kernel_rfl) (fun w I=>co 53 [.agg #[iv S.num,iv S.den],.agg #[iv K,iv L]] (by kernel_rfl) (cc.mono (L53 _ S (⟨K,L⟩:Gn) _ c6) (fun v' w' h=>⟨h.1.trans (congrArg Value.bool (Bool.eq_false_iff.2 bN)),h.2⟩)) (fun v' w' h=>h)) (zp bF (fun _=>(by kernel_rfl)) (zh (fun w I=>aa (.inr (ai rfl (ak (.inl ⟨rfl,⟨some O,Q,U,some a4,R,W,x,⟨rfl,rfl,rfl,rfl,rfl,rfl,rfl,rfl,trivial⟩,I.pk [0,1,2,3] rfl rfl,(aL.to rfl rfl),(aC.to rfl rfl),F⟩⟩)))))))
    intro ρ w hJ
    obtain ⟨aP,aQ,b4,hag,I,bO,F⟩:=hJ
    obtain ⟨ρ,rfl⟩:=hag.form; clear hag
    unfold G95j8 at F
    refine ah rfl (rgn (by kernel_rfl) (pu2 (slv aP x.length aQ) (iv f) (by kernel_rfl) (ph (ma I 4 Try.isAgg51 Try.sizeOf51 rfl rfl rfl (bt F (fun dH bP F=>?_))))))
    obtain ⟨c7,rfl,dI⟩:=bO.at_ ms (by decide) bP
    refine ph (be (f).toNat Try.underlying72 Try.sizeOf51 rfl rfl (Int.toNat_of_nonneg a3).symm (fa bP rfl) ?_)
    have:=fa bP rfl
    refine ph (aq I 3 2 [iv K,iv L] Try.sizeOf51 rfl rfl rfl rfl rfl (bO.room (by omega)) ?_)
    intro w I
    have c8:=bO.put ms (by decide) (f).toNat (⟨K,L⟩:Gn) (by omega)
    obtain ⟨c9,hcl⟩:∃ z,z=le b4 ((f).toNat * 2) (eGn (⟨K,L⟩:Gn)):=⟨_,rfl⟩
    rw [← hcl] at c8
    have I:Inv [] w0 w [(some o,blk [.slice C g.length D,.slice q e.length s] 25),(some O,blk U 51),(some t,blk [iv a.fam,iv a.hd,iv a.fr,iv a.to] 34),(some c7,blk c9 51),(some aO,blk [iv K,iv L] 51)]:=by rw [hcl]; exact I
    clear hcl
    refine aa (.inl ⟨rfl,⟨some O,Q,U,some c7,aQ,c9,(x).set (f).toNat (⟨K,L⟩:Gn),⟨rfl,rfl,rfl,rfl,rfl,(slv_n (km rfl)),rfl,rfl,trivial⟩,I.pk [0,1,2,3] rfl rfl,(aL.to rfl rfl),(c8.to rfl (km rfl)),F⟩⟩)
   intro ρ w hJ
   obtain ⟨aM,aZ,b0,aN,b1,b2,aD,hag,I,d0,d1,F⟩:=hJ
   obtain ⟨ρ,rfl⟩:=hag.form; clear hag
   unfold G95j6 at F
   refine rgn (by kernel_rfl) (pu (iv l) (by kernel_rfl) (ckE F (fun d2 F=>ph (cj rfl rfl d2 (pu (iv (l+1)) (by kernel_rfl) (aa (⟨rfl,m5,Nat.lt_succ_self _,⟨aM,aZ,b0,aN,b1,b2,aD,l+1,m5,⟨rfl,rfl,rfl,rfl,rfl,rfl,rfl,rfl,trivial⟩,I.pk [0,1,2,3] rfl rfl,(d0.to rfl rfl),(d1.to rfl rfl),F,rfl⟩⟩)))))))
  intro ρ w hJ
  obtain ⟨aJ,aV,aW,aK,aX,aY,aA,hag,I,d3,d4,F⟩:=hJ
  obtain ⟨ρ,rfl⟩:=hag.form; clear hag
  unfold G95j4 at F
  refine rgn (by kernel_rfl) (pu (iv f) (by kernel_rfl) (ckE F (fun d5 F=>ph (dm rfl rfl d5 (pu (iv (f - 1)) (by kernel_rfl) (aa (⟨rfl,m3,Nat.lt_succ_self _,⟨aJ,aV,aW,aK,aX,aY,aA,f - 1,m3,⟨rfl,rfl,rfl,rfl,rfl,rfl,rfl,trivial⟩,I.pk [0,1,2,3] rfl rfl,(d3.to rfl rfl),(d4.to rfl rfl),F,rfl⟩⟩)))))))
 intro ρ w hJ
 obtain ⟨H,M,b7,E,hag,I,bQ,F⟩:=hJ
 obtain ⟨ρ,rfl⟩:=hag.form; clear hag
 unfold G95j2 at F
 refine ab (rgn (by kernel_rfl) (pu2 (.slice none 0 0) (slv H E.length M) (by kernel_rfl) (ph (fu I [slv H E.length M] 72 (fun b=>slv (some b) 1 1) (by kernel_rfl) ?_))))
 intro dJ w I
 have I:=I.nilRow 72
 refine gdE F (fun dK F=>ph (ks I Try.underlying161 (z:=.slice none 0 0) (k:=1) (bytes:=24) (by kernel_rfl) rfl rfl 0 rfl rfl (Row.nil_ 1) [slv H E.length M] rfl rfl (I.cells 1 (off:=0) rfl (fun j u h=>by rw [Nat.zero_add]; exact h)) (by simp [Value.oneCell']) (by omega) (by omega) (n2:=[(⟨E,(H).map (fun b=>⟨b,0,none⟩),M⟩:D72)].length) (app_len0 rfl) ?_))
 intro g1 c1 cl1 w I r1
 have r1:Row 1 g1 ([(⟨E,(H).map (fun b=>⟨b,0,none⟩),M⟩:D72)].length) c1 cl1 (al eD72 [(⟨E,(H).map (fun b=>⟨b,0,none⟩),M⟩:D72)]):=Row.snoc (X:=[]) (enc:=eD72) r1 _ rfl
 refine pu (.slice none 0 0) (by kernel_rfl) (gdE F (fun dL F=>ph (ks I Try.underlying161 (z:=.slice none 0 0) (k:=1) (bytes:=24) (by kernel_rfl) rfl rfl 0 rfl rfl r1 [] rfl rfl bi.nil0 (by simp) (by simp only [List.length_cons,List.length_nil]; omega) (by simp only [List.length_cons,List.length_nil]; omega) (n2:=([(⟨E,(H).map (fun b=>⟨b,0,none⟩),M⟩:D72)]++[]).length) rfl ?_)))
 intro g2 c2 cl2 w I r2
 have r2:Row 1 g2 (([(⟨E,(H).map (fun b=>⟨b,0,none⟩),M⟩:D72)]++[]).length) c2 cl2 (al eD72 ([(⟨E,(H).map (fun b=>⟨b,0,none⟩),M⟩:D72)]++[])):=r2.more
 refine pu (slv g2 (([(⟨E,(H).map (fun b=>⟨b,0,none⟩),M⟩:D72)]++[]).length) c2) (by kernel_rfl) (aa (aj ?_))
 cases F
 refine ⟨_,Ret.r1 rfl rfl,⟨_,c2,[(⟨E,(H).map (fun b=>⟨b,0,none⟩),M⟩:D72)]++[],rfl,I.rowCells 0 rfl r2,?_,?_,r2.big,r2.cap,I.below⟩⟩
 · exact fa_cons ⟨I.rowCells 2 rfl bQ,bQ.big,bQ.cap⟩ fa_nil
 rfl

theorem L95s (w0:World) (g:Option Addr) (i:Nat) (a:List Ch) (j:Option Addr) (k:Nat) (b:List Ce) (l:Option Addr) (m:Nat) (f:List Cl) (A:Option Addr) (c:Nat) (dl:List D72) (n:bi w0 g (al eCh a)) (o:a.length≤9223372036854775807) (q:a.length≤i) (s:bi w0 j (al eCe b)) (t:b.length≤9223372036854775807) (u:b.length≤k) (x:bi w0 l (al eCl f)) (z:f.length≤9223372036854775807) (B:f.length≤m) (hC:bi w0 A (al eD72 dl)) (hO:∀ d∈dl,okD72 w0 d) (hM:dl.length≤9223372036854775807) (hK:dl.length≤c) (hZ:dl=[]→A=none∧c=0) (N:Nat) (r:List (List Gn)) (F:F85s N a b f (dl.map D72.p)=some r):cc Try.prog 95 [.agg #[.slice g a.length i,.slice j b.length k],.slice l f.length m,.slice A dl.length c] w0 fun v w=>(∃ (A:Option Addr) (c:Nat) (dl:List D72),v=.slice A dl.length c∧bi w A (al eD72 dl)∧(∀ d∈dl,okD72 w d)∧dl.map D72.p=r∧dl.length≤9223372036854775807∧dl.length≤c∧Below w0.heap.size w0 w)∧r≠[]:=by
  unfold F85s at F
  refine bt F (fun y hy F=>?_)
  split at F
  · cases F
  rename_i hn
  have F:=Option.some.inj F; subst F
  have hn':y≠[]:=fun e=>hn (by rw [e]; rfl)
  cases dl with
  | nil =>
    obtain ⟨rfl,rfl⟩:=hZ rfl
    exact cc.mono (L95n w0 g i a j k b l m f n o q s t u x z B N y hy) fun v w h=>⟨h,hn'⟩
  | cons d dl =>
    have h:=L95 w0 g i a j k b l m f A c ((d :: dl).map D72.p) (d :: dl) n o q s t u x z B hC rfl hO (by rw [List.length_map]; exact hM) (by rw [List.length_map]; exact hK) (by simp) N y hy
    rw [List.length_map] at h
    exact cc.mono h fun v w h=>⟨h,hn'⟩

theorem L85 (w0:World) (l:Option Addr) (o:Nat) (b:List Ch) (q:Option Addr) (s:Nat) (f:List Ce) (i:Option Addr) (k:Nat) (a:List Cl) (u:bi w0 l (al eCh b)) (z:b.length≤9223372036854775807) (B:b.length≤o) (C:bi w0 q (al eCe f)) (D:f.length≤9223372036854775807) (E:f.length≤s) (G:bi w0 i (al eCl a)) (H:a.length≤9223372036854775807) (J:a.length≤k) (N:Nat) (r:(Int × Int)) (F:F85 N b f a=some r):cc Try.prog 85 [.agg #[.slice l b.length o,.slice q f.length s],.slice i a.length k] w0 fun v w=>v=.agg #[iv r.1,iv r.2]∧Below w0.heap.size w0 w:=by
  refine az (n:=20) Try.func85 rfl Try.ntmps85 rfl ?_
  have I:=Inv.start w0
  unfold F85 at F
  refine ab (rgn (by kernel_rfl) (ph (ca I _ rfl fun b1 w I=>ph (bh I _ Try.zeroValue51 rfl fun b2 w I=>aa (ab (rgn (by kernel_rfl) (pu (.slice none 0 0) (by kernel_rfl) (aa (bt F (fun t ht F=>dn (fun ρ w=>∃ (A:Option Addr) (c:Nat) (dl:List D72),cd ρ [(4,pt b2),(5,.slice A dl.length c)]∧Inv [] w0 w [(some b2,blk [iv 0,iv 0] 51)]∧bi w A (al eD72 dl)∧(∀ d∈dl,okD72 w d)∧dl.map D72.p=t) ?_ ?_))))))))))
  ·
    refine au (cb (fun m ρ w=>∃ (A:Option Addr) (c:Nat) (dl:List D72) (mm:Nat),cd ρ [(1,.slice i a.length k),(2,pt b1),(4,pt b2),(5,.slice A dl.length c)]∧Inv [] w0 w [(some b2,blk [iv 0,iv 0] 51),(some b1,blk [.slice l b.length o,.slice q f.length s] 25)]∧(bi w A (al eD72 dl)∧(∀ d∈dl,okD72 w d)∧dl.length≤9223372036854775807∧dl.length≤c∧(dl=[]→A=none∧c=0))∧F85l N b f a mm (dl.map D72.p)=some t∧mm=m) (m:=N) ⟨none,0,[],N,⟨rfl,rfl,rfl,rfl,trivial⟩,I,⟨bi.nil0,fa_nil,by decide,Nat.le_refl _,fun _=>⟨rfl,rfl⟩⟩,ht,rfl⟩ ?_)
    rintro m ρ w ⟨A,c,dl,mm,hag,I,⟨hC,hO,hM,hK,hZ⟩,hF2,hm⟩
    subst hm; obtain ⟨ρ,rfl⟩:=hag.form; clear hag
    obtain _ | m1:=mm
    · cases (show (none:Option (List (List Gn)))=some t from hF2)
    replace hF2:(if ((dl.map D72.p).length:Int) < (a.length:Int) then bp (F85s N b f a (dl.map D72.p)) fun y=>F85l N b f a m1 y else some (dl.map D72.p))=some t:=hF2
    rw [List.length_map] at hF2
    refine ab (ab (rgn (by kernel_rfl) (pu3 (.slice A dl.length c) (iv ((dl.length:Nat):Int)) (.slice i a.length k) (by kernel_rfl) (pu (iv ((a.length:Nat):Int)) (by kernel_rfl) (ifE hF2 (fun h hF2=>?_) (fun h hF2=>?_))))))
    ·
      refine ph (cm rfl rfl (fun _=>?_) (fun h2=>absurd h h2))
      refine aa (ah rfl (ak (au (rgn (by kernel_rfl) (ph (ma I 1 Try.isAgg25 Try.sizeOf25 rfl rfl rfl (pu2 (.slice i a.length k) (.slice A dl.length c) (by kernel_rfl) (bt hF2 (fun y hy hF2=>ph (co 95 _ (by kernel_rfl) (L95s _ l o b q s f i k a A c dl (u.inv0 I) z B (C.inv0 I) D E (G.inv0 I) H J hC hO hM hK hZ N _ hy) ?_))))))))))
      rintro v w2 ⟨⟨A2,c2,dl2,rfl,hC2,hO2,he2,hM2,hK2,hb⟩,hne⟩
      have I:=I.call hb
      refine pu (.slice A2 dl2.length c2) (by kernel_rfl) (aa ?_)
      subst he2
      exact ⟨rfl,m1,Nat.lt_succ_self _,⟨A2,c2,dl2,m1,⟨rfl,rfl,rfl,rfl,trivial⟩,I,⟨hC2,hO2,hM2,hK2,fun e=>absurd (by rw [e]; rfl) hne⟩,hF2,rfl⟩⟩
    refine ph (cm rfl rfl (fun h2=>absurd h2 h) (fun _=>aa (ai rfl (bw (.inl ⟨rfl,⟨A,c,dl,⟨rfl,rfl,trivial⟩,I.pk [0] rfl rfl,hC,hO,Option.some.inj hF2⟩⟩)))))
  intro ρ w hJ
  obtain ⟨A,c,dl,hag,I,hC,hO,he⟩:=hJ
  obtain ⟨ρ,rfl⟩:=hag.form; clear hag
  refine ab (rgn (by kernel_rfl) (pu (.slice A dl.length c) (by kernel_rfl) (bt F (fun x hx F=>?_))))
  obtain ⟨A0,c0,hd⟩:=getD72 he hx
  obtain ⟨b3,o3,hA3,hb3,hc3⟩:=hC.at_ eD72_len (by decide) hd
  refine ph (cn 0 Try.underlying161 Try.sizeOf72 rfl hA3 rfl rfl (fa hd rfl) (ph (s_load rfl (bv (hc3 0 _ rfl) Try.isAgg72) (bt F (fun g hg F=>?_)))))
  obtain ⟨b4,o4,hA4,hb4,hc4⟩:=(hO _ (mem_of_get hd)).1.at_ ms (by decide) hg
  refine ph (cn 0 Try.underlying72 Try.sizeOf51 rfl hA4 rfl rfl (fa hg rfl) (ph (s_load rfl (run_load_agg (vs:=[iv g.num,iv g.den]) Try.isAgg51 Try.sizeOf51 rfl fun j v hj=>by rw [jl]; exact hc4 j v hj) (ph (mb I 0 _ Try.sizeOf51 rfl rfl rfl rfl rfl rfl fun w I=>aa (aj ?_))))))
  cases F
  exact ⟨_,Ret.c rfl rfl (ce I 0 2 [iv g.num,iv g.den] Try.isAgg51 Try.sizeOf51 rfl rfl rfl),⟨rfl,I.below⟩⟩


theorem L38 (w0:World) (g:Option Addr) (i:Nat) (b:List Ch) (j:Option Addr) (k:Nat) (d:List Ce) (e:Option Addr) (f:Nat) (a:List Cl) (q:bi w0 g (al eCh b)) (s:b.length≤9223372036854775807) (t:b.length≤i) (u:bi w0 j (al eCe d)) (x:d.length≤9223372036854775807) (y:d.length≤k) (z:bi w0 e (al eCl a)) (A:a.length≤9223372036854775807) (B:a.length≤f) (N:Nat) (r:(Int × Int × Int)) (F:F38 N b d a=some r):cc Try.prog 38 [.agg #[.slice g b.length i,.slice j d.length k],.slice e a.length f] w0 fun v w=>v=.tuple #[.agg #[iv r.1,iv r.2.1],iv r.2.2]∧Below w0.heap.size w0 w:=by
 refine az (n:=23) Try.func38 rfl Try.ntmps38 rfl ?_
 have I:=Inv.start w0
 unfold F38 at F
 refine ab (rgn (by kernel_rfl) (ph (ca I _ rfl fun G w I=>ph (bh I _ Try.zeroValue51 rfl fun H w I=>pu (iv 0) (by kernel_rfl) (aa (ab (rgn (by kernel_rfl) (ph (ma I 1 Try.isAgg25 Try.sizeOf25 rfl rfl rfl (pu (.slice e a.length f) (by kernel_rfl) (bt F (fun l C F=>ph (ac I 18 _ _ (by kernel_rfl) (L18 _ g i b j k d e f a (q.inv0 I) s t (u.inv0 I) x y (z.inv0 I) A B N _ C) fun w I=>pu (iv l) (by kernel_rfl) (aa (ab (ab (rgn (by kernel_rfl) (pu (iv l) (by kernel_rfl) (ifN F (fun m F=>?_) (fun m F=>?_))))))))))))))))))))
 ·
  refine ph (de rfl rfl (fun _=>?_) (fun h=>absurd h m))
  refine aa (ah rfl (ab (rgn (by kernel_rfl) (pu2 (.agg #[iv 0,iv 0]) (iv l) (by kernel_rfl) (ph (mb I 0 _ Try.sizeOf51 rfl rfl rfl rfl rfl rfl fun w I=>pu (iv l) (by kernel_rfl) (aa (aj ?_))))))))
  cases F
  exact ⟨_,Ret.ct rfl rfl (ce I 0 2 [iv 0,iv 0] Try.isAgg51 Try.sizeOf51 rfl rfl rfl) rfl,⟨rfl,I.below⟩⟩


 refine ph (de rfl rfl (fun h=>absurd m h) (fun _=>aa (ai rfl (ak (ab (rgn (by kernel_rfl) (ph (ma I 1 Try.isAgg25 Try.sizeOf25 rfl rfl rfl (pu (.slice e a.length f) (by kernel_rfl) (bt F (fun o D F=>ph (ac I 85 _ _ (by kernel_rfl) (L85 _ g i b j k d e f a (q.inv0 I) s t (u.inv0 I) x y (z.inv0 I) A B N _ D) fun w I=>ph (bh I _ Try.zeroValue51 rfl fun E w I=>ph (mb I 0 _ Try.sizeOf51 rfl rfl rfl rfl rfl rfl fun w I=>aa (ab (ab (rgn (by kernel_rfl) (pu (.pointer (some ⟨E,1,none⟩)) (by kernel_rfl) (ph (ag I 0 (iv o.2) Try.isAgg3 rfl rfl rfl (ifE F (fun p F=>?_) (fun p F=>?_))))))))))))))))))))))
 ·
  refine ph (di rfl rfl (fun _=>?_) (fun h=>absurd p h))
  refine aa (ah rfl (ab (rgn (by kernel_rfl) (pu (.agg #[iv 0,iv 0]) (by kernel_rfl) (ph (mb I 1 _ Try.sizeOf51 rfl rfl rfl rfl rfl rfl fun w I=>pu (iv 47) (by kernel_rfl) (aa (aj ?_))))))))
  cases F
  exact ⟨_,Ret.ct rfl rfl (ce I 1 2 [iv 0,iv 0] Try.isAgg51 Try.sizeOf51 rfl rfl rfl) rfl,⟨rfl,I.below⟩⟩
 refine ph (di rfl rfl (fun h=>absurd h p) (fun _=>aa (ai rfl (ak (ab (rgn (by kernel_rfl) (ph (ma I 0 Try.isAgg51 Try.sizeOf51 rfl rfl rfl (ph (mb I 1 _ Try.sizeOf51 rfl rfl rfl rfl rfl rfl fun w I=>pu (iv 0) (by kernel_rfl) (aa (aj ?_))))))))))))
 cases F
 exact ⟨_,Ret.ct rfl rfl (ce I 1 2 [iv o.1,iv o.2] Try.isAgg51 Try.sizeOf51 rfl rfl rfl) rfl,⟨rfl,I.below⟩⟩
theorem L40 (w0:World) (t:Option Addr) (x:Nat) (f:List Ch) (A:Option Addr) (B:Nat) (i:List Ce) (q:Option Addr) (o:Nat) (a:List Cl) (W:bi w0 t (al eCh f)) (Y:f.length≤9223372036854775807) (Z:f.length≤x) (a0:bi w0 A (al eCe i)) (a1:i.length≤9223372036854775807) (a2:i.length≤B) (P:bi w0 q (al eCl a)) (aF:a.length≤9223372036854775807) (S:a.length≤o) (N:Nat) (r:(List Int × Int)) (F:F40 N f i a=some r):cc Try.prog 40 [.agg #[.slice t f.length x,.slice A i.length B],.slice q a.length o] w0 fun v w=>∃ (z0:Option Nat) (z1:Nat) (z2:List Value),v=.tuple #[slv z0 r.1.length z1,iv r.2]∧Inv [] w0 w [(z0,blk z2 3)]∧Row 1 z0 r.1.length z1 z2 (al dv r.1):=by
 refine az (n:=55) Try.func40 rfl Try.ntmps40 rfl ?_
 have I:=Inv.start w0
 unfold F40 at F
 refine ab (rgn (by kernel_rfl) (ph (ca I _ rfl fun E w I=>pu2 (.slice none 0 0) (iv 0) (by kernel_rfl) (aa (ab (rgn (by kernel_rfl) (ph (ma I 0 Try.isAgg25 Try.sizeOf25 rfl rfl rfl (pu (.slice q a.length o) (by kernel_rfl) (bt F (fun T aK F=>ph (ac I 18 _ _ (by kernel_rfl) (L18 _ t x f A B i q o a (W.inv0 I) Y Z (a0.inv0 I) a1 a2 (P.inv0 I) aF S N _ aK) fun w I=>pu (iv T) (by kernel_rfl) (aa (ab (ab (rgn (by kernel_rfl) (pu (iv T) (by kernel_rfl) (ifN F (fun a3 F=>?_) (fun a3 F=>?_)))))))))))))))))))
 ·
  refine ph (de rfl rfl (fun _=>?_) (fun h=>absurd h a3))
  refine aa (ah rfl (ab (rgn (by kernel_rfl) (pu3 (iv T) (.slice none 0 0) (iv T) (by kernel_rfl) (aa (aj ?_))))))
  have I:=I.nilRow 3
  cases F
  exact ⟨_,Ret.r2 rfl rfl rfl,⟨none,0,[],rfl,I.pk [0] rfl rfl,Row.nil_ 1⟩⟩


 refine ph (de rfl rfl (fun h=>absurd a3 h) (fun _=>aa (ai rfl (ak (ab (rgn (by kernel_rfl) (ph (ma I 0 Try.isAgg25 Try.sizeOf25 rfl rfl rfl (pu (.slice q a.length o) (by kernel_rfl) (bt F (fun e aL F=>ph (ac I 85 _ _ (by kernel_rfl) (L85 _ t x f A B i q o a (W.inv0 I) Y Z (a0.inv0 I) a1 a2 (P.inv0 I) aF S N _ aL) fun w I=>ph (bh I _ Try.zeroValue51 rfl fun G w I=>ph (mb I 0 _ Try.sizeOf51 rfl rfl rfl rfl rfl rfl fun w I=>aa (ab (rgn (by kernel_rfl) (pu (.slice none 0 0) (by kernel_rfl) (aa (ab (ab (rgn (by kernel_rfl) (pu (iv 0) (by kernel_rfl) (aa (au ?_))))))))))))))))))))))))
 have I:=I.nilRow 3
 refine cb (fun m ρ w=>∃ (s:Option Nat) (C:Nat) (J:List Value) (p:List Int) (d:Int) (mm:Nat),cd ρ [(1,.slice q a.length o),(2,pt E),(7,pt G),(8,slv s p.length C),(9,iv d)]∧Inv [] w0 w [(some E,blk [.slice t f.length x,.slice A i.length B] 25),(some G,blk [iv e.1,iv e.2] 51),(s,blk J 3)]∧(Row 1 s (p.length) C J (al dv p))∧F40l1 f i a N e mm p d=some r∧mm=m) (m:=N) ⟨none,0,[],[],0,N,⟨rfl,rfl,rfl,rfl,rfl,trivial⟩,I.pk [2,1,0] rfl rfl,(Row.nil_ 1),F,rfl⟩ ?_
 rintro m ρ w ⟨s,C,J,p,d,mm,hag,I,a4,F,hm⟩
 subst hm; obtain ⟨ρ,rfl⟩:=hag.form; clear hag
 obtain _ | m1:=mm
 ·cases (show (none:Option (List Int × Int))=some r from F)
 replace F:F40b1 f i a N e (F40l1 f i a N e m1) p d=some r:=F; unfold F40b1 at F
 refine ab (ab (rgn (by kernel_rfl) (pu3 (iv d) (.slice q a.length o) (iv ((a.length:Nat):Int)) (by kernel_rfl) (ifN F (fun a5 F=>?_) (fun a5 F=>?_)))))
 ·
  refine ph (cm rfl rfl (fun h=>absurd h a5) (fun _=>aa (ai rfl (bw (ab (rgn (by kernel_rfl) (pu3 (slv s p.length C) (slv s p.length C) (iv 0) (by kernel_rfl) (aa (aj ?_)))))))))
  cases F
  exact ⟨_,Ret.r2 rfl rfl rfl,⟨s,C,J,rfl,I.pk [2] rfl rfl,a4.to rfl rfl⟩⟩
 refine ph (cm rfl rfl (fun _=>?_) (fun h=>absurd a5 h))
 refine aa (ah rfl (ak (dn (fun ρ w=>∃ (Q:Option Nat) (U:Nat) (V:List Value) (O:List Int),cd ρ [(1,.slice q a.length o),(2,pt E),(7,pt G),(8,slv Q O.length U),(9,iv d)]∧Inv [] w0 w [(some E,blk [.slice t f.length x,.slice A i.length B] 25),(some G,blk [iv e.1,iv e.2] 51),(Q,blk V 3)]∧(Row 1 Q (O.length) U V (al dv O))∧F40j2 (F40l1 f i a N e m1) d O=some r) ?_ ?_)))
 ·
  refine au (ab (gdE F (fun aG F=>gdE F (fun aM F=>gdE F (fun b2 F=>ckE F (fun aN F=>gdE F (fun aO F=>gdE F (fun aP F=>gdE F (fun b3 F=>?_)))))))))
  obtain ⟨aQ,hC1838,aR⟩:=cutA (enc:=eCl) (l:=a) (lo:=0) (hi:=(d).toNat) (c:=o) (k:=4) eb P aM S
  obtain ⟨aS,hC1844,aT⟩:=cutA (enc:=eCl) (l:=a) (lo:=(d+1).toNat) (hi:=a.length) (c:=o) (k:=4) eb P aP S
  refine wp_toks [⟨fun y=>(.slice (some ⟨(y 0).b,0,none⟩) 0 0),fun y=>[(some (y 0).b,blk [] 34)],fun _=>True,[],[]⟩,tv (fun _=>(.slice q a.length o)),tv (fun _=>(iv d)),tr (fun _=>(.slice aQ (((a.drop 0).take ((d).toNat - 0)).length) (o - 0))) [],⟨fun y=>(slv ((y 4).g 0) (((a.drop 0).take ((d).toNat - 0)).length) ((y 4).c 0)),fun y=>[(((y 4).g 0),blk ((y 4).cl 0) 34)],fun y=>(Row 4 ((y 4).g 0) (((a.drop 0).take ((d).toNat - 0)).length) ((y 4).c 0) ((y 4).cl 0) (al eCl ((a.drop 0).take ((d).toNat - 0)))),[0],[]⟩,tv (fun _=>(.slice q a.length o)),tv (fun _=>(iv d)),tr (fun _=>(iv (d+1))) [],tr (fun _=>(.slice aS (((a.drop ((d+1).toNat)).take (a.length - ((d+1).toNat))).length) (o - ((d+1).toNat)))) [],⟨fun y=>(slv ((y 9).g 0) ((((a.drop 0).take ((d).toNat - 0))++((a.drop ((d+1).toNat)).take (a.length - ((d+1).toNat)))).length) ((y 9).c 0)),fun y=>[(((y 9).g 0),blk ((y 9).cl 0) 34)],fun y=>(Row 4 ((y 9).g 0) ((((a.drop 0).take ((d).toNat - 0))++((a.drop ((d+1).toNat)).take (a.length - ((d+1).toNat)))).length) ((y 9).c 0) ((y 9).cl 0) (al eCl (((a.drop 0).take ((d).toNat - 0))++((a.drop ((d+1).toNat)).take (a.length - ((d+1).toNat)))))),[4],[]⟩,tv (fun y=>(slv ((y 9).g 0) ((((a.drop 0).take ((d).toNat - 0))++((a.drop ((d+1).toNat)).take (a.length - ((d+1).toNat)))).length) ((y 9).c 0)))] (fun y=>[(1,.slice q a.length o),(2,pt E),(7,pt G),(8,slv s p.length C),(9,iv d),(10,slv ((y 9).g 0) ((((a.drop 0).take ((d).toNat - 0))++((a.drop ((d+1).toNat)).take (a.length - ((d+1).toNat)))).length) ((y 9).c 0))]) (fun y=>[(((y 9).g 0),blk ((y 9).cl 0) 34),(some E,blk [.slice t f.length x,.slice A i.length B] 25),(some G,blk [iv e.1,iv e.2] 51),(s,blk J 3)]) I (by kernel_rfl) (fun y=>⟨(by kernel_rfl),(by kernel_rfl)⟩) (fun y=>?_) ?_
  ·
   refine tg (.slice (some ⟨(y 0).b,0,none⟩) 0 0) [] [] rfl ⟨(by kernel_rfl),(by kernel_rfl),(by kernel_rfl)⟩ ?_ ?_
   ·intro hp X w I
    refine fu I [] 34 (fun b=>slv (some b) 0 0) (by kernel_rfl) fun aH w I=>⟨wit aH [] [] [] [],(by kernel_rfl),trivial,I.castL (by kernel_rfl)⟩
   refine tp rfl (fun _=>(by kernel_rfl)) (tp rfl (fun _=>(by kernel_rfl)) (tl0 rfl (fun X w I=>aR Try.underlying26 Try.sizeOf34 rfl (.inr ⟨rfl,rfl⟩) (.inl (congrArg (fun z=>some (Value.int .i64 z)) (Int.toNat_of_nonneg aG).symm)) br) (tg (slv ((y 4).g 0) (((a.drop 0).take ((d).toNat - 0)).length) ((y 4).c 0)) [(some (y 0).b,blk [] 34)] [] rfl ⟨(by kernel_rfl),(by kernel_rfl),(by kernel_rfl)⟩ ?_ ?_)))
   ·intro hp X w I
    refine ks I Try.underlying26 (z:=.agg #[iv 0,iv 0,iv 0,iv 0]) (k:=4) (bytes:=32) (by kernel_rfl) rfl rfl 0 rfl rfl (Row.zero_ 4 (y 0).b) (al eCl ((a.drop 0).take ((d).toNat - 0))) rfl (dt eb _) (hC1838.inv0 I) (flat_cell eCl_cell _) (by omega) (by omega) (n2:=((a.drop 0).take ((d).toNat - 0)).length) (app_len0 rfl) ?_
    intro a6 a7 a8 w I R
    have R:Row 4 a6 (((a.drop 0).take ((d).toNat - 0)).length) a7 a8 (al eCl ((a.drop 0).take ((d).toNat - 0))):=R
    exact ⟨wit 0 [a6] [a7] [a8] [],(by kernel_rfl),Eq.mp (by kernel_rfl) R,I.castL (by kernel_rfl)⟩
   refine tp rfl (fun _=>(by kernel_rfl)) (tp rfl (fun _=>(by kernel_rfl)) (tl0 rfl (fun X w I=>cj rfl rfl aN br) (tl0 rfl (fun X w I=>aT Try.underlying26 Try.sizeOf34 rfl (.inl (congrArg (fun z=>some (Value.int .i64 z)) (Int.toNat_of_nonneg aO).symm)) (.inr ⟨rfl,rfl⟩) br) (tg (slv ((y 9).g 0) ((((a.drop 0).take ((d).toNat - 0))++((a.drop ((d+1).toNat)).take (a.length - ((d+1).toNat)))).length) ((y 9).c 0)) [(((y 4).g 0),blk ((y 4).cl 0) 34)] [] rfl ⟨(by kernel_rfl),(by kernel_rfl),(by kernel_rfl)⟩ ?_ ?_))))
   ·intro hp X w I
    have R:Row 4 ((y 4).g 0) (((a.drop 0).take ((d).toNat - 0)).length) ((y 4).c 0) ((y 4).cl 0) (al eCl ((a.drop 0).take ((d).toNat - 0))):=pg hp (k:=4) ⟨(by kernel_rfl),(by kernel_rfl)⟩
    refine ks I Try.underlying26 (z:=.agg #[iv 0,iv 0,iv 0,iv 0]) (k:=4) (bytes:=32) (by kernel_rfl) rfl rfl 0 rfl rfl R (al eCl ((a.drop ((d+1).toNat)).take (a.length - ((d+1).toNat)))) rfl (dt eb _) (hC1844.inv0 I) (flat_cell eCl_cell _) (by omega) (by omega) (n2:=(((a.drop 0).take ((d).toNat - 0))++((a.drop ((d+1).toNat)).take (a.length - ((d+1).toNat)))).length) (kr rfl rfl) ?_
    intro K L a9 w I M
    have M:Row 4 K ((((a.drop 0).take ((d).toNat - 0))++((a.drop ((d+1).toNat)).take (a.length - ((d+1).toNat)))).length) L a9 (al eCl (((a.drop 0).take ((d).toNat - 0))++((a.drop ((d+1).toNat)).take (a.length - ((d+1).toNat))))):=M.more
    exact ⟨wit 0 [K] [L] [a9] [],(by kernel_rfl),Eq.mp (by kernel_rfl) M,I.castL (by kernel_rfl)⟩
   refine tpv (slv ((y 9).g 0) ((((a.drop 0).take ((d).toNat - 0))++((a.drop ((d+1).toNat)).take (a.length - ((d+1).toNat)))).length) ((y 9).c 0)) rfl ⟨(by kernel_rfl),fun _=>(by kernel_rfl)⟩ (tn)
  intro y hp ρ w hag I
  have M:Row 4 ((y 9).g 0) ((((a.drop 0).take ((d).toNat - 0))++((a.drop ((d+1).toNat)).take (a.length - ((d+1).toNat)))).length) ((y 9).c 0) ((y 9).cl 0) (al eCl (((a.drop 0).take ((d).toNat - 0))++((a.drop ((d+1).toNat)).take (a.length - ((d+1).toNat))))):=pgl hp (k:=9) (by decide) (by kernel_rfl)
  clear hp
  generalize (y 0).b=aH at *
  generalize (y 4).g 0=a6 at *
  generalize (y 4).c 0=a7 at *
  generalize (y 4).cl 0=a8 at *
  generalize (y 9).g 0=K at *
  generalize (y 9).c 0=L at *
  generalize (y 9).cl 0=a9 at *
  obtain ⟨ρ,rfl⟩:=hag.form; clear hag
  refine dn (fun ρ w=>cd ρ [(1,.slice q a.length o),(2,pt E),(7,pt G),(8,slv s p.length C),(9,iv d),(45,bT)]∧Inv [] w0 w [(some E,blk [.slice t f.length x,.slice A i.length B] 25),(some G,blk [iv e.1,iv e.2] 51),(s,blk J 3)]∧F40j3 a (F40l1 f i a N e m1) p d=some r) ?_ ?_
  ·
   refine gm 10 I (by kernel_rfl) (zp (slv K ((((a.drop 0).take ((d).toNat - 0))++((a.drop ((d+1).toNat)).take (a.length - ((d+1).toNat)))).length) L) (fun _=>(by kernel_rfl)) (zc (iv ((((a.drop 0).take ((d).toNat - 0))++((a.drop ((d+1).toNat)).take (a.length - ((d+1).toNat)))).length:Int)) (fun w I=>kl (iv (((((a.drop 0).take ((d).toNat - 0))++((a.drop ((d+1).toNat)).take (a.length - ((d+1).toNat)))).length:Nat):Int)) (by kernel_rfl) br) (ifE F (fun aA F=>?_) (fun aA F=>?_))))
   ·
    refine zc bT (fun w I=>di rfl rfl (fun _=>br) (fun h=>absurd aA h)) (zp bT (fun _=>(by kernel_rfl)) (zf 5 (by kernel_rfl) (zp bT (fun _=>(by kernel_rfl)) (zh (fun w I=>aa (.inl ⟨rfl,⟨⟨rfl,rfl,rfl,rfl,rfl,rfl,trivial⟩,I.pk [1,2,3] rfl rfl,F⟩⟩))))))
   refine zc bF (fun w I=>di rfl rfl (fun h=>absurd h aA) (fun _=>br)) (zp bF (fun _=>(by kernel_rfl)) (zo (.agg #[.slice t f.length x,.slice A i.length B]) (by kernel_rfl) (fun w I=>ma I 1 Try.isAgg25 Try.sizeOf25 rfl rfl rfl br) (zq (slv K ((((a.drop 0).take ((d).toNat - 0))++((a.drop ((d+1).toNat)).take (a.length - ((d+1).toNat)))).length) L) (by kernel_rfl) (fun _=>(by kernel_rfl)) (bt F (fun D aU F=>zo (.agg #[iv D.1,iv D.2]) (by kernel_rfl) (fun w I=>co 85 [.agg #[.slice t f.length x,.slice A i.length B],slv K ((((a.drop 0).take ((d).toNat - 0))++((a.drop ((d+1).toNat)).take (a.length - ((d+1).toNat)))).length) L] (by kernel_rfl) (L85 _ t x f A B i (K.map fun b=>⟨b,0,none⟩) L (((a.drop 0).take ((d).toNat - 0))++((a.drop ((d+1).toNat)).take (a.length - ((d+1).toNat)))) (W.inv0 I) Y Z (a0.inv0 I) a1 a2 (I.rowCells 0 rfl M) (am rfl M.big) (am rfl M.cap) N _ aU) (fun v' w' h=>h)) (zo (.agg #[iv e.1,iv e.2]) (by kernel_rfl) (fun w I=>ma I 2 Try.isAgg51 Try.sizeOf51 rfl rfl rfl br) (ifN F (fun aB F=>?_) (fun aB F=>?_))))))))
   ·
    refine zo bT (by kernel_rfl) (fun w I=>s_neqA (b:=decide (D.1=e.1) && decide (D.2=e.2)) rfl rfl (by kernel_rfl) (fun w=>eq51 _ D.1 D.2 e.1 e.2 w) (fun _=>br) (fun h=>absurd h aB)) (zp bT (fun _=>(by kernel_rfl)) (zh (fun w I=>aa (.inl ⟨rfl,⟨⟨rfl,rfl,rfl,rfl,rfl,rfl,trivial⟩,I.pk [1,2,3] rfl rfl,F⟩⟩))))
   refine zo bF (by kernel_rfl) (fun w I=>s_neqA (b:=decide (D.1=e.1) && decide (D.2=e.2)) rfl rfl (by kernel_rfl) (fun w=>eq51 _ D.1 D.2 e.1 e.2 w) (fun h=>absurd aB h) (fun _=>br)) (zp bF (fun _=>(by kernel_rfl)) (zh (fun w I=>aa (.inr (ai rfl (ak (.inl ⟨rfl,⟨s,C,J,p,⟨rfl,rfl,rfl,rfl,rfl,trivial⟩,I.pk [1,2,3] rfl rfl,(a4.to rfl rfl),F⟩⟩)))))))
  intro ρ w hJ
  obtain ⟨hag,I,F⟩:=hJ
  obtain ⟨ρ,rfl⟩:=hag.form; clear hag
  unfold F40j3 at F
  refine ah rfl (rgn (by kernel_rfl) (pu3 (slv s p.length C) (.slice q a.length o) (iv d) (by kernel_rfl) (bt F (fun H aI F=>?_))))
  obtain ⟨aV,aW,aX,aY,aZ⟩:=P.at_ eb (by decide) aI
  refine ph (cn (d).toNat Try.underlying26 Try.sizeOf34 rfl aX rfl (Int.toNat_of_nonneg aG).symm (fa aI rfl) (pu (.pointer (some ⟨aV,aW+(d).toNat * 4,none⟩)) (by kernel_rfl) (ph (dj I (iv H.fam) Try.isAgg3 rfl aY (by simp) (aZ 0 _ rfl) (ph (fu I [iv H.fam] 3 (fun b=>slv (some b) 1 1) (by kernel_rfl) fun b4 w I=>gdE F (fun b5 F=>ph (ks I Try.underlying52 (z:=iv 0) (k:=1) (bytes:=8) (by kernel_rfl) rfl rfl 3 rfl rfl a4 [iv H.fam] rfl rfl (I.cells 0 (off:=0) rfl (fun j u h=>by rw [Nat.zero_add]; exact h)) (by simp [Value.oneCell']) (by omega) (by omega) (n2:=(p++[H.fam]).length) (kr rfl rfl) ?_))))))))
  intro aC aD aJ w I aE
  have aE:Row 1 aC ((p++[H.fam]).length) aD aJ (al dv (p++[H.fam])):=aE.snoc _ rfl
  refine pu (slv aC ((p++[H.fam]).length) aD) (by kernel_rfl) (aa (.inl ⟨rfl,⟨aC,aD,aJ,p++[H.fam],⟨rfl,rfl,rfl,rfl,rfl,trivial⟩,I.pk [1,2,3] rfl rfl,(aE.to rfl rfl),F⟩⟩))
 intro ρ w hJ
 obtain ⟨Q,U,V,O,hag,I,b0,F⟩:=hJ
 obtain ⟨ρ,rfl⟩:=hag.form; clear hag
 unfold F40j2 at F
 refine rgn (by kernel_rfl) (pu (iv d) (by kernel_rfl) (ckE F (fun b1 F=>ph (cj rfl rfl b1 (pu (iv (d+1)) (by kernel_rfl) (aa (⟨rfl,m1,Nat.lt_succ_self _,⟨Q,U,V,O,d+1,m1,⟨rfl,rfl,rfl,rfl,rfl,trivial⟩,I.pk [0,1,2] rfl rfl,(b0.to rfl rfl),F,rfl⟩⟩)))))))
theorem L41 (w0:World) (i:Option Addr) (j:Nat) (a:List Gn) (k:Option Addr) (l:Nat) (e:List Gn) (D:bi w0 i (al eGn a)) (T:a.length≤9223372036854775807) (U:a.length≤j) (E:bi w0 k (al eGn e)) (V:e.length≤9223372036854775807) (W:e.length≤l) (N:Nat) (r:Bool) (F:F41 N a e=some r):cc Try.prog 41 [.slice i a.length j,.slice k e.length l] w0 fun v w=>v=.bool r∧Below w0.heap.size w0 w:=by
 refine az (n:=31) Try.func41 rfl Try.ntmps41 rfl ?_
 have I:=Inv.start w0
 unfold F41 at F
 refine ab (rgn (by kernel_rfl) (pu bF (by kernel_rfl) (aa (dn (fun ρ w=>∃ (p:Bool),cd ρ [(0,.slice i a.length j),(1,.slice k e.length l),(5,.bool p)]∧Inv [] w0 w []∧F41j1 a e N p=some r) ?_ ?_))))
 ·
  refine rgn (by kernel_rfl) (pu3 (.slice i a.length j) (iv ((a.length:Nat):Int)) (.slice k e.length l) (by kernel_rfl) (pu (iv ((e.length:Nat):Int)) (by kernel_rfl) (ifE F (fun u F=>?_) (fun u F=>?_))))
  ·
   refine ph (di rfl rfl (fun _=>?_) (fun h=>absurd u h))
   refine pu bT (by kernel_rfl) (aa (.inl ⟨rfl,⟨true,⟨rfl,rfl,rfl,trivial⟩,I.pk [] rfl rfl,F⟩⟩))
  refine ph (di rfl rfl (fun h=>absurd h u) (fun _=>pu bF (by kernel_rfl) (aa (.inl ⟨rfl,⟨false,⟨rfl,rfl,rfl,trivial⟩,I.pk [] rfl rfl,F⟩⟩))))
 intro ρ w hJ
 obtain ⟨p,hag,I,F⟩:=hJ
 obtain ⟨ρ,rfl⟩:=hag.form; clear hag
 unfold F41j1 at F
 refine dn (fun ρ w=>∃ (q:Bool),cd ρ [(5,.bool q)]∧Inv [] w0 w []∧F41j2 q=some r) ?_ ?_
 ·
  refine ab (rgn (by kernel_rfl) (pu (iv 0) (by kernel_rfl) (aa (au (cb (fun m ρ w=>∃ (o:Bool) (d:Int) (mm:Nat),cd ρ [(0,.slice i a.length j),(1,.slice k e.length l),(5,.bool o),(6,iv d)]∧Inv [] w0 w []∧F41l3 a e mm o d=some r∧mm=m) (m:=N) ⟨p,0,N,⟨rfl,rfl,rfl,rfl,trivial⟩,I.pk [] rfl rfl,F,rfl⟩ ?_)))))
  rintro m ρ w ⟨o,d,mm,hag,I,F,hm⟩
  subst hm; obtain ⟨ρ,rfl⟩:=hag.form; clear hag
  obtain _ | m3:=mm
  ·cases (show (none:Option Bool)=some r from F)
  replace F:F41b3 a e (F41l3 a e m3) o d=some r:=F; unfold F41b3 at F
  refine ab (dn (fun ρ w=>∃ (s:Bool),cd ρ [(0,.slice i a.length j),(1,.slice k e.length l),(5,.bool s),(6,iv d),(18,bF)]∧Inv [] w0 w []∧F41j4 s=some r) ?_ ?_)
  ·
   have hG:=F; rcases Bool.eq_false_or_eq_true o with rfl | rfl
   ·
    have F:=hG; clear hG
    refine ifE F (fun _ F=>?_) (fun h=>absurd rfl h)
    refine rgn (by kernel_rfl) (pu3 (iv d) (.slice i a.length j) (iv ((a.length:Nat):Int)) (by kernel_rfl) (ifN F (fun x F=>?_) (fun x F=>?_)))
    ·
     refine ph (cm rfl rfl (fun h=>absurd h x) (fun _=>pu bF (by kernel_rfl) (of_ (by kernel_rfl) (pu bF (by kernel_rfl) (aa (.inl ⟨rfl,⟨true,⟨rfl,rfl,rfl,rfl,rfl,trivial⟩,I.pk [] rfl rfl,F⟩⟩))))))
    refine ph (cm rfl rfl (fun _=>?_) (fun h=>absurd x h))
    refine pu bT (by kernel_rfl) (pup bT (by kernel_rfl) (pu bT (by kernel_rfl) (aa (.inr (ah rfl (ak (dn (fun ρ w=>∃ (t:Bool),cd ρ [(0,.slice i a.length j),(1,.slice k e.length l),(5,.bool t),(6,iv d)]∧Inv [] w0 w []∧F41j5 (F41l3 a e m3) d t=some r) ?_ ?_)))))))
    ·
     refine au (gm 10 I (by kernel_rfl) (zp2 (.slice i a.length j) (iv d) (fun _=>(by kernel_rfl)) (gdE F (fun A F=>bt F (fun f B F=>?_)))))
     obtain ⟨G,H,J,K,L⟩:=D.at_ ms (by decide) B
     refine zc (.pointer (some ⟨G,H+(d).toNat * 2,none⟩)) (fun w I=>cn (d).toNat Try.underlying72 Try.sizeOf51 rfl J rfl (Int.toNat_of_nonneg A).symm (fa B rfl) br) (zc (.agg #[iv f.num,iv f.den]) (fun w I=>ef I [iv f.num,iv f.den] Try.isAgg51 Try.sizeOf51 rfl rfl K (by simp) L br) (zp2 (.slice k e.length l) (iv d) (fun _=>(by kernel_rfl)) (bt F (fun g C F=>?_))))
     obtain ⟨M,O,P,Q,R⟩:=E.at_ ms (by decide) C
     refine zc (.pointer (some ⟨M,O+(d).toNat * 2,none⟩)) (fun w I=>cn (d).toNat Try.underlying72 Try.sizeOf51 rfl P rfl (Int.toNat_of_nonneg A).symm (fa C rfl) br) (zc (.agg #[iv g.num,iv g.den]) (fun w I=>ef I [iv g.num,iv g.den] Try.isAgg51 Try.sizeOf51 rfl rfl Q (by simp) R br) (ifE F (fun y F=>?_) (fun y F=>?_)))
     ·
      refine zc bT (fun w I=>kz (b:=decide (f.num=g.num) && decide (f.den=g.den)) rfl rfl (by kernel_rfl) (fun w=>eq51 _ f.num f.den g.num g.den w) (fun _=>br) (fun h=>absurd y h)) (zp bT (fun _=>(by kernel_rfl)) (zh (fun w I=>aa (.inl ⟨rfl,⟨true,⟨rfl,rfl,rfl,rfl,trivial⟩,I.pk [] rfl rfl,F⟩⟩))))
     refine zc bF (fun w I=>kz (b:=decide (f.num=g.num) && decide (f.den=g.den)) rfl rfl (by kernel_rfl) (fun w=>eq51 _ f.num f.den g.num g.den w) (fun h=>absurd h y) (fun _=>br)) (zp bF (fun _=>(by kernel_rfl)) (zh (fun w I=>aa (.inl ⟨rfl,⟨false,⟨rfl,rfl,rfl,rfl,trivial⟩,I.pk [] rfl rfl,F⟩⟩))))
    intro ρ w hJ
    obtain ⟨t,hag,I,F⟩:=hJ
    obtain ⟨ρ,rfl⟩:=hag.form; clear hag
    unfold F41j5 at F
    refine rgn (by kernel_rfl) (pu (iv d) (by kernel_rfl) (ckE F (fun S F=>ph (cj rfl rfl S (pu (iv (d+1)) (by kernel_rfl) (aa (⟨rfl,m3,Nat.lt_succ_self _,⟨t,d+1,m3,⟨rfl,rfl,rfl,rfl,trivial⟩,I.pk [] rfl rfl,F,rfl⟩⟩)))))))
   have F:=hG; clear hG
   refine ifE F (fun h=>absurd h (by decide)) (fun _ F=>rgn (by kernel_rfl) (pu3 (iv d) (.slice i a.length j) (iv ((a.length:Nat):Int)) (by kernel_rfl) (ifN F (fun z F=>?_) (fun z F=>?_))))
   ·
    refine ph (cm rfl rfl (fun h=>absurd h z) (fun _=>pu bF (by kernel_rfl) (of_ (by kernel_rfl) (pu bF (by kernel_rfl) (aa (.inl ⟨rfl,⟨false,⟨rfl,rfl,rfl,rfl,rfl,trivial⟩,I.pk [] rfl rfl,F⟩⟩))))))
   refine ph (cm rfl rfl (fun _=>?_) (fun h=>absurd z h))
   refine pu bT (by kernel_rfl) (pup bF (by kernel_rfl) (pu bF (by kernel_rfl) (aa (.inl ⟨rfl,⟨false,⟨rfl,rfl,rfl,rfl,rfl,trivial⟩,I.pk [] rfl rfl,F⟩⟩))))
  intro ρ w hJ
  obtain ⟨s,hag,I,F⟩:=hJ
  obtain ⟨ρ,rfl⟩:=hag.form; clear hag
  unfold F41j4 at F
  refine ai rfl (bw (.inl ⟨rfl,⟨s,⟨rfl,trivial⟩,I.pk [] rfl rfl,F⟩⟩))
 intro ρ w hJ
 obtain ⟨q,hag,I,F⟩:=hJ
 obtain ⟨ρ,rfl⟩:=hag.form; clear hag
 unfold F41j2 at F
 refine ab ?_
 have hG:=F; rcases Bool.eq_false_or_eq_true q with rfl | rfl
 ·
  have F:=hG; clear hG
  refine ifE F (fun _ F=>?_) (fun h=>absurd rfl h)
  refine rgn (by kernel_rfl) (pu2 bT bT (by kernel_rfl) (aa (aj ?_)))
  cases F
  exact ⟨_,Ret.r1 rfl rfl,⟨rfl,I.below⟩⟩
 have F:=hG; clear hG
 refine ifE F (fun h=>absurd h (by decide)) (fun _ F=>rgn (by kernel_rfl) (pu2 bF bF (by kernel_rfl) (aa (aj ?_))))
 cases F
 exact ⟨_,Ret.r1 rfl rfl,⟨rfl,I.below⟩⟩


theorem L43 (w0:World) (g:Option Addr) (i:Nat) (b:List Ch) (j:Option Addr) (k:Nat) (d:List Ce) (e:Option Addr) (f:Nat) (a:List Cl) (m:Option Addr) (o:Nat) (l:List Dr) (p:bi w0 g (al eCh b)) (q:b.length≤9223372036854775807) (s:b.length≤i) (t:bi w0 j (al eCe d)) (u:d.length≤9223372036854775807) (x:d.length≤k) (y:bi w0 e (al eCl a)) (z:a.length≤9223372036854775807) (A:a.length≤f) (C:bi w0 m (al eDr l)) (D:l.length≤9223372036854775807) (E:l.length≤o) (N:Nat) (r:Int) (F:F43 N b d a l=some r):cc Try.prog 43 [.agg #[.slice g b.length i,.slice j d.length k],.slice e a.length f,.slice m l.length o] w0 fun v w=>v=iv r∧Below w0.heap.size w0 w:=by
 refine az (n:=24) Try.func43 rfl Try.ntmps43 rfl ?_
 have I:=Inv.start w0
 unfold F43 at F
 refine ab (rgn (by kernel_rfl) (ph (ca I _ rfl fun R w I=>pu (iv 0) (by kernel_rfl) (aa (ab (rgn (by kernel_rfl) (ph (ma I 0 Try.isAgg25 Try.sizeOf25 rfl rfl rfl (pu (.slice e a.length f) (by kernel_rfl) (bindS3E F (fun S O F=>?_) (fun T P F=>?_) (fun G Q F=>?_)))))))))))
 ·
  refine ph (ac I 64 _ _ (by kernel_rfl) (L64 _ g i b j k d e f a (p.inv0 I) q s (t.inv0 I) u x (y.inv0 I) z A N _ O) fun w I=>pu3 (.tuple #[.agg #[.slice none 0 0,.slice none 0 0,.map none,.slice none 0 0],iv 42]) (.agg #[.slice none 0 0,.slice none 0 0,.map none,.slice none 0 0]) (iv 42) (by kernel_rfl) (ph (bh I _ Try.zeroValue120 rfl fun U w I=>ph (mb I 0 _ Try.sizeOf120 rfl rfl rfl rfl rfl rfl fun w I=>pu (iv 42) (by kernel_rfl) (aa (ab (ab (rgn (by kernel_rfl) (pu (iv 42) (by kernel_rfl) (ph (di rfl rfl (fun h=>absurd h (by decide)) (fun _=>pu bF (by kernel_rfl) (sf 4 (by kernel_rfl) (pu bF (by kernel_rfl) (aa (ai rfl (ak (ab (rgn (by kernel_rfl) (pu2 (iv 42) (iv 42) (by kernel_rfl) (aa (aj ?_))))))))))))))))))))))
  cases F
  exact ⟨_,Ret.r1 rfl rfl,⟨rfl,I.below⟩⟩
 ·
  refine ph (ac I 64 _ _ (by kernel_rfl) (L64 _ g i b j k d e f a (p.inv0 I) q s (t.inv0 I) u x (y.inv0 I) z A N _ P) fun w I=>pu3 (.tuple #[.agg #[.slice none 0 0,.slice none 0 0,.map none,.slice none 0 0],iv 44]) (.agg #[.slice none 0 0,.slice none 0 0,.map none,.slice none 0 0]) (iv 44) (by kernel_rfl) (ph (bh I _ Try.zeroValue120 rfl fun V w I=>ph (mb I 0 _ Try.sizeOf120 rfl rfl rfl rfl rfl rfl fun w I=>pu (iv 44) (by kernel_rfl) (aa (ab (ab (rgn (by kernel_rfl) (pu (iv 44) (by kernel_rfl) (ph (di rfl rfl (fun h=>absurd h (by decide)) (fun _=>pu bF (by kernel_rfl) (sf 4 (by kernel_rfl) (pu bF (by kernel_rfl) (aa (ai rfl (ak (ab (rgn (by kernel_rfl) (pu2 (iv 44) (iv 44) (by kernel_rfl) (aa (aj ?_))))))))))))))))))))))
  cases F
  exact ⟨_,Ret.r1 rfl rfl,⟨rfl,I.below⟩⟩
 refine ph (co 64 _ (by kernel_rfl) (L64 _ g i b j k d e f a (p.inv0 I) q s (t.inv0 I) u x (y.inv0 I) z A N _ Q) ?_)
 rintro v w ⟨B,H,J,rfl,hN,K,L⟩
 have I:=I.join hN; clear hN
 refine pu3 (.tuple #[.agg #[.slice g b.length i,.slice j d.length k,.map (some B),.slice e a.length f],iv 0]) (.agg #[.slice g b.length i,.slice j d.length k,.map (some B),.slice e a.length f]) (iv 0) (by kernel_rfl) (ph (bh I _ Try.zeroValue120 rfl fun W w I=>ph (mb I 0 _ Try.sizeOf120 rfl rfl rfl rfl rfl rfl fun w I=>pu (iv 0) (by kernel_rfl) (aa (ab (ab (rgn (by kernel_rfl) (pu (iv 0) (by kernel_rfl) (ph (di rfl rfl (fun _=>?_) (fun h=>absurd (by decide) h)))))))))))
 refine pu bT (by kernel_rfl) (aw (by kernel_rfl) (ma I 0 Try.isAgg120 Try.sizeOf120 rfl rfl rfl (pup (.slice m l.length o) (by kernel_rfl) (bt F (fun X M F=>ifN F (fun h8 F=>?_) (fun h8 F=>?_))))))
 ·
  refine aw (by kernel_rfl) (ac I 81 _ _ (by kernel_rfl) (cc.mono (L81 _ g i b j k d B H J G e f a m o l (p.inv0 I) q s (t.inv0 I) u x (I.has 1 _ _ rfl).1 K L (y.inv0 I) z A (C.inv0 I) D E N _ M) (fun v' w' h=>⟨h.1.trans (congrArg Value.bool (Bool.eq_false_iff.2 h8)),h.2⟩)) fun w I=>pup bT (by kernel_rfl) (pu bT (by kernel_rfl) (aa (ah rfl (ab (rgn (by kernel_rfl) (pu (iv 46) (by kernel_rfl) (aa (aj ?_)))))))))
  cases F
  exact ⟨_,Ret.r1 rfl rfl,⟨rfl,I.below⟩⟩


 refine aw (by kernel_rfl) (ac I 81 _ _ (by kernel_rfl) (cc.mono (L81 _ g i b j k d B H J G e f a m o l (p.inv0 I) q s (t.inv0 I) u x (I.has 1 _ _ rfl).1 K L (y.inv0 I) z A (C.inv0 I) D E N _ M) (fun v' w' h=>⟨h.1.trans (congrArg Value.bool h8),h.2⟩)) fun w I=>pup bF (by kernel_rfl) (pu bF (by kernel_rfl) (aa (ai rfl (ak (ab (rgn (by kernel_rfl) (pu2 (iv 0) (iv 0) (by kernel_rfl) (aa (aj ?_))))))))))
 cases F
 exact ⟨_,Ret.r1 rfl rfl,⟨rfl,I.below⟩⟩
theorem L45 (w0:World) (i:Option Addr) (j:Nat) (d:List Ch) (k:Option Addr) (l:Nat) (e:List Ce) (f:Option Addr) (g:Nat) (a:List Cl) (b:Cw) (p:bi w0 i (al eCh d)) (q:d.length≤9223372036854775807) (s:d.length≤j) (t:bi w0 k (al eCe e)) (u:e.length≤9223372036854775807) (x:e.length≤l) (y:bi w0 f (al eCl a)) (z:a.length≤9223372036854775807) (A:a.length≤g) (N:Nat) (r:Int) (F:F45 N d e a b=some r):cc Try.prog 45 [.agg #[.slice i d.length j,.slice k e.length l],.slice f a.length g,.agg #[iv b.fst,iv b.lst]] w0 fun v w=>v=iv r∧Below w0.heap.size w0 w:=by
 refine az (n:=45) Try.func45 rfl Try.ntmps45 rfl ?_
 have I:=Inv.start w0
 unfold F45 at F
 refine ab (rgn (by kernel_rfl) (ph (ca I _ rfl fun S w I=>ph (ca I _ rfl fun m w I=>pu (iv 0) (by kernel_rfl) (aa (ab (rgn (by kernel_rfl) (ph (ma I 1 Try.isAgg25 Try.sizeOf25 rfl rfl rfl (pu (.slice f a.length g) (by kernel_rfl) (bindS3E F (fun T P F=>?_) (fun U Q F=>?_) (fun B R F=>?_))))))))))))
 ·
  refine ph (ac I 64 _ _ (by kernel_rfl) (L64 _ i j d k l e f g a (p.inv0 I) q s (t.inv0 I) u x (y.inv0 I) z A N _ P) fun w I=>pu3 (.tuple #[.agg #[.slice none 0 0,.slice none 0 0,.map none,.slice none 0 0],iv 42]) (.agg #[.slice none 0 0,.slice none 0 0,.map none,.slice none 0 0]) (iv 42) (by kernel_rfl) (ph (bh I _ Try.zeroValue120 rfl fun V w I=>ph (mb I 0 _ Try.sizeOf120 rfl rfl rfl rfl rfl rfl fun w I=>pu (iv 42) (by kernel_rfl) (aa (ab (ab (rgn (by kernel_rfl) (pu (iv 42) (by kernel_rfl) (ph (de rfl rfl (fun _=>?_) (fun h=>absurd h (by decide)))))))))))))
  refine aa (ah rfl (ab (rgn (by kernel_rfl) (pu2 (iv 42) (iv 42) (by kernel_rfl) (aa (aj ?_))))))
  cases F
  exact ⟨_,Ret.r1 rfl rfl,⟨rfl,I.below⟩⟩
 ·
  refine ph (ac I 64 _ _ (by kernel_rfl) (L64 _ i j d k l e f g a (p.inv0 I) q s (t.inv0 I) u x (y.inv0 I) z A N _ Q) fun w I=>pu3 (.tuple #[.agg #[.slice none 0 0,.slice none 0 0,.map none,.slice none 0 0],iv 44]) (.agg #[.slice none 0 0,.slice none 0 0,.map none,.slice none 0 0]) (iv 44) (by kernel_rfl) (ph (bh I _ Try.zeroValue120 rfl fun W w I=>ph (mb I 0 _ Try.sizeOf120 rfl rfl rfl rfl rfl rfl fun w I=>pu (iv 44) (by kernel_rfl) (aa (ab (ab (rgn (by kernel_rfl) (pu (iv 44) (by kernel_rfl) (ph (de rfl rfl (fun _=>?_) (fun h=>absurd h (by decide)))))))))))))
  refine aa (ah rfl (ab (rgn (by kernel_rfl) (pu2 (iv 44) (iv 44) (by kernel_rfl) (aa (aj ?_))))))
  cases F
  exact ⟨_,Ret.r1 rfl rfl,⟨rfl,I.below⟩⟩
 refine ph (co 64 _ (by kernel_rfl) (L64 _ i j d k l e f g a (p.inv0 I) q s (t.inv0 I) u x (y.inv0 I) z A N _ R) ?_)
 rintro v w ⟨o,C,D,rfl,hN,K,L⟩
 have I:=I.join hN; clear hN
 refine pu3 (.tuple #[.agg #[.slice i d.length j,.slice k e.length l,.map (some o),.slice f a.length g],iv 0]) (.agg #[.slice i d.length j,.slice k e.length l,.map (some o),.slice f a.length g]) (iv 0) (by kernel_rfl) (ph (bh I _ Try.zeroValue120 rfl fun M w I=>ph (mb I 0 _ Try.sizeOf120 rfl rfl rfl rfl rfl rfl fun w I=>pu (iv 0) (by kernel_rfl) (aa (ab (ab (rgn (by kernel_rfl) (pu (iv 0) (by kernel_rfl) (ph (de rfl rfl (fun h=>absurd (by decide) h) (fun _=>aa (ai rfl (ak (dn (fun ρ w=>∃ (inOrder_72:Bool),cd ρ [(5,pt m),(7,pt M),(9,.bool inOrder_72)]∧Inv [] w0 w [(some m,blk [iv b.fst,iv b.lst] 65),(some M,blk [.slice i d.length j,.slice k e.length l,.map (some o),.slice f a.length g] 120),(some o,fp C D)]∧F45j1 d e a b B inOrder_72=some r) ?_ ?_))))))))))))))
 ·
  refine rgn (by kernel_rfl) (pu (pt m) (by kernel_rfl) (ph (ag I 2 (iv b.fst) Try.isAgg3 rfl rfl rfl (ifN F (fun E F=>?_) (fun E F=>?_)))))
  ·
   refine ph (iq rfl rfl (fun h=>absurd h E) (fun _=>pu bF (by kernel_rfl) (sf 5 (by kernel_rfl) (pu2 bF bF (by kernel_rfl) (sf 5 (by kernel_rfl) (pu2 bF bF (by kernel_rfl) (aa (.inl ⟨rfl,⟨false,⟨rfl,rfl,rfl,trivial⟩,I.pk [2,0,1] rfl rfl,F⟩⟩))))))))
  refine ph (iq rfl rfl (fun _=>?_) (fun h=>absurd E h))
  refine pu bT (by kernel_rfl) (pup (pt m) (by kernel_rfl) (aw (by kernel_rfl) (ag I 2 (iv b.fst) Try.isAgg3 rfl rfl rfl (pup (.pointer (some ⟨m,1,none⟩)) (by kernel_rfl) (aw (by kernel_rfl) (ag I 2 (iv b.lst) Try.isAgg3 rfl rfl rfl (ifN F (fun G F=>?_) (fun G F=>?_))))))))
  ·
   refine aw (by kernel_rfl) (fq rfl rfl (fun h=>absurd h G) (fun _=>pu2 bF bF (by kernel_rfl) (sf 5 (by kernel_rfl) (pu2 bF bF (by kernel_rfl) (aa (.inl ⟨rfl,⟨false,⟨rfl,rfl,rfl,trivial⟩,I.pk [2,0,1] rfl rfl,F⟩⟩))))))
  refine aw (by kernel_rfl) (fq rfl rfl (fun _=>?_) (fun h=>absurd G h))
  refine pu2 bT bT (by kernel_rfl) (pup (.pointer (some ⟨m,1,none⟩)) (by kernel_rfl) (aw (by kernel_rfl) (ag I 2 (iv b.lst) Try.isAgg3 rfl rfl rfl (pup (.slice f a.length g) (by kernel_rfl) (pup (iv ((a.length:Nat):Int)) (by kernel_rfl) (ifE F (fun H F=>?_) (fun H F=>?_)))))))
  ·
   refine aw (by kernel_rfl) (cm rfl rfl (fun _=>?_) (fun h=>absurd H h))
   refine pu2 bT bT (by kernel_rfl) (aa (.inl ⟨rfl,⟨true,⟨rfl,rfl,rfl,trivial⟩,I.pk [2,0,1] rfl rfl,F⟩⟩))
  refine aw (by kernel_rfl) (cm rfl rfl (fun h=>absurd h H) (fun _=>pu2 bF bF (by kernel_rfl) (aa (.inl ⟨rfl,⟨false,⟨rfl,rfl,rfl,trivial⟩,I.pk [2,0,1] rfl rfl,F⟩⟩))))
 intro ρ w hJ
 obtain ⟨inOrder_72,hag,I,F⟩:=hJ
 obtain ⟨ρ,rfl⟩:=hag.form; clear hag
 unfold F45j1 at F
 refine ab (ab ?_)
 have hG:=F; rcases Bool.eq_false_or_eq_true inOrder_72 with rfl | rfl
 ·
  have F:=hG; clear hG
  refine ifE F (fun _ F=>?_) (fun h=>absurd rfl h)
  refine rgn (by kernel_rfl) (pu2 bT bT (by kernel_rfl) (aw (by kernel_rfl) (ma I 1 Try.isAgg120 Try.sizeOf120 rfl rfl rfl (pup (pt m) (by kernel_rfl) (aw (by kernel_rfl) (ag I 0 (iv b.fst) Try.isAgg3 rfl rfl rfl (pup (.pointer (some ⟨m,1,none⟩)) (by kernel_rfl) (aw (by kernel_rfl) (ag I 0 (iv b.lst) Try.isAgg3 rfl rfl rfl (bt F (fun X O F=>ifE F (fun J F=>?_) (fun J F=>?_))))))))))))
  ·
   refine aw (by kernel_rfl) (ac I 89 _ _ (by kernel_rfl) (cc.mono (L89 _ i j d k l e o C D B f g a b.fst b.lst (p.inv0 I) q s (t.inv0 I) u x (I.has 2 _ _ rfl).1 K L (y.inv0 I) z A _ O) (fun v' w' h=>⟨h.1.trans (congrArg Value.bool J),h.2⟩)) fun w I=>pu bT (by kernel_rfl) (aa (ah rfl (ab (rgn (by kernel_rfl) (pu (iv 0) (by kernel_rfl) (aa (aj ?_))))))))
   cases F
   exact ⟨_,Ret.r1 rfl rfl,⟨rfl,I.below⟩⟩
  refine aw (by kernel_rfl) (ac I 89 _ _ (by kernel_rfl) (cc.mono (L89 _ i j d k l e o C D B f g a b.fst b.lst (p.inv0 I) q s (t.inv0 I) u x (I.has 2 _ _ rfl).1 K L (y.inv0 I) z A _ O) (fun v' w' h=>⟨h.1.trans (congrArg Value.bool (Bool.eq_false_iff.2 J)),h.2⟩)) fun w I=>pu bF (by kernel_rfl) (aa (ai rfl (ak (ab (rgn (by kernel_rfl) (pu (iv 48) (by kernel_rfl) (aa (aj ?_)))))))))
  cases F
  exact ⟨_,Ret.r1 rfl rfl,⟨rfl,I.below⟩⟩
 have F:=hG; clear hG
 refine ifE F (fun h=>absurd h (by decide)) (fun _ F=>rgn (by kernel_rfl) (pu2 bF bF (by kernel_rfl) (sf 6 (by kernel_rfl) (pu bF (by kernel_rfl) (aa (ai rfl (ak (ab (rgn (by kernel_rfl) (pu (iv 48) (by kernel_rfl) (aa (aj ?_))))))))))))
 cases F
 exact ⟨_,Ret.r1 rfl rfl,⟨rfl,I.below⟩⟩


theorem L46 (w0:World) (m:Option Addr) (o:Nat) (g:List Ch) (p:Option Addr) (q:Nat) (i:List Ce) (d:Option Addr) (e:Nat) (b:List Cl) (a:Cw) (H:bi w0 m (al eCh g)) (J:g.length≤9223372036854775807) (K:g.length≤o) (L:bi w0 p (al eCe i)) (M:i.length≤9223372036854775807) (O:i.length≤q) (s:bi w0 d (al eCl b)) (P:b.length≤9223372036854775807) (Q:b.length≤e) (N:Nat) (r:Int) (F:F46 N g i b a=some r):cc Try.prog 46 [.agg #[.slice m g.length o,.slice p i.length q],.slice d b.length e,.agg #[iv a.fst,iv a.lst]] w0 fun v w=>v=iv r∧Below w0.heap.size w0 w:=by
 refine az (n:=51) Try.func46 rfl Try.ntmps46 rfl ?_
 have I:=Inv.start w0
 unfold F46 at F
 refine ab (rgn (by kernel_rfl) (ph (ca I _ rfl fun a4 w I=>ph (ca I _ rfl fun f w I=>pu (iv 0) (by kernel_rfl) (aa (ab (rgn (by kernel_rfl) (ph (ma I 1 Try.isAgg25 Try.sizeOf25 rfl rfl rfl (pu (.slice d b.length e) (by kernel_rfl) (bt F (fun l R F=>ph (ac I 18 _ _ (by kernel_rfl) (L18 _ m o g p q i d e b (H.inv0 I) J K (L.inv0 I) M O (s.inv0 I) P Q N _ R) fun w I=>pu (iv l) (by kernel_rfl) (aa (ab (ab (rgn (by kernel_rfl) (pu (iv l) (by kernel_rfl) (ifN F (fun t F=>?_) (fun t F=>?_))))))))))))))))))))
 ·
  refine ph (de rfl rfl (fun _=>?_) (fun h=>absurd h t))
  refine aa (ah rfl (ab (rgn (by kernel_rfl) (pu2 (iv l) (iv l) (by kernel_rfl) (aa (aj ?_))))))
  cases F
  exact ⟨_,Ret.r1 rfl rfl,⟨rfl,I.below⟩⟩


 refine ph (de rfl rfl (fun h=>absurd t h) (fun _=>aa (ai rfl (ak (ab (ab (gm 37 I (by kernel_rfl) (zp (pt f) (fun _=>(by kernel_rfl)) (zc (iv a.fst) (fun w I=>ag I 0 (iv a.fst) Try.isAgg3 rfl rfl rfl br) (zp (.pointer (some ⟨f,1,none⟩)) (fun _=>(by kernel_rfl)) (zc (iv a.lst) (fun w I=>ag I 0 (iv a.lst) Try.isAgg3 rfl rfl rfl br) (bt F (fun a5 z F=>ifN F (fun u F=>?_) (fun u F=>?_))))))))))))))
 ·
  refine zc bF (fun w I=>co 61 [iv a.fst,iv 0,iv a.lst] (by kernel_rfl) (cc.mono (L61 _ a.fst 0 a.lst _ z) (fun v' w' h=>⟨h.1.trans (congrArg Value.bool (Bool.eq_false_iff.2 u)),h.2⟩)) (fun v' w' h=>h)) (zp2 bT bT (fun _=>(by kernel_rfl)) (zf 5 (by kernel_rfl) (zp2 bT bT (fun _=>(by kernel_rfl)) (zf 22 (by kernel_rfl) (zp bT (fun _=>(by kernel_rfl)) (zh (fun w I=>aa (ah rfl (ab (rgn (by kernel_rfl) (pu (iv 48) (by kernel_rfl) (aa (aj ?_)))))))))))))
  cases F
  exact ⟨_,Ret.r1 rfl rfl,⟨rfl,I.below⟩⟩
 refine zc bT (fun w I=>co 61 [iv a.fst,iv 0,iv a.lst] (by kernel_rfl) (cc.mono (L61 _ a.fst 0 a.lst _ z) (fun v' w' h=>⟨h.1.trans (congrArg Value.bool u),h.2⟩)) (fun v' w' h=>h)) (zp2 bF bF (fun _=>(by kernel_rfl)) (zq (.pointer (some ⟨f,1,none⟩)) (by kernel_rfl) (fun _=>(by kernel_rfl)) (zo (iv a.lst) (by kernel_rfl) (fun w I=>ag I 0 (iv a.lst) Try.isAgg3 rfl rfl rfl br) (zq (.slice d b.length e) (by kernel_rfl) (fun _=>(by kernel_rfl)) (zo (iv (b.length:Int)) (by kernel_rfl) (fun w I=>kl (iv ((b.length:Nat):Int)) (by kernel_rfl) br) (ifE F (fun x F=>?_) (fun x F=>?_)))))))
 ·
  refine zo bT (by kernel_rfl) (fun w I=>iq rfl rfl (fun _=>br) (fun h=>absurd x h)) (zp2 bT bT (fun _=>(by kernel_rfl)) (zf 22 (by kernel_rfl) (zp bT (fun _=>(by kernel_rfl)) (zh (fun w I=>aa (ah rfl (ab (rgn (by kernel_rfl) (pu (iv 48) (by kernel_rfl) (aa (aj ?_)))))))))))
  cases F
  exact ⟨_,Ret.r1 rfl rfl,⟨rfl,I.below⟩⟩
 refine zo bF (by kernel_rfl) (fun w I=>iq rfl rfl (fun h=>absurd h x) (fun _=>br)) (zp2 bF bF (fun _=>(by kernel_rfl)) (zq (.slice d b.length e) (by kernel_rfl) (fun _=>(by kernel_rfl)) (zq (.pointer (some ⟨f,1,none⟩)) (by kernel_rfl) (fun _=>(by kernel_rfl)) (zo (iv a.lst) (by kernel_rfl) (fun w I=>ag I 0 (iv a.lst) Try.isAgg3 rfl rfl rfl br) (gdE F (fun S F=>bt F (fun j A F=>?_)))))))
 obtain ⟨B,C,T,U,V⟩:=s.at_ eb (by decide) A
 refine zo (.pointer (some ⟨B,C+((a.lst).toNat) * 4,none⟩)) (by kernel_rfl) (fun w I=>cn ((a.lst).toNat) Try.underlying26 Try.sizeOf34 rfl T rfl (Int.toNat_of_nonneg S).symm (fa A rfl) br) (zq (.pointer (some ⟨B,C+((a.lst).toNat) * 4+3,none⟩)) (by kernel_rfl) (fun _=>(by kernel_rfl)) (zo (iv j.to) (by kernel_rfl) (fun w I=>dj I (iv j.to) Try.isAgg3 rfl U (by simp) (V 3 _ rfl) br) (zq (.slice d b.length e) (by kernel_rfl) (fun _=>(by kernel_rfl)) (zq (pt f) (by kernel_rfl) (fun _=>(by kernel_rfl)) (zo (iv a.fst) (by kernel_rfl) (fun w I=>ag I 0 (iv a.fst) Try.isAgg3 rfl rfl rfl br) (gdE F (fun W F=>bt F (fun k D F=>?_))))))))
 obtain ⟨E,G,X,Y,Z⟩:=s.at_ eb (by decide) D
 refine zo (.pointer (some ⟨E,G+((a.fst).toNat) * 4,none⟩)) (by kernel_rfl) (fun w I=>cn ((a.fst).toNat) Try.underlying26 Try.sizeOf34 rfl X rfl (Int.toNat_of_nonneg W).symm (fa D rfl) br) (zq (.pointer (some ⟨E,G+((a.fst).toNat) * 4+2,none⟩)) (by kernel_rfl) (fun _=>(by kernel_rfl)) (zo (iv k.fr) (by kernel_rfl) (fun w I=>dj I (iv k.fr) Try.isAgg3 rfl Y (by simp) (Z 2 _ rfl) br) (ckE F (fun a0 F=>zo (iv (j.to - k.fr)) (by kernel_rfl) (fun w I=>dm rfl rfl a0 br) (ckE F (fun a1 F=>zo (iv ((j.to - k.fr)+1)) (by kernel_rfl) (fun w I=>cj rfl rfl a1 br) (zq (iv (if ((j.to - k.fr)+1) > 0 then ((j.to - k.fr)+1) else 0)) (by kernel_rfl) (fun _=>(by kernel_rfl)) (zq (.pointer (some ⟨f,1,none⟩)) (by kernel_rfl) (fun _=>(by kernel_rfl)) (zo (iv a.lst) (by kernel_rfl) (fun w I=>ag I 0 (iv a.lst) Try.isAgg3 rfl rfl rfl br) (zq (pt f) (by kernel_rfl) (fun _=>(by kernel_rfl)) (zo (iv a.fst) (by kernel_rfl) (fun w I=>ag I 0 (iv a.fst) Try.isAgg3 rfl rfl rfl br) (ckE F (fun a2 F=>zo (iv (a.lst - a.fst)) (by kernel_rfl) (fun w I=>dm rfl rfl a2 br) (ckE F (fun a3 F=>zo (iv ((a.lst - a.fst)+1)) (by kernel_rfl) (fun w I=>cj rfl rfl a3 br) (ifE F (fun y F=>?_) (fun y F=>?_)))))))))))))))))
 ·
  refine zo bT (by kernel_rfl) (fun w I=>iq rfl rfl (fun _=>br) (fun h=>absurd y h)) (zp bT (fun _=>(by kernel_rfl)) (zh (fun w I=>aa (ah rfl (ab (rgn (by kernel_rfl) (pu (iv 48) (by kernel_rfl) (aa (aj ?_)))))))))
  cases F
  exact ⟨_,Ret.r1 rfl rfl,⟨rfl,I.below⟩⟩
 refine zo bF (by kernel_rfl) (fun w I=>iq rfl rfl (fun h=>absurd h y) (fun _=>br)) (zp bF (fun _=>(by kernel_rfl)) (zh (fun w I=>aa (ai rfl (ak (ab (rgn (by kernel_rfl) (pu (iv 0) (by kernel_rfl) (aa (aj ?_))))))))))
 cases F
 exact ⟨_,Ret.r1 rfl rfl,⟨rfl,I.below⟩⟩
theorem L48 (w0:World) (A:Option Addr) (B:Nat) (o:List Ch) (C:Option Addr) (D:Nat) (p:List Ce) (s:Option Addr) (t:Nat) (e:List Cl) (d:Int) (i:Option Addr) (j:Nat) (a:List Int) (k:Int) (q:Int) (Y:bi w0 A (al eCh o)) (Z:o.length≤9223372036854775807) (a0:o.length≤B) (a1:bi w0 C (al eCe p)) (a2:p.length≤9223372036854775807) (a3:p.length≤D) (E:bi w0 s (al eCl e)) (aT:e.length≤9223372036854775807) (aU:e.length≤t) (G:bi w0 i (al dv a)) (c4:a.length≤9223372036854775807) (c5:a.length≤j) (N:Nat) (r:Int) (F:F48 N o p e d a k q=some r):cc Try.prog 48 [.agg #[.slice A o.length B,.slice C p.length D],.slice s e.length t,.agg #[iv d,.slice i a.length j,iv k,iv q]] w0 fun v w=>v=iv r∧Below w0.heap.size w0 w:=by
 refine az (n:=130) Try.func48 rfl Try.ntmps48 rfl ?_
 have I:=Inv.start w0
 unfold F48 at F
 refine ab (rgn (by kernel_rfl) (ph (ca I _ rfl fun a4 w I=>ph (ca I _ rfl fun z w I=>pu (iv 0) (by kernel_rfl) (aa (ab (rgn (by kernel_rfl) (ph (ma I 1 Try.isAgg25 Try.sizeOf25 rfl rfl rfl (pu (.slice s e.length t) (by kernel_rfl) (bt F (fun H aV F=>ph (ac I 18 _ _ (by kernel_rfl) (L18 _ A B o C D p s t e (Y.inv0 I) Z a0 (a1.inv0 I) a2 a3 (E.inv0 I) aT aU N _ aV) fun w I=>pu (iv H) (by kernel_rfl) (aa (ab (ab (rgn (by kernel_rfl) (pu (iv H) (by kernel_rfl) (ifN F (fun J F=>?_) (fun J F=>?_))))))))))))))))))))
 ·
  refine ph (de rfl rfl (fun _=>?_) (fun h=>absurd h J))
  refine aa (ah rfl (ab (rgn (by kernel_rfl) (pu2 (iv H) (iv H) (by kernel_rfl) (aa (aj ?_))))))
  cases F
  exact ⟨_,Ret.r1 rfl rfl,⟨rfl,I.below⟩⟩


 refine ph (de rfl rfl (fun h=>absurd J h) (fun _=>aa (ai rfl (ak (ab (ab (rgn (by kernel_rfl) (pu (.pointer (some ⟨z,2,none⟩)) (by kernel_rfl) (ph (ar I 0 2 [iv k,iv q] Try.isAgg51 Try.sizeOf51 rfl rfl rfl rfl (bt F (fun c6 a5 F=>ifN F (fun K F=>?_) (fun K F=>?_)))))))))))))
 ·
  refine ph (ac I 80 _ _ (by kernel_rfl) (cc.mono (L80 _ (⟨k,q⟩:Gn) _ a5) (fun v' w' h=>⟨h.1.trans (congrArg Value.bool (Bool.eq_false_iff.2 K)),h.2⟩)) fun w I=>pu bT (by kernel_rfl) (aa (ah rfl (ab (rgn (by kernel_rfl) (pu (iv 1) (by kernel_rfl) (aa (aj ?_))))))))
  cases F
  exact ⟨_,Ret.r1 rfl rfl,⟨rfl,I.below⟩⟩
 refine ph (ac I 80 _ _ (by kernel_rfl) (cc.mono (L80 _ (⟨k,q⟩:Gn) _ a5) (fun v' w' h=>⟨h.1.trans (congrArg Value.bool K),h.2⟩)) fun w I=>pu bF (by kernel_rfl) (aa (ai rfl (ak (ab (rgn (by kernel_rfl) (pu (pt z) (by kernel_rfl) (ph (ar I 0 2 [iv d,.slice i a.length j] Try.isAgg67 Try.sizeOf67 rfl rfl rfl rfl (ph (bh I _ Try.zeroValue67 rfl fun l w I=>ph (mb I 0 _ Try.sizeOf67 rfl rfl rfl rfl rfl rfl fun w I=>aa (ab (rgn (by kernel_rfl) (pu (.pointer (some ⟨l,1,none⟩)) (by kernel_rfl) (ph (ag I 0 (.slice i a.length j) Try.isAgg52 rfl rfl rfl (pu (iv ((a.length:Nat):Int)) (by kernel_rfl) (ckE F (fun aW F=>ph (dm rfl rfl aW (pu (iv ((a.length:Int) - 1)) (by kernel_rfl) (aa (ab (ab (gm 31 I (by kernel_rfl) (zp (iv ((a.length:Int) - 1)) (fun _=>(by kernel_rfl)) (ifE F (fun L F=>?_) (fun L F=>?_)))))))))))))))))))))))))))))
 ·
  refine zc bT (fun w I=>cm rfl rfl (fun _=>br) (fun h=>absurd L h)) (zp bT (fun _=>(by kernel_rfl)) (zf 4 (by kernel_rfl) (zp2 bT bT (fun _=>(by kernel_rfl)) (zf 8 (by kernel_rfl) (zp2 bT bT (fun _=>(by kernel_rfl)) (zf 11 (by kernel_rfl) (zp bT (fun _=>(by kernel_rfl)) (zh (fun w I=>aa (ah rfl (ab (rgn (by kernel_rfl) (pu (iv 49) (by kernel_rfl) (aa (aj ?_)))))))))))))))
  cases F
  exact ⟨_,Ret.r1 rfl rfl,⟨rfl,I.below⟩⟩
 refine zc bF (fun w I=>cm rfl rfl (fun h=>absurd h L) (fun _=>br)) (zp bF (fun _=>(by kernel_rfl)) (zq (iv ((a.length:Int) - 1)) (by kernel_rfl) (fun _=>(by kernel_rfl)) (zq (.slice s e.length t) (by kernel_rfl) (fun _=>(by kernel_rfl)) (zo (iv (e.length:Int)) (by kernel_rfl) (fun w I=>kl (iv ((e.length:Nat):Int)) (by kernel_rfl) br) (ifE F (fun M F=>?_) (fun M F=>?_))))))
 ·
  refine zo bT (by kernel_rfl) (fun w I=>fh rfl rfl (fun _=>br) (fun h=>absurd M h)) (zp2 bT bT (fun _=>(by kernel_rfl)) (zf 8 (by kernel_rfl) (zp2 bT bT (fun _=>(by kernel_rfl)) (zf 11 (by kernel_rfl) (zp bT (fun _=>(by kernel_rfl)) (zh (fun w I=>aa (ah rfl (ab (rgn (by kernel_rfl) (pu (iv 49) (by kernel_rfl) (aa (aj ?_)))))))))))))
  cases F
  exact ⟨_,Ret.r1 rfl rfl,⟨rfl,I.below⟩⟩
 refine zo bF (by kernel_rfl) (fun w I=>fh rfl rfl (fun h=>absurd h M) (fun _=>br)) (zp2 bF bF (fun _=>(by kernel_rfl)) (zq (pt l) (by kernel_rfl) (fun _=>(by kernel_rfl)) (zo (iv d) (by kernel_rfl) (fun w I=>ag I 0 (iv d) Try.isAgg3 rfl rfl rfl br) (zq (.slice s e.length t) (by kernel_rfl) (fun _=>(by kernel_rfl)) (zo (iv (e.length:Int)) (by kernel_rfl) (fun w I=>kl (iv ((e.length:Nat):Int)) (by kernel_rfl) br) (zq (iv ((a.length:Int) - 1)) (by kernel_rfl) (fun _=>(by kernel_rfl)) (ckE F (fun aX F=>zo (iv ((e.length:Int) - ((a.length:Int) - 1))) (by kernel_rfl) (fun w I=>dm rfl rfl aX br) (bt F (fun c7 a6 F=>ifN F (fun O F=>?_) (fun O F=>?_)))))))))))
 ·
  refine zo bF (by kernel_rfl) (fun w I=>co 61 [iv d,iv 0,iv ((e.length:Int) - ((a.length:Int) - 1))] (by kernel_rfl) (cc.mono (L61 _ d 0 ((e.length:Int) - ((a.length:Int) - 1)) _ a6) (fun v' w' h=>⟨h.1.trans (congrArg Value.bool (Bool.eq_false_iff.2 O)),h.2⟩)) (fun v' w' h=>h)) (zq bT (by kernel_rfl) (fun _=>(by kernel_rfl)) (zp2 bT bT (fun _=>(by kernel_rfl)) (zf 11 (by kernel_rfl) (zp bT (fun _=>(by kernel_rfl)) (zh (fun w I=>aa (ah rfl (ab (rgn (by kernel_rfl) (pu (iv 49) (by kernel_rfl) (aa (aj ?_))))))))))))
  cases F
  exact ⟨_,Ret.r1 rfl rfl,⟨rfl,I.below⟩⟩
 refine zo bT (by kernel_rfl) (fun w I=>co 61 [iv d,iv 0,iv ((e.length:Int) - ((a.length:Int) - 1))] (by kernel_rfl) (cc.mono (L61 _ d 0 ((e.length:Int) - ((a.length:Int) - 1)) _ a6) (fun v' w' h=>⟨h.1.trans (congrArg Value.bool O),h.2⟩)) (fun v' w' h=>h)) (zq bF (by kernel_rfl) (fun _=>(by kernel_rfl)) (zp2 bF bF (fun _=>(by kernel_rfl)) (zq (.pointer (some ⟨l,1,none⟩)) (by kernel_rfl) (fun _=>(by kernel_rfl)) (zo (.slice i a.length j) (by kernel_rfl) (fun w I=>ag I 0 (.slice i a.length j) Try.isAgg52 rfl rfl rfl br) (bt F (fun a7 a8 F=>?_))))))
 obtain ⟨aY,aZ,b0,b1,b2⟩:=G.at_ cy (by decide) a8
 refine zo (.pointer (some ⟨aY,aZ+0 * 1,none⟩)) (by kernel_rfl) (fun w I=>cn 0 Try.underlying52 Try.sizeOf3 rfl b0 rfl rfl (fa a8 rfl) br) (zo (iv a7) (by kernel_rfl) (fun w I=>dj I (iv a7) Try.isAgg3 rfl b1 (by simp) (b2 0 _ rfl) br) (zq (.slice s e.length t) (by kernel_rfl) (fun _=>(by kernel_rfl)) (zq (pt l) (by kernel_rfl) (fun _=>(by kernel_rfl)) (zo (iv d) (by kernel_rfl) (fun w I=>ag I 0 (iv d) Try.isAgg3 rfl rfl rfl br) (gdE F (fun b3 F=>bt F (fun a9 aA F=>?_)))))))
 obtain ⟨aB,aC,b4,b5,b6⟩:=E.at_ eb (by decide) aA
 refine zo (.pointer (some ⟨aB,aC+(d).toNat * 4,none⟩)) (by kernel_rfl) (fun w I=>cn (d).toNat Try.underlying26 Try.sizeOf34 rfl b4 rfl (Int.toNat_of_nonneg b3).symm (fa aA rfl) br) (zq (.pointer (some ⟨aB,aC+(d).toNat * 4+2,none⟩)) (by kernel_rfl) (fun _=>(by kernel_rfl)) (zo (iv a9.fr) (by kernel_rfl) (fun w I=>dj I (iv a9.fr) Try.isAgg3 rfl b5 (by simp) (b6 2 _ rfl) br) (ifN F (fun P F=>?_) (fun P F=>?_))))
 ·
  refine zo bT (by kernel_rfl) (fun w I=>de rfl rfl (fun _=>br) (fun h=>absurd h P)) (zp bT (fun _=>(by kernel_rfl)) (zh (fun w I=>aa (ah rfl (ab (rgn (by kernel_rfl) (pu (iv 49) (by kernel_rfl) (aa (aj ?_)))))))))
  cases F
  exact ⟨_,Ret.r1 rfl rfl,⟨rfl,I.below⟩⟩
 refine zo bF (by kernel_rfl) (fun w I=>de rfl rfl (fun h=>absurd P h) (fun _=>br)) (zp bF (fun _=>(by kernel_rfl)) (zh (fun w I=>aa (ai rfl (ak (dn (fun ρ w=>cd ρ [(1,.slice s e.length t),(8,pt l),(9,iv ((a.length:Int) - 1))]∧Inv [] w0 w [(some l,blk [iv d,.slice i a.length j] 67)]∧F48j1 e d a=some r) ?_ ?_))))))
 ·
  refine ab (rgn (by kernel_rfl) (pu (iv 0) (by kernel_rfl) (aa (au (cb (fun m ρ w=>∃ (g:Int) (mm:Nat),cd ρ [(1,.slice s e.length t),(3,pt a4),(5,pt z),(8,pt l),(9,iv ((a.length:Int) - 1)),(10,iv g)]∧Inv [] w0 w [(some a4,blk [.slice A o.length B,.slice C p.length D] 25),(some z,blk [iv d,.slice i a.length j,iv k,iv q] 69),(some l,blk [iv d,.slice i a.length j] 67)]∧F48l2 o p e d a k q N mm g=some r∧mm=m) (m:=N) ⟨0,N,⟨rfl,rfl,rfl,rfl,rfl,rfl,trivial⟩,I.pk [2,1,0] rfl rfl,F,rfl⟩ ?_)))))
  rintro m ρ w ⟨g,mm,hag,I,F,hm⟩
  subst hm; obtain ⟨ρ,rfl⟩:=hag.form; clear hag
  obtain _ | m2:=mm
  ·cases (show (none:Option Int)=some r from F)
  replace F:F48b2 o p e d a k q N (F48l2 o p e d a k q N m2) g=some r:=F; unfold F48b2 at F
  refine ab (ab (rgn (by kernel_rfl) (pu2 (iv g) (iv ((a.length:Int) - 1)) (by kernel_rfl) (ifN F (fun Q F=>?_) (fun Q F=>?_)))))
  ·
   refine ph (cm rfl rfl (fun h=>absurd h Q) (fun _=>aa (ai rfl (bw (.inl ⟨rfl,⟨⟨rfl,rfl,rfl,trivial⟩,I.pk [2] rfl rfl,F⟩⟩)))))
  refine ph (cm rfl rfl (fun _=>?_) (fun h=>absurd Q h))
  refine aa (ah rfl (ak (ab (au (ab (rgn (by kernel_rfl) (pu2 (.slice s e.length t) (pt l) (by kernel_rfl) (ph (ag I 2 (iv d) Try.isAgg3 rfl rfl rfl (pu (iv g) (by kernel_rfl) (ckE F (fun b7 F=>ph (cj rfl rfl b7 (gdE F (fun b8 F=>bt F (fun b aD F=>?_))))))))))))))))
  obtain ⟨c8,c9,b9,bA,bB⟩:=E.at_ eb (by decide) aD
  refine ph (cn ((d+g).toNat) Try.underlying26 Try.sizeOf34 rfl b9 rfl (Int.toNat_of_nonneg b8).symm (fa aD rfl) (ph (ef I [iv b.fam,iv b.hd,iv b.fr,iv b.to] Try.isAgg34 Try.sizeOf34 rfl rfl bA (by simp) bB (ph (bh I _ Try.zeroValue34 rfl fun aE w I=>ph (mb I 0 _ Try.sizeOf34 rfl rfl rfl rfl rfl rfl fun w I=>aa (ab (gm 9 I (by kernel_rfl) (zp (.pointer (some ⟨l,1,none⟩)) (fun _=>(by kernel_rfl)) (zc (.slice i a.length j) (fun w I=>ag I 3 (.slice i a.length j) Try.isAgg52 rfl rfl rfl br) (zp (iv g) (fun _=>(by kernel_rfl)) (gdE F (fun bC F=>bt F (fun f aF F=>?_))))))))))))))
  obtain ⟨bD,bE,bG,bH,bI⟩:=G.at_ cy (by decide) aF
  refine zc (.pointer (some ⟨bD,bE+(g).toNat * 1,none⟩)) (fun w I=>cn (g).toNat Try.underlying52 Try.sizeOf3 rfl bG rfl (Int.toNat_of_nonneg bC).symm (fa aF rfl) br) (zc (iv f) (fun w I=>dj I (iv f) Try.isAgg3 rfl bH (by simp) (bI 0 _ rfl) br) (zp (.pointer (some ⟨aE,2,none⟩)) (fun _=>(by kernel_rfl)) (zc (iv b.fr) (fun w I=>ag I 0 (iv b.fr) Try.isAgg3 rfl rfl rfl br) (zp2 (iv (if b.fr > f then b.fr else f)) (iv (if b.fr > f then b.fr else f)) (fun _=>(by kernel_rfl)) (zh (fun w I=>aa (ab (gm 34 I (by kernel_rfl) (zp (.pointer (some ⟨l,1,none⟩)) (fun _=>(by kernel_rfl)) (zc (.slice i a.length j) (fun w I=>ag I 3 (.slice i a.length j) Try.isAgg52 rfl rfl rfl br) (zp (iv g) (fun _=>(by kernel_rfl)) (ckE F (fun R F=>zc (iv (g+1)) (fun w I=>cj rfl rfl R br) (gdE F (fun aG F=>bt F (fun u S F=>?_))))))))))))))))
  obtain ⟨aH,aI,aJ,aK,aL⟩:=G.at_ cy (by decide) S
  refine zc (.pointer (some ⟨aH,aI+((g+1).toNat) * 1,none⟩)) (fun w I=>cn ((g+1).toNat) Try.underlying52 Try.sizeOf3 rfl aJ rfl (Int.toNat_of_nonneg aG).symm (fa S rfl) br) (zc (iv u) (fun w I=>dj I (iv u) Try.isAgg3 rfl aK (by simp) (aL 0 _ rfl) br) (zp (iv (if b.fr > f then b.fr else f)) (fun _=>(by kernel_rfl)) (ckE F (fun bJ F=>zc (iv ((if b.fr > f then b.fr else f)+1)) (fun w I=>cj rfl rfl bJ br) (bt F (fun cA aM F=>ifN F (fun T F=>?_) (fun T F=>?_)))))))
  ·
   refine zc bF (fun w I=>co 61 [iv u,iv ((if b.fr > f then b.fr else f)+1),iv 25] (by kernel_rfl) (cc.mono (L61 _ u ((if b.fr > f then b.fr else f)+1) 25 _ aM) (fun v' w' h=>⟨h.1.trans (congrArg Value.bool (Bool.eq_false_iff.2 T)),h.2⟩)) (fun v' w' h=>h)) (zp2 bT bT (fun _=>(by kernel_rfl)) (zf 22 (by kernel_rfl) (zp bT (fun _=>(by kernel_rfl)) (zh (fun w I=>aa (ah rfl (ab (rgn (by kernel_rfl) (pu (iv 49) (by kernel_rfl) (aa (aj ?_)))))))))))
   cases F
   exact ⟨_,Ret.r1 rfl rfl,⟨rfl,I.below⟩⟩
  refine zc bT (fun w I=>co 61 [iv u,iv ((if b.fr > f then b.fr else f)+1),iv 25] (by kernel_rfl) (cc.mono (L61 _ u ((if b.fr > f then b.fr else f)+1) 25 _ aM) (fun v' w' h=>⟨h.1.trans (congrArg Value.bool T),h.2⟩)) (fun v' w' h=>h)) (zp2 bF bF (fun _=>(by kernel_rfl)) (zq (.pointer (some ⟨aE,1,none⟩)) (by kernel_rfl) (fun _=>(by kernel_rfl)) (zo (iv b.hd) (by kernel_rfl) (fun w I=>ag I 0 (iv b.hd) Try.isAgg3 rfl rfl rfl br) (zq (.pointer (some ⟨z,2,none⟩)) (by kernel_rfl) (fun _=>(by kernel_rfl)) (zq (.pointer (some ⟨z,2,none⟩)) (by kernel_rfl) (fun _=>(by kernel_rfl)) (zo (iv k) (by kernel_rfl) (fun w I=>ag I 2 (iv k) Try.isAgg3 rfl rfl rfl br) (ckE F (fun bK F=>zo (iv (b.hd * k)) (by kernel_rfl) (fun w I=>s_mul rfl rfl bK br) (zq (.pointer (some ⟨z,2,none⟩)) (by kernel_rfl) (fun _=>(by kernel_rfl)) (zq (.pointer (some ⟨z,3,none⟩)) (by kernel_rfl) (fun _=>(by kernel_rfl)) (zo (iv q) (by kernel_rfl) (fun w I=>ag I 2 (iv q) Try.isAgg3 rfl rfl rfl br) (bt F (fun x bL F=>zo (.agg #[iv x.1,iv x.2]) (by kernel_rfl) (fun w I=>co 83 [iv (b.hd * k),iv q] (by kernel_rfl) (L83 _ (b.hd * k) q N _ bL) (fun v' w' h=>h)) (zo (.agg #[.slice A o.length B,.slice C p.length D]) (by kernel_rfl) (fun w I=>ma I 1 Try.isAgg25 Try.sizeOf25 rfl rfl rfl br) (zq (iv (if b.fr > f then b.fr else f)) (by kernel_rfl) (fun _=>(by kernel_rfl)) (zq (.pointer (some ⟨l,1,none⟩)) (by kernel_rfl) (fun _=>(by kernel_rfl)) (zo (.slice i a.length j) (by kernel_rfl) (fun w I=>ag I 3 (.slice i a.length j) Try.isAgg52 rfl rfl rfl br) (zq (iv g) (by kernel_rfl) (fun _=>(by kernel_rfl)) (zo (iv (g+1)) (by kernel_rfl) (fun w I=>cj rfl rfl R br) (zo (.pointer (some ⟨aH,aI+((g+1).toNat) * 1,none⟩)) (by kernel_rfl) (fun w I=>cn ((g+1).toNat) Try.underlying52 Try.sizeOf3 rfl aJ rfl (Int.toNat_of_nonneg aG).symm (fa S rfl) br) (zo (iv u) (by kernel_rfl) (fun w I=>dj I (iv u) Try.isAgg3 rfl aK (by simp) (aL 0 _ rfl) br) (ckE F (fun bM F=>zo (iv (u - 2)) (by kernel_rfl) (fun w I=>dm rfl rfl bM br) (bt F (fun U bN F=>zo (iv U) (by kernel_rfl) (fun w I=>co 77 [.agg #[.slice A o.length B,.slice C p.length D],iv (if b.fr > f then b.fr else f),iv (u - 2)] (by kernel_rfl) (L77 _ A B o C D p (if b.fr > f then b.fr else f) (u - 2) (Y.inv0 I) Z a0 (a1.inv0 I) a2 a3 N _ bN) (fun v' w' h=>h)) (bt F (fun y bO F=>zo (.agg #[iv y.1,iv y.2]) (by kernel_rfl) (fun w I=>co 83 [iv U,iv 1] (by kernel_rfl) (L83 _ U 1 N _ bO) (fun v' w' h=>h)) (bt F (fun cB aN F=>ifE F (fun V F=>?_) (fun V F=>?_))))))))))))))))))))))))))))))
  ·
   refine zo bT (by kernel_rfl) (fun w I=>co 53 [.agg #[iv x.1,iv x.2],.agg #[iv y.1,iv y.2]] (by kernel_rfl) (cc.mono (L53 _ (⟨x.1,x.2⟩:Gn) (⟨y.1,y.2⟩:Gn) _ aN) (fun v' w' h=>⟨h.1.trans (congrArg Value.bool V),h.2⟩)) (fun v' w' h=>h)) (zp bT (fun _=>(by kernel_rfl)) (zh (fun w I=>aa (ah rfl (ab (rgn (by kernel_rfl) (pu (iv 49) (by kernel_rfl) (aa (aj ?_)))))))))
   cases F
   exact ⟨_,Ret.r1 rfl rfl,⟨rfl,I.below⟩⟩
  refine zo bF (by kernel_rfl) (fun w I=>co 53 [.agg #[iv x.1,iv x.2],.agg #[iv y.1,iv y.2]] (by kernel_rfl) (cc.mono (L53 _ (⟨x.1,x.2⟩:Gn) (⟨y.1,y.2⟩:Gn) _ aN) (fun v' w' h=>⟨h.1.trans (congrArg Value.bool (Bool.eq_false_iff.2 V)),h.2⟩)) (fun v' w' h=>h)) (zp bF (fun _=>(by kernel_rfl)) (zh (fun w I=>aa (ai rfl (ak (rgn (by kernel_rfl) (pu (iv g) (by kernel_rfl) (ph (cj rfl rfl R (pu (iv (g+1)) (by kernel_rfl) (aa (⟨rfl,m2,Nat.lt_succ_self _,⟨g+1,m2,⟨rfl,rfl,rfl,rfl,rfl,rfl,trivial⟩,I.pk [1,2,3] rfl rfl,F,rfl⟩⟩))))))))))))
 intro ρ w hJ
 obtain ⟨hag,I,F⟩:=hJ
 obtain ⟨ρ,rfl⟩:=hag.form; clear hag
 unfold F48j1 at F
 refine ab (ab (gm 16 I (by kernel_rfl) (zp (.pointer (some ⟨l,1,none⟩)) (fun _=>(by kernel_rfl)) (zc (.slice i a.length j) (fun w I=>ag I 0 (.slice i a.length j) Try.isAgg52 rfl rfl rfl br) (zp (iv ((a.length:Int) - 1)) (fun _=>(by kernel_rfl)) (gdE F (fun bP F=>bt F (fun W aO F=>?_))))))))
 obtain ⟨bQ,bR,bS,bU,bV⟩:=G.at_ cy (by decide) aO
 refine zc (.pointer (some ⟨bQ,bR+(((a.length:Int) - 1).toNat) * 1,none⟩)) (fun w I=>cn (((a.length:Int) - 1).toNat) Try.underlying52 Try.sizeOf3 rfl bS rfl (Int.toNat_of_nonneg bP).symm (fa aO rfl) br) (zc (iv W) (fun w I=>dj I (iv W) Try.isAgg3 rfl bU (by simp) (bV 0 _ rfl) br) (ckE F (fun bW F=>zc (iv (W - 1)) (fun w I=>dm rfl rfl bW br) (zp2 (.slice s e.length t) (pt l) (fun _=>(by kernel_rfl)) (zc (iv d) (fun w I=>ag I 0 (iv d) Try.isAgg3 rfl rfl rfl br) (zp (iv ((a.length:Int) - 1)) (fun _=>(by kernel_rfl)) (ckE F (fun bX F=>zc (iv (d+((a.length:Int) - 1))) (fun w I=>cj rfl rfl bX br) (ckE F (fun bY F=>zc (iv ((d+((a.length:Int) - 1)) - 1)) (fun w I=>dm rfl rfl bY br) (gdE F (fun bZ F=>bt F (fun aP aQ F=>?_)))))))))))))
 obtain ⟨aR,aS,c0,c1,c2⟩:=E.at_ eb (by decide) aQ
 refine zc (.pointer (some ⟨aR,aS+(((d+((a.length:Int) - 1)) - 1).toNat) * 4,none⟩)) (fun w I=>cn (((d+((a.length:Int) - 1)) - 1).toNat) Try.underlying26 Try.sizeOf34 rfl c0 rfl (Int.toNat_of_nonneg bZ).symm (fa aQ rfl) br) (zp (.pointer (some ⟨aR,aS+(((d+((a.length:Int) - 1)) - 1).toNat) * 4+3,none⟩)) (fun _=>(by kernel_rfl)) (zc (iv aP.to) (fun w I=>dj I (iv aP.to) Try.isAgg3 rfl c1 (by simp) (c2 3 _ rfl) br) (ifE F (fun X F=>?_) (fun X F=>?_))))
 ·
  refine zc bT (fun w I=>fq rfl rfl (fun _=>br) (fun h=>absurd X h)) (zh (fun w I=>aa (ah rfl (ab (rgn (by kernel_rfl) (pu (iv 49) (by kernel_rfl) (aa (aj ?_))))))))
  cases F
  exact ⟨_,Ret.r1 rfl rfl,⟨rfl,I.below⟩⟩
 refine zc bF (fun w I=>fq rfl rfl (fun h=>absurd h X) (fun _=>br)) (zh (fun w I=>aa (ai rfl (ak (ab (rgn (by kernel_rfl) (pu (iv 0) (by kernel_rfl) (aa (aj ?_)))))))))
 cases F
 exact ⟨_,Ret.r1 rfl rfl,⟨rfl,I.below⟩⟩
theorem L50 (w0:World) (j:Option Addr) (k:Nat) (d:List Ch) (l:Option Addr) (m:Nat) (e:List Ce) (h:Option Addr) (i:Nat) (b:List Cl) (q:bi w0 j (al eCh d)) (s:d.length≤9223372036854775807) (t:d.length≤k) (u:bi w0 l (al eCe e)) (x:e.length≤9223372036854775807) (y:e.length≤m) (z:bi w0 h (al eCl b)) (A:b.length≤9223372036854775807) (B:b.length≤i) (N:Nat) (r:(Int × List Int × Int)) (F:F50 N d e b=some r):cc Try.prog 50 [.agg #[.slice j d.length k,.slice l e.length m],.slice h b.length i] w0 fun v w=>∃ (z0:Option Nat) (z1:Nat) (z2:List Value),v=.tuple #[.agg #[iv r.1,slv z0 r.2.1.length z1],iv r.2.2]∧Inv [] w0 w [(z0,blk z2 3)]∧Row 1 z0 r.2.1.length z1 z2 (al dv r.2.1):=by
 refine az (n:=18) Try.func50 rfl Try.ntmps50 rfl ?_
 have I:=Inv.start w0
 unfold F50 at F
 refine ab (rgn (by kernel_rfl) (ph (ca I _ rfl fun H w I=>ph (bh I _ Try.zeroValue67 rfl fun J w I=>pu (iv 0) (by kernel_rfl) (aa (ab (rgn (by kernel_rfl) (ph (ma I 1 Try.isAgg25 Try.sizeOf25 rfl rfl rfl (pu (.slice h b.length i) (by kernel_rfl) (bt F (fun a C F=>ph (co 84 _ (by kernel_rfl) (L84 _ j k d l m e h i b (q.inv0 I) s t (u.inv0 I) x y (z.inv0 I) A B N _ C) ?_)))))))))))))
 rintro v w ⟨o,p,K,f,g,D,rfl,hN,L,E⟩
 have I:=I.join hN; clear hN
 refine pu3 (.tuple #[.agg #[slv o a.1.length p,iv a.2.1,iv a.2.2.1,slv f a.2.2.2.1.length g],iv a.2.2.2.2]) (.agg #[slv o a.1.length p,iv a.2.1,iv a.2.2.1,slv f a.2.2.2.1.length g]) (iv a.2.2.2.2) (by kernel_rfl) (ph (bh I _ Try.zeroValue144 rfl fun G w I=>ph (mb I 0 _ Try.sizeOf144 rfl rfl rfl rfl rfl rfl fun w I=>pu (iv a.2.2.2.2) (by kernel_rfl) (aa (ab (rgn (by kernel_rfl) (pu (.pointer (some ⟨G,3,none⟩)) (by kernel_rfl) (ph (ag I 0 (slv f a.2.2.2.1.length g) Try.isAgg52 rfl rfl rfl (pu2 (.agg #[iv 0,slv f a.2.2.2.1.length g]) (iv a.2.2.2.2) (by kernel_rfl) (ph (mb I 3 _ Try.sizeOf67 rfl rfl rfl rfl rfl rfl fun w I=>pu (iv a.2.2.2.2) (by kernel_rfl) (aa (aj ?_))))))))))))))
 cases F
 exact ⟨_,Ret.ct rfl rfl (ce I 3 2 [iv 0,slv f a.2.2.2.1.length g] Try.isAgg67 Try.sizeOf67 rfl rfl rfl) rfl,⟨f,g,D,rfl,I.pk [2] rfl rfl,E.to rfl rfl⟩⟩


theorem L52 (w0:World) (i:Option Addr) (j:Nat) (d:List Ch) (k:Option Addr) (l:Nat) (e:List Ce) (f:Option Addr) (g:Nat) (b:List Cl) (p:bi w0 i (al eCh d)) (q:d.length≤9223372036854775807) (s:d.length≤j) (t:bi w0 k (al eCe e)) (u:e.length≤9223372036854775807) (x:e.length≤l) (y:bi w0 f (al eCl b)) (z:b.length≤9223372036854775807) (A:b.length≤g) (N:Nat) (r:Int) (F:F52 N d e b=some r):cc Try.prog 52 [.agg #[.slice i d.length j,.slice k e.length l],.slice f b.length g] w0 fun v w=>v=iv r∧Below w0.heap.size w0 w:=by
 refine az (n:=18) Try.func52 rfl Try.ntmps52 rfl ?_
 have I:=Inv.start w0
 unfold F52 at F
 refine ab (rgn (by kernel_rfl) (ph (ca I _ rfl fun b8 w I=>pu (iv 0) (by kernel_rfl) (aa (ab (rgn (by kernel_rfl) (ph (ma I 0 Try.isAgg25 Try.sizeOf25 rfl rfl rfl (pu (.slice f b.length g) (by kernel_rfl) (bt F (fun a B F=>ph (ac I 38 _ _ (by kernel_rfl) (L38 _ i j d k l e f g b (p.inv0 I) q s (t.inv0 I) u x (y.inv0 I) z A N _ B) fun w I=>pu3 (.tuple #[.agg #[iv a.1,iv a.2.1],iv a.2.2]) (.agg #[iv a.1,iv a.2.1]) (iv a.2.2) (by kernel_rfl) (ph (bh I _ Try.zeroValue51 rfl fun C w I=>ph (mb I 0 _ Try.sizeOf51 rfl rfl rfl rfl rfl rfl fun w I=>pu (iv a.2.2) (by kernel_rfl) (aa (ab (ab (rgn (by kernel_rfl) (pu (iv a.2.2) (by kernel_rfl) (ifE F (fun m F=>?_) (fun m F=>?_))))))))))))))))))))))
 ·
  refine ph (di rfl rfl (fun _=>?_) (fun h=>absurd m h))
  refine aa (ah rfl (ab (rgn (by kernel_rfl) (pu (iv 48) (by kernel_rfl) (aa (aj ?_))))))
  cases F
  exact ⟨_,Ret.r1 rfl rfl,⟨rfl,I.below⟩⟩
 refine ph (di rfl rfl (fun h=>absurd h m) (fun _=>aa (ai rfl (ak (ab (ab (rgn (by kernel_rfl) (pu (iv a.2.2) (by kernel_rfl) (ifE F (fun o F=>?_) (fun o F=>?_))))))))))
 ·
  refine ph (di rfl rfl (fun _=>?_) (fun h=>absurd o h))
  refine aa (ah rfl (ab (rgn (by kernel_rfl) (pu (iv 0) (by kernel_rfl) (aa (aj ?_))))))
  cases F
  exact ⟨_,Ret.r1 rfl rfl,⟨rfl,I.below⟩⟩
 refine ph (di rfl rfl (fun h=>absurd h o) (fun _=>aa (ai rfl (ak (ab (rgn (by kernel_rfl) (pu2 (iv a.2.2) (iv a.2.2) (by kernel_rfl) (aa (aj ?_)))))))))
 cases F
 exact ⟨_,Ret.r1 rfl rfl,⟨rfl,I.below⟩⟩


end Go.K
