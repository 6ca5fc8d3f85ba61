/- That the functions do what the pure definitions say: walks, as tools/lift.py writes them. No condition. -/
import Derived.Test.YtinkdlmimiefaaaGreatPWa
namespace Go.K
open Go.Proofs Go.RowKit
set_option linter.unusedVariables false
set_option linter.unusedSimpArgs false
set_option maxRecDepth 100000
attribute [local irreducible] Seq Step CallV AnyE opX
theorem L94 (w0:World) (A:Int) (B:Int) (l:Option Addr) (o:Nat) (e:List Ld) (p:Option Addr) (q:Nat) (a:List Ld) (C:Option Addr) (D:Nat) (u:List Sp) (E:Int) (d:Int) (aN:Cells w0 l (flat eLd e)) (b0:e.length≤9223372036854775807) (b1:e.length≤o) (aO:Cells w0 p (flat eLd a)) (b2:a.length≤9223372036854775807) (b3:a.length≤q) (b4:Cells w0 C (flat eSp u)) (b5:u.length≤9223372036854775807) (b6:u.length≤D) (N:Nat) (r:List Int) (hF:F94 N A B e a u E d=some r):Does Tryz.prog 94 [.agg #[.int .i64 A,.int .i64 B,.slice l e.length o,.slice p a.length q,.slice C u.length D,.int .i64 E],.int .i64 d] w0 fun v w=>∃ (z0:Option Nat) (z1:Nat) (z2:List Value),v=slv z0 r.length z1∧Inv [] w0 w [(z0,blk z2 3)]∧Row 1 z0 r.length z1 z2 (flat eInt r):=by
 refine calls_of (n:=67) Tryz.func94 rfl Tryz.ntmps94 rfl ?_
 have hI:=Inv.start w0
 unfold F94 at hF
 refine wp_seq (rgn rfl (seq_c (s_boxI hI [iv A,iv B,.slice l e.length o,.slice p a.length q,.slice C u.length D,iv E] rfl ?_)))
 intro i w hI
 refine pu (.slice none 0 0) rfl (seq_nil (wp_seq (rgn rfl (pu (.slice none 0 0) rfl (seq_nil (wp_cutO (fun ρ w=>∃ (J:Option Nat) (V:Nat) (W:List Value) (G:List Int),Agree ρ [(1,iv d),(2,.pointer (some ⟨i,0,none⟩)),(5,slv J G.length V)]∧Inv [] w0 w [(some i,blk [iv A,iv B,.slice l e.length o,.slice p a.length q,.slice C u.length D,iv E] 28),(J,blk W 3)]∧(Row 1 J (G.length) V W (flat eInt G))∧F94j1 a d N G=some r) ?_ ?_))))))
 ·
  refine wp_seq (rgn rfl (pu (iv 0) rfl (seq_nil (wp_block ?_))))
  have hI:=hI.nilRow 3
  refine wp_loop (fun m ρ w=>∃ (z:Option Nat) (F:Nat) (K:List Value) (x:List Int) (f:Int) (mm:Nat),Agree ρ [(1,iv d),(2,.pointer (some ⟨i,0,none⟩)),(5,slv z x.length F),(6,iv f)]∧Inv [] w0 w [(some i,blk [iv A,iv B,.slice l e.length o,.slice p a.length q,.slice C u.length D,iv E] 28),(z,blk K 3)]∧(Row 1 z (x.length) F K (flat eInt x))∧F94l4 e a d N mm x f=some r∧mm=m) (m:=N) ⟨none,0,[],[],0,N,⟨rfl,rfl,rfl,rfl,trivial⟩,hI.pickL [1,0] (by decide) rfl,(Row.nil_ 1),hF,rfl⟩ ?_
  rintro m ρ w ⟨z,F,K,x,f,mm,hag,hI,L,hF,hm⟩
  subst hm; obtain ⟨ρ,rfl⟩:=hag.form; clear hag
  obtain _ | m4:=mm
  ·cases (show (none:Option (List Int))=some r from hF)
  replace hF:F94b4 e a d N (F94l4 e a d N m4) x f=some r:=hF; unfold F94b4 at hF
  refine wp_seq (wp_seq (rgn rfl (pu (iv f) rfl (pu (.pointer (some ⟨i,2,none⟩)) rfl (seq_c (s_load1 hI 0 (.slice l e.length o) Tryz.isAgg24 rfl rfl rfl ?_))))))
  refine pu (iv ((e.length:Nat):Int)) (by kernel_rfl) (ifE hF (fun a3 hF=>?_) (fun a3 hF=>?_))
  ·
   refine seq_c (s_lss rfl rfl (fun _=>?_) (fun h=>absurd a3 h))
   refine seq_nil (wp_condT rfl (wp_skip (wp_cutO (fun ρ w=>∃ (M:Option Nat) (X:Nat) (Y:List Value) (H:List Int),Agree ρ [(1,iv d),(2,.pointer (some ⟨i,0,none⟩)),(5,slv M H.length X),(6,iv f)]∧Inv [] w0 w [(some i,blk [iv A,iv B,.slice l e.length o,.slice p a.length q,.slice C u.length D,iv E] 28),(M,blk Y 3)]∧(Row 1 M (H.length) X Y (flat eInt H))∧F94j5 (F94l4 e a d N m4) f H=some r) ?_ ?_)))
   ·
    refine wp_block ?_
    refine wp_seq (wp_lit 14 hI (by kernel_rfl) ?_)
    refine zp (.pointer (some ⟨i,2,none⟩)) (fun _=>rfl) (zc (.slice l e.length o) (fun w hI=>s_load1 hI 0 (.slice l e.length o) Tryz.isAgg24 rfl rfl rfl br) (zp (iv f) (fun _=>rfl) (gdE hF (fun a4 hF=>?_))))
    refine bindE hF (fun j Z hF=>?_)
    obtain ⟨O,P,a5,a6,a7⟩:=aN.at_ eLd_len (by decide) Z
    refine zc (.pointer (some ⟨O,P+(f).toNat * 6,none⟩)) (fun w hI=>s_indexA (f).toNat Tryz.underlying24 Tryz.sizeOf30 rfl a5 rfl (Int.toNat_of_nonneg a4).symm (lt_n Z rfl) br) (zp (.pointer (some ⟨O,P+(f).toNat * 6+4,none⟩)) (fun _=>rfl) (zc (iv j.kn) (fun w hI=>s_loadB1 hI (iv j.kn) Tryz.isAgg3 rfl a6 (by simp) (a7 4 _ rfl) br) (zp (.pointer (some ⟨i,2,none⟩)) (fun _=>rfl) (zc (.slice l e.length o) (fun w hI=>s_load1 hI 0 (.slice l e.length o) Tryz.isAgg24 rfl rfl rfl br) (zp (iv f) (fun _=>rfl) (zc (.pointer (some ⟨O,P+(f).toNat * 6,none⟩)) (fun w hI=>s_indexA (f).toNat Tryz.underlying24 Tryz.sizeOf30 rfl a5 rfl (Int.toNat_of_nonneg a4).symm (lt_n Z rfl) br) (zp (.pointer (some ⟨O,P+(f).toNat * 6+5,none⟩)) (fun _=>rfl) (zc (iv j.un) (fun w hI=>s_loadB1 hI (iv j.un) Tryz.isAgg3 rfl a6 (by simp) (a7 5 _ rfl) br) (zp (iv d) (fun _=>rfl) ?_)))))))))
    refine bindE hF (fun b7 aF hF=>?_)
    refine ifE hF (fun a8 hF=>?_) (fun a8 hF=>?_)
    ·
     refine zc (.bool true) (fun w hI=>s_call 147 [iv j.kn,iv j.un,iv d] (by kernel_rfl) (Does.mono (L147 _ j.kn j.un d _ aF) (fun v' w' h=>⟨h.1.trans (congrArg Value.bool a8),h.2⟩)) (fun v' w' h=>h)) (zh (fun w hI=>?_))
     refine seq_nil (wp_condT rfl (rgn rfl (pu (slv z x.length F) rfl (pu (.pointer (some ⟨i,2,none⟩)) rfl (seq_c (s_load1 hI 0 (.slice l e.length o) Tryz.isAgg24 rfl rfl rfl ?_))))))
     refine pu (iv f) rfl (seq_c (s_indexA (f).toNat Tryz.underlying24 Tryz.sizeOf30 rfl a5 rfl (Int.toNat_of_nonneg a4).symm (lt_n Z rfl) ?_))
     refine pu (.pointer (some ⟨O,P+(f).toNat * 6,none⟩)) rfl (seq_c (s_loadB1 hI (iv j.src) Tryz.isAgg3 rfl a6 (by simp) (a7 0 _ rfl) ?_))
     refine bindE hF (fun aG aP hF=>?_)
     refine seq_c (s_call 71 [slv z x.length F,iv j.src] (by kernel_rfl) (L71 _ (z.map fun b=>⟨b,0,none⟩) F x j.src (hI.rowCells 1 rfl L) (len_le rfl L.big) (len_le rfl L.cap) N _ aP) ?_)
     rintro v w ⟨aH,aI,aQ,rfl,hN,aR⟩
     have hI:=hI.join hN; clear hN
     refine pu (slv aH aG.length aI) rfl (seq_nil ?_)
     exact .inl ⟨rfl,⟨aH,aI,aQ,aG,⟨rfl,rfl,rfl,rfl,trivial⟩,hI.pickL [1,0] (by decide) rfl,(aR.to rfl rfl),hF⟩⟩
    ·
     refine zc (.bool false) (fun w hI=>s_call 147 [iv j.kn,iv j.un,iv d] (by kernel_rfl) (Does.mono (L147 _ j.kn j.un d _ aF) (fun v' w' h=>⟨h.1.trans (congrArg Value.bool (Bool.eq_false_iff.2 a8)),h.2⟩)) (fun v' w' h=>h)) (zh (fun w hI=>?_))
     refine seq_nil (wp_condF rfl (wp_skip ?_))
     exact .inl ⟨rfl,⟨z,F,K,x,⟨rfl,rfl,rfl,rfl,trivial⟩,hI.pickL [0,1] (by decide) rfl,(L.to rfl rfl),hF⟩⟩
   ·intro ρ w hJ
    obtain ⟨M,X,Y,H,hag,hI,aS,hF⟩:=hJ
    obtain ⟨ρ,rfl⟩:=hag.form; clear hag
    unfold F94j5 at hF
    refine rgn rfl (pu (iv f) rfl (ckE hF (fun aT hF=>?_)))
    refine seq_c (s_add rfl rfl aT ?_)
    refine pu (iv (f+1)) rfl (seq_nil ?_)
    exact ⟨rfl,m4,Nat.lt_succ_self _,⟨M,X,Y,H,f+1,m4,⟨rfl,rfl,rfl,rfl,trivial⟩,hI.pickL [0,1] (by decide) rfl,(aS.to rfl rfl),hF,rfl⟩⟩
  ·
   refine seq_c (s_lss rfl rfl (fun h=>absurd h a3) (fun _=>?_))
   refine seq_nil (wp_condF rfl (wp_exit ?_))
   exact .inl ⟨rfl,⟨z,F,K,x,⟨rfl,rfl,rfl,trivial⟩,hI.pickL [0,1] (by decide) rfl,(L.to rfl rfl),hF⟩⟩
 ·intro ρ w hJ
  obtain ⟨J,V,W,G,hag,hI,aU,hF⟩:=hJ
  obtain ⟨ρ,rfl⟩:=hag.form; clear hag
  unfold F94j1 at hF
  refine wp_seq (wp_seq (rgn rfl (pu (iv 0) rfl (seq_nil (wp_block ?_)))))
  refine wp_loop (fun m ρ w=>∃ (t:Option Nat) (y:Nat) (Q:List Value) (s:List Int) (g:Int) (mm:Nat),Agree ρ [(1,iv d),(2,.pointer (some ⟨i,0,none⟩)),(5,slv t s.length y),(7,iv g)]∧Inv [] w0 w [(some i,blk [iv A,iv B,.slice l e.length o,.slice p a.length q,.slice C u.length D,iv E] 28),(t,blk Q 3)]∧(Row 1 t (s.length) y Q (flat eInt s))∧F94l2 a d N mm s g=some r∧mm=m) (m:=N) ⟨J,V,W,G,0,N,⟨rfl,rfl,rfl,rfl,trivial⟩,hI.pickL [0,1] (by decide) rfl,(aU.to rfl rfl),hF,rfl⟩ ?_
  rintro m ρ w ⟨t,y,Q,s,g,mm,hag,hI,R,hF,hm⟩
  subst hm; obtain ⟨ρ,rfl⟩:=hag.form; clear hag
  obtain _ | m2:=mm
  ·cases (show (none:Option (List Int))=some r from hF)
  replace hF:F94b2 a d N (F94l2 a d N m2) s g=some r:=hF; unfold F94b2 at hF
  refine wp_seq (wp_seq (rgn rfl (pu (iv g) rfl (pu (.pointer (some ⟨i,3,none⟩)) rfl (seq_c (s_load1 hI 0 (.slice p a.length q) Tryz.isAgg25 rfl rfl rfl ?_))))))
  refine pu (iv ((a.length:Nat):Int)) (by kernel_rfl) (ifE hF (fun a9 hF=>?_) (fun a9 hF=>?_))
  ·
   refine seq_c (s_lss rfl rfl (fun _=>?_) (fun h=>absurd a9 h))
   refine seq_nil (wp_condT rfl (wp_skip (wp_cutO (fun ρ w=>∃ (S:Option Nat) (a0:Nat) (a1:List Value) (I:List Int),Agree ρ [(1,iv d),(2,.pointer (some ⟨i,0,none⟩)),(5,slv S I.length a0),(7,iv g)]∧Inv [] w0 w [(some i,blk [iv A,iv B,.slice l e.length o,.slice p a.length q,.slice C u.length D,iv E] 28),(S,blk a1 3)]∧(Row 1 S (I.length) a0 a1 (flat eInt I))∧F94j3 (F94l2 a d N m2) g I=some r) ?_ ?_)))
   ·
    refine wp_block ?_
    refine wp_seq (wp_lit 14 hI (by kernel_rfl) ?_)
    refine zp (.pointer (some ⟨i,3,none⟩)) (fun _=>rfl) (zc (.slice p a.length q) (fun w hI=>s_load1 hI 0 (.slice p a.length q) Tryz.isAgg25 rfl rfl rfl br) (zp (iv g) (fun _=>rfl) (gdE hF (fun aA hF=>?_))))
    refine bindE hF (fun k a2 hF=>?_)
    obtain ⟨T,U,aB,aC,aD⟩:=aO.at_ eLd_len (by decide) a2
    refine zc (.pointer (some ⟨T,U+(g).toNat * 6,none⟩)) (fun w hI=>s_indexA (g).toNat Tryz.underlying25 Tryz.sizeOf31 rfl aB rfl (Int.toNat_of_nonneg aA).symm (lt_n a2 rfl) br) (zp (.pointer (some ⟨T,U+(g).toNat * 6+4,none⟩)) (fun _=>rfl) (zc (iv k.kn) (fun w hI=>s_loadB1 hI (iv k.kn) Tryz.isAgg3 rfl aC (by simp) (aD 4 _ rfl) br) (zp (.pointer (some ⟨i,3,none⟩)) (fun _=>rfl) (zc (.slice p a.length q) (fun w hI=>s_load1 hI 0 (.slice p a.length q) Tryz.isAgg25 rfl rfl rfl br) (zp (iv g) (fun _=>rfl) (zc (.pointer (some ⟨T,U+(g).toNat * 6,none⟩)) (fun w hI=>s_indexA (g).toNat Tryz.underlying25 Tryz.sizeOf31 rfl aB rfl (Int.toNat_of_nonneg aA).symm (lt_n a2 rfl) br) (zp (.pointer (some ⟨T,U+(g).toNat * 6+5,none⟩)) (fun _=>rfl) (zc (iv k.un) (fun w hI=>s_loadB1 hI (iv k.un) Tryz.isAgg3 rfl aC (by simp) (aD 5 _ rfl) br) (zp (iv d) (fun _=>rfl) ?_)))))))))
    refine bindE hF (fun b8 aJ hF=>?_)
    refine ifE hF (fun aE hF=>?_) (fun aE hF=>?_)
    ·
     refine zc (.bool true) (fun w hI=>s_call 147 [iv k.kn,iv k.un,iv d] (by kernel_rfl) (Does.mono (L147 _ k.kn k.un d _ aJ) (fun v' w' h=>⟨h.1.trans (congrArg Value.bool aE),h.2⟩)) (fun v' w' h=>h)) (zh (fun w hI=>?_))
     refine seq_nil (wp_condT rfl (rgn rfl (pu (slv t s.length y) rfl (pu (.pointer (some ⟨i,3,none⟩)) rfl (seq_c (s_load1 hI 0 (.slice p a.length q) Tryz.isAgg25 rfl rfl rfl ?_))))))
     refine pu (iv g) rfl (seq_c (s_indexA (g).toNat Tryz.underlying25 Tryz.sizeOf31 rfl aB rfl (Int.toNat_of_nonneg aA).symm (lt_n a2 rfl) ?_))
     refine pu (.pointer (some ⟨T,U+(g).toNat * 6,none⟩)) rfl (seq_c (s_loadB1 hI (iv k.src) Tryz.isAgg3 rfl aC (by simp) (aD 0 _ rfl) ?_))
     refine bindE hF (fun aK aV hF=>?_)
     refine seq_c (s_call 71 [slv t s.length y,iv k.src] (by kernel_rfl) (L71 _ (t.map fun b=>⟨b,0,none⟩) y s k.src (hI.rowCells 1 rfl R) (len_le rfl R.big) (len_le rfl R.cap) N _ aV) ?_)
     rintro v w ⟨aL,aM,aW,rfl,hN,aX⟩
     have hI:=hI.join hN; clear hN
     refine pu (slv aL aK.length aM) rfl (seq_nil ?_)
     exact .inl ⟨rfl,⟨aL,aM,aW,aK,⟨rfl,rfl,rfl,rfl,trivial⟩,hI.pickL [1,0] (by decide) rfl,(aX.to rfl rfl),hF⟩⟩
    ·
     refine zc (.bool false) (fun w hI=>s_call 147 [iv k.kn,iv k.un,iv d] (by kernel_rfl) (Does.mono (L147 _ k.kn k.un d _ aJ) (fun v' w' h=>⟨h.1.trans (congrArg Value.bool (Bool.eq_false_iff.2 aE)),h.2⟩)) (fun v' w' h=>h)) (zh (fun w hI=>?_))
     refine seq_nil (wp_condF rfl (wp_skip ?_))
     exact .inl ⟨rfl,⟨t,y,Q,s,⟨rfl,rfl,rfl,rfl,trivial⟩,hI.pickL [0,1] (by decide) rfl,(R.to rfl rfl),hF⟩⟩
   ·intro ρ w hJ
    obtain ⟨S,a0,a1,I,hag,hI,aY,hF⟩:=hJ
    obtain ⟨ρ,rfl⟩:=hag.form; clear hag
    unfold F94j3 at hF
    refine rgn rfl (pu (iv g) rfl (ckE hF (fun aZ hF=>?_)))
    refine seq_c (s_add rfl rfl aZ ?_)
    refine pu (iv (g+1)) rfl (seq_nil ?_)
    exact ⟨rfl,m2,Nat.lt_succ_self _,⟨S,a0,a1,I,g+1,m2,⟨rfl,rfl,rfl,rfl,trivial⟩,hI.pickL [0,1] (by decide) rfl,(aY.to rfl rfl),hF,rfl⟩⟩
  ·
   refine seq_c (s_lss rfl rfl (fun h=>absurd h a9) (fun _=>?_))
   refine seq_nil (wp_condF rfl (wp_exit ?_))
   refine wp_seq (rgn rfl (pu (slv t s.length y) rfl (pu (slv t s.length y) rfl (seq_nil (wp_ret ?_)))))
   replace hF:=Option.some.inj hF; subst hF
   exact ⟨slv t s.length y,Ret.r1 rfl rfl,⟨t,y,Q,rfl,hI.pickL [1] (by decide) rfl,R.to rfl rfl⟩⟩


theorem L95 (w0:World) (m:Option Addr) (e:Nat) (a:List Int) (d:Int) (t:Cells w0 m (flat eInt a)) (J:a.length≤9223372036854775807) (u:a.length≤e) (r:List Int) (hF:F95 a d=some r):Does Tryz.prog 95 [.slice m a.length e,.int .i64 d] w0 fun v w=>∃ (z0:Option Nat) (z1:Nat) (z2:List Value),v=slv z0 r.length z1∧Inv [] w0 w [(z0,blk z2 3)]∧Row 1 z0 r.length z1 z2 (flat eInt r):=by
 refine calls_of (n:=15) Tryz.func95 rfl Tryz.ntmps95 rfl ?_
 have hI:=Inv.start w0
 unfold F95 at hF
 refine wp_seq (rgn rfl (pu (.slice none 0 0) rfl (seq_nil (wp_seq (gdE hF (fun A hF=>?_))))))
 refine gdE hF (fun B hF=>?_)
 refine gdE hF (fun K hF=>?_)
 refine ckE hF (fun C hF=>?_)
 refine gdE hF (fun D hF=>?_)
 refine gdE hF (fun E hF=>?_)
 refine gdE hF (fun L hF=>?_)
 obtain ⟨F,hC94,G⟩:=cutA (enc:=eInt) (l:=a) (lo:=0) (hi:=(d).toNat) (c:=e) (k:=1) eInt_len t B u
 obtain ⟨H,hC100,I⟩:=cutA (enc:=eInt) (l:=a) (lo:=(d+1).toNat) (hi:=a.length) (c:=e) (k:=1) eInt_len t E u
 refine wp_toks [⟨fun y=>(.slice (some ⟨(y 0).b,0,none⟩) 0 0),fun y=>[(some (y 0).b,blk [] 3)],fun _=>True,[],[]⟩,tv (fun _=>(.slice m a.length e)),tv (fun _=>(iv d)),tr (fun _=>(.slice F (((a.drop 0).take ((d).toNat - 0)).length) (e - 0))) [],⟨fun y=>(slv ((y 4).g 0) (((a.drop 0).take ((d).toNat - 0)).length) ((y 4).c 0)),fun y=>[(((y 4).g 0),blk ((y 4).cl 0) 3)],fun y=>(Row 1 ((y 4).g 0) (((a.drop 0).take ((d).toNat - 0)).length) ((y 4).c 0) ((y 4).cl 0) (flat eInt ((a.drop 0).take ((d).toNat - 0)))),[0],[]⟩,tv (fun _=>(.slice m a.length e)),tv (fun _=>(iv d)),tr (fun _=>(iv (d+1))) [],tr (fun _=>(.slice H (((a.drop ((d+1).toNat)).take (a.length - ((d+1).toNat))).length) (e - ((d+1).toNat)))) [],⟨fun y=>(slv ((y 9).g 0) ((((a.drop 0).take ((d).toNat - 0))++((a.drop ((d+1).toNat)).take (a.length - ((d+1).toNat)))).length) ((y 9).c 0)),fun y=>[(((y 9).g 0),blk ((y 9).cl 0) 3)],fun y=>(Row 1 ((y 9).g 0) ((((a.drop 0).take ((d).toNat - 0))++((a.drop ((d+1).toNat)).take (a.length - ((d+1).toNat)))).length) ((y 9).c 0) ((y 9).cl 0) (flat eInt (((a.drop 0).take ((d).toNat - 0))++((a.drop ((d+1).toNat)).take (a.length - ((d+1).toNat)))))),[4],[]⟩,tv (fun y=>(slv ((y 9).g 0) ((((a.drop 0).take ((d).toNat - 0))++((a.drop ((d+1).toNat)).take (a.length - ((d+1).toNat)))).length) ((y 9).c 0)))] (fun y=>[(4,slv ((y 9).g 0) ((((a.drop 0).take ((d).toNat - 0))++((a.drop ((d+1).toNat)).take (a.length - ((d+1).toNat)))).length) ((y 9).c 0))]) (fun y=>[(((y 9).g 0),blk ((y 9).cl 0) 3)]) hI (by kernel_rfl) (fun y=>⟨rfl,rfl⟩) (fun y=>?_) ?_
 ·
  refine tg (.slice (some ⟨(y 0).b,0,none⟩) 0 0) [] [] rfl ⟨rfl,rfl,rfl⟩ ?_ ?_
  ·intro hp X w hI
   refine s_new hI [] 3 (fun b=>slv (some b) 0 0) (by kernel_rfl) ?_
   intro x w hI
   exact ⟨wit x [] [] [] [],rfl,trivial,hI.castL rfl⟩
  refine tp rfl (fun _=>rfl) (tp rfl (fun _=>rfl) (tl0 rfl (fun X w hI=>G Tryz.underlying41 Tryz.sizeOf3 rfl (.inr ⟨rfl,rfl⟩) (.inl (congrArg (fun z=>some (Value.int .i64 z)) (Int.toNat_of_nonneg A).symm)) br) (tg (slv ((y 4).g 0) (((a.drop 0).take ((d).toNat - 0)).length) ((y 4).c 0)) [(some (y 0).b,blk [] 3)] [] rfl ⟨rfl,rfl,rfl⟩ ?_ ?_)))
  ·intro hp X w hI
   refine s_appN hI Tryz.underlying41 (z:=iv 0) (k:=1) (bytes:=8) rfl rfl rfl 0 rfl rfl (Row.zero_ 1 (y 0).b) (flat eInt ((a.drop 0).take ((d).toNat - 0))) rfl (flat_len eInt_len _) (hC94.inv0 hI) (flat_cell eInt_cell _) (by omega) (by omega) (n2:=((a.drop 0).take ((d).toNat - 0)).length) (app_len0 rfl) ?_
   intro p q s w hI f
   have f:Row 1 p (((a.drop 0).take ((d).toNat - 0)).length) q s (flat eInt ((a.drop 0).take ((d).toNat - 0))):=f
   exact ⟨wit 0 [p] [q] [s] [],rfl,Eq.mp rfl f,hI.castL rfl⟩
  refine tp rfl (fun _=>rfl) (tp rfl (fun _=>rfl) (tl0 rfl (fun X w hI=>s_add rfl rfl C br) (tl0 rfl (fun X w hI=>I Tryz.underlying41 Tryz.sizeOf3 rfl (.inl (congrArg (fun z=>some (Value.int .i64 z)) (Int.toNat_of_nonneg D).symm)) (.inr ⟨rfl,rfl⟩) br) (tg (slv ((y 9).g 0) ((((a.drop 0).take ((d).toNat - 0))++((a.drop ((d+1).toNat)).take (a.length - ((d+1).toNat)))).length) ((y 9).c 0)) [(((y 4).g 0),blk ((y 4).cl 0) 3)] [] rfl ⟨rfl,rfl,rfl⟩ ?_ ?_))))
  ·intro hp X w hI
   have f:Row 1 ((y 4).g 0) (((a.drop 0).take ((d).toNat - 0)).length) ((y 4).c 0) ((y 4).cl 0) (flat eInt ((a.drop 0).take ((d).toNat - 0))):=pg hp (k:=4) ⟨rfl,rfl⟩
   refine s_appN hI Tryz.underlying41 (z:=iv 0) (k:=1) (bytes:=8) rfl rfl rfl 0 rfl rfl f (flat eInt ((a.drop ((d+1).toNat)).take (a.length - ((d+1).toNat)))) rfl (flat_len eInt_len _) (hC100.inv0 hI) (flat_cell eInt_cell _) (by omega) (by omega) (n2:=(((a.drop 0).take ((d).toNat - 0))++((a.drop ((d+1).toNat)).take (a.length - ((d+1).toNat)))).length) (app_len rfl rfl) ?_
   intro h i o w hI j
   have j:Row 1 h ((((a.drop 0).take ((d).toNat - 0))++((a.drop ((d+1).toNat)).take (a.length - ((d+1).toNat)))).length) i o (flat eInt (((a.drop 0).take ((d).toNat - 0))++((a.drop ((d+1).toNat)).take (a.length - ((d+1).toNat))))):=j.more
   exact ⟨wit 0 [h] [i] [o] [],rfl,Eq.mp rfl j,hI.castL rfl⟩
  refine tpv (slv ((y 9).g 0) ((((a.drop 0).take ((d).toNat - 0))++((a.drop ((d+1).toNat)).take (a.length - ((d+1).toNat)))).length) ((y 9).c 0)) rfl ⟨rfl,fun _=>rfl⟩ ?_
  exact tn
 intro y hp ρ w hag hI
 have j:Row 1 ((y 9).g 0) ((((a.drop 0).take ((d).toNat - 0))++((a.drop ((d+1).toNat)).take (a.length - ((d+1).toNat)))).length) ((y 9).c 0) ((y 9).cl 0) (flat eInt (((a.drop 0).take ((d).toNat - 0))++((a.drop ((d+1).toNat)).take (a.length - ((d+1).toNat))))):=pgl hp (k:=9) (by decide) rfl
 clear hp
 generalize (y 0).b=x at *
 generalize (y 4).g 0=p at *
 generalize (y 4).c 0=q at *
 generalize (y 4).cl 0=s at *
 generalize (y 9).g 0=h at *
 generalize (y 9).c 0=i at *
 generalize (y 9).cl 0=o at *
 obtain ⟨ρ,rfl⟩:=hag.form; clear hag
 refine wp_ret ?_
 replace hF:=Option.some.inj hF; subst hF
 exact ⟨slv h ((((a.drop 0).take ((d).toNat - 0))++((a.drop ((d+1).toNat)).take (a.length - ((d+1).toNat)))).length) i,Ret.r1 rfl rfl,⟨h,i,o,rfl,hI.pickL [0] (by decide) rfl,j.to rfl rfl⟩⟩


theorem L33 (w0:World) (f:Int) (g:Int) (k:Option Addr) (l:Nat) (a:List Ld) (o:Option Addr) (p:Nat) (d:List Ld) (q:Option Addr) (s:Nat) (e:List Sp) (i:Int) (j:Int) (J:Cells w0 k (flat eLd a)) (K:a.length≤9223372036854775807) (L:a.length≤l) (M:Cells w0 o (flat eLd d)) (O:d.length≤9223372036854775807) (P:d.length≤p) (Q:Cells w0 q (flat eSp e)) (R:e.length≤9223372036854775807) (S:e.length≤s) (N:Nat) (r:(List Int × Int)) (hF:F33 N f g a d e i j=some r):Does Tryz.prog 33 [.agg #[.int .i64 f,.int .i64 g,.slice k a.length l,.slice o d.length p,.slice q e.length s,.int .i64 i],.int .i64 j] w0 fun v w=>∃ (z0:Option Nat) (z1:Nat) (z2:List Value),v=.tuple #[slv z0 r.1.length z1,.int .i64 r.2]∧Inv [] w0 w [(z0,blk z2 3)]∧Row 1 z0 r.1.length z1 z2 (flat eInt r.1):=by
 refine calls_of (n:=42) Tryz.func33 rfl Tryz.ntmps33 rfl ?_
 have hI:=Inv.start w0
 unfold F33 at hF
 refine wp_seq (rgn rfl (seq_c (s_boxI hI [iv f,iv g,.slice k a.length l,.slice o d.length p,.slice q e.length s,iv i] rfl ?_)))
 intro T w hI
 refine pu (.slice none 0 0) rfl (pu (iv 0) rfl (seq_nil (wp_seq (rgn rfl (seq_c (s_loadK hI 0 6 [iv f,iv g,.slice k a.length l,.slice o d.length p,.slice q e.length s,iv i] Tryz.isAgg28 Tryz.sizeOf28 rfl rfl rfl rfl ?_))))))
 refine pu (iv j) rfl (bindE hF (fun x a3 hF=>?_))
 refine seq_c (s_callv hI 31 [.agg #[iv f,iv g,.slice k a.length l,.slice o d.length p,.slice q e.length s,iv i],iv j] (.tuple #[.bool x.1,iv x.2]) (by kernel_rfl) (L31 _ f g k l a o p d q s e i j (J.inv0 hI) K L (M.inv0 hI) O P (Q.inv0 hI) R S N _ a3) ?_)
 intro w hI
 refine pu (.tuple #[.bool x.1,iv x.2]) rfl (pu (.bool x.1) rfl (pu (iv x.2) rfl (pu (.bool x.1) rfl (pu (iv x.2) rfl (seq_nil (wp_seq (wp_seq (rgn rfl (pu (iv x.2) rfl ?_)))))))))
 refine ifE hF (fun W hF=>?_) (fun W hF=>?_)
 ·
  refine seq_c (s_neq rfl rfl (fun h=>absurd W h) (fun _=>?_))
  refine seq_nil (wp_condF rfl (wp_skip (wp_seq (wp_seq (ifE hF (fun X hF=>?_) (fun X hF=>?_))))))
  ·
   rw [X]
   refine rgn rfl (pu (.bool true) rfl (seq_nil (wp_condT rfl (wp_seq (rgn rfl (pu (.slice none 0 0) rfl (pu (iv 15) rfl (seq_nil (wp_ret ?_)))))))))
   have hI:=hI.nilRow 3
   replace hF:=Option.some.inj hF; subst hF
   exact ⟨.tuple #[.slice none 0 0,iv 15],Ret.r2 rfl rfl rfl,⟨none,0,[],rfl,hI.pickL [0] (by decide) rfl,Row.nil_ 1⟩⟩
  ·
   rw [(Bool.eq_false_iff.2 X)]
   refine rgn rfl (pu (.bool false) rfl (seq_nil (wp_condF rfl (wp_skip (wp_seq (rgn rfl (seq_c (s_loadK hI 0 6 [iv f,iv g,.slice k a.length l,.slice o d.length p,.slice q e.length s,iv i] Tryz.isAgg28 Tryz.sizeOf28 rfl rfl rfl rfl ?_))))))))
   refine pu (iv j) rfl (bindE hF (fun E a4 hF=>?_))
   refine seq_c (s_call 94 [.agg #[iv f,iv g,.slice k a.length l,.slice o d.length p,.slice q e.length s,iv i],iv j] (by kernel_rfl) (L94 _ f g k l a o p d q s e i j (J.inv0 hI) K L (M.inv0 hI) O P (Q.inv0 hI) R S N _ a4) ?_)
   rintro v w ⟨Y,Z,a5,rfl,hN,a6⟩
   have hI:=hI.join hN; clear hN
   refine pu (slv Y E.length Z) rfl (seq_nil (wp_seq (wp_seq (rgn rfl (pu (slv Y E.length Z) rfl (pu (iv ((E.length:Nat):Int)) (by kernel_rfl) (ckE hF (fun a7 hF=>?_))))))))
   refine seq_c (s_sub rfl rfl a7 ?_)
   refine pu (iv ((E.length:Int) - 1)) rfl (seq_nil (wp_block ?_))
   refine wp_loop (fun m ρ w=>∃ (y:Option Nat) (z:Nat) (G:List Value) (t:List Int) (u:Int) (mm:Nat),Agree ρ [(1,iv j),(2,.pointer (some ⟨T,0,none⟩)),(8,slv y t.length z),(9,iv u)]∧Inv [] w0 w [(some T,blk [iv f,iv g,.slice k a.length l,.slice o d.length p,.slice q e.length s,iv i] 28),(y,blk G 3)]∧(Row 1 y (t.length) z G (flat eInt t))∧F33l1 f g a d e i j N mm t u=some r∧mm=m) (m:=N) ⟨Y,Z,a5,E,(E.length:Int) - 1,N,⟨rfl,rfl,rfl,rfl,trivial⟩,hI.pickL [1,0] (by decide) rfl,(a6.to rfl rfl),hF,rfl⟩ ?_
   rintro m ρ w ⟨y,z,G,t,u,mm,hag,hI,H,hF,hm⟩
   subst hm; obtain ⟨ρ,rfl⟩:=hag.form; clear hag
   obtain _ | m1:=mm
   ·cases (show (none:Option (List Int × Int))=some r from hF)
   replace hF:F33b1 f g a d e i j N (F33l1 f g a d e i j N m1) t u=some r:=hF; unfold F33b1 at hF
   refine wp_seq (wp_seq (rgn rfl (pu (iv u) rfl (ifE hF (fun a0 hF=>?_) (fun a0 hF=>?_)))))
   ·
    refine seq_c (s_geq rfl rfl (fun _=>?_) (fun h=>absurd a0 h))
    refine seq_nil (wp_condT rfl (wp_skip (wp_cutO (fun ρ w=>∃ (I:Option Nat) (U:Nat) (V:List Value) (F:List Int),Agree ρ [(1,iv j),(2,.pointer (some ⟨T,0,none⟩)),(8,slv I F.length U),(9,iv u)]∧Inv [] w0 w [(some T,blk [iv f,iv g,.slice k a.length l,.slice o d.length p,.slice q e.length s,iv i] 28),(I,blk V 3)]∧(Row 1 I (F.length) U V (flat eInt F))∧F33j2 (F33l1 f g a d e i j N m1) u F=some r) ?_ ?_)))
    ·
     refine wp_block ?_
     refine wp_seq (rgn rfl (pu (slv y t.length z) rfl (pu (iv u) rfl (bindE hF (fun A a8 hF=>?_)))))
     refine seq_c (s_call 95 [slv y t.length z,iv u] (by kernel_rfl) (L95 _ (y.map fun b=>⟨b,0,none⟩) z t u (hI.rowCells 1 rfl H) (len_le rfl H.big) (len_le rfl H.cap) _ a8) ?_)
     rintro v w ⟨B,C,a9,rfl,hN,D⟩
     have hI:=hI.join hN; clear hN
     refine pu (slv B A.length C) rfl (seq_nil (wp_seq (rgn rfl (seq_c (s_loadK hI 1 6 [iv f,iv g,.slice k a.length l,.slice o d.length p,.slice q e.length s,iv i] Tryz.isAgg28 Tryz.sizeOf28 rfl rfl rfl rfl ?_)))))
     refine pu (iv j) rfl (pu (slv B A.length C) rfl (pu (.agg #[.bool false,slv B A.length C]) (by kernel_rfl) (bindE hF (fun aC a2 hF=>?_))))
     refine ifE hF (fun a1 hF=>?_) (fun a1 hF=>?_)
     ·
      refine seq_c (s_callv hI 89 [.agg #[iv f,iv g,.slice k a.length l,.slice o d.length p,.slice q e.length s,iv i],iv j,.agg #[.bool false,slv B A.length C]] (.bool true) (by kernel_rfl) (Does.mono (L89 _ f g k l a o p d q s e i j false (B.map fun b=>⟨b,0,none⟩) C A (J.inv0 hI) K L (M.inv0 hI) O P (Q.inv0 hI) R S (hI.rowCells 0 rfl D) (len_le rfl D.big) (len_le rfl D.cap) N _ a2) (fun v' w' h=>⟨h.1.trans (congrArg Value.bool a1),h.2⟩)) ?_)
      intro w hI
      refine pu (.bool false) rfl (seq_nil (wp_condF rfl (wp_skip ?_)))
      exact .inl ⟨rfl,⟨y,z,G,t,⟨rfl,rfl,rfl,rfl,trivial⟩,hI.pickL [1,2] (by decide) rfl,(H.to rfl rfl),hF⟩⟩
     ·
      refine seq_c (s_callv hI 89 [.agg #[iv f,iv g,.slice k a.length l,.slice o d.length p,.slice q e.length s,iv i],iv j,.agg #[.bool false,slv B A.length C]] (.bool false) (by kernel_rfl) (Does.mono (L89 _ f g k l a o p d q s e i j false (B.map fun b=>⟨b,0,none⟩) C A (J.inv0 hI) K L (M.inv0 hI) O P (Q.inv0 hI) R S (hI.rowCells 0 rfl D) (len_le rfl D.big) (len_le rfl D.cap) N _ a2) (fun v' w' h=>⟨h.1.trans (congrArg Value.bool (Bool.eq_false_iff.2 a1)),h.2⟩)) ?_)
      intro w hI
      refine pu (.bool true) rfl (seq_nil (wp_condT rfl (rgn rfl (pu (slv B A.length C) rfl (pu (slv B A.length C) rfl (seq_nil ?_))))))
      exact .inl ⟨rfl,⟨B,C,a9,A,⟨rfl,rfl,rfl,rfl,trivial⟩,hI.pickL [1,0] (by decide) rfl,(D.to rfl rfl),hF⟩⟩
    ·intro ρ w hJ
     obtain ⟨I,U,V,F,hag,hI,aA,hF⟩:=hJ
     obtain ⟨ρ,rfl⟩:=hag.form; clear hag
     unfold F33j2 at hF
     refine rgn rfl (pu (iv u) rfl (ckE hF (fun aB hF=>?_)))
     refine seq_c (s_sub rfl rfl aB ?_)
     refine pu (iv (u - 1)) rfl (seq_nil ?_)
     exact ⟨rfl,m1,Nat.lt_succ_self _,⟨I,U,V,F,u - 1,m1,⟨rfl,rfl,rfl,rfl,trivial⟩,hI.pickL [0,1] (by decide) rfl,(aA.to rfl rfl),hF,rfl⟩⟩
   ·
    refine seq_c (s_geq rfl rfl (fun h=>absurd h a0) (fun _=>?_))
    refine seq_nil (wp_condF rfl (wp_exit ?_))
    refine wp_seq (rgn rfl (pu (slv y t.length z) rfl (pu (slv y t.length z) rfl (pu (iv 0) rfl (seq_nil (wp_ret ?_))))))
    replace hF:=Option.some.inj hF; subst hF
    exact ⟨.tuple #[slv y t.length z,iv 0],Ret.r2 rfl rfl rfl,⟨y,z,G,rfl,hI.pickL [1] (by decide) rfl,H.to rfl rfl⟩⟩
 ·
  refine seq_c (s_neq rfl rfl (fun _=>?_) (fun h=>absurd h W))
  refine seq_nil (wp_condT rfl (wp_seq (rgn rfl (pu (iv x.2) rfl (pu (.slice none 0 0) rfl (pu (iv x.2) rfl (seq_nil (wp_ret ?_))))))))
  have hI:=hI.nilRow 3
  replace hF:=Option.some.inj hF; subst hF
  exact ⟨.tuple #[.slice none 0 0,iv x.2],Ret.r2 rfl rfl rfl,⟨none,0,[],rfl,hI.pickL [0] (by decide) rfl,Row.nil_ 1⟩⟩


theorem L35 (w0:World) (f:Int) (i:Int) (p:Option Addr) (q:Nat) (a:List Ld) (s:Option Addr) (t:Nat) (d:List Ld) (u:Option Addr) (x:Nat) (e:List Sp) (j:Int) (o:Int) (z:Option Addr) (A:Nat) (l:List Int) (J:Cells w0 p (flat eLd a)) (K:a.length≤9223372036854775807) (L:a.length≤q) (M:Cells w0 s (flat eLd d)) (O:d.length≤9223372036854775807) (P:d.length≤t) (Q:Cells w0 u (flat eSp e)) (R:e.length≤9223372036854775807) (S:e.length≤x) (T:Cells w0 z (flat eInt l)) (Z:l.length≤9223372036854775807) (a0:l.length≤A) (N:Nat) (r:Int) (hF:F35 N f i a d e j o l=some r):Does Tryz.prog 35 [.agg #[.int .i64 f,.int .i64 i,.slice p a.length q,.slice s d.length t,.slice u e.length x,.int .i64 j],.int .i64 o,.slice z l.length A] w0 fun v w=>v=.int .i64 r∧Below w0.heap.size w0 w:=by
 refine calls_of (n:=68) Tryz.func35 rfl Tryz.ntmps35 rfl ?_
 have hI:=Inv.start w0
 unfold F35 at hF
 refine wp_seq (rgn rfl (seq_c (s_boxI hI [iv f,iv i,.slice p a.length q,.slice s d.length t,.slice u e.length x,iv j] rfl ?_)))
 intro E w hI
 refine pu (iv 0) rfl (seq_nil (wp_seq (rgn rfl (seq_c (s_loadK hI 0 6 [iv f,iv i,.slice p a.length q,.slice s d.length t,.slice u e.length x,iv j] Tryz.isAgg28 Tryz.sizeOf28 rfl rfl rfl rfl ?_)))))
 refine pu (iv o) rfl (bindE hF (fun U aT hF=>?_))
 refine seq_c (s_callv hI 88 [.agg #[iv f,iv i,.slice p a.length q,.slice s d.length t,.slice u e.length x,iv j],iv 0,iv o] (iv U) (by kernel_rfl) (L88 _ f i p q a s t d u x e j 0 o (J.inv0 hI) K L (M.inv0 hI) O P (Q.inv0 hI) R S N _ aT) ?_)
 intro w hI
 refine pu (iv U) rfl (seq_nil (wp_seq (wp_seq (rgn rfl (pu (iv U) rfl (ifE hF (fun a1 hF=>?_) (fun a1 hF=>?_)))))))
 ·
  refine seq_c (s_neq rfl rfl (fun h=>absurd a1 h) (fun _=>?_))
  refine seq_nil (wp_condF rfl (wp_skip (wp_seq (rgn rfl (seq_c (s_loadK hI 0 6 [iv f,iv i,.slice p a.length q,.slice s d.length t,.slice u e.length x,iv j] Tryz.isAgg28 Tryz.sizeOf28 rfl rfl rfl rfl ?_))))))
  refine pu (iv o) rfl (bindE hF (fun F aU hF=>?_))
  refine seq_c (s_call 94 [.agg #[iv f,iv i,.slice p a.length q,.slice s d.length t,.slice u e.length x,iv j],iv o] (by kernel_rfl) (L94 _ f i p q a s t d u x e j o (J.inv0 hI) K L (M.inv0 hI) O P (Q.inv0 hI) R S N _ aU) ?_)
  rintro v w ⟨G,H,aA,rfl,hN,V⟩
  have hI:=hI.join hN; clear hN
  refine pu (slv G F.length H) rfl (seq_nil (wp_cutO (fun ρ w=>Agree ρ [(1,iv o),(2,.slice z l.length A),(3,.pointer (some ⟨E,0,none⟩))]∧Inv [] w0 w [(some E,blk [iv f,iv i,.slice p a.length q,.slice s d.length t,.slice u e.length x,iv j] 28)]∧F35j1 f i a d e j o l N=some r) ?_ ?_))
  ·
   refine wp_seq (rgn rfl (pu (iv 0) rfl (seq_nil (wp_block ?_))))
   refine wp_loop (fun m ρ w=>∃ (C:Int) (mm:Nat),Agree ρ [(1,iv o),(2,.slice z l.length A),(3,.pointer (some ⟨E,0,none⟩)),(8,slv G F.length H),(9,iv C)]∧Inv [] w0 w [(some E,blk [iv f,iv i,.slice p a.length q,.slice s d.length t,.slice u e.length x,iv j] 28),(G,blk aA 3)]∧F35l3 f i a d e j o l N F mm C=some r∧mm=m) (m:=N) ⟨0,N,⟨rfl,rfl,rfl,rfl,rfl,trivial⟩,hI.pickL [1,0] (by decide) rfl,hF,rfl⟩ ?_
   rintro m ρ w ⟨C,mm,hag,hI,hF,hm⟩
   subst hm; obtain ⟨ρ,rfl⟩:=hag.form; clear hag
   obtain _ | m3:=mm
   ·cases (show (none:Option Int)=some r from hF)
   replace hF:F35b3 f i a d e j o l N F (F35l3 f i a d e j o l N F m3) C=some r:=hF; unfold F35b3 at hF
   refine wp_seq (wp_seq (rgn rfl (pu (iv C) rfl (pu (.slice z l.length A) rfl (pu (iv ((l.length:Nat):Int)) (by kernel_rfl) (ifE hF (fun a2 hF=>?_) (fun a2 hF=>?_)))))))
   ·
    refine seq_c (s_lss rfl rfl (fun _=>?_) (fun h=>absurd a2 h))
    refine seq_nil (wp_condT rfl (wp_skip (wp_seq (wp_block ?_))))
    refine wp_cutO (fun ρ w=>Agree ρ [(1,iv o),(2,.slice z l.length A),(3,.pointer (some ⟨E,0,none⟩)),(8,slv G F.length H),(9,iv C),(48,.bool false)]∧Inv [] w0 w [(some E,blk [iv f,iv i,.slice p a.length q,.slice s d.length t,.slice u e.length x,iv j] 28),(G,blk aA 3)]∧F35j4 (F35l3 f i a d e j o l N F m3) C=some r) ?_ ?_
    ·
     refine wp_lit 23 hI (by kernel_rfl) ?_
     refine zp (slv G F.length H) (fun _=>rfl) (zp (.slice z l.length A) (fun _=>rfl) (zp (iv C) (fun _=>rfl) (gdE hF (fun aB hF=>?_))))
     refine bindE hF (fun I a3 hF=>?_)
     obtain ⟨aC,aD,aE,aF,aG⟩:=T.at_ eInt_len (by decide) a3
     refine zc (.pointer (some ⟨aC,aD+(C).toNat * 1,none⟩)) (fun w hI=>s_indexA (C).toNat Tryz.underlying41 Tryz.sizeOf3 rfl aE rfl (Int.toNat_of_nonneg aB).symm (lt_n a3 rfl) br) (zc (iv I) (fun w hI=>s_loadB1 hI (iv I) Tryz.isAgg3 rfl aF (by simp) (aG 0 _ rfl) br) (bindE hF (fun b4 aH hF=>?_)))
     refine ifE hF (fun a4 hF=>?_) (fun a4 hF=>?_)
     ·
      refine zc (.bool true) (fun w hI=>s_call 59 [slv G F.length H,iv I] (by kernel_rfl) (Does.mono (L59 _ (G.map fun b=>⟨b,0,none⟩) H F I (hI.rowCells 1 rfl V) (len_le rfl V.big) (len_le rfl V.cap) N _ aH) (fun v' w' h=>⟨h.1.trans (congrArg Value.bool a4),h.2⟩)) (fun v' w' h=>h)) (zp (.bool false) (fun _=>rfl) (zp (.bool false) (fun _=>rfl) (zq (iv C) rfl (fun _=>rfl) (ifE hF (fun a5 hF=>?_) (fun a5 hF=>?_)))))
      ·
       refine zo (.bool true) rfl (fun w hI=>s_gtr rfl rfl (fun _=>br) (fun h=>absurd a5 h)) (zq (.bool true) rfl (fun _=>rfl) (zq (.slice z l.length A) rfl (fun _=>rfl) (zq (iv C) rfl (fun _=>rfl) (ckE hF (fun aV hF=>?_)))))
       refine zo (iv (C - 1)) rfl (fun w hI=>s_sub rfl rfl aV br) (gdE hF (fun aW hF=>?_))
       refine bindE hF (fun aI aJ hF=>?_)
       obtain ⟨aX,aY,aZ,b0,b1⟩:=T.at_ eInt_len (by decide) aJ
       refine zo (.pointer (some ⟨aX,aY+((C - 1).toNat) * 1,none⟩)) rfl (fun w hI=>s_indexA ((C - 1).toNat) Tryz.underlying41 Tryz.sizeOf3 rfl aZ rfl (Int.toNat_of_nonneg aW).symm (lt_n aJ rfl) br) (zo (iv aI) rfl (fun w hI=>s_loadB1 hI (iv aI) Tryz.isAgg3 rfl b0 (by simp) (b1 0 _ rfl) br) (zq (.slice z l.length A) rfl (fun _=>rfl) (zq (iv C) rfl (fun _=>rfl) (zo (.pointer (some ⟨aC,aD+(C).toNat * 1,none⟩)) rfl (fun w hI=>s_indexA (C).toNat Tryz.underlying41 Tryz.sizeOf3 rfl aE rfl (Int.toNat_of_nonneg aB).symm (lt_n a3 rfl) br) (zo (iv I) rfl (fun w hI=>s_loadB1 hI (iv I) Tryz.isAgg3 rfl aF (by simp) (aG 0 _ rfl) br) (ifE hF (fun a6 hF=>?_) (fun a6 hF=>?_)))))))
       ·
        refine zo (.bool true) rfl (fun w hI=>s_geq rfl rfl (fun _=>br) (fun h=>absurd a6 h)) (zq (.bool true) rfl (fun _=>rfl) (zp (.bool true) (fun _=>rfl) (zh (fun w hI=>?_))))
        refine seq_nil (.inr ?_)
        refine wp_condT rfl (wp_seq (rgn rfl (pu (iv 15) rfl (seq_nil (wp_ret ?_)))))
        replace hF:=Option.some.inj hF; subst hF
        exact ⟨iv 15,Ret.r1 rfl rfl,⟨rfl,hI.below⟩⟩
       ·
        refine zo (.bool false) rfl (fun w hI=>s_geq rfl rfl (fun h=>absurd h a6) (fun _=>br)) (zq (.bool false) rfl (fun _=>rfl) (zp (.bool false) (fun _=>rfl) (zh (fun w hI=>?_))))
        refine seq_nil ?_
        exact .inl ⟨rfl,⟨⟨rfl,rfl,rfl,rfl,rfl,rfl,trivial⟩,hI.pickL [0,1] (by decide) rfl,hF⟩⟩
      ·
       refine zo (.bool false) rfl (fun w hI=>s_gtr rfl rfl (fun h=>absurd h a5) (fun _=>br)) (zq (.bool false) rfl (fun _=>rfl) (zf 10 rfl (zq (.bool false) rfl (fun _=>rfl) (zp (.bool false) (fun _=>rfl) (zh (fun w hI=>?_))))))
       refine seq_nil ?_
       exact .inl ⟨rfl,⟨⟨rfl,rfl,rfl,rfl,rfl,rfl,trivial⟩,hI.pickL [0,1] (by decide) rfl,hF⟩⟩
     ·
      refine zc (.bool false) (fun w hI=>s_call 59 [slv G F.length H,iv I] (by kernel_rfl) (Does.mono (L59 _ (G.map fun b=>⟨b,0,none⟩) H F I (hI.rowCells 1 rfl V) (len_le rfl V.big) (len_le rfl V.cap) N _ aH) (fun v' w' h=>⟨h.1.trans (congrArg Value.bool (Bool.eq_false_iff.2 a4)),h.2⟩)) (fun v' w' h=>h)) (zp (.bool true) (fun _=>rfl) (zp (.bool true) (fun _=>rfl) (zf 14 rfl (zp (.bool true) (fun _=>rfl) (zh (fun w hI=>?_))))))
      refine seq_nil (.inr ?_)
      refine wp_condT rfl (wp_seq (rgn rfl (pu (iv 15) rfl (seq_nil (wp_ret ?_)))))
      replace hF:=Option.some.inj hF; subst hF
      exact ⟨iv 15,Ret.r1 rfl rfl,⟨rfl,hI.below⟩⟩
    ·intro ρ w hJ
     obtain ⟨hag,hI,hF⟩:=hJ
     obtain ⟨ρ,rfl⟩:=hag.form; clear hag
     unfold F35j4 at hF
     refine wp_condF rfl (wp_skip (rgn rfl (pu (iv C) rfl (ckE hF (fun b2 hF=>?_)))))
     refine seq_c (s_add rfl rfl b2 ?_)
     refine pu (iv (C+1)) rfl (seq_nil ?_)
     exact ⟨rfl,m3,Nat.lt_succ_self _,⟨C+1,m3,⟨rfl,rfl,rfl,rfl,rfl,trivial⟩,hI.pickL [0,1] (by decide) rfl,hF,rfl⟩⟩
   ·
    refine seq_c (s_lss rfl rfl (fun h=>absurd h a2) (fun _=>?_))
    refine seq_nil (wp_condF rfl (wp_exit ?_))
    exact .inl ⟨rfl,⟨⟨rfl,rfl,rfl,trivial⟩,hI.pickL [0] (by decide) rfl,hF⟩⟩
  ·intro ρ w hJ
   obtain ⟨hag,hI,hF⟩:=hJ
   obtain ⟨ρ,rfl⟩:=hag.form; clear hag
   unfold F35j1 at hF
   refine wp_seq (wp_seq (rgn rfl (seq_c (s_loadK hI 0 6 [iv f,iv i,.slice p a.length q,.slice s d.length t,.slice u e.length x,iv j] Tryz.isAgg28 Tryz.sizeOf28 rfl rfl rfl rfl ?_))))
   refine pu (iv o) rfl (pu (.slice z l.length A) rfl (pu (.agg #[.bool false,.slice z l.length A]) (by kernel_rfl) (bindE hF (fun b5 aK hF=>?_))))
   refine ifE hF (fun a7 hF=>?_) (fun a7 hF=>?_)
   ·
    refine seq_c (s_callv hI 89 [.agg #[iv f,iv i,.slice p a.length q,.slice s d.length t,.slice u e.length x,iv j],iv o,.agg #[.bool false,.slice z l.length A]] (.bool true) (by kernel_rfl) (Does.mono (L89 _ f i p q a s t d u x e j o false z A l (J.inv0 hI) K L (M.inv0 hI) O P (Q.inv0 hI) R S (T.inv0 hI) Z a0 N _ aK) (fun v' w' h=>⟨h.1.trans (congrArg Value.bool a7),h.2⟩)) ?_)
    intro w hI
    refine seq_nil (wp_condT rfl (wp_seq (rgn rfl (pu (iv 15) rfl (seq_nil (wp_ret ?_))))))
    replace hF:=Option.some.inj hF; subst hF
    exact ⟨iv 15,Ret.r1 rfl rfl,⟨rfl,hI.below⟩⟩
   ·
    refine seq_c (s_callv hI 89 [.agg #[iv f,iv i,.slice p a.length q,.slice s d.length t,.slice u e.length x,iv j],iv o,.agg #[.bool false,.slice z l.length A]] (.bool false) (by kernel_rfl) (Does.mono (L89 _ f i p q a s t d u x e j o false z A l (J.inv0 hI) K L (M.inv0 hI) O P (Q.inv0 hI) R S (T.inv0 hI) Z a0 N _ aK) (fun v' w' h=>⟨h.1.trans (congrArg Value.bool (Bool.eq_false_iff.2 a7)),h.2⟩)) ?_)
    intro w hI
    refine seq_nil (wp_condF rfl (wp_skip (wp_seq (wp_seq (rgn rfl (pu (iv 0) rfl (seq_nil (wp_block ?_))))))))
    refine wp_loop (fun m ρ w=>∃ (D:Int) (mm:Nat),Agree ρ [(1,iv o),(2,.slice z l.length A),(3,.pointer (some ⟨E,0,none⟩)),(10,iv D)]∧Inv [] w0 w [(some E,blk [iv f,iv i,.slice p a.length q,.slice s d.length t,.slice u e.length x,iv j] 28)]∧F35l2 f i a d e j o l N mm D=some r∧mm=m) (m:=N) ⟨0,N,⟨rfl,rfl,rfl,rfl,trivial⟩,hI.pickL [0] (by decide) rfl,hF,rfl⟩ ?_
    rintro m ρ w ⟨D,mm,hag,hI,hF,hm⟩
    subst hm; obtain ⟨ρ,rfl⟩:=hag.form; clear hag
    obtain _ | m2:=mm
    ·cases (show (none:Option Int)=some r from hF)
    replace hF:F35b2 f i a d e j o l N (F35l2 f i a d e j o l N m2) D=some r:=hF; unfold F35b2 at hF
    refine wp_seq (wp_seq (rgn rfl (pu (iv D) rfl (pu (.slice z l.length A) rfl (pu (iv ((l.length:Nat):Int)) (by kernel_rfl) (ifE hF (fun a8 hF=>?_) (fun a8 hF=>?_)))))))
    ·
     refine seq_c (s_lss rfl rfl (fun _=>?_) (fun h=>absurd a8 h))
     refine seq_nil (wp_condT rfl (wp_skip (wp_seq (wp_block ?_))))
     refine wp_seq (bindE hF (fun B aL hF=>?_))
     refine bindE hF (fun b6 aM hF=>?_)
     refine ifE hF (fun a9 hF=>?_) (fun a9 hF=>?_)
     ·
      refine wp_toks [tr (fun _=>(.agg #[iv f,iv i,.slice p a.length q,.slice s d.length t,.slice u e.length x,iv j])) [8],tv (fun _=>(iv o)),tv (fun _=>(.slice z l.length A)),tv (fun _=>(iv D)),⟨fun y=>(slv ((y 4).g 0) B.length ((y 4).c 0)),fun y=>[(((y 4).g 0),blk ((y 4).cl 0) 3)],fun y=>(Row 1 ((y 4).g 0) B.length ((y 4).c 0) ((y 4).cl 0) (flat eInt B)),[],[]⟩,tv (fun y=>(.agg #[.bool false,slv ((y 4).g 0) B.length ((y 4).c 0)])),tr (fun _=>(.bool true)) [4],tv (fun _=>(.bool false))] (fun _=>[(1,iv o),(2,.slice z l.length A),(3,.pointer (some ⟨E,0,none⟩)),(10,iv D),(67,.bool false)]) (fun y=>[(((y 4).g 0),blk ((y 4).cl 0) 3),(some E,blk [iv f,iv i,.slice p a.length q,.slice s d.length t,.slice u e.length x,iv j] 28)]) hI (by kernel_rfl) (fun y=>⟨rfl,rfl⟩) (fun y=>?_) ?_
      ·
       refine tl1 [(some E,blk [iv f,iv i,.slice p a.length q,.slice s d.length t,.slice u e.length x,iv j] 28)] rfl rfl (fun X w hI=>s_loadK hI 0 6 [iv f,iv i,.slice p a.length q,.slice s d.length t,.slice u e.length x,iv j] Tryz.isAgg28 Tryz.sizeOf28 rfl rfl rfl rfl br) (tp rfl (fun _=>rfl) (tp rfl (fun _=>rfl) (tp rfl (fun _=>rfl) (tg (slv ((y 4).g 0) B.length ((y 4).c 0)) [] [] rfl ⟨rfl,rfl,rfl⟩ ?_ ?_))))
       ·intro hp X w hI
        refine s_call 95 [.slice z l.length A,iv D] (by kernel_rfl) (L95 _ z A l D (T.inv0 hI) Z a0 _ aL) ?_
        rintro v w ⟨aN,aO,aP,rfl,hN,W⟩
        have hI:=hI.join hN; clear hN
        exact ⟨wit 0 [aN] [aO] [aP] [],rfl,Eq.mp rfl W,hI.castL rfl⟩
       refine tpv (.agg #[.bool false,slv ((y 4).g 0) B.length ((y 4).c 0)]) rfl ⟨rfl,fun _=>(by kernel_rfl)⟩ (tl (.bool true) [(((y 4).g 0),blk ((y 4).cl 0) 3)] rfl ⟨rfl,rfl⟩ ?_ ?_)
       ·intro hp X w hI
        have W:Row 1 ((y 4).g 0) B.length ((y 4).c 0) ((y 4).cl 0) (flat eInt B):=pg hp (k:=4) ⟨rfl,rfl⟩
        exact s_call 89 [.agg #[iv f,iv i,.slice p a.length q,.slice s d.length t,.slice u e.length x,iv j],iv o,.agg #[.bool false,slv ((y 4).g 0) B.length ((y 4).c 0)]] (by kernel_rfl) (Does.mono (L89 _ f i p q a s t d u x e j o false (((y 4).g 0).map fun b=>⟨b,0,none⟩) ((y 4).c 0) B (J.inv0 hI) K L (M.inv0 hI) O P (Q.inv0 hI) R S (hI.rowCells 0 rfl W) (len_le rfl W.big) (len_le rfl W.cap) N _ aM) (fun v' w' h=>⟨h.1.trans (congrArg Value.bool a9),h.2⟩)) (fun v' w' h=>h)
       refine tp rfl (fun _=>rfl) ?_
       exact tn
      intro y hp ρ w hag hI
      have W:Row 1 ((y 4).g 0) B.length ((y 4).c 0) ((y 4).cl 0) (flat eInt B):=pgl hp (k:=4) (by decide) rfl
      clear hp
      generalize (y 4).g 0=aN at *
      generalize (y 4).c 0=aO at *
      generalize (y 4).cl 0=aP at *
      obtain ⟨ρ,rfl⟩:=hag.form; clear hag
      refine wp_condF rfl (wp_skip (rgn rfl (pu (iv D) rfl (ckE hF (fun b3 hF=>?_)))))
      refine seq_c (s_add rfl rfl b3 ?_)
      refine pu (iv (D+1)) rfl (seq_nil ?_)
      exact ⟨rfl,m2,Nat.lt_succ_self _,⟨D+1,m2,⟨rfl,rfl,rfl,rfl,trivial⟩,hI.pickL [1] (by decide) rfl,hF,rfl⟩⟩
     ·
      refine wp_toks [tr (fun _=>(.agg #[iv f,iv i,.slice p a.length q,.slice s d.length t,.slice u e.length x,iv j])) [8],tv (fun _=>(iv o)),tv (fun _=>(.slice z l.length A)),tv (fun _=>(iv D)),⟨fun y=>(slv ((y 4).g 0) B.length ((y 4).c 0)),fun y=>[(((y 4).g 0),blk ((y 4).cl 0) 3)],fun y=>(Row 1 ((y 4).g 0) B.length ((y 4).c 0) ((y 4).cl 0) (flat eInt B)),[],[]⟩,tv (fun y=>(.agg #[.bool false,slv ((y 4).g 0) B.length ((y 4).c 0)])),tr (fun _=>(.bool false)) [4],tv (fun _=>(.bool true))] (fun _=>[(1,iv o),(2,.slice z l.length A),(3,.pointer (some ⟨E,0,none⟩)),(10,iv D),(67,.bool true)]) (fun y=>[(((y 4).g 0),blk ((y 4).cl 0) 3),(some E,blk [iv f,iv i,.slice p a.length q,.slice s d.length t,.slice u e.length x,iv j] 28)]) hI (by kernel_rfl) (fun y=>⟨rfl,rfl⟩) (fun y=>?_) ?_
      ·
       refine tl1 [(some E,blk [iv f,iv i,.slice p a.length q,.slice s d.length t,.slice u e.length x,iv j] 28)] rfl rfl (fun X w hI=>s_loadK hI 0 6 [iv f,iv i,.slice p a.length q,.slice s d.length t,.slice u e.length x,iv j] Tryz.isAgg28 Tryz.sizeOf28 rfl rfl rfl rfl br) (tp rfl (fun _=>rfl) (tp rfl (fun _=>rfl) (tp rfl (fun _=>rfl) (tg (slv ((y 4).g 0) B.length ((y 4).c 0)) [] [] rfl ⟨rfl,rfl,rfl⟩ ?_ ?_))))
       ·intro hp X w hI
        refine s_call 95 [.slice z l.length A,iv D] (by kernel_rfl) (L95 _ z A l D (T.inv0 hI) Z a0 _ aL) ?_
        rintro v w ⟨aQ,aR,aS,rfl,hN,Y⟩
        have hI:=hI.join hN; clear hN
        exact ⟨wit 0 [aQ] [aR] [aS] [],rfl,Eq.mp rfl Y,hI.castL rfl⟩
       refine tpv (.agg #[.bool false,slv ((y 4).g 0) B.length ((y 4).c 0)]) rfl ⟨rfl,fun _=>(by kernel_rfl)⟩ (tl (.bool false) [(((y 4).g 0),blk ((y 4).cl 0) 3)] rfl ⟨rfl,rfl⟩ ?_ ?_)
       ·intro hp X w hI
        have Y:Row 1 ((y 4).g 0) B.length ((y 4).c 0) ((y 4).cl 0) (flat eInt B):=pg hp (k:=4) ⟨rfl,rfl⟩
        exact s_call 89 [.agg #[iv f,iv i,.slice p a.length q,.slice s d.length t,.slice u e.length x,iv j],iv o,.agg #[.bool false,slv ((y 4).g 0) B.length ((y 4).c 0)]] (by kernel_rfl) (Does.mono (L89 _ f i p q a s t d u x e j o false (((y 4).g 0).map fun b=>⟨b,0,none⟩) ((y 4).c 0) B (J.inv0 hI) K L (M.inv0 hI) O P (Q.inv0 hI) R S (hI.rowCells 0 rfl Y) (len_le rfl Y.big) (len_le rfl Y.cap) N _ aM) (fun v' w' h=>⟨h.1.trans (congrArg Value.bool (Bool.eq_false_iff.2 a9)),h.2⟩)) (fun v' w' h=>h)
       refine tp rfl (fun _=>rfl) ?_
       exact tn
      intro y hp ρ w hag hI
      have Y:Row 1 ((y 4).g 0) B.length ((y 4).c 0) ((y 4).cl 0) (flat eInt B):=pgl hp (k:=4) (by decide) rfl
      clear hp
      generalize (y 4).g 0=aQ at *
      generalize (y 4).c 0=aR at *
      generalize (y 4).cl 0=aS at *
      obtain ⟨ρ,rfl⟩:=hag.form; clear hag
      refine wp_condT rfl (wp_seq (rgn rfl (pu (iv 15) rfl (seq_nil (wp_ret ?_)))))
      replace hF:=Option.some.inj hF; subst hF
      exact ⟨iv 15,Ret.r1 rfl rfl,⟨rfl,hI.below⟩⟩
    ·
     refine seq_c (s_lss rfl rfl (fun h=>absurd h a8) (fun _=>?_))
     refine seq_nil (wp_condF rfl (wp_exit ?_))
     refine wp_seq (rgn rfl (pu (iv 0) rfl (seq_nil (wp_ret ?_))))
     replace hF:=Option.some.inj hF; subst hF
     exact ⟨iv 0,Ret.r1 rfl rfl,⟨rfl,hI.below⟩⟩
 ·
  refine seq_c (s_neq rfl rfl (fun _=>?_) (fun h=>absurd h a1))
  refine seq_nil (wp_condT rfl (wp_seq (rgn rfl (pu (iv U) rfl (pu (iv U) rfl (seq_nil (wp_ret ?_)))))))
  replace hF:=Option.some.inj hF; subst hF
  exact ⟨iv U,Ret.r1 rfl rfl,⟨rfl,hI.below⟩⟩


end Go.K
