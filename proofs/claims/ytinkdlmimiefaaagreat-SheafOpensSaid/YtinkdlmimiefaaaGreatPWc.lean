import Derived.Test.YtinkdlmimiefaaaGreatPWb
namespace Go.K
open Go.Proofs.Tryz
open Go.Proofs Go.RowKit
set_option linter.unusedVariables false
set_option linter.unusedSimpArgs false
set_option maxRecDepth 100000
attribute [local irreducible] Seq cw cx fl opX
theorem L65 (w0:World) (f:Int) (i:Int) (C:Option Addr) (D:Nat) (o:List Ld) (E:Option Addr) (F:Nat) (p:List Ld) (G:Option Addr) (H:Nat) (q:List Sp) (l:Int) (B:Int) (bD:bi w0 C (al eLd o)) (c5:o.length≤9223372036854775807) (c6:o.length≤D) (bE:bi w0 E (al eLd p)) (c7:p.length≤9223372036854775807) (c8:p.length≤F) (bF:bi w0 G (al eSp q)) (c9:q.length≤9223372036854775807) (cA:q.length≤H) (N:Nat) (r:(Int × Int × List Ld × List Ld × List Sp × Int × Bool)) (hF:F65 N f i o p q l B=some r):bn Tryz.prog 65 [.agg (ql6 f i C o D E p F G q H l).toArray,.int .i64 B] w0 fun v w=>∃ (z0:Option Nat) (z1:Nat) (z2:List Value) (z3:Option Nat) (z4:Nat) (z5:List Value) (z6:Option Nat) (z7:Nat) (z8:List Value),v=.tuple #[.agg #[.int .i64 r.1,.int .i64 r.2.1,slv z0 r.2.2.1.length z1,slv z3 r.2.2.2.1.length z4,slv z6 r.2.2.2.2.1.length z7,.int .i64 r.2.2.2.2.2.1],.bool r.2.2.2.2.2.2]∧Inv [] w0 w [(z0,blk z2 30),(z3,blk z5 31),(z6,blk z8 33)]∧Row 6 z0 r.2.2.1.length z1 z2 (al eLd r.2.2.1)∧Row 6 z3 r.2.2.2.1.length z4 z5 (al eLd r.2.2.2.1)∧Row 6 z6 r.2.2.2.2.1.length z7 z8 (al eSp r.2.2.2.2.1):=by
 refine az (n:=95) func65 rfl ntmps65 rfl ?_
 have hI:=Inv.start w0
 unfold F65 at hF
 refine ab (rgn (by kernel_rfl) (ac (ca hI (ql6 f i C o D E p F G q H l) rfl fun t w hI=>ac (bh hI (qn6 0 0 none 0 0 none 0 0 none 0 0 0) zeroValue28 rfl fun I w hI=>pu kf (by kernel_rfl) (aa (ab (rgn (by kernel_rfl) (pu (.pointer (some ⟨t,0,none⟩)) (by kernel_rfl) (ac (ar hI 1 2 [iv f,iv i] isAgg23 sizeOf23 rfl rfl rfl rfl ?_))))))))))
 refine pu (.pointer (some ⟨t,5,none⟩)) (by kernel_rfl) (ac (ag hI 1 (iv l) isAgg3 rfl rfl rfl ?_))
 refine pu (.agg (qn6 f i none 0 0 none 0 0 none 0 0 l).toArray) (by kernel_rfl) (ac (bh hI (qn6 0 0 none 0 0 none 0 0 none 0 0 0) zeroValue28 rfl fun s w hI=>ac (aq hI 0 6 (qn6 f i none 0 0 none 0 0 none 0 0 l) sizeOf28 rfl rfl rfl rfl rfl (kh rfl) fun w hI=>aa (dn (fun ρ w=>∃ (A:Option Nat) (J:Nat) (W:List Value) (x:List Ld),cd ρ [(1,iv B),(2,.pointer (some ⟨t,0,none⟩)),(4,.pointer (some ⟨I,0,none⟩)),(6,.pointer (some ⟨s,0,none⟩))]∧Inv [] w0 w [(some t,blk (ql6 f i C o D E p F G q H l) 28),(some I,blk (qn6 0 0 none 0 0 none 0 0 none 0 0 0) 28),(some s,blk [iv f,iv i,slv A x.length J,.slice none 0 0,.slice none 0 0,iv l] 28),(A,blk W 30)]∧(Row 6 A (x.length) J W (al eLd x))∧F65j1 f i o p q l B N x=some r) ?_ ?_))))
 ·
  refine ab (rgn (by kernel_rfl) (pu (iv 0) (by kernel_rfl) (aa (au ?_))))
  have hI:=hI.nilRow 30
  refine cb (fun m ρ w=>∃ (Z:Option Nat) (a3:Nat) (a7:List Value) (M:List Ld) (R:Int) (mm:Nat),cd ρ [(1,iv B),(2,.pointer (some ⟨t,0,none⟩)),(4,.pointer (some ⟨I,0,none⟩)),(6,.pointer (some ⟨s,0,none⟩)),(7,iv R)]∧Inv [] w0 w [(some t,blk (ql6 f i C o D E p F G q H l) 28),(some I,blk (qn6 0 0 none 0 0 none 0 0 none 0 0 0) 28),(some s,blk [iv f,iv i,slv Z M.length a3,.slice none 0 0,.slice none 0 0,iv l] 28),(Z,blk a7 30)]∧(Row 6 Z (M.length) a3 a7 (al eLd M))∧F65l8 f i o p q l B N mm M R=some r∧mm=m) (m:=N) ⟨none,0,[],[],0,N,⟨rfl,rfl,rfl,rfl,rfl,trivial⟩,hI.pk [3,2,1,0] rfl rfl,(Row.nil_ 6),hF,rfl⟩ ?_
  rintro m ρ w ⟨Z,a3,a7,M,R,mm,hag,hI,b1,hF,hm⟩
  subst hm; obtain ⟨ρ,rfl⟩:=hag.form; clear hag
  obtain _ | m8:=mm
  ·cases (show (none:Option (Int × Int × List Ld × List Ld × List Sp × Int × Bool))=some r from hF)
  replace hF:F65b8 f i o p q l B N (F65l8 f i o p q l B N m8) M R=some r:=hF; unfold F65b8 at hF
  refine ab (ab (rgn (by kernel_rfl) (pu (iv R) (by kernel_rfl) (pu (.pointer (some ⟨t,2,none⟩)) (by kernel_rfl) (ac (ag hI 0 (.slice C o.length D) isAgg24 rfl rfl rfl ?_))))))
  refine pu (iv ((o.length:Nat):Int)) (by kernel_rfl) (ifE hF (fun b2 hF=>?_) (fun b2 hF=>?_))
  ·
   refine ac (cm rfl rfl (fun _=>?_) (fun h=>absurd b2 h))
   refine aa (ah rfl (ak (dn (fun ρ w=>∃ (aE:Option Nat) (aM:Nat) (aN:List Value) (a8:List Ld),cd ρ [(1,iv B),(2,.pointer (some ⟨t,0,none⟩)),(4,.pointer (some ⟨I,0,none⟩)),(6,.pointer (some ⟨s,0,none⟩)),(7,iv R)]∧Inv [] w0 w [(some t,blk (ql6 f i C o D E p F G q H l) 28),(some I,blk (qn6 0 0 none 0 0 none 0 0 none 0 0 0) 28),(some s,blk [iv f,iv i,slv aE a8.length aM,.slice none 0 0,.slice none 0 0,iv l] 28),(aE,blk aN 30)]∧(Row 6 aE (a8.length) aM aN (al eLd a8))∧F65j9 (F65l8 f i o p q l B N m8) R a8=some r) ?_ ?_)))
   ·
    refine au ?_
    refine ab (rgn (by kernel_rfl) (pu (.pointer (some ⟨t,2,none⟩)) (by kernel_rfl) (ac (ag hI 0 (.slice C o.length D) isAgg24 rfl rfl rfl ?_))))
    refine pu (iv R) (by kernel_rfl) (gdE hF (fun bG hF=>?_))
    refine bt hF (fun a b3 hF=>?_)
    obtain ⟨bH,bI,bJ,bK,bL⟩:=bD.at_ bf (by decide) b3
    refine ac (cn (R).toNat underlying24 sizeOf30 rfl bJ rfl (Int.toNat_of_nonneg bG).symm (fa b3 rfl) ?_)
    refine pu (.pointer (some ⟨bH,bI+(R).toNat * 6,none⟩)) (by kernel_rfl) (ac (dj hI (iv a.src) isAgg3 rfl bK (by simp) (bL 0 _ rfl) ?_))
    refine pu (iv B) (by kernel_rfl) (ifE hF (fun b4 hF=>?_) (fun b4 hF=>?_))
    ·
     refine ac (de rfl rfl (fun h=>absurd b4 h) (fun _=>?_))
     refine aa (ai rfl (ak ?_))
     exact .inl ⟨rfl,⟨Z,a3,a7,M,⟨rfl,rfl,rfl,rfl,rfl,trivial⟩,hI.pk [0,1,2,3] rfl rfl,(b1.to rfl rfl),hF⟩⟩
    refine ac (de rfl rfl (fun _=>?_) (fun h=>absurd h b4))
    refine aa (ah rfl (gdE hF (fun cM hF=>?_)))
    refine kx [tv (fun _=>(.pointer (some ⟨s,2,none⟩))),tr (fun _=>(slv Z M.length a3)) [13],tv (fun _=>(.pointer (some ⟨t,2,none⟩))),tr (fun _=>(.slice C o.length D)) [11],tv (fun _=>(iv R)),tr (fun _=>(.pointer (some ⟨bH,bI+(R).toNat * 6,none⟩))) [],tr (fun _=>(.agg (eLd a).toArray)) [],⟨fun y=>(.slice (some ⟨(y 7).b,0,none⟩) 1 1),fun y=>[(some (y 7).b,blk (eLd a) 30)],fun _=>True,[],[]⟩,⟨fun y=>(slv ((y 8).g 0) ((M++[(⟨a.src,a.hr,a.lo,a.hi,a.kn,a.un⟩:Ld)]).length) ((y 8).c 0)),fun y=>[(((y 8).g 0),blk ((y 8).cl 0) 30)],fun y=>(Row 6 ((y 8).g 0) ((M++[(⟨a.src,a.hr,a.lo,a.hi,a.kn,a.un⟩:Ld)]).length) ((y 8).c 0) ((y 8).cl 0) (al eLd (M++[(⟨a.src,a.hr,a.lo,a.hi,a.kn,a.un⟩:Ld)]))),[14],[7]⟩,tv (fun _=>(.pointer (some ⟨s,2,none⟩))),tst (fun y=>[(some s,blk [iv f,iv i,slv ((y 8).g 0) ((M++[(⟨a.src,a.hr,a.lo,a.hi,a.kn,a.un⟩:Ld)]).length) ((y 8).c 0),.slice none 0 0,.slice none 0 0,iv l] 28)]) 13] (fun _=>[(1,iv B),(2,.pointer (some ⟨t,0,none⟩)),(4,.pointer (some ⟨I,0,none⟩)),(6,.pointer (some ⟨s,0,none⟩)),(7,iv R)]) (fun y=>[(some (y 7).b,blk (eLd a) 30),(((y 8).g 0),blk ((y 8).cl 0) 30),(some s,blk [iv f,iv i,slv ((y 8).g 0) ((M++[(⟨a.src,a.hr,a.lo,a.hi,a.kn,a.un⟩:Ld)]).length) ((y 8).c 0),.slice none 0 0,.slice none 0 0,iv l] 28),(some t,blk (ql6 f i C o D E p F G q H l) 28),(some I,blk (qn6 0 0 none 0 0 none 0 0 none 0 0 0) 28)]) hI (by kernel_rfl) (fun y=>⟨(by kernel_rfl),(by kernel_rfl)⟩) (fun y=>?_) ?_
    ·
     refine tp rfl (fun _=>(by kernel_rfl)) (tl1 [(some s,blk [iv f,iv i,slv Z M.length a3,.slice none 0 0,.slice none 0 0,iv l] 28)] rfl (by kernel_rfl) (fun X w hI=>ag hI 0 (slv Z M.length a3) isAgg24 rfl rfl rfl br) (tp rfl (fun _=>(by kernel_rfl)) (tl1 [(some t,blk (ql6 f i C o D E p F G q H l) 28)] rfl (by kernel_rfl) (fun X w hI=>ag hI 0 (.slice C o.length D) isAgg24 rfl rfl rfl br) (tp rfl (fun _=>(by kernel_rfl)) (tl0 rfl (fun X w hI=>cn (R).toNat underlying24 sizeOf30 rfl bJ rfl (Int.toNat_of_nonneg bG).symm (fa b3 rfl) br) (tl0 rfl (fun X w hI=>ef hI (eLd a) isAgg30 sizeOf30 rfl rfl bK (by simp) bL br) (tg (.slice (some ⟨(y 7).b,0,none⟩) 1 1) [] [] rfl ⟨(by kernel_rfl),(by kernel_rfl),(by kernel_rfl)⟩ ?_ ?_)))))))
     ·intro hp X w hI
      refine fu hI (eLd a) 30 (fun b=>slv (some b) 1 1) (by kernel_rfl) fun bM w hI=>⟨wit bM [] [] [] [],(by kernel_rfl),trivial,hI.castL (by kernel_rfl)⟩
     refine tg (slv ((y 8).g 0) ((M++[(⟨a.src,a.hr,a.lo,a.hi,a.kn,a.un⟩:Ld)]).length) ((y 8).c 0)) [(Z,blk a7 30),(some (y 7).b,blk (eLd a) 30)] [(some (y 7).b,blk (eLd a) 30)] rfl ⟨(by kernel_rfl),(by kernel_rfl),(by kernel_rfl)⟩ ?_ ?_
     ·intro hp X w hI
      refine ks hI underlying24 (z:=.agg #[iv 0,iv 0,iv 0,iv 0,iv 0,iv 0]) (k:=6) (bytes:=48) (by kernel_rfl) rfl rfl 0 rfl rfl b1 (eLd a) rfl rfl (hI.cells 1 (off:=0) rfl (fun j u h=>by rw [Nat.zero_add]; exact h)) (by simp [Value.oneCell',eLd,eSp]) (by omega) (by omega) (n2:=(M++[(⟨a.src,a.hr,a.lo,a.hi,a.kn,a.un⟩:Ld)]).length) (kr rfl rfl) ?_
      intro aO aP aQ w hI aF
      have aF:Row 6 aO ((M++[(⟨a.src,a.hr,a.lo,a.hi,a.kn,a.un⟩:Ld)]).length) aP aQ (al eLd (M++[(⟨a.src,a.hr,a.lo,a.hi,a.kn,a.un⟩:Ld)])):=aF.snoc _ rfl
      exact ⟨wit 0 [aO] [aP] [aQ] [],(by kernel_rfl),Eq.mp (by kernel_rfl) aF,hI.castL (by kernel_rfl)⟩
     refine tp rfl (fun _=>(by kernel_rfl)) (tS [(some s,blk [iv f,iv i,slv Z M.length a3,.slice none 0 0,.slice none 0 0,iv l] 28)] rfl ⟨(by kernel_rfl),(by kernel_rfl)⟩ (fun X w hI=>aq hI 0 1 [slv ((y 8).g 0) ((M++[(⟨a.src,a.hr,a.lo,a.hi,a.kn,a.un⟩:Ld)]).length) ((y 8).c 0)] sizeOf24 rfl rfl rfl rfl rfl (kh rfl) fun w hI=>⟨rfl,hI.castL (by kernel_rfl)⟩) ?_)
     exact tn
    intro y hp ρ w hag hI
    have aF:Row 6 ((y 8).g 0) ((M++[(⟨a.src,a.hr,a.lo,a.hi,a.kn,a.un⟩:Ld)]).length) ((y 8).c 0) ((y 8).cl 0) (al eLd (M++[(⟨a.src,a.hr,a.lo,a.hi,a.kn,a.un⟩:Ld)])):=pgl hp (k:=8) (by decide) (by kernel_rfl)
    clear hp
    generalize (y 7).b=bM at *
    generalize (y 8).g 0=aO at *
    generalize (y 8).c 0=aP at *
    generalize (y 8).cl 0=aQ at *
    obtain ⟨ρ,rfl⟩:=hag.form; clear hag
    exact .inl ⟨rfl,⟨aO,aP,aQ,M++[(⟨a.src,a.hr,a.lo,a.hi,a.kn,a.un⟩:Ld)],⟨rfl,rfl,rfl,rfl,rfl,trivial⟩,hI.pk [3,4,2,1] rfl rfl,(aF.to rfl rfl),hF⟩⟩
   intro ρ w hJ
   obtain ⟨aE,aM,aN,a8,hag,hI,cB,hF⟩:=hJ
   obtain ⟨ρ,rfl⟩:=hag.form; clear hag
   unfold F65j9 at hF
   refine rgn (by kernel_rfl) (pu (iv R) (by kernel_rfl) (ckE hF (fun cC hF=>?_)))
   refine ac (cj rfl rfl cC ?_)
   refine pu (iv (R+1)) (by kernel_rfl) (aa ?_)
   exact ⟨rfl,m8,Nat.lt_succ_self _,⟨aE,aM,aN,a8,R+1,m8,⟨rfl,rfl,rfl,rfl,rfl,trivial⟩,hI.pk [0,1,2,3] rfl rfl,(cB.to rfl rfl),hF,rfl⟩⟩
  refine ac (cm rfl rfl (fun h=>absurd h b2) (fun _=>?_))
  refine aa (ai rfl (bw ?_))
  exact .inl ⟨rfl,⟨Z,a3,a7,M,⟨rfl,rfl,rfl,rfl,trivial⟩,hI.pk [0,1,2,3] rfl rfl,(b1.to rfl rfl),hF⟩⟩
 intro ρ w hJ
 obtain ⟨A,J,W,x,hag,hI,cD,hF⟩:=hJ
 obtain ⟨ρ,rfl⟩:=hag.form; clear hag
 unfold F65j1 at hF
 refine dn (fun ρ w=>∃ (K:Option Nat) (Q:Nat) (a4:List Value) (L:List Ld),cd ρ [(1,iv B),(2,.pointer (some ⟨t,0,none⟩)),(4,.pointer (some ⟨I,0,none⟩)),(6,.pointer (some ⟨s,0,none⟩))]∧Inv [] w0 w [(some t,blk (ql6 f i C o D E p F G q H l) 28),(some I,blk (qn6 0 0 none 0 0 none 0 0 none 0 0 0) 28),(some s,blk [iv f,iv i,slv A x.length J,slv K L.length Q,.slice none 0 0,iv l] 28),(A,blk W 30),(K,blk a4 31)]∧(Row 6 K (L.length) Q a4 (al eLd L))∧F65j2 f i o p q l B N x L=some r) ?_ ?_
 ·
  refine ab (rgn (by kernel_rfl) (pu (iv 0) (by kernel_rfl) (aa (au ?_))))
  have hI:=hI.nilRow 31
  refine cb (fun m ρ w=>∃ (a0:Option Nat) (a5:Nat) (a9:List Value) (O:List Ld) (S:Int) (mm:Nat),cd ρ [(1,iv B),(2,.pointer (some ⟨t,0,none⟩)),(4,.pointer (some ⟨I,0,none⟩)),(6,.pointer (some ⟨s,0,none⟩)),(8,iv S)]∧Inv [] w0 w [(some t,blk (ql6 f i C o D E p F G q H l) 28),(some I,blk (qn6 0 0 none 0 0 none 0 0 none 0 0 0) 28),(some s,blk [iv f,iv i,slv A x.length J,slv a0 O.length a5,.slice none 0 0,iv l] 28),(A,blk W 30),(a0,blk a9 31)]∧(Row 6 a0 (O.length) a5 a9 (al eLd O))∧F65l6 f i o p q l B N x mm O S=some r∧mm=m) (m:=N) ⟨none,0,[],[],0,N,⟨rfl,rfl,rfl,rfl,rfl,trivial⟩,hI.pk [1,2,3,4,0] rfl rfl,(Row.nil_ 6),hF,rfl⟩ ?_
  rintro m ρ w ⟨a0,a5,a9,O,S,mm,hag,hI,b5,hF,hm⟩
  subst hm; obtain ⟨ρ,rfl⟩:=hag.form; clear hag
  obtain _ | m6:=mm
  ·cases (show (none:Option (Int × Int × List Ld × List Ld × List Sp × Int × Bool))=some r from hF)
  replace hF:F65b6 f i o p q l B N x (F65l6 f i o p q l B N x m6) O S=some r:=hF; unfold F65b6 at hF
  refine ab (ab (rgn (by kernel_rfl) (pu (iv S) (by kernel_rfl) (pu (.pointer (some ⟨t,3,none⟩)) (by kernel_rfl) (ac (ag hI 0 (.slice E p.length F) isAgg25 rfl rfl rfl ?_))))))
  refine pu (iv ((p.length:Nat):Int)) (by kernel_rfl) (ifE hF (fun b6 hF=>?_) (fun b6 hF=>?_))
  ·
   refine ac (cm rfl rfl (fun _=>?_) (fun h=>absurd b6 h))
   refine aa (ah rfl (ak (dn (fun ρ w=>∃ (aG:Option Nat) (aR:Nat) (aS:List Value) (aA:List Ld),cd ρ [(1,iv B),(2,.pointer (some ⟨t,0,none⟩)),(4,.pointer (some ⟨I,0,none⟩)),(6,.pointer (some ⟨s,0,none⟩)),(8,iv S)]∧Inv [] w0 w [(some t,blk (ql6 f i C o D E p F G q H l) 28),(some I,blk (qn6 0 0 none 0 0 none 0 0 none 0 0 0) 28),(some s,blk [iv f,iv i,slv A x.length J,slv aG aA.length aR,.slice none 0 0,iv l] 28),(A,blk W 30),(aG,blk aS 31)]∧(Row 6 aG (aA.length) aR aS (al eLd aA))∧F65j7 (F65l6 f i o p q l B N x m6) S aA=some r) ?_ ?_)))
   ·
    refine au ?_
    refine ab (rgn (by kernel_rfl) (pu (.pointer (some ⟨t,3,none⟩)) (by kernel_rfl) (ac (ag hI 0 (.slice E p.length F) isAgg25 rfl rfl rfl ?_))))
    refine pu (iv S) (by kernel_rfl) (gdE hF (fun bN hF=>?_))
    refine bt hF (fun d b7 hF=>?_)
    obtain ⟨bO,bP,bQ,bR,bS⟩:=bE.at_ bf (by decide) b7
    refine ac (cn (S).toNat underlying25 sizeOf31 rfl bQ rfl (Int.toNat_of_nonneg bN).symm (fa b7 rfl) ?_)
    refine pu (.pointer (some ⟨bO,bP+(S).toNat * 6,none⟩)) (by kernel_rfl) (ac (dj hI (iv d.src) isAgg3 rfl bR (by simp) (bS 0 _ rfl) ?_))
    refine pu (iv B) (by kernel_rfl) (ifE hF (fun b8 hF=>?_) (fun b8 hF=>?_))
    ·
     refine ac (de rfl rfl (fun h=>absurd b8 h) (fun _=>?_))
     refine aa (ai rfl (ak ?_))
     exact .inl ⟨rfl,⟨a0,a5,a9,O,⟨rfl,rfl,rfl,rfl,rfl,trivial⟩,hI.pk [0,1,2,3,4] rfl rfl,(b5.to rfl rfl),hF⟩⟩
    refine ac (de rfl rfl (fun _=>?_) (fun h=>absurd h b8))
    refine aa (ah rfl (gdE hF (fun cN hF=>?_)))
    refine kx [tv (fun _=>(.pointer (some ⟨s,3,none⟩))),tr (fun _=>(slv a0 O.length a5)) [13],tv (fun _=>(.pointer (some ⟨t,3,none⟩))),tr (fun _=>(.slice E p.length F)) [11],tv (fun _=>(iv S)),tr (fun _=>(.pointer (some ⟨bO,bP+(S).toNat * 6,none⟩))) [],tr (fun _=>(.agg (eLd d).toArray)) [],⟨fun y=>(.slice (some ⟨(y 7).b,0,none⟩) 1 1),fun y=>[(some (y 7).b,blk (eLd d) 31)],fun _=>True,[],[]⟩,⟨fun y=>(slv ((y 8).g 0) ((O++[(⟨d.src,d.hr,d.lo,d.hi,d.kn,d.un⟩:Ld)]).length) ((y 8).c 0)),fun y=>[(((y 8).g 0),blk ((y 8).cl 0) 31)],fun y=>(Row 6 ((y 8).g 0) ((O++[(⟨d.src,d.hr,d.lo,d.hi,d.kn,d.un⟩:Ld)]).length) ((y 8).c 0) ((y 8).cl 0) (al eLd (O++[(⟨d.src,d.hr,d.lo,d.hi,d.kn,d.un⟩:Ld)]))),[15],[7]⟩,tv (fun _=>(.pointer (some ⟨s,3,none⟩))),tst (fun y=>[(some s,blk [iv f,iv i,slv A x.length J,slv ((y 8).g 0) ((O++[(⟨d.src,d.hr,d.lo,d.hi,d.kn,d.un⟩:Ld)]).length) ((y 8).c 0),.slice none 0 0,iv l] 28)]) 13] (fun _=>[(1,iv B),(2,.pointer (some ⟨t,0,none⟩)),(4,.pointer (some ⟨I,0,none⟩)),(6,.pointer (some ⟨s,0,none⟩)),(8,iv S)]) (fun y=>[(some (y 7).b,blk (eLd d) 31),(((y 8).g 0),blk ((y 8).cl 0) 31),(some s,blk [iv f,iv i,slv A x.length J,slv ((y 8).g 0) ((O++[(⟨d.src,d.hr,d.lo,d.hi,d.kn,d.un⟩:Ld)]).length) ((y 8).c 0),.slice none 0 0,iv l] 28),(some t,blk (ql6 f i C o D E p F G q H l) 28),(some I,blk (qn6 0 0 none 0 0 none 0 0 none 0 0 0) 28),(A,blk W 30)]) hI (by kernel_rfl) (fun y=>⟨(by kernel_rfl),(by kernel_rfl)⟩) (fun y=>?_) ?_
    ·
     refine tp rfl (fun _=>(by kernel_rfl)) (tl1 [(some s,blk [iv f,iv i,slv A x.length J,slv a0 O.length a5,.slice none 0 0,iv l] 28)] rfl (by kernel_rfl) (fun X w hI=>ag hI 0 (slv a0 O.length a5) isAgg25 rfl rfl rfl br) (tp rfl (fun _=>(by kernel_rfl)) (tl1 [(some t,blk (ql6 f i C o D E p F G q H l) 28)] rfl (by kernel_rfl) (fun X w hI=>ag hI 0 (.slice E p.length F) isAgg25 rfl rfl rfl br) (tp rfl (fun _=>(by kernel_rfl)) (tl0 rfl (fun X w hI=>cn (S).toNat underlying25 sizeOf31 rfl bQ rfl (Int.toNat_of_nonneg bN).symm (fa b7 rfl) br) (tl0 rfl (fun X w hI=>ef hI (eLd d) isAgg31 sizeOf31 rfl rfl bR (by simp) bS br) (tg (.slice (some ⟨(y 7).b,0,none⟩) 1 1) [] [] rfl ⟨(by kernel_rfl),(by kernel_rfl),(by kernel_rfl)⟩ ?_ ?_)))))))
     ·intro hp X w hI
      refine fu hI (eLd d) 31 (fun b=>slv (some b) 1 1) (by kernel_rfl) fun bT w hI=>⟨wit bT [] [] [] [],(by kernel_rfl),trivial,hI.castL (by kernel_rfl)⟩
     refine tg (slv ((y 8).g 0) ((O++[(⟨d.src,d.hr,d.lo,d.hi,d.kn,d.un⟩:Ld)]).length) ((y 8).c 0)) [(a0,blk a9 31),(some (y 7).b,blk (eLd d) 31)] [(some (y 7).b,blk (eLd d) 31)] rfl ⟨(by kernel_rfl),(by kernel_rfl),(by kernel_rfl)⟩ ?_ ?_
     ·intro hp X w hI
      refine ks hI underlying25 (z:=.agg #[iv 0,iv 0,iv 0,iv 0,iv 0,iv 0]) (k:=6) (bytes:=48) (by kernel_rfl) rfl rfl 0 rfl rfl b5 (eLd d) rfl rfl (hI.cells 1 (off:=0) rfl (fun j u h=>by rw [Nat.zero_add]; exact h)) (by simp [Value.oneCell',eLd,eSp]) (by omega) (by omega) (n2:=(O++[(⟨d.src,d.hr,d.lo,d.hi,d.kn,d.un⟩:Ld)]).length) (kr rfl rfl) ?_
      intro aT aU aV w hI aH
      have aH:Row 6 aT ((O++[(⟨d.src,d.hr,d.lo,d.hi,d.kn,d.un⟩:Ld)]).length) aU aV (al eLd (O++[(⟨d.src,d.hr,d.lo,d.hi,d.kn,d.un⟩:Ld)])):=aH.snoc _ rfl
      exact ⟨wit 0 [aT] [aU] [aV] [],(by kernel_rfl),Eq.mp (by kernel_rfl) aH,hI.castL (by kernel_rfl)⟩
     refine tp rfl (fun _=>(by kernel_rfl)) (tS [(some s,blk [iv f,iv i,slv A x.length J,slv a0 O.length a5,.slice none 0 0,iv l] 28)] rfl ⟨(by kernel_rfl),(by kernel_rfl)⟩ (fun X w hI=>aq hI 0 1 [slv ((y 8).g 0) ((O++[(⟨d.src,d.hr,d.lo,d.hi,d.kn,d.un⟩:Ld)]).length) ((y 8).c 0)] sizeOf25 rfl rfl rfl rfl rfl (kh rfl) fun w hI=>⟨rfl,hI.castL (by kernel_rfl)⟩) ?_)
     exact tn
    intro y hp ρ w hag hI
    have aH:Row 6 ((y 8).g 0) ((O++[(⟨d.src,d.hr,d.lo,d.hi,d.kn,d.un⟩:Ld)]).length) ((y 8).c 0) ((y 8).cl 0) (al eLd (O++[(⟨d.src,d.hr,d.lo,d.hi,d.kn,d.un⟩:Ld)])):=pgl hp (k:=8) (by decide) (by kernel_rfl)
    clear hp
    generalize (y 7).b=bT at *
    generalize (y 8).g 0=aT at *
    generalize (y 8).c 0=aU at *
    generalize (y 8).cl 0=aV at *
    obtain ⟨ρ,rfl⟩:=hag.form; clear hag
    exact .inl ⟨rfl,⟨aT,aU,aV,O++[(⟨d.src,d.hr,d.lo,d.hi,d.kn,d.un⟩:Ld)],⟨rfl,rfl,rfl,rfl,rfl,trivial⟩,hI.pk [3,4,2,5,1] rfl rfl,(aH.to rfl rfl),hF⟩⟩
   intro ρ w hJ
   obtain ⟨aG,aR,aS,aA,hag,hI,cE,hF⟩:=hJ
   obtain ⟨ρ,rfl⟩:=hag.form; clear hag
   unfold F65j7 at hF
   refine rgn (by kernel_rfl) (pu (iv S) (by kernel_rfl) (ckE hF (fun cF hF=>?_)))
   refine ac (cj rfl rfl cF ?_)
   refine pu (iv (S+1)) (by kernel_rfl) (aa ?_)
   exact ⟨rfl,m6,Nat.lt_succ_self _,⟨aG,aR,aS,aA,S+1,m6,⟨rfl,rfl,rfl,rfl,rfl,trivial⟩,hI.pk [0,1,2,3,4] rfl rfl,(cE.to rfl rfl),hF,rfl⟩⟩
  refine ac (cm rfl rfl (fun h=>absurd h b6) (fun _=>?_))
  refine aa (ai rfl (bw ?_))
  exact .inl ⟨rfl,⟨a0,a5,a9,O,⟨rfl,rfl,rfl,rfl,trivial⟩,hI.pk [0,1,2,3,4] rfl rfl,(b5.to rfl rfl),hF⟩⟩
 intro ρ w hJ
 obtain ⟨K,Q,a4,L,hag,hI,cG,hF⟩:=hJ
 obtain ⟨ρ,rfl⟩:=hag.form; clear hag
 unfold F65j2 at hF
 refine dn (fun ρ w=>∃ (U:Option Nat) (Y:Nat) (aI:List Value) (V:List Sp),cd ρ [(1,iv B),(2,.pointer (some ⟨t,0,none⟩)),(4,.pointer (some ⟨I,0,none⟩)),(6,.pointer (some ⟨s,0,none⟩))]∧Inv [] w0 w [(some t,blk (ql6 f i C o D E p F G q H l) 28),(some I,blk (qn6 0 0 none 0 0 none 0 0 none 0 0 0) 28),(some s,blk [iv f,iv i,slv A x.length J,slv K L.length Q,slv U V.length Y,iv l] 28),(A,blk W 30),(K,blk a4 31),(U,blk aI 33)]∧(Row 6 U (V.length) Y aI (al eSp V))∧F65j3 f i o p q l B N x L V=some r) ?_ ?_
 ·
  refine ab (rgn (by kernel_rfl) (pu (iv 0) (by kernel_rfl) (aa (au ?_))))
  have hI:=hI.nilRow 33
  refine cb (fun m ρ w=>∃ (a1:Option Nat) (a6:Nat) (aB:List Value) (P:List Sp) (T:Int) (mm:Nat),cd ρ [(1,iv B),(2,.pointer (some ⟨t,0,none⟩)),(4,.pointer (some ⟨I,0,none⟩)),(6,.pointer (some ⟨s,0,none⟩)),(9,iv T)]∧Inv [] w0 w [(some t,blk (ql6 f i C o D E p F G q H l) 28),(some I,blk (qn6 0 0 none 0 0 none 0 0 none 0 0 0) 28),(some s,blk [iv f,iv i,slv A x.length J,slv K L.length Q,slv a1 P.length a6,iv l] 28),(A,blk W 30),(K,blk a4 31),(a1,blk aB 33)]∧(Row 6 a1 (P.length) a6 aB (al eSp P))∧F65l4 f i o p q l B N x L mm P T=some r∧mm=m) (m:=N) ⟨none,0,[],[],0,N,⟨rfl,rfl,rfl,rfl,rfl,trivial⟩,hI.pk [1,2,3,4,5,0] rfl rfl,(Row.nil_ 6),hF,rfl⟩ ?_
  rintro m ρ w ⟨a1,a6,aB,P,T,mm,hag,hI,b9,hF,hm⟩
  subst hm; obtain ⟨ρ,rfl⟩:=hag.form; clear hag
  obtain _ | m4:=mm
  ·cases (show (none:Option (Int × Int × List Ld × List Ld × List Sp × Int × Bool))=some r from hF)
  replace hF:F65b4 f i o p q l B N x L (F65l4 f i o p q l B N x L m4) P T=some r:=hF; unfold F65b4 at hF
  refine ab (ab (rgn (by kernel_rfl) (pu (iv T) (by kernel_rfl) (pu (.pointer (some ⟨t,4,none⟩)) (by kernel_rfl) (ac (ag hI 0 (.slice G q.length H) isAgg26 rfl rfl rfl ?_))))))
  refine pu (iv ((q.length:Nat):Int)) (by kernel_rfl) (ifE hF (fun bA hF=>?_) (fun bA hF=>?_))
  ·
   refine ac (cm rfl rfl (fun _=>?_) (fun h=>absurd bA h))
   refine aa (ah rfl (ak (dn (fun ρ w=>∃ (aJ:Option Nat) (aW:Nat) (aX:List Value) (aC:List Sp),cd ρ [(1,iv B),(2,.pointer (some ⟨t,0,none⟩)),(4,.pointer (some ⟨I,0,none⟩)),(6,.pointer (some ⟨s,0,none⟩)),(9,iv T)]∧Inv [] w0 w [(some t,blk (ql6 f i C o D E p F G q H l) 28),(some I,blk (qn6 0 0 none 0 0 none 0 0 none 0 0 0) 28),(some s,blk [iv f,iv i,slv A x.length J,slv K L.length Q,slv aJ aC.length aW,iv l] 28),(A,blk W 30),(K,blk a4 31),(aJ,blk aX 33)]∧(Row 6 aJ (aC.length) aW aX (al eSp aC))∧F65j5 (F65l4 f i o p q l B N x L m4) T aC=some r) ?_ ?_)))
   ·
    refine au ?_
    refine ab (rgn (by kernel_rfl) (pu (.pointer (some ⟨t,4,none⟩)) (by kernel_rfl) (ac (ag hI 0 (.slice G q.length H) isAgg26 rfl rfl rfl ?_))))
    refine pu (iv T) (by kernel_rfl) (gdE hF (fun bU hF=>?_))
    refine bt hF (fun e bB hF=>?_)
    obtain ⟨bV,bW,bX,bY,bZ⟩:=bF.at_ gb (by decide) bB
    refine ac (cn (T).toNat underlying26 sizeOf33 rfl bX rfl (Int.toNat_of_nonneg bU).symm (fa bB rfl) ?_)
    refine pu (.pointer (some ⟨bV,bW+(T).toNat * 6,none⟩)) (by kernel_rfl) (ac (dj hI (iv e.src) isAgg3 rfl bY (by simp) (bZ 0 _ rfl) ?_))
    refine pu (iv B) (by kernel_rfl) (ifE hF (fun bC hF=>?_) (fun bC hF=>?_))
    ·
     refine ac (de rfl rfl (fun h=>absurd bC h) (fun _=>?_))
     refine aa (ai rfl (ak ?_))
     exact .inl ⟨rfl,⟨a1,a6,aB,P,⟨rfl,rfl,rfl,rfl,rfl,trivial⟩,hI.pk [0,1,2,3,4,5] rfl rfl,(b9.to rfl rfl),hF⟩⟩
    refine ac (de rfl rfl (fun _=>?_) (fun h=>absurd h bC))
    refine aa (ah rfl (gdE hF (fun cO hF=>?_)))
    refine kx [tv (fun _=>(.pointer (some ⟨s,4,none⟩))),tr (fun _=>(slv a1 P.length a6)) [13],tv (fun _=>(.pointer (some ⟨t,4,none⟩))),tr (fun _=>(.slice G q.length H)) [11],tv (fun _=>(iv T)),tr (fun _=>(.pointer (some ⟨bV,bW+(T).toNat * 6,none⟩))) [],tr (fun _=>(.agg (eSp e).toArray)) [],⟨fun y=>(.slice (some ⟨(y 7).b,0,none⟩) 1 1),fun y=>[(some (y 7).b,blk (eSp e) 33)],fun _=>True,[],[]⟩,⟨fun y=>(slv ((y 8).g 0) ((P++[(⟨e.src,e.kd,e.fr,e.to,e.kn,e.un⟩:Sp)]).length) ((y 8).c 0)),fun y=>[(((y 8).g 0),blk ((y 8).cl 0) 33)],fun y=>(Row 6 ((y 8).g 0) ((P++[(⟨e.src,e.kd,e.fr,e.to,e.kn,e.un⟩:Sp)]).length) ((y 8).c 0) ((y 8).cl 0) (al eSp (P++[(⟨e.src,e.kd,e.fr,e.to,e.kn,e.un⟩:Sp)]))),[16],[7]⟩,tv (fun _=>(.pointer (some ⟨s,4,none⟩))),tst (fun y=>[(some s,blk [iv f,iv i,slv A x.length J,slv K L.length Q,slv ((y 8).g 0) ((P++[(⟨e.src,e.kd,e.fr,e.to,e.kn,e.un⟩:Sp)]).length) ((y 8).c 0),iv l] 28)]) 13] (fun _=>[(1,iv B),(2,.pointer (some ⟨t,0,none⟩)),(4,.pointer (some ⟨I,0,none⟩)),(6,.pointer (some ⟨s,0,none⟩)),(9,iv T)]) (fun y=>[(some (y 7).b,blk (eSp e) 33),(((y 8).g 0),blk ((y 8).cl 0) 33),(some s,blk [iv f,iv i,slv A x.length J,slv K L.length Q,slv ((y 8).g 0) ((P++[(⟨e.src,e.kd,e.fr,e.to,e.kn,e.un⟩:Sp)]).length) ((y 8).c 0),iv l] 28),(some t,blk (ql6 f i C o D E p F G q H l) 28),(some I,blk (qn6 0 0 none 0 0 none 0 0 none 0 0 0) 28),(A,blk W 30),(K,blk a4 31)]) hI (by kernel_rfl) (fun y=>⟨(by kernel_rfl),(by kernel_rfl)⟩) (fun y=>?_) ?_
    ·
     refine tp rfl (fun _=>(by kernel_rfl)) (tl1 [(some s,blk [iv f,iv i,slv A x.length J,slv K L.length Q,slv a1 P.length a6,iv l] 28)] rfl (by kernel_rfl) (fun X w hI=>ag hI 0 (slv a1 P.length a6) isAgg26 rfl rfl rfl br) (tp rfl (fun _=>(by kernel_rfl)) (tl1 [(some t,blk (ql6 f i C o D E p F G q H l) 28)] rfl (by kernel_rfl) (fun X w hI=>ag hI 0 (.slice G q.length H) isAgg26 rfl rfl rfl br) (tp rfl (fun _=>(by kernel_rfl)) (tl0 rfl (fun X w hI=>cn (T).toNat underlying26 sizeOf33 rfl bX rfl (Int.toNat_of_nonneg bU).symm (fa bB rfl) br) (tl0 rfl (fun X w hI=>ef hI (eSp e) isAgg33 sizeOf33 rfl rfl bY (by simp) bZ br) (tg (.slice (some ⟨(y 7).b,0,none⟩) 1 1) [] [] rfl ⟨(by kernel_rfl),(by kernel_rfl),(by kernel_rfl)⟩ ?_ ?_)))))))
     ·intro hp X w hI
      refine fu hI (eSp e) 33 (fun b=>slv (some b) 1 1) (by kernel_rfl) fun c0 w hI=>⟨wit c0 [] [] [] [],(by kernel_rfl),trivial,hI.castL (by kernel_rfl)⟩
     refine tg (slv ((y 8).g 0) ((P++[(⟨e.src,e.kd,e.fr,e.to,e.kn,e.un⟩:Sp)]).length) ((y 8).c 0)) [(a1,blk aB 33),(some (y 7).b,blk (eSp e) 33)] [(some (y 7).b,blk (eSp e) 33)] rfl ⟨(by kernel_rfl),(by kernel_rfl),(by kernel_rfl)⟩ ?_ ?_
     ·intro hp X w hI
      refine ks hI underlying26 (z:=.agg #[iv 0,iv 0,iv 0,iv 0,iv 0,iv 0]) (k:=6) (bytes:=48) (by kernel_rfl) rfl rfl 0 rfl rfl b9 (eSp e) rfl rfl (hI.cells 1 (off:=0) rfl (fun j u h=>by rw [Nat.zero_add]; exact h)) (by simp [Value.oneCell',eLd,eSp]) (by omega) (by omega) (n2:=(P++[(⟨e.src,e.kd,e.fr,e.to,e.kn,e.un⟩:Sp)]).length) (kr rfl rfl) ?_
      intro aY aZ b0 w hI aK
      have aK:Row 6 aY ((P++[(⟨e.src,e.kd,e.fr,e.to,e.kn,e.un⟩:Sp)]).length) aZ b0 (al eSp (P++[(⟨e.src,e.kd,e.fr,e.to,e.kn,e.un⟩:Sp)])):=aK.snoc _ rfl
      exact ⟨wit 0 [aY] [aZ] [b0] [],(by kernel_rfl),Eq.mp (by kernel_rfl) aK,hI.castL (by kernel_rfl)⟩
     refine tp rfl (fun _=>(by kernel_rfl)) (tS [(some s,blk [iv f,iv i,slv A x.length J,slv K L.length Q,slv a1 P.length a6,iv l] 28)] rfl ⟨(by kernel_rfl),(by kernel_rfl)⟩ (fun X w hI=>aq hI 0 1 [slv ((y 8).g 0) ((P++[(⟨e.src,e.kd,e.fr,e.to,e.kn,e.un⟩:Sp)]).length) ((y 8).c 0)] sizeOf26 rfl rfl rfl rfl rfl (kh rfl) fun w hI=>⟨rfl,hI.castL (by kernel_rfl)⟩) ?_)
     exact tn
    intro y hp ρ w hag hI
    have aK:Row 6 ((y 8).g 0) ((P++[(⟨e.src,e.kd,e.fr,e.to,e.kn,e.un⟩:Sp)]).length) ((y 8).c 0) ((y 8).cl 0) (al eSp (P++[(⟨e.src,e.kd,e.fr,e.to,e.kn,e.un⟩:Sp)])):=pgl hp (k:=8) (by decide) (by kernel_rfl)
    clear hp
    generalize (y 7).b=c0 at *
    generalize (y 8).g 0=aY at *
    generalize (y 8).c 0=aZ at *
    generalize (y 8).cl 0=b0 at *
    obtain ⟨ρ,rfl⟩:=hag.form; clear hag
    exact .inl ⟨rfl,⟨aY,aZ,b0,P++[(⟨e.src,e.kd,e.fr,e.to,e.kn,e.un⟩:Sp)],⟨rfl,rfl,rfl,rfl,rfl,trivial⟩,hI.pk [3,4,2,5,6,1] rfl rfl,(aK.to rfl rfl),hF⟩⟩
   intro ρ w hJ
   obtain ⟨aJ,aW,aX,aC,hag,hI,cH,hF⟩:=hJ
   obtain ⟨ρ,rfl⟩:=hag.form; clear hag
   unfold F65j5 at hF
   refine rgn (by kernel_rfl) (pu (iv T) (by kernel_rfl) (ckE hF (fun cI hF=>?_)))
   refine ac (cj rfl rfl cI ?_)
   refine pu (iv (T+1)) (by kernel_rfl) (aa ?_)
   exact ⟨rfl,m4,Nat.lt_succ_self _,⟨aJ,aW,aX,aC,T+1,m4,⟨rfl,rfl,rfl,rfl,rfl,trivial⟩,hI.pk [0,1,2,3,4,5] rfl rfl,(cH.to rfl rfl),hF,rfl⟩⟩
  refine ac (cm rfl rfl (fun h=>absurd h bA) (fun _=>?_))
  refine aa (ai rfl (bw ?_))
  exact .inl ⟨rfl,⟨a1,a6,aB,P,⟨rfl,rfl,rfl,rfl,trivial⟩,hI.pk [0,1,2,3,4,5] rfl rfl,(b9.to rfl rfl),hF⟩⟩
 intro ρ w hJ
 obtain ⟨U,Y,aI,V,hag,hI,cJ,hF⟩:=hJ
 obtain ⟨ρ,rfl⟩:=hag.form; clear hag
 unfold F65j3 at hF
 refine ab (bt hF (fun a2 cK hF=>?_))
 refine bt hF (fun aL cL hF=>?_)
 refine kx [tr (fun _=>(.agg #[iv f,iv i,slv A x.length J,slv K L.length Q,slv U V.length Y,iv l])) [9],tr (fun _=>(.agg (ql6 f i C o D E p F G q H l).toArray)) [7],⟨fun y=>(slv ((y 2).g 0) a2.length ((y 2).c 0)),fun y=>[(((y 2).g 0),blk ((y 2).cl 0) 3)],fun y=>(Row 1 ((y 2).g 0) a2.length ((y 2).c 0) ((y 2).cl 0) (al dv a2)),[],[]⟩,tv (fun _=>(iv B)),tr (fun _=>(.bool aL)) [2],tst (fun _=>[(some I,blk [iv f,iv i,slv A x.length J,slv K L.length Q,slv U V.length Y,iv l] 28)]) 8,tv (fun _=>(.bool aL))] (fun _=>[(4,.pointer (some ⟨I,0,none⟩)),(5,.bool aL)]) (fun y=>[(((y 2).g 0),blk ((y 2).cl 0) 3),(some I,blk [iv f,iv i,slv A x.length J,slv K L.length Q,slv U V.length Y,iv l] 28),(some t,blk (ql6 f i C o D E p F G q H l) 28),(some s,blk [iv f,iv i,slv A x.length J,slv K L.length Q,slv U V.length Y,iv l] 28),(A,blk W 30),(K,blk a4 31),(U,blk aI 33)]) hI (by kernel_rfl) (fun y=>⟨(by kernel_rfl),(by kernel_rfl)⟩) (fun y=>?_) ?_
 ·
  refine tl1 [(some s,blk [iv f,iv i,slv A x.length J,slv K L.length Q,slv U V.length Y,iv l] 28)] rfl (by kernel_rfl) (fun X w hI=>ar hI 0 6 [iv f,iv i,slv A x.length J,slv K L.length Q,slv U V.length Y,iv l] isAgg28 sizeOf28 rfl rfl rfl rfl br) (tl1 [(some t,blk (ql6 f i C o D E p F G q H l) 28)] rfl (by kernel_rfl) (fun X w hI=>ar hI 0 6 (ql6 f i C o D E p F G q H l) isAgg28 sizeOf28 rfl rfl rfl rfl br) (tg (slv ((y 2).g 0) a2.length ((y 2).c 0)) [] [] rfl ⟨(by kernel_rfl),(by kernel_rfl),(by kernel_rfl)⟩ ?_ ?_))
  ·intro hp X w hI
   refine co 64 [.agg (ql6 f i C o D E p F G q H l).toArray] (by kernel_rfl) (L64 _ f i C D o E F p G H q l (bD.inv0 hI) c5 c6 (bE.inv0 hI) c7 c8 (bF.inv0 hI) c9 cA N _ cK) ?_
   rintro v w ⟨c1,c2,c4,rfl,hN,aD⟩
   have hI:=hI.join hN; clear hN
   exact ⟨wit 0 [c1] [c2] [c4] [],(by kernel_rfl),Eq.mp (by kernel_rfl) aD,hI.castL (by kernel_rfl)⟩
  refine tp rfl (fun _=>(by kernel_rfl)) (tl (.bool aL) [(((y 2).g 0),blk ((y 2).cl 0) 3)] rfl ⟨(by kernel_rfl),(by kernel_rfl)⟩ ?_ ?_)
  ·intro hp X w hI
   have aD:Row 1 ((y 2).g 0) a2.length ((y 2).c 0) ((y 2).cl 0) (al dv a2):=pg hp (k:=2) ⟨(by kernel_rfl),(by kernel_rfl)⟩
   exact co 59 [slv ((y 2).g 0) a2.length ((y 2).c 0),iv B] (by kernel_rfl) (L59 _ (((y 2).g 0).map fun b=>⟨b,0,none⟩) ((y 2).c 0) a2 B (hI.rowCells 0 rfl aD) (am rfl aD.big) (am rfl aD.cap) N _ cL) (fun v' w' h=>h)
  refine tS [(some I,blk (qn6 0 0 none 0 0 none 0 0 none 0 0 0) 28)] rfl ⟨(by kernel_rfl),(by kernel_rfl)⟩ (fun X w hI=>aq hI 0 6 [iv f,iv i,slv A x.length J,slv K L.length Q,slv U V.length Y,iv l] sizeOf28 rfl rfl rfl rfl rfl (kh rfl) fun w hI=>⟨rfl,hI.castL (by kernel_rfl)⟩) (tp rfl (fun _=>(by kernel_rfl)) ?_)
  exact tn
 intro y hp ρ w hag hI
 have aD:Row 1 ((y 2).g 0) a2.length ((y 2).c 0) ((y 2).cl 0) (al dv a2):=pgl hp (k:=2) (by decide) (by kernel_rfl)
 clear hp
 generalize (y 2).g 0=c1 at *
 generalize (y 2).c 0=c2 at *
 generalize (y 2).cl 0=c4 at *
 obtain ⟨ρ,rfl⟩:=hag.form; clear hag
 refine aj ?_
 replace hF:=Option.some.inj hF; subst hF
 exact ⟨.tuple #[.agg #[iv f,iv i,slv A x.length J,slv K L.length Q,slv U V.length Y,iv l],.bool aL],Ret.ct rfl rfl (ce hI 1 6 [iv f,iv i,slv A x.length J,slv K L.length Q,slv U V.length Y,iv l] isAgg28 sizeOf28 rfl rfl rfl) rfl,⟨A,J,W,K,Q,a4,U,Y,aI,rfl,hI.pk [4,5,6] rfl rfl,cD.to rfl rfl,cG.to rfl rfl,cJ.to rfl rfl⟩⟩


theorem L56 (w0:World) (l:Int) (o:Int) (j:Option Addr) (k:Nat) (d:List Ld) (s:Option Addr) (t:Nat) (f:List Ld) (u:Option Addr) (x:Nat) (g:List Sp) (p:Int) (T:Int) (z:Int) (Z:bi w0 j (al eLd d)) (a3:d.length≤9223372036854775807) (a4:d.length≤k) (a5:bi w0 s (al eLd f)) (a6:f.length≤9223372036854775807) (a7:f.length≤t) (a8:bi w0 u (al eSp g)) (a9:g.length≤9223372036854775807) (aA:g.length≤x) (N:Nat) (r:(List Int × Int)) (hF:F56 N l o d f g p T z=some r):bn Tryz.prog 56 [.agg (ql6 l o j d k s f t u g x p).toArray,.int .i64 T,.int .i64 z] w0 fun v w=>∃ (z0:Option Nat) (z1:Nat) (z2:List Value),v=.tuple #[slv z0 r.1.length z1,.int .i64 r.2]∧Inv [] w0 w [(z0,blk z2 3)]∧Row 1 z0 r.1.length z1 z2 (al dv r.1):=by
 refine az (n:=79) func56 rfl ntmps56 rfl ?_
 have hI:=Inv.start w0
 unfold F56 at hF
 refine ab (rgn (by kernel_rfl) (ac (ca hI (ql6 l o j d k s f t u g x p) rfl fun E w hI=>pu (.slice none 0 0) (by kernel_rfl) (pu (iv 0) (by kernel_rfl) (aa (ab (rgn (by kernel_rfl) (ac (ar hI 0 6 (ql6 l o j d k s f t u g x p) isAgg28 sizeOf28 rfl rfl rfl rfl ?_)))))))))
 refine pu (iv z) (by kernel_rfl) (bt hF (fun O aR hF=>?_))
 refine ac (bg hI 88 [.agg (ql6 l o j d k s f t u g x p).toArray,iv 0,iv z] (iv O) (by kernel_rfl) (L88 _ l o j k d s t f u x g p 0 z (Z.inv0 hI) a3 a4 (a5.inv0 hI) a6 a7 (a8.inv0 hI) a9 aA N _ aR) fun w hI=>pu (iv O) (by kernel_rfl) (aa (ab (ab (rgn (by kernel_rfl) (pu (iv O) (by kernel_rfl) (ifE hF (fun aB hF=>?_) (fun aB hF=>?_))))))))
 ·
  refine ac (de rfl rfl (fun h=>absurd aB h) (fun _=>?_))
  refine aa (ai rfl (ak (ab (rgn (by kernel_rfl) (ac (ar hI 0 6 (ql6 l o j d k s f t u g x p) isAgg28 sizeOf28 rfl rfl rfl rfl ?_))))))
  refine pu (iv T) (by kernel_rfl) (bt hF (fun a aS hF=>?_))
  refine ac (co 65 [.agg (ql6 l o j d k s f t u g x p).toArray,iv T] (by kernel_rfl) (L65 _ l o j k d s t f u x g p T (Z.inv0 hI) a3 a4 (a5.inv0 hI) a6 a7 (a8.inv0 hI) a9 aA N _ aS) ?_)
  rintro v w ⟨A,H,P,B,I,Q,C,J,R,rfl,hN,aC,aD,aE⟩
  have hI:=hI.join hN; clear hN
  refine pu (.tuple #[.agg (qt6 a A H B I C J).toArray,.bool a.2.2.2.2.2.2]) (by kernel_rfl) (pu (.agg (qt6 a A H B I C J).toArray) (by kernel_rfl) (pu (.bool a.2.2.2.2.2.2) (by kernel_rfl) (ac (bh hI (qn6 0 0 none 0 0 none 0 0 none 0 0 0) zeroValue28 rfl fun L w hI=>ac (aq hI 0 6 (qt6 a A H B I C J) sizeOf28 rfl rfl rfl rfl rfl (kh rfl) fun w hI=>pu (.bool a.2.2.2.2.2.2) (by kernel_rfl) (aa (ab (ab (ifE hF (fun aF hF=>?_) (fun aF hF=>?_))))))))))
  ·
   rw [aF]
   refine rgn (by kernel_rfl) (pu kg (by kernel_rfl) (pu kf (by kernel_rfl) (aa (ai rfl (ak (ab (rgn (by kernel_rfl) (pu (.slice none 0 0) (by kernel_rfl) (aa ?_)))))))))
   refine ab (ab (rgn (by kernel_rfl) (pu (iv 0) (by kernel_rfl) (aa (au ?_)))))
   have hI:=hI.nilRow 3
   refine cb (fun m ρ w=>∃ (D:Option Nat) (G:Nat) (M:List Value) (F:List Int) (q:Int) (mm:Nat),cd ρ [(2,iv z),(3,.pointer (some ⟨E,0,none⟩)),(9,.pointer (some ⟨L,0,none⟩)),(11,slv D F.length G),(12,iv q)]∧Inv [] w0 w [(some E,blk (ql6 l o j d k s f t u g x p) 28),(some L,blk (qt6 a A H B I C J) 28),(A,blk P 30),(B,blk Q 31),(C,blk R 33),(D,blk M 3)]∧(Row 1 D (F.length) G M (al dv F))∧F56l1 l o d f g p z N a mm F q=some r∧mm=m) (m:=N) ⟨none,0,[],[],0,N,⟨rfl,rfl,rfl,rfl,rfl,trivial⟩,hI.pk [5,1,2,3,4,0] rfl rfl,(Row.nil_ 1),hF,rfl⟩ ?_
   rintro m ρ w ⟨D,G,M,F,q,mm,hag,hI,U,hF,hm⟩
   subst hm; obtain ⟨ρ,rfl⟩:=hag.form; clear hag
   obtain _ | m1:=mm
   ·cases (show (none:Option (List Int × Int))=some r from hF)
   replace hF:F56b1 l o d f g p z N a (F56l1 l o d f g p z N a m1) F q=some r:=hF; unfold F56b1 at hF
   refine ab (ab (rgn (by kernel_rfl) (pu (iv q) (by kernel_rfl) (pu (.pointer (some ⟨E,2,none⟩)) (by kernel_rfl) (ac (ag hI 0 (.slice j d.length k) isAgg24 rfl rfl rfl ?_))))))
   refine pu (iv ((d.length:Nat):Int)) (by kernel_rfl) (ifE hF (fun aG hF=>?_) (fun aG hF=>?_))
   ·
    refine ac (cm rfl rfl (fun _=>?_) (fun h=>absurd aG h))
    refine aa (ah rfl (ak (dn (fun ρ w=>∃ (V:Option Nat) (a0:Nat) (a1:List Value) (S:List Int),cd ρ [(2,iv z),(3,.pointer (some ⟨E,0,none⟩)),(9,.pointer (some ⟨L,0,none⟩)),(11,slv V S.length a0),(12,iv q)]∧Inv [] w0 w [(some E,blk (ql6 l o j d k s f t u g x p) 28),(some L,blk (qt6 a A H B I C J) 28),(A,blk P 30),(B,blk Q 31),(C,blk R 33),(V,blk a1 3)]∧(Row 1 V (S.length) a0 a1 (al dv S))∧F56j2 (F56l1 l o d f g p z N a m1) q S=some r) ?_ ?_)))
    ·
     refine au ?_
     refine ab (gdE hF (fun aH hF=>?_))
     refine bt hF (fun K a2 hF=>?_)
     refine bt hF (fun e aT hF=>?_)
     obtain ⟨W,Y,aI,aJ,aK⟩:=Z.at_ bf (by decide) a2
     refine kx [tr (fun _=>(.agg (ql6 l o j d k s f t u g x p).toArray)) [15],tv (fun _=>(.pointer (some ⟨E,2,none⟩))),tr (fun _=>(.slice j d.length k)) [15],tv (fun _=>(iv q)),tr (fun _=>(.pointer (some ⟨W,Y+(q).toNat * 6,none⟩))) [],tv (fun _=>(.pointer (some ⟨W,Y+(q).toNat * 6+1,none⟩))),tr (fun _=>(iv K.hr)) [],tv (fun _=>(iv z)),tr (fun _=>(.tuple #[.agg #[iv e.1,iv e.2.1],iv e.2.2])) [],tv (fun _=>(.tuple #[.agg #[iv e.1,iv e.2.1],iv e.2.2])),tv (fun _=>(.agg #[iv e.1,iv e.2.1])),tv (fun _=>(iv e.2.2)),tal 12 [iv 0,iv 0] 23,tst (fun y=>[(some (y 12).b,blk [iv e.1,iv e.2.1] 23)]) 12,tv (fun _=>(iv e.2.2))] (fun y=>[(2,iv z),(3,.pointer (some ⟨E,0,none⟩)),(9,.pointer (some ⟨L,0,none⟩)),(11,slv D F.length G),(12,iv q),(13,.pointer (some ⟨(y 12).b,0,none⟩)),(14,iv e.2.2)]) (fun y=>[(some (y 12).b,blk [iv e.1,iv e.2.1] 23),(some E,blk (ql6 l o j d k s f t u g x p) 28),(some L,blk (qt6 a A H B I C J) 28),(A,blk P 30),(B,blk Q 31),(C,blk R 33),(D,blk M 3)]) hI (by kernel_rfl) (fun y=>⟨(by kernel_rfl),(by kernel_rfl)⟩) (fun y=>?_) ?_
     ·
      refine tl1 [(some E,blk (ql6 l o j d k s f t u g x p) 28)] rfl (by kernel_rfl) (fun X w hI=>ar hI 0 6 (ql6 l o j d k s f t u g x p) isAgg28 sizeOf28 rfl rfl rfl rfl br) (tp rfl (fun _=>(by kernel_rfl)) (tl1 [(some E,blk (ql6 l o j d k s f t u g x p) 28)] rfl (by kernel_rfl) (fun X w hI=>ag hI 0 (.slice j d.length k) isAgg24 rfl rfl rfl br) (tp rfl (fun _=>(by kernel_rfl)) (tl0 rfl (fun X w hI=>cn (q).toNat underlying24 sizeOf30 rfl aI rfl (Int.toNat_of_nonneg aH).symm (fa a2 rfl) br) (tp rfl (fun _=>(by kernel_rfl)) (tl0 rfl (fun X w hI=>dj hI (iv K.hr) isAgg3 rfl aJ (by simp) (aK 1 _ rfl) br) (tp rfl (fun _=>(by kernel_rfl)) (tl0 rfl (fun X w hI=>co 37 [.agg (ql6 l o j d k s f t u g x p).toArray,iv K.hr,iv z] (by kernel_rfl) (L37 _ l o j k d s t f u x g p K.hr z (Z.inv0 hI) a3 a4 (a5.inv0 hI) a6 a7 (a8.inv0 hI) a9 aA N _ aT) (fun v' w' h=>h)) (tp rfl (fun _=>(by kernel_rfl)) ?_)))))))))
      refine tp rfl (fun _=>(by kernel_rfl)) (tp rfl (fun _=>(by kernel_rfl)) (tA rfl zeroValue23 rfl (tS [(some (y 12).b,blk [iv 0,iv 0] 23)] rfl ⟨(by kernel_rfl),(by kernel_rfl)⟩ (fun X w hI=>aq hI 0 2 [iv e.1,iv e.2.1] sizeOf23 rfl rfl rfl rfl rfl (kh rfl) fun w hI=>⟨rfl,hI.castL (by kernel_rfl)⟩) (tp rfl (fun _=>(by kernel_rfl)) ?_))))
      exact tn
     intro y hp ρ w hag hI
     clear hp
     generalize (y 12).b=aN at *
     obtain ⟨ρ,rfl⟩:=hag.form; clear hag
     refine ab (bt hF (fun i aU hF=>?_))
     refine kx [tr (fun _=>(.agg (qt6 a A H B I C J).toArray)) [17],tv (fun _=>(.pointer (some ⟨E,2,none⟩))),tr (fun _=>(.slice j d.length k)) [16],tv (fun _=>(iv q)),tr (fun _=>(.pointer (some ⟨W,Y+(q).toNat * 6,none⟩))) [],tv (fun _=>(.pointer (some ⟨W,Y+(q).toNat * 6+1,none⟩))),tr (fun _=>(iv K.hr)) [],tv (fun _=>(iv z)),tr (fun _=>(.tuple #[.agg #[iv i.1,iv i.2.1],iv i.2.2])) [18,19,20],tv (fun _=>(.tuple #[.agg #[iv i.1,iv i.2.1],iv i.2.2])),tv (fun _=>(.agg #[iv i.1,iv i.2.1])),tv (fun _=>(iv i.2.2)),tal 12 [iv 0,iv 0] 23,tst (fun y=>[(some (y 12).b,blk [iv i.1,iv i.2.1] 23)]) 12,tv (fun _=>(iv i.2.2))] (fun y=>[(2,iv z),(3,.pointer (some ⟨E,0,none⟩)),(9,.pointer (some ⟨L,0,none⟩)),(11,slv D F.length G),(12,iv q),(13,.pointer (some ⟨aN,0,none⟩)),(14,iv e.2.2),(15,.pointer (some ⟨(y 12).b,0,none⟩)),(16,iv i.2.2)]) (fun y=>[(some (y 12).b,blk [iv i.1,iv i.2.1] 23),(some aN,blk [iv e.1,iv e.2.1] 23),(some E,blk (ql6 l o j d k s f t u g x p) 28),(some L,blk (qt6 a A H B I C J) 28),(A,blk P 30),(B,blk Q 31),(C,blk R 33),(D,blk M 3)]) hI (by kernel_rfl) (fun y=>⟨(by kernel_rfl),(by kernel_rfl)⟩) (fun y=>?_) ?_
     ·
      refine tl1 [(some L,blk (qt6 a A H B I C J) 28)] rfl (by kernel_rfl) (fun X w hI=>ar hI 0 6 (qt6 a A H B I C J) isAgg28 sizeOf28 rfl rfl rfl rfl br) (tp rfl (fun _=>(by kernel_rfl)) (tl1 [(some E,blk (ql6 l o j d k s f t u g x p) 28)] rfl (by kernel_rfl) (fun X w hI=>ag hI 0 (.slice j d.length k) isAgg24 rfl rfl rfl br) (tp rfl (fun _=>(by kernel_rfl)) (tl0 rfl (fun X w hI=>cn (q).toNat underlying24 sizeOf30 rfl aI rfl (Int.toNat_of_nonneg aH).symm (fa a2 rfl) br) (tp rfl (fun _=>(by kernel_rfl)) (tl0 rfl (fun X w hI=>dj hI (iv K.hr) isAgg3 rfl aJ (by simp) (aK 1 _ rfl) br) (tp rfl (fun _=>(by kernel_rfl)) (tl1 [(A,blk P 30),(B,blk Q 31),(C,blk R 33)] rfl (by kernel_rfl) (fun X w hI=>co 37 [.agg (qt6 a A H B I C J).toArray,iv K.hr,iv z] (by kernel_rfl) (L37 _ a.1 a.2.1 (A.map fun b=>⟨b,0,none⟩) H a.2.2.1 (B.map fun b=>⟨b,0,none⟩) I a.2.2.2.1 (C.map fun b=>⟨b,0,none⟩) J a.2.2.2.2.1 a.2.2.2.2.2.1 K.hr z (hI.rowCells 0 rfl aC) (am rfl aC.big) (am rfl aC.cap) (hI.rowCells 1 rfl aD) (am rfl aD.big) (am rfl aD.cap) (hI.rowCells 2 rfl aE) (am rfl aE.big) (am rfl aE.cap) N _ aU) (fun v' w' h=>h)) (tp rfl (fun _=>(by kernel_rfl)) ?_)))))))))
      refine tp rfl (fun _=>(by kernel_rfl)) (tp rfl (fun _=>(by kernel_rfl)) (tA rfl zeroValue23 rfl (tS [(some (y 12).b,blk [iv 0,iv 0] 23)] rfl ⟨(by kernel_rfl),(by kernel_rfl)⟩ (fun X w hI=>aq hI 0 2 [iv i.1,iv i.2.1] sizeOf23 rfl rfl rfl rfl rfl (kh rfl) fun w hI=>⟨rfl,hI.castL (by kernel_rfl)⟩) (tp rfl (fun _=>(by kernel_rfl)) ?_))))
      exact tn
     intro y hp ρ w hag hI
     clear hp
     generalize (y 12).b=b0 at *
     obtain ⟨ρ,rfl⟩:=hag.form; clear hag
     refine dn (fun ρ w=>cd ρ [(2,iv z),(3,.pointer (some ⟨E,0,none⟩)),(9,.pointer (some ⟨L,0,none⟩)),(11,slv D F.length G),(12,iv q),(69,.bool true)]∧Inv [] w0 w [(some E,blk (ql6 l o j d k s f t u g x p) 28),(some L,blk (qt6 a A H B I C J) 28),(A,blk P 30),(B,blk Q 31),(C,blk R 33),(D,blk M 3)]∧F56j3 N (F56l1 l o d f g p z N a m1) F q K=some r) ?_ ?_
     ·
      refine rgn (by kernel_rfl) (ac (ar hI 1 2 [iv e.1,iv e.2.1] isAgg23 sizeOf23 rfl rfl rfl rfl ?_))
      refine ac (ar hI 0 2 [iv i.1,iv i.2.1] isAgg23 sizeOf23 rfl rfl rfl rfl ?_)
      refine ifE hF (fun aL hF=>?_) (fun aL hF=>?_)
      ·
       refine ac (s_neqA (b:=decide (e.1=i.1) && decide (e.2.1=i.2.1)) rfl rfl (by kernel_rfl) (fun w=>eq23 _ e.1 e.2.1 i.1 i.2.1 w) (fun h=>absurd aL h) (fun _=>?_))
       refine pu kf (by kernel_rfl) (puo (iv e.2.2) ⟨(by kernel_rfl),(by kernel_rfl)⟩ (puo (iv i.2.2) ⟨(by kernel_rfl),(by kernel_rfl)⟩ (ifE hF (fun aM hF=>?_) (fun aM hF=>?_))))
       ·
        refine aw (by kernel_rfl) (de rfl rfl (fun h=>absurd aM h) (fun _=>?_))
        refine pu kf (by kernel_rfl) (aa (.inr ?_))
        refine ai rfl (ak ?_)
        exact .inl ⟨rfl,⟨D,G,M,F,⟨rfl,rfl,rfl,rfl,rfl,trivial⟩,hI.pk [2,3,4,5,6,7] rfl rfl,(U.to rfl rfl),hF⟩⟩
       refine aw (by kernel_rfl) (de rfl rfl (fun _=>?_) (fun h=>absurd h aM))
       refine pu kg (by kernel_rfl) (aa ?_)
       exact .inl ⟨rfl,⟨⟨rfl,rfl,rfl,rfl,rfl,rfl,trivial⟩,hI.pk [2,3,4,5,6,7] rfl rfl,hF⟩⟩
      refine ac (s_neqA (b:=decide (e.1=i.1) && decide (e.2.1=i.2.1)) rfl rfl (by kernel_rfl) (fun w=>eq23 _ e.1 e.2.1 i.1 i.2.1 w) (fun _=>?_) (fun h=>absurd h aL))
      refine pu kg (by kernel_rfl) (sf 3 (by kernel_rfl) (pu kg (by kernel_rfl) (aa ?_)))
      exact .inl ⟨rfl,⟨⟨rfl,rfl,rfl,rfl,rfl,rfl,trivial⟩,hI.pk [2,3,4,5,6,7] rfl rfl,hF⟩⟩
     intro ρ w hJ
     obtain ⟨hag,hI,hF⟩:=hJ
     obtain ⟨ρ,rfl⟩:=hag.form; clear hag
     unfold F56j3 at hF
     refine ah rfl (rgn (by kernel_rfl) (pu (slv D F.length G) (by kernel_rfl) (pu (.pointer (some ⟨E,2,none⟩)) (by kernel_rfl) (ac (ag hI 0 (.slice j d.length k) isAgg24 rfl rfl rfl ?_)))))
     refine pu (iv q) (by kernel_rfl) (ac (cn (q).toNat underlying24 sizeOf30 rfl aI rfl (Int.toNat_of_nonneg aH).symm (fa a2 rfl) ?_))
     refine pu (.pointer (some ⟨W,Y+(q).toNat * 6+1,none⟩)) (by kernel_rfl) (ac (dj hI (iv K.hr) isAgg3 rfl aJ (by simp) (aK 1 _ rfl) ?_))
     refine bt hF (fun aO aV hF=>?_)
     refine ac (co 71 [slv D F.length G,iv K.hr] (by kernel_rfl) (L71 _ (D.map fun b=>⟨b,0,none⟩) G F K.hr (hI.rowCells 5 rfl U) (am rfl U.big) (am rfl U.cap) N _ aV) ?_)
     rintro v w ⟨aP,aQ,aW,rfl,hN,aX⟩
     have hI:=hI.join hN; clear hN
     refine pu (slv aP aO.length aQ) (by kernel_rfl) (aa ?_)
     exact .inl ⟨rfl,⟨aP,aQ,aW,aO,⟨rfl,rfl,rfl,rfl,rfl,trivial⟩,hI.pk [1,2,3,4,5,0] rfl rfl,(aX.to rfl rfl),hF⟩⟩
    intro ρ w hJ
    obtain ⟨V,a0,a1,S,hag,hI,aY,hF⟩:=hJ
    obtain ⟨ρ,rfl⟩:=hag.form; clear hag
    unfold F56j2 at hF
    refine rgn (by kernel_rfl) (pu (iv q) (by kernel_rfl) (ckE hF (fun aZ hF=>?_)))
    refine ac (cj rfl rfl aZ ?_)
    refine pu (iv (q+1)) (by kernel_rfl) (aa ?_)
    exact ⟨rfl,m1,Nat.lt_succ_self _,⟨V,a0,a1,S,q+1,m1,⟨rfl,rfl,rfl,rfl,rfl,trivial⟩,hI.pk [0,1,2,3,4,5] rfl rfl,(aY.to rfl rfl),hF,rfl⟩⟩
   refine ac (cm rfl rfl (fun h=>absurd h aG) (fun _=>?_))
   refine aa (ai rfl (bw ?_))
   refine ab (rgn (by kernel_rfl) (pu (slv D F.length G) (by kernel_rfl) (pu (slv D F.length G) (by kernel_rfl) (pu (iv 0) (by kernel_rfl) (aa (aj ?_))))))
   replace hF:=Option.some.inj hF; subst hF
   exact ⟨.tuple #[slv D F.length G,iv 0],Ret.r2 rfl rfl rfl,⟨D,G,M,rfl,hI.pk [5] rfl rfl,U.to rfl rfl⟩⟩
  rw [(Bool.eq_false_iff.2 aF)]
  refine rgn (by kernel_rfl) (pu kf (by kernel_rfl) (pu kg (by kernel_rfl) (aa (ah rfl (ab (rgn (by kernel_rfl) (pu (.slice none 0 0) (by kernel_rfl) (pu (iv 3) (by kernel_rfl) (aa ?_)))))))))
  refine aj ?_
  have hI:=hI.nilRow 3
  replace hF:=Option.some.inj hF; subst hF
  exact ⟨.tuple #[.slice none 0 0,iv 3],Ret.r2 rfl rfl rfl,⟨none,0,[],rfl,hI.pk [0] rfl rfl,Row.nil_ 1⟩⟩
 refine ac (de rfl rfl (fun _=>?_) (fun h=>absurd h aB))
 refine aa (ah rfl (ab (rgn (by kernel_rfl) (pu (iv O) (by kernel_rfl) (pu (.slice none 0 0) (by kernel_rfl) (pu (iv O) (by kernel_rfl) (aa (aj ?_))))))))
 have hI:=hI.nilRow 3
 replace hF:=Option.some.inj hF; subst hF
 exact ⟨.tuple #[.slice none 0 0,iv O],Ret.r2 rfl rfl rfl,⟨none,0,[],rfl,hI.pk [0] rfl rfl,Row.nil_ 1⟩⟩

end Go.K
