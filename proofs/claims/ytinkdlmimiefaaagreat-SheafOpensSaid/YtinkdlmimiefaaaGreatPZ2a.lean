import Derived.Test.YtinkdlmimiefaaaGreatPZa
import Derived.Test.YtinkdlmimiefaaaGreatPKt
import Derived.Test.YtinkdlmimiefaaaGreatPE2
import Derived.Tactics2
namespace Go.K
open Go.Proofs.Tryz
open Go.Proofs Go.RowKit
set_option linter.unusedVariables false
set_option linter.unusedSimpArgs false
set_option maxRecDepth 100000
attribute [local irreducible] Seq cw cx fl opX
theorem L53 (w0:World) (f:Int) (g:Int) (i:Option Addr) (j:Nat) (a:List Ld) (k:Option Addr) (l:Nat) (b:List Ld) (m:Option Addr) (n:Nat) (d:List Sp) (o:Int) (p:Int) (q:Option Addr) (s:Nat) (e:List Int) (t:Int) (u:Int) (x:bi w0 i (al eLd a)) (y:a.length≤9223372036854775807) (F:a.length≤j) (z:bi w0 k (al eLd b)) (A:b.length≤9223372036854775807) (G:b.length≤l) (B:bi w0 m (al eSp d)) (C:d.length≤9223372036854775807) (H:d.length≤n) (D:bi w0 q (al dv e)) (E:e.length≤9223372036854775807) (I:e.length≤s) (r:(Bool × Int)) (hF:F53 f g a b d o p e t u=some r):bn Tryz.prog 53 [.agg (ql6 f g i a j k b l m d n o).toArray,.agg #[.int .i64 p,.slice q e.length s],.int .i64 t,.int .i64 u] w0 fun v w=>v=.tuple #[.bool r.1,.int .i64 r.2]∧Below w0.heap.size w0 w:=by
  replace hF:=Option.some.inj hF; subst hF
  exact bn.mono (Truly_i w0 (⟨f,g,a,b,d,o⟩:Pl) i _ j k _ l m _ n ⟨x,rfl,z,rfl,B,rfl,y,A,C⟩ p q s e D E t u) (fun v w h=>h)

theorem L6 (w0:World) (g:Int) (i:Int) (k:Option Addr) (l:Nat) (a:List Ld) (m:Option Addr) (o:Nat) (d:List Ld) (p:Option Addr) (q:Nat) (e:List Sp) (j:Int) (T:Int) (V:Option Addr) (W:Nat) (G:List Int) (u:Int) (U:Int) (f:Int) (J:bi w0 k (al eLd a)) (K:a.length≤9223372036854775807) (L:a.length≤l) (M:bi w0 m (al eLd d)) (O:d.length≤9223372036854775807) (P:d.length≤o) (Q:bi w0 p (al eSp e)) (R:e.length≤9223372036854775807) (S:e.length≤q) (aS:bi w0 V (al dv G)) (aT:G.length≤9223372036854775807) (aU:G.length≤W) (N:Nat) (r:Bool) (hF:F6 N g i a d e j T G u U f=some r):bn Tryz.prog 6 [.agg (ql6 g i k a l m d o p e q j).toArray,.agg #[.int .i64 T,.slice V G.length W,.int .i64 u,.int .i64 U,.int .i64 f]] w0 fun v w=>v=.bool r∧Below w0.heap.size w0 w:=by
 refine az (n:=203) func6 rfl ntmps6 rfl ?_
 have hI:=Inv.start w0
 unfold F6 at hF
 refine ab (rgn rfl (ac (ca hI (ql6 g i k a l m d o p e q j) rfl fun aV w hI=>ac (ca hI [iv T,.slice V G.length W,iv u,iv U,iv f] rfl fun x w hI=>pu kf rfl (aa (dn (fun ρ w=>∃ (a1:Bool),cd ρ [(2,.pointer (some ⟨aV,0,none⟩)),(3,.pointer (some ⟨x,0,none⟩)),(5,.bool a1)]∧Inv [] w0 w [(some aV,blk (ql6 g i k a l m d o p e q j) 28),(some x,blk [iv T,.slice V G.length W,iv u,iv U,iv f] 59)]∧F6j1 g i a d e j T G u U f N a1=some r) ?_ ?_))))))
 ·
  refine rgn rfl (bt hF (fun bC aW hF=>?_))
  refine ifE hF (fun a5 hF=>?_) (fun a5 hF=>?_)
  ·
   refine ac (bg hI 13 [] kg (by kernel_rfl) (bn.mono (L13 _ N _ aW) (fun v' w' h=>⟨h.1.trans (congrArg Value.bool a5),h.2⟩)) fun w hI=>pu kg rfl (aa ?_))
   exact .inl ⟨rfl,⟨true,⟨rfl,rfl,rfl,trivial⟩,hI.pk [1,0] rfl rfl,hF⟩⟩
  refine ac (bg hI 13 [] kf (by kernel_rfl) (bn.mono (L13 _ N _ aW) (fun v' w' h=>⟨h.1.trans (congrArg Value.bool (Bool.eq_false_iff.2 a5)),h.2⟩)) fun w hI=>pu kf rfl (aa ?_))
  exact .inl ⟨rfl,⟨false,⟨rfl,rfl,rfl,trivial⟩,hI.pk [1,0] rfl rfl,hF⟩⟩
 intro ρ w hJ
 obtain ⟨a1,hag,hI,hF⟩:=hJ
 obtain ⟨ρ,rfl⟩:=hag.form; clear hag
 unfold F6j1 at hF
 refine ab (rgn rfl (ac (ar hI 0 6 (ql6 g i k a l m d o p e q j) isAgg28 sizeOf28 rfl rfl rfl rfl ?_)))
 refine pu (.pointer (some ⟨x,2,none⟩)) rfl (ac (ag hI 1 (iv u) isAgg3 rfl rfl rfl ?_))
 refine pu (.pointer (some ⟨x,4,none⟩)) rfl (ac (ag hI 1 (iv f) isAgg3 rfl rfl rfl ?_))
 refine bt hF (fun y b0 hF=>?_)
 refine ac (bg hI 45 [.agg (ql6 g i k a l m d o p e q j).toArray,iv u,iv f] (.tuple #[iv y.1,iv y.2]) (by kernel_rfl) (L45 _ g i k l a m o d p q e j u f (J.inv0 hI) K L (M.inv0 hI) O P (Q.inv0 hI) R S _ b0) fun w hI=>pu (.tuple #[iv y.1,iv y.2]) rfl (pu (iv y.1) rfl (pu (iv y.2) rfl (pu (iv y.1) rfl (pu (iv y.2) rfl (aa (ab (rgn rfl (ac (ar hI 0 6 (ql6 g i k a l m d o p e q j) isAgg28 sizeOf28 rfl rfl rfl rfl ?_))))))))))
 refine pu (.pointer (some ⟨x,2,none⟩)) rfl (ac (ag hI 1 (iv u) isAgg3 rfl rfl rfl ?_))
 refine pu (.pointer (some ⟨x,4,none⟩)) rfl (ac (ag hI 1 (iv f) isAgg3 rfl rfl rfl ?_))
 refine bt hF (fun z b1 hF=>?_)
 refine ac (bg hI 46 [.agg (ql6 g i k a l m d o p e q j).toArray,iv u,iv f] (.tuple #[iv z.1,iv z.2]) (by kernel_rfl) (L46 _ g i k l a m o d p q e j u f (J.inv0 hI) K L (M.inv0 hI) O P (Q.inv0 hI) R S N _ b1) fun w hI=>pu (.tuple #[iv z.1,iv z.2]) rfl (pu (iv z.1) rfl (pu (iv z.2) rfl (pu (iv z.1) rfl (pu (iv z.2) rfl (aa (ab (rgn rfl (ac (ar hI 0 6 (ql6 g i k a l m d o p e q j) isAgg28 sizeOf28 rfl rfl rfl rfl ?_))))))))))
 refine pu (.pointer (some ⟨x,4,none⟩)) rfl (ac (ag hI 1 (iv f) isAgg3 rfl rfl rfl ?_))
 refine bt hF (fun s b2 hF=>?_)
 refine ac (bg hI 47 [.agg (ql6 g i k a l m d o p e q j).toArray,iv f] (.tuple #[.agg #[iv s.1,iv s.2.1],iv s.2.2]) (by kernel_rfl) (L47 _ g i k l a m o d p q e j f (J.inv0 hI) K L (M.inv0 hI) O P (Q.inv0 hI) R S _ b2) fun w hI=>pu (.tuple #[.agg #[iv s.1,iv s.2.1],iv s.2.2]) rfl (pu (.agg #[iv s.1,iv s.2.1]) rfl (pu (iv s.2.2) rfl (ac (bh hI [iv 0,iv 0] zeroValue23 rfl fun aX w hI=>ac (aq hI 0 2 [iv s.1,iv s.2.1] sizeOf23 rfl rfl rfl rfl rfl (kh rfl) fun w hI=>pu (iv s.2.2) rfl (aa (ab (rgn rfl (ac (ar hI 1 6 (ql6 g i k a l m d o p e q j) isAgg28 sizeOf28 rfl rfl rfl rfl ?_)))))))))))
 refine pu (.pointer (some ⟨x,4,none⟩)) rfl (ac (ag hI 2 (iv f) isAgg3 rfl rfl rfl ?_))
 refine bt hF (fun t b3 hF=>?_)
 refine ac (bg hI 48 [.agg (ql6 g i k a l m d o p e q j).toArray,iv f] (.tuple #[.agg #[iv t.1,iv t.2.1],iv t.2.2]) (by kernel_rfl) (L48 _ g i k l a m o d p q e j f (J.inv0 hI) K L (M.inv0 hI) O P (Q.inv0 hI) R S N _ b3) fun w hI=>pu (.tuple #[.agg #[iv t.1,iv t.2.1],iv t.2.2]) rfl (pu (.agg #[iv t.1,iv t.2.1]) rfl (pu (iv t.2.2) rfl (ac (bh hI [iv 0,iv 0] zeroValue23 rfl fun aY w hI=>ac (aq hI 0 2 [iv t.1,iv t.2.1] sizeOf23 rfl rfl rfl rfl rfl (kh rfl) fun w hI=>pu (iv t.2.2) rfl (aa (ab (rgn rfl (ac (ar hI 2 6 (ql6 g i k a l m d o p e q j) isAgg28 sizeOf28 rfl rfl rfl rfl ?_)))))))))))
 refine pu (.pointer (some ⟨x,2,none⟩)) rfl (ac (ag hI 3 (iv u) isAgg3 rfl rfl rfl ?_))
 refine pu (.pointer (some ⟨x,4,none⟩)) rfl (ac (ag hI 3 (iv f) isAgg3 rfl rfl rfl ?_))
 refine bt hF (fun A b4 hF=>?_)
 refine ac (bg hI 49 [.agg (ql6 g i k a l m d o p e q j).toArray,iv u,iv f] (.tuple #[.bool A.1,iv A.2]) (by kernel_rfl) (L49 _ g i k l a m o d p q e j u f (J.inv0 hI) K L (M.inv0 hI) O P (Q.inv0 hI) R S _ b4) fun w hI=>pu (.tuple #[.bool A.1,iv A.2]) rfl (pu (.bool A.1) rfl (pu (iv A.2) rfl (pu (.bool A.1) rfl (pu (iv A.2) rfl (aa (ab (rgn rfl (ac (ar hI 2 6 (ql6 g i k a l m d o p e q j) isAgg28 sizeOf28 rfl rfl rfl rfl ?_))))))))))
 refine pu (.pointer (some ⟨x,2,none⟩)) rfl (ac (ag hI 3 (iv u) isAgg3 rfl rfl rfl ?_))
 refine pu (.pointer (some ⟨x,4,none⟩)) rfl (ac (ag hI 3 (iv f) isAgg3 rfl rfl rfl ?_))
 refine bt hF (fun B b5 hF=>?_)
 refine ac (bg hI 50 [.agg (ql6 g i k a l m d o p e q j).toArray,iv u,iv f] (.tuple #[.bool B.1,iv B.2]) (by kernel_rfl) (L50 _ g i k l a m o d p q e j u f (J.inv0 hI) K L (M.inv0 hI) O P (Q.inv0 hI) R S N _ b5) fun w hI=>pu (.tuple #[.bool B.1,iv B.2]) rfl (pu (.bool B.1) rfl (pu (iv B.2) rfl (pu (.bool B.1) rfl (pu (iv B.2) rfl (aa (ab (rgn rfl (ac (ar hI 2 6 (ql6 g i k a l m d o p e q j) isAgg28 sizeOf28 rfl rfl rfl rfl ?_))))))))))
 refine pu (.pointer (some ⟨x,2,none⟩)) rfl (ac (ag hI 3 (iv u) isAgg3 rfl rfl rfl ?_))
 refine pu (.pointer (some ⟨x,4,none⟩)) rfl (ac (ag hI 3 (iv f) isAgg3 rfl rfl rfl ?_))
 refine bt hF (fun C b6 hF=>?_)
 refine ac (bg hI 51 [.agg (ql6 g i k a l m d o p e q j).toArray,iv u,iv f] (.tuple #[iv C.1,iv C.2]) (by kernel_rfl) (L51 _ g i k l a m o d p q e j u f (J.inv0 hI) K L (M.inv0 hI) O P (Q.inv0 hI) R S _ b6) fun w hI=>pu (.tuple #[iv C.1,iv C.2]) rfl (pu (iv C.1) rfl (pu (iv C.2) rfl (pu (iv C.1) rfl (pu (iv C.2) rfl (aa (ab (rgn rfl (ac (ar hI 2 6 (ql6 g i k a l m d o p e q j) isAgg28 sizeOf28 rfl rfl rfl rfl ?_))))))))))
 refine pu (.pointer (some ⟨x,2,none⟩)) rfl (ac (ag hI 3 (iv u) isAgg3 rfl rfl rfl ?_))
 refine pu (.pointer (some ⟨x,4,none⟩)) rfl (ac (ag hI 3 (iv f) isAgg3 rfl rfl rfl ?_))
 refine bt hF (fun D b7 hF=>?_)
 refine ac (bg hI 52 [.agg (ql6 g i k a l m d o p e q j).toArray,iv u,iv f] (.tuple #[iv D.1,iv D.2]) (by kernel_rfl) (L52 _ g i k l a m o d p q e j u f (J.inv0 hI) K L (M.inv0 hI) O P (Q.inv0 hI) R S N _ b7) fun w hI=>pu (.tuple #[iv D.1,iv D.2]) rfl (pu (iv D.1) rfl (pu (iv D.2) rfl (pu (iv D.1) rfl (pu (iv D.2) rfl (aa (ab (rgn rfl (ac (ar hI 2 6 (ql6 g i k a l m d o p e q j) isAgg28 sizeOf28 rfl rfl rfl rfl ?_))))))))))
 refine pu (.pointer (some ⟨x,0,none⟩)) rfl (ac (ar hI 3 2 [iv T,.slice V G.length W] isAgg57 sizeOf57 rfl rfl rfl rfl ?_))
 refine pu (.pointer (some ⟨x,2,none⟩)) rfl (ac (ag hI 3 (iv u) isAgg3 rfl rfl rfl ?_))
 refine pu (.pointer (some ⟨x,4,none⟩)) rfl (ac (ag hI 3 (iv f) isAgg3 rfl rfl rfl ?_))
 refine bt hF (fun E b8 hF=>?_)
 refine ac (bg hI 53 [.agg (ql6 g i k a l m d o p e q j).toArray,.agg #[iv T,.slice V G.length W],iv u,iv f] (.tuple #[.bool E.1,iv E.2]) (by kernel_rfl) (L53 _ g i k l a m o d p q e j T V W G u f (J.inv0 hI) K L (M.inv0 hI) O P (Q.inv0 hI) R S (aS.inv0 hI) aT aU _ b8) fun w hI=>pu (.tuple #[.bool E.1,iv E.2]) rfl (pu (.bool E.1) rfl (pu (iv E.2) rfl (pu (.bool E.1) rfl (pu (iv E.2) rfl (aa (ab (rgn rfl (ac (ar hI 2 6 (ql6 g i k a l m d o p e q j) isAgg28 sizeOf28 rfl rfl rfl rfl ?_))))))))))
 refine pu (.pointer (some ⟨x,0,none⟩)) rfl (ac (ar hI 3 2 [iv T,.slice V G.length W] isAgg57 sizeOf57 rfl rfl rfl rfl ?_))
 refine pu (.pointer (some ⟨x,2,none⟩)) rfl (ac (ag hI 3 (iv u) isAgg3 rfl rfl rfl ?_))
 refine pu (.pointer (some ⟨x,4,none⟩)) rfl (ac (ag hI 3 (iv f) isAgg3 rfl rfl rfl ?_))
 refine pu (.agg #[iv u,iv f]) (by kernel_rfl) (bt hF (fun F b9 hF=>?_))
 refine ac (bg hI 54 [.agg (ql6 g i k a l m d o p e q j).toArray,.agg #[iv T,.slice V G.length W],.agg #[iv u,iv f]] (.tuple #[.bool F.1,iv F.2]) (by kernel_rfl) (L54 _ g i k l a m o d p q e j T V W G u f (J.inv0 hI) K L (M.inv0 hI) O P (Q.inv0 hI) R S (aS.inv0 hI) aT aU N _ b9) fun w hI=>pu (.tuple #[.bool F.1,iv F.2]) rfl (pu (.bool F.1) rfl (pu (iv F.2) rfl (pu (.bool F.1) rfl (pu (iv F.2) rfl (aa (ab (rgn rfl (ac (ar hI 2 6 (ql6 g i k a l m d o p e q j) isAgg28 sizeOf28 rfl rfl rfl rfl ?_))))))))))
 refine pu (.pointer (some ⟨x,3,none⟩)) rfl (ac (ag hI 3 (iv U) isAgg3 rfl rfl rfl ?_))
 refine pu (.pointer (some ⟨x,4,none⟩)) rfl (ac (ag hI 3 (iv f) isAgg3 rfl rfl rfl ?_))
 refine bt hF (fun H bA hF=>?_)
 refine ac (co 55 [.agg (ql6 g i k a l m d o p e q j).toArray,iv U,iv f] (by kernel_rfl) (L55 _ g i k l a m o d p q e j U f (J.inv0 hI) K L (M.inv0 hI) O P (Q.inv0 hI) R S N _ bA) ?_)
 rintro v w ⟨X,Y,bD,rfl,hN,a2⟩
 have hI:=hI.join hN; clear hN
 refine pu (.tuple #[slv X H.1.length Y,iv H.2]) rfl (pu (slv X H.1.length Y) rfl (pu (iv H.2) rfl (pu (slv X H.1.length Y) rfl (pu (iv H.2) rfl (aa (ab (rgn rfl (ac (ar hI 3 6 (ql6 g i k a l m d o p e q j) isAgg28 sizeOf28 rfl rfl rfl rfl ?_)))))))))
 refine pu (.pointer (some ⟨x,3,none⟩)) rfl (ac (ag hI 4 (iv U) isAgg3 rfl rfl rfl ?_))
 refine pu (.pointer (some ⟨x,4,none⟩)) rfl (ac (ag hI 4 (iv f) isAgg3 rfl rfl rfl ?_))
 refine bt hF (fun I bB hF=>?_)
 refine ac (co 56 [.agg (ql6 g i k a l m d o p e q j).toArray,iv U,iv f] (by kernel_rfl) (L56 _ g i k l a m o d p q e j U f (J.inv0 hI) K L (M.inv0 hI) O P (Q.inv0 hI) R S N _ bB) ?_)
 rintro v w ⟨Z,a0,bE,rfl,hN,a3⟩
 have hI:=hI.join hN; clear hN
 refine pu (.tuple #[slv Z I.1.length a0,iv I.2]) rfl (pu (slv Z I.1.length a0) rfl (pu (iv I.2) rfl (pu (slv Z I.1.length a0) rfl (pu (iv I.2) rfl (aa (dn (fun ρ w=>∃ (a4:Bool),cd ρ [(5,.bool a1),(6,iv y.1),(7,iv y.2),(8,iv z.1),(9,iv z.2),(10,.pointer (some ⟨aX,0,none⟩)),(11,iv s.2.2),(12,.pointer (some ⟨aY,0,none⟩)),(13,iv t.2.2),(14,.bool A.1),(15,iv A.2),(16,.bool B.1),(17,iv B.2),(18,iv C.1),(19,iv C.2),(20,iv D.1),(21,iv D.2),(22,.bool E.1),(23,iv E.2),(24,.bool F.1),(25,iv F.2),(27,iv H.2),(29,iv I.2),(30,.bool a4)]∧Inv [] w0 w [(some aX,blk [iv s.1,iv s.2.1] 23),(some aY,blk [iv t.1,iv t.2.1] 23)]∧F6j2 a1 y z s t A B C D E F H I a4=some r) ?_ ?_))))))
 ·
  refine rgn rfl (pu (slv X H.1.length Y) rfl (pu (slv Z I.1.length a0) rfl (bt hF (fun bF aZ hF=>?_))))
  refine ifE hF (fun a6 hF=>?_) (fun a6 hF=>?_)
  ·
   refine ac (bg hI 21 [slv X H.1.length Y,slv Z I.1.length a0] kg (by kernel_rfl) (bn.mono (L21 _ (X.map fun b=>⟨b,0,none⟩) Y H.1 (Z.map fun b=>⟨b,0,none⟩) a0 I.1 (hI.rowCells 1 rfl a2) (am rfl a2.big) (am rfl a2.cap) (hI.rowCells 0 rfl a3) (am rfl a3.big) (am rfl a3.cap) N _ aZ) (fun v' w' h=>⟨h.1.trans (congrArg Value.bool a6),h.2⟩)) fun w hI=>pu kg rfl (aa ?_))
   exact .inl ⟨rfl,⟨true,⟨rfl,rfl,rfl,rfl,rfl,rfl,rfl,rfl,rfl,rfl,rfl,rfl,rfl,rfl,rfl,rfl,rfl,rfl,rfl,rfl,rfl,rfl,rfl,rfl,trivial⟩,hI.pk [3,2] rfl rfl,hF⟩⟩
  refine ac (bg hI 21 [slv X H.1.length Y,slv Z I.1.length a0] kf (by kernel_rfl) (bn.mono (L21 _ (X.map fun b=>⟨b,0,none⟩) Y H.1 (Z.map fun b=>⟨b,0,none⟩) a0 I.1 (hI.rowCells 1 rfl a2) (am rfl a2.big) (am rfl a2.cap) (hI.rowCells 0 rfl a3) (am rfl a3.big) (am rfl a3.cap) N _ aZ) (fun v' w' h=>⟨h.1.trans (congrArg Value.bool (Bool.eq_false_iff.2 a6)),h.2⟩)) fun w hI=>pu kf rfl (aa ?_))
  exact .inl ⟨rfl,⟨false,⟨rfl,rfl,rfl,rfl,rfl,rfl,rfl,rfl,rfl,rfl,rfl,rfl,rfl,rfl,rfl,rfl,rfl,rfl,rfl,rfl,rfl,rfl,rfl,rfl,trivial⟩,hI.pk [3,2] rfl rfl,hF⟩⟩
 intro ρ w hJ
 obtain ⟨a4,hag,hI,hF⟩:=hJ
 obtain ⟨ρ,rfl⟩:=hag.form; clear hag
 unfold F6j2 at hF
 refine ab ?_
 have hG:=hF; rcases Bool.eq_false_or_eq_true a1 with rfl | rfl
 ·
  have hF:=hG; clear hG
  refine ifE hF (fun _ hF=>?_) (fun h=>absurd rfl h)
  have hG:=hF; rcases Bool.eq_false_or_eq_true a4 with rfl | rfl
  ·
   have hF:=hG; clear hG
   refine ifE hF (fun _ hF=>?_) (fun h=>absurd rfl h)
   refine rgn rfl (pu kg rfl (pu kg rfl (puo (iv y.1) ⟨rfl,rfl⟩ (puo (iv z.1) ⟨rfl,rfl⟩ (ifE hF (fun a7 hF=>?_) (fun a7 hF=>?_))))))
   ·
    refine aw rfl (di rfl rfl (fun _=>?_) (fun h=>absurd a7 h))
    refine pu kg rfl (pu kg rfl (puo (iv y.2) ⟨rfl,rfl⟩ (puo (iv z.2) ⟨rfl,rfl⟩ (ifE hF (fun a8 hF=>?_) (fun a8 hF=>?_)))))
    ·
     refine aw rfl (di rfl rfl (fun _=>?_) (fun h=>absurd a8 h))
     refine pu kg rfl (pu kg rfl (aw rfl (ar hI 0 2 [iv s.1,iv s.2.1] isAgg23 sizeOf23 rfl rfl rfl rfl ?_)))
     refine aw rfl (ar hI 1 2 [iv t.1,iv t.2.1] isAgg23 sizeOf23 rfl rfl rfl rfl ?_)
     refine ifE hF (fun a9 hF=>?_) (fun a9 hF=>?_)
     ·
      refine aw rfl (kz (b:=decide (s.1=t.1) && decide (s.2.1=t.2.1)) rfl rfl (by kernel_rfl) (fun w=>eq23 _ s.1 s.2.1 t.1 t.2.1 w) (fun _=>?_) (fun h=>absurd a9 h))
      refine pu kg rfl (pu kg rfl (puo (iv s.2.2) ⟨rfl,rfl⟩ (puo (iv t.2.2) ⟨rfl,rfl⟩ (ifE hF (fun aA hF=>?_) (fun aA hF=>?_)))))
      ·
       refine aw rfl (di rfl rfl (fun _=>?_) (fun h=>absurd aA h))
       refine pu kg rfl (pu kg rfl (puo (.bool A.1) ⟨rfl,rfl⟩ (puo (.bool B.1) ⟨rfl,rfl⟩ (ifE hF (fun aB hF=>?_) (fun aB hF=>?_)))))
       ·
        refine aw rfl (s_eqlB underlying4 rfl rfl (fun _=>?_) (fun h=>absurd aB h))
        refine pu kg rfl (pu kg rfl (puo (iv A.2) ⟨rfl,rfl⟩ (puo (iv B.2) ⟨rfl,rfl⟩ (ifE hF (fun aC hF=>?_) (fun aC hF=>?_)))))
        ·
         refine aw rfl (di rfl rfl (fun _=>?_) (fun h=>absurd aC h))
         refine pu kg rfl (pu kg rfl (puo (iv C.1) ⟨rfl,rfl⟩ (puo (iv D.1) ⟨rfl,rfl⟩ (ifE hF (fun aD hF=>?_) (fun aD hF=>?_)))))
         ·
          refine aw rfl (di rfl rfl (fun _=>?_) (fun h=>absurd aD h))
          refine pu kg rfl (pu kg rfl (puo (iv C.2) ⟨rfl,rfl⟩ (puo (iv D.2) ⟨rfl,rfl⟩ (ifE hF (fun aE hF=>?_) (fun aE hF=>?_)))))
          ·
           refine aw rfl (di rfl rfl (fun _=>?_) (fun h=>absurd aE h))
           refine pu kg rfl (pu kg rfl (puo (.bool E.1) ⟨rfl,rfl⟩ (puo (.bool F.1) ⟨rfl,rfl⟩ (ifE hF (fun aF hF=>?_) (fun aF hF=>?_)))))
           ·
            refine aw rfl (s_eqlB underlying4 rfl rfl (fun _=>?_) (fun h=>absurd aF h))
            refine pu kg rfl (pu kg rfl (puo (iv E.2) ⟨rfl,rfl⟩ (puo (iv F.2) ⟨rfl,rfl⟩ (ifE hF (fun aG hF=>?_) (fun aG hF=>?_)))))
            ·
             refine aw rfl (di rfl rfl (fun _=>?_) (fun h=>absurd aG h))
             refine pu kg rfl (pu kg rfl (puo kg ⟨rfl,rfl⟩ (pu kg rfl (pu kg rfl (puo (iv H.2) ⟨rfl,rfl⟩ (puo (iv I.2) ⟨rfl,rfl⟩ (ifE hF (fun aH hF=>?_) (fun aH hF=>?_))))))))
             ·
              refine aw rfl (di rfl rfl (fun _=>?_) (fun h=>absurd aH h))
              refine pu kg rfl (pu kg rfl (aa (aj ?_)))
              replace hF:=Option.some.inj hF; subst hF
              exact ⟨.bool true,Ret.r1 rfl rfl,⟨rfl,hI.below⟩⟩
             refine aw rfl (di rfl rfl (fun h=>absurd h aH) (fun _=>?_))
             refine pu kf rfl (pu kf rfl (aa (aj ?_)))
             replace hF:=Option.some.inj hF; subst hF
             exact ⟨.bool false,Ret.r1 rfl rfl,⟨rfl,hI.below⟩⟩
            refine aw rfl (di rfl rfl (fun h=>absurd h aG) (fun _=>?_))
            refine pu kf rfl (pu kf rfl (of_ rfl (pu kf rfl (pu kf rfl (sf 3 rfl (pu kf rfl (pu kf rfl (aa (aj ?_)))))))))
            replace hF:=Option.some.inj hF; subst hF
            exact ⟨.bool false,Ret.r1 rfl rfl,⟨rfl,hI.below⟩⟩
           refine aw rfl (s_eqlB underlying4 rfl rfl (fun h=>absurd h aF) (fun _=>?_))
           refine pu kf rfl (pu kf rfl (sf 3 rfl (pu kf rfl (pu kf rfl (of_ rfl (pu kf rfl (pu kf rfl (sf 3 rfl (pu kf rfl ?_)))))))))
           refine pu kf rfl (aa (aj ?_))
           replace hF:=Option.some.inj hF; subst hF
           exact ⟨.bool false,Ret.r1 rfl rfl,⟨rfl,hI.below⟩⟩
          refine aw rfl (di rfl rfl (fun h=>absurd h aE) (fun _=>?_))
          refine pu kf rfl (pu kf rfl (sf 3 rfl (pu kf rfl (pu kf rfl (sf 3 rfl (pu kf rfl (pu kf rfl (of_ rfl (pu kf rfl ?_)))))))))
          refine pu kf rfl (sf 3 rfl (pu kf rfl (pu kf rfl (aa (aj ?_)))))
          replace hF:=Option.some.inj hF; subst hF
          exact ⟨.bool false,Ret.r1 rfl rfl,⟨rfl,hI.below⟩⟩
         refine aw rfl (di rfl rfl (fun h=>absurd h aD) (fun _=>?_))
         refine pu kf rfl (pu kf rfl (sf 3 rfl (pu kf rfl (pu kf rfl (sf 3 rfl (pu kf rfl (pu kf rfl (sf 3 rfl (pu kf rfl ?_)))))))))
         refine pu kf rfl (of_ rfl (pu kf rfl (pu kf rfl (sf 3 rfl (pu kf rfl (pu kf rfl (aa (aj ?_))))))))
         replace hF:=Option.some.inj hF; subst hF
         exact ⟨.bool false,Ret.r1 rfl rfl,⟨rfl,hI.below⟩⟩
        refine aw rfl (di rfl rfl (fun h=>absurd h aC) (fun _=>?_))
        refine pu kf rfl (pu kf rfl (sf 3 rfl (pu kf rfl (pu kf rfl (sf 3 rfl (pu kf rfl (pu kf rfl (sf 3 rfl (pu kf rfl ?_)))))))))
        refine pu kf rfl (sf 3 rfl (pu kf rfl (pu kf rfl (of_ rfl (pu kf rfl (pu kf rfl (sf 3 rfl (pu kf rfl (pu kf rfl ?_)))))))))
        refine aa (aj ?_)
        replace hF:=Option.some.inj hF; subst hF
        exact ⟨.bool false,Ret.r1 rfl rfl,⟨rfl,hI.below⟩⟩
       refine aw rfl (s_eqlB underlying4 rfl rfl (fun h=>absurd h aB) (fun _=>?_))
       refine pu kf rfl (pu kf rfl (sf 3 rfl (pu kf rfl (pu kf rfl (sf 3 rfl (pu kf rfl (pu kf rfl (sf 3 rfl (pu kf rfl ?_)))))))))
       refine pu kf rfl (sf 3 rfl (pu kf rfl (pu kf rfl (sf 3 rfl (pu kf rfl (pu kf rfl (of_ rfl (pu kf rfl (pu kf rfl ?_)))))))))
       refine sf 3 rfl (pu kf rfl (pu kf rfl (aa (aj ?_))))
       replace hF:=Option.some.inj hF; subst hF
       exact ⟨.bool false,Ret.r1 rfl rfl,⟨rfl,hI.below⟩⟩
      refine aw rfl (di rfl rfl (fun h=>absurd h aA) (fun _=>?_))
      refine pu kf rfl (pu kf rfl (sf 3 rfl (pu kf rfl (pu kf rfl (sf 3 rfl (pu kf rfl (pu kf rfl (sf 3 rfl (pu kf rfl ?_)))))))))
      refine pu kf rfl (sf 3 rfl (pu kf rfl (pu kf rfl (sf 3 rfl (pu kf rfl (pu kf rfl (sf 3 rfl (pu kf rfl (pu kf rfl ?_)))))))))
      refine of_ rfl (pu kf rfl (pu kf rfl (sf 3 rfl (pu kf rfl (pu kf rfl (aa (aj ?_)))))))
      replace hF:=Option.some.inj hF; subst hF
      exact ⟨.bool false,Ret.r1 rfl rfl,⟨rfl,hI.below⟩⟩
     refine aw rfl (kz (b:=decide (s.1=t.1) && decide (s.2.1=t.2.1)) rfl rfl (by kernel_rfl) (fun w=>eq23 _ s.1 s.2.1 t.1 t.2.1 w) (fun h=>absurd h a9) (fun _=>?_))
     refine pu kf rfl (pu kf rfl (sf 3 rfl (pu kf rfl (pu kf rfl (sf 3 rfl (pu kf rfl (pu kf rfl (sf 3 rfl (pu kf rfl ?_)))))))))
     refine pu kf rfl (sf 3 rfl (pu kf rfl (pu kf rfl (sf 3 rfl (pu kf rfl (pu kf rfl (sf 3 rfl (pu kf rfl (pu kf rfl ?_)))))))))
     refine sf 3 rfl (pu kf rfl (pu kf rfl (of_ rfl (pu kf rfl (pu kf rfl (sf 3 rfl (pu kf rfl (pu kf rfl (aa ?_)))))))))
     refine aj ?_
     replace hF:=Option.some.inj hF; subst hF
     exact ⟨.bool false,Ret.r1 rfl rfl,⟨rfl,hI.below⟩⟩
    refine aw rfl (di rfl rfl (fun h=>absurd h a8) (fun _=>?_))
    refine pu kf rfl (pu kf rfl (sf 3 rfl (pu kf rfl (pu kf rfl (sf 3 rfl (pu kf rfl (pu kf rfl (sf 3 rfl (pu kf rfl ?_)))))))))
    refine pu kf rfl (sf 3 rfl (pu kf rfl (pu kf rfl (sf 3 rfl (pu kf rfl (pu kf rfl (sf 3 rfl (pu kf rfl (pu kf rfl ?_)))))))))
    refine sf 3 rfl (pu kf rfl (pu kf rfl (sf 3 rfl (pu kf rfl (pu kf rfl (of_ rfl (pu kf rfl (pu kf rfl (of_ rfl ?_)))))))))
    refine sf 2 rfl (pu kf rfl (pu kf rfl (aa (aj ?_))))
    replace hF:=Option.some.inj hF; subst hF
    exact ⟨.bool false,Ret.r1 rfl rfl,⟨rfl,hI.below⟩⟩
   refine aw rfl (di rfl rfl (fun h=>absurd h a7) (fun _=>?_))
   refine pu kf rfl (pu kf rfl (sf 3 rfl (pu kf rfl (pu kf rfl (sf 3 rfl (pu kf rfl (pu kf rfl (sf 3 rfl (pu kf rfl ?_)))))))))
   refine pu kf rfl (sf 3 rfl (pu kf rfl (pu kf rfl (sf 3 rfl (pu kf rfl (pu kf rfl (sf 3 rfl (pu kf rfl (pu kf rfl ?_)))))))))
   refine sf 3 rfl (pu kf rfl (pu kf rfl (sf 3 rfl (pu kf rfl (pu kf rfl (sf 3 rfl (pu kf rfl (pu kf rfl (of_ rfl ?_)))))))))
   refine pu kf rfl (pu kf rfl (sf 3 rfl (pu kf rfl (pu kf rfl (aa (aj ?_))))))
   replace hF:=Option.some.inj hF; subst hF
   exact ⟨.bool false,Ret.r1 rfl rfl,⟨rfl,hI.below⟩⟩
  have hF:=hG; clear hG
  refine ifE hF (fun h=>absurd h (by decide)) (fun _ hF=>?_)
  refine rgn rfl (pu kg rfl (pu kg rfl (puo (iv y.1) ⟨rfl,rfl⟩ (puo (iv z.1) ⟨rfl,rfl⟩ (ifE hF (fun aI hF=>?_) (fun aI hF=>?_))))))
  ·
   refine aw rfl (di rfl rfl (fun _=>?_) (fun h=>absurd aI h))
   refine pu kg rfl (pu kg rfl (puo (iv y.2) ⟨rfl,rfl⟩ (puo (iv z.2) ⟨rfl,rfl⟩ (ifE hF (fun aJ hF=>?_) (fun aJ hF=>?_)))))
   ·
    refine aw rfl (di rfl rfl (fun _=>?_) (fun h=>absurd aJ h))
    refine pu kg rfl (pu kg rfl (aw rfl (ar hI 0 2 [iv s.1,iv s.2.1] isAgg23 sizeOf23 rfl rfl rfl rfl ?_)))
    refine aw rfl (ar hI 1 2 [iv t.1,iv t.2.1] isAgg23 sizeOf23 rfl rfl rfl rfl ?_)
    refine ifE hF (fun aK hF=>?_) (fun aK hF=>?_)
    ·
     refine aw rfl (kz (b:=decide (s.1=t.1) && decide (s.2.1=t.2.1)) rfl rfl (by kernel_rfl) (fun w=>eq23 _ s.1 s.2.1 t.1 t.2.1 w) (fun _=>?_) (fun h=>absurd aK h))
     refine pu kg rfl (pu kg rfl (puo (iv s.2.2) ⟨rfl,rfl⟩ (puo (iv t.2.2) ⟨rfl,rfl⟩ (ifE hF (fun aL hF=>?_) (fun aL hF=>?_)))))
     ·
      refine aw rfl (di rfl rfl (fun _=>?_) (fun h=>absurd aL h))
      refine pu kg rfl (pu kg rfl (puo (.bool A.1) ⟨rfl,rfl⟩ (puo (.bool B.1) ⟨rfl,rfl⟩ (ifE hF (fun aM hF=>?_) (fun aM hF=>?_)))))
      ·
       refine aw rfl (s_eqlB underlying4 rfl rfl (fun _=>?_) (fun h=>absurd aM h))
       refine pu kg rfl (pu kg rfl (puo (iv A.2) ⟨rfl,rfl⟩ (puo (iv B.2) ⟨rfl,rfl⟩ (ifE hF (fun aN hF=>?_) (fun aN hF=>?_)))))
       ·
        refine aw rfl (di rfl rfl (fun _=>?_) (fun h=>absurd aN h))
        refine pu kg rfl (pu kg rfl (puo (iv C.1) ⟨rfl,rfl⟩ (puo (iv D.1) ⟨rfl,rfl⟩ (ifE hF (fun aO hF=>?_) (fun aO hF=>?_)))))
        ·
         refine aw rfl (di rfl rfl (fun _=>?_) (fun h=>absurd aO h))
         refine pu kg rfl (pu kg rfl (puo (iv C.2) ⟨rfl,rfl⟩ (puo (iv D.2) ⟨rfl,rfl⟩ (ifE hF (fun aP hF=>?_) (fun aP hF=>?_)))))
         ·
          refine aw rfl (di rfl rfl (fun _=>?_) (fun h=>absurd aP h))
          refine pu kg rfl (pu kg rfl (puo (.bool E.1) ⟨rfl,rfl⟩ (puo (.bool F.1) ⟨rfl,rfl⟩ (ifE hF (fun aQ hF=>?_) (fun aQ hF=>?_)))))
          ·
           refine aw rfl (s_eqlB underlying4 rfl rfl (fun _=>?_) (fun h=>absurd aQ h))
           refine pu kg rfl (pu kg rfl (puo (iv E.2) ⟨rfl,rfl⟩ (puo (iv F.2) ⟨rfl,rfl⟩ (ifE hF (fun aR hF=>?_) (fun aR hF=>?_)))))
           ·
            refine aw rfl (di rfl rfl (fun _=>?_) (fun h=>absurd aR h))
            refine pu kg rfl (pu kg rfl (puo kf ⟨rfl,rfl⟩ (pu kf rfl (pu kf rfl (sf 3 rfl (pu kf rfl (pu kf rfl (aa (aj ?_)))))))))
            replace hF:=Option.some.inj hF; subst hF
            exact ⟨.bool false,Ret.r1 rfl rfl,⟨rfl,hI.below⟩⟩
           refine aw rfl (di rfl rfl (fun h=>absurd h aR) (fun _=>?_))
           refine pu kf rfl (pu kf rfl (of_ rfl (pu kf rfl (pu kf rfl (sf 3 rfl (pu kf rfl (pu kf rfl (aa (aj ?_)))))))))
           replace hF:=Option.some.inj hF; subst hF
           exact ⟨.bool false,Ret.r1 rfl rfl,⟨rfl,hI.below⟩⟩
          refine aw rfl (s_eqlB underlying4 rfl rfl (fun h=>absurd h aQ) (fun _=>?_))
          refine pu kf rfl (pu kf rfl (sf 3 rfl (pu kf rfl (pu kf rfl (of_ rfl (pu kf rfl (pu kf rfl (sf 3 rfl (pu kf rfl ?_)))))))))
          refine pu kf rfl (aa (aj ?_))
          replace hF:=Option.some.inj hF; subst hF
          exact ⟨.bool false,Ret.r1 rfl rfl,⟨rfl,hI.below⟩⟩
         refine aw rfl (di rfl rfl (fun h=>absurd h aP) (fun _=>?_))
         refine pu kf rfl (pu kf rfl (sf 3 rfl (pu kf rfl (pu kf rfl (sf 3 rfl (pu kf rfl (pu kf rfl (of_ rfl (pu kf rfl ?_)))))))))
         refine pu kf rfl (sf 3 rfl (pu kf rfl (pu kf rfl (aa (aj ?_)))))
         replace hF:=Option.some.inj hF; subst hF
         exact ⟨.bool false,Ret.r1 rfl rfl,⟨rfl,hI.below⟩⟩
        refine aw rfl (di rfl rfl (fun h=>absurd h aO) (fun _=>?_))
        refine pu kf rfl (pu kf rfl (sf 3 rfl (pu kf rfl (pu kf rfl (sf 3 rfl (pu kf rfl (pu kf rfl (sf 3 rfl (pu kf rfl ?_)))))))))
        refine pu kf rfl (of_ rfl (pu kf rfl (pu kf rfl (sf 3 rfl (pu kf rfl (pu kf rfl (aa (aj ?_))))))))
        replace hF:=Option.some.inj hF; subst hF
        exact ⟨.bool false,Ret.r1 rfl rfl,⟨rfl,hI.below⟩⟩
       refine aw rfl (di rfl rfl (fun h=>absurd h aN) (fun _=>?_))
       refine pu kf rfl (pu kf rfl (sf 3 rfl (pu kf rfl (pu kf rfl (sf 3 rfl (pu kf rfl (pu kf rfl (sf 3 rfl (pu kf rfl ?_)))))))))
       refine pu kf rfl (sf 3 rfl (pu kf rfl (pu kf rfl (of_ rfl (pu kf rfl (pu kf rfl (sf 3 rfl (pu kf rfl (pu kf rfl ?_)))))))))
       refine aa (aj ?_)
       replace hF:=Option.some.inj hF; subst hF
       exact ⟨.bool false,Ret.r1 rfl rfl,⟨rfl,hI.below⟩⟩
      refine aw rfl (s_eqlB underlying4 rfl rfl (fun h=>absurd h aM) (fun _=>?_))
      refine pu kf rfl (pu kf rfl (sf 3 rfl (pu kf rfl (pu kf rfl (sf 3 rfl (pu kf rfl (pu kf rfl (sf 3 rfl (pu kf rfl ?_)))))))))
      refine pu kf rfl (sf 3 rfl (pu kf rfl (pu kf rfl (sf 3 rfl (pu kf rfl (pu kf rfl (of_ rfl (pu kf rfl (pu kf rfl ?_)))))))))
      refine sf 3 rfl (pu kf rfl (pu kf rfl (aa (aj ?_))))
      replace hF:=Option.some.inj hF; subst hF
      exact ⟨.bool false,Ret.r1 rfl rfl,⟨rfl,hI.below⟩⟩
     refine aw rfl (di rfl rfl (fun h=>absurd h aL) (fun _=>?_))
     refine pu kf rfl (pu kf rfl (sf 3 rfl (pu kf rfl (pu kf rfl (sf 3 rfl (pu kf rfl (pu kf rfl (sf 3 rfl (pu kf rfl ?_)))))))))
     refine pu kf rfl (sf 3 rfl (pu kf rfl (pu kf rfl (sf 3 rfl (pu kf rfl (pu kf rfl (sf 3 rfl (pu kf rfl (pu kf rfl ?_)))))))))
     refine of_ rfl (pu kf rfl (pu kf rfl (sf 3 rfl (pu kf rfl (pu kf rfl (aa (aj ?_)))))))
     replace hF:=Option.some.inj hF; subst hF
     exact ⟨.bool false,Ret.r1 rfl rfl,⟨rfl,hI.below⟩⟩
    refine aw rfl (kz (b:=decide (s.1=t.1) && decide (s.2.1=t.2.1)) rfl rfl (by kernel_rfl) (fun w=>eq23 _ s.1 s.2.1 t.1 t.2.1 w) (fun h=>absurd h aK) (fun _=>?_))
    refine pu kf rfl (pu kf rfl (sf 3 rfl (pu kf rfl (pu kf rfl (sf 3 rfl (pu kf rfl (pu kf rfl (sf 3 rfl (pu kf rfl ?_)))))))))
    refine pu kf rfl (sf 3 rfl (pu kf rfl (pu kf rfl (sf 3 rfl (pu kf rfl (pu kf rfl (sf 3 rfl (pu kf rfl (pu kf rfl ?_)))))))))
    refine sf 3 rfl (pu kf rfl (pu kf rfl (of_ rfl (pu kf rfl (pu kf rfl (sf 3 rfl (pu kf rfl (pu kf rfl (aa ?_)))))))))
    refine aj ?_
    replace hF:=Option.some.inj hF; subst hF
    exact ⟨.bool false,Ret.r1 rfl rfl,⟨rfl,hI.below⟩⟩
   refine aw rfl (di rfl rfl (fun h=>absurd h aJ) (fun _=>?_))
   refine pu kf rfl (pu kf rfl (sf 3 rfl (pu kf rfl (pu kf rfl (sf 3 rfl (pu kf rfl (pu kf rfl (sf 3 rfl (pu kf rfl ?_)))))))))
   refine pu kf rfl (sf 3 rfl (pu kf rfl (pu kf rfl (sf 3 rfl (pu kf rfl (pu kf rfl (sf 3 rfl (pu kf rfl (pu kf rfl ?_)))))))))
   refine sf 3 rfl (pu kf rfl (pu kf rfl (sf 3 rfl (pu kf rfl (pu kf rfl (of_ rfl (pu kf rfl (pu kf rfl (of_ rfl ?_)))))))))
   refine sf 2 rfl (pu kf rfl (pu kf rfl (aa (aj ?_))))
   replace hF:=Option.some.inj hF; subst hF
   exact ⟨.bool false,Ret.r1 rfl rfl,⟨rfl,hI.below⟩⟩
  refine aw rfl (di rfl rfl (fun h=>absurd h aI) (fun _=>?_))
  refine pu kf rfl (pu kf rfl (sf 3 rfl (pu kf rfl (pu kf rfl (sf 3 rfl (pu kf rfl (pu kf rfl (sf 3 rfl (pu kf rfl ?_)))))))))
  refine pu kf rfl (sf 3 rfl (pu kf rfl (pu kf rfl (sf 3 rfl (pu kf rfl (pu kf rfl (sf 3 rfl (pu kf rfl (pu kf rfl ?_)))))))))
  refine sf 3 rfl (pu kf rfl (pu kf rfl (sf 3 rfl (pu kf rfl (pu kf rfl (sf 3 rfl (pu kf rfl (pu kf rfl (of_ rfl ?_)))))))))
  refine pu kf rfl (pu kf rfl (sf 3 rfl (pu kf rfl (pu kf rfl (aa (aj ?_))))))
  replace hF:=Option.some.inj hF; subst hF
  exact ⟨.bool false,Ret.r1 rfl rfl,⟨rfl,hI.below⟩⟩
 have hF:=hG; clear hG
 refine ifE hF (fun h=>absurd h (by decide)) (fun _ hF=>?_)
 have hG:=hF; rcases Bool.eq_false_or_eq_true a4 with rfl | rfl
 ·
  have hF:=hG; clear hG
  refine ifE hF (fun _ hF=>?_) (fun h=>absurd rfl h)
  refine rgn rfl (pu kf rfl (pu kf rfl (sf 3 rfl (pu kf rfl (pu kf rfl (sf 3 rfl (pu kf rfl (pu kf rfl (of_ rfl ?_)))))))))
  refine sf 2 rfl (pu kf rfl (pu kf rfl (sf 3 rfl (pu kf rfl (pu kf rfl (sf 3 rfl (pu kf rfl (pu kf rfl (of_ rfl ?_)))))))))
  refine sf 2 rfl (pu kf rfl (pu kf rfl (sf 3 rfl (pu kf rfl (pu kf rfl (sf 3 rfl (pu kf rfl (pu kf rfl (of_ rfl ?_)))))))))
  refine sf 2 rfl (pu kf rfl (pu kf rfl (sf 3 rfl (pu kf rfl (pu kf rfl (of_ rfl (pu kf rfl (pu kf rfl (of_ rfl ?_)))))))))
  refine sf 2 rfl (pu kf rfl (pu kf rfl (aa (aj ?_))))
  replace hF:=Option.some.inj hF; subst hF
  exact ⟨.bool false,Ret.r1 rfl rfl,⟨rfl,hI.below⟩⟩
 have hF:=hG; clear hG
 refine ifE hF (fun h=>absurd h (by decide)) (fun _ hF=>?_)
 refine rgn rfl (pu kf rfl (pu kf rfl (sf 3 rfl (pu kf rfl (pu kf rfl (sf 3 rfl (pu kf rfl (pu kf rfl (of_ rfl ?_)))))))))
 refine sf 2 rfl (pu kf rfl (pu kf rfl (sf 3 rfl (pu kf rfl (pu kf rfl (sf 3 rfl (pu kf rfl (pu kf rfl (of_ rfl ?_)))))))))
 refine sf 2 rfl (pu kf rfl (pu kf rfl (sf 3 rfl (pu kf rfl (pu kf rfl (sf 3 rfl (pu kf rfl (pu kf rfl (of_ rfl ?_)))))))))
 refine sf 2 rfl (pu kf rfl (pu kf rfl (sf 3 rfl (pu kf rfl (pu kf rfl (of_ rfl (pu kf rfl (pu kf rfl (of_ rfl ?_)))))))))
 refine sf 2 rfl (pu kf rfl (pu kf rfl (aa (aj ?_))))
 replace hF:=Option.some.inj hF; subst hF
 exact ⟨.bool false,Ret.r1 rfl rfl,⟨rfl,hI.below⟩⟩

end Go.K
