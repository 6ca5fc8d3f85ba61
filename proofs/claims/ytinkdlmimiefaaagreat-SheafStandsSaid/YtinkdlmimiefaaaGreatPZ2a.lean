import Derived.Test.YtinkdlmimiefaaaGreatPZa
import Derived.Test.YtinkdlmimiefaaaGreatPKt
import Derived.Test.YtinkdlmimiefaaaGreatPE2
import Derived.Tactics2
namespace Go.K
open Go.Proofs.Tryz
open Go.Proofs Go.RowKit
set_option linter.unusedVariables false
set_option linter.unusedSimpArgs false
set_option maxRecDepth 100000
attribute [local irreducible] Seq cw cx fl opX
theorem L42 (w0:World) (f:Int) (g:Int) (i:Option Addr) (j:Nat) (a:List Ld) (k:Option Addr) (l:Nat) (b:List Ld) (m:Option Addr) (n:Nat) (d:List Sp) (o:Int) (p:Int) (q:Int) (s:Option Addr) (t:Nat) (e:List Int) (u:bi w0 i (al eLd a)) (x:a.length≤9223372036854775807) (E:a.length≤j) (y:bi w0 k (al eLd b)) (z:b.length≤9223372036854775807) (F:b.length≤l) (A:bi w0 m (al eSp d)) (B:d.length≤9223372036854775807) (G:d.length≤n) (C:bi w0 s (al dv e)) (D:e.length≤9223372036854775807) (H:e.length≤t) (r:Int) (hF:F42 f g a b d o p q e=some r):bn Tryz.prog 42 [.agg #[.int .i64 f,.int .i64 g,.slice i a.length j,.slice k b.length l,.slice m d.length n,.int .i64 o],.int .i64 p,.agg #[.int .i64 q,.slice s e.length t]] w0 fun v w=>v=.int .i64 r∧Below w0.heap.size w0 w:=by
  replace hF:=Option.some.inj hF; subst hF
  exact bn.mono (Carting_i w0 (⟨f,g,a,b,d,o⟩:Pl) i _ j k _ l m _ n ⟨u,rfl,y,rfl,A,rfl,x,z,B⟩ p q s t e C D) (fun v w h=>h)

theorem L40 (w0:World) (f:Int) (g:Int) (i:Option Addr) (j:Nat) (a:List Ld) (k:Option Addr) (l:Nat) (b:List Ld) (m:Option Addr) (n:Nat) (d:List Sp) (o:Int) (p:Int) (q:Option Addr) (s:Nat) (e:List Int) (t:Int) (u:Int) (x:bi w0 i (al eLd a)) (y:a.length≤9223372036854775807) (F:a.length≤j) (z:bi w0 k (al eLd b)) (A:b.length≤9223372036854775807) (G:b.length≤l) (B:bi w0 m (al eSp d)) (C:d.length≤9223372036854775807) (H:d.length≤n) (D:bi w0 q (al dv e)) (E:e.length≤9223372036854775807) (I:e.length≤s) (r:(Int × Int)) (hF:F40 f g a b d o p e t u=some r):bn Tryz.prog 40 [.agg #[.int .i64 f,.int .i64 g,.slice i a.length j,.slice k b.length l,.slice m d.length n,.int .i64 o],.agg #[.int .i64 p,.slice q e.length s],.int .i64 t,.int .i64 u] w0 fun v w=>v=.tuple #[.int .i64 r.1,.int .i64 r.2]∧Below w0.heap.size w0 w:=by
  replace hF:=Option.some.inj hF; subst hF
  exact bn.mono (Left_i w0 (⟨f,g,a,b,d,o⟩:Pl) i _ j k _ l m _ n ⟨x,rfl,z,rfl,B,rfl,y,A,C⟩ p q s e D E t u) (fun v w h=>h)

theorem L44 (w0:World) (f:Int) (i:Int) (j:Option Addr) (k:Nat) (a:List Ld) (l:Option Addr) (m:Nat) (b:List Ld) (n:Option Addr) (o:Nat) (d:List Sp) (p:Int) (q:Int) (s:Int) (t:Bool) (u:bi w0 j (al eLd a)) (x:a.length≤9223372036854775807) (C:a.length≤k) (y:bi w0 l (al eLd b)) (z:b.length≤9223372036854775807) (D:b.length≤m) (A:bi w0 n (al eSp d)) (B:d.length≤9223372036854775807) (E:d.length≤o) (r:(Int × List Int × Int)) (hF:F44 f i a b d p q s t=some r):bn Tryz.prog 44 [.agg #[.int .i64 f,.int .i64 i,.slice j a.length k,.slice l b.length m,.slice n d.length o,.int .i64 p],.int .i64 q,.int .i64 s,.bool t] w0 fun v w=>∃ (z0:Option Nat) (z1:Nat) (z2:List Value),v=.tuple #[.agg #[.int .i64 r.1,slv z0 r.2.1.length z1],.int .i64 r.2.2]∧Inv [] w0 w [(z0,blk z2 3)]∧Row 1 z0 r.2.1.length z1 z2 (al dv r.2.1):=by
  replace hF:=Option.some.inj hF; subst hF
  exact bn.mono (Attain_i w0 (⟨f,i,a,b,d,p⟩:Pl) j _ k l _ m n _ o ⟨u,rfl,y,rfl,A,rfl,x,z,B⟩ q s t) (fun v w h=>(by obtain ⟨v1,e,g,c,cl,h1,h2,h3⟩:=h; exact ⟨g,c,cl,by rw [e,h1],h2,h3⟩))


theorem L5 (w0:World) (g:Int) (i:Int) (l:Option Addr) (o:Nat) (a:List Ld) (p:Option Addr) (q:Nat) (d:List Ld) (s:Option Addr) (t:Nat) (e:List Sp) (j:Int) (C:Int) (D:Option Addr) (E:Nat) (y:List Int) (u:Int) (G:Int) (f:Int) (K:bi w0 l (al eLd a)) (L:a.length≤9223372036854775807) (M:a.length≤o) (O:bi w0 p (al eLd d)) (P:d.length≤9223372036854775807) (Q:d.length≤q) (R:bi w0 s (al eSp e)) (S:e.length≤9223372036854775807) (T:e.length≤t) (a3:bi w0 D (al dv y)) (a4:y.length≤9223372036854775807) (a5:y.length≤E) (N:Nat) (r:Bool) (hF:F5 N g i a d e j C y u G f=some r):bn Tryz.prog 5 [.agg #[.int .i64 g,.int .i64 i,.slice l a.length o,.slice p d.length q,.slice s e.length t,.int .i64 j],.agg #[.int .i64 C,.slice D y.length E,.int .i64 u,.int .i64 G,.int .i64 f]] w0 fun v w=>v=.bool r∧Below w0.heap.size w0 w:=by
 refine az (n:=192) func5 rfl ntmps5 rfl ?_
 have hI:=Inv.start w0
 unfold F5 at hF
 refine ab (rgn rfl (ac (ca hI [iv g,iv i,.slice l a.length o,.slice p d.length q,.slice s e.length t,iv j] rfl fun V w hI=>ac (ca hI [iv C,.slice D y.length E,iv u,iv G,iv f] rfl fun x w hI=>pu (.bool false) rfl (aa (dn (fun ρ w=>∃ (a6:Bool),cd ρ [(2,.pointer (some ⟨V,0,none⟩)),(3,.pointer (some ⟨x,0,none⟩)),(5,.bool a6)]∧Inv [] w0 w [(some V,blk [iv g,iv i,.slice l a.length o,.slice p d.length q,.slice s e.length t,iv j] 28),(some x,blk [iv C,.slice D y.length E,iv u,iv G,iv f] 59)]∧F5j1 g i a d e j C y u G f N a6=some r) ?_ ?_))))))
 ·
  refine rgn rfl (bt hF (fun bK aZ hF=>?_))
  refine ifE hF (fun aC hF=>?_) (fun aC hF=>?_)
  ·
   refine ac (bg hI 13 [] (.bool true) (by kernel_rfl) (bn.mono (L13 _ N _ aZ) (fun v' w' h=>⟨h.1.trans (congrArg Value.bool aC),h.2⟩)) fun w hI=>pu (.bool true) rfl (aa ?_))
   exact .inl ⟨rfl,⟨true,⟨rfl,rfl,rfl,trivial⟩,hI.pk [1,0] rfl rfl,hF⟩⟩
  refine ac (bg hI 13 [] (.bool false) (by kernel_rfl) (bn.mono (L13 _ N _ aZ) (fun v' w' h=>⟨h.1.trans (congrArg Value.bool (Bool.eq_false_iff.2 aC)),h.2⟩)) fun w hI=>pu (.bool false) rfl (aa ?_))
  exact .inl ⟨rfl,⟨false,⟨rfl,rfl,rfl,trivial⟩,hI.pk [1,0] rfl rfl,hF⟩⟩
 intro ρ w hJ
 obtain ⟨a6,hag,hI,hF⟩:=hJ
 obtain ⟨ρ,rfl⟩:=hag.form; clear hag
 unfold F5j1 at hF
 refine ab (rgn rfl (ac (ar hI 0 6 [iv g,iv i,.slice l a.length o,.slice p d.length q,.slice s e.length t,iv j] isAgg28 sizeOf28 rfl rfl rfl rfl ?_)))
 refine pu (.pointer (some ⟨x,2,none⟩)) rfl (ac (ag hI 1 (iv u) isAgg3 rfl rfl rfl ?_))
 refine pu (.pointer (some ⟨x,4,none⟩)) rfl (ac (ag hI 1 (iv f) isAgg3 rfl rfl rfl ?_))
 refine bt hF (fun z b0 hF=>?_)
 refine ac (bg hI 36 [.agg #[iv g,iv i,.slice l a.length o,.slice p d.length q,.slice s e.length t,iv j],iv u,iv f] (.tuple #[.agg #[iv z.1,iv z.2.1],iv z.2.2]) (by kernel_rfl) (L36 _ g i l o a p q d s t e j u f (K.inv0 hI) L M (O.inv0 hI) P Q (R.inv0 hI) S T _ b0) fun w hI=>pu (.tuple #[.agg #[iv z.1,iv z.2.1],iv z.2.2]) rfl (pu (.agg #[iv z.1,iv z.2.1]) rfl (pu (iv z.2.2) rfl (ac (bh hI [iv 0,iv 0] zeroValue23 rfl fun bL w hI=>ac (aq hI 0 2 [iv z.1,iv z.2.1] sizeOf23 rfl rfl rfl rfl rfl (Nat.le_of_ble_eq_true rfl) fun w hI=>pu (iv z.2.2) rfl (aa (ab (rgn rfl (ac (ar hI 1 6 [iv g,iv i,.slice l a.length o,.slice p d.length q,.slice s e.length t,iv j] isAgg28 sizeOf28 rfl rfl rfl rfl ?_)))))))))))
 refine pu (.pointer (some ⟨x,2,none⟩)) rfl (ac (ag hI 2 (iv u) isAgg3 rfl rfl rfl ?_))
 refine pu (.pointer (some ⟨x,4,none⟩)) rfl (ac (ag hI 2 (iv f) isAgg3 rfl rfl rfl ?_))
 refine bt hF (fun k b1 hF=>?_)
 refine ac (bg hI 37 [.agg #[iv g,iv i,.slice l a.length o,.slice p d.length q,.slice s e.length t,iv j],iv u,iv f] (.tuple #[.agg #[iv k.1,iv k.2.1],iv k.2.2]) (by kernel_rfl) (L37 _ g i l o a p q d s t e j u f (K.inv0 hI) L M (O.inv0 hI) P Q (R.inv0 hI) S T N _ b1) fun w hI=>pu (.tuple #[.agg #[iv k.1,iv k.2.1],iv k.2.2]) rfl (pu (.agg #[iv k.1,iv k.2.1]) rfl (pu (iv k.2.2) rfl (ac (bh hI [iv 0,iv 0] zeroValue23 rfl fun U w hI=>ac (aq hI 0 2 [iv k.1,iv k.2.1] sizeOf23 rfl rfl rfl rfl rfl (Nat.le_of_ble_eq_true rfl) fun w hI=>pu (iv k.2.2) rfl (aa (ab (rgn rfl (ac (ar hI 2 6 [iv g,iv i,.slice l a.length o,.slice p d.length q,.slice s e.length t,iv j] isAgg28 sizeOf28 rfl rfl rfl rfl ?_)))))))))))
 refine pu (.pointer (some ⟨x,3,none⟩)) rfl (ac (ag hI 3 (iv G) isAgg3 rfl rfl rfl ?_))
 refine pu (.pointer (some ⟨x,4,none⟩)) rfl (ac (ag hI 3 (iv f) isAgg3 rfl rfl rfl ?_))
 refine bt hF (fun A b2 hF=>?_)
 refine ac (bg hI 38 [.agg #[iv g,iv i,.slice l a.length o,.slice p d.length q,.slice s e.length t,iv j],iv G,iv f] (.tuple #[.agg #[iv A.1,iv A.2.1],iv A.2.2]) (by kernel_rfl) (L38 _ g i l o a p q d s t e j G f (K.inv0 hI) L M (O.inv0 hI) P Q (R.inv0 hI) S T _ b2) fun w hI=>pu (.tuple #[.agg #[iv A.1,iv A.2.1],iv A.2.2]) rfl (pu (.agg #[iv A.1,iv A.2.1]) rfl (pu (iv A.2.2) rfl (ac (bh hI [iv 0,iv 0] zeroValue23 rfl fun bM w hI=>ac (aq hI 0 2 [iv A.1,iv A.2.1] sizeOf23 rfl rfl rfl rfl rfl (Nat.le_of_ble_eq_true rfl) fun w hI=>pu (iv A.2.2) rfl (aa (ab (rgn rfl (ac (ar hI 3 6 [iv g,iv i,.slice l a.length o,.slice p d.length q,.slice s e.length t,iv j] isAgg28 sizeOf28 rfl rfl rfl rfl ?_)))))))))))
 refine pu (.pointer (some ⟨x,3,none⟩)) rfl (ac (ag hI 4 (iv G) isAgg3 rfl rfl rfl ?_))
 refine pu (.pointer (some ⟨x,4,none⟩)) rfl (ac (ag hI 4 (iv f) isAgg3 rfl rfl rfl ?_))
 refine bt hF (fun B b3 hF=>?_)
 refine ac (bg hI 39 [.agg #[iv g,iv i,.slice l a.length o,.slice p d.length q,.slice s e.length t,iv j],iv G,iv f] (.tuple #[.agg #[iv B.1,iv B.2.1],iv B.2.2]) (by kernel_rfl) (L39 _ g i l o a p q d s t e j G f (K.inv0 hI) L M (O.inv0 hI) P Q (R.inv0 hI) S T N _ b3) fun w hI=>pu (.tuple #[.agg #[iv B.1,iv B.2.1],iv B.2.2]) rfl (pu (.agg #[iv B.1,iv B.2.1]) rfl (pu (iv B.2.2) rfl (ac (bh hI [iv 0,iv 0] zeroValue23 rfl fun bN w hI=>ac (aq hI 0 2 [iv B.1,iv B.2.1] sizeOf23 rfl rfl rfl rfl rfl (Nat.le_of_ble_eq_true rfl) fun w hI=>pu (iv B.2.2) rfl (aa (ab (rgn rfl (ac (ar hI 4 6 [iv g,iv i,.slice l a.length o,.slice p d.length q,.slice s e.length t,iv j] isAgg28 sizeOf28 rfl rfl rfl rfl ?_)))))))))))
 refine pu (.pointer (some ⟨x,0,none⟩)) rfl (ac (ar hI 5 2 [iv C,.slice D y.length E] isAgg57 sizeOf57 rfl rfl rfl rfl ?_))
 refine pu (.pointer (some ⟨x,2,none⟩)) rfl (ac (ag hI 5 (iv u) isAgg3 rfl rfl rfl ?_))
 refine pu (.pointer (some ⟨x,4,none⟩)) rfl (ac (ag hI 5 (iv f) isAgg3 rfl rfl rfl ?_))
 refine bt hF (fun W b4 hF=>?_)
 refine ac (bg hI 40 [.agg #[iv g,iv i,.slice l a.length o,.slice p d.length q,.slice s e.length t,iv j],.agg #[iv C,.slice D y.length E],iv u,iv f] (.tuple #[iv W.1,iv W.2]) (by kernel_rfl) (L40 _ g i l o a p q d s t e j C D E y u f (K.inv0 hI) L M (O.inv0 hI) P Q (R.inv0 hI) S T (a3.inv0 hI) a4 a5 _ b4) fun w hI=>pu (.tuple #[iv W.1,iv W.2]) rfl (pu (iv W.1) rfl (pu (iv W.2) rfl (pu (iv W.1) rfl (pu (iv W.2) rfl (aa (ab (rgn rfl (ac (ar hI 4 6 [iv g,iv i,.slice l a.length o,.slice p d.length q,.slice s e.length t,iv j] isAgg28 sizeOf28 rfl rfl rfl rfl ?_))))))))))
 refine pu (.pointer (some ⟨x,0,none⟩)) rfl (ac (ar hI 5 2 [iv C,.slice D y.length E] isAgg57 sizeOf57 rfl rfl rfl rfl ?_))
 refine pu (.pointer (some ⟨x,2,none⟩)) rfl (ac (ag hI 5 (iv u) isAgg3 rfl rfl rfl ?_))
 refine pu (.pointer (some ⟨x,4,none⟩)) rfl (ac (ag hI 5 (iv f) isAgg3 rfl rfl rfl ?_))
 refine pu (.agg #[iv u,iv f]) (by kernel_rfl) (bt hF (fun X b5 hF=>?_))
 refine ac (bg hI 41 [.agg #[iv g,iv i,.slice l a.length o,.slice p d.length q,.slice s e.length t,iv j],.agg #[iv C,.slice D y.length E],.agg #[iv u,iv f]] (.tuple #[iv X.1,iv X.2]) (by kernel_rfl) (L41 _ g i l o a p q d s t e j C D E y u f (K.inv0 hI) L M (O.inv0 hI) P Q (R.inv0 hI) S T (a3.inv0 hI) a4 a5 N _ b5) fun w hI=>pu (.tuple #[iv X.1,iv X.2]) rfl (pu (iv X.1) rfl (pu (iv X.2) rfl (pu (iv X.1) rfl (pu (iv X.2) rfl (aa (ab (ab ?_))))))))
 have hG:=hF; rcases Bool.eq_false_or_eq_true a6 with rfl | rfl
 ·
  have hF:=hG; clear hG
  refine ifE hF (fun _ hF=>?_) (fun h=>absurd rfl h)
  refine gm 47 hI (by kernel_rfl) ?_
  refine zp (.bool true) (fun _=>rfl) (zp (.bool false) (fun _=>rfl) (zp (.bool false) (fun _=>rfl) (zo (.agg #[iv z.1,iv z.2.1]) rfl (fun w hI=>ar hI 3 2 [iv z.1,iv z.2.1] isAgg23 sizeOf23 rfl rfl rfl rfl br) (zo (.agg #[iv k.1,iv k.2.1]) rfl (fun w hI=>ar hI 2 2 [iv k.1,iv k.2.1] isAgg23 sizeOf23 rfl rfl rfl rfl br) (ifE hF (fun aD hF=>?_) (fun aD hF=>?_))))))
  ·
   refine zo (.bool false) rfl (fun w hI=>s_neqA (b:=decide (z.1=k.1) && decide (z.2.1=k.2.1)) rfl rfl (by kernel_rfl) (fun w=>eq23 _ z.1 z.2.1 k.1 k.2.1 w) (fun h=>absurd aD h) (fun _=>br)) (zp (.bool false) (fun _=>rfl) (zp (.bool false) (fun _=>rfl) (zq (iv z.2.2) rfl (fun _=>rfl) (zq (iv k.2.2) rfl (fun _=>rfl) (ifE hF (fun aE hF=>?_) (fun aE hF=>?_))))))
   ·
    refine zo (.bool false) rfl (fun w hI=>de rfl rfl (fun h=>absurd aE h) (fun _=>br)) (zp (.bool false) (fun _=>rfl) (zp (.bool false) (fun _=>rfl) (zo (.agg #[iv A.1,iv A.2.1]) rfl (fun w hI=>ar hI 1 2 [iv A.1,iv A.2.1] isAgg23 sizeOf23 rfl rfl rfl rfl br) (zo (.agg #[iv B.1,iv B.2.1]) rfl (fun w hI=>ar hI 0 2 [iv B.1,iv B.2.1] isAgg23 sizeOf23 rfl rfl rfl rfl br) (ifE hF (fun aF hF=>?_) (fun aF hF=>?_))))))
    ·
     refine zo (.bool false) rfl (fun w hI=>s_neqA (b:=decide (A.1=B.1) && decide (A.2.1=B.2.1)) rfl rfl (by kernel_rfl) (fun w=>eq23 _ A.1 A.2.1 B.1 B.2.1 w) (fun h=>absurd aF h) (fun _=>br)) (zp (.bool false) (fun _=>rfl) (zp (.bool false) (fun _=>rfl) (zq (iv A.2.2) rfl (fun _=>rfl) (zq (iv B.2.2) rfl (fun _=>rfl) (ifE hF (fun aG hF=>?_) (fun aG hF=>?_))))))
     ·
      refine zo (.bool false) rfl (fun w hI=>de rfl rfl (fun h=>absurd aG h) (fun _=>br)) (zp (.bool false) (fun _=>rfl) (zp (.bool false) (fun _=>rfl) (zq (iv W.1) rfl (fun _=>rfl) (zq (iv X.1) rfl (fun _=>rfl) (ifE hF (fun aH hF=>?_) (fun aH hF=>?_))))))
      ·
       refine zo (.bool false) rfl (fun w hI=>de rfl rfl (fun h=>absurd aH h) (fun _=>br)) (zp (.bool false) (fun _=>rfl) (zp (.bool false) (fun _=>rfl) (zq (iv W.2) rfl (fun _=>rfl) (zq (iv X.2) rfl (fun _=>rfl) (ifE hF (fun aI hF=>?_) (fun aI hF=>?_))))))
       ·
        refine zo (.bool false) rfl (fun w hI=>de rfl rfl (fun h=>absurd aI h) (fun _=>br)) (zp (.bool false) (fun _=>rfl) (zp (.bool false) (fun _=>rfl) (zo (.agg #[iv g,iv i,.slice l a.length o,.slice p d.length q,.slice s e.length t,iv j]) rfl (fun w hI=>ar hI 4 6 [iv g,iv i,.slice l a.length o,.slice p d.length q,.slice s e.length t,iv j] isAgg28 sizeOf28 rfl rfl rfl rfl br) (zq (.pointer (some ⟨x,4,none⟩)) rfl (fun _=>rfl) (zo (iv f) rfl (fun w hI=>ag hI 5 (iv f) isAgg3 rfl rfl rfl br) (zq (.pointer (some ⟨x,0,none⟩)) rfl (fun _=>rfl) (zo (.agg #[iv C,.slice D y.length E]) rfl (fun w hI=>ar hI 5 2 [iv C,.slice D y.length E] isAgg57 sizeOf57 rfl rfl rfl rfl br) (bt hF (fun b6 b7 hF=>?_)))))))))
        refine zo (iv b6) rfl (fun w hI=>co 42 [.agg #[iv g,iv i,.slice l a.length o,.slice p d.length q,.slice s e.length t,iv j],iv f,.agg #[iv C,.slice D y.length E]] (by kernel_rfl) (L42 _ g i l o a p q d s t e j f C D E y (K.inv0 hI) L M (O.inv0 hI) P Q (R.inv0 hI) S T (a3.inv0 hI) a4 a5 _ b7) (fun v' w' h=>h)) (zo (.agg #[iv g,iv i,.slice l a.length o,.slice p d.length q,.slice s e.length t,iv j]) rfl (fun w hI=>ar hI 4 6 [iv g,iv i,.slice l a.length o,.slice p d.length q,.slice s e.length t,iv j] isAgg28 sizeOf28 rfl rfl rfl rfl br) (zq (.pointer (some ⟨x,4,none⟩)) rfl (fun _=>rfl) (zo (iv f) rfl (fun w hI=>ag hI 5 (iv f) isAgg3 rfl rfl rfl br) (zq (.pointer (some ⟨x,0,none⟩)) rfl (fun _=>rfl) (zo (.agg #[iv C,.slice D y.length E]) rfl (fun w hI=>ar hI 5 2 [iv C,.slice D y.length E] isAgg57 sizeOf57 rfl rfl rfl rfl br) (bt hF (fun b8 b9 hF=>?_)))))))
        refine zo (iv b8) rfl (fun w hI=>co 43 [.agg #[iv g,iv i,.slice l a.length o,.slice p d.length q,.slice s e.length t,iv j],iv f,.agg #[iv C,.slice D y.length E]] (by kernel_rfl) (L43 _ g i l o a p q d s t e j f C D E y (K.inv0 hI) L M (O.inv0 hI) P Q (R.inv0 hI) S T (a3.inv0 hI) a4 a5 N _ b9) (fun v' w' h=>h)) (ifE hF (fun aJ hF=>?_) (fun aJ hF=>?_))
        ·
         refine zo (.bool false) rfl (fun w hI=>de rfl rfl (fun h=>absurd aJ h) (fun _=>br)) (zp (.bool false) (fun _=>rfl) (zh (fun w hI=>?_)))
         refine aa (ai rfl (ak (ab (ab (rgn rfl (pu (iv 0) rfl (aa (au ?_))))))))
         refine cb (fun m ρ w=>∃ (F:Int) (mm:Nat),cd ρ [(2,.pointer (some ⟨V,0,none⟩)),(3,.pointer (some ⟨x,0,none⟩)),(8,.pointer (some ⟨U,0,none⟩)),(9,iv k.2.2),(18,iv F)]∧Inv [] w0 w [(some V,blk [iv g,iv i,.slice l a.length o,.slice p d.length q,.slice s e.length t,iv j] 28),(some x,blk [iv C,.slice D y.length E,iv u,iv G,iv f] 59),(some U,blk [iv k.1,iv k.2.1] 23)]∧F5l2 g i a d e j u f N k mm F=some r∧mm=m) (m:=N) ⟨0,N,⟨rfl,rfl,rfl,rfl,rfl,trivial⟩,hI.pk [4,5,2] rfl rfl,hF,rfl⟩ ?_
         rintro m ρ w ⟨F,mm,hag,hI,hF,hm⟩
         subst hm; obtain ⟨ρ,rfl⟩:=hag.form; clear hag
         obtain _ | m2:=mm
         ·cases (show (none:Option Bool)=some r from hF)
         replace hF:F5b2 g i a d e j u f N k (F5l2 g i a d e j u f N k m2) F=some r:=hF; unfold F5b2 at hF
         refine ab (ab (rgn rfl (pu (iv F) rfl (ifE hF (fun aK hF=>?_) (fun aK hF=>?_)))))
         ·
          refine ac (cm rfl rfl (fun _=>?_) (fun h=>absurd aK h))
          refine aa (ah rfl (ak (dn (fun ρ w=>cd ρ [(2,.pointer (some ⟨V,0,none⟩)),(3,.pointer (some ⟨x,0,none⟩)),(8,.pointer (some ⟨U,0,none⟩)),(9,iv k.2.2),(18,iv F)]∧Inv [] w0 w [(some V,blk [iv g,iv i,.slice l a.length o,.slice p d.length q,.slice s e.length t,iv j] 28),(some x,blk [iv C,.slice D y.length E,iv u,iv G,iv f] 59),(some U,blk [iv k.1,iv k.2.1] 23)]∧F5j3 (F5l2 g i a d e j u f N k m2) F=some r) ?_ ?_)))
          ·
           refine au ?_
           refine dn (fun ρ w=>∃ (a2:Nat) (Z:Option Nat) (a0:Nat) (aL:List Value) (a1:Int) (Y:List Int) (a7:Int),cd ρ [(2,.pointer (some ⟨V,0,none⟩)),(3,.pointer (some ⟨x,0,none⟩)),(8,.pointer (some ⟨U,0,none⟩)),(9,iv k.2.2),(18,iv F),(19,.pointer (some ⟨a2,0,none⟩)),(20,iv a7)]∧Inv [] w0 w [(some V,blk [iv g,iv i,.slice l a.length o,.slice p d.length q,.slice s e.length t,iv j] 28),(some x,blk [iv C,.slice D y.length E,iv u,iv G,iv f] 59),(some U,blk [iv k.1,iv k.2.1] 23),(some a2,blk [iv a1,slv Z Y.length a0] 57),(Z,blk aL 3)]∧(Row 1 Z (Y.length) a0 aL (al dv Y))∧F5j4 g i a d e j u f N (F5l2 g i a d e j u f N k m2) k F a1 Y a7=some r) ?_ ?_
           ·
            refine rgn rfl (ac (ar hI 0 6 [iv g,iv i,.slice l a.length o,.slice p d.length q,.slice s e.length t,iv j] isAgg28 sizeOf28 rfl rfl rfl rfl ?_))
            refine pu (.pointer (some ⟨x,2,none⟩)) rfl (ac (ag hI 1 (iv u) isAgg3 rfl rfl rfl ?_))
            refine pu (.pointer (some ⟨x,4,none⟩)) rfl (ac (ag hI 1 (iv f) isAgg3 rfl rfl rfl ?_))
            refine pu (iv F) rfl (ifE hF (fun aM hF=>?_) (fun aM hF=>?_))
            ·
             refine ac (di rfl rfl (fun _=>?_) (fun h=>absurd aM h))
             refine bt hF (fun H bA hF=>?_)
             refine ac (co 44 [.agg #[iv g,iv i,.slice l a.length o,.slice p d.length q,.slice s e.length t,iv j],iv u,iv f,.bool true] (by kernel_rfl) (L44 _ g i l o a p q d s t e j u f true (K.inv0 hI) L M (O.inv0 hI) P Q (R.inv0 hI) S T _ bA) ?_)
             rintro v w ⟨a8,a9,bB,rfl,hN,bC⟩
             have hI:=hI.join hN; clear hN
             refine pu (.tuple #[.agg #[iv H.1,slv a8 H.2.1.length a9],iv H.2.2]) rfl (pu (.agg #[iv H.1,slv a8 H.2.1.length a9]) rfl (pu (iv H.2.2) rfl (ac (bh hI [iv 0,.slice none 0 0] zeroValue57 rfl fun bD w hI=>ac (aq hI 0 2 [iv H.1,slv a8 H.2.1.length a9] sizeOf57 rfl rfl rfl rfl rfl (Nat.le_of_ble_eq_true rfl) fun w hI=>pu (iv H.2.2) rfl (aa ?_))))))
             exact .inl ⟨rfl,⟨bD,a8,a9,bB,H.1,H.2.1,H.2.2,⟨rfl,rfl,rfl,rfl,rfl,rfl,rfl,trivial⟩,hI.pk [2,3,4,0,1] rfl rfl,(bC.to rfl rfl),hF⟩⟩
            refine ac (di rfl rfl (fun h=>absurd h aM) (fun _=>?_))
            refine bt hF (fun I bE hF=>?_)
            refine ac (co 44 [.agg #[iv g,iv i,.slice l a.length o,.slice p d.length q,.slice s e.length t,iv j],iv u,iv f,.bool false] (by kernel_rfl) (L44 _ g i l o a p q d s t e j u f false (K.inv0 hI) L M (O.inv0 hI) P Q (R.inv0 hI) S T _ bE) ?_)
            rintro v w ⟨aA,aB,bF,rfl,hN,bG⟩
            have hI:=hI.join hN; clear hN
            refine pu (.tuple #[.agg #[iv I.1,slv aA I.2.1.length aB],iv I.2.2]) rfl (pu (.agg #[iv I.1,slv aA I.2.1.length aB]) rfl (pu (iv I.2.2) rfl (ac (bh hI [iv 0,.slice none 0 0] zeroValue57 rfl fun bH w hI=>ac (aq hI 0 2 [iv I.1,slv aA I.2.1.length aB] sizeOf57 rfl rfl rfl rfl rfl (Nat.le_of_ble_eq_true rfl) fun w hI=>pu (iv I.2.2) rfl (aa ?_))))))
            exact .inl ⟨rfl,⟨bH,aA,aB,bF,I.1,I.2.1,I.2.2,⟨rfl,rfl,rfl,rfl,rfl,rfl,rfl,trivial⟩,hI.pk [2,3,4,0,1] rfl rfl,(bG.to rfl rfl),hF⟩⟩
           intro ρ w hJ
           obtain ⟨a2,Z,a0,aL,a1,Y,a7,hag,hI,aN,hF⟩:=hJ
           obtain ⟨ρ,rfl⟩:=hag.form; clear hag
           unfold F5j4 at hF
           refine ab (ab (rgn rfl (pu (iv a7) rfl (pu (iv k.2.2) rfl (ifE hF (fun aO hF=>?_) (fun aO hF=>?_))))))
           ·
            refine ac (de rfl rfl (fun h=>absurd aO h) (fun _=>?_))
            refine aa (ai rfl (ak (ab (ab (rgn rfl (pu (iv k.2.2) rfl (ifE hF (fun aP hF=>?_) (fun aP hF=>?_))))))))
            ·
             refine ac (de rfl rfl (fun h=>absurd aP h) (fun _=>?_))
             refine aa (ai rfl (ak (ab (rgn rfl (ac (ar hI 0 6 [iv g,iv i,.slice l a.length o,.slice p d.length q,.slice s e.length t,iv j] isAgg28 sizeOf28 rfl rfl rfl rfl ?_))))))
             refine ac (ar hI 3 2 [iv a1,slv Z Y.length a0] isAgg57 sizeOf57 rfl rfl rfl rfl ?_)
             refine pu (.pointer (some ⟨x,2,none⟩)) rfl (ac (ag hI 1 (iv u) isAgg3 rfl rfl rfl ?_))
             refine pu (.pointer (some ⟨x,4,none⟩)) rfl (ac (ag hI 1 (iv f) isAgg3 rfl rfl rfl ?_))
             refine pu (.agg #[iv u,iv f]) (by kernel_rfl) (bt hF (fun J bI hF=>?_))
             refine ac (bg hI 41 [.agg #[iv g,iv i,.slice l a.length o,.slice p d.length q,.slice s e.length t,iv j],.agg #[iv a1,slv Z Y.length a0],.agg #[iv u,iv f]] (.tuple #[iv J.1,iv J.2]) (by kernel_rfl) (L41 _ g i l o a p q d s t e j a1 (Z.map fun b=>⟨b,0,none⟩) a0 Y u f (K.inv0 hI) L M (O.inv0 hI) P Q (R.inv0 hI) S T (hI.rowCells 4 rfl aN) (am rfl aN.big) (am rfl aN.cap) N _ bI) fun w hI=>pu (.tuple #[iv J.1,iv J.2]) rfl (pu (iv J.1) rfl (pu (iv J.2) rfl (pu (iv J.1) rfl (pu (iv J.2) rfl (aa (dn (fun ρ w=>cd ρ [(2,.pointer (some ⟨V,0,none⟩)),(3,.pointer (some ⟨x,0,none⟩)),(8,.pointer (some ⟨U,0,none⟩)),(9,iv k.2.2),(18,iv F),(191,.bool false)]∧Inv [] w0 w [(some V,blk [iv g,iv i,.slice l a.length o,.slice p d.length q,.slice s e.length t,iv j] 28),(some x,blk [iv C,.slice D y.length E,iv u,iv G,iv f] 59),(some U,blk [iv k.1,iv k.2.1] 23)]∧F5j5 (F5l2 g i a d e j u f N k m2) F=some r) ?_ ?_)))))))
             ·
              refine rgn rfl (pu (iv J.2) rfl (ifE hF (fun aQ hF=>?_) (fun aQ hF=>?_)))
              ·
               refine ac (de rfl rfl (fun h=>absurd aQ h) (fun _=>?_))
               refine pu (.bool false) rfl (puo (iv F) ⟨rfl,rfl⟩ (ifE hF (fun aR hF=>?_) (fun aR hF=>?_)))
               ·
                refine aw rfl (di rfl rfl (fun _=>?_) (fun h=>absurd aR h))
                refine puo (.bool true) ⟨rfl,rfl⟩ (puo (iv J.1) ⟨rfl,rfl⟩ (puo (.pointer (some ⟨U,1,none⟩)) ⟨rfl,rfl⟩ (aw rfl (ag hI 2 (iv k.2.1) isAgg3 rfl rfl rfl ?_))))
                refine ifE hF (fun aS hF=>?_) (fun aS hF=>?_)
                ·
                 refine aw rfl (de rfl rfl (fun h=>absurd aS h) (fun _=>?_))
                 refine puo (.bool false) ⟨rfl,rfl⟩ (pu (.bool false) rfl (pu (.bool false) rfl (puo (iv F) ⟨rfl,rfl⟩ (ifE hF (fun aT hF=>?_) (fun aT hF=>?_)))))
                 ·
                  refine aw rfl (di rfl rfl (fun _=>?_) (fun h=>absurd aT h))
                  refine puo (.bool true) ⟨rfl,rfl⟩ (puo (iv J.1) ⟨rfl,rfl⟩ (puo (.pointer (some ⟨U,0,none⟩)) ⟨rfl,rfl⟩ (aw rfl (ag hI 2 (iv k.1) isAgg3 rfl rfl rfl ?_))))
                  refine ifE hF (fun aU hF=>?_) (fun aU hF=>?_)
                  ·
                   refine aw rfl (de rfl rfl (fun h=>absurd aU h) (fun _=>?_))
                   refine puo (.bool false) ⟨rfl,rfl⟩ (pu (.bool false) rfl (aa ?_))
                   exact .inl ⟨rfl,⟨⟨rfl,rfl,rfl,rfl,rfl,rfl,trivial⟩,hI.pk [0,1,2] rfl rfl,hF⟩⟩
                  refine aw rfl (de rfl rfl (fun _=>?_) (fun h=>absurd h aU))
                  refine puo (.bool true) ⟨rfl,rfl⟩ (pu (.bool true) rfl (aa (.inr ?_)))
                  refine ah rfl (ab (rgn rfl (pu (.bool false) rfl (aa (aj ?_)))))
                  replace hF:=Option.some.inj hF; subst hF
                  exact ⟨.bool false,Ret.r1 rfl rfl,⟨rfl,hI.below⟩⟩
                 refine aw rfl (di rfl rfl (fun h=>absurd h aT) (fun _=>?_))
                 refine puo (.bool false) ⟨rfl,rfl⟩ (sf 4 rfl (puo (.bool false) ⟨rfl,rfl⟩ (pu (.bool false) rfl (aa ?_))))
                 exact .inl ⟨rfl,⟨⟨rfl,rfl,rfl,rfl,rfl,rfl,trivial⟩,hI.pk [0,1,2] rfl rfl,hF⟩⟩
                refine aw rfl (de rfl rfl (fun _=>?_) (fun h=>absurd h aS))
                refine puo (.bool true) ⟨rfl,rfl⟩ (pu (.bool true) rfl (pu (.bool true) rfl (sf 3 rfl (dk rfl ?_))))
                refine dk rfl ?_
                refine dk rfl ?_
                refine dk rfl ?_
                refine of_ rfl (pu (.bool true) rfl (aa (.inr ?_)))
                refine ah rfl (ab (rgn rfl (pu (.bool false) rfl (aa (aj ?_)))))
                replace hF:=Option.some.inj hF; subst hF
                exact ⟨.bool false,Ret.r1 rfl rfl,⟨rfl,hI.below⟩⟩
               refine aw rfl (di rfl rfl (fun h=>absurd h aR) (fun _=>?_))
               refine puo (.bool false) ⟨rfl,rfl⟩ (sf 4 rfl (puo (.bool false) ⟨rfl,rfl⟩ (pu (.bool false) rfl (pu (.bool false) rfl (puo (iv F) ⟨rfl,rfl⟩ (ifE hF (fun aV hF=>?_) (fun aV hF=>?_)))))))
               ·
                refine aw rfl (di rfl rfl (fun _=>?_) (fun h=>absurd aV h))
                refine puo (.bool true) ⟨rfl,rfl⟩ (puo (iv J.1) ⟨rfl,rfl⟩ (puo (.pointer (some ⟨U,0,none⟩)) ⟨rfl,rfl⟩ (aw rfl (ag hI 2 (iv k.1) isAgg3 rfl rfl rfl ?_))))
                refine ifE hF (fun aW hF=>?_) (fun aW hF=>?_)
                ·
                 refine aw rfl (de rfl rfl (fun h=>absurd aW h) (fun _=>?_))
                 refine puo (.bool false) ⟨rfl,rfl⟩ (pu (.bool false) rfl (aa ?_))
                 exact .inl ⟨rfl,⟨⟨rfl,rfl,rfl,rfl,rfl,rfl,trivial⟩,hI.pk [0,1,2] rfl rfl,hF⟩⟩
                refine aw rfl (de rfl rfl (fun _=>?_) (fun h=>absurd h aW))
                refine puo (.bool true) ⟨rfl,rfl⟩ (pu (.bool true) rfl (aa (.inr ?_)))
                refine ah rfl (ab (rgn rfl (pu (.bool false) rfl (aa (aj ?_)))))
                replace hF:=Option.some.inj hF; subst hF
                exact ⟨.bool false,Ret.r1 rfl rfl,⟨rfl,hI.below⟩⟩
               refine aw rfl (di rfl rfl (fun h=>absurd h aV) (fun _=>?_))
               refine puo (.bool false) ⟨rfl,rfl⟩ (sf 4 rfl (puo (.bool false) ⟨rfl,rfl⟩ (pu (.bool false) rfl (aa ?_))))
               exact .inl ⟨rfl,⟨⟨rfl,rfl,rfl,rfl,rfl,rfl,trivial⟩,hI.pk [0,1,2] rfl rfl,hF⟩⟩
              refine ac (de rfl rfl (fun _=>?_) (fun h=>absurd h aQ))
              refine pu (.bool true) rfl (sf 3 rfl (dk rfl ?_))
              refine dk rfl ?_
              refine dk rfl ?_
              refine dk rfl ?_
              refine of_ rfl (pu (.bool true) rfl (pu (.bool true) rfl (sf 3 rfl (dk rfl ?_))))
              refine dk rfl ?_
              refine dk rfl ?_
              refine dk rfl ?_
              refine of_ rfl (pu (.bool true) rfl (aa (.inr ?_)))
              refine ah rfl (ab (rgn rfl (pu (.bool false) rfl (aa (aj ?_)))))
              replace hF:=Option.some.inj hF; subst hF
              exact ⟨.bool false,Ret.r1 rfl rfl,⟨rfl,hI.below⟩⟩
             intro ρ w hJ
             obtain ⟨hag,hI,hF⟩:=hJ
             obtain ⟨ρ,rfl⟩:=hag.form; clear hag
             unfold F5j5 at hF
             refine ai rfl (ak ?_)
             exact .inl ⟨rfl,⟨⟨rfl,rfl,rfl,rfl,rfl,trivial⟩,hI.pk [0,1,2] rfl rfl,hF⟩⟩
            refine ac (de rfl rfl (fun _=>?_) (fun h=>absurd h aP))
            refine aa (ah rfl (ab (ab (rgn rfl (pu (.pointer (some ⟨a2,0,none⟩)) rfl (ac (ag hI 3 (iv a1) isAgg3 rfl rfl rfl ?_)))))))
            refine ifE hF (fun aX hF=>?_) (fun aX hF=>?_)
            ·
             refine ac (de rfl rfl (fun h=>absurd aX h) (fun _=>?_))
             refine pu (.bool false) rfl (puo (.pointer (some ⟨a2,1,none⟩)) ⟨rfl,rfl⟩ (aw rfl (ag hI 3 (slv Z Y.length a0) isAgg41 rfl rfl rfl ?_)))
             refine puo (iv ((Y.length:Nat):Int)) ⟨rfl,(by kernel_rfl)⟩ (ifE hF (fun aY hF=>?_) (fun aY hF=>?_))
             ·
              refine aw rfl (de rfl rfl (fun h=>absurd aY h) (fun _=>?_))
              refine pu (.bool false) rfl (aa (ai rfl (ak (bw ?_))))
              exact .inl ⟨rfl,⟨⟨rfl,rfl,rfl,rfl,rfl,trivial⟩,hI.pk [0,1,2] rfl rfl,hF⟩⟩
             refine aw rfl (de rfl rfl (fun _=>?_) (fun h=>absurd h aY))
             refine pu (.bool true) rfl (aa (ah rfl (ab (rgn rfl (pu (.bool false) rfl (aa (aj ?_)))))))
             replace hF:=Option.some.inj hF; subst hF
             exact ⟨.bool false,Ret.r1 rfl rfl,⟨rfl,hI.below⟩⟩
            refine ac (de rfl rfl (fun _=>?_) (fun h=>absurd h aX))
            refine pu (.bool true) rfl (sf 4 rfl (pu (.bool true) rfl (aa (ah rfl (ab (rgn rfl (pu (.bool false) rfl (aa (aj ?_)))))))))
            replace hF:=Option.some.inj hF; subst hF
            exact ⟨.bool false,Ret.r1 rfl rfl,⟨rfl,hI.below⟩⟩
           refine ac (de rfl rfl (fun _=>?_) (fun h=>absurd h aO))
           refine aa (ah rfl (ab (rgn rfl (pu (.bool false) rfl (aa (aj ?_))))))
           replace hF:=Option.some.inj hF; subst hF
           exact ⟨.bool false,Ret.r1 rfl rfl,⟨rfl,hI.below⟩⟩
          intro ρ w hJ
          obtain ⟨hag,hI,hF⟩:=hJ
          obtain ⟨ρ,rfl⟩:=hag.form; clear hag
          unfold F5j3 at hF
          refine rgn rfl (pu (iv F) rfl (ckE hF (fun bJ hF=>?_)))
          refine ac (cj rfl rfl bJ ?_)
          refine pu (iv (F+1)) rfl (aa ?_)
          exact ⟨rfl,m2,Nat.lt_succ_self _,⟨F+1,m2,⟨rfl,rfl,rfl,rfl,rfl,trivial⟩,hI.pk [0,1,2] rfl rfl,hF,rfl⟩⟩
         refine ac (cm rfl rfl (fun h=>absurd h aK) (fun _=>?_))
         refine aa (ai rfl (bw ?_))
         refine ab (rgn rfl (pu (.bool true) rfl (aa (aj ?_))))
         replace hF:=Option.some.inj hF; subst hF
         exact ⟨.bool true,Ret.r1 rfl rfl,⟨rfl,hI.below⟩⟩
        refine zo (.bool true) rfl (fun w hI=>de rfl rfl (fun _=>br) (fun h=>absurd h aJ)) (zp (.bool true) (fun _=>rfl) (zh (fun w hI=>?_)))
        refine aa (ah rfl (ab (rgn rfl (pu (.bool false) rfl (aa (aj ?_))))))
        replace hF:=Option.some.inj hF; subst hF
        exact ⟨.bool false,Ret.r1 rfl rfl,⟨rfl,hI.below⟩⟩
       refine zo (.bool true) rfl (fun w hI=>de rfl rfl (fun _=>br) (fun h=>absurd h aI)) (zp (.bool true) (fun _=>rfl) (zp (.bool true) (fun _=>rfl) (zf 13 rfl (zp (.bool true) (fun _=>rfl) (zh (fun w hI=>?_))))))
       refine aa (ah rfl (ab (rgn rfl (pu (.bool false) rfl (aa (aj ?_))))))
       replace hF:=Option.some.inj hF; subst hF
       exact ⟨.bool false,Ret.r1 rfl rfl,⟨rfl,hI.below⟩⟩
      refine zo (.bool true) rfl (fun w hI=>de rfl rfl (fun _=>br) (fun h=>absurd h aH)) (zp (.bool true) (fun _=>rfl) (zp (.bool true) (fun _=>rfl) (zf 3 rfl (zp (.bool true) (fun _=>rfl) (zp (.bool true) (fun _=>rfl) (zf 13 rfl (zp (.bool true) (fun _=>rfl) (zh (fun w hI=>?_)))))))))
      refine aa (ah rfl (ab (rgn rfl (pu (.bool false) rfl (aa (aj ?_))))))
      replace hF:=Option.some.inj hF; subst hF
      exact ⟨.bool false,Ret.r1 rfl rfl,⟨rfl,hI.below⟩⟩
     refine zo (.bool true) rfl (fun w hI=>de rfl rfl (fun _=>br) (fun h=>absurd h aG)) (zp (.bool true) (fun _=>rfl) (zp (.bool true) (fun _=>rfl) (zf 3 rfl (zp (.bool true) (fun _=>rfl) (zp (.bool true) (fun _=>rfl) (zf 3 rfl (zp (.bool true) (fun _=>rfl) (zp (.bool true) (fun _=>rfl) (zf 1 rfl ?_)))))))))
     refine zf 12 rfl (zp (.bool true) (fun _=>rfl) (zh (fun w hI=>?_)))
     refine aa (ah rfl (ab (rgn rfl (pu (.bool false) rfl (aa (aj ?_))))))
     replace hF:=Option.some.inj hF; subst hF
     exact ⟨.bool false,Ret.r1 rfl rfl,⟨rfl,hI.below⟩⟩
    refine zo (.bool true) rfl (fun w hI=>s_neqA (b:=decide (A.1=B.1) && decide (A.2.1=B.2.1)) rfl rfl (by kernel_rfl) (fun w=>eq23 _ A.1 A.2.1 B.1 B.2.1 w) (fun _=>br) (fun h=>absurd h aF)) (zp (.bool true) (fun _=>rfl) (zp (.bool true) (fun _=>rfl) (zf 3 rfl (zp (.bool true) (fun _=>rfl) (zp (.bool true) (fun _=>rfl) (zf 3 rfl (zp (.bool true) (fun _=>rfl) (zp (.bool true) (fun _=>rfl) (zf 1 rfl ?_)))))))))
    refine zf 2 rfl (zp (.bool true) (fun _=>rfl) (zp (.bool true) (fun _=>rfl) (zf 13 rfl (zp (.bool true) (fun _=>rfl) (zh (fun w hI=>?_))))))
    refine aa (ah rfl (ab (rgn rfl (pu (.bool false) rfl (aa (aj ?_))))))
    replace hF:=Option.some.inj hF; subst hF
    exact ⟨.bool false,Ret.r1 rfl rfl,⟨rfl,hI.below⟩⟩
   refine zo (.bool true) rfl (fun w hI=>de rfl rfl (fun _=>br) (fun h=>absurd h aE)) (zp (.bool true) (fun _=>rfl) (zp (.bool true) (fun _=>rfl) (zf 3 rfl (zp (.bool true) (fun _=>rfl) (zp (.bool true) (fun _=>rfl) (zf 3 rfl (zp (.bool true) (fun _=>rfl) (zp (.bool true) (fun _=>rfl) (zf 1 rfl ?_)))))))))
   refine zf 2 rfl (zp (.bool true) (fun _=>rfl) (zp (.bool true) (fun _=>rfl) (zf 3 rfl (zp (.bool true) (fun _=>rfl) (zp (.bool true) (fun _=>rfl) (zf 13 rfl (zp (.bool true) (fun _=>rfl) (zh (fun w hI=>?_)))))))))
   refine aa (ah rfl (ab (rgn rfl (pu (.bool false) rfl (aa (aj ?_))))))
   replace hF:=Option.some.inj hF; subst hF
   exact ⟨.bool false,Ret.r1 rfl rfl,⟨rfl,hI.below⟩⟩
  refine zo (.bool true) rfl (fun w hI=>s_neqA (b:=decide (z.1=k.1) && decide (z.2.1=k.2.1)) rfl rfl (by kernel_rfl) (fun w=>eq23 _ z.1 z.2.1 k.1 k.2.1 w) (fun _=>br) (fun h=>absurd h aD)) (zp (.bool true) (fun _=>rfl) (zp (.bool true) (fun _=>rfl) (zf 3 rfl (zp (.bool true) (fun _=>rfl) (zp (.bool true) (fun _=>rfl) (zf 3 rfl (zp (.bool true) (fun _=>rfl) (zp (.bool true) (fun _=>rfl) (zf 1 rfl ?_)))))))))
  refine zf 2 rfl (zp (.bool true) (fun _=>rfl) (zp (.bool true) (fun _=>rfl) (zf 3 rfl (zp (.bool true) (fun _=>rfl) (zp (.bool true) (fun _=>rfl) (zf 3 rfl (zp (.bool true) (fun _=>rfl) (zp (.bool true) (fun _=>rfl) (zf 1 rfl ?_)))))))))
  refine zf 12 rfl (zp (.bool true) (fun _=>rfl) (zh (fun w hI=>?_)))
  refine aa (ah rfl (ab (rgn rfl (pu (.bool false) rfl (aa (aj ?_))))))
  replace hF:=Option.some.inj hF; subst hF
  exact ⟨.bool false,Ret.r1 rfl rfl,⟨rfl,hI.below⟩⟩
 have hF:=hG; clear hG
 refine ifE hF (fun h=>absurd h (by decide)) (fun _ hF=>?_)
 refine gm 47 hI (by kernel_rfl) ?_
 refine zp (.bool false) (fun _=>rfl) (zp (.bool true) (fun _=>rfl) (zp (.bool true) (fun _=>rfl) (zf 3 rfl (zp (.bool true) (fun _=>rfl) (zp (.bool true) (fun _=>rfl) (zf 3 rfl (zp (.bool true) (fun _=>rfl) (zp (.bool true) (fun _=>rfl) (zf 1 rfl ?_)))))))))
 refine zf 2 rfl (zp (.bool true) (fun _=>rfl) (zp (.bool true) (fun _=>rfl) (zf 3 rfl (zp (.bool true) (fun _=>rfl) (zp (.bool true) (fun _=>rfl) (zf 3 rfl (zp (.bool true) (fun _=>rfl) (zp (.bool true) (fun _=>rfl) (zf 1 rfl ?_)))))))))
 refine zf 2 rfl (zp (.bool true) (fun _=>rfl) (zp (.bool true) (fun _=>rfl) (zf 13 rfl (zp (.bool true) (fun _=>rfl) (zh (fun w hI=>?_))))))
 refine aa (ah rfl (ab (rgn rfl (pu (.bool false) rfl (aa (aj ?_))))))
 replace hF:=Option.some.inj hF; subst hF
 exact ⟨.bool false,Ret.r1 rfl rfl,⟨rfl,hI.below⟩⟩


end Go.K
