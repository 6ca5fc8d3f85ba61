import Derived.Test.YtinkdlmimiefaaaGreatProg
import Derived.Test.YtinkdlmimiefaaaGreatPM9
import Derived.Laws.MakeOwn
namespace Go.K
open Go.Proofs.Tryz
open Go.Proofs Go.RowKit
set_option linter.unusedVariables false
set_option linter.unusedSimpArgs false
set_option maxRecDepth 100000
attribute [local irreducible] Seq cw cx fl opX

structure Pf where
  b:Bool
  x:Ld
def pfV (f:Pf):Value:=.func (.func (cond f.b 148 149)) #[.agg (eLd f.x).toArray] #[]
def ePf (f:Pf):List Value:=[pfV f]
theorem il (x:Pf):(ePf x).length=1:=rfl
structure Rev {α:Type} (l M:List α) (i:Nat):Prop where
  len:M.length=l.length
  at_:∀ q,q < l.length→M[q]?=if q < i∨l.length≤q+i then l[l.length - 1 - q]? else l[q]?
theorem Rev.start {α:Type} (l:List α):Rev l l 0:=⟨rfl,fun q hq=>by rw [if_neg (by omega)]⟩
theorem Rev.step {α:Type} {l M:List α} {i j:Nat} (h:Rev l M i) (hij:i < j) (hj:i+j+1=l.length) {x y:α} (hx:M[i]?=some x) (hy:M[j]?=some y):Rev l ((M.set i y).set j x) (i+1):=by
  refine ⟨by simp [h.len],fun q hq=>?_⟩
  have hl:=h.len
  by_cases e1:q=j
  · subst e1
    rw [List.getElem?_set_self (by rw [List.length_set]; omega),if_pos (by omega),show l.length - 1 - q=i by omega,← hx,h.at_ i (by omega),if_neg (by omega)]
  rw [List.getElem?_set_ne (by omega)]
  by_cases e2:q=i
  · subst e2
    rw [List.getElem?_set_self (by omega),if_pos (by omega),show l.length - 1 - q=j by omega,← hy,h.at_ j (by omega),if_neg (by omega)]
  rw [List.getElem?_set_ne (by omega),h.at_ q hq]
  by_cases e3:q < i∨l.length≤q+i
  · rw [if_pos e3,if_pos (by omega)]
  rw [if_neg e3,if_neg (by omega)]
theorem Rev.done {α:Type} {l M:List α} {i:Nat} (h:Rev l M i) (hi:l.length≤2 * i+1):M=l.reverse:=by
  apply List.ext_getElem?
  intro q
  rcases Nat.lt_or_ge q l.length with hq | hq
  · rw [h.at_ q hq,List.getElem?_reverse hq]
    by_cases e:q < i∨l.length≤q+i
    · rw [if_pos e]
    rw [if_neg e,show l.length - 1 - q=q by omega]
  rw [List.getElem?_eq_none (by rw [h.len]; exact hq),List.getElem?_eq_none (by rw [List.length_reverse]; exact hq)]


theorem ReverseInts_c0 (w0:World) (cl:List Value) (hr0:Row 1 none 0 0 cl (al dv ([]:List Int))):bn Tryz.prog 93 [slv none 0 0] w0 fun v w=>ex 1 3 none 0 0 (al dv ([]:List Int).reverse) w0 v w:=by
 refine az (n:=28) func93 rfl ntmps93 rfl ?_
 have hI:=Inv.lent w0 none (blk cl 3) (fun b h=>by cases h)
 refine ab (rgn rfl (pu (slv none 0 0) rfl (pu (iv ((0:Nat):Int)) (by kernel_rfl) (ac (dm rfl rfl (by omega) ?_)))))
 refine pu (iv 0) rfl (pu (iv (0 - 1)) rfl (aa (au ?_)))
 refine cb (fun m ρ w=>cd ρ [(0,slv none 0 0),(2,iv 0),(3,iv (0 - 1))]∧Inv []  w0 w [(none,blk cl 3)]∧m=0) (m:=0) ⟨⟨rfl,rfl,rfl,trivial⟩,hI.pk [0] rfl rfl,rfl⟩ ?_
 rintro m ρ w ⟨hag,hI,hm⟩
 obtain ⟨ρ,rfl⟩:=hag.form; clear hag
 refine ab (ab (rgn rfl (pu (iv 0) rfl (pu (iv (0 - 1)) rfl (ac (cm rfl rfl ?_ ?_))))))
 ·intro h1
  exact absurd h1 (by omega)
 intro h2
 refine aa (ai rfl (bw ?_))
 exact ⟨.tuple #[],Ret.r0 rfl , ⟨cl,rfl,hI.pk [0] rfl rfl,hr0⟩⟩

set_option maxHeartbeats 1600000 in
theorem ReverseInts_c1 (w0:World) (b0 n c:Nat) (cl:List Value) (l:List Int) (hg:∀ b,some b0=some b→w0.heap[b]?=some (blk cl 3)) (hr:Row 1 (some b0) n c cl (al dv l)) (hmax:n≤1000000000):bn Tryz.prog 93 [slv (some b0) n c] w0 fun v w=>ex 1 3 (some b0) c n (al dv l.reverse) w0 v w:=by
 have hnl:=hr.n_eq cy (by decide)
 have hmx:=hr.capmax; unfold maxLen at hmx; have hcp:=hr.cap
 refine az (n:=28) func93 rfl ntmps93 rfl ?_
 have hI:=Inv.lent w0 (some b0) (blk cl 3) hg
 refine ab (rgn rfl (pu (slv (some b0) n c) rfl (pu (iv ((n:Nat):Int)) (by kernel_rfl) (ac (dm rfl rfl (by omega) ?_)))))
 refine pu (iv 0) rfl (pu (iv ((n:Int) - 1)) rfl (aa (au ?_)))
 refine cb (fun m ρ w=>∃ (i:Nat) (jv:Int) (ccl:List Value) (M:List Int),cd ρ [(0,slv (some b0) n c),(2,iv (i:Int)),(3,iv jv)]∧Inv [b0] w0 w [(some b0,blk ccl 3)]∧((i:Int)+jv=(n:Int) - 1)∧(Rev l M i)∧(Row 1 (some b0) n c ccl (al dv M))∧((i:Int)≤jv+1∨i=0)∧m=n - i) (m:=n - 0) ⟨0,(n:Int) - 1,cl,l,⟨rfl,rfl,rfl,trivial⟩,hI.pk [0] rfl rfl,(by omega),(Rev.start l),hr,(by omega),rfl⟩ ?_
 rintro m ρ w ⟨i,jv,ccl,M,hag,hI,hij,hv,hrr,hi2,hm⟩
 obtain ⟨ρ,rfl⟩:=hag.form; clear hag
 refine ab (ab (rgn rfl (pu (iv (i:Int)) rfl (pu (iv jv) rfl (ac (cm rfl rfl ?_ ?_))))))
 ·intro h1
  refine aa (ah rfl (ak (ab (au ?_))))
  have hl9:=hv.len
  obtain ⟨j,hj⟩:∃ j:Nat,jv=(j:Int):=⟨jv.toNat,by omega⟩
  obtain ⟨x1,hx2⟩:=bq (l:=M) (i:=i) (by omega)
  have he3:=hrr.atS cy (by decide) hx2
  obtain ⟨x4,hx5⟩:=bq (l:=M) (i:=j) (by omega)
  have he6:=hrr.atS cy (by decide) hx5
  have hjn:j < n:=by omega
  replace hI:=hI.pk [0] rfl rfl
  refine dh hI [] (by decide) rfl rfl rfl fun hsub=>alp 0 (slv (some b0) n c) hsub rfl (by kernel_rfl) (fun _=>rfl) ?_
  refine alp 1 (iv (i:Int)) hsub rfl (by kernel_rfl) (fun _=>rfl) ?_
  refine alp 2 (slv (some b0) n c) hsub rfl (by kernel_rfl) (fun _=>rfl) ?_
  refine alp 3 (iv jv) hsub rfl (by kernel_rfl) (fun _=>rfl) ?_
  refine alp 4 (slv (some b0) n c) hsub rfl (by kernel_rfl) (fun _=>rfl) ?_
  refine alp 5 (iv jv) hsub rfl (by kernel_rfl) (fun _=>rfl) ?_
  refine ap 6 (.pointer (some ⟨b0,j * 1,none⟩)) hsub rfl (by kernel_rfl) (fun w hI=>be j underlying41 sizeOf3 rfl rfl (by omega) (by omega) br) ?_
  refine alp 8 (slv (some b0) n c) hsub rfl (by kernel_rfl) (fun _=>rfl) ?_
  refine alp 9 (iv (i:Int)) hsub rfl (by kernel_rfl) (fun _=>rfl) ?_
  refine ap 10 (.pointer (some ⟨b0,i * 1,none⟩)) hsub rfl (by kernel_rfl) (fun w hI=>be i underlying41 sizeOf3 rfl rfl rfl (by omega) br) ?_
  refine bc [7,11] (by kernel_rfl) rfl (each2 ?_ ?_)
  ·intro w hI
   refine dg rfl (db hI 0 (iv x4) isAgg3 rfl rfl (he6 0 _ rfl) ?_)
   refine ⟨_,hI,dc (fun _ h=>h.pk [] rfl rfl) ?_⟩
   intro hsub
   refine bc [11] (by kernel_rfl) rfl (cz fun w hI=>dg rfl (db hI 0 (iv x1) isAgg3 rfl rfl (he3 0 _ rfl) ?_))
   refine ⟨_,hI,dc (fun _ h=>h.pk [] rfl rfl) ?_⟩
   intro hsub
   refine ap 12 (.pointer (some ⟨b0,i * 1,none⟩)) hsub rfl (by kernel_rfl) (fun w hI=>be i underlying41 sizeOf3 rfl rfl rfl (by omega) br) ?_
   refine bc [13] (by kernel_rfl) rfl (cz fun w hI=>dg rfl (aq hI 0 1 [iv x4] sizeOf3 rfl rfl rfl rfl rfl (hrr.room (by omega)) fun w hI=>⟨_,hI,dc (fun _ h=>h.pk [] rfl rfl) ?_⟩))
   intro hsub
   have r7:=hrr.put cy (by decide) i x4 (by omega)
   obtain ⟨x9,d⟩:=bq (l:=(M).set i x4) (i:=j) (by first | omega | (simp only [List.length_set]; omega))
   have k:=r7.atS cy (by decide) d
   refine ap 14 (.pointer (some ⟨b0,j * 1,none⟩)) hsub rfl (by kernel_rfl) (fun w hI=>be j underlying41 sizeOf3 rfl rfl (by omega) (by omega) br) ?_
   refine bc [15] (by kernel_rfl) rfl (cz fun w hI=>dg rfl (aq hI 0 1 [iv x1] sizeOf3 rfl rfl rfl rfl rfl (r7.room (by omega)) fun w hI=>⟨_,hI,dc (fun _ h=>h.pk [] rfl rfl) ?_⟩))
   intro hsub
   have e:=r7.put cy (by decide) j x1 (by omega)
   refine cp rfl (fun w hI=>?_)
   refine rgn rfl (pu (iv (i:Int)) rfl (ac (cj rfl rfl (by omega) ?_)))
   refine pu (iv jv) rfl (ac (dm rfl rfl (by omega) ?_))
   refine pu (iv ((i:Int)+1)) rfl (pu (iv (jv - 1)) rfl (aa ?_))
   exact ⟨rfl,_,(by omega),⟨i+1,jv - 1,putCells (putCells ccl (i * 1) (dv x4)) (j * 1) (dv x1),(((M).set i x4).set j x1),⟨rfl,rfl,rfl,trivial⟩,hI.pk [0] rfl rfl,(by omega),(hv.step (by omega) (by omega) hx2 hx5),e,(by omega),rfl⟩⟩
  intro w hI
  refine dg rfl (db hI 0 (iv x1) isAgg3 rfl rfl (he3 0 _ rfl) ?_)
  refine ⟨_,hI,dc (fun _ h=>h.pk [] rfl rfl) ?_⟩
  intro hsub
  refine bc [7] (by kernel_rfl) rfl (cz fun w hI=>dg rfl (db hI 0 (iv x4) isAgg3 rfl rfl (he6 0 _ rfl) ?_))
  refine ⟨_,hI,dc (fun _ h=>h.pk [] rfl rfl) ?_⟩
  intro hsub
  refine ap 12 (.pointer (some ⟨b0,i * 1,none⟩)) hsub rfl (by kernel_rfl) (fun w hI=>be i underlying41 sizeOf3 rfl rfl rfl (by omega) br) ?_
  refine bc [13] (by kernel_rfl) rfl (cz fun w hI=>dg rfl (aq hI 0 1 [iv x4] sizeOf3 rfl rfl rfl rfl rfl (hrr.room (by omega)) fun w hI=>⟨_,hI,dc (fun _ h=>h.pk [] rfl rfl) ?_⟩))
  intro hsub
  have a:=hrr.put cy (by decide) i x4 (by omega)
  obtain ⟨o,f⟩:=bq (l:=(M).set i x4) (i:=j) (by first | omega | (simp only [List.length_set]; omega))
  have p:=a.atS cy (by decide) f
  refine ap 14 (.pointer (some ⟨b0,j * 1,none⟩)) hsub rfl (by kernel_rfl) (fun w hI=>be j underlying41 sizeOf3 rfl rfl (by omega) (by omega) br) ?_
  refine bc [15] (by kernel_rfl) rfl (cz fun w hI=>dg rfl (aq hI 0 1 [iv x1] sizeOf3 rfl rfl rfl rfl rfl (a.room (by omega)) fun w hI=>⟨_,hI,dc (fun _ h=>h.pk [] rfl rfl) ?_⟩))
  intro hsub
  have g:=a.put cy (by decide) j x1 (by omega)
  refine cp rfl (fun w hI=>?_)
  refine rgn rfl (pu (iv (i:Int)) rfl (ac (cj rfl rfl (by omega) ?_)))
  refine pu (iv jv) rfl (ac (dm rfl rfl (by omega) ?_))
  refine pu (iv ((i:Int)+1)) rfl (pu (iv (jv - 1)) rfl (aa ?_))
  exact ⟨rfl,_,(by omega),⟨i+1,jv - 1,putCells (putCells ccl (i * 1) (dv x4)) (j * 1) (dv x1),(((M).set i x4).set j x1),⟨rfl,rfl,rfl,trivial⟩,hI.pk [0] rfl rfl,(by omega),(hv.step (by omega) (by omega) hx2 hx5),g,(by omega),rfl⟩⟩
 intro h2
 refine aa (ai rfl (bw ?_))
 exact ⟨.tuple #[],Ret.r0 rfl , ⟨ccl,rfl,hI.pk [0] rfl rfl,(hrr.to (hv.done (by omega)) rfl)⟩⟩

theorem ReverseInts_c (w0:World) (g:Option Nat) (n c:Nat) (cl:List Value) (l:List Int) (hg:∀ b,g=some b→w0.heap[b]?=some (blk cl 3)) (hr:Row 1 g n c cl (al dv l)) (hmax:n≤1000000000):bn Tryz.prog 93 [slv g n c] w0 fun v w=>ex 1 3 g c n (al dv l.reverse) w0 v w:=by
  cases g with
  | none =>
    have hc:=hr.nil rfl
    have hn:n=0:=by have:=hr.cap; omega
    subst hc; subst hn
    have hl:l=[]:=List.eq_nil_of_length_eq_zero (hr.n_eq cy (by decide)).symm
    subst hl
    exact ReverseInts_c0 w0 cl hr
  | some b=>exact ReverseInts_c1 w0 b n c cl l hg hr hmax


theorem ReverseRanges_c0 (w0:World) (cl:List Value) (hr0:Row 2 none 0 0 cl (al eRg ([]:List Rg))):bn Tryz.prog 151 [slv none 0 0] w0 fun v w=>ex 2 23 none 0 0 (al eRg ([]:List Rg).reverse) w0 v w:=by
 refine az (n:=28) func151 rfl ntmps151 rfl ?_
 have hI:=Inv.lent w0 none (blk cl 23) (fun b h=>by cases h)
 refine ab (rgn rfl (pu (slv none 0 0) rfl (pu (iv ((0:Nat):Int)) (by kernel_rfl) (ac (dm rfl rfl (by omega) ?_)))))
 refine pu (iv 0) rfl (pu (iv (0 - 1)) rfl (aa (au ?_)))
 refine cb (fun m ρ w=>cd ρ [(0,slv none 0 0),(2,iv 0),(3,iv (0 - 1))]∧Inv []  w0 w [(none,blk cl 23)]∧m=0) (m:=0) ⟨⟨rfl,rfl,rfl,trivial⟩,hI.pk [0] rfl rfl,rfl⟩ ?_
 rintro m ρ w ⟨hag,hI,hm⟩
 obtain ⟨ρ,rfl⟩:=hag.form; clear hag
 refine ab (ab (rgn rfl (pu (iv 0) rfl (pu (iv (0 - 1)) rfl (ac (cm rfl rfl ?_ ?_))))))
 ·intro h1
  exact absurd h1 (by omega)
 intro h2
 refine aa (ai rfl (bw ?_))
 exact ⟨.tuple #[],Ret.r0 rfl , ⟨cl,rfl,hI.pk [0] rfl rfl,hr0⟩⟩

set_option maxHeartbeats 1600000 in
theorem ReverseRanges_c1 (w0:World) (b0 n c:Nat) (cl:List Value) (l:List Rg) (hg:∀ b,some b0=some b→w0.heap[b]?=some (blk cl 23)) (hr:Row 2 (some b0) n c cl (al eRg l)) (hmax:n≤1000000000):bn Tryz.prog 151 [slv (some b0) n c] w0 fun v w=>ex 2 23 (some b0) c n (al eRg l.reverse) w0 v w:=by
 have hnl:=hr.n_eq da (by decide)
 have hmx:=hr.capmax; unfold maxLen at hmx; have hcp:=hr.cap
 refine az (n:=28) func151 rfl ntmps151 rfl ?_
 have hI:=Inv.lent w0 (some b0) (blk cl 23) hg
 refine ab (rgn rfl (pu (slv (some b0) n c) rfl (pu (iv ((n:Nat):Int)) (by kernel_rfl) (ac (dm rfl rfl (by omega) ?_)))))
 refine pu (iv 0) rfl (pu (iv ((n:Int) - 1)) rfl (aa (au ?_)))
 refine cb (fun m ρ w=>∃ (i:Nat) (jv:Int) (ccl:List Value) (M:List Rg),cd ρ [(0,slv (some b0) n c),(2,iv (i:Int)),(3,iv jv)]∧Inv [b0] w0 w [(some b0,blk ccl 23)]∧((i:Int)+jv=(n:Int) - 1)∧(Rev l M i)∧(Row 2 (some b0) n c ccl (al eRg M))∧((i:Int)≤jv+1∨i=0)∧m=n - i) (m:=n - 0) ⟨0,(n:Int) - 1,cl,l,⟨rfl,rfl,rfl,trivial⟩,hI.pk [0] rfl rfl,(by omega),(Rev.start l),hr,(by omega),rfl⟩ ?_
 rintro m ρ w ⟨i,jv,ccl,M,hag,hI,hij,hv,hrr,hi2,hm⟩
 obtain ⟨ρ,rfl⟩:=hag.form; clear hag
 refine ab (ab (rgn rfl (pu (iv (i:Int)) rfl (pu (iv jv) rfl (ac (cm rfl rfl ?_ ?_))))))
 ·intro h1
  refine aa (ah rfl (ak (ab (au ?_))))
  have hl9:=hv.len
  obtain ⟨j,hj⟩:∃ j:Nat,jv=(j:Int):=⟨jv.toNat,by omega⟩
  obtain ⟨x1,hx2⟩:=bq (l:=M) (i:=i) (by omega)
  have he3:=hrr.atS da (by decide) hx2
  obtain ⟨x4,hx5⟩:=bq (l:=M) (i:=j) (by omega)
  have he6:=hrr.atS da (by decide) hx5
  have hjn:j < n:=by omega
  replace hI:=hI.pk [0] rfl rfl
  refine dh hI [] (by decide) rfl rfl rfl fun hsub=>alp 0 (slv (some b0) n c) hsub rfl (by kernel_rfl) (fun _=>rfl) ?_
  refine alp 1 (iv (i:Int)) hsub rfl (by kernel_rfl) (fun _=>rfl) ?_
  refine alp 2 (slv (some b0) n c) hsub rfl (by kernel_rfl) (fun _=>rfl) ?_
  refine alp 3 (iv jv) hsub rfl (by kernel_rfl) (fun _=>rfl) ?_
  refine alp 4 (slv (some b0) n c) hsub rfl (by kernel_rfl) (fun _=>rfl) ?_
  refine alp 5 (iv jv) hsub rfl (by kernel_rfl) (fun _=>rfl) ?_
  refine ap 6 (.pointer (some ⟨b0,j * 2,none⟩)) hsub rfl (by kernel_rfl) (fun w hI=>be j underlying130 sizeOf23 rfl rfl (by omega) (by omega) br) ?_
  refine alp 8 (slv (some b0) n c) hsub rfl (by kernel_rfl) (fun _=>rfl) ?_
  refine alp 9 (iv (i:Int)) hsub rfl (by kernel_rfl) (fun _=>rfl) ?_
  refine ap 10 (.pointer (some ⟨b0,i * 2,none⟩)) hsub rfl (by kernel_rfl) (fun w hI=>be i underlying130 sizeOf23 rfl rfl rfl (by omega) br) ?_
  refine bc [7,11] (by kernel_rfl) rfl (each2 ?_ ?_)
  ·intro w hI
   refine dg rfl (cq hI 0 [iv x4.lo,iv x4.hi] isAgg23 sizeOf23 rfl rfl rfl he6 ?_)
   refine ⟨_,hI,dc (fun _ h=>h.pk [] rfl rfl) ?_⟩
   intro hsub
   refine bc [11] (by kernel_rfl) rfl (cz fun w hI=>dg rfl (cq hI 0 [iv x1.lo,iv x1.hi] isAgg23 sizeOf23 rfl rfl rfl he3 ?_))
   refine ⟨_,hI,dc (fun _ h=>h.pk [] rfl rfl) ?_⟩
   intro hsub
   refine ap 12 (.pointer (some ⟨b0,i * 2,none⟩)) hsub rfl (by kernel_rfl) (fun w hI=>be i underlying130 sizeOf23 rfl rfl rfl (by omega) br) ?_
   refine bc [13] (by kernel_rfl) rfl (cz fun w hI=>dg rfl (aq hI 0 2 [iv x4.lo,iv x4.hi] sizeOf23 rfl rfl rfl rfl rfl (hrr.room (by omega)) fun w hI=>⟨_,hI,dc (fun _ h=>h.pk [] rfl rfl) ?_⟩))
   intro hsub
   have r7:=hrr.put da (by decide) i x4 (by omega)
   obtain ⟨x9,d⟩:=bq (l:=(M).set i x4) (i:=j) (by first | omega | (simp only [List.length_set]; omega))
   have k:=r7.atS da (by decide) d
   refine ap 14 (.pointer (some ⟨b0,j * 2,none⟩)) hsub rfl (by kernel_rfl) (fun w hI=>be j underlying130 sizeOf23 rfl rfl (by omega) (by omega) br) ?_
   refine bc [15] (by kernel_rfl) rfl (cz fun w hI=>dg rfl (aq hI 0 2 [iv x1.lo,iv x1.hi] sizeOf23 rfl rfl rfl rfl rfl (r7.room (by omega)) fun w hI=>⟨_,hI,dc (fun _ h=>h.pk [] rfl rfl) ?_⟩))
   intro hsub
   have e:=r7.put da (by decide) j (⟨x1.lo,x1.hi⟩:Rg) (by omega)
   refine cp rfl (fun w hI=>?_)
   refine rgn rfl (pu (iv (i:Int)) rfl (ac (cj rfl rfl (by omega) ?_)))
   refine pu (iv jv) rfl (ac (dm rfl rfl (by omega) ?_))
   refine pu (iv ((i:Int)+1)) rfl (pu (iv (jv - 1)) rfl (aa ?_))
   exact ⟨rfl,_,(by omega),⟨i+1,jv - 1,putCells (putCells ccl (i * 2) (eRg x4)) (j * 2) (eRg (⟨x1.lo,x1.hi⟩:Rg)),(((M).set i x4).set j (⟨x1.lo,x1.hi⟩:Rg)),⟨rfl,rfl,rfl,trivial⟩,hI.pk [0] rfl rfl,(by omega),(hv.step (by omega) (by omega) hx2 hx5),e,(by omega),rfl⟩⟩
  intro w hI
  refine dg rfl (cq hI 0 [iv x1.lo,iv x1.hi] isAgg23 sizeOf23 rfl rfl rfl he3 ?_)
  refine ⟨_,hI,dc (fun _ h=>h.pk [] rfl rfl) ?_⟩
  intro hsub
  refine bc [7] (by kernel_rfl) rfl (cz fun w hI=>dg rfl (cq hI 0 [iv x4.lo,iv x4.hi] isAgg23 sizeOf23 rfl rfl rfl he6 ?_))
  refine ⟨_,hI,dc (fun _ h=>h.pk [] rfl rfl) ?_⟩
  intro hsub
  refine ap 12 (.pointer (some ⟨b0,i * 2,none⟩)) hsub rfl (by kernel_rfl) (fun w hI=>be i underlying130 sizeOf23 rfl rfl rfl (by omega) br) ?_
  refine bc [13] (by kernel_rfl) rfl (cz fun w hI=>dg rfl (aq hI 0 2 [iv x4.lo,iv x4.hi] sizeOf23 rfl rfl rfl rfl rfl (hrr.room (by omega)) fun w hI=>⟨_,hI,dc (fun _ h=>h.pk [] rfl rfl) ?_⟩))
  intro hsub
  have a:=hrr.put da (by decide) i x4 (by omega)
  obtain ⟨o,f⟩:=bq (l:=(M).set i x4) (i:=j) (by first | omega | (simp only [List.length_set]; omega))
  have p:=a.atS da (by decide) f
  refine ap 14 (.pointer (some ⟨b0,j * 2,none⟩)) hsub rfl (by kernel_rfl) (fun w hI=>be j underlying130 sizeOf23 rfl rfl (by omega) (by omega) br) ?_
  refine bc [15] (by kernel_rfl) rfl (cz fun w hI=>dg rfl (aq hI 0 2 [iv x1.lo,iv x1.hi] sizeOf23 rfl rfl rfl rfl rfl (a.room (by omega)) fun w hI=>⟨_,hI,dc (fun _ h=>h.pk [] rfl rfl) ?_⟩))
  intro hsub
  have g:=a.put da (by decide) j (⟨x1.lo,x1.hi⟩:Rg) (by omega)
  refine cp rfl (fun w hI=>?_)
  refine rgn rfl (pu (iv (i:Int)) rfl (ac (cj rfl rfl (by omega) ?_)))
  refine pu (iv jv) rfl (ac (dm rfl rfl (by omega) ?_))
  refine pu (iv ((i:Int)+1)) rfl (pu (iv (jv - 1)) rfl (aa ?_))
  exact ⟨rfl,_,(by omega),⟨i+1,jv - 1,putCells (putCells ccl (i * 2) (eRg x4)) (j * 2) (eRg (⟨x1.lo,x1.hi⟩:Rg)),(((M).set i x4).set j (⟨x1.lo,x1.hi⟩:Rg)),⟨rfl,rfl,rfl,trivial⟩,hI.pk [0] rfl rfl,(by omega),(hv.step (by omega) (by omega) hx2 hx5),g,(by omega),rfl⟩⟩
 intro h2
 refine aa (ai rfl (bw ?_))
 exact ⟨.tuple #[],Ret.r0 rfl , ⟨ccl,rfl,hI.pk [0] rfl rfl,(hrr.to (hv.done (by omega)) rfl)⟩⟩

theorem ReverseRanges_c (w0:World) (g:Option Nat) (n c:Nat) (cl:List Value) (l:List Rg) (hg:∀ b,g=some b→w0.heap[b]?=some (blk cl 23)) (hr:Row 2 g n c cl (al eRg l)) (hmax:n≤1000000000):bn Tryz.prog 151 [slv g n c] w0 fun v w=>ex 2 23 g c n (al eRg l.reverse) w0 v w:=by
  cases g with
  | none =>
    have hc:=hr.nil rfl
    have hn:n=0:=by have:=hr.cap; omega
    subst hc; subst hn
    have hl:l=[]:=List.eq_nil_of_length_eq_zero (hr.n_eq da (by decide)).symm
    subst hl
    exact ReverseRanges_c0 w0 cl hr
  | some b=>exact ReverseRanges_c1 w0 b n c cl l hg hr hmax


theorem ReversePassings_c0 (w0:World) (cl:List Value) (hr0:Row 1 none 0 0 cl (al ePf ([]:List Pf))):bn Tryz.prog 152 [slv none 0 0] w0 fun v w=>ex 1 188 none 0 0 (al ePf ([]:List Pf).reverse) w0 v w:=by
 refine az (n:=28) func152 rfl ntmps152 rfl ?_
 have hI:=Inv.lent w0 none (blk cl 188) (fun b h=>by cases h)
 refine ab (rgn rfl (pu (slv none 0 0) rfl (pu (iv ((0:Nat):Int)) (by kernel_rfl) (ac (dm rfl rfl (by omega) ?_)))))
 refine pu (iv 0) rfl (pu (iv (0 - 1)) rfl (aa (au ?_)))
 refine cb (fun m ρ w=>cd ρ [(0,slv none 0 0),(2,iv 0),(3,iv (0 - 1))]∧Inv []  w0 w [(none,blk cl 188)]∧m=0) (m:=0) ⟨⟨rfl,rfl,rfl,trivial⟩,hI.pk [0] rfl rfl,rfl⟩ ?_
 rintro m ρ w ⟨hag,hI,hm⟩
 obtain ⟨ρ,rfl⟩:=hag.form; clear hag
 refine ab (ab (rgn rfl (pu (iv 0) rfl (pu (iv (0 - 1)) rfl (ac (cm rfl rfl ?_ ?_))))))
 ·intro h1
  exact absurd h1 (by omega)
 intro h2
 refine aa (ai rfl (bw ?_))
 exact ⟨.tuple #[],Ret.r0 rfl , ⟨cl,rfl,hI.pk [0] rfl rfl,hr0⟩⟩

set_option maxHeartbeats 1600000 in
theorem ReversePassings_c1 (w0:World) (b0 n c:Nat) (cl:List Value) (l:List Pf) (hg:∀ b,some b0=some b→w0.heap[b]?=some (blk cl 188)) (hr:Row 1 (some b0) n c cl (al ePf l)) (hmax:n≤1000000000):bn Tryz.prog 152 [slv (some b0) n c] w0 fun v w=>ex 1 188 (some b0) c n (al ePf l.reverse) w0 v w:=by
 have hnl:=hr.n_eq il (by decide)
 have hmx:=hr.capmax; unfold maxLen at hmx; have hcp:=hr.cap
 refine az (n:=28) func152 rfl ntmps152 rfl ?_
 have hI:=Inv.lent w0 (some b0) (blk cl 188) hg
 refine ab (rgn rfl (pu (slv (some b0) n c) rfl (pu (iv ((n:Nat):Int)) (by kernel_rfl) (ac (dm rfl rfl (by omega) ?_)))))
 refine pu (iv 0) rfl (pu (iv ((n:Int) - 1)) rfl (aa (au ?_)))
 refine cb (fun m ρ w=>∃ (i:Nat) (jv:Int) (ccl:List Value) (M:List Pf),cd ρ [(0,slv (some b0) n c),(2,iv (i:Int)),(3,iv jv)]∧Inv [b0] w0 w [(some b0,blk ccl 188)]∧((i:Int)+jv=(n:Int) - 1)∧(Rev l M i)∧(Row 1 (some b0) n c ccl (al ePf M))∧((i:Int)≤jv+1∨i=0)∧m=n - i) (m:=n - 0) ⟨0,(n:Int) - 1,cl,l,⟨rfl,rfl,rfl,trivial⟩,hI.pk [0] rfl rfl,(by omega),(Rev.start l),hr,(by omega),rfl⟩ ?_
 rintro m ρ w ⟨i,jv,ccl,M,hag,hI,hij,hv,hrr,hi2,hm⟩
 obtain ⟨ρ,rfl⟩:=hag.form; clear hag
 refine ab (ab (rgn rfl (pu (iv (i:Int)) rfl (pu (iv jv) rfl (ac (cm rfl rfl ?_ ?_))))))
 ·intro h1
  refine aa (ah rfl (ak (ab (au ?_))))
  have hl9:=hv.len
  obtain ⟨j,hj⟩:∃ j:Nat,jv=(j:Int):=⟨jv.toNat,by omega⟩
  obtain ⟨x1,hx2⟩:=bq (l:=M) (i:=i) (by omega)
  have he3:=hrr.atS il (by decide) hx2
  obtain ⟨x4,hx5⟩:=bq (l:=M) (i:=j) (by omega)
  have he6:=hrr.atS il (by decide) hx5
  have hjn:j < n:=by omega
  replace hI:=hI.pk [0] rfl rfl
  refine dh hI [] (by decide) rfl rfl rfl fun hsub=>alp 0 (slv (some b0) n c) hsub rfl (by kernel_rfl) (fun _=>rfl) ?_
  refine alp 1 (iv (i:Int)) hsub rfl (by kernel_rfl) (fun _=>rfl) ?_
  refine alp 2 (slv (some b0) n c) hsub rfl (by kernel_rfl) (fun _=>rfl) ?_
  refine alp 3 (iv jv) hsub rfl (by kernel_rfl) (fun _=>rfl) ?_
  refine alp 4 (slv (some b0) n c) hsub rfl (by kernel_rfl) (fun _=>rfl) ?_
  refine alp 5 (iv jv) hsub rfl (by kernel_rfl) (fun _=>rfl) ?_
  refine ap 6 (.pointer (some ⟨b0,j * 1,none⟩)) hsub rfl (by kernel_rfl) (fun w hI=>be j underlying181 sizeOf188 rfl rfl (by omega) (by omega) br) ?_
  refine alp 8 (slv (some b0) n c) hsub rfl (by kernel_rfl) (fun _=>rfl) ?_
  refine alp 9 (iv (i:Int)) hsub rfl (by kernel_rfl) (fun _=>rfl) ?_
  refine ap 10 (.pointer (some ⟨b0,i * 1,none⟩)) hsub rfl (by kernel_rfl) (fun w hI=>be i underlying181 sizeOf188 rfl rfl rfl (by omega) br) ?_
  refine bc [7,11] (by kernel_rfl) rfl (each2 ?_ ?_)
  ·intro w hI
   refine dg rfl (db hI 0 (pfV x4) isAgg188 rfl rfl (he6 0 _ rfl) ?_)
   refine ⟨_,hI,dc (fun _ h=>h.pk [] rfl rfl) ?_⟩
   intro hsub
   refine bc [11] (by kernel_rfl) rfl (cz fun w hI=>dg rfl (db hI 0 (pfV x1) isAgg188 rfl rfl (he3 0 _ rfl) ?_))
   refine ⟨_,hI,dc (fun _ h=>h.pk [] rfl rfl) ?_⟩
   intro hsub
   refine ap 12 (.pointer (some ⟨b0,i * 1,none⟩)) hsub rfl (by kernel_rfl) (fun w hI=>be i underlying181 sizeOf188 rfl rfl rfl (by omega) br) ?_
   refine bc [13] (by kernel_rfl) rfl (cz fun w hI=>dg rfl (aq hI 0 1 [pfV x4] sizeOf188 rfl rfl rfl rfl rfl (hrr.room (by omega)) fun w hI=>⟨_,hI,dc (fun _ h=>h.pk [] rfl rfl) ?_⟩))
   intro hsub
   have r7:=hrr.put il (by decide) i x4 (by omega)
   obtain ⟨x9,d⟩:=bq (l:=(M).set i x4) (i:=j) (by first | omega | (simp only [List.length_set]; omega))
   have k:=r7.atS il (by decide) d
   refine ap 14 (.pointer (some ⟨b0,j * 1,none⟩)) hsub rfl (by kernel_rfl) (fun w hI=>be j underlying181 sizeOf188 rfl rfl (by omega) (by omega) br) ?_
   refine bc [15] (by kernel_rfl) rfl (cz fun w hI=>dg rfl (aq hI 0 1 [pfV x1] sizeOf188 rfl rfl rfl rfl rfl (r7.room (by omega)) fun w hI=>⟨_,hI,dc (fun _ h=>h.pk [] rfl rfl) ?_⟩))
   intro hsub
   have e:=r7.put il (by decide) j x1 (by omega)
   refine cp rfl (fun w hI=>?_)
   refine rgn rfl (pu (iv (i:Int)) rfl (ac (cj rfl rfl (by omega) ?_)))
   refine pu (iv jv) rfl (ac (dm rfl rfl (by omega) ?_))
   refine pu (iv ((i:Int)+1)) rfl (pu (iv (jv - 1)) rfl (aa ?_))
   exact ⟨rfl,_,(by omega),⟨i+1,jv - 1,putCells (putCells ccl (i * 1) (ePf x4)) (j * 1) (ePf x1),(((M).set i x4).set j x1),⟨rfl,rfl,rfl,trivial⟩,hI.pk [0] rfl rfl,(by omega),(hv.step (by omega) (by omega) hx2 hx5),e,(by omega),rfl⟩⟩
  intro w hI
  refine dg rfl (db hI 0 (pfV x1) isAgg188 rfl rfl (he3 0 _ rfl) ?_)
  refine ⟨_,hI,dc (fun _ h=>h.pk [] rfl rfl) ?_⟩
  intro hsub
  refine bc [7] (by kernel_rfl) rfl (cz fun w hI=>dg rfl (db hI 0 (pfV x4) isAgg188 rfl rfl (he6 0 _ rfl) ?_))
  refine ⟨_,hI,dc (fun _ h=>h.pk [] rfl rfl) ?_⟩
  intro hsub
  refine ap 12 (.pointer (some ⟨b0,i * 1,none⟩)) hsub rfl (by kernel_rfl) (fun w hI=>be i underlying181 sizeOf188 rfl rfl rfl (by omega) br) ?_
  refine bc [13] (by kernel_rfl) rfl (cz fun w hI=>dg rfl (aq hI 0 1 [pfV x4] sizeOf188 rfl rfl rfl rfl rfl (hrr.room (by omega)) fun w hI=>⟨_,hI,dc (fun _ h=>h.pk [] rfl rfl) ?_⟩))
  intro hsub
  have a:=hrr.put il (by decide) i x4 (by omega)
  obtain ⟨o,f⟩:=bq (l:=(M).set i x4) (i:=j) (by first | omega | (simp only [List.length_set]; omega))
  have p:=a.atS il (by decide) f
  refine ap 14 (.pointer (some ⟨b0,j * 1,none⟩)) hsub rfl (by kernel_rfl) (fun w hI=>be j underlying181 sizeOf188 rfl rfl (by omega) (by omega) br) ?_
  refine bc [15] (by kernel_rfl) rfl (cz fun w hI=>dg rfl (aq hI 0 1 [pfV x1] sizeOf188 rfl rfl rfl rfl rfl (a.room (by omega)) fun w hI=>⟨_,hI,dc (fun _ h=>h.pk [] rfl rfl) ?_⟩))
  intro hsub
  have g:=a.put il (by decide) j x1 (by omega)
  refine cp rfl (fun w hI=>?_)
  refine rgn rfl (pu (iv (i:Int)) rfl (ac (cj rfl rfl (by omega) ?_)))
  refine pu (iv jv) rfl (ac (dm rfl rfl (by omega) ?_))
  refine pu (iv ((i:Int)+1)) rfl (pu (iv (jv - 1)) rfl (aa ?_))
  exact ⟨rfl,_,(by omega),⟨i+1,jv - 1,putCells (putCells ccl (i * 1) (ePf x4)) (j * 1) (ePf x1),(((M).set i x4).set j x1),⟨rfl,rfl,rfl,trivial⟩,hI.pk [0] rfl rfl,(by omega),(hv.step (by omega) (by omega) hx2 hx5),g,(by omega),rfl⟩⟩
 intro h2
 refine aa (ai rfl (bw ?_))
 exact ⟨.tuple #[],Ret.r0 rfl , ⟨ccl,rfl,hI.pk [0] rfl rfl,(hrr.to (hv.done (by omega)) rfl)⟩⟩

theorem ReversePassings_c (w0:World) (g:Option Nat) (n c:Nat) (cl:List Value) (l:List Pf) (hg:∀ b,g=some b→w0.heap[b]?=some (blk cl 188)) (hr:Row 1 g n c cl (al ePf l)) (hmax:n≤1000000000):bn Tryz.prog 152 [slv g n c] w0 fun v w=>ex 1 188 g c n (al ePf l.reverse) w0 v w:=by
  cases g with
  | none =>
    have hc:=hr.nil rfl
    have hn:n=0:=by have:=hr.cap; omega
    subst hc; subst hn
    have hl:l=[]:=List.eq_nil_of_length_eq_zero (hr.n_eq il (by decide)).symm
    subst hl
    exact ReversePassings_c0 w0 cl hr
  | some b=>exact ReversePassings_c1 w0 b n c cl l hg hr hmax

end Go.K
