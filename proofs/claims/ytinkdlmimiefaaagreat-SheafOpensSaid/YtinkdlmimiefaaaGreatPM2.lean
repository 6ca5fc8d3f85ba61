import Derived.Test.YtinkdlmimiefaaaGreatProg
import Derived.Test.YtinkdlmimiefaaaGreatPM1
import Derived.Test.YtinkdlmimiefaaaGreatPKK2
namespace Go.K
open Go.Proofs.Tryz
open Go.Proofs Go.RowKit
set_option linter.unusedVariables false
set_option linter.unusedSimpArgs false
set_option maxRecDepth 100000
attribute [local irreducible] Seq cw cx fl opX

theorem idx_step {α:Type} {p:α→Bool} {l:List α} {k:Nat} (hp:∀ i x,i < k→l[i]?=some x→p x=false) {y:α} (hy:l[k]?=some y) (h:p y=false):∀ i x,i < k+1→l[i]?=some x→p x=false:=fun i x hi hx=>by
  by_cases e:i=k
  · subst e; rw [hy] at hx; injection hx with hx; rw [← hx]; exact h
  exact hp i x (by omega) hx
theorem idx_hit {α:Type} {p:α→Bool} {l:List α} {k:Nat} (hp:∀ i x,i < k→l[i]?=some x→p x=false) {y:α} (hy:l[k]?=some y) (h:p y=true):idxI p l=(k:Int):=by
  have:l.findIdx? p=some k:=by
    rw [List.findIdx?_eq_some_iff_getElem]
    refine ⟨bu hy,?_,fun j hj=>?_⟩
    · rw [List.getElem?_eq_getElem (bu hy)] at hy; injection hy with hy; rw [hy]; exact h
    have:=hp j _ hj (List.getElem?_eq_getElem (Nat.lt_trans hj (bu hy))); simp [this]
  unfold idxI; rw [this]
theorem idx_bd {α:Type} (p:α→Bool) (l:List α):-1≤idxI p l∧idxI p l+1≤l.length:=by
  unfold idxI
  cases h:l.findIdx? p with
  | none=>constructor <;> simp <;> omega
  | some i =>
    rw [List.findIdx?_eq_some_iff_getElem] at h
    obtain ⟨h1,_,_⟩:=h
    constructor <;> simp <;> omega
theorem idx_none {α:Type} {p:α→Bool} {l:List α} {k:Nat} (hp:∀ i x,i < k→l[i]?=some x→p x=false) (h:l.length≤k):idxI p l=-1:=by
  have:l.findIdx? p=none:=by
    rw [List.findIdx?_eq_none_iff]
    intro x hx
    obtain ⟨i,hi,he⟩:=List.getElem_of_mem hx
    exact hp i x (by omega) (by rw [List.getElem?_eq_getElem hi,he])
  unfold idxI; rw [this]


theorem IndexNote_c (w0:World) (l:List Nt) (A:Option Addr) (n c:Nat) (fv:Value) (p:Nt→Bool) (hn:n=l.length) (hmax:n≤9223372036854775807) (hC:bi w0 A (al eNt l)) (hf:∀ w,Below w0.heap.size w0 w→∀ x∈l,cx Tryz.prog fv [.agg (eNt x).toArray] w fun v w'=>v=.bool (p x)∧Below w.heap.size w w'):bn Tryz.prog 158 [.slice A n c,fv] w0 fun v w=>v=.int .i64 (idxI p l)∧Below w0.heap.size w0 w:=by
 refine az (n:=19) func158 rfl ntmps158 rfl ?_
 have hI:=Inv.start w0
 refine ab (rgn rfl (pu (iv 0) rfl (aa (ab (ab (rgn rfl (pu (.slice A n c) rfl (pu (iv ((n:Nat):Int)) (by kernel_rfl) (pu (iv 0) rfl ?_)))))))))
 refine aa (au ?_)
 refine cb (fun m ρ w=>∃ (k:Nat),cd ρ [(0,.slice A n c),(1,fv),(7,iv (n:Int)),(8,iv (k:Int))]∧Inv []  w0 w []∧(k≤n)∧(∀ i x,i < k→l[i]?=some x→p x=false)∧m=n - k) (m:=n - 0) ⟨0,⟨rfl,rfl,rfl,rfl,trivial⟩,hI.pk [] rfl rfl,(by omega),(fun i x h=>absurd h (by omega)),rfl⟩ ?_
 rintro m ρ w ⟨k,hag,hI,hk,hp,hm⟩
 obtain ⟨ρ,rfl⟩:=hag.form; clear hag
 refine ab (rgn rfl (ac (cm rfl rfl ?_ ?_)))
 ·intro h1
  refine aa (ab (ah rfl (ak (ab (au ?_)))))
  refine ab (rgn rfl (pu (iv (k:Int)) rfl (pu (iv (k:Int)) rfl (aa (ab (rgn rfl (pu (fv) rfl (pu (.slice A n c) rfl (pu (iv (k:Int)) rfl ?_)))))))))
  obtain ⟨x1,hx2⟩:=bq (l:=l) (i:=k) (by omega)
  obtain ⟨b3,o4,hA5,hb6,he7⟩:=hC.at_ eNt_len (by decide) hx2
  refine ac (cn k underlying98 sizeOf95 rfl hA5 rfl rfl (by omega) ?_)
  refine ac (ef hI [iv x1.s,iv x1.k,iv x1.u] isAgg95 sizeOf95 rfl rfl hb6 (by simp) he7 ?_)
  refine ac (s_callVb hI [.agg #[iv x1.s,iv x1.k,iv x1.u]] (p x1) rfl (by kernel_rfl) (hf w hI.below x1 (bz hx2)) ?_ ?_)
  ·intro h2 w hI
   refine aa (ah rfl (ab (rgn rfl (pu (iv (k:Int)) rfl (pu (iv (k:Int)) rfl (aa (aj ?_)))))))
   exact ⟨iv (k:Int),Ret.r1 rfl rfl,⟨by rw [idx_hit hp hx2 h2],hI.below⟩⟩
  intro h3 w hI
  refine aa (ai rfl (ak (rgn rfl (ac (cj rfl rfl (by omega) ?_)))))
  refine pu (iv ((k:Int)+1)) rfl (aa ?_)
  exact ⟨rfl,_,(by omega),⟨k+1,⟨rfl,rfl,rfl,rfl,trivial⟩,hI.pk [] rfl rfl,(by omega),(idx_step hp hx2 h3),rfl⟩⟩
 intro h4
 refine aa (ab (ai rfl (bw ?_)))
 refine ab (rgn rfl (pu (iv (-1)) rfl (aa (aj ?_))))
 exact ⟨iv (-1),Ret.r1 rfl rfl,⟨by rw [idx_none (k:=k) hp (by omega)],hI.below⟩⟩


theorem IndexLoad_c (w0:World) (l:List Ld) (A:Option Addr) (n c:Nat) (fv:Value) (p:Ld→Bool) (hn:n=l.length) (hmax:n≤9223372036854775807) (hC:bi w0 A (al eLd l)) (hf:∀ w,Below w0.heap.size w0 w→∀ x∈l,cx Tryz.prog fv [.agg (eLd x).toArray] w fun v w'=>v=.bool (p x)∧Below w.heap.size w w'):bn Tryz.prog 160 [.slice A n c,fv] w0 fun v w=>v=.int .i64 (idxI p l)∧Below w0.heap.size w0 w:=by
 refine az (n:=19) func160 rfl ntmps160 rfl ?_
 have hI:=Inv.start w0
 refine ab (rgn rfl (pu (iv 0) rfl (aa (ab (ab (rgn rfl (pu (.slice A n c) rfl (pu (iv ((n:Nat):Int)) (by kernel_rfl) (pu (iv 0) rfl ?_)))))))))
 refine aa (au ?_)
 refine cb (fun m ρ w=>∃ (k:Nat),cd ρ [(0,.slice A n c),(1,fv),(7,iv (n:Int)),(8,iv (k:Int))]∧Inv []  w0 w []∧(k≤n)∧(∀ i x,i < k→l[i]?=some x→p x=false)∧m=n - k) (m:=n - 0) ⟨0,⟨rfl,rfl,rfl,rfl,trivial⟩,hI.pk [] rfl rfl,(by omega),(fun i x h=>absurd h (by omega)),rfl⟩ ?_
 rintro m ρ w ⟨k,hag,hI,hk,hp,hm⟩
 obtain ⟨ρ,rfl⟩:=hag.form; clear hag
 refine ab (rgn rfl (ac (cm rfl rfl ?_ ?_)))
 ·intro h1
  refine aa (ab (ah rfl (ak (ab (au ?_)))))
  refine ab (rgn rfl (pu (iv (k:Int)) rfl (pu (iv (k:Int)) rfl (aa (ab (rgn rfl (pu (fv) rfl (pu (.slice A n c) rfl (pu (iv (k:Int)) rfl ?_)))))))))
  obtain ⟨x1,hx2⟩:=bq (l:=l) (i:=k) (by omega)
  obtain ⟨b3,o4,hA5,hb6,he7⟩:=hC.at_ bf (by decide) hx2
  refine ac (cn k underlying24 sizeOf30 rfl hA5 rfl rfl (by omega) ?_)
  refine ac (ef hI (eLd x1) isAgg30 sizeOf30 rfl rfl hb6 (by simp) he7 ?_)
  refine ac (s_callVb hI [.agg (eLd x1).toArray] (p x1) rfl (by kernel_rfl) (hf w hI.below x1 (bz hx2)) ?_ ?_)
  ·intro h2 w hI
   refine aa (ah rfl (ab (rgn rfl (pu (iv (k:Int)) rfl (pu (iv (k:Int)) rfl (aa (aj ?_)))))))
   exact ⟨iv (k:Int),Ret.r1 rfl rfl,⟨by rw [idx_hit hp hx2 h2],hI.below⟩⟩
  intro h3 w hI
  refine aa (ai rfl (ak (rgn rfl (ac (cj rfl rfl (by omega) ?_)))))
  refine pu (iv ((k:Int)+1)) rfl (aa ?_)
  exact ⟨rfl,_,(by omega),⟨k+1,⟨rfl,rfl,rfl,rfl,trivial⟩,hI.pk [] rfl rfl,(by omega),(idx_step hp hx2 h3),rfl⟩⟩
 intro h4
 refine aa (ab (ai rfl (bw ?_)))
 refine ab (rgn rfl (pu (iv (-1)) rfl (aa (aj ?_))))
 exact ⟨iv (-1),Ret.r1 rfl rfl,⟨by rw [idx_none (k:=k) hp (by omega)],hI.below⟩⟩


theorem IndexStand_c (w0:World) (l:List Ld) (A:Option Addr) (n c:Nat) (fv:Value) (p:Ld→Bool) (hn:n=l.length) (hmax:n≤9223372036854775807) (hC:bi w0 A (al eLd l)) (hf:∀ w,Below w0.heap.size w0 w→∀ x∈l,cx Tryz.prog fv [.agg (eLd x).toArray] w fun v w'=>v=.bool (p x)∧Below w.heap.size w w'):bn Tryz.prog 161 [.slice A n c,fv] w0 fun v w=>v=.int .i64 (idxI p l)∧Below w0.heap.size w0 w:=by
 refine az (n:=19) func161 rfl ntmps161 rfl ?_
 have hI:=Inv.start w0
 refine ab (rgn rfl (pu (iv 0) rfl (aa (ab (ab (rgn rfl (pu (.slice A n c) rfl (pu (iv ((n:Nat):Int)) (by kernel_rfl) (pu (iv 0) rfl ?_)))))))))
 refine aa (au ?_)
 refine cb (fun m ρ w=>∃ (k:Nat),cd ρ [(0,.slice A n c),(1,fv),(7,iv (n:Int)),(8,iv (k:Int))]∧Inv []  w0 w []∧(k≤n)∧(∀ i x,i < k→l[i]?=some x→p x=false)∧m=n - k) (m:=n - 0) ⟨0,⟨rfl,rfl,rfl,rfl,trivial⟩,hI.pk [] rfl rfl,(by omega),(fun i x h=>absurd h (by omega)),rfl⟩ ?_
 rintro m ρ w ⟨k,hag,hI,hk,hp,hm⟩
 obtain ⟨ρ,rfl⟩:=hag.form; clear hag
 refine ab (rgn rfl (ac (cm rfl rfl ?_ ?_)))
 ·intro h1
  refine aa (ab (ah rfl (ak (ab (au ?_)))))
  refine ab (rgn rfl (pu (iv (k:Int)) rfl (pu (iv (k:Int)) rfl (aa (ab (rgn rfl (pu (fv) rfl (pu (.slice A n c) rfl (pu (iv (k:Int)) rfl ?_)))))))))
  obtain ⟨x1,hx2⟩:=bq (l:=l) (i:=k) (by omega)
  obtain ⟨b3,o4,hA5,hb6,he7⟩:=hC.at_ bf (by decide) hx2
  refine ac (cn k underlying25 sizeOf31 rfl hA5 rfl rfl (by omega) ?_)
  refine ac (ef hI (eLd x1) isAgg31 sizeOf31 rfl rfl hb6 (by simp) he7 ?_)
  refine ac (s_callVb hI [.agg (eLd x1).toArray] (p x1) rfl (by kernel_rfl) (hf w hI.below x1 (bz hx2)) ?_ ?_)
  ·intro h2 w hI
   refine aa (ah rfl (ab (rgn rfl (pu (iv (k:Int)) rfl (pu (iv (k:Int)) rfl (aa (aj ?_)))))))
   exact ⟨iv (k:Int),Ret.r1 rfl rfl,⟨by rw [idx_hit hp hx2 h2],hI.below⟩⟩
  intro h3 w hI
  refine aa (ai rfl (ak (rgn rfl (ac (cj rfl rfl (by omega) ?_)))))
  refine pu (iv ((k:Int)+1)) rfl (aa ?_)
  exact ⟨rfl,_,(by omega),⟨k+1,⟨rfl,rfl,rfl,rfl,trivial⟩,hI.pk [] rfl rfl,(by omega),(idx_step hp hx2 h3),rfl⟩⟩
 intro h4
 refine aa (ab (ai rfl (bw ?_)))
 refine ab (rgn rfl (pu (iv (-1)) rfl (aa (aj ?_))))
 exact ⟨iv (-1),Ret.r1 rfl rfl,⟨by rw [idx_none (k:=k) hp (by omega)],hI.below⟩⟩


theorem IndexSpell_c (w0:World) (l:List Sp) (A:Option Addr) (n c:Nat) (fv:Value) (p:Sp→Bool) (hn:n=l.length) (hmax:n≤9223372036854775807) (hC:bi w0 A (al eSp l)) (hf:∀ w,Below w0.heap.size w0 w→∀ x∈l,cx Tryz.prog fv [.agg (eSp x).toArray] w fun v w'=>v=.bool (p x)∧Below w.heap.size w w'):bn Tryz.prog 162 [.slice A n c,fv] w0 fun v w=>v=.int .i64 (idxI p l)∧Below w0.heap.size w0 w:=by
 refine az (n:=19) func162 rfl ntmps162 rfl ?_
 have hI:=Inv.start w0
 refine ab (rgn rfl (pu (iv 0) rfl (aa (ab (ab (rgn rfl (pu (.slice A n c) rfl (pu (iv ((n:Nat):Int)) (by kernel_rfl) (pu (iv 0) rfl ?_)))))))))
 refine aa (au ?_)
 refine cb (fun m ρ w=>∃ (k:Nat),cd ρ [(0,.slice A n c),(1,fv),(7,iv (n:Int)),(8,iv (k:Int))]∧Inv []  w0 w []∧(k≤n)∧(∀ i x,i < k→l[i]?=some x→p x=false)∧m=n - k) (m:=n - 0) ⟨0,⟨rfl,rfl,rfl,rfl,trivial⟩,hI.pk [] rfl rfl,(by omega),(fun i x h=>absurd h (by omega)),rfl⟩ ?_
 rintro m ρ w ⟨k,hag,hI,hk,hp,hm⟩
 obtain ⟨ρ,rfl⟩:=hag.form; clear hag
 refine ab (rgn rfl (ac (cm rfl rfl ?_ ?_)))
 ·intro h1
  refine aa (ab (ah rfl (ak (ab (au ?_)))))
  refine ab (rgn rfl (pu (iv (k:Int)) rfl (pu (iv (k:Int)) rfl (aa (ab (rgn rfl (pu (fv) rfl (pu (.slice A n c) rfl (pu (iv (k:Int)) rfl ?_)))))))))
  obtain ⟨x1,hx2⟩:=bq (l:=l) (i:=k) (by omega)
  obtain ⟨b3,o4,hA5,hb6,he7⟩:=hC.at_ gb (by decide) hx2
  refine ac (cn k underlying26 sizeOf33 rfl hA5 rfl rfl (by omega) ?_)
  refine ac (ef hI (eSp x1) isAgg33 sizeOf33 rfl rfl hb6 (by simp) he7 ?_)
  refine ac (s_callVb hI [.agg (eSp x1).toArray] (p x1) rfl (by kernel_rfl) (hf w hI.below x1 (bz hx2)) ?_ ?_)
  ·intro h2 w hI
   refine aa (ah rfl (ab (rgn rfl (pu (iv (k:Int)) rfl (pu (iv (k:Int)) rfl (aa (aj ?_)))))))
   exact ⟨iv (k:Int),Ret.r1 rfl rfl,⟨by rw [idx_hit hp hx2 h2],hI.below⟩⟩
  intro h3 w hI
  refine aa (ai rfl (ak (rgn rfl (ac (cj rfl rfl (by omega) ?_)))))
  refine pu (iv ((k:Int)+1)) rfl (aa ?_)
  exact ⟨rfl,_,(by omega),⟨k+1,⟨rfl,rfl,rfl,rfl,trivial⟩,hI.pk [] rfl rfl,(by omega),(idx_step hp hx2 h3),rfl⟩⟩
 intro h4
 refine aa (ab (ai rfl (bw ?_)))
 refine ab (rgn rfl (pu (iv (-1)) rfl (aa (aj ?_))))
 exact ⟨iv (-1),Ret.r1 rfl rfl,⟨by rw [idx_none (k:=k) hp (by omega)],hI.below⟩⟩


theorem appendLoads_c (w0:World) (g:Option Nat) (n c:Nat) (cl:List Value) (X:List Nt) (l:List Ld) (A:Option Addr) (n2 c2:Nat) (fv:Value) (q:Ld→Nt) (hg:∀ b,g=some b→w0.heap[b]?=some (blk cl 95)) (hr:Row 3 g n c cl (al eNt X)) (hn:n2=l.length) (hC:jq g.toList w0 A (al eLd l)) (hf:∀ w,But g.toList w0 w→∀ x∈l,cx Tryz.prog fv [.agg (eLd x).toArray] w fun v w'=>v=.agg (eNt (q x)).toArray∧Below w.heap.size w w') (hb:n+n2≤1000000000):bn Tryz.prog 134 [slv g n c,.slice A n2 c2,fv] w0 fun v w=>Gives 3 95 g (n+n2) (al eNt (X++l.map q)) w0 v w:=by
 refine az (n:=23) func134 rfl ntmps134 rfl ?_
 have hI:=Inv.lent w0 g (blk cl 95) hg
 refine ab (rgn rfl (pu (.slice none 0 0) rfl (aa (ab (ab (rgn rfl (pu (.slice A n2 c2) rfl (pu (iv ((n2:Nat):Int)) (by kernel_rfl) (pu (iv 0) rfl ?_)))))))))
 refine aa (au ?_)
 refine cb (fun m ρ w=>∃ (k:Nat) (gg:Option Nat) (cc:Nat) (ccl:List Value),cd ρ [(0,slv gg (n+k) cc),(2,fv),(9,.slice A n2 c2),(10,iv (n2:Int)),(11,iv (k:Int))]∧Inv g.toList w0 w [(gg,blk ccl 95)]∧(k≤n2)∧(Row 3 gg (n+k) cc ccl (al eNt (X++(l.take k).map q)))∧m=n2 - k) (m:=n2 - 0) ⟨0,g,c,cl,⟨rfl,rfl,rfl,rfl,rfl,trivial⟩,hI.pk [0] rfl rfl,(by omega),(hr.to (by simp) rfl),rfl⟩ ?_
 rintro m ρ w ⟨k,gg,cc,ccl,hag,hI,hk,hrr,hm⟩
 obtain ⟨ρ,rfl⟩:=hag.form; clear hag
 refine ab (rgn rfl (ac (cm rfl rfl ?_ ?_)))
 ·intro h1
  refine aa (ab (ah rfl (ak (ab (au ?_)))))
  refine ab (rgn rfl ?_)
  obtain ⟨x1,hx2⟩:=bq (l:=l) (i:=k) (by omega)
  obtain ⟨b3,o4,hA5,hb6,hB8,he7⟩:=hC.at_ bf (by decide) hx2
  refine ac (cn k underlying24 sizeOf30 rfl hA5 rfl rfl (by omega) ?_)
  refine ac (ef hI (eLd x1) isAgg30 sizeOf30 rfl rfl hb6 hB8 he7 ?_)
  refine ac (bh hI [iv 0,iv 0,iv 0,iv 0,iv 0,iv 0] zeroValue30 rfl fun b9 w hI=>ac (aq hI 0 6 (eLd x1) sizeOf30 rfl rfl rfl rfl rfl (kh rfl) fun w hI=>aa (rgn rfl (pu (slv gg (n+k) cc) rfl (pu (fv) rfl (ac (ar hI 0 6 (eLd x1) isAgg30 sizeOf30 rfl rfl rfl rfl ?_)))))))
  refine ac (s_callVv hI [.agg (eLd x1).toArray] (.agg #[iv (q x1).s,iv (q x1).k,iv (q x1).u]) rfl (by kernel_rfl) (hf w hI.but x1 (bz hx2)) fun w hI=>ac (fu hI [iv (q x1).s,iv (q x1).k,iv (q x1).u] 95 (fun b=>slv (some b) 1 1) (by kernel_rfl) fun o w hI=>ac (s_app hI underlying98 (z:=.agg #[iv 0,iv 0,iv 0]) (k:=3) (bytes:=24) rfl rfl rfl 2 rfl rfl hrr [iv (q x1).s,iv (q x1).k,iv (q x1).u] rfl rfl (hI.cells 0 (off:=0) rfl (fun j u h=>by rw [Nat.zero_add]; exact h)) (by simp [Value.oneCell',eLd,eSp]) (by omega) (by omega) ?_)))
  intro a d f w hI e
  have e:Row 3 a (n+k+1) d f (al eNt ((X++(l.take k).map q)++[q x1])):=e.snoc _ rfl
  refine pu (slv a (n+k+1) d) rfl (aa (rgn rfl (ac (cj rfl rfl (by omega) ?_))))
  refine pu (iv ((k:Int)+1)) rfl (aa ?_)
  exact ⟨rfl,_,(by omega),⟨k+1,a,d,f,⟨rfl,rfl,rfl,rfl,rfl,trivial⟩,hI.pk [2] rfl rfl,(by omega),(e.to (by rw [fe hx2]; simp) (by omega)),rfl⟩⟩
 intro h2
 refine aa (ab (ai rfl (bw ?_)))
 refine ab (rgn rfl (pu (slv gg (n+k) cc) rfl (pu (slv gg (n+k) cc) rfl (aa (aj ?_)))))
 exact ⟨slv gg (n+k) cc,Ret.r1 rfl rfl,⟨gg,cc,ccl,(by rw [show n+k=n+n2 by omega]),hI.pk [0] rfl rfl,hrr.to (by simp [show k=l.length by omega]) (by omega)⟩⟩


theorem appendStands_c (w0:World) (g:Option Nat) (n c:Nat) (cl:List Value) (X:List Nt) (l:List Ld) (A:Option Addr) (n2 c2:Nat) (fv:Value) (q:Ld→Nt) (hg:∀ b,g=some b→w0.heap[b]?=some (blk cl 95)) (hr:Row 3 g n c cl (al eNt X)) (hn:n2=l.length) (hC:jq g.toList w0 A (al eLd l)) (hf:∀ w,But g.toList w0 w→∀ x∈l,cx Tryz.prog fv [.agg (eLd x).toArray] w fun v w'=>v=.agg (eNt (q x)).toArray∧Below w.heap.size w w') (hb:n+n2≤1000000000):bn Tryz.prog 135 [slv g n c,.slice A n2 c2,fv] w0 fun v w=>Gives 3 95 g (n+n2) (al eNt (X++l.map q)) w0 v w:=by
 refine az (n:=23) func135 rfl ntmps135 rfl ?_
 have hI:=Inv.lent w0 g (blk cl 95) hg
 refine ab (rgn rfl (pu (.slice none 0 0) rfl (aa (ab (ab (rgn rfl (pu (.slice A n2 c2) rfl (pu (iv ((n2:Nat):Int)) (by kernel_rfl) (pu (iv 0) rfl ?_)))))))))
 refine aa (au ?_)
 refine cb (fun m ρ w=>∃ (k:Nat) (gg:Option Nat) (cc:Nat) (ccl:List Value),cd ρ [(0,slv gg (n+k) cc),(2,fv),(9,.slice A n2 c2),(10,iv (n2:Int)),(11,iv (k:Int))]∧Inv g.toList w0 w [(gg,blk ccl 95)]∧(k≤n2)∧(Row 3 gg (n+k) cc ccl (al eNt (X++(l.take k).map q)))∧m=n2 - k) (m:=n2 - 0) ⟨0,g,c,cl,⟨rfl,rfl,rfl,rfl,rfl,trivial⟩,hI.pk [0] rfl rfl,(by omega),(hr.to (by simp) rfl),rfl⟩ ?_
 rintro m ρ w ⟨k,gg,cc,ccl,hag,hI,hk,hrr,hm⟩
 obtain ⟨ρ,rfl⟩:=hag.form; clear hag
 refine ab (rgn rfl (ac (cm rfl rfl ?_ ?_)))
 ·intro h1
  refine aa (ab (ah rfl (ak (ab (au ?_)))))
  refine ab (rgn rfl ?_)
  obtain ⟨x1,hx2⟩:=bq (l:=l) (i:=k) (by omega)
  obtain ⟨b3,o4,hA5,hb6,hB8,he7⟩:=hC.at_ bf (by decide) hx2
  refine ac (cn k underlying25 sizeOf31 rfl hA5 rfl rfl (by omega) ?_)
  refine ac (ef hI (eLd x1) isAgg31 sizeOf31 rfl rfl hb6 hB8 he7 ?_)
  refine ac (bh hI [iv 0,iv 0,iv 0,iv 0,iv 0,iv 0] zeroValue31 rfl fun b9 w hI=>ac (aq hI 0 6 (eLd x1) sizeOf31 rfl rfl rfl rfl rfl (kh rfl) fun w hI=>aa (rgn rfl (pu (slv gg (n+k) cc) rfl (pu (fv) rfl (ac (ar hI 0 6 (eLd x1) isAgg31 sizeOf31 rfl rfl rfl rfl ?_)))))))
  refine ac (s_callVv hI [.agg (eLd x1).toArray] (.agg #[iv (q x1).s,iv (q x1).k,iv (q x1).u]) rfl (by kernel_rfl) (hf w hI.but x1 (bz hx2)) fun w hI=>ac (fu hI [iv (q x1).s,iv (q x1).k,iv (q x1).u] 95 (fun b=>slv (some b) 1 1) (by kernel_rfl) fun o w hI=>ac (s_app hI underlying98 (z:=.agg #[iv 0,iv 0,iv 0]) (k:=3) (bytes:=24) rfl rfl rfl 2 rfl rfl hrr [iv (q x1).s,iv (q x1).k,iv (q x1).u] rfl rfl (hI.cells 0 (off:=0) rfl (fun j u h=>by rw [Nat.zero_add]; exact h)) (by simp [Value.oneCell',eLd,eSp]) (by omega) (by omega) ?_)))
  intro a d f w hI e
  have e:Row 3 a (n+k+1) d f (al eNt ((X++(l.take k).map q)++[q x1])):=e.snoc _ rfl
  refine pu (slv a (n+k+1) d) rfl (aa (rgn rfl (ac (cj rfl rfl (by omega) ?_))))
  refine pu (iv ((k:Int)+1)) rfl (aa ?_)
  exact ⟨rfl,_,(by omega),⟨k+1,a,d,f,⟨rfl,rfl,rfl,rfl,rfl,trivial⟩,hI.pk [2] rfl rfl,(by omega),(e.to (by rw [fe hx2]; simp) (by omega)),rfl⟩⟩
 intro h2
 refine aa (ab (ai rfl (bw ?_)))
 refine ab (rgn rfl (pu (slv gg (n+k) cc) rfl (pu (slv gg (n+k) cc) rfl (aa (aj ?_)))))
 exact ⟨slv gg (n+k) cc,Ret.r1 rfl rfl,⟨gg,cc,ccl,(by rw [show n+k=n+n2 by omega]),hI.pk [0] rfl rfl,hrr.to (by simp [show k=l.length by omega]) (by omega)⟩⟩


theorem appendSpells_c (w0:World) (g:Option Nat) (n c:Nat) (cl:List Value) (X:List Nt) (l:List Sp) (A:Option Addr) (n2 c2:Nat) (fv:Value) (q:Sp→Nt) (hg:∀ b,g=some b→w0.heap[b]?=some (blk cl 95)) (hr:Row 3 g n c cl (al eNt X)) (hn:n2=l.length) (hC:jq g.toList w0 A (al eSp l)) (hf:∀ w,But g.toList w0 w→∀ x∈l,cx Tryz.prog fv [.agg (eSp x).toArray] w fun v w'=>v=.agg (eNt (q x)).toArray∧Below w.heap.size w w') (hb:n+n2≤1000000000):bn Tryz.prog 136 [slv g n c,.slice A n2 c2,fv] w0 fun v w=>Gives 3 95 g (n+n2) (al eNt (X++l.map q)) w0 v w:=by
 refine az (n:=23) func136 rfl ntmps136 rfl ?_
 have hI:=Inv.lent w0 g (blk cl 95) hg
 refine ab (rgn rfl (pu (.slice none 0 0) rfl (aa (ab (ab (rgn rfl (pu (.slice A n2 c2) rfl (pu (iv ((n2:Nat):Int)) (by kernel_rfl) (pu (iv 0) rfl ?_)))))))))
 refine aa (au ?_)
 refine cb (fun m ρ w=>∃ (k:Nat) (gg:Option Nat) (cc:Nat) (ccl:List Value),cd ρ [(0,slv gg (n+k) cc),(2,fv),(9,.slice A n2 c2),(10,iv (n2:Int)),(11,iv (k:Int))]∧Inv g.toList w0 w [(gg,blk ccl 95)]∧(k≤n2)∧(Row 3 gg (n+k) cc ccl (al eNt (X++(l.take k).map q)))∧m=n2 - k) (m:=n2 - 0) ⟨0,g,c,cl,⟨rfl,rfl,rfl,rfl,rfl,trivial⟩,hI.pk [0] rfl rfl,(by omega),(hr.to (by simp) rfl),rfl⟩ ?_
 rintro m ρ w ⟨k,gg,cc,ccl,hag,hI,hk,hrr,hm⟩
 obtain ⟨ρ,rfl⟩:=hag.form; clear hag
 refine ab (rgn rfl (ac (cm rfl rfl ?_ ?_)))
 ·intro h1
  refine aa (ab (ah rfl (ak (ab (au ?_)))))
  refine ab (rgn rfl ?_)
  obtain ⟨x1,hx2⟩:=bq (l:=l) (i:=k) (by omega)
  obtain ⟨b3,o4,hA5,hb6,hB8,he7⟩:=hC.at_ gb (by decide) hx2
  refine ac (cn k underlying26 sizeOf33 rfl hA5 rfl rfl (by omega) ?_)
  refine ac (ef hI (eSp x1) isAgg33 sizeOf33 rfl rfl hb6 hB8 he7 ?_)
  refine ac (bh hI [iv 0,iv 0,iv 0,iv 0,iv 0,iv 0] zeroValue33 rfl fun b9 w hI=>ac (aq hI 0 6 (eSp x1) sizeOf33 rfl rfl rfl rfl rfl (kh rfl) fun w hI=>aa (rgn rfl (pu (slv gg (n+k) cc) rfl (pu (fv) rfl (ac (ar hI 0 6 (eSp x1) isAgg33 sizeOf33 rfl rfl rfl rfl ?_)))))))
  refine ac (s_callVv hI [.agg (eSp x1).toArray] (.agg #[iv (q x1).s,iv (q x1).k,iv (q x1).u]) rfl (by kernel_rfl) (hf w hI.but x1 (bz hx2)) fun w hI=>ac (fu hI [iv (q x1).s,iv (q x1).k,iv (q x1).u] 95 (fun b=>slv (some b) 1 1) (by kernel_rfl) fun o w hI=>ac (s_app hI underlying98 (z:=.agg #[iv 0,iv 0,iv 0]) (k:=3) (bytes:=24) rfl rfl rfl 2 rfl rfl hrr [iv (q x1).s,iv (q x1).k,iv (q x1).u] rfl rfl (hI.cells 0 (off:=0) rfl (fun j u h=>by rw [Nat.zero_add]; exact h)) (by simp [Value.oneCell',eLd,eSp]) (by omega) (by omega) ?_)))
  intro a d f w hI e
  have e:Row 3 a (n+k+1) d f (al eNt ((X++(l.take k).map q)++[q x1])):=e.snoc _ rfl
  refine pu (slv a (n+k+1) d) rfl (aa (rgn rfl (ac (cj rfl rfl (by omega) ?_))))
  refine pu (iv ((k:Int)+1)) rfl (aa ?_)
  exact ⟨rfl,_,(by omega),⟨k+1,a,d,f,⟨rfl,rfl,rfl,rfl,rfl,trivial⟩,hI.pk [2] rfl rfl,(by omega),(e.to (by rw [fe hx2]; simp) (by omega)),rfl⟩⟩
 intro h2
 refine aa (ab (ai rfl (bw ?_)))
 refine ab (rgn rfl (pu (slv gg (n+k) cc) rfl (pu (slv gg (n+k) cc) rfl (aa (aj ?_)))))
 exact ⟨slv gg (n+k) cc,Ret.r1 rfl rfl,⟨gg,cc,ccl,(by rw [show n+k=n+n2 by omega]),hI.pk [0] rfl rfl,hrr.to (by simp [show k=l.length by omega]) (by omega)⟩⟩

theorem idx_any {α:Type} (p:α→Bool) (l:List α):l.any p=decide (0≤idxI p l):=by
  unfold idxI
  cases h:l.findIdx? p with
  | none =>
    rw [List.findIdx?_eq_none_iff] at h
    have h1:l.any p=false:=by rw [List.any_eq_false]; intro x hx; simp [h x hx]
    rw [h1]; rfl
  | some i =>
    rw [List.findIdx?_eq_some_iff_getElem] at h
    obtain ⟨h1,h2,_⟩:=h
    have h3:l.any p=true:=List.any_eq_true.2 ⟨_,List.getElem_mem h1,h2⟩
    rw [h3]; simp


theorem ContainsNote_c (w0:World) (l:List Nt) (A:Option Addr) (n c:Nat) (fv:Value) (p:Nt→Bool) (hn:n=l.length) (hmax:n≤9223372036854775807) (hC:bi w0 A (al eNt l)) (hf:∀ w,Below w0.heap.size w0 w→∀ x∈l,cx Tryz.prog fv [.agg (eNt x).toArray] w fun v w'=>v=.bool (p x)∧Below w.heap.size w w'):bn Tryz.prog 121 [.slice A n c,fv] w0 fun v w=>v=.bool (l.any p)∧Below w0.heap.size w0 w:=by
 refine az (n:=9) func121 rfl ntmps121 rfl ?_
 have hI:=Inv.start w0
 refine ab (rgn rfl (pu kf rfl (aa (ab (rgn rfl (pu (.slice A n c) rfl (pu (fv) rfl ?_)))))))
 obtain ⟨q1,hq1⟩:∃ z,z=idxI p l:=⟨_,rfl⟩
 have hq1b:-1≤q1∧q1+1≤(l).length:=by rw [hq1]; exact idx_bd _ _
 refine ac (bg hI 158 [.slice A n c,fv] (iv q1) (by kernel_rfl) (by rw [hq1]; exact (IndexNote_c _ (l) A n c (fv) p (by omega) (by omega) (hC.inv0 hI) (fun w1 hb=>hf w1 (hI.below.trans (hb.mono hI.below.size))))) fun w hI=>ac (iq rfl rfl ?_ ?_))
 ·intro h1
  refine pu kg rfl (aa (aj ?_))
  exact ⟨.bool true,Ret.r1 rfl rfl,⟨by rw [idx_any,← hq1]; simp_all,hI.below⟩⟩
 intro h2
 refine pu kf rfl (aa (aj ?_))
 exact ⟨.bool false,Ret.r1 rfl rfl,⟨by rw [idx_any,← hq1]; simp_all,hI.below⟩⟩


theorem ContainsSpell_c (w0:World) (l:List Sp) (A:Option Addr) (n c:Nat) (fv:Value) (p:Sp→Bool) (hn:n=l.length) (hmax:n≤9223372036854775807) (hC:bi w0 A (al eSp l)) (hf:∀ w,Below w0.heap.size w0 w→∀ x∈l,cx Tryz.prog fv [.agg (eSp x).toArray] w fun v w'=>v=.bool (p x)∧Below w.heap.size w w'):bn Tryz.prog 156 [.slice A n c,fv] w0 fun v w=>v=.bool (l.any p)∧Below w0.heap.size w0 w:=by
 refine az (n:=9) func156 rfl ntmps156 rfl ?_
 have hI:=Inv.start w0
 refine ab (rgn rfl (pu kf rfl (aa (ab (rgn rfl (pu (.slice A n c) rfl (pu (fv) rfl ?_)))))))
 obtain ⟨q1,hq1⟩:∃ z,z=idxI p l:=⟨_,rfl⟩
 have hq1b:-1≤q1∧q1+1≤(l).length:=by rw [hq1]; exact idx_bd _ _
 refine ac (bg hI 162 [.slice A n c,fv] (iv q1) (by kernel_rfl) (by rw [hq1]; exact (IndexSpell_c _ (l) A n c (fv) p (by omega) (by omega) (hC.inv0 hI) (fun w1 hb=>hf w1 (hI.below.trans (hb.mono hI.below.size))))) fun w hI=>ac (iq rfl rfl ?_ ?_))
 ·intro h1
  refine pu kg rfl (aa (aj ?_))
  exact ⟨.bool true,Ret.r1 rfl rfl,⟨by rw [idx_any,← hq1]; simp_all,hI.below⟩⟩
 intro h2
 refine pu kf rfl (aa (aj ?_))
 exact ⟨.bool false,Ret.r1 rfl rfl,⟨by rw [idx_any,← hq1]; simp_all,hI.below⟩⟩

theorem jz {α:Type} {enc:α→List Value} {k:Nat} (hk:∀ x,(enc x).length=k) (hk0:0 < k) {w:World} {A:Option Addr} {l:List α} (hC:bi w A (al enc l)) (h:A=none):l=[]:=by
  subst h
  exact flat_nil_of hk hk0 hC.nil_of


theorem CloneLoads_c (w0:World) (l:List Ld) (A:Option Addr) (n c:Nat) (hn:n=l.length) (hb:n≤1000000000) (hC:bi w0 A (al eLd l)):bn Tryz.prog 123 [.slice A n c] w0 fun v w=>Gives 6 30 none n (al eLd l) w0 v w:=by
 refine az (n:=8) func123 rfl ntmps123 rfl ?_
 have hI:=Inv.start w0
 refine ab (rgn rfl (pu (.slice none 0 0) rfl (aa (ab (ab (rgn rfl (pu (.slice A n c) rfl (ac (s_eqnil underlying24 rfl rfl ?_ ?_)))))))))
 ·intro h1
  refine aa (ah rfl (ab (rgn rfl (pu (.slice none 0 0) rfl (aa (aj ?_))))))
  have hI:=hI.nilRow 30
  exact ⟨.slice none 0 0,Ret.r1 rfl rfl,⟨none,0,[],(by rw [show n=0 by rw [hn,jz (bf) (by decide) hC h1]; rfl]; rfl),hI.pk [0] rfl rfl,by subst h1; have:=jz (bf) (by decide) hC rfl; subst this; subst hn; exact Row.nil_ 6⟩⟩
 intro h2
 refine aa (ai rfl (ak (ab (rgn rfl (ac (fu hI [] 30 (fun b=>slv (some b) 0 0) (by kernel_rfl) fun b1 w hI=>pu (.slice A n c) rfl (ac (s_app hI underlying24 (z:=.agg #[iv 0,iv 0,iv 0,iv 0,iv 0,iv 0]) (k:=6) (bytes:=48) rfl rfl rfl 0 rfl rfl (Row.zero_ 6 b1) (al eLd l) rfl (by rw [dt bf]; omega) (hC.inv0 hI) (flat_cell eLd_cell _) (by omega) (by omega) ?_))))))))
 intro g2 c3 cl4 w hI r5
 have r5:Row 6 g2 (0+n) c3 cl4 (al eLd l):=r5
 refine pu (slv g2 (0+n) c3) rfl (aa (aj ?_))
 exact ⟨slv g2 (0+n) c3,Ret.r1 rfl rfl,⟨g2,c3,cl4,(by rw [show 0+n=n by omega]),hI.pk [0] rfl rfl,r5.to rfl (by omega)⟩⟩


theorem jr (w0:World) (l:List Ld) (A:Option Addr) (n c:Nat) (hn:n=l.length) (hb:n≤1000000000) (hC:bi w0 A (al eLd l)):bn Tryz.prog 124 [.slice A n c] w0 fun v w=>Gives 6 31 none n (al eLd l) w0 v w:=by
 refine az (n:=8) func124 rfl ntmps124 rfl ?_
 have hI:=Inv.start w0
 refine ab (rgn rfl (pu (.slice none 0 0) rfl (aa (ab (ab (rgn rfl (pu (.slice A n c) rfl (ac (s_eqnil underlying25 rfl rfl ?_ ?_)))))))))
 ·intro h1
  refine aa (ah rfl (ab (rgn rfl (pu (.slice none 0 0) rfl (aa (aj ?_))))))
  have hI:=hI.nilRow 31
  exact ⟨.slice none 0 0,Ret.r1 rfl rfl,⟨none,0,[],(by rw [show n=0 by rw [hn,jz (bf) (by decide) hC h1]; rfl]; rfl),hI.pk [0] rfl rfl,by subst h1; have:=jz (bf) (by decide) hC rfl; subst this; subst hn; exact Row.nil_ 6⟩⟩
 intro h2
 refine aa (ai rfl (ak (ab (rgn rfl (ac (fu hI [] 31 (fun b=>slv (some b) 0 0) (by kernel_rfl) fun b1 w hI=>pu (.slice A n c) rfl (ac (s_app hI underlying25 (z:=.agg #[iv 0,iv 0,iv 0,iv 0,iv 0,iv 0]) (k:=6) (bytes:=48) rfl rfl rfl 0 rfl rfl (Row.zero_ 6 b1) (al eLd l) rfl (by rw [dt bf]; omega) (hC.inv0 hI) (flat_cell eLd_cell _) (by omega) (by omega) ?_))))))))
 intro g2 c3 cl4 w hI r5
 have r5:Row 6 g2 (0+n) c3 cl4 (al eLd l):=r5
 refine pu (slv g2 (0+n) c3) rfl (aa (aj ?_))
 exact ⟨slv g2 (0+n) c3,Ret.r1 rfl rfl,⟨g2,c3,cl4,(by rw [show 0+n=n by omega]),hI.pk [0] rfl rfl,r5.to rfl (by omega)⟩⟩


theorem CloneSpells_c (w0:World) (l:List Sp) (A:Option Addr) (n c:Nat) (hn:n=l.length) (hb:n≤1000000000) (hC:bi w0 A (al eSp l)):bn Tryz.prog 125 [.slice A n c] w0 fun v w=>Gives 6 33 none n (al eSp l) w0 v w:=by
 refine az (n:=8) func125 rfl ntmps125 rfl ?_
 have hI:=Inv.start w0
 refine ab (rgn rfl (pu (.slice none 0 0) rfl (aa (ab (ab (rgn rfl (pu (.slice A n c) rfl (ac (s_eqnil underlying26 rfl rfl ?_ ?_)))))))))
 ·intro h1
  refine aa (ah rfl (ab (rgn rfl (pu (.slice none 0 0) rfl (aa (aj ?_))))))
  have hI:=hI.nilRow 33
  exact ⟨.slice none 0 0,Ret.r1 rfl rfl,⟨none,0,[],(by rw [show n=0 by rw [hn,jz (gb) (by decide) hC h1]; rfl]; rfl),hI.pk [0] rfl rfl,by subst h1; have:=jz (gb) (by decide) hC rfl; subst this; subst hn; exact Row.nil_ 6⟩⟩
 intro h2
 refine aa (ai rfl (ak (ab (rgn rfl (ac (fu hI [] 33 (fun b=>slv (some b) 0 0) (by kernel_rfl) fun b1 w hI=>pu (.slice A n c) rfl (ac (s_app hI underlying26 (z:=.agg #[iv 0,iv 0,iv 0,iv 0,iv 0,iv 0]) (k:=6) (bytes:=48) rfl rfl rfl 0 rfl rfl (Row.zero_ 6 b1) (al eSp l) rfl (by rw [dt gb]; omega) (hC.inv0 hI) (flat_cell eSp_cell _) (by omega) (by omega) ?_))))))))
 intro g2 c3 cl4 w hI r5
 have r5:Row 6 g2 (0+n) c3 cl4 (al eSp l):=r5
 refine pu (slv g2 (0+n) c3) rfl (aa (aj ?_))
 exact ⟨slv g2 (0+n) c3,Ret.r1 rfl rfl,⟨g2,c3,cl4,(by rw [show 0+n=n by omega]),hI.pk [0] rfl rfl,r5.to rfl (by omega)⟩⟩


theorem CloneRanges_c (w0:World) (l:List Rg) (A:Option Addr) (n c:Nat) (hn:n=l.length) (hb:n≤1000000000) (hC:bi w0 A (al eRg l)):bn Tryz.prog 176 [.slice A n c] w0 fun v w=>Gives 2 23 none n (al eRg l) w0 v w:=by
 refine az (n:=8) func176 rfl ntmps176 rfl ?_
 have hI:=Inv.start w0
 refine ab (rgn rfl (pu (.slice none 0 0) rfl (aa (ab (ab (rgn rfl (pu (.slice A n c) rfl (ac (s_eqnil underlying130 rfl rfl ?_ ?_)))))))))
 ·intro h1
  refine aa (ah rfl (ab (rgn rfl (pu (.slice none 0 0) rfl (aa (aj ?_))))))
  have hI:=hI.nilRow 23
  exact ⟨.slice none 0 0,Ret.r1 rfl rfl,⟨none,0,[],(by rw [show n=0 by rw [hn,jz (da) (by decide) hC h1]; rfl]; rfl),hI.pk [0] rfl rfl,by subst h1; have:=jz (da) (by decide) hC rfl; subst this; subst hn; exact Row.nil_ 2⟩⟩
 intro h2
 refine aa (ai rfl (ak (ab (rgn rfl (ac (fu hI [] 23 (fun b=>slv (some b) 0 0) (by kernel_rfl) fun b1 w hI=>pu (.slice A n c) rfl (ac (s_app hI underlying130 (z:=.agg #[iv 0,iv 0]) (k:=2) (bytes:=16) rfl rfl rfl 0 rfl rfl (Row.zero_ 2 b1) (al eRg l) rfl (by rw [dt da]; omega) (hC.inv0 hI) (flat_cell eRg_cell _) (by omega) (by omega) ?_))))))))
 intro g2 c3 cl4 w hI r5
 have r5:Row 2 g2 (0+n) c3 cl4 (al eRg l):=r5
 refine pu (slv g2 (0+n) c3) rfl (aa (aj ?_))
 exact ⟨slv g2 (0+n) c3,Ret.r1 rfl rfl,⟨g2,c3,cl4,(by rw [show 0+n=n by omega]),hI.pk [0] rfl rfl,r5.to rfl (by omega)⟩⟩

theorem del_take {α:Type} {p:α→Bool} {l:List α} {i:Nat} {x:α} (hx:l[i]?=some x):(l.take (i+1)).filter (fun y=>!p y)=(l.take i).filter (fun y=>!p y)++(if p x then [] else [x]):=by
  rw [fe hx,List.filter_append]
  cases h:p x <;> simp [h]
theorem del_first {α:Type} {p:α→Bool} {l:List α} (i:Nat) (h:idxI p l=(i:Int)):i < l.length∧(l.take (i+1)).filter (fun y=>!p y)=l.take i:=by
  unfold idxI at h
  cases hf:l.findIdx? p with
  | none=>rw [hf] at h; exact absurd h (by simp)
  | some j =>
    rw [hf] at h
    have:j=i:=Int.ofNat.inj h
    subst this
    rw [List.findIdx?_eq_some_iff_getElem] at hf
    obtain ⟨h1,h2,h3⟩:=hf
    refine ⟨h1,?_⟩
    rw [del_take (List.getElem?_eq_getElem h1),h2]
    simp only [if_true,List.append_nil]
    rw [List.filter_eq_self]
    intro x hx
    obtain ⟨k,hk,he⟩:=List.getElem_of_mem hx
    rw [List.length_take] at hk
    have:=h3 k (by omega)
    rw [List.getElem_take] at he
    rw [← he]; simpa using this
theorem del_none {α:Type} {p:α→Bool} {l:List α} (h:idxI p l=-1):l.filter (fun y=>!p y)=l:=by
  unfold idxI at h
  cases hf:l.findIdx? p with
  | none =>
    rw [List.findIdx?_eq_none_iff] at hf
    rw [List.filter_eq_self]
    intro x hx; simp [hf x hx]
  | some j=>rw [hf] at h; exact absurd h (by simp)
structure Del {α:Type} (p:α→Bool) (l M:List α) (i j:Nat):Prop where
  len:M.length=l.length
  kept:M.take i=(l.take j).filter (fun y=>!p y)
  rest:M.drop j=l.drop j
  cnt:i=((l.take j).filter (fun y=>!p y)).length
  lt:i < j
  le:j≤l.length
theorem Del.first {α:Type} {p:α→Bool} {l:List α} {i:Nat} (h:idxI p l=(i:Int)):Del p l l i (i+1):=by
  obtain ⟨h1,h2⟩:=del_first i h
  exact ⟨rfl,h2.symm,rfl,by rw [h2,List.length_take]; omega,by omega,by omega⟩
theorem Del.get {α:Type} {p:α→Bool} {l M:List α} {i j:Nat} (h:Del p l M i j) {x:α} (hx:M[j]?=some x):l[j]?=some x:=by
  have:(M.drop j)[0]?=(l.drop j)[0]?:=by rw [h.rest]
  simpa [hx] using this.symm
theorem Del.yes {α:Type} {p:α→Bool} {l M:List α} {i j:Nat} (h:Del p l M i j) {x:α} (hx:M[j]?=some x) (hp:p x=true):Del p l M i (j+1):=by
  have hl:=h.get hx
  have e:(l.take (j+1)).filter (fun y=>!p y)=(l.take j).filter (fun y=>!p y):=by rw [del_take hl,hp]; simp
  refine ⟨h.len,by rw [e,h.kept],?_,by rw [e]; exact h.cnt,Nat.lt_succ_of_lt h.lt,bu hl⟩
  have:=congrArg (List.drop 1) h.rest
  simpa [List.drop_drop,Nat.add_comm] using this
theorem Del.no {α:Type} {p:α→Bool} {l M:List α} {i j:Nat} (h:Del p l M i j) {x:α} (hx:M[j]?=some x) (hp:p x=false):Del p l (M.set i x) (i+1) (j+1):=by
  have hl:=h.get hx
  have hj:=bu hl
  have e:(l.take (j+1)).filter (fun y=>!p y)=(l.take j).filter (fun y=>!p y)++[x]:=by rw [del_take hl,hp]; simp
  have hi:=h.lt
  refine ⟨by rw [List.length_set,h.len],?_,?_,?_,by omega,by omega⟩
  · rw [e,← h.kept,List.take_succ_eq_append_getElem (by rw [List.length_set,h.len]; omega)]
    simp [List.take_set_of_le]
  · have:=congrArg (List.drop 1) h.rest
    rw [List.drop_set_of_lt (by omega)]
    simpa [List.drop_drop,Nat.add_comm] using this
  rw [e,List.length_append,← h.cnt]; rfl
theorem Del.done {α:Type} {p:α→Bool} {l M:List α} {i j:Nat} (h:Del p l M i j) (hj:l.length≤j):M.take i=l.filter (fun y=>!p y)∧i=(l.filter (fun y=>!p y)).length:=by
  have h1:=h.kept
  have h2:=h.cnt
  rw [List.take_of_length_le hj] at h1 h2
  exact ⟨h1,h2⟩


theorem DeleteLoads_c (w0:World) (g:Option Nat) (n c:Nat) (cl:List Value) (l:List Ld) (fv:Value) (p:Ld→Bool) (hg:∀ b,g=some b→w0.heap[b]?=some (blk cl 30)) (hr:Row 6 g n c cl (al eLd l)) (hmax:n≤9223372036854775807) (hf:∀ w,But g.toList w0 w→∀ x∈l,cx Tryz.prog fv [.agg (eLd x).toArray] w fun v w'=>v=.bool (p x)∧Below w.heap.size w w'):bn Tryz.prog 128 [slv g n c,fv] w0 fun v w=>GivesIn 6 30 g c (l.filter (fun y=>!p y)).length (al eLd (l.filter (fun y=>!p y))) w0 v w:=by
 have hnl:=hr.n_eq bf (by decide)
 refine az (n:=42) func128 rfl ntmps128 rfl ?_
 have hI:=Inv.lent w0 g (blk cl 30) hg
 refine ab (rgn rfl (pu (.slice none 0 0) rfl (aa (ab (rgn rfl (pu (slv g n c) rfl (pu (fv) rfl ?_)))))))
 obtain ⟨q1,hq1⟩:∃ z,z=idxI p l:=⟨_,rfl⟩
 have hq1b:-1≤q1∧q1+1≤(l).length:=by rw [hq1]; exact idx_bd _ _
 refine ac (bg hI 160 [slv g n c,fv] (iv q1) (by kernel_rfl) (by rw [hq1]; exact (IndexLoad_c _ (l) (g.map fun b=>⟨b,0,none⟩) n c (fv) p (hr.n_eq bf (by decide)) (by omega) (hI.rowCells 0 rfl hr) (fun w1 hb=>hf w1 (hI.but.thenBelow hb)))) fun w hI=>pu (iv q1) rfl (aa (ab (ab (rgn rfl (pu (iv q1) rfl (ac (di rfl rfl ?_ ?_))))))))
 ·intro h1
  refine aa (ah rfl (ab (rgn rfl (pu (slv g n c) rfl (pu (slv g n c) rfl (aa (aj ?_)))))))
  exact ⟨slv g n c,Ret.r1 rfl rfl,⟨cl,(by rw [del_none (hq1.symm.trans h1),← hr.n_eq bf (by decide)]),hI.pk [0] rfl rfl,(by rw [del_none (hq1.symm.trans h1),← hr.n_eq bf (by decide)]; exact hr)⟩⟩
 intro h2
 refine aa (ai rfl (ak (ab (ab (rgn rfl (pu (iv q1) rfl (ac (cj rfl rfl (by omega) ?_))))))))
 refine pu (iv (q1+1)) rfl (aa (au ?_))
 obtain ⟨i0,rfl⟩:∃ i0:Nat,q1=(i0:Int):=⟨q1.toNat,by omega⟩
 have hd0:=Del.first hq1.symm
 have hlt0:=hd0.le
 have hmx:=hr.capmax; unfold maxLen at hmx; have hcp:=hr.cap
 obtain ⟨b0,rfl⟩:=hr.some_ (by omega)
 refine cb (fun m ρ w=>∃ (i:Nat) (j:Nat) (ccl:List Value) (M:List Ld),cd ρ [(0,slv (some b0) n c),(1,fv),(5,iv (i:Int)),(6,iv (j:Int))]∧Inv [b0] w0 w [(some b0,blk ccl 30)]∧(Del p l M i j)∧(Row 6 (some b0) n c ccl (al eLd M))∧m=n - j) (m:=n - (i0+1)) ⟨i0,i0+1,cl,l,⟨rfl,rfl,rfl,rfl,trivial⟩,hI.pk [0] rfl rfl,hd0,hr,rfl⟩ ?_
 rintro m ρ w ⟨i,j,ccl,M,hag,hI,hd,hrr,hm⟩
 obtain ⟨ρ,rfl⟩:=hag.form; clear hag
 have hd1:=hd.lt; have hd2:=hd.le; have hd3:=hd.len
 refine ab (ab (rgn rfl (pu (iv (j:Int)) rfl (pu (slv (some b0) n c) rfl (pu (iv ((n:Nat):Int)) (by kernel_rfl) (ac (cm rfl rfl ?_ ?_)))))))
 ·intro h3
  refine aa (ah rfl (ak (ab (au ?_))))
  refine ab (rgn rfl (pu (slv (some b0) n c) rfl (pu (iv (j:Int)) rfl ?_)))
  obtain ⟨x2,hx3⟩:=bq (l:=M) (i:=j) (by omega)
  have he4:=hrr.atS bf (by decide) hx3
  refine ac (be j underlying24 sizeOf30 rfl rfl rfl (by omega) ?_)
  refine ac (cq hI 0 (eLd x2) isAgg30 sizeOf30 rfl rfl rfl he4 ?_)
  refine ac (bh hI [iv 0,iv 0,iv 0,iv 0,iv 0,iv 0] zeroValue30 rfl fun b5 w hI=>ac (aq hI 0 6 (eLd x2) sizeOf30 rfl rfl rfl rfl rfl (kh rfl) fun w hI=>aa (ab (rgn rfl (pu (fv) rfl (ac (ar hI 0 6 (eLd x2) isAgg30 sizeOf30 rfl rfl rfl rfl ?_)))))))
  refine ac (s_callVb hI [.agg (eLd x2).toArray] (p x2) rfl (by kernel_rfl) (hf w hI.but x2 (bz (hd.get hx3))) ?_ ?_)
  ·intro h4 w hI
   refine pu kf rfl (aa (ai rfl (ak (rgn rfl (pu (iv (j:Int)) rfl (ac (cj rfl rfl (by omega) ?_)))))))
   refine pu (iv ((j:Int)+1)) rfl (aa ?_)
   exact ⟨rfl,_,(by omega),⟨i,j+1,ccl,M,⟨rfl,rfl,rfl,rfl,trivial⟩,hI.pk [1] rfl rfl,(hd.yes hx3 h4),hrr,rfl⟩⟩
  intro h5 w hI
  refine pu kg rfl (aa (ah rfl (ab (rgn rfl (pu (slv (some b0) n c) rfl (pu (iv (i:Int)) rfl (ac (ar hI 0 6 (eLd x2) isAgg30 sizeOf30 rfl rfl rfl rfl ?_))))))))
  obtain ⟨x6,hx7⟩:=bq (l:=M) (i:=i) (by omega)
  have he8:=hrr.atS bf (by decide) hx7
  refine ac (be i underlying24 sizeOf30 rfl rfl rfl (by omega) ?_)
  refine ac (aq hI 1 6 (eLd x2) sizeOf30 rfl rfl rfl rfl rfl (hrr.room (by omega)) ?_)
  intro w hI
  have r9:=hrr.put bf (by decide) i x2 (by omega)
  obtain ⟨a,hcl⟩:∃ z,z=putCells ccl (i * 6) (eLd x2):=⟨_,rfl⟩
  rw [← hcl] at r9
  have hI:Inv [b0] w0 w [(some b5,blk (eLd x2) 30),(some b0,blk a 30)]:=by rw [hcl]; exact hI
  clear hcl
  refine aa (rgn rfl (pu (iv (i:Int)) rfl (ac (cj rfl rfl (by omega) ?_))))
  refine pu (iv ((i:Int)+1)) rfl (aa (rgn rfl (pu (iv (j:Int)) rfl (ac (cj rfl rfl (by omega) ?_)))))
  refine pu (iv ((j:Int)+1)) rfl (aa ?_)
  exact ⟨rfl,_,(by omega),⟨i+1,j+1,a,M.set i x2,⟨rfl,rfl,rfl,rfl,trivial⟩,hI.pk [1] rfl rfl,(hd.no hx3 h5),r9,rfl⟩⟩
 intro h6
 refine aa (ai rfl (bw ?_))
 refine ab (rgn rfl (pu (slv (some b0) n c) rfl (pu (iv (i:Int)) rfl (ac (ka i underlying24 sizeOf30 rfl rfl (by omega) hrr.cap ?_)))))
 refine ac (s_clearTail hI 0 underlying24 zeroValue30 rfl rfl rfl rfl (by omega) hrr.cap hrr.size ?_)
 intro d w hI hl0 ht0
 have e:=(hrr.cut bf (by decide) i (by omega)).same hl0 ht0
 refine aa (ab (rgn rfl (pu (slv (some b0) n c) rfl (pu (iv (i:Int)) rfl (ac (s_sliceHi i underlying24 sizeOf30 rfl rfl (Nat.le_trans (by omega) hrr.cap) ?_))))))
 refine pu (slv (some b0) i c) rfl (aa (aj ?_))
 exact ⟨slv (some b0) i c,Ret.r1 rfl rfl,⟨d,(by rw [← (hd.done (by omega)).2]),hI.pk [0] rfl rfl,(by rw [← (hd.done (by omega)).2,← (hd.done (by omega)).1]; exact e)⟩⟩


theorem DeleteStands_c (w0:World) (g:Option Nat) (n c:Nat) (cl:List Value) (l:List Ld) (fv:Value) (p:Ld→Bool) (hg:∀ b,g=some b→w0.heap[b]?=some (blk cl 31)) (hr:Row 6 g n c cl (al eLd l)) (hmax:n≤9223372036854775807) (hf:∀ w,But g.toList w0 w→∀ x∈l,cx Tryz.prog fv [.agg (eLd x).toArray] w fun v w'=>v=.bool (p x)∧Below w.heap.size w w'):bn Tryz.prog 130 [slv g n c,fv] w0 fun v w=>GivesIn 6 31 g c (l.filter (fun y=>!p y)).length (al eLd (l.filter (fun y=>!p y))) w0 v w:=by
 have hnl:=hr.n_eq bf (by decide)
 refine az (n:=42) func130 rfl ntmps130 rfl ?_
 have hI:=Inv.lent w0 g (blk cl 31) hg
 refine ab (rgn rfl (pu (.slice none 0 0) rfl (aa (ab (rgn rfl (pu (slv g n c) rfl (pu (fv) rfl ?_)))))))
 obtain ⟨q1,hq1⟩:∃ z,z=idxI p l:=⟨_,rfl⟩
 have hq1b:-1≤q1∧q1+1≤(l).length:=by rw [hq1]; exact idx_bd _ _
 refine ac (bg hI 161 [slv g n c,fv] (iv q1) (by kernel_rfl) (by rw [hq1]; exact (IndexStand_c _ (l) (g.map fun b=>⟨b,0,none⟩) n c (fv) p (hr.n_eq bf (by decide)) (by omega) (hI.rowCells 0 rfl hr) (fun w1 hb=>hf w1 (hI.but.thenBelow hb)))) fun w hI=>pu (iv q1) rfl (aa (ab (ab (rgn rfl (pu (iv q1) rfl (ac (di rfl rfl ?_ ?_))))))))
 ·intro h1
  refine aa (ah rfl (ab (rgn rfl (pu (slv g n c) rfl (pu (slv g n c) rfl (aa (aj ?_)))))))
  exact ⟨slv g n c,Ret.r1 rfl rfl,⟨cl,(by rw [del_none (hq1.symm.trans h1),← hr.n_eq bf (by decide)]),hI.pk [0] rfl rfl,(by rw [del_none (hq1.symm.trans h1),← hr.n_eq bf (by decide)]; exact hr)⟩⟩
 intro h2
 refine aa (ai rfl (ak (ab (ab (rgn rfl (pu (iv q1) rfl (ac (cj rfl rfl (by omega) ?_))))))))
 refine pu (iv (q1+1)) rfl (aa (au ?_))
 obtain ⟨i0,rfl⟩:∃ i0:Nat,q1=(i0:Int):=⟨q1.toNat,by omega⟩
 have hd0:=Del.first hq1.symm
 have hlt0:=hd0.le
 have hmx:=hr.capmax; unfold maxLen at hmx; have hcp:=hr.cap
 obtain ⟨b0,rfl⟩:=hr.some_ (by omega)
 refine cb (fun m ρ w=>∃ (i:Nat) (j:Nat) (ccl:List Value) (M:List Ld),cd ρ [(0,slv (some b0) n c),(1,fv),(5,iv (i:Int)),(6,iv (j:Int))]∧Inv [b0] w0 w [(some b0,blk ccl 31)]∧(Del p l M i j)∧(Row 6 (some b0) n c ccl (al eLd M))∧m=n - j) (m:=n - (i0+1)) ⟨i0,i0+1,cl,l,⟨rfl,rfl,rfl,rfl,trivial⟩,hI.pk [0] rfl rfl,hd0,hr,rfl⟩ ?_
 rintro m ρ w ⟨i,j,ccl,M,hag,hI,hd,hrr,hm⟩
 obtain ⟨ρ,rfl⟩:=hag.form; clear hag
 have hd1:=hd.lt; have hd2:=hd.le; have hd3:=hd.len
 refine ab (ab (rgn rfl (pu (iv (j:Int)) rfl (pu (slv (some b0) n c) rfl (pu (iv ((n:Nat):Int)) (by kernel_rfl) (ac (cm rfl rfl ?_ ?_)))))))
 ·intro h3
  refine aa (ah rfl (ak (ab (au ?_))))
  refine ab (rgn rfl (pu (slv (some b0) n c) rfl (pu (iv (j:Int)) rfl ?_)))
  obtain ⟨x2,hx3⟩:=bq (l:=M) (i:=j) (by omega)
  have he4:=hrr.atS bf (by decide) hx3
  refine ac (be j underlying25 sizeOf31 rfl rfl rfl (by omega) ?_)
  refine ac (cq hI 0 (eLd x2) isAgg31 sizeOf31 rfl rfl rfl he4 ?_)
  refine ac (bh hI [iv 0,iv 0,iv 0,iv 0,iv 0,iv 0] zeroValue31 rfl fun b5 w hI=>ac (aq hI 0 6 (eLd x2) sizeOf31 rfl rfl rfl rfl rfl (kh rfl) fun w hI=>aa (ab (rgn rfl (pu (fv) rfl (ac (ar hI 0 6 (eLd x2) isAgg31 sizeOf31 rfl rfl rfl rfl ?_)))))))
  refine ac (s_callVb hI [.agg (eLd x2).toArray] (p x2) rfl (by kernel_rfl) (hf w hI.but x2 (bz (hd.get hx3))) ?_ ?_)
  ·intro h4 w hI
   refine pu kf rfl (aa (ai rfl (ak (rgn rfl (pu (iv (j:Int)) rfl (ac (cj rfl rfl (by omega) ?_)))))))
   refine pu (iv ((j:Int)+1)) rfl (aa ?_)
   exact ⟨rfl,_,(by omega),⟨i,j+1,ccl,M,⟨rfl,rfl,rfl,rfl,trivial⟩,hI.pk [1] rfl rfl,(hd.yes hx3 h4),hrr,rfl⟩⟩
  intro h5 w hI
  refine pu kg rfl (aa (ah rfl (ab (rgn rfl (pu (slv (some b0) n c) rfl (pu (iv (i:Int)) rfl (ac (ar hI 0 6 (eLd x2) isAgg31 sizeOf31 rfl rfl rfl rfl ?_))))))))
  obtain ⟨x6,hx7⟩:=bq (l:=M) (i:=i) (by omega)
  have he8:=hrr.atS bf (by decide) hx7
  refine ac (be i underlying25 sizeOf31 rfl rfl rfl (by omega) ?_)
  refine ac (aq hI 1 6 (eLd x2) sizeOf31 rfl rfl rfl rfl rfl (hrr.room (by omega)) ?_)
  intro w hI
  have r9:=hrr.put bf (by decide) i x2 (by omega)
  obtain ⟨a,hcl⟩:∃ z,z=putCells ccl (i * 6) (eLd x2):=⟨_,rfl⟩
  rw [← hcl] at r9
  have hI:Inv [b0] w0 w [(some b5,blk (eLd x2) 31),(some b0,blk a 31)]:=by rw [hcl]; exact hI
  clear hcl
  refine aa (rgn rfl (pu (iv (i:Int)) rfl (ac (cj rfl rfl (by omega) ?_))))
  refine pu (iv ((i:Int)+1)) rfl (aa (rgn rfl (pu (iv (j:Int)) rfl (ac (cj rfl rfl (by omega) ?_)))))
  refine pu (iv ((j:Int)+1)) rfl (aa ?_)
  exact ⟨rfl,_,(by omega),⟨i+1,j+1,a,M.set i x2,⟨rfl,rfl,rfl,rfl,trivial⟩,hI.pk [1] rfl rfl,(hd.no hx3 h5),r9,rfl⟩⟩
 intro h6
 refine aa (ai rfl (bw ?_))
 refine ab (rgn rfl (pu (slv (some b0) n c) rfl (pu (iv (i:Int)) rfl (ac (ka i underlying25 sizeOf31 rfl rfl (by omega) hrr.cap ?_)))))
 refine ac (s_clearTail hI 0 underlying25 zeroValue31 rfl rfl rfl rfl (by omega) hrr.cap hrr.size ?_)
 intro d w hI hl0 ht0
 have e:=(hrr.cut bf (by decide) i (by omega)).same hl0 ht0
 refine aa (ab (rgn rfl (pu (slv (some b0) n c) rfl (pu (iv (i:Int)) rfl (ac (s_sliceHi i underlying25 sizeOf31 rfl rfl (Nat.le_trans (by omega) hrr.cap) ?_))))))
 refine pu (slv (some b0) i c) rfl (aa (aj ?_))
 exact ⟨slv (some b0) i c,Ret.r1 rfl rfl,⟨d,(by rw [← (hd.done (by omega)).2]),hI.pk [0] rfl rfl,(by rw [← (hd.done (by omega)).2,← (hd.done (by omega)).1]; exact e)⟩⟩


theorem DeleteSpells_c (w0:World) (g:Option Nat) (n c:Nat) (cl:List Value) (l:List Sp) (fv:Value) (p:Sp→Bool) (hg:∀ b,g=some b→w0.heap[b]?=some (blk cl 33)) (hr:Row 6 g n c cl (al eSp l)) (hmax:n≤9223372036854775807) (hf:∀ w,But g.toList w0 w→∀ x∈l,cx Tryz.prog fv [.agg (eSp x).toArray] w fun v w'=>v=.bool (p x)∧Below w.heap.size w w'):bn Tryz.prog 132 [slv g n c,fv] w0 fun v w=>GivesIn 6 33 g c (l.filter (fun y=>!p y)).length (al eSp (l.filter (fun y=>!p y))) w0 v w:=by
 have hnl:=hr.n_eq gb (by decide)
 refine az (n:=42) func132 rfl ntmps132 rfl ?_
 have hI:=Inv.lent w0 g (blk cl 33) hg
 refine ab (rgn rfl (pu (.slice none 0 0) rfl (aa (ab (rgn rfl (pu (slv g n c) rfl (pu (fv) rfl ?_)))))))
 obtain ⟨q1,hq1⟩:∃ z,z=idxI p l:=⟨_,rfl⟩
 have hq1b:-1≤q1∧q1+1≤(l).length:=by rw [hq1]; exact idx_bd _ _
 refine ac (bg hI 162 [slv g n c,fv] (iv q1) (by kernel_rfl) (by rw [hq1]; exact (IndexSpell_c _ (l) (g.map fun b=>⟨b,0,none⟩) n c (fv) p (hr.n_eq gb (by decide)) (by omega) (hI.rowCells 0 rfl hr) (fun w1 hb=>hf w1 (hI.but.thenBelow hb)))) fun w hI=>pu (iv q1) rfl (aa (ab (ab (rgn rfl (pu (iv q1) rfl (ac (di rfl rfl ?_ ?_))))))))
 ·intro h1
  refine aa (ah rfl (ab (rgn rfl (pu (slv g n c) rfl (pu (slv g n c) rfl (aa (aj ?_)))))))
  exact ⟨slv g n c,Ret.r1 rfl rfl,⟨cl,(by rw [del_none (hq1.symm.trans h1),← hr.n_eq gb (by decide)]),hI.pk [0] rfl rfl,(by rw [del_none (hq1.symm.trans h1),← hr.n_eq gb (by decide)]; exact hr)⟩⟩
 intro h2
 refine aa (ai rfl (ak (ab (ab (rgn rfl (pu (iv q1) rfl (ac (cj rfl rfl (by omega) ?_))))))))
 refine pu (iv (q1+1)) rfl (aa (au ?_))
 obtain ⟨i0,rfl⟩:∃ i0:Nat,q1=(i0:Int):=⟨q1.toNat,by omega⟩
 have hd0:=Del.first hq1.symm
 have hlt0:=hd0.le
 have hmx:=hr.capmax; unfold maxLen at hmx; have hcp:=hr.cap
 obtain ⟨b0,rfl⟩:=hr.some_ (by omega)
 refine cb (fun m ρ w=>∃ (i:Nat) (j:Nat) (ccl:List Value) (M:List Sp),cd ρ [(0,slv (some b0) n c),(1,fv),(5,iv (i:Int)),(6,iv (j:Int))]∧Inv [b0] w0 w [(some b0,blk ccl 33)]∧(Del p l M i j)∧(Row 6 (some b0) n c ccl (al eSp M))∧m=n - j) (m:=n - (i0+1)) ⟨i0,i0+1,cl,l,⟨rfl,rfl,rfl,rfl,trivial⟩,hI.pk [0] rfl rfl,hd0,hr,rfl⟩ ?_
 rintro m ρ w ⟨i,j,ccl,M,hag,hI,hd,hrr,hm⟩
 obtain ⟨ρ,rfl⟩:=hag.form; clear hag
 have hd1:=hd.lt; have hd2:=hd.le; have hd3:=hd.len
 refine ab (ab (rgn rfl (pu (iv (j:Int)) rfl (pu (slv (some b0) n c) rfl (pu (iv ((n:Nat):Int)) (by kernel_rfl) (ac (cm rfl rfl ?_ ?_)))))))
 ·intro h3
  refine aa (ah rfl (ak (ab (au ?_))))
  refine ab (rgn rfl (pu (slv (some b0) n c) rfl (pu (iv (j:Int)) rfl ?_)))
  obtain ⟨x2,hx3⟩:=bq (l:=M) (i:=j) (by omega)
  have he4:=hrr.atS gb (by decide) hx3
  refine ac (be j underlying26 sizeOf33 rfl rfl rfl (by omega) ?_)
  refine ac (cq hI 0 (eSp x2) isAgg33 sizeOf33 rfl rfl rfl he4 ?_)
  refine ac (bh hI [iv 0,iv 0,iv 0,iv 0,iv 0,iv 0] zeroValue33 rfl fun b5 w hI=>ac (aq hI 0 6 (eSp x2) sizeOf33 rfl rfl rfl rfl rfl (kh rfl) fun w hI=>aa (ab (rgn rfl (pu (fv) rfl (ac (ar hI 0 6 (eSp x2) isAgg33 sizeOf33 rfl rfl rfl rfl ?_)))))))
  refine ac (s_callVb hI [.agg (eSp x2).toArray] (p x2) rfl (by kernel_rfl) (hf w hI.but x2 (bz (hd.get hx3))) ?_ ?_)
  ·intro h4 w hI
   refine pu kf rfl (aa (ai rfl (ak (rgn rfl (pu (iv (j:Int)) rfl (ac (cj rfl rfl (by omega) ?_)))))))
   refine pu (iv ((j:Int)+1)) rfl (aa ?_)
   exact ⟨rfl,_,(by omega),⟨i,j+1,ccl,M,⟨rfl,rfl,rfl,rfl,trivial⟩,hI.pk [1] rfl rfl,(hd.yes hx3 h4),hrr,rfl⟩⟩
  intro h5 w hI
  refine pu kg rfl (aa (ah rfl (ab (rgn rfl (pu (slv (some b0) n c) rfl (pu (iv (i:Int)) rfl (ac (ar hI 0 6 (eSp x2) isAgg33 sizeOf33 rfl rfl rfl rfl ?_))))))))
  obtain ⟨x6,hx7⟩:=bq (l:=M) (i:=i) (by omega)
  have he8:=hrr.atS gb (by decide) hx7
  refine ac (be i underlying26 sizeOf33 rfl rfl rfl (by omega) ?_)
  refine ac (aq hI 1 6 (eSp x2) sizeOf33 rfl rfl rfl rfl rfl (hrr.room (by omega)) ?_)
  intro w hI
  have r9:=hrr.put gb (by decide) i x2 (by omega)
  obtain ⟨a,hcl⟩:∃ z,z=putCells ccl (i * 6) (eSp x2):=⟨_,rfl⟩
  rw [← hcl] at r9
  have hI:Inv [b0] w0 w [(some b5,blk (eSp x2) 33),(some b0,blk a 33)]:=by rw [hcl]; exact hI
  clear hcl
  refine aa (rgn rfl (pu (iv (i:Int)) rfl (ac (cj rfl rfl (by omega) ?_))))
  refine pu (iv ((i:Int)+1)) rfl (aa (rgn rfl (pu (iv (j:Int)) rfl (ac (cj rfl rfl (by omega) ?_)))))
  refine pu (iv ((j:Int)+1)) rfl (aa ?_)
  exact ⟨rfl,_,(by omega),⟨i+1,j+1,a,M.set i x2,⟨rfl,rfl,rfl,rfl,trivial⟩,hI.pk [1] rfl rfl,(hd.no hx3 h5),r9,rfl⟩⟩
 intro h6
 refine aa (ai rfl (bw ?_))
 refine ab (rgn rfl (pu (slv (some b0) n c) rfl (pu (iv (i:Int)) rfl (ac (ka i underlying26 sizeOf33 rfl rfl (by omega) hrr.cap ?_)))))
 refine ac (s_clearTail hI 0 underlying26 zeroValue33 rfl rfl rfl rfl (by omega) hrr.cap hrr.size ?_)
 intro d w hI hl0 ht0
 have e:=(hrr.cut gb (by decide) i (by omega)).same hl0 ht0
 refine aa (ab (rgn rfl (pu (slv (some b0) n c) rfl (pu (iv (i:Int)) rfl (ac (s_sliceHi i underlying26 sizeOf33 rfl rfl (Nat.le_trans (by omega) hrr.cap) ?_))))))
 refine pu (slv (some b0) i c) rfl (aa (aj ?_))
 exact ⟨slv (some b0) i c,Ret.r1 rfl rfl,⟨d,(by rw [← (hd.done (by omega)).2]),hI.pk [0] rfl rfl,(by rw [← (hd.done (by omega)).2,← (hd.done (by omega)).1]; exact e)⟩⟩

end Go.K
