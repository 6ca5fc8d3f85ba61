/- Contracts of the library functions on slices that the program calls. Each has its conditions in the statement. -/
import Derived.Test.YtinkdlmimiefaaaGreatProg
import Derived.Test.YtinkdlmimiefaaaGreatPM1
import Derived.Test.YtinkdlmimiefaaaGreatPKK2
namespace Go.K
open Go.Proofs Go.RowKit
set_option linter.unusedVariables false
set_option linter.unusedSimpArgs false
set_option maxRecDepth 100000
attribute [local irreducible] Seq Step CallV AnyE opX

theorem idx_step {α:Type} {p:α→Bool} {l:List α} {k:Nat} (hp:∀ i x,i < k→l[i]?=some x→p x=false) {y:α} (hy:l[k]?=some y) (h:p y=false):∀ i x,i < k+1→l[i]?=some x→p x=false:=fun i x hi hx=>by
  by_cases e:i=k
  · subst e; rw [hy] at hx; injection hx with hx; rw [← hx]; exact h
  · exact hp i x (by omega) hx
theorem idx_hit {α:Type} {p:α→Bool} {l:List α} {k:Nat} (hp:∀ i x,i < k→l[i]?=some x→p x=false) {y:α} (hy:l[k]?=some y) (h:p y=true):idxI p l=(k:Int):=by
  have:l.findIdx? p=some k:=by
    rw [List.findIdx?_eq_some_iff_getElem]
    refine ⟨lt_of_get hy,?_,fun j hj=>?_⟩
    · rw [List.getElem?_eq_getElem (lt_of_get hy)] at hy; injection hy with hy; rw [hy]; exact h
    · have:=hp j _ hj (List.getElem?_eq_getElem (Nat.lt_trans hj (lt_of_get hy))); simp [this]
  unfold idxI; rw [this]
theorem idx_bd {α:Type} (p:α→Bool) (l:List α):-1≤idxI p l∧idxI p l+1≤l.length:=by
  unfold idxI
  cases h:l.findIdx? p with
  | none=>constructor <;> simp <;> omega
  | some i =>
    rw [List.findIdx?_eq_some_iff_getElem] at h
    obtain ⟨h1,_,_⟩:=h
    constructor <;> simp <;> omega
theorem idx_none {α:Type} {p:α→Bool} {l:List α} {k:Nat} (hp:∀ i x,i < k→l[i]?=some x→p x=false) (h:l.length≤k):idxI p l=-1:=by
  have:l.findIdx? p=none:=by
    rw [List.findIdx?_eq_none_iff]
    intro x hx
    obtain ⟨i,hi,he⟩:=List.getElem_of_mem hx
    exact hp i x (by omega) (by rw [List.getElem?_eq_getElem hi,he])
  unfold idxI; rw [this]


theorem IndexNote_c (w0:World) (l:List Nt) (A:Option Addr) (n c:Nat) (fv:Value) (p:Nt→Bool) (hn:n=l.length) (hmax:n≤9223372036854775807) (hC:Cells w0 A (flat eNt l)) (hf:∀ w,Below w0.heap.size w0 w→∀ x∈l,CallV Tryz.prog fv [.agg (eNt x).toArray] w fun v w'=>v=.bool (p x)∧Below w.heap.size w w'):Does Tryz.prog 158 [.slice A n c,fv] w0 fun v w=>v=.int .i64 (idxI p l)∧Below w0.heap.size w0 w:=by
 refine calls_of (n:=19) Tryz.func158 rfl Tryz.ntmps158 rfl ?_
 have hI:=Inv.start w0
 refine wp_seq (rgn rfl (pu (iv 0) rfl (seq_nil (wp_seq (wp_seq (rgn rfl (pu (.slice A n c) rfl (pu (iv ((n:Nat):Int)) (by kernel_rfl) (pu (iv 0) rfl ?_)))))))))
 refine seq_nil (wp_block ?_)
 refine wp_loop (fun m ρ w=>∃ (k:Nat),Agree ρ [(0,.slice A n c),(1,fv),(7,iv (n:Int)),(8,iv (k:Int))]∧Inv []  w0 w []∧(k≤n)∧(∀ i x,i < k→l[i]?=some x→p x=false)∧m=n - k) (m:=n - 0) ⟨0,⟨rfl,rfl,rfl,rfl,trivial⟩,hI.pickL [] (by decide) rfl,(by omega),(fun i x h=>absurd h (by omega)),rfl⟩ ?_
 rintro m ρ w ⟨k,hag,hI,hk,hp,hm⟩
 obtain ⟨ρ,rfl⟩:=hag.form; clear hag
 refine wp_seq (rgn rfl (seq_c (s_lss rfl rfl ?_ ?_)))
 ·intro h1
  refine seq_nil (wp_seq (wp_condT rfl (wp_skip (wp_seq (wp_block ?_)))))
  refine wp_seq (rgn rfl (pu (iv (k:Int)) rfl (pu (iv (k:Int)) rfl (seq_nil (wp_seq (rgn rfl (pu (fv) rfl (pu (.slice A n c) rfl (pu (iv (k:Int)) rfl ?_)))))))))
  obtain ⟨x1,hx2⟩:=get_lt (l:=l) (i:=k) (by omega)
  obtain ⟨b3,o4,hA5,hb6,he7⟩:=hC.at_ eNt_len (by decide) hx2
  refine seq_c (s_indexA k Tryz.underlying98 Tryz.sizeOf95 rfl hA5 rfl rfl (by omega) ?_)
  refine seq_c (s_loadBK hI [iv x1.s,iv x1.k,iv x1.u] Tryz.isAgg95 Tryz.sizeOf95 rfl rfl hb6 (by simp) he7 ?_)
  refine seq_c (s_callVb hI [.agg #[iv x1.s,iv x1.k,iv x1.u]] (p x1) rfl (by kernel_rfl) (hf w hI.below x1 (mem_of_get hx2)) ?_ ?_)
  ·intro h2 w hI
   refine seq_nil (wp_condT rfl (wp_seq (rgn rfl (pu (iv (k:Int)) rfl (pu (iv (k:Int)) rfl (seq_nil (wp_ret ?_)))))))
   exact ⟨iv (k:Int),Ret.r1 rfl rfl,⟨by rw [idx_hit hp hx2 h2],hI.below⟩⟩
  ·intro h3 w hI
   refine seq_nil (wp_condF rfl (wp_skip (rgn rfl (seq_c (s_add rfl rfl (by omega) ?_)))))
   refine pu (iv ((k:Int)+1)) rfl (seq_nil ?_)
   exact ⟨rfl,_,(by omega),⟨k+1,⟨rfl,rfl,rfl,rfl,trivial⟩,hI.pickL [] (by decide) rfl,(by omega),(idx_step hp hx2 h3),rfl⟩⟩
 ·intro h4
  refine seq_nil (wp_seq (wp_condF rfl (wp_exit ?_)))
  refine wp_seq (rgn rfl (pu (iv (-1)) rfl (seq_nil (wp_ret ?_))))
  exact ⟨iv (-1),Ret.r1 rfl rfl,⟨by rw [idx_none (k:=k) hp (by omega)],hI.below⟩⟩


theorem IndexLoad_c (w0:World) (l:List Ld) (A:Option Addr) (n c:Nat) (fv:Value) (p:Ld→Bool) (hn:n=l.length) (hmax:n≤9223372036854775807) (hC:Cells w0 A (flat eLd l)) (hf:∀ w,Below w0.heap.size w0 w→∀ x∈l,CallV Tryz.prog fv [.agg (eLd x).toArray] w fun v w'=>v=.bool (p x)∧Below w.heap.size w w'):Does Tryz.prog 160 [.slice A n c,fv] w0 fun v w=>v=.int .i64 (idxI p l)∧Below w0.heap.size w0 w:=by
 refine calls_of (n:=19) Tryz.func160 rfl Tryz.ntmps160 rfl ?_
 have hI:=Inv.start w0
 refine wp_seq (rgn rfl (pu (iv 0) rfl (seq_nil (wp_seq (wp_seq (rgn rfl (pu (.slice A n c) rfl (pu (iv ((n:Nat):Int)) (by kernel_rfl) (pu (iv 0) rfl ?_)))))))))
 refine seq_nil (wp_block ?_)
 refine wp_loop (fun m ρ w=>∃ (k:Nat),Agree ρ [(0,.slice A n c),(1,fv),(7,iv (n:Int)),(8,iv (k:Int))]∧Inv []  w0 w []∧(k≤n)∧(∀ i x,i < k→l[i]?=some x→p x=false)∧m=n - k) (m:=n - 0) ⟨0,⟨rfl,rfl,rfl,rfl,trivial⟩,hI.pickL [] (by decide) rfl,(by omega),(fun i x h=>absurd h (by omega)),rfl⟩ ?_
 rintro m ρ w ⟨k,hag,hI,hk,hp,hm⟩
 obtain ⟨ρ,rfl⟩:=hag.form; clear hag
 refine wp_seq (rgn rfl (seq_c (s_lss rfl rfl ?_ ?_)))
 ·intro h1
  refine seq_nil (wp_seq (wp_condT rfl (wp_skip (wp_seq (wp_block ?_)))))
  refine wp_seq (rgn rfl (pu (iv (k:Int)) rfl (pu (iv (k:Int)) rfl (seq_nil (wp_seq (rgn rfl (pu (fv) rfl (pu (.slice A n c) rfl (pu (iv (k:Int)) rfl ?_)))))))))
  obtain ⟨x1,hx2⟩:=get_lt (l:=l) (i:=k) (by omega)
  obtain ⟨b3,o4,hA5,hb6,he7⟩:=hC.at_ eLd_len (by decide) hx2
  refine seq_c (s_indexA k Tryz.underlying24 Tryz.sizeOf30 rfl hA5 rfl rfl (by omega) ?_)
  refine seq_c (s_loadBK hI [iv x1.src,iv x1.hr,iv x1.lo,iv x1.hi,iv x1.kn,iv x1.un] Tryz.isAgg30 Tryz.sizeOf30 rfl rfl hb6 (by simp) he7 ?_)
  refine seq_c (s_callVb hI [.agg #[iv x1.src,iv x1.hr,iv x1.lo,iv x1.hi,iv x1.kn,iv x1.un]] (p x1) rfl (by kernel_rfl) (hf w hI.below x1 (mem_of_get hx2)) ?_ ?_)
  ·intro h2 w hI
   refine seq_nil (wp_condT rfl (wp_seq (rgn rfl (pu (iv (k:Int)) rfl (pu (iv (k:Int)) rfl (seq_nil (wp_ret ?_)))))))
   exact ⟨iv (k:Int),Ret.r1 rfl rfl,⟨by rw [idx_hit hp hx2 h2],hI.below⟩⟩
  ·intro h3 w hI
   refine seq_nil (wp_condF rfl (wp_skip (rgn rfl (seq_c (s_add rfl rfl (by omega) ?_)))))
   refine pu (iv ((k:Int)+1)) rfl (seq_nil ?_)
   exact ⟨rfl,_,(by omega),⟨k+1,⟨rfl,rfl,rfl,rfl,trivial⟩,hI.pickL [] (by decide) rfl,(by omega),(idx_step hp hx2 h3),rfl⟩⟩
 ·intro h4
  refine seq_nil (wp_seq (wp_condF rfl (wp_exit ?_)))
  refine wp_seq (rgn rfl (pu (iv (-1)) rfl (seq_nil (wp_ret ?_))))
  exact ⟨iv (-1),Ret.r1 rfl rfl,⟨by rw [idx_none (k:=k) hp (by omega)],hI.below⟩⟩


theorem IndexStand_c (w0:World) (l:List Ld) (A:Option Addr) (n c:Nat) (fv:Value) (p:Ld→Bool) (hn:n=l.length) (hmax:n≤9223372036854775807) (hC:Cells w0 A (flat eLd l)) (hf:∀ w,Below w0.heap.size w0 w→∀ x∈l,CallV Tryz.prog fv [.agg (eLd x).toArray] w fun v w'=>v=.bool (p x)∧Below w.heap.size w w'):Does Tryz.prog 161 [.slice A n c,fv] w0 fun v w=>v=.int .i64 (idxI p l)∧Below w0.heap.size w0 w:=by
 refine calls_of (n:=19) Tryz.func161 rfl Tryz.ntmps161 rfl ?_
 have hI:=Inv.start w0
 refine wp_seq (rgn rfl (pu (iv 0) rfl (seq_nil (wp_seq (wp_seq (rgn rfl (pu (.slice A n c) rfl (pu (iv ((n:Nat):Int)) (by kernel_rfl) (pu (iv 0) rfl ?_)))))))))
 refine seq_nil (wp_block ?_)
 refine wp_loop (fun m ρ w=>∃ (k:Nat),Agree ρ [(0,.slice A n c),(1,fv),(7,iv (n:Int)),(8,iv (k:Int))]∧Inv []  w0 w []∧(k≤n)∧(∀ i x,i < k→l[i]?=some x→p x=false)∧m=n - k) (m:=n - 0) ⟨0,⟨rfl,rfl,rfl,rfl,trivial⟩,hI.pickL [] (by decide) rfl,(by omega),(fun i x h=>absurd h (by omega)),rfl⟩ ?_
 rintro m ρ w ⟨k,hag,hI,hk,hp,hm⟩
 obtain ⟨ρ,rfl⟩:=hag.form; clear hag
 refine wp_seq (rgn rfl (seq_c (s_lss rfl rfl ?_ ?_)))
 ·intro h1
  refine seq_nil (wp_seq (wp_condT rfl (wp_skip (wp_seq (wp_block ?_)))))
  refine wp_seq (rgn rfl (pu (iv (k:Int)) rfl (pu (iv (k:Int)) rfl (seq_nil (wp_seq (rgn rfl (pu (fv) rfl (pu (.slice A n c) rfl (pu (iv (k:Int)) rfl ?_)))))))))
  obtain ⟨x1,hx2⟩:=get_lt (l:=l) (i:=k) (by omega)
  obtain ⟨b3,o4,hA5,hb6,he7⟩:=hC.at_ eLd_len (by decide) hx2
  refine seq_c (s_indexA k Tryz.underlying25 Tryz.sizeOf31 rfl hA5 rfl rfl (by omega) ?_)
  refine seq_c (s_loadBK hI [iv x1.src,iv x1.hr,iv x1.lo,iv x1.hi,iv x1.kn,iv x1.un] Tryz.isAgg31 Tryz.sizeOf31 rfl rfl hb6 (by simp) he7 ?_)
  refine seq_c (s_callVb hI [.agg #[iv x1.src,iv x1.hr,iv x1.lo,iv x1.hi,iv x1.kn,iv x1.un]] (p x1) rfl (by kernel_rfl) (hf w hI.below x1 (mem_of_get hx2)) ?_ ?_)
  ·intro h2 w hI
   refine seq_nil (wp_condT rfl (wp_seq (rgn rfl (pu (iv (k:Int)) rfl (pu (iv (k:Int)) rfl (seq_nil (wp_ret ?_)))))))
   exact ⟨iv (k:Int),Ret.r1 rfl rfl,⟨by rw [idx_hit hp hx2 h2],hI.below⟩⟩
  ·intro h3 w hI
   refine seq_nil (wp_condF rfl (wp_skip (rgn rfl (seq_c (s_add rfl rfl (by omega) ?_)))))
   refine pu (iv ((k:Int)+1)) rfl (seq_nil ?_)
   exact ⟨rfl,_,(by omega),⟨k+1,⟨rfl,rfl,rfl,rfl,trivial⟩,hI.pickL [] (by decide) rfl,(by omega),(idx_step hp hx2 h3),rfl⟩⟩
 ·intro h4
  refine seq_nil (wp_seq (wp_condF rfl (wp_exit ?_)))
  refine wp_seq (rgn rfl (pu (iv (-1)) rfl (seq_nil (wp_ret ?_))))
  exact ⟨iv (-1),Ret.r1 rfl rfl,⟨by rw [idx_none (k:=k) hp (by omega)],hI.below⟩⟩


theorem IndexSpell_c (w0:World) (l:List Sp) (A:Option Addr) (n c:Nat) (fv:Value) (p:Sp→Bool) (hn:n=l.length) (hmax:n≤9223372036854775807) (hC:Cells w0 A (flat eSp l)) (hf:∀ w,Below w0.heap.size w0 w→∀ x∈l,CallV Tryz.prog fv [.agg (eSp x).toArray] w fun v w'=>v=.bool (p x)∧Below w.heap.size w w'):Does Tryz.prog 162 [.slice A n c,fv] w0 fun v w=>v=.int .i64 (idxI p l)∧Below w0.heap.size w0 w:=by
 refine calls_of (n:=19) Tryz.func162 rfl Tryz.ntmps162 rfl ?_
 have hI:=Inv.start w0
 refine wp_seq (rgn rfl (pu (iv 0) rfl (seq_nil (wp_seq (wp_seq (rgn rfl (pu (.slice A n c) rfl (pu (iv ((n:Nat):Int)) (by kernel_rfl) (pu (iv 0) rfl ?_)))))))))
 refine seq_nil (wp_block ?_)
 refine wp_loop (fun m ρ w=>∃ (k:Nat),Agree ρ [(0,.slice A n c),(1,fv),(7,iv (n:Int)),(8,iv (k:Int))]∧Inv []  w0 w []∧(k≤n)∧(∀ i x,i < k→l[i]?=some x→p x=false)∧m=n - k) (m:=n - 0) ⟨0,⟨rfl,rfl,rfl,rfl,trivial⟩,hI.pickL [] (by decide) rfl,(by omega),(fun i x h=>absurd h (by omega)),rfl⟩ ?_
 rintro m ρ w ⟨k,hag,hI,hk,hp,hm⟩
 obtain ⟨ρ,rfl⟩:=hag.form; clear hag
 refine wp_seq (rgn rfl (seq_c (s_lss rfl rfl ?_ ?_)))
 ·intro h1
  refine seq_nil (wp_seq (wp_condT rfl (wp_skip (wp_seq (wp_block ?_)))))
  refine wp_seq (rgn rfl (pu (iv (k:Int)) rfl (pu (iv (k:Int)) rfl (seq_nil (wp_seq (rgn rfl (pu (fv) rfl (pu (.slice A n c) rfl (pu (iv (k:Int)) rfl ?_)))))))))
  obtain ⟨x1,hx2⟩:=get_lt (l:=l) (i:=k) (by omega)
  obtain ⟨b3,o4,hA5,hb6,he7⟩:=hC.at_ eSp_len (by decide) hx2
  refine seq_c (s_indexA k Tryz.underlying26 Tryz.sizeOf33 rfl hA5 rfl rfl (by omega) ?_)
  refine seq_c (s_loadBK hI [iv x1.src,iv x1.kd,iv x1.fr,iv x1.to,iv x1.kn,iv x1.un] Tryz.isAgg33 Tryz.sizeOf33 rfl rfl hb6 (by simp) he7 ?_)
  refine seq_c (s_callVb hI [.agg #[iv x1.src,iv x1.kd,iv x1.fr,iv x1.to,iv x1.kn,iv x1.un]] (p x1) rfl (by kernel_rfl) (hf w hI.below x1 (mem_of_get hx2)) ?_ ?_)
  ·intro h2 w hI
   refine seq_nil (wp_condT rfl (wp_seq (rgn rfl (pu (iv (k:Int)) rfl (pu (iv (k:Int)) rfl (seq_nil (wp_ret ?_)))))))
   exact ⟨iv (k:Int),Ret.r1 rfl rfl,⟨by rw [idx_hit hp hx2 h2],hI.below⟩⟩
  ·intro h3 w hI
   refine seq_nil (wp_condF rfl (wp_skip (rgn rfl (seq_c (s_add rfl rfl (by omega) ?_)))))
   refine pu (iv ((k:Int)+1)) rfl (seq_nil ?_)
   exact ⟨rfl,_,(by omega),⟨k+1,⟨rfl,rfl,rfl,rfl,trivial⟩,hI.pickL [] (by decide) rfl,(by omega),(idx_step hp hx2 h3),rfl⟩⟩
 ·intro h4
  refine seq_nil (wp_seq (wp_condF rfl (wp_exit ?_)))
  refine wp_seq (rgn rfl (pu (iv (-1)) rfl (seq_nil (wp_ret ?_))))
  exact ⟨iv (-1),Ret.r1 rfl rfl,⟨by rw [idx_none (k:=k) hp (by omega)],hI.below⟩⟩


theorem appendLoads_c (w0:World) (g:Option Nat) (n c:Nat) (cl:List Value) (X:List Nt) (l:List Ld) (A:Option Addr) (n2 c2:Nat) (fv:Value) (q:Ld→Nt) (hg:∀ b,g=some b→w0.heap[b]?=some (blk cl 95)) (hr:Row 3 g n c cl (flat eNt X)) (hn:n2=l.length) (hC:CellsB g.toList w0 A (flat eLd l)) (hf:∀ w,But g.toList w0 w→∀ x∈l,CallV Tryz.prog fv [.agg (eLd x).toArray] w fun v w'=>v=.agg (eNt (q x)).toArray∧Below w.heap.size w w') (hb:n+n2≤1000000000):Does Tryz.prog 134 [slv g n c,.slice A n2 c2,fv] w0 fun v w=>Gives 3 95 g (n+n2) (flat eNt (X++l.map q)) w0 v w:=by
 refine calls_of (n:=23) Tryz.func134 rfl Tryz.ntmps134 rfl ?_
 have hI:=Inv.lent w0 g (blk cl 95) hg
 refine wp_seq (rgn rfl (pu (.slice none 0 0) rfl (seq_nil (wp_seq (wp_seq (rgn rfl (pu (.slice A n2 c2) rfl (pu (iv ((n2:Nat):Int)) (by kernel_rfl) (pu (iv 0) rfl ?_)))))))))
 refine seq_nil (wp_block ?_)
 refine wp_loop (fun m ρ w=>∃ (k:Nat) (gg:Option Nat) (cc:Nat) (ccl:List Value),Agree ρ [(0,slv gg (n+k) cc),(2,fv),(9,.slice A n2 c2),(10,iv (n2:Int)),(11,iv (k:Int))]∧Inv g.toList w0 w [(gg,blk ccl 95)]∧(k≤n2)∧(Row 3 gg (n+k) cc ccl (flat eNt (X++(l.take k).map q)))∧m=n2 - k) (m:=n2 - 0) ⟨0,g,c,cl,⟨rfl,rfl,rfl,rfl,rfl,trivial⟩,hI.pickL [0] (by decide) rfl,(by omega),(hr.to (by simp) rfl),rfl⟩ ?_
 rintro m ρ w ⟨k,gg,cc,ccl,hag,hI,hk,hrr,hm⟩
 obtain ⟨ρ,rfl⟩:=hag.form; clear hag
 refine wp_seq (rgn rfl (seq_c (s_lss rfl rfl ?_ ?_)))
 ·intro h1
  refine seq_nil (wp_seq (wp_condT rfl (wp_skip (wp_seq (wp_block ?_)))))
  refine wp_seq (rgn rfl ?_)
  obtain ⟨x1,hx2⟩:=get_lt (l:=l) (i:=k) (by omega)
  obtain ⟨b3,o4,hA5,hb6,hB8,he7⟩:=hC.at_ eLd_len (by decide) hx2
  refine seq_c (s_indexA k Tryz.underlying24 Tryz.sizeOf30 rfl hA5 rfl rfl (by omega) ?_)
  refine seq_c (s_loadBK hI [iv x1.src,iv x1.hr,iv x1.lo,iv x1.hi,iv x1.kn,iv x1.un] Tryz.isAgg30 Tryz.sizeOf30 rfl rfl hb6 hB8 he7 ?_)
  refine seq_c (s_allocI hI [iv 0,iv 0,iv 0,iv 0,iv 0,iv 0] Tryz.zeroValue30 rfl ?_)
  intro b9 w hI
  refine seq_c (s_store hI 0 6 [iv x1.src,iv x1.hr,iv x1.lo,iv x1.hi,iv x1.kn,iv x1.un] Tryz.sizeOf30 rfl rfl rfl rfl rfl (Nat.le_of_ble_eq_true rfl) ?_)
  intro w hI
  refine seq_nil (rgn rfl (pu (slv gg (n+k) cc) rfl (pu (fv) rfl (seq_c (s_loadK hI 0 6 [iv x1.src,iv x1.hr,iv x1.lo,iv x1.hi,iv x1.kn,iv x1.un] Tryz.isAgg30 Tryz.sizeOf30 rfl rfl rfl rfl ?_)))))
  refine seq_c (s_callVv hI [.agg #[iv x1.src,iv x1.hr,iv x1.lo,iv x1.hi,iv x1.kn,iv x1.un]] (.agg #[iv (q x1).s,iv (q x1).k,iv (q x1).u]) rfl (by kernel_rfl) (hf w hI.but x1 (mem_of_get hx2)) ?_)
  intro w hI
  refine seq_c (s_new hI [iv (q x1).s,iv (q x1).k,iv (q x1).u] 95 (fun b=>slv (some b) 1 1) (by kernel_rfl) ?_)
  intro b10 w hI
  refine seq_c (s_app hI Tryz.underlying98 (z:=.agg #[iv 0,iv 0,iv 0]) (k:=3) (bytes:=24) rfl rfl rfl 2 rfl rfl hrr [iv (q x1).s,iv (q x1).k,iv (q x1).u] rfl rfl (hI.cells 0 (off:=0) rfl (fun j u h=>by rw [Nat.zero_add]; exact h)) (by simp [Value.oneCell']) (by omega) (by omega) ?_)
  intro g11 c12 cl13 w hI r14
  have r14:Row 3 g11 (n+k+1) c12 cl13 (flat eNt ((X++(l.take k).map q)++[q x1])):=r14.snoc _ rfl
  refine pu (slv g11 (n+k+1) c12) rfl (seq_nil (rgn rfl (seq_c (s_add rfl rfl (by omega) ?_))))
  refine pu (iv ((k:Int)+1)) rfl (seq_nil ?_)
  exact ⟨rfl,_,(by omega),⟨k+1,g11,c12,cl13,⟨rfl,rfl,rfl,rfl,rfl,trivial⟩,hI.pickL [2] (by decide) rfl,(by omega),(r14.to (by rw [take_get hx2]; simp) (by omega)),rfl⟩⟩
 ·intro h2
  refine seq_nil (wp_seq (wp_condF rfl (wp_exit ?_)))
  refine wp_seq (rgn rfl (pu (slv gg (n+k) cc) rfl (pu (slv gg (n+k) cc) rfl (seq_nil (wp_ret ?_)))))
  exact ⟨slv gg (n+k) cc,Ret.r1 rfl rfl,⟨gg,cc,ccl,(by rw [show n+k=n+n2 by omega]),hI.pickL [0] (by decide) rfl,hrr.to (by simp [show k=l.length by omega]) (by omega)⟩⟩


theorem appendStands_c (w0:World) (g:Option Nat) (n c:Nat) (cl:List Value) (X:List Nt) (l:List Ld) (A:Option Addr) (n2 c2:Nat) (fv:Value) (q:Ld→Nt) (hg:∀ b,g=some b→w0.heap[b]?=some (blk cl 95)) (hr:Row 3 g n c cl (flat eNt X)) (hn:n2=l.length) (hC:CellsB g.toList w0 A (flat eLd l)) (hf:∀ w,But g.toList w0 w→∀ x∈l,CallV Tryz.prog fv [.agg (eLd x).toArray] w fun v w'=>v=.agg (eNt (q x)).toArray∧Below w.heap.size w w') (hb:n+n2≤1000000000):Does Tryz.prog 135 [slv g n c,.slice A n2 c2,fv] w0 fun v w=>Gives 3 95 g (n+n2) (flat eNt (X++l.map q)) w0 v w:=by
 refine calls_of (n:=23) Tryz.func135 rfl Tryz.ntmps135 rfl ?_
 have hI:=Inv.lent w0 g (blk cl 95) hg
 refine wp_seq (rgn rfl (pu (.slice none 0 0) rfl (seq_nil (wp_seq (wp_seq (rgn rfl (pu (.slice A n2 c2) rfl (pu (iv ((n2:Nat):Int)) (by kernel_rfl) (pu (iv 0) rfl ?_)))))))))
 refine seq_nil (wp_block ?_)
 refine wp_loop (fun m ρ w=>∃ (k:Nat) (gg:Option Nat) (cc:Nat) (ccl:List Value),Agree ρ [(0,slv gg (n+k) cc),(2,fv),(9,.slice A n2 c2),(10,iv (n2:Int)),(11,iv (k:Int))]∧Inv g.toList w0 w [(gg,blk ccl 95)]∧(k≤n2)∧(Row 3 gg (n+k) cc ccl (flat eNt (X++(l.take k).map q)))∧m=n2 - k) (m:=n2 - 0) ⟨0,g,c,cl,⟨rfl,rfl,rfl,rfl,rfl,trivial⟩,hI.pickL [0] (by decide) rfl,(by omega),(hr.to (by simp) rfl),rfl⟩ ?_
 rintro m ρ w ⟨k,gg,cc,ccl,hag,hI,hk,hrr,hm⟩
 obtain ⟨ρ,rfl⟩:=hag.form; clear hag
 refine wp_seq (rgn rfl (seq_c (s_lss rfl rfl ?_ ?_)))
 ·intro h1
  refine seq_nil (wp_seq (wp_condT rfl (wp_skip (wp_seq (wp_block ?_)))))
  refine wp_seq (rgn rfl ?_)
  obtain ⟨x1,hx2⟩:=get_lt (l:=l) (i:=k) (by omega)
  obtain ⟨b3,o4,hA5,hb6,hB8,he7⟩:=hC.at_ eLd_len (by decide) hx2
  refine seq_c (s_indexA k Tryz.underlying25 Tryz.sizeOf31 rfl hA5 rfl rfl (by omega) ?_)
  refine seq_c (s_loadBK hI [iv x1.src,iv x1.hr,iv x1.lo,iv x1.hi,iv x1.kn,iv x1.un] Tryz.isAgg31 Tryz.sizeOf31 rfl rfl hb6 hB8 he7 ?_)
  refine seq_c (s_allocI hI [iv 0,iv 0,iv 0,iv 0,iv 0,iv 0] Tryz.zeroValue31 rfl ?_)
  intro b9 w hI
  refine seq_c (s_store hI 0 6 [iv x1.src,iv x1.hr,iv x1.lo,iv x1.hi,iv x1.kn,iv x1.un] Tryz.sizeOf31 rfl rfl rfl rfl rfl (Nat.le_of_ble_eq_true rfl) ?_)
  intro w hI
  refine seq_nil (rgn rfl (pu (slv gg (n+k) cc) rfl (pu (fv) rfl (seq_c (s_loadK hI 0 6 [iv x1.src,iv x1.hr,iv x1.lo,iv x1.hi,iv x1.kn,iv x1.un] Tryz.isAgg31 Tryz.sizeOf31 rfl rfl rfl rfl ?_)))))
  refine seq_c (s_callVv hI [.agg #[iv x1.src,iv x1.hr,iv x1.lo,iv x1.hi,iv x1.kn,iv x1.un]] (.agg #[iv (q x1).s,iv (q x1).k,iv (q x1).u]) rfl (by kernel_rfl) (hf w hI.but x1 (mem_of_get hx2)) ?_)
  intro w hI
  refine seq_c (s_new hI [iv (q x1).s,iv (q x1).k,iv (q x1).u] 95 (fun b=>slv (some b) 1 1) (by kernel_rfl) ?_)
  intro b10 w hI
  refine seq_c (s_app hI Tryz.underlying98 (z:=.agg #[iv 0,iv 0,iv 0]) (k:=3) (bytes:=24) rfl rfl rfl 2 rfl rfl hrr [iv (q x1).s,iv (q x1).k,iv (q x1).u] rfl rfl (hI.cells 0 (off:=0) rfl (fun j u h=>by rw [Nat.zero_add]; exact h)) (by simp [Value.oneCell']) (by omega) (by omega) ?_)
  intro g11 c12 cl13 w hI r14
  have r14:Row 3 g11 (n+k+1) c12 cl13 (flat eNt ((X++(l.take k).map q)++[q x1])):=r14.snoc _ rfl
  refine pu (slv g11 (n+k+1) c12) rfl (seq_nil (rgn rfl (seq_c (s_add rfl rfl (by omega) ?_))))
  refine pu (iv ((k:Int)+1)) rfl (seq_nil ?_)
  exact ⟨rfl,_,(by omega),⟨k+1,g11,c12,cl13,⟨rfl,rfl,rfl,rfl,rfl,trivial⟩,hI.pickL [2] (by decide) rfl,(by omega),(r14.to (by rw [take_get hx2]; simp) (by omega)),rfl⟩⟩
 ·intro h2
  refine seq_nil (wp_seq (wp_condF rfl (wp_exit ?_)))
  refine wp_seq (rgn rfl (pu (slv gg (n+k) cc) rfl (pu (slv gg (n+k) cc) rfl (seq_nil (wp_ret ?_)))))
  exact ⟨slv gg (n+k) cc,Ret.r1 rfl rfl,⟨gg,cc,ccl,(by rw [show n+k=n+n2 by omega]),hI.pickL [0] (by decide) rfl,hrr.to (by simp [show k=l.length by omega]) (by omega)⟩⟩


theorem appendSpells_c (w0:World) (g:Option Nat) (n c:Nat) (cl:List Value) (X:List Nt) (l:List Sp) (A:Option Addr) (n2 c2:Nat) (fv:Value) (q:Sp→Nt) (hg:∀ b,g=some b→w0.heap[b]?=some (blk cl 95)) (hr:Row 3 g n c cl (flat eNt X)) (hn:n2=l.length) (hC:CellsB g.toList w0 A (flat eSp l)) (hf:∀ w,But g.toList w0 w→∀ x∈l,CallV Tryz.prog fv [.agg (eSp x).toArray] w fun v w'=>v=.agg (eNt (q x)).toArray∧Below w.heap.size w w') (hb:n+n2≤1000000000):Does Tryz.prog 136 [slv g n c,.slice A n2 c2,fv] w0 fun v w=>Gives 3 95 g (n+n2) (flat eNt (X++l.map q)) w0 v w:=by
 refine calls_of (n:=23) Tryz.func136 rfl Tryz.ntmps136 rfl ?_
 have hI:=Inv.lent w0 g (blk cl 95) hg
 refine wp_seq (rgn rfl (pu (.slice none 0 0) rfl (seq_nil (wp_seq (wp_seq (rgn rfl (pu (.slice A n2 c2) rfl (pu (iv ((n2:Nat):Int)) (by kernel_rfl) (pu (iv 0) rfl ?_)))))))))
 refine seq_nil (wp_block ?_)
 refine wp_loop (fun m ρ w=>∃ (k:Nat) (gg:Option Nat) (cc:Nat) (ccl:List Value),Agree ρ [(0,slv gg (n+k) cc),(2,fv),(9,.slice A n2 c2),(10,iv (n2:Int)),(11,iv (k:Int))]∧Inv g.toList w0 w [(gg,blk ccl 95)]∧(k≤n2)∧(Row 3 gg (n+k) cc ccl (flat eNt (X++(l.take k).map q)))∧m=n2 - k) (m:=n2 - 0) ⟨0,g,c,cl,⟨rfl,rfl,rfl,rfl,rfl,trivial⟩,hI.pickL [0] (by decide) rfl,(by omega),(hr.to (by simp) rfl),rfl⟩ ?_
 rintro m ρ w ⟨k,gg,cc,ccl,hag,hI,hk,hrr,hm⟩
 obtain ⟨ρ,rfl⟩:=hag.form; clear hag
 refine wp_seq (rgn rfl (seq_c (s_lss rfl rfl ?_ ?_)))
 ·intro h1
  refine seq_nil (wp_seq (wp_condT rfl (wp_skip (wp_seq (wp_block ?_)))))
  refine wp_seq (rgn rfl ?_)
  obtain ⟨x1,hx2⟩:=get_lt (l:=l) (i:=k) (by omega)
  obtain ⟨b3,o4,hA5,hb6,hB8,he7⟩:=hC.at_ eSp_len (by decide) hx2
  refine seq_c (s_indexA k Tryz.underlying26 Tryz.sizeOf33 rfl hA5 rfl rfl (by omega) ?_)
  refine seq_c (s_loadBK hI [iv x1.src,iv x1.kd,iv x1.fr,iv x1.to,iv x1.kn,iv x1.un] Tryz.isAgg33 Tryz.sizeOf33 rfl rfl hb6 hB8 he7 ?_)
  refine seq_c (s_allocI hI [iv 0,iv 0,iv 0,iv 0,iv 0,iv 0] Tryz.zeroValue33 rfl ?_)
  intro b9 w hI
  refine seq_c (s_store hI 0 6 [iv x1.src,iv x1.kd,iv x1.fr,iv x1.to,iv x1.kn,iv x1.un] Tryz.sizeOf33 rfl rfl rfl rfl rfl (Nat.le_of_ble_eq_true rfl) ?_)
  intro w hI
  refine seq_nil (rgn rfl (pu (slv gg (n+k) cc) rfl (pu (fv) rfl (seq_c (s_loadK hI 0 6 [iv x1.src,iv x1.kd,iv x1.fr,iv x1.to,iv x1.kn,iv x1.un] Tryz.isAgg33 Tryz.sizeOf33 rfl rfl rfl rfl ?_)))))
  refine seq_c (s_callVv hI [.agg #[iv x1.src,iv x1.kd,iv x1.fr,iv x1.to,iv x1.kn,iv x1.un]] (.agg #[iv (q x1).s,iv (q x1).k,iv (q x1).u]) rfl (by kernel_rfl) (hf w hI.but x1 (mem_of_get hx2)) ?_)
  intro w hI
  refine seq_c (s_new hI [iv (q x1).s,iv (q x1).k,iv (q x1).u] 95 (fun b=>slv (some b) 1 1) (by kernel_rfl) ?_)
  intro b10 w hI
  refine seq_c (s_app hI Tryz.underlying98 (z:=.agg #[iv 0,iv 0,iv 0]) (k:=3) (bytes:=24) rfl rfl rfl 2 rfl rfl hrr [iv (q x1).s,iv (q x1).k,iv (q x1).u] rfl rfl (hI.cells 0 (off:=0) rfl (fun j u h=>by rw [Nat.zero_add]; exact h)) (by simp [Value.oneCell']) (by omega) (by omega) ?_)
  intro g11 c12 cl13 w hI r14
  have r14:Row 3 g11 (n+k+1) c12 cl13 (flat eNt ((X++(l.take k).map q)++[q x1])):=r14.snoc _ rfl
  refine pu (slv g11 (n+k+1) c12) rfl (seq_nil (rgn rfl (seq_c (s_add rfl rfl (by omega) ?_))))
  refine pu (iv ((k:Int)+1)) rfl (seq_nil ?_)
  exact ⟨rfl,_,(by omega),⟨k+1,g11,c12,cl13,⟨rfl,rfl,rfl,rfl,rfl,trivial⟩,hI.pickL [2] (by decide) rfl,(by omega),(r14.to (by rw [take_get hx2]; simp) (by omega)),rfl⟩⟩
 ·intro h2
  refine seq_nil (wp_seq (wp_condF rfl (wp_exit ?_)))
  refine wp_seq (rgn rfl (pu (slv gg (n+k) cc) rfl (pu (slv gg (n+k) cc) rfl (seq_nil (wp_ret ?_)))))
  exact ⟨slv gg (n+k) cc,Ret.r1 rfl rfl,⟨gg,cc,ccl,(by rw [show n+k=n+n2 by omega]),hI.pickL [0] (by decide) rfl,hrr.to (by simp [show k=l.length by omega]) (by omega)⟩⟩

theorem idx_any {α:Type} (p:α→Bool) (l:List α):l.any p=decide (0≤idxI p l):=by
  unfold idxI
  cases h:l.findIdx? p with
  | none =>
    rw [List.findIdx?_eq_none_iff] at h
    have h1:l.any p=false:=by rw [List.any_eq_false]; intro x hx; simp [h x hx]
    rw [h1]; rfl
  | some i =>
    rw [List.findIdx?_eq_some_iff_getElem] at h
    obtain ⟨h1,h2,_⟩:=h
    have h3:l.any p=true:=List.any_eq_true.2 ⟨_,List.getElem_mem h1,h2⟩
    rw [h3]; simp


theorem ContainsNote_c (w0:World) (l:List Nt) (A:Option Addr) (n c:Nat) (fv:Value) (p:Nt→Bool) (hn:n=l.length) (hmax:n≤9223372036854775807) (hC:Cells w0 A (flat eNt l)) (hf:∀ w,Below w0.heap.size w0 w→∀ x∈l,CallV Tryz.prog fv [.agg (eNt x).toArray] w fun v w'=>v=.bool (p x)∧Below w.heap.size w w'):Does Tryz.prog 121 [.slice A n c,fv] w0 fun v w=>v=.bool (l.any p)∧Below w0.heap.size w0 w:=by
 refine calls_of (n:=9) Tryz.func121 rfl Tryz.ntmps121 rfl ?_
 have hI:=Inv.start w0
 refine wp_seq (rgn rfl (pu (.bool false) rfl (seq_nil (wp_seq (rgn rfl (pu (.slice A n c) rfl (pu (fv) rfl ?_)))))))
 obtain ⟨q1,hq1⟩:∃ z,z=idxI p l:=⟨_,rfl⟩
 have hq1b:-1≤q1∧q1+1≤(l).length:=by rw [hq1]; exact idx_bd _ _
 refine seq_c (s_callv hI 158 [.slice A n c,fv] (iv q1) (by kernel_rfl) (by rw [hq1]; exact (IndexNote_c _ (l) A n c (fv) p (by omega) (by omega) (hC.inv0 hI) (fun w1 hb=>hf w1 (hI.below.trans (hb.mono hI.below.size))))) ?_)
 intro w hI
 refine seq_c (s_geq rfl rfl ?_ ?_)
 ·intro h1
  refine pu (.bool true) rfl (seq_nil (wp_ret ?_))
  exact ⟨.bool true,Ret.r1 rfl rfl,⟨by rw [idx_any,← hq1]; simp_all,hI.below⟩⟩
 ·intro h2
  refine pu (.bool false) rfl (seq_nil (wp_ret ?_))
  exact ⟨.bool false,Ret.r1 rfl rfl,⟨by rw [idx_any,← hq1]; simp_all,hI.below⟩⟩


theorem ContainsSpell_c (w0:World) (l:List Sp) (A:Option Addr) (n c:Nat) (fv:Value) (p:Sp→Bool) (hn:n=l.length) (hmax:n≤9223372036854775807) (hC:Cells w0 A (flat eSp l)) (hf:∀ w,Below w0.heap.size w0 w→∀ x∈l,CallV Tryz.prog fv [.agg (eSp x).toArray] w fun v w'=>v=.bool (p x)∧Below w.heap.size w w'):Does Tryz.prog 156 [.slice A n c,fv] w0 fun v w=>v=.bool (l.any p)∧Below w0.heap.size w0 w:=by
 refine calls_of (n:=9) Tryz.func156 rfl Tryz.ntmps156 rfl ?_
 have hI:=Inv.start w0
 refine wp_seq (rgn rfl (pu (.bool false) rfl (seq_nil (wp_seq (rgn rfl (pu (.slice A n c) rfl (pu (fv) rfl ?_)))))))
 obtain ⟨q1,hq1⟩:∃ z,z=idxI p l:=⟨_,rfl⟩
 have hq1b:-1≤q1∧q1+1≤(l).length:=by rw [hq1]; exact idx_bd _ _
 refine seq_c (s_callv hI 162 [.slice A n c,fv] (iv q1) (by kernel_rfl) (by rw [hq1]; exact (IndexSpell_c _ (l) A n c (fv) p (by omega) (by omega) (hC.inv0 hI) (fun w1 hb=>hf w1 (hI.below.trans (hb.mono hI.below.size))))) ?_)
 intro w hI
 refine seq_c (s_geq rfl rfl ?_ ?_)
 ·intro h1
  refine pu (.bool true) rfl (seq_nil (wp_ret ?_))
  exact ⟨.bool true,Ret.r1 rfl rfl,⟨by rw [idx_any,← hq1]; simp_all,hI.below⟩⟩
 ·intro h2
  refine pu (.bool false) rfl (seq_nil (wp_ret ?_))
  exact ⟨.bool false,Ret.r1 rfl rfl,⟨by rw [idx_any,← hq1]; simp_all,hI.below⟩⟩

theorem clone_nil {α:Type} {enc:α→List Value} {k:Nat} (hk:∀ x,(enc x).length=k) (hk0:0 < k) {w:World} {A:Option Addr} {l:List α} (hC:Cells w A (flat enc l)) (h:A=none):l=[]:=by
  subst h
  exact flat_nil_of hk hk0 hC.nil_of


theorem CloneLoads_c (w0:World) (l:List Ld) (A:Option Addr) (n c:Nat) (hn:n=l.length) (hb:n≤1000000000) (hC:Cells w0 A (flat eLd l)):Does Tryz.prog 123 [.slice A n c] w0 fun v w=>Gives 6 30 none n (flat eLd l) w0 v w:=by
 refine calls_of (n:=8) Tryz.func123 rfl Tryz.ntmps123 rfl ?_
 have hI:=Inv.start w0
 refine wp_seq (rgn rfl (pu (.slice none 0 0) rfl (seq_nil (wp_seq (wp_seq (rgn rfl (pu (.slice A n c) rfl (seq_c (s_eqnil Tryz.underlying24 rfl rfl ?_ ?_)))))))))
 ·intro h1
  refine seq_nil (wp_condT rfl (wp_seq (rgn rfl (pu (.slice none 0 0) rfl (seq_nil (wp_ret ?_))))))
  have hI:=hI.nilRow 30
  exact ⟨.slice none 0 0,Ret.r1 rfl rfl,⟨none,0,[],(by rw [show n=0 by rw [hn,clone_nil (eLd_len) (by decide) hC h1]; rfl]; rfl),hI.pickL [0] (by decide) rfl,by subst h1; have:=clone_nil (eLd_len) (by decide) hC rfl; subst this; subst hn; exact Row.nil_ 6⟩⟩
 ·intro h2
  refine seq_nil (wp_condF rfl (wp_skip (wp_seq (rgn rfl (seq_c (s_new hI [] 30 (fun b=>slv (some b) 0 0) (by kernel_rfl) ?_))))))
  intro b1 w hI
  refine pu (.slice A n c) rfl (seq_c (s_app hI Tryz.underlying24 (z:=.agg #[iv 0,iv 0,iv 0,iv 0,iv 0,iv 0]) (k:=6) (bytes:=48) rfl rfl rfl 0 rfl rfl (Row.zero_ 6 b1) (flat eLd l) rfl (by rw [flat_len eLd_len]; omega) (hC.inv0 hI) (flat_cell eLd_cell _) (by omega) (by omega) ?_))
  intro g2 c3 cl4 w hI r5
  have r5:Row 6 g2 (0+n) c3 cl4 (flat eLd l):=r5
  refine pu (slv g2 (0+n) c3) rfl (seq_nil (wp_ret ?_))
  exact ⟨slv g2 (0+n) c3,Ret.r1 rfl rfl,⟨g2,c3,cl4,(by rw [show 0+n=n by omega]),hI.pickL [0] (by decide) rfl,r5.to rfl (by omega)⟩⟩


theorem CloneStands_c (w0:World) (l:List Ld) (A:Option Addr) (n c:Nat) (hn:n=l.length) (hb:n≤1000000000) (hC:Cells w0 A (flat eLd l)):Does Tryz.prog 124 [.slice A n c] w0 fun v w=>Gives 6 31 none n (flat eLd l) w0 v w:=by
 refine calls_of (n:=8) Tryz.func124 rfl Tryz.ntmps124 rfl ?_
 have hI:=Inv.start w0
 refine wp_seq (rgn rfl (pu (.slice none 0 0) rfl (seq_nil (wp_seq (wp_seq (rgn rfl (pu (.slice A n c) rfl (seq_c (s_eqnil Tryz.underlying25 rfl rfl ?_ ?_)))))))))
 ·intro h1
  refine seq_nil (wp_condT rfl (wp_seq (rgn rfl (pu (.slice none 0 0) rfl (seq_nil (wp_ret ?_))))))
  have hI:=hI.nilRow 31
  exact ⟨.slice none 0 0,Ret.r1 rfl rfl,⟨none,0,[],(by rw [show n=0 by rw [hn,clone_nil (eLd_len) (by decide) hC h1]; rfl]; rfl),hI.pickL [0] (by decide) rfl,by subst h1; have:=clone_nil (eLd_len) (by decide) hC rfl; subst this; subst hn; exact Row.nil_ 6⟩⟩
 ·intro h2
  refine seq_nil (wp_condF rfl (wp_skip (wp_seq (rgn rfl (seq_c (s_new hI [] 31 (fun b=>slv (some b) 0 0) (by kernel_rfl) ?_))))))
  intro b1 w hI
  refine pu (.slice A n c) rfl (seq_c (s_app hI Tryz.underlying25 (z:=.agg #[iv 0,iv 0,iv 0,iv 0,iv 0,iv 0]) (k:=6) (bytes:=48) rfl rfl rfl 0 rfl rfl (Row.zero_ 6 b1) (flat eLd l) rfl (by rw [flat_len eLd_len]; omega) (hC.inv0 hI) (flat_cell eLd_cell _) (by omega) (by omega) ?_))
  intro g2 c3 cl4 w hI r5
  have r5:Row 6 g2 (0+n) c3 cl4 (flat eLd l):=r5
  refine pu (slv g2 (0+n) c3) rfl (seq_nil (wp_ret ?_))
  exact ⟨slv g2 (0+n) c3,Ret.r1 rfl rfl,⟨g2,c3,cl4,(by rw [show 0+n=n by omega]),hI.pickL [0] (by decide) rfl,r5.to rfl (by omega)⟩⟩


theorem CloneSpells_c (w0:World) (l:List Sp) (A:Option Addr) (n c:Nat) (hn:n=l.length) (hb:n≤1000000000) (hC:Cells w0 A (flat eSp l)):Does Tryz.prog 125 [.slice A n c] w0 fun v w=>Gives 6 33 none n (flat eSp l) w0 v w:=by
 refine calls_of (n:=8) Tryz.func125 rfl Tryz.ntmps125 rfl ?_
 have hI:=Inv.start w0
 refine wp_seq (rgn rfl (pu (.slice none 0 0) rfl (seq_nil (wp_seq (wp_seq (rgn rfl (pu (.slice A n c) rfl (seq_c (s_eqnil Tryz.underlying26 rfl rfl ?_ ?_)))))))))
 ·intro h1
  refine seq_nil (wp_condT rfl (wp_seq (rgn rfl (pu (.slice none 0 0) rfl (seq_nil (wp_ret ?_))))))
  have hI:=hI.nilRow 33
  exact ⟨.slice none 0 0,Ret.r1 rfl rfl,⟨none,0,[],(by rw [show n=0 by rw [hn,clone_nil (eSp_len) (by decide) hC h1]; rfl]; rfl),hI.pickL [0] (by decide) rfl,by subst h1; have:=clone_nil (eSp_len) (by decide) hC rfl; subst this; subst hn; exact Row.nil_ 6⟩⟩
 ·intro h2
  refine seq_nil (wp_condF rfl (wp_skip (wp_seq (rgn rfl (seq_c (s_new hI [] 33 (fun b=>slv (some b) 0 0) (by kernel_rfl) ?_))))))
  intro b1 w hI
  refine pu (.slice A n c) rfl (seq_c (s_app hI Tryz.underlying26 (z:=.agg #[iv 0,iv 0,iv 0,iv 0,iv 0,iv 0]) (k:=6) (bytes:=48) rfl rfl rfl 0 rfl rfl (Row.zero_ 6 b1) (flat eSp l) rfl (by rw [flat_len eSp_len]; omega) (hC.inv0 hI) (flat_cell eSp_cell _) (by omega) (by omega) ?_))
  intro g2 c3 cl4 w hI r5
  have r5:Row 6 g2 (0+n) c3 cl4 (flat eSp l):=r5
  refine pu (slv g2 (0+n) c3) rfl (seq_nil (wp_ret ?_))
  exact ⟨slv g2 (0+n) c3,Ret.r1 rfl rfl,⟨g2,c3,cl4,(by rw [show 0+n=n by omega]),hI.pickL [0] (by decide) rfl,r5.to rfl (by omega)⟩⟩


theorem CloneRanges_c (w0:World) (l:List Rg) (A:Option Addr) (n c:Nat) (hn:n=l.length) (hb:n≤1000000000) (hC:Cells w0 A (flat eRg l)):Does Tryz.prog 176 [.slice A n c] w0 fun v w=>Gives 2 23 none n (flat eRg l) w0 v w:=by
 refine calls_of (n:=8) Tryz.func176 rfl Tryz.ntmps176 rfl ?_
 have hI:=Inv.start w0
 refine wp_seq (rgn rfl (pu (.slice none 0 0) rfl (seq_nil (wp_seq (wp_seq (rgn rfl (pu (.slice A n c) rfl (seq_c (s_eqnil Tryz.underlying130 rfl rfl ?_ ?_)))))))))
 ·intro h1
  refine seq_nil (wp_condT rfl (wp_seq (rgn rfl (pu (.slice none 0 0) rfl (seq_nil (wp_ret ?_))))))
  have hI:=hI.nilRow 23
  exact ⟨.slice none 0 0,Ret.r1 rfl rfl,⟨none,0,[],(by rw [show n=0 by rw [hn,clone_nil (eRg_len) (by decide) hC h1]; rfl]; rfl),hI.pickL [0] (by decide) rfl,by subst h1; have:=clone_nil (eRg_len) (by decide) hC rfl; subst this; subst hn; exact Row.nil_ 2⟩⟩
 ·intro h2
  refine seq_nil (wp_condF rfl (wp_skip (wp_seq (rgn rfl (seq_c (s_new hI [] 23 (fun b=>slv (some b) 0 0) (by kernel_rfl) ?_))))))
  intro b1 w hI
  refine pu (.slice A n c) rfl (seq_c (s_app hI Tryz.underlying130 (z:=.agg #[iv 0,iv 0]) (k:=2) (bytes:=16) rfl rfl rfl 0 rfl rfl (Row.zero_ 2 b1) (flat eRg l) rfl (by rw [flat_len eRg_len]; omega) (hC.inv0 hI) (flat_cell eRg_cell _) (by omega) (by omega) ?_))
  intro g2 c3 cl4 w hI r5
  have r5:Row 2 g2 (0+n) c3 cl4 (flat eRg l):=r5
  refine pu (slv g2 (0+n) c3) rfl (seq_nil (wp_ret ?_))
  exact ⟨slv g2 (0+n) c3,Ret.r1 rfl rfl,⟨g2,c3,cl4,(by rw [show 0+n=n by omega]),hI.pickL [0] (by decide) rfl,r5.to rfl (by omega)⟩⟩

theorem del_take {α:Type} {p:α→Bool} {l:List α} {i:Nat} {x:α} (hx:l[i]?=some x):(l.take (i+1)).filter (fun y=>!p y)=(l.take i).filter (fun y=>!p y)++(if p x then [] else [x]):=by
  rw [take_get hx,List.filter_append]
  cases h:p x <;> simp [h]
theorem del_first {α:Type} {p:α→Bool} {l:List α} (i:Nat) (h:idxI p l=(i:Int)):i < l.length∧(l.take (i+1)).filter (fun y=>!p y)=l.take i:=by
  unfold idxI at h
  cases hf:l.findIdx? p with
  | none=>rw [hf] at h; exact absurd h (by simp)
  | some j =>
    rw [hf] at h
    have:j=i:=Int.ofNat.inj h
    subst this
    rw [List.findIdx?_eq_some_iff_getElem] at hf
    obtain ⟨h1,h2,h3⟩:=hf
    refine ⟨h1,?_⟩
    rw [del_take (List.getElem?_eq_getElem h1),h2]
    simp only [if_true,List.append_nil]
    rw [List.filter_eq_self]
    intro x hx
    obtain ⟨k,hk,he⟩:=List.getElem_of_mem hx
    rw [List.length_take] at hk
    have:=h3 k (by omega)
    rw [List.getElem_take] at he
    rw [← he]; simpa using this
theorem del_none {α:Type} {p:α→Bool} {l:List α} (h:idxI p l=-1):l.filter (fun y=>!p y)=l:=by
  unfold idxI at h
  cases hf:l.findIdx? p with
  | none =>
    rw [List.findIdx?_eq_none_iff] at hf
    rw [List.filter_eq_self]
    intro x hx; simp [hf x hx]
  | some j=>rw [hf] at h; exact absurd h (by simp)
/-- What DeleteFunc knows in its loop: i elements are kept of the first j. -/
structure Del {α:Type} (p:α→Bool) (l M:List α) (i j:Nat):Prop where
  len:M.length=l.length
  kept:M.take i=(l.take j).filter (fun y=>!p y)
  rest:M.drop j=l.drop j
  cnt:i=((l.take j).filter (fun y=>!p y)).length
  lt:i < j
  le:j≤l.length
theorem Del.first {α:Type} {p:α→Bool} {l:List α} {i:Nat} (h:idxI p l=(i:Int)):Del p l l i (i+1):=by
  obtain ⟨h1,h2⟩:=del_first i h
  exact ⟨rfl,h2.symm,rfl,by rw [h2,List.length_take]; omega,by omega,by omega⟩
theorem Del.get {α:Type} {p:α→Bool} {l M:List α} {i j:Nat} (h:Del p l M i j) {x:α} (hx:M[j]?=some x):l[j]?=some x:=by
  have:(M.drop j)[0]?=(l.drop j)[0]?:=by rw [h.rest]
  simpa [hx] using this.symm
theorem Del.yes {α:Type} {p:α→Bool} {l M:List α} {i j:Nat} (h:Del p l M i j) {x:α} (hx:M[j]?=some x) (hp:p x=true):Del p l M i (j+1):=by
  have hl:=h.get hx
  have e:(l.take (j+1)).filter (fun y=>!p y)=(l.take j).filter (fun y=>!p y):=by rw [del_take hl,hp]; simp
  refine ⟨h.len,by rw [e,h.kept],?_,by rw [e]; exact h.cnt,Nat.lt_succ_of_lt h.lt,lt_of_get hl⟩
  have:=congrArg (List.drop 1) h.rest
  simpa [List.drop_drop,Nat.add_comm] using this
theorem Del.no {α:Type} {p:α→Bool} {l M:List α} {i j:Nat} (h:Del p l M i j) {x:α} (hx:M[j]?=some x) (hp:p x=false):Del p l (M.set i x) (i+1) (j+1):=by
  have hl:=h.get hx
  have hj:=lt_of_get hl
  have e:(l.take (j+1)).filter (fun y=>!p y)=(l.take j).filter (fun y=>!p y)++[x]:=by rw [del_take hl,hp]; simp
  have hi:=h.lt
  refine ⟨by rw [List.length_set,h.len],?_,?_,?_,by omega,by omega⟩
  · rw [e,← h.kept,List.take_succ_eq_append_getElem (by rw [List.length_set,h.len]; omega)]
    simp [List.take_set_of_le]
  · have:=congrArg (List.drop 1) h.rest
    rw [List.drop_set_of_lt (by omega)]
    simpa [List.drop_drop,Nat.add_comm] using this
  · rw [e,List.length_append,← h.cnt]; rfl
theorem Del.done {α:Type} {p:α→Bool} {l M:List α} {i j:Nat} (h:Del p l M i j) (hj:l.length≤j):M.take i=l.filter (fun y=>!p y)∧i=(l.filter (fun y=>!p y)).length:=by
  have h1:=h.kept
  have h2:=h.cnt
  rw [List.take_of_length_le hj] at h1 h2
  exact ⟨h1,h2⟩


theorem DeleteLoads_c (w0:World) (g:Option Nat) (n c:Nat) (cl:List Value) (l:List Ld) (fv:Value) (p:Ld→Bool) (hg:∀ b,g=some b→w0.heap[b]?=some (blk cl 30)) (hr:Row 6 g n c cl (flat eLd l)) (hmax:n≤9223372036854775807) (hf:∀ w,But g.toList w0 w→∀ x∈l,CallV Tryz.prog fv [.agg (eLd x).toArray] w fun v w'=>v=.bool (p x)∧Below w.heap.size w w'):Does Tryz.prog 128 [slv g n c,fv] w0 fun v w=>GivesIn 6 30 g c (l.filter (fun y=>!p y)).length (flat eLd (l.filter (fun y=>!p y))) w0 v w:=by
 have hnl:=hr.n_eq eLd_len (by decide)
 refine calls_of (n:=42) Tryz.func128 rfl Tryz.ntmps128 rfl ?_
 have hI:=Inv.lent w0 g (blk cl 30) hg
 refine wp_seq (rgn rfl (pu (.slice none 0 0) rfl (seq_nil (wp_seq (rgn rfl (pu (slv g n c) rfl (pu (fv) rfl ?_)))))))
 obtain ⟨q1,hq1⟩:∃ z,z=idxI p l:=⟨_,rfl⟩
 have hq1b:-1≤q1∧q1+1≤(l).length:=by rw [hq1]; exact idx_bd _ _
 refine seq_c (s_callv hI 160 [slv g n c,fv] (iv q1) (by kernel_rfl) (by rw [hq1]; exact (IndexLoad_c _ (l) (g.map fun b=>⟨b,0,none⟩) n c (fv) p (hr.n_eq eLd_len (by decide)) (by omega) (hI.rowCells 0 rfl hr) (fun w1 hb=>hf w1 (hI.but.thenBelow hb)))) ?_)
 intro w hI
 refine pu (iv q1) rfl (seq_nil (wp_seq (wp_seq (rgn rfl (pu (iv q1) rfl (seq_c (s_eql rfl rfl ?_ ?_)))))))
 ·intro h1
  refine seq_nil (wp_condT rfl (wp_seq (rgn rfl (pu (slv g n c) rfl (pu (slv g n c) rfl (seq_nil (wp_ret ?_)))))))
  exact ⟨slv g n c,Ret.r1 rfl rfl,⟨cl,(by rw [del_none (hq1.symm.trans h1),← hr.n_eq eLd_len (by decide)]),hI.pickL [0] (by decide) rfl,(by rw [del_none (hq1.symm.trans h1),← hr.n_eq eLd_len (by decide)]; exact hr)⟩⟩
 ·intro h2
  refine seq_nil (wp_condF rfl (wp_skip (wp_seq (wp_seq (rgn rfl (pu (iv q1) rfl (seq_c (s_add rfl rfl (by omega) ?_))))))))
  refine pu (iv (q1+1)) rfl (seq_nil (wp_block ?_))
  obtain ⟨i0,rfl⟩:∃ i0:Nat,q1=(i0:Int):=⟨q1.toNat,by omega⟩
  have hd0:=Del.first hq1.symm
  have hlt0:=hd0.le
  have hmx:=hr.capmax; unfold maxLen at hmx; have hcp:=hr.cap
  obtain ⟨b0,rfl⟩:=hr.some_ (by omega)
  refine wp_loop (fun m ρ w=>∃ (i:Nat) (j:Nat) (ccl:List Value) (M:List Ld),Agree ρ [(0,slv (some b0) n c),(1,fv),(5,iv (i:Int)),(6,iv (j:Int))]∧Inv [b0] w0 w [(some b0,blk ccl 30)]∧(Del p l M i j)∧(Row 6 (some b0) n c ccl (flat eLd M))∧m=n - j) (m:=n - (i0+1)) ⟨i0,i0+1,cl,l,⟨rfl,rfl,rfl,rfl,trivial⟩,hI.pickL [0] (by decide) rfl,hd0,hr,rfl⟩ ?_
  rintro m ρ w ⟨i,j,ccl,M,hag,hI,hd,hrr,hm⟩
  obtain ⟨ρ,rfl⟩:=hag.form; clear hag
  have hd1:=hd.lt; have hd2:=hd.le; have hd3:=hd.len
  refine wp_seq (wp_seq (rgn rfl (pu (iv (j:Int)) rfl (pu (slv (some b0) n c) rfl (pu (iv ((n:Nat):Int)) (by kernel_rfl) (seq_c (s_lss rfl rfl ?_ ?_)))))))
  ·intro h3
   refine seq_nil (wp_condT rfl (wp_skip (wp_seq (wp_block ?_))))
   refine wp_seq (rgn rfl (pu (slv (some b0) n c) rfl (pu (iv (j:Int)) rfl ?_)))
   obtain ⟨x2,hx3⟩:=get_lt (l:=M) (i:=j) (by omega)
   have he4:=hrr.atS eLd_len (by decide) hx3
   refine seq_c (s_indexR j Tryz.underlying24 Tryz.sizeOf30 rfl rfl rfl (by omega) ?_)
   refine seq_c (s_loadRK hI 0 [iv x2.src,iv x2.hr,iv x2.lo,iv x2.hi,iv x2.kn,iv x2.un] Tryz.isAgg30 Tryz.sizeOf30 rfl rfl rfl he4 ?_)
   refine seq_c (s_allocI hI [iv 0,iv 0,iv 0,iv 0,iv 0,iv 0] Tryz.zeroValue30 rfl ?_)
   intro b5 w hI
   refine seq_c (s_store hI 0 6 [iv x2.src,iv x2.hr,iv x2.lo,iv x2.hi,iv x2.kn,iv x2.un] Tryz.sizeOf30 rfl rfl rfl rfl rfl (Nat.le_of_ble_eq_true rfl) ?_)
   intro w hI
   refine seq_nil (wp_seq (rgn rfl (pu (fv) rfl (seq_c (s_loadK hI 0 6 [iv x2.src,iv x2.hr,iv x2.lo,iv x2.hi,iv x2.kn,iv x2.un] Tryz.isAgg30 Tryz.sizeOf30 rfl rfl rfl rfl ?_)))))
   refine seq_c (s_callVb hI [.agg #[iv x2.src,iv x2.hr,iv x2.lo,iv x2.hi,iv x2.kn,iv x2.un]] (p x2) rfl (by kernel_rfl) (hf w hI.but x2 (mem_of_get (hd.get hx3))) ?_ ?_)
   ·intro h4 w hI
    refine pu (.bool false) rfl (seq_nil (wp_condF rfl (wp_skip (rgn rfl (pu (iv (j:Int)) rfl (seq_c (s_add rfl rfl (by omega) ?_)))))))
    refine pu (iv ((j:Int)+1)) rfl (seq_nil ?_)
    exact ⟨rfl,_,(by omega),⟨i,j+1,ccl,M,⟨rfl,rfl,rfl,rfl,trivial⟩,hI.pickL [1] (by decide) rfl,(hd.yes hx3 h4),hrr,rfl⟩⟩
   ·intro h5 w hI
    refine pu (.bool true) rfl (seq_nil (wp_condT rfl (wp_seq (rgn rfl (pu (slv (some b0) n c) rfl (pu (iv (i:Int)) rfl (seq_c (s_loadK hI 0 6 [iv x2.src,iv x2.hr,iv x2.lo,iv x2.hi,iv x2.kn,iv x2.un] Tryz.isAgg30 Tryz.sizeOf30 rfl rfl rfl rfl ?_))))))))
    obtain ⟨x6,hx7⟩:=get_lt (l:=M) (i:=i) (by omega)
    have he8:=hrr.atS eLd_len (by decide) hx7
    refine seq_c (s_indexR i Tryz.underlying24 Tryz.sizeOf30 rfl rfl rfl (by omega) ?_)
    refine seq_c (s_store hI 1 6 [iv x2.src,iv x2.hr,iv x2.lo,iv x2.hi,iv x2.kn,iv x2.un] Tryz.sizeOf30 rfl rfl rfl rfl rfl (hrr.room (by omega)) ?_)
    intro w hI
    have r9:=hrr.put eLd_len (by decide) i x2 (by omega)
    obtain ⟨cl10,hcl⟩:∃ z,z=putCells ccl (i * 6) (eLd x2):=⟨_,rfl⟩
    rw [← hcl] at r9
    have hI:Inv [b0] w0 w [(some b5,blk [iv x2.src,iv x2.hr,iv x2.lo,iv x2.hi,iv x2.kn,iv x2.un] 30),(some b0,blk cl10 30)]:=by rw [hcl]; exact hI
    clear hcl
    refine seq_nil (rgn rfl (pu (iv (i:Int)) rfl (seq_c (s_add rfl rfl (by omega) ?_))))
    refine pu (iv ((i:Int)+1)) rfl (seq_nil (rgn rfl (pu (iv (j:Int)) rfl (seq_c (s_add rfl rfl (by omega) ?_)))))
    refine pu (iv ((j:Int)+1)) rfl (seq_nil ?_)
    exact ⟨rfl,_,(by omega),⟨i+1,j+1,cl10,M.set i x2,⟨rfl,rfl,rfl,rfl,trivial⟩,hI.pickL [1] (by decide) rfl,(hd.no hx3 h5),r9,rfl⟩⟩
  ·intro h6
   refine seq_nil (wp_condF rfl (wp_exit ?_))
   refine wp_seq (rgn rfl (pu (slv (some b0) n c) rfl (pu (iv (i:Int)) rfl (seq_c (s_sliceLo i Tryz.underlying24 Tryz.sizeOf30 rfl rfl (by omega) hrr.cap ?_)))))
   refine seq_c (s_clearTail hI 0 Tryz.underlying24 Tryz.zeroValue30 rfl rfl rfl rfl (by omega) hrr.cap hrr.size ?_)
   intro cl11 w hI hl0 ht0
   have r12:=(hrr.cut eLd_len (by decide) i (by omega)).same hl0 ht0
   refine seq_nil (wp_seq (rgn rfl (pu (slv (some b0) n c) rfl (pu (iv (i:Int)) rfl (seq_c (s_sliceHi i Tryz.underlying24 Tryz.sizeOf30 rfl rfl (Nat.le_trans (by omega) hrr.cap) ?_))))))
   refine pu (slv (some b0) i c) rfl (seq_nil (wp_ret ?_))
   exact ⟨slv (some b0) i c,Ret.r1 rfl rfl,⟨cl11,(by rw [← (hd.done (by omega)).2]),hI.pickL [0] (by decide) rfl,(by rw [← (hd.done (by omega)).2,← (hd.done (by omega)).1]; exact r12)⟩⟩


theorem DeleteStands_c (w0:World) (g:Option Nat) (n c:Nat) (cl:List Value) (l:List Ld) (fv:Value) (p:Ld→Bool) (hg:∀ b,g=some b→w0.heap[b]?=some (blk cl 31)) (hr:Row 6 g n c cl (flat eLd l)) (hmax:n≤9223372036854775807) (hf:∀ w,But g.toList w0 w→∀ x∈l,CallV Tryz.prog fv [.agg (eLd x).toArray] w fun v w'=>v=.bool (p x)∧Below w.heap.size w w'):Does Tryz.prog 130 [slv g n c,fv] w0 fun v w=>GivesIn 6 31 g c (l.filter (fun y=>!p y)).length (flat eLd (l.filter (fun y=>!p y))) w0 v w:=by
 have hnl:=hr.n_eq eLd_len (by decide)
 refine calls_of (n:=42) Tryz.func130 rfl Tryz.ntmps130 rfl ?_
 have hI:=Inv.lent w0 g (blk cl 31) hg
 refine wp_seq (rgn rfl (pu (.slice none 0 0) rfl (seq_nil (wp_seq (rgn rfl (pu (slv g n c) rfl (pu (fv) rfl ?_)))))))
 obtain ⟨q1,hq1⟩:∃ z,z=idxI p l:=⟨_,rfl⟩
 have hq1b:-1≤q1∧q1+1≤(l).length:=by rw [hq1]; exact idx_bd _ _
 refine seq_c (s_callv hI 161 [slv g n c,fv] (iv q1) (by kernel_rfl) (by rw [hq1]; exact (IndexStand_c _ (l) (g.map fun b=>⟨b,0,none⟩) n c (fv) p (hr.n_eq eLd_len (by decide)) (by omega) (hI.rowCells 0 rfl hr) (fun w1 hb=>hf w1 (hI.but.thenBelow hb)))) ?_)
 intro w hI
 refine pu (iv q1) rfl (seq_nil (wp_seq (wp_seq (rgn rfl (pu (iv q1) rfl (seq_c (s_eql rfl rfl ?_ ?_)))))))
 ·intro h1
  refine seq_nil (wp_condT rfl (wp_seq (rgn rfl (pu (slv g n c) rfl (pu (slv g n c) rfl (seq_nil (wp_ret ?_)))))))
  exact ⟨slv g n c,Ret.r1 rfl rfl,⟨cl,(by rw [del_none (hq1.symm.trans h1),← hr.n_eq eLd_len (by decide)]),hI.pickL [0] (by decide) rfl,(by rw [del_none (hq1.symm.trans h1),← hr.n_eq eLd_len (by decide)]; exact hr)⟩⟩
 ·intro h2
  refine seq_nil (wp_condF rfl (wp_skip (wp_seq (wp_seq (rgn rfl (pu (iv q1) rfl (seq_c (s_add rfl rfl (by omega) ?_))))))))
  refine pu (iv (q1+1)) rfl (seq_nil (wp_block ?_))
  obtain ⟨i0,rfl⟩:∃ i0:Nat,q1=(i0:Int):=⟨q1.toNat,by omega⟩
  have hd0:=Del.first hq1.symm
  have hlt0:=hd0.le
  have hmx:=hr.capmax; unfold maxLen at hmx; have hcp:=hr.cap
  obtain ⟨b0,rfl⟩:=hr.some_ (by omega)
  refine wp_loop (fun m ρ w=>∃ (i:Nat) (j:Nat) (ccl:List Value) (M:List Ld),Agree ρ [(0,slv (some b0) n c),(1,fv),(5,iv (i:Int)),(6,iv (j:Int))]∧Inv [b0] w0 w [(some b0,blk ccl 31)]∧(Del p l M i j)∧(Row 6 (some b0) n c ccl (flat eLd M))∧m=n - j) (m:=n - (i0+1)) ⟨i0,i0+1,cl,l,⟨rfl,rfl,rfl,rfl,trivial⟩,hI.pickL [0] (by decide) rfl,hd0,hr,rfl⟩ ?_
  rintro m ρ w ⟨i,j,ccl,M,hag,hI,hd,hrr,hm⟩
  obtain ⟨ρ,rfl⟩:=hag.form; clear hag
  have hd1:=hd.lt; have hd2:=hd.le; have hd3:=hd.len
  refine wp_seq (wp_seq (rgn rfl (pu (iv (j:Int)) rfl (pu (slv (some b0) n c) rfl (pu (iv ((n:Nat):Int)) (by kernel_rfl) (seq_c (s_lss rfl rfl ?_ ?_)))))))
  ·intro h3
   refine seq_nil (wp_condT rfl (wp_skip (wp_seq (wp_block ?_))))
   refine wp_seq (rgn rfl (pu (slv (some b0) n c) rfl (pu (iv (j:Int)) rfl ?_)))
   obtain ⟨x2,hx3⟩:=get_lt (l:=M) (i:=j) (by omega)
   have he4:=hrr.atS eLd_len (by decide) hx3
   refine seq_c (s_indexR j Tryz.underlying25 Tryz.sizeOf31 rfl rfl rfl (by omega) ?_)
   refine seq_c (s_loadRK hI 0 [iv x2.src,iv x2.hr,iv x2.lo,iv x2.hi,iv x2.kn,iv x2.un] Tryz.isAgg31 Tryz.sizeOf31 rfl rfl rfl he4 ?_)
   refine seq_c (s_allocI hI [iv 0,iv 0,iv 0,iv 0,iv 0,iv 0] Tryz.zeroValue31 rfl ?_)
   intro b5 w hI
   refine seq_c (s_store hI 0 6 [iv x2.src,iv x2.hr,iv x2.lo,iv x2.hi,iv x2.kn,iv x2.un] Tryz.sizeOf31 rfl rfl rfl rfl rfl (Nat.le_of_ble_eq_true rfl) ?_)
   intro w hI
   refine seq_nil (wp_seq (rgn rfl (pu (fv) rfl (seq_c (s_loadK hI 0 6 [iv x2.src,iv x2.hr,iv x2.lo,iv x2.hi,iv x2.kn,iv x2.un] Tryz.isAgg31 Tryz.sizeOf31 rfl rfl rfl rfl ?_)))))
   refine seq_c (s_callVb hI [.agg #[iv x2.src,iv x2.hr,iv x2.lo,iv x2.hi,iv x2.kn,iv x2.un]] (p x2) rfl (by kernel_rfl) (hf w hI.but x2 (mem_of_get (hd.get hx3))) ?_ ?_)
   ·intro h4 w hI
    refine pu (.bool false) rfl (seq_nil (wp_condF rfl (wp_skip (rgn rfl (pu (iv (j:Int)) rfl (seq_c (s_add rfl rfl (by omega) ?_)))))))
    refine pu (iv ((j:Int)+1)) rfl (seq_nil ?_)
    exact ⟨rfl,_,(by omega),⟨i,j+1,ccl,M,⟨rfl,rfl,rfl,rfl,trivial⟩,hI.pickL [1] (by decide) rfl,(hd.yes hx3 h4),hrr,rfl⟩⟩
   ·intro h5 w hI
    refine pu (.bool true) rfl (seq_nil (wp_condT rfl (wp_seq (rgn rfl (pu (slv (some b0) n c) rfl (pu (iv (i:Int)) rfl (seq_c (s_loadK hI 0 6 [iv x2.src,iv x2.hr,iv x2.lo,iv x2.hi,iv x2.kn,iv x2.un] Tryz.isAgg31 Tryz.sizeOf31 rfl rfl rfl rfl ?_))))))))
    obtain ⟨x6,hx7⟩:=get_lt (l:=M) (i:=i) (by omega)
    have he8:=hrr.atS eLd_len (by decide) hx7
    refine seq_c (s_indexR i Tryz.underlying25 Tryz.sizeOf31 rfl rfl rfl (by omega) ?_)
    refine seq_c (s_store hI 1 6 [iv x2.src,iv x2.hr,iv x2.lo,iv x2.hi,iv x2.kn,iv x2.un] Tryz.sizeOf31 rfl rfl rfl rfl rfl (hrr.room (by omega)) ?_)
    intro w hI
    have r9:=hrr.put eLd_len (by decide) i x2 (by omega)
    obtain ⟨cl10,hcl⟩:∃ z,z=putCells ccl (i * 6) (eLd x2):=⟨_,rfl⟩
    rw [← hcl] at r9
    have hI:Inv [b0] w0 w [(some b5,blk [iv x2.src,iv x2.hr,iv x2.lo,iv x2.hi,iv x2.kn,iv x2.un] 31),(some b0,blk cl10 31)]:=by rw [hcl]; exact hI
    clear hcl
    refine seq_nil (rgn rfl (pu (iv (i:Int)) rfl (seq_c (s_add rfl rfl (by omega) ?_))))
    refine pu (iv ((i:Int)+1)) rfl (seq_nil (rgn rfl (pu (iv (j:Int)) rfl (seq_c (s_add rfl rfl (by omega) ?_)))))
    refine pu (iv ((j:Int)+1)) rfl (seq_nil ?_)
    exact ⟨rfl,_,(by omega),⟨i+1,j+1,cl10,M.set i x2,⟨rfl,rfl,rfl,rfl,trivial⟩,hI.pickL [1] (by decide) rfl,(hd.no hx3 h5),r9,rfl⟩⟩
  ·intro h6
   refine seq_nil (wp_condF rfl (wp_exit ?_))
   refine wp_seq (rgn rfl (pu (slv (some b0) n c) rfl (pu (iv (i:Int)) rfl (seq_c (s_sliceLo i Tryz.underlying25 Tryz.sizeOf31 rfl rfl (by omega) hrr.cap ?_)))))
   refine seq_c (s_clearTail hI 0 Tryz.underlying25 Tryz.zeroValue31 rfl rfl rfl rfl (by omega) hrr.cap hrr.size ?_)
   intro cl11 w hI hl0 ht0
   have r12:=(hrr.cut eLd_len (by decide) i (by omega)).same hl0 ht0
   refine seq_nil (wp_seq (rgn rfl (pu (slv (some b0) n c) rfl (pu (iv (i:Int)) rfl (seq_c (s_sliceHi i Tryz.underlying25 Tryz.sizeOf31 rfl rfl (Nat.le_trans (by omega) hrr.cap) ?_))))))
   refine pu (slv (some b0) i c) rfl (seq_nil (wp_ret ?_))
   exact ⟨slv (some b0) i c,Ret.r1 rfl rfl,⟨cl11,(by rw [← (hd.done (by omega)).2]),hI.pickL [0] (by decide) rfl,(by rw [← (hd.done (by omega)).2,← (hd.done (by omega)).1]; exact r12)⟩⟩


theorem DeleteSpells_c (w0:World) (g:Option Nat) (n c:Nat) (cl:List Value) (l:List Sp) (fv:Value) (p:Sp→Bool) (hg:∀ b,g=some b→w0.heap[b]?=some (blk cl 33)) (hr:Row 6 g n c cl (flat eSp l)) (hmax:n≤9223372036854775807) (hf:∀ w,But g.toList w0 w→∀ x∈l,CallV Tryz.prog fv [.agg (eSp x).toArray] w fun v w'=>v=.bool (p x)∧Below w.heap.size w w'):Does Tryz.prog 132 [slv g n c,fv] w0 fun v w=>GivesIn 6 33 g c (l.filter (fun y=>!p y)).length (flat eSp (l.filter (fun y=>!p y))) w0 v w:=by
 have hnl:=hr.n_eq eSp_len (by decide)
 refine calls_of (n:=42) Tryz.func132 rfl Tryz.ntmps132 rfl ?_
 have hI:=Inv.lent w0 g (blk cl 33) hg
 refine wp_seq (rgn rfl (pu (.slice none 0 0) rfl (seq_nil (wp_seq (rgn rfl (pu (slv g n c) rfl (pu (fv) rfl ?_)))))))
 obtain ⟨q1,hq1⟩:∃ z,z=idxI p l:=⟨_,rfl⟩
 have hq1b:-1≤q1∧q1+1≤(l).length:=by rw [hq1]; exact idx_bd _ _
 refine seq_c (s_callv hI 162 [slv g n c,fv] (iv q1) (by kernel_rfl) (by rw [hq1]; exact (IndexSpell_c _ (l) (g.map fun b=>⟨b,0,none⟩) n c (fv) p (hr.n_eq eSp_len (by decide)) (by omega) (hI.rowCells 0 rfl hr) (fun w1 hb=>hf w1 (hI.but.thenBelow hb)))) ?_)
 intro w hI
 refine pu (iv q1) rfl (seq_nil (wp_seq (wp_seq (rgn rfl (pu (iv q1) rfl (seq_c (s_eql rfl rfl ?_ ?_)))))))
 ·intro h1
  refine seq_nil (wp_condT rfl (wp_seq (rgn rfl (pu (slv g n c) rfl (pu (slv g n c) rfl (seq_nil (wp_ret ?_)))))))
  exact ⟨slv g n c,Ret.r1 rfl rfl,⟨cl,(by rw [del_none (hq1.symm.trans h1),← hr.n_eq eSp_len (by decide)]),hI.pickL [0] (by decide) rfl,(by rw [del_none (hq1.symm.trans h1),← hr.n_eq eSp_len (by decide)]; exact hr)⟩⟩
 ·intro h2
  refine seq_nil (wp_condF rfl (wp_skip (wp_seq (wp_seq (rgn rfl (pu (iv q1) rfl (seq_c (s_add rfl rfl (by omega) ?_))))))))
  refine pu (iv (q1+1)) rfl (seq_nil (wp_block ?_))
  obtain ⟨i0,rfl⟩:∃ i0:Nat,q1=(i0:Int):=⟨q1.toNat,by omega⟩
  have hd0:=Del.first hq1.symm
  have hlt0:=hd0.le
  have hmx:=hr.capmax; unfold maxLen at hmx; have hcp:=hr.cap
  obtain ⟨b0,rfl⟩:=hr.some_ (by omega)
  refine wp_loop (fun m ρ w=>∃ (i:Nat) (j:Nat) (ccl:List Value) (M:List Sp),Agree ρ [(0,slv (some b0) n c),(1,fv),(5,iv (i:Int)),(6,iv (j:Int))]∧Inv [b0] w0 w [(some b0,blk ccl 33)]∧(Del p l M i j)∧(Row 6 (some b0) n c ccl (flat eSp M))∧m=n - j) (m:=n - (i0+1)) ⟨i0,i0+1,cl,l,⟨rfl,rfl,rfl,rfl,trivial⟩,hI.pickL [0] (by decide) rfl,hd0,hr,rfl⟩ ?_
  rintro m ρ w ⟨i,j,ccl,M,hag,hI,hd,hrr,hm⟩
  obtain ⟨ρ,rfl⟩:=hag.form; clear hag
  have hd1:=hd.lt; have hd2:=hd.le; have hd3:=hd.len
  refine wp_seq (wp_seq (rgn rfl (pu (iv (j:Int)) rfl (pu (slv (some b0) n c) rfl (pu (iv ((n:Nat):Int)) (by kernel_rfl) (seq_c (s_lss rfl rfl ?_ ?_)))))))
  ·intro h3
   refine seq_nil (wp_condT rfl (wp_skip (wp_seq (wp_block ?_))))
   refine wp_seq (rgn rfl (pu (slv (some b0) n c) rfl (pu (iv (j:Int)) rfl ?_)))
   obtain ⟨x2,hx3⟩:=get_lt (l:=M) (i:=j) (by omega)
   have he4:=hrr.atS eSp_len (by decide) hx3
   refine seq_c (s_indexR j Tryz.underlying26 Tryz.sizeOf33 rfl rfl rfl (by omega) ?_)
   refine seq_c (s_loadRK hI 0 [iv x2.src,iv x2.kd,iv x2.fr,iv x2.to,iv x2.kn,iv x2.un] Tryz.isAgg33 Tryz.sizeOf33 rfl rfl rfl he4 ?_)
   refine seq_c (s_allocI hI [iv 0,iv 0,iv 0,iv 0,iv 0,iv 0] Tryz.zeroValue33 rfl ?_)
   intro b5 w hI
   refine seq_c (s_store hI 0 6 [iv x2.src,iv x2.kd,iv x2.fr,iv x2.to,iv x2.kn,iv x2.un] Tryz.sizeOf33 rfl rfl rfl rfl rfl (Nat.le_of_ble_eq_true rfl) ?_)
   intro w hI
   refine seq_nil (wp_seq (rgn rfl (pu (fv) rfl (seq_c (s_loadK hI 0 6 [iv x2.src,iv x2.kd,iv x2.fr,iv x2.to,iv x2.kn,iv x2.un] Tryz.isAgg33 Tryz.sizeOf33 rfl rfl rfl rfl ?_)))))
   refine seq_c (s_callVb hI [.agg #[iv x2.src,iv x2.kd,iv x2.fr,iv x2.to,iv x2.kn,iv x2.un]] (p x2) rfl (by kernel_rfl) (hf w hI.but x2 (mem_of_get (hd.get hx3))) ?_ ?_)
   ·intro h4 w hI
    refine pu (.bool false) rfl (seq_nil (wp_condF rfl (wp_skip (rgn rfl (pu (iv (j:Int)) rfl (seq_c (s_add rfl rfl (by omega) ?_)))))))
    refine pu (iv ((j:Int)+1)) rfl (seq_nil ?_)
    exact ⟨rfl,_,(by omega),⟨i,j+1,ccl,M,⟨rfl,rfl,rfl,rfl,trivial⟩,hI.pickL [1] (by decide) rfl,(hd.yes hx3 h4),hrr,rfl⟩⟩
   ·intro h5 w hI
    refine pu (.bool true) rfl (seq_nil (wp_condT rfl (wp_seq (rgn rfl (pu (slv (some b0) n c) rfl (pu (iv (i:Int)) rfl (seq_c (s_loadK hI 0 6 [iv x2.src,iv x2.kd,iv x2.fr,iv x2.to,iv x2.kn,iv x2.un] Tryz.isAgg33 Tryz.sizeOf33 rfl rfl rfl rfl ?_))))))))
    obtain ⟨x6,hx7⟩:=get_lt (l:=M) (i:=i) (by omega)
    have he8:=hrr.atS eSp_len (by decide) hx7
    refine seq_c (s_indexR i Tryz.underlying26 Tryz.sizeOf33 rfl rfl rfl (by omega) ?_)
    refine seq_c (s_store hI 1 6 [iv x2.src,iv x2.kd,iv x2.fr,iv x2.to,iv x2.kn,iv x2.un] Tryz.sizeOf33 rfl rfl rfl rfl rfl (hrr.room (by omega)) ?_)
    intro w hI
    have r9:=hrr.put eSp_len (by decide) i x2 (by omega)
    obtain ⟨cl10,hcl⟩:∃ z,z=putCells ccl (i * 6) (eSp x2):=⟨_,rfl⟩
    rw [← hcl] at r9
    have hI:Inv [b0] w0 w [(some b5,blk [iv x2.src,iv x2.kd,iv x2.fr,iv x2.to,iv x2.kn,iv x2.un] 33),(some b0,blk cl10 33)]:=by rw [hcl]; exact hI
    clear hcl
    refine seq_nil (rgn rfl (pu (iv (i:Int)) rfl (seq_c (s_add rfl rfl (by omega) ?_))))
    refine pu (iv ((i:Int)+1)) rfl (seq_nil (rgn rfl (pu (iv (j:Int)) rfl (seq_c (s_add rfl rfl (by omega) ?_)))))
    refine pu (iv ((j:Int)+1)) rfl (seq_nil ?_)
    exact ⟨rfl,_,(by omega),⟨i+1,j+1,cl10,M.set i x2,⟨rfl,rfl,rfl,rfl,trivial⟩,hI.pickL [1] (by decide) rfl,(hd.no hx3 h5),r9,rfl⟩⟩
  ·intro h6
   refine seq_nil (wp_condF rfl (wp_exit ?_))
   refine wp_seq (rgn rfl (pu (slv (some b0) n c) rfl (pu (iv (i:Int)) rfl (seq_c (s_sliceLo i Tryz.underlying26 Tryz.sizeOf33 rfl rfl (by omega) hrr.cap ?_)))))
   refine seq_c (s_clearTail hI 0 Tryz.underlying26 Tryz.zeroValue33 rfl rfl rfl rfl (by omega) hrr.cap hrr.size ?_)
   intro cl11 w hI hl0 ht0
   have r12:=(hrr.cut eSp_len (by decide) i (by omega)).same hl0 ht0
   refine seq_nil (wp_seq (rgn rfl (pu (slv (some b0) n c) rfl (pu (iv (i:Int)) rfl (seq_c (s_sliceHi i Tryz.underlying26 Tryz.sizeOf33 rfl rfl (Nat.le_trans (by omega) hrr.cap) ?_))))))
   refine pu (slv (some b0) i c) rfl (seq_nil (wp_ret ?_))
   exact ⟨slv (some b0) i c,Ret.r1 rfl rfl,⟨cl11,(by rw [← (hd.done (by omega)).2]),hI.pickL [0] (by decide) rfl,(by rw [← (hd.done (by omega)).2,← (hd.done (by omega)).1]; exact r12)⟩⟩

end Go.K
