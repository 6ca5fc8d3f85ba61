/- Bounds that are passed on. -/
import Derived.Test.YtinkdlmimiefaaaGreatProg
import Derived.Test.YtinkdlmimiefaaaGreatPM10
namespace Go.K
open Go.Proofs Go.RowKit
set_option linter.unusedVariables false
set_option linter.unusedSimpArgs false
set_option maxRecDepth 100000
attribute [local irreducible] Seq Step CallV AnyE opX

section made
theorem made_flatM {α:Type} {enc:α→List Value} {k:Nat} (hk:∀ x,(enc x).length=k) (hk0:0 < k) (z0:α) (n:Nat):(madeCells (enc z0).toArray (n * k)).toList=flat enc (List.replicate n z0):=by
  apply List.ext_getElem?
  intro q
  rcases Nat.lt_or_ge q (n * k) with hq | hq
  · have hd:q / k < n:=Nat.div_lt_of_lt_mul (by rw [Nat.mul_comm]; exact hq)
    have hm:q % k < k:=Nat.mod_lt _ hk0
    have e:q=q / k * k+q % k:=by have:=Nat.div_add_mod q k; rw [Nat.mul_comm] at this; omega
    have h1:=flat_get hk (List.replicate n z0) (q / k) (q % k) z0 (by rw [List.getElem?_replicate,if_pos hd]) hm
    rw [← e] at h1
    rw [h1]
    have h2:(enc z0)[q % k]?=some ((enc z0)[q % k]'(by rw [hk]; exact hm)):=List.getElem?_eq_getElem _
    rw [h2]
    have h3:q % k < (enc z0).length:=by rw [hk]; exact hm
    simp [madeCells,hk,hq,hm,h3]
  · rw [List.getElem?_eq_none (by simp [madeCells]; exact hq),List.getElem?_eq_none (by rw [flat_len hk,List.length_replicate]; exact hq)]
variable {P:Program} {ρ:Env} {B:List Nat} {w w0:World} {L:List (Option Nat × Obj)} {R:Value→World→Prop} {d:Option Nat} {ty:TypeId} {pos:String} {af:Array Edge} {gd:Option (Nat × Bool)}
/-- make([]T, n). -/
theorem s_makeRowM (hI:Inv B w0 w L) {T E:TypeId} {z:Value} {k bytes:Nat} {α:Type} {enc:α→List Value} (hk:∀ x,(enc x).length=k) (hk0:0 < k) (z0:α) (ht:P.underlying T=some (.slice E)) (hinfo:(P.info? E).map (fun i=>(i.zero,i.size,i.bytes))=some (some z,k,bytes)) (hz:z.cells=(enc z0).toArray)
    {x y:Operand} (n:Nat) (hx:ev ρ x=.int .i64 (n:Int)) (hy:ev ρ y=.int .i64 (n:Int)) (hn:n≤1000000) (hb:bytes≤1000)
    (kk:∀ b cl w',Inv B w0 w' ((some b,blk cl E) :: L)→Row k (some b) n n cl (flat enc (List.replicate n z0))→R (slv (some b) n n) w'):Step P ⟨d,.makeSlice T x y,ty,pos,af,gd⟩ ρ w R:=by
  cases hq:P.info? E with
  | none=>rw [hq] at hinfo; cases hinfo
  | some i =>
    rw [hq] at hinfo
    simp only [Option.map_some,Option.some.injEq,Prod.mk.injEq] at hinfo
    obtain ⟨h1,h2,h3⟩:=hinfo
    have hbb:bytes * n≤1000 * 1000000:=Nat.mul_le_mul hb hn
    have hr:=run_make (P:=P) w T E i z ht hq h1 .i64 .i64 (n:Int) (n:Int) (by omega) (by omega) (by
      have:((bytes * n:Nat):Int)≤281474976710656:=by omega
      rw [h3]; rwa [Int.natCast_mul] at this) (by omega)
    rw [Int.toNat_natCast,h2,hz] at hr
    have hm:=made_flatM hk hk0 z0 n
    have h:(execOp (ev ρ) ⟨d,.makeSlice T x y,ty,pos,af,gd⟩).run P w=.ok (.value (slv (some w.heap.size) n n)) (w.alloc (blk (flat enc (List.replicate n z0)) E)):=by
      have e:execOp (ev ρ) ⟨d,.makeSlice T x y,ty,pos,af,gd⟩=(do pure (.value (← Instr.makeSlice T (ev ρ x) (ev ρ y)))):=rfl
      rw [e,hx,hy,Sem.run_bind,hr,← hm]
      rfl
    exact s_new hI _ E (fun b=>slv (some b) n n) h fun b w' hI'=>kk b _ w' hI' ⟨by rw [flat_len hk,List.length_replicate],Nat.le_refl _,by unfold maxLen; omega,by rw [flat_len hk,List.length_replicate],List.take_of_length_le (by rw [flat_len hk,List.length_replicate]; exact Nat.le_refl _),fun h=>by cases h⟩
end made

def meetF (r s:Rg):Rg:=⟨if s.lo > r.lo then s.lo else r.lo,if s.hi < r.hi then s.hi else r.hi⟩
/-- What may have stood before a load (true), or after it. -/
def pfF (f:Pf) (r:Rg):Rg:=cond f.b ⟨r.lo+f.x.lo,r.hi+f.x.hi⟩ ⟨r.lo - f.x.hi,r.hi - f.x.lo⟩
def passL:Rg→List Rg→List Pf→List Rg
  | p,b :: bs,f :: fs=>meetF (pfF f p) b :: passL (meetF (pfF f p) b) bs fs
  | _,_,_=>[]
def passAll:List Rg→List Pf→List Rg
  | [],_=>[]
  | b :: bs,fs=>b :: passL b bs fs
def passF (bs:List Rg) (fs:List Pf):List Rg × Bool:=if (passAll bs fs).all (fun r=>decide (r.lo≤r.hi)) then (passAll bs fs,true) else ([],false)
structure Bd (M:Int) (r:Rg):Prop where
  a:-M≤r.lo
  b:r.lo≤M
  c:-M≤r.hi
  d:r.hi≤M
structure Fd (x:Ld):Prop where
  a:0≤x.lo
  b:x.lo≤10000
  c:0≤x.hi
  d:x.hi≤10000
theorem Bd.mono {M N:Int} {r:Rg} (h:Bd M r) (hm:M≤N):Bd N r:=by obtain ⟨a,b,c,d⟩:=h; exact ⟨by omega,by omega,by omega,by omega⟩
theorem meet_bd {M:Int} {r s:Rg} (h:Bd M r) (k:Bd M s):Bd M (meetF r s):=by
  obtain ⟨a,b,c,d⟩:=h
  obtain ⟨a',b',c',d'⟩:=k
  unfold meetF
  constructor <;> (dsimp only; split) <;> assumption
theorem pf_bd {M:Int} {f:Pf} {r:Rg} (h:Bd M r) (k:Fd f.x):Bd (M+10000) (pfF f r):=by
  obtain ⟨a,b,c,d⟩:=h
  obtain ⟨a',b',c',d'⟩:=k
  obtain ⟨fb,fx⟩:=f
  cases fb <;> constructor <;> simp only [pfF,cond_true,cond_false] at * <;> omega
theorem passL_get:∀ (bs:List Rg) (fs:List Pf) (p:Rg) (i:Nat) (x:Rg) (f:Pf) (b:Rg),(p :: passL p bs fs)[i]?=some x→fs[i]?=some f→bs[i]?=some b→(passL p bs fs)[i]?=some (meetF (pfF f x) b)
  | [],_,_,i,_,_,_,_,_,hb=>by simp at hb
  | b0 :: bs,[],_,i,_,_,_,_,hf,_=>by simp at hf
  | b0 :: bs,f0 :: fs,p,0,x,f,b,hx,hf,hb=>by
    simp only [List.getElem?_cons_zero,Option.some.injEq] at hx hf hb
    subst hx; subst hf; subst hb; rfl
  | b0 :: bs,f0 :: fs,p,i+1,x,f,b,hx,hf,hb=>by
    simp only [passL,List.getElem?_cons_succ] at hx hf hb ⊢
    exact passL_get bs fs _ i x f b hx hf hb
theorem pass_get {bs:List Rg} {fs:List Pf} {i:Nat} {x:Rg} {f:Pf} {b:Rg} (hx:(passAll bs fs)[i]?=some x) (hf:fs[i]?=some f) (hb:bs[i+1]?=some b):(passAll bs fs)[i+1]?=some (meetF (pfF f x) b):=by
  cases bs with
  | nil=>simp at hb
  | cons b0 bs =>
    simp only [passAll,List.getElem?_cons_succ] at hx hb ⊢
    exact passL_get bs fs b0 i x f b hx hf hb
theorem pass_zero {bs:List Rg} {fs:List Pf}:(passAll bs fs)[0]?=bs[0]?:=by cases bs <;> rfl
theorem passL_len:∀ (bs:List Rg) (fs:List Pf) (p:Rg),bs.length≤fs.length→(passL p bs fs).length=bs.length
  | [],_,_,_=>by simp [passL]
  | b :: bs,[],_,h=>by simp at h
  | b :: bs,f :: fs,p,h=>by simp [passL,passL_len bs fs _ (by simpa using h)]
theorem pass_len {bs:List Rg} {fs:List Pf} (h:bs.length≤fs.length+1):(passAll bs fs).length=bs.length:=by
  cases bs with
  | nil=>rfl
  | cons b bs=>simp [passAll,passL_len bs fs b (by simpa using h)]
theorem pass_bd {bs:List Rg} {fs:List Pf} {M:Int} (hb:∀ r∈bs,Bd M r) (hf:∀ f∈fs,Fd f.x) (hl:bs.length≤fs.length+1):∀ (i:Nat) (r:Rg),(passAll bs fs)[i]?=some r→Bd (M+10000 * (i:Int)) r
  | 0,r,h=>by rw [pass_zero] at h; exact (hb r (mem_of_get h)).mono (by simp)
  | i+1,r,h=>by
    have hlen:=pass_len hl
    have hi:=lt_of_get h
    obtain ⟨x,hx⟩:=get_lt (l:=passAll bs fs) (i:=i) (by omega)
    obtain ⟨f,hff⟩:=get_lt (l:=fs) (i:=i) (by omega)
    obtain ⟨b,hbb⟩:=get_lt (l:=bs) (i:=i+1) (by omega)
    rw [pass_get hx hff hbb] at h
    injection h with h
    subst h
    have h1:=pf_bd (pass_bd hb hf hl i x hx) (hf f (mem_of_get hff))
    have h2:=(hb b (mem_of_get hbb)).mono (N:=M+10000 * (i:Int)+10000) (by omega)
    exact (meet_bd h1 h2).mono (by push_cast; omega)
/-- What passOn knows in its loop. -/
structure Pass (bs:List Rg) (fs:List Pf) (M:List Rg) (i:Nat):Prop where
  eq:M=(passAll bs fs).take i++bs.drop i
  ok:∀ q r,q < i→(passAll bs fs)[q]?=some r→r.lo≤r.hi
theorem Pass.start (bs:List Rg) (fs:List Pf):Pass bs fs bs 0:=⟨by simp,fun q r h=>absurd h (by omega)⟩
theorem Pass.len {bs M:List Rg} {fs:List Pf} {i:Nat} (h:Pass bs fs M i) (hl:bs.length≤fs.length+1) (hi:i≤bs.length):M.length=bs.length:=by
  have:=pass_len hl
  rw [h.eq,List.length_append,List.length_take,List.length_drop]; omega
theorem Pass.cur {bs M:List Rg} {fs:List Pf} {i:Nat} (h:Pass bs fs M i) (hl:bs.length≤fs.length+1) {x:Rg} (hx:M[i]?=some x):bs[i]?=some x:=by
  have:=pass_len hl
  rw [h.eq] at hx
  rcases Nat.lt_or_ge i bs.length with hi | hi
  · rw [List.getElem?_append_right (by rw [List.length_take]; omega),List.length_take,Nat.min_eq_left (by omega),List.getElem?_drop] at hx
    simpa using hx
  · rw [List.getElem?_eq_none (by rw [List.length_append,List.length_take,List.length_drop]; omega)] at hx; cases hx
theorem Pass.prev {bs M:List Rg} {fs:List Pf} {i:Nat} (h:Pass bs fs M i) (hl:bs.length≤fs.length+1) (hi:i≤bs.length) {q:Nat} (hq:q < i) {x:Rg} (hx:M[q]?=some x):(passAll bs fs)[q]?=some x:=by
  have:=pass_len hl
  rw [h.eq,List.getElem?_append_left (by rw [List.length_take]; omega),List.getElem?_take,if_pos hq] at hx
  exact hx
theorem Pass.go {bs M:List Rg} {fs:List Pf} {i:Nat} (h:Pass bs fs M i) (hl:bs.length≤fs.length+1) (hi:i < bs.length) {y:Rg} (hy:(passAll bs fs)[i]?=some y) (ho:y.lo≤y.hi):Pass bs fs (M.set i y) (i+1):=by
  have hlen:=pass_len hl
  have hml:=h.len hl (by omega)
  refine ⟨?_,fun q r hq hr=>?_⟩
  · apply List.ext_getElem?
    intro q
    rcases Nat.lt_trichotomy q i with h1 | h1 | h1
    · rw [List.getElem?_set_ne (by omega),h.eq,List.getElem?_append_left (by rw [List.length_take]; omega),List.getElem?_append_left (by rw [List.length_take]; omega),List.getElem?_take,List.getElem?_take,if_pos h1,if_pos (by omega)]
    · subst h1
      rw [List.getElem?_set_self (by omega),List.getElem?_append_left (by rw [List.length_take]; omega),List.getElem?_take,if_pos (by omega),hy]
    · rw [List.getElem?_set_ne (by omega),h.eq,List.getElem?_append_right (by rw [List.length_take]; omega),List.getElem?_append_right (by rw [List.length_take]; omega),List.length_take,List.length_take,List.getElem?_drop,List.getElem?_drop]
      congr 1; omega
  · by_cases e:q=i
    · subst e; rw [hy] at hr; injection hr with hr; subst hr; exact ho
    · exact h.ok q r (by omega) hr
theorem Pass.same {bs M:List Rg} {fs:List Pf} {i:Nat} (h:Pass bs fs M i) {x:Rg} (hx:M[i]?=some x):M.set i x=M:=by
  apply List.ext_getElem?
  intro q
  by_cases e:i=q
  · subst e; rw [List.getElem?_set_self (lt_of_get hx),hx]
  · rw [List.getElem?_set_ne e]
theorem Pass.done {bs M:List Rg} {fs:List Pf} {i:Nat} (h:Pass bs fs M i) (hl:bs.length≤fs.length+1) (hi:bs.length≤i):passF bs fs=(M,true):=by
  have hlen:=pass_len hl
  have hM:M=passAll bs fs:=by rw [h.eq,List.drop_eq_nil_of_le hi,List.append_nil,List.take_of_length_le (by omega)]
  rw [passF,if_pos,hM]
  rw [List.all_eq_true]
  intro r hr
  obtain ⟨q,hq,he⟩:=List.getElem_of_mem hr
  exact decide_eq_true (h.ok q r (by omega) (by rw [List.getElem?_eq_getElem hq,he]))
theorem pass_fail {bs:List Rg} {fs:List Pf} {i:Nat} {y:Rg} (hy:(passAll bs fs)[i]?=some y) (ho:y.hi < y.lo):passF bs fs=([],false):=by
  rw [passF,if_neg]
  intro h
  rw [List.all_eq_true] at h
  have:=h y (mem_of_get hy)
  rw [decide_eq_true_eq] at this
  omega
theorem pf_call (f:Pf) (r:Rg) (w:World) (hf:Fd f.x) (hr:Bd 100000000000 r):CallV Tryz.prog (pfV f) [.agg (eRg r).toArray] w fun v w'=>v=.agg (eRg (pfF f r)).toArray∧Below w.heap.size w w':=by
  obtain ⟨a,b,c,d⟩:=hf
  obtain ⟨a',b',c',d'⟩:=hr
  obtain ⟨fb,fx⟩:=f
  dsimp only at a b c d
  cases fb with
  | true=>exact CallV.of (args':=[.agg (eLd fx).toArray,.agg (eRg r).toArray]) rfl (before_c fx.src fx.hr fx.lo fx.hi fx.kn fx.un r.lo r.hi (by omega) (by omega) w)
  | false=>exact CallV.of (args':=[.agg (eLd fx).toArray,.agg (eRg r).toArray]) rfl (after_c fx.src fx.hr fx.lo fx.hi fx.kn fx.un r.lo r.hi (by omega) (by omega) w)

set_option maxHeartbeats 1600000 in
theorem passOn_c (w0:World) (bs:List Rg) (A:Option Addr) (n c:Nat) (fs:List Pf) (A2:Option Addr) (nf cf:Nat) (hn:n=bs.length) (hnf:nf=fs.length) (hn0:0 < n) (hle:n≤nf+1) (hmax:n≤1000) (hmax2:nf≤1000) (hC:Cells w0 A (flat eRg bs)) (hC2:Cells w0 A2 (flat ePf fs)) (hbd:∀ r∈bs,Bd 1000000 r) (hf:∀ f∈fs,Fd f.x):Does Tryz.prog 153 [.slice A n c,.slice A2 nf cf] w0 fun v w=>∃ v1,v=.tuple #[v1,.bool (passF bs fs).2]∧Gives 2 23 none (passF bs fs).1.length (flat eRg (passF bs fs).1) w0 v1 w:=by
 have hlb:bs.length≤fs.length+1:=by omega
 refine calls_of (n:=49) Tryz.func153 rfl Tryz.ntmps153 rfl ?_
 have hI:=Inv.start w0
 refine wp_seq (rgn rfl (pu (.slice none 0 0) rfl (pu (.bool false) rfl (seq_nil (wp_seq (rgn rfl (pu (.slice A n c) rfl (seq_c (s_callNew hI 176 [.slice A n c] (by kernel_rfl) (CloneRanges_c _ bs A n c hn (by omega) (hC.inv0 hI)) ?_)))))))))
 intro g1 c2 cl3 w hI r4
 have r4:Row 2 g1 (n) c2 cl3 (flat eRg (bs)):=r4
 refine pu (slv g1 n c2) rfl (seq_nil (wp_seq (wp_seq (rgn rfl (pu (slv g1 n c2) rfl (pu (iv ((n:Nat):Int)) (by kernel_rfl) (pu (iv 0) rfl (seq_nil (wp_block ?_)))))))))
 obtain ⟨bk,rfl⟩:=r4.some_ (by omega)
 have hcp:=r4.cap; have hmx:=r4.capmax; unfold maxLen at hmx
 refine wp_loop (fun m ρ w=>∃ (i:Nat) (ccl:List Value) (M:List Rg),Agree ρ [(1,.slice A2 nf cf),(6,slv (some bk) n c2),(11,iv (n:Int)),(12,iv (i:Int))]∧Inv []  w0 w [(some bk,blk ccl 23)]∧(i≤n)∧(Pass bs fs M i)∧(Row 2 (some bk) n c2 ccl (flat eRg M))∧m=n - i) (m:=n - 0) ⟨0,cl3,bs,⟨rfl,rfl,rfl,rfl,trivial⟩,hI.pickL [0] (by decide) rfl,(by omega),(Pass.start bs fs),r4,rfl⟩ ?_
 rintro m ρ w ⟨i,ccl,M,hag,hI,hi,hP,hrr,hm⟩
 obtain ⟨ρ,rfl⟩:=hag.form; clear hag
 have hml:=hP.len hlb (by omega)
 refine wp_seq (rgn rfl (seq_c (s_lss rfl rfl ?_ ?_)))
 ·intro h1
  refine seq_nil (wp_seq (wp_condT rfl (wp_skip (wp_seq (wp_block ?_)))))
  refine wp_seq (rgn rfl (pu (iv (i:Int)) rfl (pu (iv (i:Int)) rfl (seq_nil (wp_seq (wp_seq (rgn rfl (pu (iv (i:Int)) rfl (seq_c (s_gtr rfl rfl ?_ ?_))))))))))
  ·intro h2
   refine seq_nil (wp_condT rfl ?_)
   obtain ⟨x5,hx6⟩:=get_lt (l:=M) (i:=i - 1) (by omega)
   have he7:=hrr.atS eRg_len (by decide) hx6
   obtain ⟨x8,hx9⟩:=get_lt (l:=M) (i:=i) (by omega)
   have he10:=hrr.atS eRg_len (by decide) hx9
   replace hI:=hI.pickL [0] (by decide) rfl
   refine wp_drawn2 hI [] (by decide) rfl rfl rfl ?_
   intro hsub
   refine alp 0 (slv (some bk) n c2) hsub rfl (by kernel_rfl) (fun _=>rfl) ?_
   refine alp 1 (iv (i:Int)) hsub rfl (by kernel_rfl) (fun _=>rfl) ?_
   refine alp 2 (.slice A2 nf cf) hsub rfl (by kernel_rfl) (fun _=>rfl) ?_
   refine alp 3 (iv (i:Int)) hsub rfl (by kernel_rfl) (fun _=>rfl) ?_
   refine al_light 4 (iv ((i:Int) - 1)) hsub rfl (by kernel_rfl) (fun w hI=>s_sub rfl rfl (by omega) ⟨rfl,Below.refl _ _⟩) ?_
   obtain ⟨x11,hx12⟩:=get_lt (l:=fs) (i:=i - 1) (by omega)
   obtain ⟨b13,o14,hA15,hb16,he17⟩:=hC2.at_ ePf_len (by decide) hx12
   refine al_light 5 (.pointer (some ⟨b13,o14+(i - 1) * 1,none⟩)) hsub rfl (by kernel_rfl) (fun w hI=>s_indexA (i - 1) Tryz.underlying181 Tryz.sizeOf188 rfl hA15 rfl (by omega) (by omega) ⟨rfl,Below.refl _ _⟩) ?_
   refine al_light 6 (pfV x11) hsub rfl (by kernel_rfl) (fun w hI=>s_loadB1 hI (pfV x11) Tryz.isAgg188 rfl hb16 (by simp) (he17 0 _ rfl) ⟨rfl,Below.refl _ _⟩) ?_
   refine alp 7 (slv (some bk) n c2) hsub rfl (by kernel_rfl) (fun _=>rfl) ?_
   refine alp 8 (iv (i:Int)) hsub rfl (by kernel_rfl) (fun _=>rfl) ?_
   refine al_light 9 (iv ((i:Int) - 1)) hsub rfl (by kernel_rfl) (fun w hI=>s_sub rfl rfl (by omega) ⟨rfl,Below.refl _ _⟩) ?_
   refine al_light 10 (.pointer (some ⟨bk,(i - 1) * 2,none⟩)) hsub rfl (by kernel_rfl) (fun w hI=>s_indexR (i - 1) Tryz.underlying130 Tryz.sizeOf23 rfl rfl (by omega) (by omega) ⟨rfl,Below.refl _ _⟩) ?_
   refine alp 13 (slv (some bk) n c2) hsub rfl (by kernel_rfl) (fun _=>rfl) ?_
   refine alp 14 (iv (i:Int)) hsub rfl (by kernel_rfl) (fun _=>rfl) ?_
   refine al_light 15 (.pointer (some ⟨bk,i * 2,none⟩)) hsub rfl (by kernel_rfl) (fun w hI=>s_indexR i Tryz.underlying130 Tryz.sizeOf23 rfl rfl rfl (by omega) ⟨rfl,Below.refl _ _⟩) ?_
   refine any_heavy [11,16] (by kernel_rfl) rfl (each2 ?_ ?_)
   ·intro w hI
    refine ol_c rfl (s_loadRK hI 0 [iv x5.lo,iv x5.hi] Tryz.isAgg23 Tryz.sizeOf23 rfl rfl rfl he7 ?_)
    refine ⟨_,hI,subk (fun _ h=>h.pickL [] (by decide) rfl) ?_⟩
    intro hsub
    refine al_light 12 (.agg #[iv (pfF x11 x5).lo,iv (pfF x11 x5).hi]) hsub rfl (by kernel_rfl) (fun w hI=>s_callV [.agg #[iv x5.lo,iv x5.hi]] rfl (by kernel_rfl) (pf_call x11 x5 w (hf x11 (mem_of_get hx12)) ((pass_bd hbd hf hlb _ _ (hP.prev hlb (by omega) (by omega) hx6)).mono (by omega))) (fun v' w' h=>h)) ?_
    refine any_heavy [16] (by kernel_rfl) rfl (each1 ?_)
    intro w hI
    refine ol_c rfl (s_loadRK hI 0 [iv x8.lo,iv x8.hi] Tryz.isAgg23 Tryz.sizeOf23 rfl rfl rfl he10 ?_)
    refine ⟨_,hI,subk (fun _ h=>h.pickL [] (by decide) rfl) ?_⟩
    intro hsub
    refine al_light 17 (.agg #[iv (if x8.lo > (pfF x11 x5).lo then x8.lo else (pfF x11 x5).lo),iv (if x8.hi < (pfF x11 x5).hi then x8.hi else (pfF x11 x5).hi)]) hsub rfl (by kernel_rfl) (fun w hI=>s_call 103 [.agg #[iv (pfF x11 x5).lo,iv (pfF x11 x5).hi],.agg #[iv x8.lo,iv x8.hi]] (by kernel_rfl) (meet_c (pfF x11 x5).lo (pfF x11 x5).hi x8.lo x8.hi _) (fun v' w' h=>h)) ?_
    refine al_light 18 (.pointer (some ⟨bk,i * 2,none⟩)) hsub rfl (by kernel_rfl) (fun w hI=>s_indexR i Tryz.underlying130 Tryz.sizeOf23 rfl rfl rfl (by omega) ⟨rfl,Below.refl _ _⟩) ?_
    refine any_heavy [19] (by kernel_rfl) rfl (each1 ?_)
    intro w hI
    refine ol_c rfl (s_store hI 0 2 [iv (if x8.lo > (pfF x11 x5).lo then x8.lo else (pfF x11 x5).lo),iv (if x8.hi < (pfF x11 x5).hi then x8.hi else (pfF x11 x5).hi)] Tryz.sizeOf23 rfl rfl rfl rfl rfl (hrr.room (by omega)) ?_)
    intro w hI
    refine ⟨_,hI,subk (fun _ h=>h.pickL [] (by decide) rfl) ?_⟩
    intro hsub
    have r18:=hrr.put eRg_len (by decide) i (⟨if x8.lo > (pfF x11 x5).lo then x8.lo else (pfF x11 x5).lo,if x8.hi < (pfF x11 x5).hi then x8.hi else (pfF x11 x5).hi⟩:Rg) (by omega)
    refine any_end rfl (fun w hI=>?_)
    have hnew:(passAll bs fs)[i]?=some (meetF (pfF x11 x5) x8):=by have h8:=pass_get (hP.prev hlb (by omega) (by omega) hx6) hx12 (show bs[i - 1+1]?=some x8 by rw [Nat.sub_add_cancel (by omega)]; exact hP.cur hlb hx9); rwa [Nat.sub_add_cancel (by omega)] at h8
    refine wp_seq (wp_drawn2 hI [0] (by decide) rfl rfl rfl ?_)
    intro hsub
    refine alp 0 (slv (some bk) n c2) hsub rfl (by kernel_rfl) (fun _=>rfl) ?_
    refine alp 1 (iv (i:Int)) hsub rfl (by kernel_rfl) (fun _=>rfl) ?_
    obtain ⟨x20,hx21⟩:=get_lt (l:=(M).set i (⟨if x8.lo > (pfF x11 x5).lo then x8.lo else (pfF x11 x5).lo,if x8.hi < (pfF x11 x5).hi then x8.hi else (pfF x11 x5).hi⟩:Rg)) (i:=i) (by first | omega | (simp only [List.length_set]; omega))
    have he22:=r18.atS eRg_len (by decide) hx21
    refine al_light 2 (.pointer (some ⟨bk,i * 2,none⟩)) hsub rfl (by kernel_rfl) (fun w hI=>s_indexR i Tryz.underlying130 Tryz.sizeOf23 rfl rfl rfl (by omega) ⟨rfl,Below.refl _ _⟩) ?_
    refine alp 3 (.pointer (some ⟨bk,i * 2,none⟩)) hsub rfl (by kernel_rfl) (fun _=>rfl) ?_
    refine al_light 4 (iv x20.lo) hsub rfl (by kernel_rfl) (fun w hI=>s_loadR1 hI 0 (iv x20.lo) Tryz.isAgg3 rfl rfl (he22 0 _ rfl) ⟨rfl,Below.refl _ _⟩) ?_
    refine alp 5 (slv (some bk) n c2) hsub rfl (by kernel_rfl) (fun _=>rfl) ?_
    refine alp 6 (iv (i:Int)) hsub rfl (by kernel_rfl) (fun _=>rfl) ?_
    refine al_light 7 (.pointer (some ⟨bk,i * 2,none⟩)) hsub rfl (by kernel_rfl) (fun w hI=>s_indexR i Tryz.underlying130 Tryz.sizeOf23 rfl rfl rfl (by omega) ⟨rfl,Below.refl _ _⟩) ?_
    refine alp 8 (.pointer (some ⟨bk,i * 2+1,none⟩)) hsub rfl (by kernel_rfl) (fun _=>rfl) ?_
    refine al_light 9 (iv x20.hi) hsub rfl (by kernel_rfl) (fun w hI=>s_loadR1 hI 0 (iv x20.hi) Tryz.isAgg3 rfl rfl (he22 1 _ rfl) ⟨rfl,Below.refl _ _⟩) ?_
    by_cases h3:x20.hi < x20.lo
    ·refine al_light 10 (.bool true) hsub rfl (by kernel_rfl) (fun w hI=>s_gtr rfl rfl (fun _=>⟨rfl,Below.refl _ _⟩) (fun h=>absurd h3 h)) ?_
     refine any_end rfl (fun w hI=>?_)
     refine wp_condT rfl (wp_seq (rgn rfl (pu (.slice none 0 0) rfl (pu (.bool false) rfl (seq_nil (wp_ret ?_))))))
     have hI:=hI.nilRow 23
     have e:passF bs fs=([],false):=pass_fail hnew (by have e:=Option.some.inj ((List.getElem?_set_self (by omega)).symm.trans hx21); subst e; assumption)
     exact ⟨.tuple #[.slice none 0 0,.bool false],Ret.r2 rfl rfl rfl,(by rw [e]; exact ⟨.slice none 0 0,rfl,none,0,[],rfl,hI.pickL [0] (by decide) rfl,Row.nil_ 2⟩)⟩
    ·refine al_light 10 (.bool false) hsub rfl (by kernel_rfl) (fun w hI=>s_gtr rfl rfl (fun h=>absurd h h3) (fun _=>⟨rfl,Below.refl _ _⟩)) ?_
     refine any_end rfl (fun w hI=>?_)
     refine wp_condF rfl (wp_skip (rgn rfl (seq_c (s_add rfl rfl (by omega) ?_))))
     refine pu (iv ((i:Int)+1)) rfl (seq_nil ?_)
     exact ⟨rfl,_,(by omega),⟨i+1,putCells ccl (i * 2) (eRg (⟨if x8.lo > (pfF x11 x5).lo then x8.lo else (pfF x11 x5).lo,if x8.hi < (pfF x11 x5).hi then x8.hi else (pfF x11 x5).hi⟩:Rg)),(M).set i (⟨if x8.lo > (pfF x11 x5).lo then x8.lo else (pfF x11 x5).lo,if x8.hi < (pfF x11 x5).hi then x8.hi else (pfF x11 x5).hi⟩:Rg),⟨rfl,rfl,rfl,rfl,trivial⟩,hI.pickL [0] (by decide) rfl,(by omega),(hP.go hlb (by omega) hnew (by have e:=Option.some.inj ((List.getElem?_set_self (by omega)).symm.trans hx21); subst e; omega)),r18,rfl⟩⟩
   ·intro w hI
    refine ol_c rfl (s_loadRK hI 0 [iv x8.lo,iv x8.hi] Tryz.isAgg23 Tryz.sizeOf23 rfl rfl rfl he10 ?_)
    refine ⟨_,hI,subk (fun _ h=>h.pickL [] (by decide) rfl) ?_⟩
    intro hsub
    refine any_heavy [11] (by kernel_rfl) rfl (each1 ?_)
    intro w hI
    refine ol_c rfl (s_loadRK hI 0 [iv x5.lo,iv x5.hi] Tryz.isAgg23 Tryz.sizeOf23 rfl rfl rfl he7 ?_)
    refine ⟨_,hI,subk (fun _ h=>h.pickL [] (by decide) rfl) ?_⟩
    intro hsub
    refine al_light 12 (.agg #[iv (pfF x11 x5).lo,iv (pfF x11 x5).hi]) hsub rfl (by kernel_rfl) (fun w hI=>s_callV [.agg #[iv x5.lo,iv x5.hi]] rfl (by kernel_rfl) (pf_call x11 x5 w (hf x11 (mem_of_get hx12)) ((pass_bd hbd hf hlb _ _ (hP.prev hlb (by omega) (by omega) hx6)).mono (by omega))) (fun v' w' h=>h)) ?_
    refine al_light 17 (.agg #[iv (if x8.lo > (pfF x11 x5).lo then x8.lo else (pfF x11 x5).lo),iv (if x8.hi < (pfF x11 x5).hi then x8.hi else (pfF x11 x5).hi)]) hsub rfl (by kernel_rfl) (fun w hI=>s_call 103 [.agg #[iv (pfF x11 x5).lo,iv (pfF x11 x5).hi],.agg #[iv x8.lo,iv x8.hi]] (by kernel_rfl) (meet_c (pfF x11 x5).lo (pfF x11 x5).hi x8.lo x8.hi _) (fun v' w' h=>h)) ?_
    refine al_light 18 (.pointer (some ⟨bk,i * 2,none⟩)) hsub rfl (by kernel_rfl) (fun w hI=>s_indexR i Tryz.underlying130 Tryz.sizeOf23 rfl rfl rfl (by omega) ⟨rfl,Below.refl _ _⟩) ?_
    refine any_heavy [19] (by kernel_rfl) rfl (each1 ?_)
    intro w hI
    refine ol_c rfl (s_store hI 0 2 [iv (if x8.lo > (pfF x11 x5).lo then x8.lo else (pfF x11 x5).lo),iv (if x8.hi < (pfF x11 x5).hi then x8.hi else (pfF x11 x5).hi)] Tryz.sizeOf23 rfl rfl rfl rfl rfl (hrr.room (by omega)) ?_)
    intro w hI
    refine ⟨_,hI,subk (fun _ h=>h.pickL [] (by decide) rfl) ?_⟩
    intro hsub
    have r23:=hrr.put eRg_len (by decide) i (⟨if x8.lo > (pfF x11 x5).lo then x8.lo else (pfF x11 x5).lo,if x8.hi < (pfF x11 x5).hi then x8.hi else (pfF x11 x5).hi⟩:Rg) (by omega)
    refine any_end rfl (fun w hI=>?_)
    have hnew:(passAll bs fs)[i]?=some (meetF (pfF x11 x5) x8):=by have h8:=pass_get (hP.prev hlb (by omega) (by omega) hx6) hx12 (show bs[i - 1+1]?=some x8 by rw [Nat.sub_add_cancel (by omega)]; exact hP.cur hlb hx9); rwa [Nat.sub_add_cancel (by omega)] at h8
    refine wp_seq (wp_drawn2 hI [0] (by decide) rfl rfl rfl ?_)
    intro hsub
    refine alp 0 (slv (some bk) n c2) hsub rfl (by kernel_rfl) (fun _=>rfl) ?_
    refine alp 1 (iv (i:Int)) hsub rfl (by kernel_rfl) (fun _=>rfl) ?_
    obtain ⟨x25,hx26⟩:=get_lt (l:=(M).set i (⟨if x8.lo > (pfF x11 x5).lo then x8.lo else (pfF x11 x5).lo,if x8.hi < (pfF x11 x5).hi then x8.hi else (pfF x11 x5).hi⟩:Rg)) (i:=i) (by first | omega | (simp only [List.length_set]; omega))
    have he27:=r23.atS eRg_len (by decide) hx26
    refine al_light 2 (.pointer (some ⟨bk,i * 2,none⟩)) hsub rfl (by kernel_rfl) (fun w hI=>s_indexR i Tryz.underlying130 Tryz.sizeOf23 rfl rfl rfl (by omega) ⟨rfl,Below.refl _ _⟩) ?_
    refine alp 3 (.pointer (some ⟨bk,i * 2,none⟩)) hsub rfl (by kernel_rfl) (fun _=>rfl) ?_
    refine al_light 4 (iv x25.lo) hsub rfl (by kernel_rfl) (fun w hI=>s_loadR1 hI 0 (iv x25.lo) Tryz.isAgg3 rfl rfl (he27 0 _ rfl) ⟨rfl,Below.refl _ _⟩) ?_
    refine alp 5 (slv (some bk) n c2) hsub rfl (by kernel_rfl) (fun _=>rfl) ?_
    refine alp 6 (iv (i:Int)) hsub rfl (by kernel_rfl) (fun _=>rfl) ?_
    refine al_light 7 (.pointer (some ⟨bk,i * 2,none⟩)) hsub rfl (by kernel_rfl) (fun w hI=>s_indexR i Tryz.underlying130 Tryz.sizeOf23 rfl rfl rfl (by omega) ⟨rfl,Below.refl _ _⟩) ?_
    refine alp 8 (.pointer (some ⟨bk,i * 2+1,none⟩)) hsub rfl (by kernel_rfl) (fun _=>rfl) ?_
    refine al_light 9 (iv x25.hi) hsub rfl (by kernel_rfl) (fun w hI=>s_loadR1 hI 0 (iv x25.hi) Tryz.isAgg3 rfl rfl (he27 1 _ rfl) ⟨rfl,Below.refl _ _⟩) ?_
    by_cases h4:x25.hi < x25.lo
    ·refine al_light 10 (.bool true) hsub rfl (by kernel_rfl) (fun w hI=>s_gtr rfl rfl (fun _=>⟨rfl,Below.refl _ _⟩) (fun h=>absurd h4 h)) ?_
     refine any_end rfl (fun w hI=>?_)
     refine wp_condT rfl (wp_seq (rgn rfl (pu (.slice none 0 0) rfl (pu (.bool false) rfl (seq_nil (wp_ret ?_))))))
     have hI:=hI.nilRow 23
     have e:passF bs fs=([],false):=pass_fail hnew (by have e:=Option.some.inj ((List.getElem?_set_self (by omega)).symm.trans hx26); subst e; assumption)
     exact ⟨.tuple #[.slice none 0 0,.bool false],Ret.r2 rfl rfl rfl,(by rw [e]; exact ⟨.slice none 0 0,rfl,none,0,[],rfl,hI.pickL [0] (by decide) rfl,Row.nil_ 2⟩)⟩
    ·refine al_light 10 (.bool false) hsub rfl (by kernel_rfl) (fun w hI=>s_gtr rfl rfl (fun h=>absurd h h4) (fun _=>⟨rfl,Below.refl _ _⟩)) ?_
     refine any_end rfl (fun w hI=>?_)
     refine wp_condF rfl (wp_skip (rgn rfl (seq_c (s_add rfl rfl (by omega) ?_))))
     refine pu (iv ((i:Int)+1)) rfl (seq_nil ?_)
     exact ⟨rfl,_,(by omega),⟨i+1,putCells ccl (i * 2) (eRg (⟨if x8.lo > (pfF x11 x5).lo then x8.lo else (pfF x11 x5).lo,if x8.hi < (pfF x11 x5).hi then x8.hi else (pfF x11 x5).hi⟩:Rg)),(M).set i (⟨if x8.lo > (pfF x11 x5).lo then x8.lo else (pfF x11 x5).lo,if x8.hi < (pfF x11 x5).hi then x8.hi else (pfF x11 x5).hi⟩:Rg),⟨rfl,rfl,rfl,rfl,trivial⟩,hI.pickL [0] (by decide) rfl,(by omega),(hP.go hlb (by omega) hnew (by have e:=Option.some.inj ((List.getElem?_set_self (by omega)).symm.trans hx26); subst e; omega)),r23,rfl⟩⟩
  ·intro h5
   refine seq_nil (wp_condF rfl (wp_skip (wp_seq (wp_drawn2 hI [0] (by decide) rfl rfl rfl ?_))))
   intro hsub
   refine alp 0 (slv (some bk) n c2) hsub rfl (by kernel_rfl) (fun _=>rfl) ?_
   refine alp 1 (iv (i:Int)) hsub rfl (by kernel_rfl) (fun _=>rfl) ?_
   obtain ⟨x28,hx29⟩:=get_lt (l:=M) (i:=i) (by omega)
   have he30:=hrr.atS eRg_len (by decide) hx29
   refine al_light 2 (.pointer (some ⟨bk,i * 2,none⟩)) hsub rfl (by kernel_rfl) (fun w hI=>s_indexR i Tryz.underlying130 Tryz.sizeOf23 rfl rfl rfl (by omega) ⟨rfl,Below.refl _ _⟩) ?_
   refine alp 3 (.pointer (some ⟨bk,i * 2,none⟩)) hsub rfl (by kernel_rfl) (fun _=>rfl) ?_
   refine al_light 4 (iv x28.lo) hsub rfl (by kernel_rfl) (fun w hI=>s_loadR1 hI 0 (iv x28.lo) Tryz.isAgg3 rfl rfl (he30 0 _ rfl) ⟨rfl,Below.refl _ _⟩) ?_
   refine alp 5 (slv (some bk) n c2) hsub rfl (by kernel_rfl) (fun _=>rfl) ?_
   refine alp 6 (iv (i:Int)) hsub rfl (by kernel_rfl) (fun _=>rfl) ?_
   refine al_light 7 (.pointer (some ⟨bk,i * 2,none⟩)) hsub rfl (by kernel_rfl) (fun w hI=>s_indexR i Tryz.underlying130 Tryz.sizeOf23 rfl rfl rfl (by omega) ⟨rfl,Below.refl _ _⟩) ?_
   refine alp 8 (.pointer (some ⟨bk,i * 2+1,none⟩)) hsub rfl (by kernel_rfl) (fun _=>rfl) ?_
   refine al_light 9 (iv x28.hi) hsub rfl (by kernel_rfl) (fun w hI=>s_loadR1 hI 0 (iv x28.hi) Tryz.isAgg3 rfl rfl (he30 1 _ rfl) ⟨rfl,Below.refl _ _⟩) ?_
   by_cases h6:x28.hi < x28.lo
   ·refine al_light 10 (.bool true) hsub rfl (by kernel_rfl) (fun w hI=>s_gtr rfl rfl (fun _=>⟨rfl,Below.refl _ _⟩) (fun h=>absurd h6 h)) ?_
    refine any_end rfl (fun w hI=>?_)
    refine wp_condT rfl (wp_seq (rgn rfl (pu (.slice none 0 0) rfl (pu (.bool false) rfl (seq_nil (wp_ret ?_))))))
    have hI:=hI.nilRow 23
    have e:passF bs fs=([],false):=pass_fail (pass_zero.trans (by have e:i=0:=(by omega); subst e; exact hP.cur hlb hx29)) (by assumption)
    exact ⟨.tuple #[.slice none 0 0,.bool false],Ret.r2 rfl rfl rfl,(by rw [e]; exact ⟨.slice none 0 0,rfl,none,0,[],rfl,hI.pickL [0] (by decide) rfl,Row.nil_ 2⟩)⟩
   ·refine al_light 10 (.bool false) hsub rfl (by kernel_rfl) (fun w hI=>s_gtr rfl rfl (fun h=>absurd h h6) (fun _=>⟨rfl,Below.refl _ _⟩)) ?_
    refine any_end rfl (fun w hI=>?_)
    refine wp_condF rfl (wp_skip (rgn rfl (seq_c (s_add rfl rfl (by omega) ?_))))
    refine pu (iv ((i:Int)+1)) rfl (seq_nil ?_)
    exact ⟨rfl,_,(by omega),⟨i+1,ccl,M,⟨rfl,rfl,rfl,rfl,trivial⟩,hI.pickL [0] (by decide) rfl,(by omega),(by have e:i=0:=(by omega); subst e; have h8:=hP.go hlb (by omega) (pass_zero.trans (hP.cur hlb hx29)) (by omega); rwa [hP.same hx29] at h8),hrr,rfl⟩⟩
 ·intro h7
  refine seq_nil (wp_seq (wp_condF rfl (wp_exit ?_)))
  refine wp_seq (rgn rfl (pu (slv (some bk) n c2) rfl (pu (slv (some bk) n c2) rfl (pu (.bool true) rfl (seq_nil (wp_ret ?_))))))
  have e:passF bs fs=(M,true):=hP.done hlb (by omega)
  exact ⟨.tuple #[slv (some bk) n c2,.bool true],Ret.r2 rfl rfl rfl,(by rw [e]; exact ⟨slv (some bk) n c2,rfl,some bk,c2,ccl,(by rw [show n=M.length from hrr.n_eq eRg_len (by decide)]),hI.pickL [0] (by decide) rfl,hrr.to rfl (hrr.n_eq eRg_len (by decide))⟩)⟩

end Go.K
