import Derived.Test.YtinkdlmimiefaaaGreatProg
import Derived.Test.YtinkdlmimiefaaaGreatPM10
namespace Go.K
open Go.Proofs.Tryz
open Go.Proofs Go.RowKit
set_option linter.unusedVariables false
set_option linter.unusedSimpArgs false
set_option maxRecDepth 100000
attribute [local irreducible] Seq cw cx fl opX

section made
theorem made_flatM {α:Type} {enc:α→List Value} {k:Nat} (hk:∀ x,(enc x).length=k) (hk0:0 < k) (z0:α) (n:Nat):(madeCells (enc z0).toArray (n * k)).toList=al enc (List.replicate n z0):=by
  apply List.ext_getElem?
  intro q
  rcases Nat.lt_or_ge q (n * k) with hq | hq
  · have hd:q / k < n:=Nat.div_lt_of_lt_mul (by rw [Nat.mul_comm]; exact hq)
    have hm:q % k < k:=Nat.mod_lt _ hk0
    have e:q=q / k * k+q % k:=by have:=Nat.div_add_mod q k; rw [Nat.mul_comm] at this; omega
    have h1:=flat_get hk (List.replicate n z0) (q / k) (q % k) z0 (by rw [List.getElem?_replicate,if_pos hd]) hm
    rw [← e] at h1
    rw [h1]
    have h2:(enc z0)[q % k]?=some ((enc z0)[q % k]'(by rw [hk]; exact hm)):=List.getElem?_eq_getElem _
    rw [h2]
    have h3:q % k < (enc z0).length:=by rw [hk]; exact hm
    simp [madeCells,hk,hq,hm,h3]
  rw [List.getElem?_eq_none (by simp [madeCells]; exact hq),List.getElem?_eq_none (by rw [dt hk,List.length_replicate]; exact hq)]
variable {P:Program} {ρ:Env} {B:List Nat} {w w0:World} {L:List (Option Nat × Obj)} {R:Value→World→Prop} {d:Option Nat} {ty:TypeId} {pos:String} {af:Array Edge} {gd:Option (Nat × Bool)}
theorem s_makeRowM (hI:Inv B w0 w L) {T E:TypeId} {z:Value} {k bytes:Nat} {α:Type} {enc:α→List Value} (hk:∀ x,(enc x).length=k) (hk0:0 < k) (z0:α) (ht:P.underlying T=some (.slice E)) (hinfo:(P.info? E).map (fun i=>(i.zero,i.size,i.bytes))=some (some z,k,bytes)) (hz:z.cells=(enc z0).toArray)
    {x y:Operand} (n:Nat) (hx:ev ρ x=.int .i64 (n:Int)) (hy:ev ρ y=.int .i64 (n:Int)) (hn:n≤1000000) (hb:bytes≤1000)
    (kk:∀ b cl w',Inv B w0 w' ((some b,blk cl E) :: L)→Row k (some b) n n cl (al enc (List.replicate n z0))→R (slv (some b) n n) w'):cw P ⟨d,.makeSlice T x y,ty,pos,af,gd⟩ ρ w R:=by
  cases hq:P.info? E with
  | none=>rw [hq] at hinfo; cases hinfo
  | some i =>
    rw [hq] at hinfo
    simp only [Option.map_some,Option.some.injEq,Prod.mk.injEq] at hinfo
    obtain ⟨h1,h2,h3⟩:=hinfo
    have hbb:bytes * n≤1000 * 1000000:=Nat.mul_le_mul hb hn
    have hr:=run_make (P:=P) w T E i z ht hq h1 .i64 .i64 (n:Int) (n:Int) (by omega) (by omega) (by
      have:((bytes * n:Nat):Int)≤281474976710656:=by omega
      rw [h3]; rwa [Int.natCast_mul] at this) (by omega)
    rw [Int.toNat_natCast,h2,hz] at hr
    have hm:=made_flatM hk hk0 z0 n
    have h:(execOp (ev ρ) ⟨d,.makeSlice T x y,ty,pos,af,gd⟩).run P w=.ok (.value (slv (some w.heap.size) n n)) (w.alloc (blk (al enc (List.replicate n z0)) E)):=by
      have e:execOp (ev ρ) ⟨d,.makeSlice T x y,ty,pos,af,gd⟩=(do pure (.value (← Instr.makeSlice T (ev ρ x) (ev ρ y)))):=rfl
      rw [e,hx,hy,Sem.run_bind,hr,← hm]
      rfl
    exact fu hI _ E (fun b=>slv (some b) n n) h fun b w' hI'=>kk b _ w' hI' ⟨by rw [dt hk,List.length_replicate],Nat.le_refl _,by unfold maxLen; omega,by rw [dt hk,List.length_replicate],List.take_of_length_le (by rw [dt hk,List.length_replicate]; exact Nat.le_refl _),fun h=>by cases h⟩
end made

def er (r s:Rg):Rg:=⟨if s.lo > r.lo then s.lo else r.lo,if s.hi < r.hi then s.hi else r.hi⟩
def pfF (f:Pf) (r:Rg):Rg:=cond f.b ⟨r.lo+f.x.lo,r.hi+f.x.hi⟩ ⟨r.lo - f.x.hi,r.hi - f.x.lo⟩
def gi:Rg→List Rg→List Pf→List Rg
  | p,b :: bs,f :: fs=>er (pfF f p) b :: gi (er (pfF f p) b) bs fs
  | _,_,_=>[]
def cr:List Rg→List Pf→List Rg
  | [],_=>[]
  | b :: bs,fs=>b :: gi b bs fs
def dd (bs:List Rg) (fs:List Pf):List Rg × Bool:=if (cr bs fs).all (fun r=>decide (r.lo≤r.hi)) then (cr bs fs,true) else ([],false)
structure Bd (M:Int) (r:Rg):Prop where
  a:-M≤r.lo
  b:r.lo≤M
  c:-M≤r.hi
  d:r.hi≤M
structure Fd (x:Ld):Prop where
  a:0≤x.lo
  b:x.lo≤10000
  c:0≤x.hi
  d:x.hi≤10000
theorem Bd.mono {M N:Int} {r:Rg} (h:Bd M r) (hm:M≤N):Bd N r:=by obtain ⟨a,b,c,d⟩:=h; exact ⟨by omega,by omega,by omega,by omega⟩
theorem meet_bd {M:Int} {r s:Rg} (h:Bd M r) (k:Bd M s):Bd M (er r s):=by
  obtain ⟨a,b,c,d⟩:=h
  obtain ⟨a',b',c',d'⟩:=k
  unfold er
  constructor <;> (dsimp only; split) <;> assumption
theorem pf_bd {M:Int} {f:Pf} {r:Rg} (h:Bd M r) (k:Fd f.x):Bd (M+10000) (pfF f r):=by
  obtain ⟨a,b,c,d⟩:=h
  obtain ⟨a',b',c',d'⟩:=k
  obtain ⟨fb,fx⟩:=f
  cases fb <;> constructor <;> simp only [pfF,cond_true,cond_false] at * <;> omega
theorem passL_get:∀ (bs:List Rg) (fs:List Pf) (p:Rg) (i:Nat) (x:Rg) (f:Pf) (b:Rg),(p :: gi p bs fs)[i]?=some x→fs[i]?=some f→bs[i]?=some b→(gi p bs fs)[i]?=some (er (pfF f x) b)
  | [],_,_,i,_,_,_,_,_,hb=>by simp at hb
  | b0 :: bs,[],_,i,_,_,_,_,hf,_=>by simp at hf
  | b0 :: bs,f0 :: fs,p,0,x,f,b,hx,hf,hb=>by
    simp only [List.getElem?_cons_zero,Option.some.injEq] at hx hf hb
    subst hx; subst hf; subst hb; rfl
  | b0 :: bs,f0 :: fs,p,i+1,x,f,b,hx,hf,hb=>by
    simp only [gi,List.getElem?_cons_succ] at hx hf hb ⊢
    exact passL_get bs fs _ i x f b hx hf hb
theorem pass_get {bs:List Rg} {fs:List Pf} {i:Nat} {x:Rg} {f:Pf} {b:Rg} (hx:(cr bs fs)[i]?=some x) (hf:fs[i]?=some f) (hb:bs[i+1]?=some b):(cr bs fs)[i+1]?=some (er (pfF f x) b):=by
  cases bs with
  | nil=>simp at hb
  | cons b0 bs =>
    simp only [cr,List.getElem?_cons_succ] at hx hb ⊢
    exact passL_get bs fs b0 i x f b hx hf hb
theorem pass_zero {bs:List Rg} {fs:List Pf}:(cr bs fs)[0]?=bs[0]?:=by cases bs <;> rfl
theorem passL_len:∀ (bs:List Rg) (fs:List Pf) (p:Rg),bs.length≤fs.length→(gi p bs fs).length=bs.length
  | [],_,_,_=>by simp [gi]
  | b :: bs,[],_,h=>by simp at h
  | b :: bs,f :: fs,p,h=>by simp [gi,passL_len bs fs _ (by simpa using h)]
theorem pass_len {bs:List Rg} {fs:List Pf} (h:bs.length≤fs.length+1):(cr bs fs).length=bs.length:=by
  cases bs with
  | nil=>rfl
  | cons b bs=>simp [cr,passL_len bs fs b (by simpa using h)]
theorem pass_bd {bs:List Rg} {fs:List Pf} {M:Int} (hb:∀ r∈bs,Bd M r) (hf:∀ f∈fs,Fd f.x) (hl:bs.length≤fs.length+1):∀ (i:Nat) (r:Rg),(cr bs fs)[i]?=some r→Bd (M+10000 * (i:Int)) r
  | 0,r,h=>by rw [pass_zero] at h; exact (hb r (bz h)).mono (by simp)
  | i+1,r,h=>by
    have hlen:=pass_len hl
    have hi:=bu h
    obtain ⟨x,hx⟩:=bq (l:=cr bs fs) (i:=i) (by omega)
    obtain ⟨f,hff⟩:=bq (l:=fs) (i:=i) (by omega)
    obtain ⟨b,hbb⟩:=bq (l:=bs) (i:=i+1) (by omega)
    rw [pass_get hx hff hbb] at h
    injection h with h
    subst h
    have h1:=pf_bd (pass_bd hb hf hl i x hx) (hf f (bz hff))
    have h2:=(hb b (bz hbb)).mono (N:=M+10000 * (i:Int)+10000) (by omega)
    exact (meet_bd h1 h2).mono (by push_cast; omega)
structure Pass (bs:List Rg) (fs:List Pf) (M:List Rg) (i:Nat):Prop where
  eq:M=(cr bs fs).take i++bs.drop i
  ok:∀ q r,q < i→(cr bs fs)[q]?=some r→r.lo≤r.hi
theorem Pass.start (bs:List Rg) (fs:List Pf):Pass bs fs bs 0:=⟨by simp,fun q r h=>absurd h (by omega)⟩
theorem Pass.len {bs M:List Rg} {fs:List Pf} {i:Nat} (h:Pass bs fs M i) (hl:bs.length≤fs.length+1) (hi:i≤bs.length):M.length=bs.length:=by
  have:=pass_len hl
  rw [h.eq,List.length_append,List.length_take,List.length_drop]; omega
theorem Pass.cur {bs M:List Rg} {fs:List Pf} {i:Nat} (h:Pass bs fs M i) (hl:bs.length≤fs.length+1) {x:Rg} (hx:M[i]?=some x):bs[i]?=some x:=by
  have:=pass_len hl
  rw [h.eq] at hx
  rcases Nat.lt_or_ge i bs.length with hi | hi
  · rw [List.getElem?_append_right (by rw [List.length_take]; omega),List.length_take,Nat.min_eq_left (by omega),List.getElem?_drop] at hx
    simpa using hx
  rw [List.getElem?_eq_none (by rw [List.length_append,List.length_take,List.length_drop]; omega)] at hx; cases hx
theorem Pass.prev {bs M:List Rg} {fs:List Pf} {i:Nat} (h:Pass bs fs M i) (hl:bs.length≤fs.length+1) (hi:i≤bs.length) {q:Nat} (hq:q < i) {x:Rg} (hx:M[q]?=some x):(cr bs fs)[q]?=some x:=by
  have:=pass_len hl
  rw [h.eq,List.getElem?_append_left (by rw [List.length_take]; omega),List.getElem?_take,if_pos hq] at hx
  exact hx
theorem Pass.go {bs M:List Rg} {fs:List Pf} {i:Nat} (h:Pass bs fs M i) (hl:bs.length≤fs.length+1) (hi:i < bs.length) {y:Rg} (hy:(cr bs fs)[i]?=some y) (ho:y.lo≤y.hi):Pass bs fs (M.set i y) (i+1):=by
  have hlen:=pass_len hl
  have hml:=h.len hl (by omega)
  refine ⟨?_,fun q r hq hr=>?_⟩
  · apply List.ext_getElem?
    intro q
    rcases Nat.lt_trichotomy q i with h1 | h1 | h1
    · rw [List.getElem?_set_ne (by omega),h.eq,List.getElem?_append_left (by rw [List.length_take]; omega),List.getElem?_append_left (by rw [List.length_take]; omega),List.getElem?_take,List.getElem?_take,if_pos h1,if_pos (by omega)]
    · subst h1
      rw [List.getElem?_set_self (by omega),List.getElem?_append_left (by rw [List.length_take]; omega),List.getElem?_take,if_pos (by omega),hy]
    rw [List.getElem?_set_ne (by omega),h.eq,List.getElem?_append_right (by rw [List.length_take]; omega),List.getElem?_append_right (by rw [List.length_take]; omega),List.length_take,List.length_take,List.getElem?_drop,List.getElem?_drop]
    congr 1; omega
  by_cases e:q=i
  · subst e; rw [hy] at hr; injection hr with hr; subst hr; exact ho
  exact h.ok q r (by omega) hr
theorem Pass.same {bs M:List Rg} {fs:List Pf} {i:Nat} (h:Pass bs fs M i) {x:Rg} (hx:M[i]?=some x):M.set i x=M:=by
  apply List.ext_getElem?
  intro q
  by_cases e:i=q
  · subst e; rw [List.getElem?_set_self (bu hx),hx]
  rw [List.getElem?_set_ne e]
theorem Pass.done {bs M:List Rg} {fs:List Pf} {i:Nat} (h:Pass bs fs M i) (hl:bs.length≤fs.length+1) (hi:bs.length≤i):dd bs fs=(M,true):=by
  have hlen:=pass_len hl
  have hM:M=cr bs fs:=by rw [h.eq,List.drop_eq_nil_of_le hi,List.append_nil,List.take_of_length_le (by omega)]
  rw [dd,if_pos,hM]
  rw [List.all_eq_true]
  intro r hr
  obtain ⟨q,hq,he⟩:=List.getElem_of_mem hr
  exact decide_eq_true (h.ok q r (by omega) (by rw [List.getElem?_eq_getElem hq,he]))
theorem pass_fail {bs:List Rg} {fs:List Pf} {i:Nat} {y:Rg} (hy:(cr bs fs)[i]?=some y) (ho:y.hi < y.lo):dd bs fs=([],false):=by
  rw [dd,if_neg]
  intro h
  rw [List.all_eq_true] at h
  have:=h y (bz hy)
  rw [decide_eq_true_eq] at this
  omega
theorem pf_call (f:Pf) (r:Rg) (w:World) (hf:Fd f.x) (hr:Bd 100000000000 r):cx Tryz.prog (pfV f) [.agg (eRg r).toArray] w fun v w'=>v=.agg (eRg (pfF f r)).toArray∧Below w.heap.size w w':=by
  obtain ⟨a,b,c,d⟩:=hf
  obtain ⟨a',b',c',d'⟩:=hr
  obtain ⟨fb,fx⟩:=f
  dsimp only at a b c d
  cases fb with
  | true=>exact cx.of (args':=[.agg (eLd fx).toArray,.agg (eRg r).toArray]) rfl (before_c fx.src fx.hr fx.lo fx.hi fx.kn fx.un r.lo r.hi (by omega) (by omega) w)
  | false=>exact cx.of (args':=[.agg (eLd fx).toArray,.agg (eRg r).toArray]) rfl (after_c fx.src fx.hr fx.lo fx.hi fx.kn fx.un r.lo r.hi (by omega) (by omega) w)

set_option maxHeartbeats 1600000 in
theorem passOn_c (w0:World) (bs:List Rg) (A:Option Addr) (n c:Nat) (fs:List Pf) (A2:Option Addr) (nf cf:Nat) (hn:n=bs.length) (hnf:nf=fs.length) (hn0:0 < n) (hle:n≤nf+1) (hmax:n≤1000) (hmax2:nf≤1000) (hC:bi w0 A (al eRg bs)) (hC2:bi w0 A2 (al ePf fs)) (hbd:∀ r∈bs,Bd 1000000 r) (hf:∀ f∈fs,Fd f.x):bn Tryz.prog 153 [.slice A n c,.slice A2 nf cf] w0 fun v w=>∃ v1,v=.tuple #[v1,.bool (dd bs fs).2]∧Gives 2 23 none (dd bs fs).1.length (al eRg (dd bs fs).1) w0 v1 w:=by
 have hlb:bs.length≤fs.length+1:=by omega
 refine az (n:=49) func153 rfl ntmps153 rfl ?_
 have hI:=Inv.start w0
 refine ab (rgn rfl (pu (.slice none 0 0) rfl (pu kf rfl (aa (ab (rgn rfl (pu (.slice A n c) rfl (ac (gj hI 176 [.slice A n c] (by kernel_rfl) (CloneRanges_c _ bs A n c hn (by omega) (hC.inv0 hI)) ?_)))))))))
 intro g1 c2 cl3 w hI r4
 have r4:Row 2 g1 (n) c2 cl3 (al eRg (bs)):=r4
 refine pu (slv g1 n c2) rfl (aa (ab (ab (rgn rfl (pu (slv g1 n c2) rfl (pu (iv ((n:Nat):Int)) (by kernel_rfl) (pu (iv 0) rfl (aa (au ?_)))))))))
 obtain ⟨bk,rfl⟩:=r4.some_ (by omega)
 have hcp:=r4.cap; have hmx:=r4.capmax; unfold maxLen at hmx
 refine cb (fun m ρ w=>∃ (i:Nat) (ccl:List Value) (M:List Rg),cd ρ [(1,.slice A2 nf cf),(6,slv (some bk) n c2),(11,iv (n:Int)),(12,iv (i:Int))]∧Inv []  w0 w [(some bk,blk ccl 23)]∧(i≤n)∧(Pass bs fs M i)∧(Row 2 (some bk) n c2 ccl (al eRg M))∧m=n - i) (m:=n - 0) ⟨0,cl3,bs,⟨rfl,rfl,rfl,rfl,trivial⟩,hI.pk [0] rfl rfl,(by omega),(Pass.start bs fs),r4,rfl⟩ ?_
 rintro m ρ w ⟨i,ccl,M,hag,hI,hi,hP,hrr,hm⟩
 obtain ⟨ρ,rfl⟩:=hag.form; clear hag
 have hml:=hP.len hlb (by omega)
 refine ab (rgn rfl (ac (cm rfl rfl ?_ ?_)))
 ·intro h1
  refine aa (ab (ah rfl (ak (ab (au ?_)))))
  refine ab (rgn rfl (pu (iv (i:Int)) rfl (pu (iv (i:Int)) rfl (aa (ab (ab (rgn rfl (pu (iv (i:Int)) rfl (ac (fh rfl rfl ?_ ?_))))))))))
  ·intro h2
   refine aa (ah rfl ?_)
   obtain ⟨x5,hx6⟩:=bq (l:=M) (i:=i - 1) (by omega)
   have he7:=hrr.atS da (by decide) hx6
   obtain ⟨x8,hx9⟩:=bq (l:=M) (i:=i) (by omega)
   have q:=hrr.atS da (by decide) hx9
   replace hI:=hI.pk [0] rfl rfl
   refine dh hI [] (by decide) rfl rfl rfl fun hsub=>alp 0 (slv (some bk) n c2) hsub rfl (by kernel_rfl) (fun _=>rfl) ?_
   refine alp 1 (iv (i:Int)) hsub rfl (by kernel_rfl) (fun _=>rfl) ?_
   refine alp 2 (.slice A2 nf cf) hsub rfl (by kernel_rfl) (fun _=>rfl) ?_
   refine alp 3 (iv (i:Int)) hsub rfl (by kernel_rfl) (fun _=>rfl) ?_
   refine ap 4 (iv ((i:Int) - 1)) hsub rfl (by kernel_rfl) (fun w hI=>dm rfl rfl (by omega) br) ?_
   obtain ⟨a,j⟩:=bq (l:=fs) (i:=i - 1) (by omega)
   obtain ⟨B,C,D,E,F⟩:=hC2.at_ il (by decide) j
   refine ap 5 (.pointer (some ⟨B,C+(i - 1) * 1,none⟩)) hsub rfl (by kernel_rfl) (fun w hI=>cn (i - 1) underlying181 sizeOf188 rfl D rfl (by omega) (by omega) br) ?_
   refine ap 6 (pfV a) hsub rfl (by kernel_rfl) (fun w hI=>dj hI (pfV a) isAgg188 rfl E (by simp) (F 0 _ rfl) br) ?_
   refine alp 7 (slv (some bk) n c2) hsub rfl (by kernel_rfl) (fun _=>rfl) ?_
   refine alp 8 (iv (i:Int)) hsub rfl (by kernel_rfl) (fun _=>rfl) ?_
   refine ap 9 (iv ((i:Int) - 1)) hsub rfl (by kernel_rfl) (fun w hI=>dm rfl rfl (by omega) br) ?_
   refine ap 10 (.pointer (some ⟨bk,(i - 1) * 2,none⟩)) hsub rfl (by kernel_rfl) (fun w hI=>be (i - 1) underlying130 sizeOf23 rfl rfl (by omega) (by omega) br) ?_
   refine alp 13 (slv (some bk) n c2) hsub rfl (by kernel_rfl) (fun _=>rfl) ?_
   refine alp 14 (iv (i:Int)) hsub rfl (by kernel_rfl) (fun _=>rfl) ?_
   refine ap 15 (.pointer (some ⟨bk,i * 2,none⟩)) hsub rfl (by kernel_rfl) (fun w hI=>be i underlying130 sizeOf23 rfl rfl rfl (by omega) br) ?_
   refine bc [11,16] (by kernel_rfl) rfl (each2 ?_ ?_)
   ·intro w hI
    refine dg rfl (cq hI 0 [iv x5.lo,iv x5.hi] isAgg23 sizeOf23 rfl rfl rfl he7 ?_)
    refine ⟨_,hI,dc (fun _ h=>h.pk [] rfl rfl) ?_⟩
    intro hsub
    refine ap 12 (.agg #[iv (pfF a x5).lo,iv (pfF a x5).hi]) hsub rfl (by kernel_rfl) (fun w hI=>im [.agg #[iv x5.lo,iv x5.hi]] rfl (by kernel_rfl) (pf_call a x5 w (hf a (bz j)) ((pass_bd hbd hf hlb _ _ (hP.prev hlb (by omega) (by omega) hx6)).mono (by omega))) (fun v' w' h=>h)) ?_
    refine bc [16] (by kernel_rfl) rfl (cz fun w hI=>dg rfl (cq hI 0 [iv x8.lo,iv x8.hi] isAgg23 sizeOf23 rfl rfl rfl q ?_))
    refine ⟨_,hI,dc (fun _ h=>h.pk [] rfl rfl) ?_⟩
    intro hsub
    refine ap 17 (.agg #[iv (if x8.lo > (pfF a x5).lo then x8.lo else (pfF a x5).lo),iv (if x8.hi < (pfF a x5).hi then x8.hi else (pfF a x5).hi)]) hsub rfl (by kernel_rfl) (fun w hI=>co 103 [.agg #[iv (pfF a x5).lo,iv (pfF a x5).hi],.agg #[iv x8.lo,iv x8.hi]] (by kernel_rfl) (meet_c (pfF a x5).lo (pfF a x5).hi x8.lo x8.hi _) (fun v' w' h=>h)) ?_
    refine ap 18 (.pointer (some ⟨bk,i * 2,none⟩)) hsub rfl (by kernel_rfl) (fun w hI=>be i underlying130 sizeOf23 rfl rfl rfl (by omega) br) ?_
    refine bc [19] (by kernel_rfl) rfl (cz fun w hI=>dg rfl (aq hI 0 2 [iv (if x8.lo > (pfF a x5).lo then x8.lo else (pfF a x5).lo),iv (if x8.hi < (pfF a x5).hi then x8.hi else (pfF a x5).hi)] sizeOf23 rfl rfl rfl rfl rfl (hrr.room (by omega)) fun w hI=>⟨_,hI,dc (fun _ h=>h.pk [] rfl rfl) ?_⟩))
    intro hsub
    have s:=hrr.put da (by decide) i (⟨if x8.lo > (pfF a x5).lo then x8.lo else (pfF a x5).lo,if x8.hi < (pfF a x5).hi then x8.hi else (pfF a x5).hi⟩:Rg) (by omega)
    refine cp rfl (fun w hI=>?_)
    have hnew:(cr bs fs)[i]?=some (er (pfF a x5) x8):=by have h8:=pass_get (hP.prev hlb (by omega) (by omega) hx6) j (show bs[i - 1+1]?=some x8 by rw [Nat.sub_add_cancel (by omega)]; exact hP.cur hlb hx9); rwa [Nat.sub_add_cancel (by omega)] at h8
    refine ab (dh hI [0] (by decide) rfl rfl rfl fun hsub=>alp 0 (slv (some bk) n c2) hsub rfl (by kernel_rfl) (fun _=>rfl) ?_)
    refine alp 1 (iv (i:Int)) hsub rfl (by kernel_rfl) (fun _=>rfl) ?_
    obtain ⟨b,o⟩:=bq (l:=(M).set i (⟨if x8.lo > (pfF a x5).lo then x8.lo else (pfF a x5).lo,if x8.hi < (pfF a x5).hi then x8.hi else (pfF a x5).hi⟩:Rg)) (i:=i) (by first | omega | (simp only [List.length_set]; omega))
    have t:=s.atS da (by decide) o
    refine ap 2 (.pointer (some ⟨bk,i * 2,none⟩)) hsub rfl (by kernel_rfl) (fun w hI=>be i underlying130 sizeOf23 rfl rfl rfl (by omega) br) ?_
    refine alp 3 (.pointer (some ⟨bk,i * 2,none⟩)) hsub rfl (by kernel_rfl) (fun _=>rfl) ?_
    refine ap 4 (iv b.lo) hsub rfl (by kernel_rfl) (fun w hI=>db hI 0 (iv b.lo) isAgg3 rfl rfl (t 0 _ rfl) br) ?_
    refine alp 5 (slv (some bk) n c2) hsub rfl (by kernel_rfl) (fun _=>rfl) ?_
    refine alp 6 (iv (i:Int)) hsub rfl (by kernel_rfl) (fun _=>rfl) ?_
    refine ap 7 (.pointer (some ⟨bk,i * 2,none⟩)) hsub rfl (by kernel_rfl) (fun w hI=>be i underlying130 sizeOf23 rfl rfl rfl (by omega) br) ?_
    refine alp 8 (.pointer (some ⟨bk,i * 2+1,none⟩)) hsub rfl (by kernel_rfl) (fun _=>rfl) ?_
    refine ap 9 (iv b.hi) hsub rfl (by kernel_rfl) (fun w hI=>db hI 0 (iv b.hi) isAgg3 rfl rfl (t 1 _ rfl) br) ?_
    by_cases h3:b.hi < b.lo
    ·refine ap 10 kg hsub rfl (by kernel_rfl) (fun w hI=>fh rfl rfl (fun _=>br) (fun h=>absurd h3 h)) ?_
     refine cp rfl (fun w hI=>?_)
     refine ah rfl (ab (rgn rfl (pu (.slice none 0 0) rfl (pu kf rfl (aa (aj ?_))))))
     have hI:=hI.nilRow 23
     have e:dd bs fs=([],false):=pass_fail hnew (by have e:=Option.some.inj ((List.getElem?_set_self (by omega)).symm.trans o); subst e; assumption)
     exact ⟨.tuple #[.slice none 0 0,.bool false],Ret.r2 rfl rfl rfl,(by rw [e]; exact ⟨.slice none 0 0,rfl,none,0,[],rfl,hI.pk [0] rfl rfl,Row.nil_ 2⟩)⟩
    refine ap 10 kf hsub rfl (by kernel_rfl) (fun w hI=>fh rfl rfl (fun h=>absurd h h3) (fun _=>br)) ?_
    refine cp rfl (fun w hI=>?_)
    refine ai rfl (ak (rgn rfl (ac (cj rfl rfl (by omega) ?_))))
    refine pu (iv ((i:Int)+1)) rfl (aa ?_)
    exact ⟨rfl,_,(by omega),⟨i+1,putCells ccl (i * 2) (eRg (⟨if x8.lo > (pfF a x5).lo then x8.lo else (pfF a x5).lo,if x8.hi < (pfF a x5).hi then x8.hi else (pfF a x5).hi⟩:Rg)),(M).set i (⟨if x8.lo > (pfF a x5).lo then x8.lo else (pfF a x5).lo,if x8.hi < (pfF a x5).hi then x8.hi else (pfF a x5).hi⟩:Rg),⟨rfl,rfl,rfl,rfl,trivial⟩,hI.pk [0] rfl rfl,(by omega),(hP.go hlb (by omega) hnew (by have e:=Option.some.inj ((List.getElem?_set_self (by omega)).symm.trans o); subst e; omega)),s,rfl⟩⟩
   intro w hI
   refine dg rfl (cq hI 0 [iv x8.lo,iv x8.hi] isAgg23 sizeOf23 rfl rfl rfl q ?_)
   refine ⟨_,hI,dc (fun _ h=>h.pk [] rfl rfl) ?_⟩
   intro hsub
   refine bc [11] (by kernel_rfl) rfl (cz fun w hI=>dg rfl (cq hI 0 [iv x5.lo,iv x5.hi] isAgg23 sizeOf23 rfl rfl rfl he7 ?_))
   refine ⟨_,hI,dc (fun _ h=>h.pk [] rfl rfl) ?_⟩
   intro hsub
   refine ap 12 (.agg #[iv (pfF a x5).lo,iv (pfF a x5).hi]) hsub rfl (by kernel_rfl) (fun w hI=>im [.agg #[iv x5.lo,iv x5.hi]] rfl (by kernel_rfl) (pf_call a x5 w (hf a (bz j)) ((pass_bd hbd hf hlb _ _ (hP.prev hlb (by omega) (by omega) hx6)).mono (by omega))) (fun v' w' h=>h)) ?_
   refine ap 17 (.agg #[iv (if x8.lo > (pfF a x5).lo then x8.lo else (pfF a x5).lo),iv (if x8.hi < (pfF a x5).hi then x8.hi else (pfF a x5).hi)]) hsub rfl (by kernel_rfl) (fun w hI=>co 103 [.agg #[iv (pfF a x5).lo,iv (pfF a x5).hi],.agg #[iv x8.lo,iv x8.hi]] (by kernel_rfl) (meet_c (pfF a x5).lo (pfF a x5).hi x8.lo x8.hi _) (fun v' w' h=>h)) ?_
   refine ap 18 (.pointer (some ⟨bk,i * 2,none⟩)) hsub rfl (by kernel_rfl) (fun w hI=>be i underlying130 sizeOf23 rfl rfl rfl (by omega) br) ?_
   refine bc [19] (by kernel_rfl) rfl (cz fun w hI=>dg rfl (aq hI 0 2 [iv (if x8.lo > (pfF a x5).lo then x8.lo else (pfF a x5).lo),iv (if x8.hi < (pfF a x5).hi then x8.hi else (pfF a x5).hi)] sizeOf23 rfl rfl rfl rfl rfl (hrr.room (by omega)) fun w hI=>⟨_,hI,dc (fun _ h=>h.pk [] rfl rfl) ?_⟩))
   intro hsub
   have u:=hrr.put da (by decide) i (⟨if x8.lo > (pfF a x5).lo then x8.lo else (pfF a x5).lo,if x8.hi < (pfF a x5).hi then x8.hi else (pfF a x5).hi⟩:Rg) (by omega)
   refine cp rfl (fun w hI=>?_)
   have hnew:(cr bs fs)[i]?=some (er (pfF a x5) x8):=by have h8:=pass_get (hP.prev hlb (by omega) (by omega) hx6) j (show bs[i - 1+1]?=some x8 by rw [Nat.sub_add_cancel (by omega)]; exact hP.cur hlb hx9); rwa [Nat.sub_add_cancel (by omega)] at h8
   refine ab (dh hI [0] (by decide) rfl rfl rfl fun hsub=>alp 0 (slv (some bk) n c2) hsub rfl (by kernel_rfl) (fun _=>rfl) ?_)
   refine alp 1 (iv (i:Int)) hsub rfl (by kernel_rfl) (fun _=>rfl) ?_
   obtain ⟨d,p⟩:=bq (l:=(M).set i (⟨if x8.lo > (pfF a x5).lo then x8.lo else (pfF a x5).lo,if x8.hi < (pfF a x5).hi then x8.hi else (pfF a x5).hi⟩:Rg)) (i:=i) (by first | omega | (simp only [List.length_set]; omega))
   have y:=u.atS da (by decide) p
   refine ap 2 (.pointer (some ⟨bk,i * 2,none⟩)) hsub rfl (by kernel_rfl) (fun w hI=>be i underlying130 sizeOf23 rfl rfl rfl (by omega) br) ?_
   refine alp 3 (.pointer (some ⟨bk,i * 2,none⟩)) hsub rfl (by kernel_rfl) (fun _=>rfl) ?_
   refine ap 4 (iv d.lo) hsub rfl (by kernel_rfl) (fun w hI=>db hI 0 (iv d.lo) isAgg3 rfl rfl (y 0 _ rfl) br) ?_
   refine alp 5 (slv (some bk) n c2) hsub rfl (by kernel_rfl) (fun _=>rfl) ?_
   refine alp 6 (iv (i:Int)) hsub rfl (by kernel_rfl) (fun _=>rfl) ?_
   refine ap 7 (.pointer (some ⟨bk,i * 2,none⟩)) hsub rfl (by kernel_rfl) (fun w hI=>be i underlying130 sizeOf23 rfl rfl rfl (by omega) br) ?_
   refine alp 8 (.pointer (some ⟨bk,i * 2+1,none⟩)) hsub rfl (by kernel_rfl) (fun _=>rfl) ?_
   refine ap 9 (iv d.hi) hsub rfl (by kernel_rfl) (fun w hI=>db hI 0 (iv d.hi) isAgg3 rfl rfl (y 1 _ rfl) br) ?_
   by_cases h4:d.hi < d.lo
   ·refine ap 10 kg hsub rfl (by kernel_rfl) (fun w hI=>fh rfl rfl (fun _=>br) (fun h=>absurd h4 h)) ?_
    refine cp rfl (fun w hI=>?_)
    refine ah rfl (ab (rgn rfl (pu (.slice none 0 0) rfl (pu kf rfl (aa (aj ?_))))))
    have hI:=hI.nilRow 23
    have e:dd bs fs=([],false):=pass_fail hnew (by have e:=Option.some.inj ((List.getElem?_set_self (by omega)).symm.trans p); subst e; assumption)
    exact ⟨.tuple #[.slice none 0 0,.bool false],Ret.r2 rfl rfl rfl,(by rw [e]; exact ⟨.slice none 0 0,rfl,none,0,[],rfl,hI.pk [0] rfl rfl,Row.nil_ 2⟩)⟩
   refine ap 10 kf hsub rfl (by kernel_rfl) (fun w hI=>fh rfl rfl (fun h=>absurd h h4) (fun _=>br)) ?_
   refine cp rfl (fun w hI=>?_)
   refine ai rfl (ak (rgn rfl (ac (cj rfl rfl (by omega) ?_))))
   refine pu (iv ((i:Int)+1)) rfl (aa ?_)
   exact ⟨rfl,_,(by omega),⟨i+1,putCells ccl (i * 2) (eRg (⟨if x8.lo > (pfF a x5).lo then x8.lo else (pfF a x5).lo,if x8.hi < (pfF a x5).hi then x8.hi else (pfF a x5).hi⟩:Rg)),(M).set i (⟨if x8.lo > (pfF a x5).lo then x8.lo else (pfF a x5).lo,if x8.hi < (pfF a x5).hi then x8.hi else (pfF a x5).hi⟩:Rg),⟨rfl,rfl,rfl,rfl,trivial⟩,hI.pk [0] rfl rfl,(by omega),(hP.go hlb (by omega) hnew (by have e:=Option.some.inj ((List.getElem?_set_self (by omega)).symm.trans p); subst e; omega)),u,rfl⟩⟩
  intro h5
  refine aa (ai rfl (ak (ab (dh hI [0] (by decide) rfl rfl rfl fun hsub=>alp 0 (slv (some bk) n c2) hsub rfl (by kernel_rfl) (fun _=>rfl) ?_))))
  refine alp 1 (iv (i:Int)) hsub rfl (by kernel_rfl) (fun _=>rfl) ?_
  obtain ⟨g,k⟩:=bq (l:=M) (i:=i) (by omega)
  have z:=hrr.atS da (by decide) k
  refine ap 2 (.pointer (some ⟨bk,i * 2,none⟩)) hsub rfl (by kernel_rfl) (fun w hI=>be i underlying130 sizeOf23 rfl rfl rfl (by omega) br) ?_
  refine alp 3 (.pointer (some ⟨bk,i * 2,none⟩)) hsub rfl (by kernel_rfl) (fun _=>rfl) ?_
  refine ap 4 (iv g.lo) hsub rfl (by kernel_rfl) (fun w hI=>db hI 0 (iv g.lo) isAgg3 rfl rfl (z 0 _ rfl) br) ?_
  refine alp 5 (slv (some bk) n c2) hsub rfl (by kernel_rfl) (fun _=>rfl) ?_
  refine alp 6 (iv (i:Int)) hsub rfl (by kernel_rfl) (fun _=>rfl) ?_
  refine ap 7 (.pointer (some ⟨bk,i * 2,none⟩)) hsub rfl (by kernel_rfl) (fun w hI=>be i underlying130 sizeOf23 rfl rfl rfl (by omega) br) ?_
  refine alp 8 (.pointer (some ⟨bk,i * 2+1,none⟩)) hsub rfl (by kernel_rfl) (fun _=>rfl) ?_
  refine ap 9 (iv g.hi) hsub rfl (by kernel_rfl) (fun w hI=>db hI 0 (iv g.hi) isAgg3 rfl rfl (z 1 _ rfl) br) ?_
  by_cases h6:g.hi < g.lo
  ·refine ap 10 kg hsub rfl (by kernel_rfl) (fun w hI=>fh rfl rfl (fun _=>br) (fun h=>absurd h6 h)) ?_
   refine cp rfl (fun w hI=>?_)
   refine ah rfl (ab (rgn rfl (pu (.slice none 0 0) rfl (pu kf rfl (aa (aj ?_))))))
   have hI:=hI.nilRow 23
   have e:dd bs fs=([],false):=pass_fail (pass_zero.trans (by have e:i=0:=(by omega); subst e; exact hP.cur hlb k)) (by assumption)
   exact ⟨.tuple #[.slice none 0 0,.bool false],Ret.r2 rfl rfl rfl,(by rw [e]; exact ⟨.slice none 0 0,rfl,none,0,[],rfl,hI.pk [0] rfl rfl,Row.nil_ 2⟩)⟩
  refine ap 10 kf hsub rfl (by kernel_rfl) (fun w hI=>fh rfl rfl (fun h=>absurd h h6) (fun _=>br)) ?_
  refine cp rfl (fun w hI=>?_)
  refine ai rfl (ak (rgn rfl (ac (cj rfl rfl (by omega) ?_))))
  refine pu (iv ((i:Int)+1)) rfl (aa ?_)
  exact ⟨rfl,_,(by omega),⟨i+1,ccl,M,⟨rfl,rfl,rfl,rfl,trivial⟩,hI.pk [0] rfl rfl,(by omega),(by have e:i=0:=(by omega); subst e; have h8:=hP.go hlb (by omega) (pass_zero.trans (hP.cur hlb k)) (by omega); rwa [hP.same k] at h8),hrr,rfl⟩⟩
 intro h7
 refine aa (ab (ai rfl (bw ?_)))
 refine ab (rgn rfl (pu (slv (some bk) n c2) rfl (pu (slv (some bk) n c2) rfl (pu kg rfl (aa (aj ?_))))))
 have e:dd bs fs=(M,true):=hP.done hlb (by omega)
 exact ⟨.tuple #[slv (some bk) n c2,.bool true],Ret.r2 rfl rfl rfl,(by rw [e]; exact ⟨slv (some bk) n c2,rfl,some bk,c2,ccl,(by rw [show n=M.length from hrr.n_eq da (by decide)]),hI.pk [0] rfl rfl,hrr.to rfl (hrr.n_eq da (by decide))⟩)⟩

end Go.K
