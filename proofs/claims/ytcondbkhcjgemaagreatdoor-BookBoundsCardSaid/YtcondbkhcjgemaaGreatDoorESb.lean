import Derived.Test.YtcondbkhcjgemaaGreatDoorProg
import Derived.Test.YtcondbkhcjgemaaGreatDoorEKK2
import Derived.Test.YtcondbkhcjgemaaGreatDoorED
import Derived.Test.YtcondbkhcjgemaaGreatDoorEHb
import Derived.Test.YtcondbkhcjgemaaGreatDoorESf
import Derived.Test.YtcondbkhcjgemaaGreatDoorESX
import Derived.Lib.QuietBelow
import Derived.Sort.LotA
namespace Go.K
open Go.Proofs Go.RowKit Go.Sort
set_option linter.unusedVariables false
set_option linter.unusedSimpArgs false
set_option maxRecDepth 100000

instance:Inhabited Rc:=⟨⟨0,0,0,0,0,0,0,[]⟩⟩
theorem insRc_perm (x:Rc) (l:List Rc):(insRc x l).Perm (x :: l):=by
  induction l with
  | nil=>exact List.Perm.refl _
  | cons y l ih =>
    simp only [insRc]
    split
    · exact (List.Perm.cons y ih).trans (List.Perm.swap x y l)
    exact List.Perm.refl _
theorem oh (l:List Rc):(po l).Perm l:=by
  induction l with
  | nil=>exact List.Perm.refl _
  | cons x l ih=>exact (insRc_perm x _).trans (List.Perm.cons x ih)
theorem srtRc_len (l:List Rc):(po l).length=l.length:=(oh l).length_eq
theorem cmpRc_asymm {x y:Rc} (h:ls x y < 0):¬ ls y x < 0:=by
  unfold ls at *; split at h <;> (try split at h) <;> (try split at h) <;> (try split at h) <;> (try omega)
  all_goals split <;> (try split) <;> (try split) <;> (try split) <;> omega
theorem cmpRc_le {x y z:Rc} (h1:¬ ls y x < 0) (h2:¬ ls z y < 0):¬ ls z x < 0:=by
  unfold ls at *
  split at h1 <;> (try split at h1) <;> (try split at h1) <;> (try split at h1) <;> (try omega)
  all_goals split at h2 <;> (try split at h2) <;> (try split at h2) <;> (try split at h2) <;> (try omega)
  all_goals split <;> (try split) <;> (try split) <;> (try split) <;> omega
theorem cmpRc_key {x y:Rc} (h1:¬ ls x y < 0) (h2:¬ ls y x < 0):x.p=y.p∧x.n=y.n:=by
  unfold ls at *
  split at h1 <;> (try split at h1) <;> (try split at h1) <;> (try split at h1) <;> (try omega)
  all_goals split at h2 <;> (try split at h2) <;> (try split at h2) <;> (try split at h2) <;> omega
theorem insRc_le (x:Rc) (l:List Rc) (h:l.Pairwise fun a b=>¬ ls b a < 0):(insRc x l).Pairwise fun a b=>¬ ls b a < 0:=by
  induction l with
  | nil=>exact List.pairwise_singleton _ _
  | cons y l ih =>
    obtain ⟨h1,h2⟩:=List.pairwise_cons.1 h
    simp only [insRc]
    split
    · rename_i hc
      refine List.pairwise_cons.2 ⟨fun z hz=>?_,ih h2⟩
      rcases List.mem_cons.1 ((insRc_perm x l).mem_iff.1 hz) with rfl | hz
      · exact cmpRc_asymm hc
      exact h1 z hz
    rename_i hc
    refine List.pairwise_cons.2 ⟨fun z hz=>?_,h⟩
    rcases List.mem_cons.1 hz with rfl | hz
    · exact hc
    exact cmpRc_le hc (h1 z hz)
theorem srtRc_le (l:List Rc):(po l).Pairwise fun a b=>¬ ls b a < 0:=by
  induction l with
  | nil=>exact List.Pairwise.nil
  | cons x l ih=>exact insRc_le x _ ih
theorem disRc_mem {l:List Rc} (h:disRc l=true) {a b:Rc} (ha:a∈l) (hb:b∈l) (hp:a.p=b.p) (hn:a.n=b.n):a=b:=by
  induction l with
  | nil=>cases ha
  | cons x l ih =>
    simp only [disRc,Bool.and_eq_true,List.all_eq_true] at h
    obtain ⟨h1,h2⟩:=h
    rcases List.mem_cons.1 ha with rfl | ha <;> rcases List.mem_cons.1 hb with rfl | hb
    · rfl
    · have:=h1 b (by assumption); simp [hp,hn] at this
    · have:=h1 a (by assumption); simp [hp,hn] at this
    exact ih h2 ha hb
theorem srtRc_uniq {l m:List Rc} (hd:disRc l=true) (hp:m.Perm l) (hs:m.Pairwise fun a b=>¬ ls b a < 0):m=po l:=by
  refine List.Perm.eq_of_pairwise (le:=fun a b=>¬ ls b a < 0) (fun a b ha hb h1 h2=>?_) hs (srtRc_le l) (hp.trans (oh l).symm)
  obtain ⟨e1,e2⟩:=cmpRc_key h2 h1
  exact disRc_mem hd (hp.mem_iff.1 ha) ((oh l).mem_iff.1 hb) e1 e2
theorem swoRc:Go.Sort.SWO (ltOf ls) where
  irrefl x:=by simp only [ltOf,decide_eq_false_iff_not]; intro h; exact cmpRc_asymm h h
  trans x y z h1 h2:=by
    simp only [ltOf,decide_eq_true_eq] at *
    unfold ls at *
    split at h1 <;> (try split at h1) <;> (try split at h1) <;> (try split at h1) <;> (try omega)
    all_goals split at h2 <;> (try split at h2) <;> (try split at h2) <;> (try split at h2) <;> (try omega)
    all_goals split <;> (try split) <;> (try split) <;> (try split) <;> omega
  ntrans x y z h1 h2:=by
    simp only [ltOf,decide_eq_false_iff_not] at *
    exact cmpRc_le h2 h1
theorem Rc_blk_lt {w:World} {b:Nat} {o:Obj} (h:w.heap[b]?=some o):b < w.heap.size:=by
  rcases Nat.lt_or_ge b w.heap.size with hlt | hge
  · exact hlt
  rw [Array.getElem?_eq_none hge] at h; cases h
theorem flatK_eq (l:List Rc):(flatK eRc 8 l.toArray)=(al eRc l).toArray:=by
  refine ext_get! (by simp [dt bx]) fun t ht=>?_
  have ht':t < l.length * 8:=by simpa using ht
  rw [get_flatK _ _ _ _ (by simpa using ht')]
  have h1:t / 8 < l.length:=Nat.div_lt_of_lt_mul (by omega)
  have h2:=flat_get bx l (t / 8) (t % 8) _ (List.getElem?_eq_getElem h1) (Nat.mod_lt _ (by decide))
  rw [show t / 8 * 8+t % 8=t by omega] at h2
  rw [getElem!_pos l.toArray (t / 8) (by simpa using h1)]
  simp only [List.getElem_toArray]
  have h3:t % 8 < (eRc l[t / 8]).length:=Nat.mod_lt _ (by decide)
  rw [getElem!_pos (eRc l[t / 8]) (t % 8) h3]
  have h4:t < (al eRc l).toArray.size:=by simp [dt bx]; exact ht'
  rw [getElem!_pos (al eRc l).toArray t h4]
  rw [List.getElem?_eq_getElem h3] at h2
  have h5:=List.getElem?_eq_some_iff.1 h2
  obtain ⟨_,h5⟩:=h5
  simpa using h5.symm
theorem SortRc1_c (w0:World) (b n c:Nat) (cl:List Value) (l:List Rc) (hb:w0.heap[b]?=some (blk cl 25)) (hr:Row 8 (some b) n c cl (al eRc l)) (hmax:n≤1000000000) (hd:disRc l=true):bn Tryz.prog 151 [slv (some b) n c,.func (.func 107) #[] #[]] w0 fun v w=>TurnsIn 8 25 (some b) c n (al eRc (po l)) w0 v w:=by
  have hn:=hr.n_eq bx (by decide)
  subst hn
  have hlt:=Rc_blk_lt hb
  have hlen:(al eRc l).length=l.length * 8:=dt bx l
  have hcl:cl.length=c * 8:=hr.size
  have hcap:=hr.cap
  have hH:HoldsK eRc 8 w0 b 0 l.toArray:=by
    unfold HoldsK
    rw [flatK_eq]
    intro j hj
    have hj':j < (al eRc l).length:=by simpa using hj
    have h1:cl[j]?=some (al eRc l)[j]:=by
      have:=hr.head
      have h2:(cl.take (l.length * 8))[j]?=some (al eRc l)[j]:=by rw [this]; exact List.getElem?_eq_getElem hj'
      rw [List.getElem?_take] at h2
      split at h2
      · exact h2
      cases h2
    have h2:cl.toArray[j]?=some (al eRc l)[j]:=by simpa using h1
    refine ⟨?_,by simp [World.frozen?,hb]⟩
    rw [Nat.zero_add,getElem!_pos _ j hj]
    simp [World.cell?,hb,h2]
  refine Calls.mono (AnyQ.slices_SortFunc Tryz.sortRc 8 Tryz.isAgg25 Tryz.sizeOf25 eRc bx eRc_cell ls swoRc 107 #[] b 0 c l.toArray w0 (enters_of Tryz.func107 (by kernel_rfl) rfl) ?_ hH hlt (by simp; omega)) ?_
  · intro m os dk hs x y
    exact cmp107 _ x y
  rintro e w' ⟨rfl,d',nn,os,hp,hso,rfl⟩
  have hp1:d'.toList.Perm l:=by
    obtain ⟨h1,h2,h3⟩:=hp
    have e1:d'.extract 0 l.toArray.size=d':=by rw [← h1]; exact Array.extract_size
    rw [e1,Array.extract_size] at h3
    simpa using h3
  have hs1:d'.toList.Pairwise fun a b=>¬ ls b a < 0:=by
    rw [List.pairwise_iff_getElem]
    intro i j hi hj hij
    have hi':i < d'.size:=by simpa using hi
    have hj':j < d'.size:=by simpa using hj
    have:=hso i j (Nat.zero_le _) hij (by have:=hp.1; omega)
    rw [getElem!_pos d' j hj',getElem!_pos d' i hi'] at this
    simpa [ltOf] using this
  have hd':d'=(po l).toArray:=by
    have:=srtRc_uniq hd hp1 hs1
    rw [← this]
  subst hd'
  have hlen2:(al eRc (po l)).length=l.length * 8:=by rw [dt bx,srtRc_len]
  refine ⟨_,rfl,al eRc (po l)++cl.drop (l.length * 8),rfl,?_,?_⟩
  · refine (Inv.lent w0 (some b) (blk cl 25) (fun b' h=>by injection h with h; rw [← h]; exact hb)).turn (i:=0) (o':=blk (al eRc (po l)++cl.drop (l.length * 8)) 25) rfl rfl rfl ⟨rfl,DLe.of (Nat.le_add_right _ _)⟩ (by simp [sortWorldK,putRowK,Go.Sort.grow,Go.Sort.ahead,Go.Sort.putRow,Go.Sort.mapBlock]) (fun k hk hg=>?_) (fun b' h=>?_)
    · unfold sortWorldK
      rw [Go.Sort.heap_grow_old _ _ (by simpa [putRowK,Go.Sort.putRow,Go.Sort.mapBlock,Go.Sort.ahead] using hk)]
      simp only [putRowK,Go.Sort.putRow,Go.Sort.mapBlock,Go.Sort.ahead]
      rw [Array.getElem?_modify,if_neg (fun e=>hg (by rw [e]))]
    injection h with h; subst h
    unfold sortWorldK
    rw [Go.Sort.heap_grow_old _ _ (by simpa [putRowK,Go.Sort.putRow,Go.Sort.mapBlock,Go.Sort.ahead] using hlt)]
    simp only [putRowK,Go.Sort.putRow,Go.Sort.mapBlock,Go.Sort.ahead]
    rw [Array.getElem?_modify,if_pos rfl,hb]
    simp only [Option.map_some,Go.Sort.onCells]
    rw [flatK_eq]
    congr 2
    apply Array.ext_getElem?
    intro q
    simp only [Go.Sort.putCells,Array.getElem?_mapIdx,List.getElem?_toArray]
    rcases Nat.lt_or_ge q (l.length * 8) with h1 | h1
    · rw [List.getElem?_append_left (by omega),List.getElem?_eq_getElem (show q < cl.length by omega),List.getElem?_eq_getElem (show q < (al eRc (po l)).length by omega)]
      have h3:q < (al eRc (po l)).toArray.size:=by simp; omega
      simp only [Option.map_some,Option.some.injEq]
      rw [if_pos (by simp; omega),Nat.sub_zero,getElem!_pos _ q h3]
      simp
    rw [List.getElem?_append_right (by omega),hlen2,List.getElem?_drop,show l.length * 8+(q - l.length * 8)=q by omega]
    cases hc:cl[q]? with
    | none=>rfl
    | some u=>simp [hlen2,Nat.not_lt.2 h1]
  exact ⟨hlen2,hcap,hr.capmax,by rw [List.length_append,List.length_drop]; omega,List.take_left' hlen2,fun h=>by cases h⟩
theorem SortRc_c (w0:World) (g:Option Nat) (n c:Nat) (cl:List Value) (l:List Rc) (hg:∀ b,g=some b→w0.heap[b]?=some (blk cl 25)) (hr:Row 8 g n c cl (al eRc l)) (hmax:n≤1000000000) (hd:disRc l=true):bn Tryz.prog 151 [slv g n c,.func (.func 107) #[] #[]] w0 fun v w=>TurnsIn 8 25 g c n (al eRc (po l)) w0 v w:=by
  cases g with
  | none =>
    have hc:=hr.nil rfl
    have hn:n=0:=by have:=hr.cap; omega
    subst hc; subst hn
    have hl:l=[]:=List.eq_nil_of_length_eq_zero (hr.n_eq bx (by decide)).symm
    subst hl
    refine Calls.mono (AnyF.slices_SortFunc_none Tryz.sortRc none 0 _ w0) ?_
    rintro e w' ⟨rfl,rfl⟩
    exact ⟨_,rfl,cl,rfl,Inv.lent w' none (blk cl 25) (fun b h=>by cases h),by simpa [po] using hr⟩
  | some b=>exact SortRc1_c w0 b n c cl l (hg b rfl) hr hmax hd
theorem sortRc_c {B:List Nat} {w0 w:World} {L:List (Option Nat × Obj)} (hI:Inv B w0 w L) (i:Nat) {g:Option Nat} {n c:Nat} {cl:List Value} {l:List Rc} (hi:L[i]?=some (g,blk cl 25)) (hr:Row 8 g n c cl (al eRc l)) (hmax:n≤1000000000) (hd:disRc l=true) :
    bn Tryz.prog 151 [slv g n c,.func (.func 107) #[] #[]] w fun v w'=>v=.tuple #[]∧∃ cl',Inv B w0 w' (L.set i (g,blk cl' 25))∧Row 8 g n c cl' (al eRc (po l)):=by
  refine bn.mono (SortRc_c w g n c cl l (hI.hasg i hi) hr hmax hd) ?_
  rintro v w' ⟨cl',hv,hN,hr'⟩
  exact ⟨hv,cl',hI.turned i hi hN.but (fun b hb=>by subst hb; exact (hN.has 0 b _ rfl).1),hr'⟩
#print axioms sortRc_c
end Go.K
namespace Go.K
open Go.Proofs Go.RowKit
theorem decS_eq:∀ (m u:Nat),u < 10 ^ (m+1)→ng (m+1) u=Lib.decDigits u
  | 0,u,h=>by rw [ng,if_pos (by simpa using h),Lib.decDigits,dif_pos (by simpa using h)]
  | m+1,u,h=>by
    rw [ng,Lib.decDigits]
    by_cases h1:u < 10
    · rw [if_pos h1,dif_pos h1]
    rw [if_neg h1,dif_neg h1,decS_eq m (u / 10) (by rw [Nat.pow_succ] at h; omega)]
theorem itoaS_eq {n:Int} (h:InR n):Lib.itoa n=ne n:=by
  unfold Lib.itoa ne
  unfold InR at h
  split
  · rw [decS_eq 19 _ (by have:(10:Nat) ^ 20=100000000000000000000:=rfl; omega)]
  rw [decS_eq 19 _ (by have:(10:Nat) ^ 20=100000000000000000000:=rfl; omega)]
theorem atoi_ok {w:World} {s:Str} {n:Int} (hG:Gl w) (h:atoiO s=some (.inl n)):bn Tryz.prog 163 [.string (bts s)] w fun v w'=>v=.tuple #[.int .i64 n,.nilIface]∧Below w.heap.size w w':=by
  unfold atoiO at h
  split at h
  · rename_i hl
    rcases ha:Lib.atoiAll s with v | _ | _
    · rw [ha] at h; injection h with h; injection h with h; subst h
      refine (Tryz.strconv_Atoi_ok (bts s) (by rw [bts_size]; omega) v ha w).mono ?_
      rintro e w' ⟨rfl,rfl | ⟨t,rfl⟩⟩
      · exact ⟨_,rfl,rfl,Below.refl _ _⟩
      exact ⟨_,rfl,rfl,.kitted (Lib.bytesWorld_below w 5 t)⟩
    · rw [ha] at h; injection h with h; injection h
    rw [ha] at h; injection h with h; injection h
  cases h
theorem atoi_no {w:World} {s:Str} {n:Int} (hG:Gl w) (h:atoiO s=some (.inr n)):bn Tryz.prog 163 [.string (bts s)] w fun v w'=>(∃ N,v=.tuple #[.int .i64 n,.iface 245 (.pointer (some ⟨N,0,none⟩))])∧Below w.heap.size w w':=by
  unfold atoiO at h
  split at h
  · rename_i hl
    rcases ha:Lib.atoiAll s with v | _ | _
    · rw [ha] at h; injection h with h; injection h
    · rw [ha] at h; injection h with h; injection h with h; subst h
      obtain ⟨t,p,hv⟩:=hG.syn
      refine (Tryz.strconv_Atoi_syntax_var (bts s) (by rw [bts_size]; exact hl) ha t p w hv).mono ?_
      rintro e w' ⟨N,rfl,_,_,hb⟩
      exact ⟨_,rfl,⟨N,rfl⟩,.kitted hb⟩
    rw [ha] at h; injection h with h; injection h with h; subst h
    obtain ⟨t,p,hv⟩:=hG.ran
    refine (Tryz.strconv_Atoi_range_var (bts s) (by rw [bts_size]; exact hl) ha t p w hv).mono ?_
    rintro e w' ⟨N,rfl,_,_,hb⟩
    exact ⟨_,rfl,⟨N,rfl⟩,.kitted hb⟩
  cases h
end Go.K
