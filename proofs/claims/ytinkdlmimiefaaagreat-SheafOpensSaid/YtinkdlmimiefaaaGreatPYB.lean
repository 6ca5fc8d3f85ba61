/- Y7, Y8, Y9, Ya, Yb, Yc, Yd, Ye, Yf, Yg. -/
import Derived.Test.YtinkdlmimiefaaaGreatPYA
import Derived.Test.YtinkdlmimiefaaaGreatPM39
import Derived.Test.YtinkdlmimiefaaaGreatPM41
import Derived.Test.YtinkdlmimiefaaaGreatPEa
import Derived.Test.YtinkdlmimiefaaaGreatPE
import Derived.KernelRfl
set_option linter.unusedVariables false
set_option linter.unusedSimpArgs false
section
namespace Go.K
open Go.RowKit
def chk {α:Type} (src:α→Int) (ok:α→Option Int) (l:List α) (K:Option Int):Nat→Int→Option Int
  | 0=>fun _=>none
  | m+1=>fun v =>
    if v < (l.length:Int) then
      gdO (0≤v) <|
      bp (l[(v).toNat]?) fun x =>
      bp (ok x) fun y =>
      if y=0 then
        if 0 < v then
          ckO (v - 1) <|
          gdO (0≤(v - 1)) <|
          bp (l[(v - 1).toNat]?) fun x' =>
          if src x≤src x' then
            some 13
          else
            ckO (v+1) <| chk src ok l K m (v+1)
        else
          ckO (v+1) <| chk src ok l K m (v+1)
      else
        some 13
    else
      K
def One {α:Type} (src:α→Int) (ok:α→Int) (l:List α) (j:Nat) (x:α):Prop:=ok x=0∧∀ y,0 < j→l[j - 1]?=some y→src y < src x
def All1 {α:Type} (src:α→Int) (ok:α→Int) (l:List α) (i:Nat):Prop:=∀ j x,i≤j→l[j]?=some x→One src ok l j x
theorem chk_eq {α:Type} (src:α→Int) (ok:α→Option Int) (oki:α→Int) (hok:∀ x,ok x=some (oki x)) (l:List α) (K:Option Int) (hl:l.length≤100000):∀ (m i:Nat),i≤l.length→l.length < m+i →
    (All1 src oki l i→chk src ok l K m (i:Int)=K)∧(¬ All1 src oki l i→chk src ok l K m (i:Int)=some 13):=by
  intro m
  induction m with
  | zero=>intro i h0 h; exfalso; omega
  | succ m ih =>
    intro i h0 h1
    unfold chk
    rcases gv l i with ⟨hi,e⟩ | ⟨x,hi,hx,e⟩
    · rw [if_neg (by omega)]
      exact ⟨fun _=>rfl,fun hn=>absurd (fun j y hj hy=>absurd (bu hy) (by omega)) hn⟩
    rw [if_pos (by omega),du (by omega),Int.toNat_natCast,hx,ba,hok,ba]
    have ih':=ih (i+1) (by omega) (by omega)
    have both:One src oki l i x→((All1 src oki l i→chk src ok l K m ((i+1:Nat):Int)=K)∧(¬ All1 src oki l i→chk src ok l K m ((i+1:Nat):Int)=some 13)):=fun ho =>
      ⟨fun hA=>ih'.1 fun j y hj hy=>hA j y (by omega) hy,fun hn=>ih'.2 fun hA=>hn fun j y hj hy=>by
        rcases Nat.eq_or_lt_of_le hj with e | e
        · subst e; rw [hx] at hy; injection hy with hy; subst hy; exact ho
        exact hA j y e hy⟩
    have bad:¬ One src oki l i x→((All1 src oki l i→some (13:Int)=K)∧(¬ All1 src oki l i→some (13:Int)=some 13)):=fun hb=>⟨fun hA=>absurd (hA i x (Nat.le_refl _) hx) hb,fun _=>rfl⟩
    by_cases h2:oki x=0
    · rw [if_pos h2]
      by_cases h3:0 < i
      · have hy:l[i - 1]?=some l[i - 1]:=List.getElem?_eq_getElem (by omega)
        generalize l[i - 1]=y at hy
        rw [if_pos (by omega),dr (by unfold InR; omega),du (by omega),show ((i:Int) - 1).toNat=i - 1 by omega,hy,ba]
        by_cases h4:src x≤src y
        · rw [if_pos h4]
          exact bad fun ho=>by have:=ho.2 y h3 hy; omega
        rw [if_neg h4,dr (by unfold InR; omega),eh]
        exact both ⟨h2,fun z _ hz=>by rw [hy] at hz; injection hz with hz; subst hz; omega⟩
      rw [if_neg (by omega),dr (by unfold InR; omega),eh]
      exact both ⟨h2,fun z h _=>absurd h h3⟩
    rw [if_neg h2]
    exact bad fun ho=>h2 ho.1
section
variable (a b:Int) (l2 l3:List Ld) (l4:List Sp) (g:Int) (N:Nat)
theorem F23l9_chk:∀ m,F23l9 a b l2 l3 l4 g N m=chk Ld.src F25 l2 (F23j1 a b l2 l3 l4 g N) m
  | 0=>rfl
  | m+1=>by
    show F23b9 a b l2 l3 l4 g N (F23l9 a b l2 l3 l4 g N m)=_
    rw [F23l9_chk m]; rfl
theorem F23l7_chk:∀ m,F23l7 a b l2 l3 l4 g N m=chk Ld.src F27 l3 (F23j2 a b l2 l3 l4 g N) m
  | 0=>rfl
  | m+1=>by
    show F23b7 a b l2 l3 l4 g N (F23l7 a b l2 l3 l4 g N m)=_
    rw [F23l7_chk m]; rfl
theorem F23l5_chk:∀ m,F23l5 a b l2 l3 l4 g N m=chk Sp.src F29 l4 (F23j3 a b l2 l3 l4 g N) m
  | 0=>rfl
  | m+1=>by
    show F23b5 a b l2 l3 l4 g N (F23l5 a b l2 l3 l4 g N m)=_
    rw [F23l5_chk m]; rfl
end
theorem all1_iff {α:Type} {src ok:α→Int} {l:List α}:All1 src ok l 0↔(∀ x∈l,ok x=0)∧Adj src l:=by
  constructor
  · intro h
    refine ⟨fun x hx=>?_,fun i x y hx hy=>?_⟩
    · obtain ⟨i,hi,he⟩:=List.getElem_of_mem hx
      exact (h i x (Nat.zero_le _) (by rw [List.getElem?_eq_getElem hi,he])).1
    exact (h (i+1) y (Nat.zero_le _) hy).2 x (by omega) hx
  intro h j x _ hx
  refine ⟨h.1 x (List.mem_of_getElem? hx),fun y hj hy=>h.2 (j - 1) y x hy ?_⟩
  rw [show j - 1+1=j by omega]; exact hx
end Go.K
end
section
namespace Go.K
open Go.RowKit
def gather {α:Type} (src:α→Int) (l:List α) (K:List Int→Option (List Int)):Nat→List Int→Int→Option (List Int)
  | 0=>fun _ _=>none
  | m+1=>fun out i =>
    if i < (l.length:Int) then
      gdO (0≤i) <|
      bp (l[(i).toNat]?) fun x =>
      gdO (out.length+1≤1000000000) <|
      ckO (i+1) <|
      gather src l K m (out++[src x]) (i+1)
    else K out
theorem gather_eq {α:Type} (src:α→Int) (l:List α) (K:List Int→Option (List Int)) (hl:l.length≤100000):∀ (m i:Nat) (out:List Int),i≤l.length→l.length < m+i→out.length+(l.length - i)≤1000000→gather src l K m out (i:Int)=K (out++(l.drop i).map src):=by
  intro m
  induction m with
  | zero=>intro i out h0 h; exfalso; omega
  | succ m ih =>
    intro i out h0 h1 h2
    unfold gather
    rcases gv l i with ⟨hi,e⟩ | ⟨x,hi,hx,e⟩
    · rw [if_neg (by omega),e,List.map_nil,List.append_nil]
    rw [if_pos (by omega),du (by omega),Int.toNat_natCast,hx,ba,du (by omega),dr (by unfold InR; omega),eh,ih (i+1) _ (by omega) (by omega) (by rw [List.length_append,List.length_singleton]; omega),e,List.map_cons,List.append_assoc]
    rfl
section
variable (l2 l3:List Ld) (l4:List Sp) (N:Nat)
theorem F64l3_g:∀ m,F64l3 l4 m=gather Sp.src l4 some m
  | 0=>rfl
  | m+1=>by
    show F64b3 l4 (F64l3 l4 m)=_
    rw [F64l3_g m]; rfl
theorem F64l4_g:∀ m,F64l4 l3 l4 N m=gather Ld.src l3 (F64j2 l4 N) m
  | 0=>rfl
  | m+1=>by
    show F64b4 l3 l4 N (F64l4 l3 l4 N m)=_
    rw [F64l4_g m]; rfl
theorem F64l5_g:∀ m,F64l5 l2 l3 l4 N m=gather Ld.src l2 (F64j1 l3 l4 N) m
  | 0=>rfl
  | m+1=>by
    show F64b5 l2 l3 l4 N (F64l5 l2 l3 l4 N m)=_
    rw [F64l5_g m]; rfl
end
theorem F64_eq (N:Nat) (p:Pl) (h1:p.loads.length≤100000) (h2:p.stands.length≤100000) (h3:p.spells.length≤100000) (n1:p.loads.length < N) (n2:p.stands.length < N) (n3:p.spells.length < N) :
    F64 N p.lo p.hi p.loads p.stands p.spells p.geese=some (la p):=by
  unfold F64
  rw [F64l5_g]
  have a:=gather_eq Ld.src p.loads (F64j1 p.stands p.spells N) h1 N 0 [] (by omega) (by omega) (by simp; omega)
  refine Eq.trans a ?_
  unfold F64j1
  rw [F64l4_g]
  have b:=gather_eq Ld.src p.stands (F64j2 p.spells N) h2 N 0 ([]++(p.loads.drop 0).map Ld.src) (by omega) (by omega) (by simp; omega)
  refine Eq.trans b ?_
  unfold F64j2
  rw [F64l3_g]
  have c:=gather_eq Sp.src p.spells some h3 N 0 ([]++(p.loads.drop 0).map Ld.src++(p.stands.drop 0).map Ld.src) (by omega) (by omega) (by simp; omega)
  refine Eq.trans c ?_
  rfl
theorem F23l4_eq (N:Nat) (l:List Int) (hl:l.length≤100000) (hN:l.length < N):∀ (m i:Nat),i≤l.length→l.length < m+i →
    ((∀ j x,i≤j→l[j]?=some x→¬ x∈l.take j)→F23l4 N l m (i:Int)=some 0)∧(¬ (∀ j x,i≤j→l[j]?=some x→¬ x∈l.take j)→F23l4 N l m (i:Int)=some 13):=by
  intro m
  induction m with
  | zero=>intro i h0 h; exfalso; omega
  | succ m ih =>
    intro i h0 h1
    show (_→F23b4 N l (F23l4 N l m) (i:Int)=_)∧(_→F23b4 N l (F23l4 N l m) (i:Int)=_)
    unfold F23b4
    rcases gv l i with ⟨hi,e⟩ | ⟨x,hi,hx,e⟩
    · rw [if_neg (by omega)]
      exact ⟨fun _=>rfl,fun hn=>absurd (fun j y hj hy=>absurd (bu hy) (by omega)) hn⟩
    have ht:(l.take i).length≤l.length:=List.length_take_le' i l
    rw [if_pos (by omega),du (by omega),du (by omega),Int.toNat_natCast,du (by omega),hx,ba,F59_eq _ _ (by omega) N (by omega),ba]
    have ih':=ih (i+1) (by omega) (by omega)
    by_cases hm:x∈l.take i
    · rw [decide_eq_true hm,if_pos rfl]
      exact ⟨fun hA=>absurd hm (hA i x (Nat.le_refl _) hx),fun _=>rfl⟩
    rw [decide_eq_false hm,if_neg (by decide),dr (by unfold InR; omega),eh]
    refine ⟨fun hA=>ih'.1 fun j y hj hy=>hA j y (by omega) hy,fun hn=>ih'.2 fun hA=>hn fun j y hj hy=>?_⟩
    rcases Nat.eq_or_lt_of_le hj with e' | e'
    · subst e'; rw [hx] at hy; injection hy with hy; subst hy; exact hm
    exact hA j y e' hy
theorem nodup_iff (l:List Int):(∀ j x,0≤j→l[j]?=some x→¬ x∈l.take j)↔l.Nodup:=by
  constructor
  · intro h
    rw [List.nodup_iff_pairwise_ne]
    rw [List.pairwise_iff_getElem]
    intro i j hi hj hij he
    refine h j l[j] (Nat.zero_le _) (List.getElem?_eq_getElem hj) ?_
    rw [← he]
    exact List.mem_take_iff_getElem.2 ⟨i,by omega,rfl⟩
  intro h j x _ hx hm
  obtain ⟨i,hi,he⟩:=List.mem_take_iff_getElem.1 hm
  have hj:=bu hx
  rw [List.getElem?_eq_getElem hj] at hx
  injection hx with hx
  have:=(List.pairwise_iff_getElem.1 h) i j (by omega) hj (by omega)
  exact this (he.trans hx.symm)
end Go.K
end
section
namespace Go.K
open Go.RowKit
theorem jw (n a b:Int):inB n a b=true↔a≤n∧n≤b:=by unfold inB; simp
theorem F23_eq (N:Nat) (hN:1000≤N) (p:Pl):F23 N p.lo p.hi p.loads p.stands p.spells p.geese=some (cg (dw p) 13):=by
  have no:¬ RefOk p→(some (13:Int)=some (cg (dw p) 13)):=fun h=>by
    rw [Bool.eq_false_iff.2 (fun hp=>h ((ek p).1 hp))]; rfl
  unfold F23
  rw [F79_eq,ba,F80_eq,ba]
  by_cases h1:cu p.lo p.hi=true
  · rw [if_pos h1]
    by_cases h2:inB p.geese 0 60=true
    · have h2':=(jw _ _ _).1 h2
      rw [if_pos h2]
      by_cases h3:60 < (p.loads.length:Int)
      · rw [if_pos h3]; exact no fun h=>by have:=h.l1; omega
      rw [if_neg h3]
      by_cases h4:60 < (p.stands.length:Int)
      · rw [if_pos h4]; exact no fun h=>by have:=h.l2; omega
      rw [if_neg h4]
      by_cases h5:60 < (p.spells.length:Int)
      · rw [if_pos h5]; exact no fun h=>by have:=h.l3; omega
      rw [if_neg h5,F23l9_chk]
      have c1:=chk_eq Ld.src F25 (okL 10) F25_eq p.loads (F23j1 p.lo p.hi p.loads p.stands p.spells p.geese N) (by omega) N 0 (by omega) (by omega)
      by_cases a1:All1 Ld.src (okL 10) p.loads 0
      · refine Eq.trans (c1.1 a1) ?_
        unfold F23j1
        rw [F23l7_chk]
        have c2:=chk_eq Ld.src F27 (okL 11) F27_eq p.stands (F23j2 p.lo p.hi p.loads p.stands p.spells p.geese N) (by omega) N 0 (by omega) (by omega)
        by_cases a2:All1 Ld.src (okL 11) p.stands 0
        · refine Eq.trans (c2.1 a2) ?_
          unfold F23j2
          rw [F23l5_chk]
          have c3:=chk_eq Sp.src F29 okS F29_eq p.spells (F23j3 p.lo p.hi p.loads p.stands p.spells p.geese N) (by omega) N 0 (by omega) (by omega)
          by_cases a3:All1 Sp.src okS p.spells 0
          · refine Eq.trans (c3.1 a3) ?_
            unfold F23j3
            have hs:(la p).length≤180:=by unfold la; simp only [List.length_append,List.length_map]; omega
            rw [F64_eq N p (by omega) (by omega) (by omega) (by omega) (by omega) (by omega),ba]
            have c4:=F23l4_eq N (la p) (by omega) (by omega) N 0 (by omega) (by omega)
            rw [nodup_iff] at c4
            by_cases a4:(la p).Nodup
            · refine Eq.trans (c4.1 a4) ?_
              have b1:=all1_iff.1 a1; have b2:=all1_iff.1 a2; have b3:=all1_iff.1 a3
              rw [(ek p).2 ⟨h1,h2'.1,h2'.2,by omega,by omega,by omega,b1.1,b1.2,b2.1,b2.2,b3.1,b3.2,a4⟩]; rfl
            exact Eq.trans (c4.2 a4) (no fun h=>a4 h.nd)
          exact Eq.trans (c3.2 a3) (no fun h=>a3 (all1_iff.2 ⟨h.o3,h.a3⟩))
        exact Eq.trans (c2.2 a2) (no fun h=>a2 (all1_iff.2 ⟨h.o2,h.a2⟩))
      exact Eq.trans (c1.2 a1) (no fun h=>a1 (all1_iff.2 ⟨h.o1,h.a1⟩))
    rw [if_neg h2]; exact no fun h=>h2 ((jw _ _ _).2 ⟨h.g0,h.g1⟩)
  rw [if_neg h1]; exact no fun h=>h1 h.sown
theorem F88_eq (N:Nat) (hN:1000≤N) (p:Pl) (h dy:Int):F88 N p.lo p.hi p.loads p.stands p.spells p.geese h dy=some (ec p h dy):=by
  unfold F88 ec
  rw [F23_eq N hN,ba]
  by_cases h1:dw p=true
  · rw [if_pos h1,h1,if_pos (show cg true 13=0 from rfl),F80_eq,ba]
    show (if dx h=true then _ else _)=_
    by_cases h2:dx h=true
    · rw [if_pos h2,if_pos h2,F140_eq,ba]
      by_cases h3:ci dy=true
      · rw [if_pos h3,if_pos h3]
      rw [if_neg h3,if_neg h3]
    rw [if_neg h2,if_neg h2]
  rw [if_neg h1,Bool.eq_false_iff.2 h1,if_neg (show ¬ cg false 13=0 by decide)]
end Go.K
end
section
namespace Go.K
open Go.RowKit
theorem crt_le {p:Pl} (hv:dw p=true) (dy:Int):∀ x∈ax p dy,x.lo≤x.hi:=fun x hx=>by
  have h9:=((ek p).1 hv).o1 x (List.mem_filter.1 (sortF_mem.1 hx)).1
  have:=ia h9 (by decide)
  simp only [fk,cu,Bool.and_eq_true,decide_eq_true_eq] at this
  omega
theorem settle_all (N:Nat) (hN:1000≤N) {p:Pl} (hv:dw p=true) (dy:Int):F120 N (ax p dy) (bj (ae p dy) (ax p dy))=some (refF (bj (ae p dy) (ax p dy)) (ax p dy),(ay (ae p dy) (ax p dy)).2):=by
  have hr:=(ek p).1 hv
  have hok:=scn_ok hv dy
  have h1:=ij p dy
  have h2:=jn p dy
  have:=hr.l1
  rw [F120_eq N _ _ (gu _ _) (by omega) hok.ld (je hok) (by omega),refF_yes (crt_le hv dy)]
theorem hourI_0 (p:Pl) (dy:Int):ec p 0 dy=fi p dy:=by
  unfold ec fi
  rw [show dx 0=true by decide]; simp
theorem hourI_v {p:Pl} {h dy:Int} (h0:ec p h dy=0):dw p=true:=by
  unfold ec at h0
  by_cases hv:dw p=true
  · exact hv
  rw [if_neg hv] at h0; exact absurd h0 (by decide)
end Go.K
end
section
namespace Go.K
open Go.RowKit
theorem F99_eq (N:Nat) (hN:1000≤N) (p:Pl) (h dy:Int):F99 N p.lo p.hi p.loads p.stands p.spells p.geese h dy =
    some (if ec p h dy=0 then if (ay (ae p dy) (ax p dy)).2=true then (ax p dy,(ay (ae p dy) (ax p dy)).1,0) else ([],[],14) else ([],[],ec p h dy)):=by
  unfold F99
  rw [F88_eq N hN,ba]
  by_cases h0:ec p h dy=0
  · have hv:=hourI_v h0
    have hr:=(ek p).1 hv
    have:=hr.l1; have:=hr.l2
    rw [if_pos h0,if_pos h0,F109_all N p dy [] (by omega) (by omega) (by omega) (by omega),ba,settle_all N hN hv dy,ba]
    by_cases h1:(ay (ae p dy) (ax p dy)).2=true
    · rw [if_pos h1,if_pos h1,refF_stood (crt_le hv dy) h1]
    rw [if_neg h1,if_neg h1]
  rw [if_neg h0,if_neg h0]
theorem F37_eq (N:Nat) (hN:1000≤N) (p:Pl) (h dy:Int):F37 N p.lo p.hi p.loads p.stands p.spells p.geese h dy=some ((kp p h dy).1.lo,(kp p h dy).1.hi,(kp p h dy).2):=by
  unfold F37
  rw [F99_eq N hN,ba]
  unfold kp ep
  by_cases h0:ec p h dy=0
  · have hv:=hourI_v h0
    have hr:=(ek p).1 hv
    have h1:=ij p dy
    have h2:=jn p dy
    have:=hr.l1
    simp only [if_pos h0]
    by_cases hs:(ay (ae p dy) (ax p dy)).2=true
    · have hl:=(lc (lb (crt_le hv dy) hs true)).2.1
      have hk:=ko (ax p dy) h
      simp only [if_pos hs,if_true]
      rw [F100_eq N _ _ h (by omega) (by omega),ba,du (by omega),Int.toNat_natCast,List.getD_eq_getElem?_getD,
        List.getElem?_eq_getElem (show dz (ax p dy) h < (ay (ae p dy) (ax p dy)).1.length by omega),ba]
      rfl
    simp only [if_neg hs]; rfl
  simp only [if_neg h0]
end Go.K
end
section
namespace Go.K
open Go.RowKit
theorem stoodC_pos (p:Pl) (h dy:Int):0≤(kp p h dy).1.lo:=by
  unfold kp ep
  by_cases h0:ec p h dy=0
  · have hv:=hourI_v h0
    have hso:=((ek p).1 hv).sown
    simp only [cu,Bool.and_eq_true,decide_eq_true_eq] at hso
    rw [if_pos h0]
    by_cases hs:(ay (ae p dy) (ax p dy)).2=true
    · have hl:=(lc (lb (crt_le hv dy) hs true)).2.1
      have hk:=ko (ax p dy) h
      have hg:(ay (ae p dy) (ax p dy)).1[dz (ax p dy) h]?=some (ay (ae p dy) (ax p dy)).1[dz (ax p dy) h]:=List.getElem?_eq_getElem (by omega)
      have:=(stoodF_pos (p:=ae p dy) (by show 0≤p.lo; omega) hs hg).1
      simp only [if_pos hs,if_true]
      rw [List.getD_eq_getElem?_getD,hg]; exact this
    simp only [if_neg hs]; decide
  rw [if_neg h0]; exact Int.le_refl 0
theorem F46_eq (N:Nat) (hN:1000≤N) (p:Pl) (h dy:Int):F46 N p.lo p.hi p.loads p.stands p.spells p.geese h dy=some (clearC p h dy):=by
  have hp:=stoodC_pos p h dy
  unfold F46 clearC kq
  rw [F37_eq N hN,ba]
  by_cases h0:(kp p h dy).2=0
  · simp only [if_pos h0]
    by_cases h1:(kp p h dy).1.hi=0
    · simp [h1]
    by_cases h2:0 < (kp p h dy).1.lo
    · rw [if_neg h1,if_pos h2,decide_eq_false h1,decide_eq_false (show ¬ (kp p h dy).1.lo=0 by omega)]; rfl
    rw [if_neg h1,if_neg h2,decide_eq_false h1,decide_eq_true (show (kp p h dy).1.lo=0 by omega)]; rfl
  simp only [if_neg h0]
end Go.K
end
section
namespace Go.K
open Go.RowKit
theorem F117l1_eq (l:List Sp) (h dy:Int) (hl:l.length≤100000):∀ (m i:Nat),i≤l.length→l.length < m+i →
    F117l1 l h dy m (i:Int)=some ((((l.drop i).filter fun x=>bo x.kn x.un dy)).any fun x=>decide (x.fr≤h) && decide (h≤x.to)):=by
  intro m
  induction m with
  | zero=>intro i h0 h; exfalso; omega
  | succ m ih =>
    intro i h0 h1
    show F117b1 l h dy (F117l1 l h dy m) (i:Int)=_
    unfold F117b1 F117j2
    rcases gv l i with ⟨hi,e⟩ | ⟨x,hi,hx,e⟩
    · rw [if_neg (by omega),e]; rfl
    rw [if_pos (by omega),du (by omega),Int.toNat_natCast,hx,ba,F147_eq,ba,F80_eq,e]
    have hr:=ih (i+1) (by omega) (by omega)
    by_cases hp:bo x.kn x.un dy=true
    · rw [if_pos hp,ba,List.filter_cons_of_pos (p:=fun x:Sp=>bo x.kn x.un dy) hp,List.any_cons]
      by_cases hq:inB h x.fr x.to=true
      · rw [if_pos hq,show (decide (x.fr≤h) && decide (h≤x.to))=true from hq]; rfl
      rw [if_neg hq,show (decide (x.fr≤h) && decide (h≤x.to))=false from Bool.eq_false_iff.2 hq,dr (by unfold InR; omega),eh,hr]; rfl
    rw [if_neg hp,dr (by unfold InR; omega),eh,List.filter_cons_of_neg (p:=fun x:Sp=>bo x.kn x.un dy) hp,hr]
theorem F117_eq (N:Nat) (hN:1000≤N) (p:Pl) (h dy:Int) (h0:0≤h) (hl:p.spells.length≤60):F117 N p.lo p.hi p.loads p.stands p.spells p.geese h dy=some (shutF (ae p dy) h):=by
  unfold F117 shutF
  rw [F80_eq,ba,Int.tmod_eq_emod_of_nonneg h0]
  have hm:0≤h % 24∧h % 24 < 24:=by omega
  by_cases h1:inB (h % 24) 8 18=true
  · have:=(jw _ _ _).1 h1
    have e:=F117l1_eq p.spells h dy (by omega) N 0 (by omega) (by omega)
    rw [if_pos h1,decide_eq_false (show ¬ h % 24 < 8 by omega),decide_eq_false (show ¬ 19≤h % 24 by omega)]
    refine Eq.trans e ?_
    rfl
  rw [if_neg h1]
  by_cases h2:h % 24 < 8
  · rw [decide_eq_true h2]; rfl
  rw [decide_eq_false h2,decide_eq_true (show 19≤h % 24 by have:¬ (8≤h % 24∧h % 24≤18):=fun hh=>h1 ((jw _ _ _).2 hh); omega)]; rfl
theorem hourI_h {p:Pl} {h dy:Int} (h0:ec p h dy=0):0≤h:=by
  unfold ec at h0
  rw [if_pos (hourI_v h0)] at h0
  by_cases hv:dx h=true
  · unfold dx at hv; simp only [Bool.and_eq_true,decide_eq_true_eq] at hv; exact hv.1
  rw [if_neg hv] at h0; exact absurd h0 (by decide)
theorem F50_eq (N:Nat) (hN:1000≤N) (p:Pl) (h dy:Int):F50 N p.lo p.hi p.loads p.stands p.spells p.geese h dy=some (shutC p h dy):=by
  unfold F50 shutC
  rw [F88_eq N hN,ba]
  by_cases h0:ec p h dy=0
  · rw [if_pos h0,if_pos h0,F117_eq N hN p h dy (hourI_h h0) ((ek p).1 (hourI_v h0)).l3,ba]
  rw [if_neg h0,if_neg h0]
end Go.K
end
section
namespace Go.K
open Go.RowKit
def inL (l:List Int) (j:Int):Bool:=decide (j∈l)
end Go.K
end
section
namespace Go.K
open Go.RowKit
def putL (x:Int):List Int→List Int
  | []=>[x]
  | y :: l=>if x≤y then x :: (y :: l).filter (fun z=>decide (z≠x)) else y :: putL x l
theorem F71d_eq (l:List Int) (p:Int) (hl:l.length≤100000):∀ (m i:Nat) (out:List Int),i≤l.length→l.length < m+i→out.length≤i+1 →
    F71l2 l p m out true (i:Int)=some (out++(l.drop i).filter (fun z=>decide (z≠p))):=by
  intro m
  induction m with
  | zero=>intro i out h0 h; exfalso; omega
  | succ m ih =>
    intro i out h0 h ho
    show F71b2 l p (F71l2 l p m) out true (i:Int)=_
    unfold F71b2
    rcases gv l i with ⟨hi,e⟩ | ⟨x,hi,hx,e⟩
    · rw [if_neg (by omega),e]; unfold F71j1; rw [if_pos rfl]; simp
    rw [if_pos (by omega),if_pos rfl,du (by omega),Int.toNat_natCast,hx,ba,ite_self]
    unfold F71j5 F71j4 F71j3
    rw [du (by omega),Int.toNat_natCast,hx,ba,e]
    by_cases hp:x=p
    · rw [if_pos hp,dr (by unfold InR; omega),eh,ih (i+1) out (by omega) (by omega) (by omega),List.filter_cons_of_neg (by simp [hp])]
    rw [if_neg hp,du (by omega),dr (by unfold InR; omega),eh,ih (i+1) _ (by omega) (by omega) (by simp; omega),List.filter_cons_of_pos (by simp [hp]),List.append_assoc]; rfl
theorem F71l_eq (l:List Int) (p:Int) (hl:l.length≤100000):∀ (m i:Nat) (out:List Int),i≤l.length→l.length < m+i→out.length≤i →
    F71l2 l p m out false (i:Int)=some (out++putL p (l.drop i)):=by
  intro m
  induction m with
  | zero=>intro i out h0 h; exfalso; omega
  | succ m ih =>
    intro i out h0 h ho
    show F71b2 l p (F71l2 l p m) out false (i:Int)=_
    unfold F71b2
    rcases gv l i with ⟨hi,e⟩ | ⟨x,hi,hx,e⟩
    · rw [if_neg (by omega),e]; unfold F71j1; rw [if_neg (by decide),du (by omega)]; rfl
    rw [if_pos (by omega),if_neg (by decide),du (by omega),Int.toNat_natCast,hx,ba,e]
    unfold putL
    by_cases hq:p≤x
    · rw [if_pos hq,if_pos hq,du (by omega)]
      unfold F71j4 F71j3
      rw [du (by omega),Int.toNat_natCast,hx,ba]
      by_cases hp:x=p
      · rw [if_pos hp,dr (by unfold InR; omega),eh,F71d_eq l p hl m (i+1) _ (by omega) (by omega) (by simp; omega),List.filter_cons_of_neg (by simp [hp]),List.append_assoc]; rfl
      rw [if_neg hp,du (by simp; omega),dr (by unfold InR; omega),eh,F71d_eq l p hl m (i+1) _ (by omega) (by omega) (by simp; omega),List.filter_cons_of_pos (by simp [hp]),List.append_assoc,List.append_assoc]; rfl
    have hp:¬ x=p:=by omega
    rw [if_neg hq,if_neg hq]
    unfold F71j5 F71j4 F71j3
    rw [du (by omega),Int.toNat_natCast,hx,ba,if_neg hp,du (by omega),dr (by unfold InR; omega),eh,ih (i+1) _ (by omega) (by omega) (by simp; omega),List.append_assoc]; rfl
theorem F71_eq (N:Nat) (l:List Int) (p:Int) (hl:l.length≤100000) (hN:l.length < N):F71 N l p=some (putL p l):=by
  have:=F71l_eq l p hl N 0 [] (by omega) (by omega) (by simp)
  rw [List.drop_zero,List.nil_append] at this
  exact this
end Go.K
end
section
namespace Go.K
open Go.RowKit
def cntG (L:List Int) (a:Int):Nat:=(L.filter fun z=>decide (a < z)).length
theorem sane1 (n:Nat):F13 (n+60)=some true:=by kernel_rfl
theorem F21l3_eq (l:List Int) (hl:l.length≤100000):∀ (m i:Nat),i≤l.length→l.length < m+i→F21l3 l l m true (i:Int)=some true:=by
  intro m
  induction m with
  | zero=>intro i h0 h; exfalso; omega
  | succ m ih =>
    intro i h0 h
    show F21b3 l l (F21l3 l l m) true (i:Int)=_
    unfold F21b3 F21j5
    rw [if_pos rfl]
    rcases gv l i with ⟨hi,e⟩ | ⟨x,hi,hx,e⟩
    · rw [if_neg (by omega)]; rfl
    rw [if_pos (by omega),du (by omega),Int.toNat_natCast,hx,ba,ba,if_pos rfl,dr (by unfold InR; omega),eh]
    exact ih (i+1) (by omega) (by omega)
theorem F21_refl (N:Nat) (l:List Int) (hl:l.length≤100000) (hN:l.length < N):F21 N l l=some true:=by
  unfold F21 F21j1
  rw [if_pos rfl]
  exact F21l3_eq l hl N 0 (by omega) (by omega)
theorem lenB_v {p:Pl} (hv:dw p=true) (dy:Int):lenB (ae p dy) (ax p dy)=true:=by
  have hr:=(ek p).1 hv
  have:=hr.l1; have:=hr.l2; have:=hr.l3
  have h1:=ij p dy
  have h2:=jn p dy
  simp only [lenB,Bool.and_eq_true,decide_eq_true_eq]; omega
theorem bd_rgB {lo hi:Int} (h:Bd 10000 ⟨lo,hi⟩):rgB lo hi=true:=by
  have:=h.a; have:=h.b; have:=h.c; have:=h.d
  simp only [rgB,Bool.and_eq_true,decide_eq_true_eq]; simp only at *; omega
theorem ok_scB {p:Pl} {cs:List Ld} (hl:lenB p cs=true) (h:ScOk p cs):scB p cs=true:=by
  simp only [scB,Bool.and_eq_true,List.all_eq_true]
  refine ⟨⟨⟨hl,bd_rgB h.sown⟩,fun x hx=>bd_rgB (h.st x hx)⟩,fun x hx=>?_⟩
  have:=h.ld x hx
  simp only [fdB,Bool.and_eq_true,decide_eq_true_eq]
  exact ⟨⟨⟨this.a,this.b⟩,this.c⟩,this.d⟩
theorem scB_v {p:Pl} (hv:dw p=true) (dy:Int):scB (ae p dy) (ax p dy)=true:=ok_scB (lenB_v hv dy) (scn_ok hv dy)
theorem F86_eq {p:Pl} (hv:dw p=true) (dy:Int):F86 p.lo p.hi p.loads p.stands p.spells p.geese dy=some ((ae p dy).lo,(ae p dy).hi,(ae p dy).loads,(ae p dy).stands,(ae p dy).spells,(ae p dy).geese,ax p dy):=by
  have hr:=(ek p).1 hv
  exact du ⟨hr.l1,hr.l2,hr.l3⟩
end Go.K
end
