/- Y7, Y8, Y9, Ya, Yb, Yc, Yd, Ye, Yf, Yg. -/
import Derived.Test.YtinkdlmimiefaaaGreatPYA
import Derived.Test.YtinkdlmimiefaaaGreatPM39
import Derived.Test.YtinkdlmimiefaaaGreatPM41
import Derived.Test.YtinkdlmimiefaaaGreatPEa
import Derived.Test.YtinkdlmimiefaaaGreatPE
import Derived.KernelRfl
set_option linter.unusedVariables false
set_option linter.unusedSimpArgs false
section
/- The reference's check of a plot: the program's. No condition. -/
namespace Go.K
open Go.RowKit
set_option linter.unusedVariables false
set_option linter.unusedSimpArgs false
/-- one list: each is valid, the sources rise -/
def chk {α:Type} (src:α→Int) (ok:α→Option Int) (l:List α) (K:Option Int):Nat→Int→Option Int
  | 0=>fun _=>none
  | m+1=>fun v =>
    if v < (l.length:Int) then
      gdO (0≤v) <|
      bindO (l[(v).toNat]?) fun x =>
      bindO (ok x) fun y =>
      if y=0 then
        if 0 < v then
          ckO (v - 1) <|
          gdO (0≤(v - 1)) <|
          bindO (l[(v - 1).toNat]?) fun x' =>
          if src x≤src x' then
            some 13
          else
            ckO (v+1) <| chk src ok l K m (v+1)
        else
          ckO (v+1) <| chk src ok l K m (v+1)
      else
        some 13
    else
      K
def One {α:Type} (src:α→Int) (ok:α→Int) (l:List α) (j:Nat) (x:α):Prop:=ok x=0∧∀ y,0 < j→l[j - 1]?=some y→src y < src x
def All1 {α:Type} (src:α→Int) (ok:α→Int) (l:List α) (i:Nat):Prop:=∀ j x,i≤j→l[j]?=some x→One src ok l j x
theorem chk_eq {α:Type} (src:α→Int) (ok:α→Option Int) (oki:α→Int) (hok:∀ x,ok x=some (oki x)) (l:List α) (K:Option Int) (hl:l.length≤100000):∀ (m i:Nat),i≤l.length→l.length < m+i →
    (All1 src oki l i→chk src ok l K m (i:Int)=K)∧(¬ All1 src oki l i→chk src ok l K m (i:Int)=some 13):=by
  intro m
  induction m with
  | zero=>intro i h0 h; exfalso; omega
  | succ m ih =>
    intro i h0 h1
    unfold chk
    rcases drop_cases l i with ⟨hi,e⟩ | ⟨x,hi,hx,e⟩
    · rw [if_neg (by omega)]
      exact ⟨fun _=>rfl,fun hn=>absurd (fun j y hj hy=>absurd (lt_of_get hy) (by omega)) hn⟩
    · rw [if_pos (by omega),gdO_pos (by omega),Int.toNat_natCast,hx,bindO_some,hok,bindO_some]
      have ih':=ih (i+1) (by omega) (by omega)
      have both:One src oki l i x→((All1 src oki l i→chk src ok l K m ((i+1:Nat):Int)=K)∧(¬ All1 src oki l i→chk src ok l K m ((i+1:Nat):Int)=some 13)):=fun ho =>
        ⟨fun hA=>ih'.1 fun j y hj hy=>hA j y (by omega) hy,fun hn=>ih'.2 fun hA=>hn fun j y hj hy=>by
          rcases Nat.eq_or_lt_of_le hj with e | e
          · subst e; rw [hx] at hy; injection hy with hy; subst hy; exact ho
          · exact hA j y e hy⟩
      have bad:¬ One src oki l i x→((All1 src oki l i→some (13:Int)=K)∧(¬ All1 src oki l i→some (13:Int)=some 13)):=fun hb=>⟨fun hA=>absurd (hA i x (Nat.le_refl _) hx) hb,fun _=>rfl⟩
      by_cases h2:oki x=0
      · rw [if_pos h2]
        by_cases h3:0 < i
        · have hy:l[i - 1]?=some l[i - 1]:=List.getElem?_eq_getElem (by omega)
          generalize l[i - 1]=y at hy
          rw [if_pos (by omega),ckO_pos (by unfold InR; omega),gdO_pos (by omega),show ((i:Int) - 1).toNat=i - 1 by omega,hy,bindO_some]
          by_cases h4:src x≤src y
          · rw [if_pos h4]
            exact bad fun ho=>by have:=ho.2 y h3 hy; omega
          · rw [if_neg h4,ckO_pos (by unfold InR; omega),succ_cast]
            exact both ⟨h2,fun z _ hz=>by rw [hy] at hz; injection hz with hz; subst hz; omega⟩
        · rw [if_neg (by omega),ckO_pos (by unfold InR; omega),succ_cast]
          exact both ⟨h2,fun z h _=>absurd h h3⟩
      · rw [if_neg h2]
        exact bad fun ho=>h2 ho.1
section
variable (a b:Int) (l2 l3:List Ld) (l4:List Sp) (g:Int) (N:Nat)
theorem F23l9_chk:∀ m,F23l9 a b l2 l3 l4 g N m=chk Ld.src F25 l2 (F23j1 a b l2 l3 l4 g N) m
  | 0=>rfl
  | m+1=>by
    show F23b9 a b l2 l3 l4 g N (F23l9 a b l2 l3 l4 g N m)=_
    rw [F23l9_chk m]; rfl
theorem F23l7_chk:∀ m,F23l7 a b l2 l3 l4 g N m=chk Ld.src F27 l3 (F23j2 a b l2 l3 l4 g N) m
  | 0=>rfl
  | m+1=>by
    show F23b7 a b l2 l3 l4 g N (F23l7 a b l2 l3 l4 g N m)=_
    rw [F23l7_chk m]; rfl
theorem F23l5_chk:∀ m,F23l5 a b l2 l3 l4 g N m=chk Sp.src F29 l4 (F23j3 a b l2 l3 l4 g N) m
  | 0=>rfl
  | m+1=>by
    show F23b5 a b l2 l3 l4 g N (F23l5 a b l2 l3 l4 g N m)=_
    rw [F23l5_chk m]; rfl
end
theorem all1_iff {α:Type} {src ok:α→Int} {l:List α}:All1 src ok l 0↔(∀ x∈l,ok x=0)∧Adj src l:=by
  constructor
  · intro h
    refine ⟨fun x hx=>?_,fun i x y hx hy=>?_⟩
    · obtain ⟨i,hi,he⟩:=List.getElem_of_mem hx
      exact (h i x (Nat.zero_le _) (by rw [List.getElem?_eq_getElem hi,he])).1
    · exact (h (i+1) y (Nat.zero_le _) hy).2 x (by omega) hx
  · intro h j x _ hx
    refine ⟨h.1 x (List.mem_of_getElem? hx),fun y hj hy=>h.2 (j - 1) y x hy ?_⟩
    rw [show j - 1+1=j by omega]; exact hx
end Go.K
end
section
/- The reference's check of a plot, whole, and what is asked. No condition. -/
namespace Go.K
open Go.RowKit
set_option linter.unusedVariables false
set_option linter.unusedSimpArgs false
def gather {α:Type} (src:α→Int) (l:List α) (K:List Int→Option (List Int)):Nat→List Int→Int→Option (List Int)
  | 0=>fun _ _=>none
  | m+1=>fun out i =>
    if i < (l.length:Int) then
      gdO (0≤i) <|
      bindO (l[(i).toNat]?) fun x =>
      gdO (out.length+1≤1000000000) <|
      ckO (i+1) <|
      gather src l K m (out++[src x]) (i+1)
    else K out
theorem gather_eq {α:Type} (src:α→Int) (l:List α) (K:List Int→Option (List Int)) (hl:l.length≤100000):∀ (m i:Nat) (out:List Int),i≤l.length→l.length < m+i→out.length+(l.length - i)≤1000000→gather src l K m out (i:Int)=K (out++(l.drop i).map src):=by
  intro m
  induction m with
  | zero=>intro i out h0 h; exfalso; omega
  | succ m ih =>
    intro i out h0 h1 h2
    unfold gather
    rcases drop_cases l i with ⟨hi,e⟩ | ⟨x,hi,hx,e⟩
    · rw [if_neg (by omega),e,List.map_nil,List.append_nil]
    · rw [if_pos (by omega),gdO_pos (by omega),Int.toNat_natCast,hx,bindO_some,gdO_pos (by omega),ckO_pos (by unfold InR; omega),succ_cast,ih (i+1) _ (by omega) (by omega) (by rw [List.length_append,List.length_singleton]; omega),e,List.map_cons,List.append_assoc]
      rfl
section
variable (l2 l3:List Ld) (l4:List Sp) (N:Nat)
theorem F64l3_g:∀ m,F64l3 l4 m=gather Sp.src l4 some m
  | 0=>rfl
  | m+1=>by
    show F64b3 l4 (F64l3 l4 m)=_
    rw [F64l3_g m]; rfl
theorem F64l4_g:∀ m,F64l4 l3 l4 N m=gather Ld.src l3 (F64j2 l4 N) m
  | 0=>rfl
  | m+1=>by
    show F64b4 l3 l4 N (F64l4 l3 l4 N m)=_
    rw [F64l4_g m]; rfl
theorem F64l5_g:∀ m,F64l5 l2 l3 l4 N m=gather Ld.src l2 (F64j1 l3 l4 N) m
  | 0=>rfl
  | m+1=>by
    show F64b5 l2 l3 l4 N (F64l5 l2 l3 l4 N m)=_
    rw [F64l5_g m]; rfl
end
theorem F64_eq (N:Nat) (p:Pl) (h1:p.loads.length≤100000) (h2:p.stands.length≤100000) (h3:p.spells.length≤100000) (n1:p.loads.length < N) (n2:p.stands.length < N) (n3:p.spells.length < N) :
    F64 N p.lo p.hi p.loads p.stands p.spells p.geese=some (srcsOf p):=by
  unfold F64
  rw [F64l5_g]
  have a:=gather_eq Ld.src p.loads (F64j1 p.stands p.spells N) h1 N 0 [] (by omega) (by omega) (by simp; omega)
  refine Eq.trans a ?_
  unfold F64j1
  rw [F64l4_g]
  have b:=gather_eq Ld.src p.stands (F64j2 p.spells N) h2 N 0 ([]++(p.loads.drop 0).map Ld.src) (by omega) (by omega) (by simp; omega)
  refine Eq.trans b ?_
  unfold F64j2
  rw [F64l3_g]
  have c:=gather_eq Sp.src p.spells some h3 N 0 ([]++(p.loads.drop 0).map Ld.src++(p.stands.drop 0).map Ld.src) (by omega) (by omega) (by simp; omega)
  refine Eq.trans c ?_
  rfl
theorem F23l4_eq (N:Nat) (l:List Int) (hl:l.length≤100000) (hN:l.length < N):∀ (m i:Nat),i≤l.length→l.length < m+i →
    ((∀ j x,i≤j→l[j]?=some x→¬ x∈l.take j)→F23l4 N l m (i:Int)=some 0)∧(¬ (∀ j x,i≤j→l[j]?=some x→¬ x∈l.take j)→F23l4 N l m (i:Int)=some 13):=by
  intro m
  induction m with
  | zero=>intro i h0 h; exfalso; omega
  | succ m ih =>
    intro i h0 h1
    show (_→F23b4 N l (F23l4 N l m) (i:Int)=_)∧(_→F23b4 N l (F23l4 N l m) (i:Int)=_)
    unfold F23b4
    rcases drop_cases l i with ⟨hi,e⟩ | ⟨x,hi,hx,e⟩
    · rw [if_neg (by omega)]
      exact ⟨fun _=>rfl,fun hn=>absurd (fun j y hj hy=>absurd (lt_of_get hy) (by omega)) hn⟩
    · have ht:(l.take i).length≤l.length:=List.length_take_le' i l
      rw [if_pos (by omega),gdO_pos (by omega),gdO_pos (by omega),Int.toNat_natCast,gdO_pos (by omega),hx,bindO_some,F59_eq _ _ (by omega) N (by omega),bindO_some]
      have ih':=ih (i+1) (by omega) (by omega)
      by_cases hm:x∈l.take i
      · rw [decide_eq_true hm,if_pos rfl]
        exact ⟨fun hA=>absurd hm (hA i x (Nat.le_refl _) hx),fun _=>rfl⟩
      · rw [decide_eq_false hm,if_neg (by decide),ckO_pos (by unfold InR; omega),succ_cast]
        refine ⟨fun hA=>ih'.1 fun j y hj hy=>hA j y (by omega) hy,fun hn=>ih'.2 fun hA=>hn fun j y hj hy=>?_⟩
        rcases Nat.eq_or_lt_of_le hj with e' | e'
        · subst e'; rw [hx] at hy; injection hy with hy; subst hy; exact hm
        · exact hA j y e' hy
theorem nodup_iff (l:List Int):(∀ j x,0≤j→l[j]?=some x→¬ x∈l.take j)↔l.Nodup:=by
  constructor
  · intro h
    rw [List.nodup_iff_pairwise_ne]
    rw [List.pairwise_iff_getElem]
    intro i j hi hj hij he
    refine h j l[j] (Nat.zero_le _) (List.getElem?_eq_getElem hj) ?_
    rw [← he]
    exact List.mem_take_iff_getElem.2 ⟨i,by omega,rfl⟩
  · intro h j x _ hx hm
    obtain ⟨i,hi,he⟩:=List.mem_take_iff_getElem.1 hm
    have hj:=lt_of_get hx
    rw [List.getElem?_eq_getElem hj] at hx
    injection hx with hx
    have:=(List.pairwise_iff_getElem.1 h) i j (by omega) hj (by omega)
    exact this (he.trans hx.symm)
end Go.K
end
section
/- The reference's check of a plot is the program's; what is asked. No condition. -/
namespace Go.K
open Go.RowKit
set_option linter.unusedVariables false
set_option linter.unusedSimpArgs false
theorem inB_iff (n a b:Int):inB n a b=true↔a≤n∧n≤b:=by unfold inB; simp
theorem F23_eq (N:Nat) (hN:1000≤N) (p:Pl):F23 N p.lo p.hi p.loads p.stands p.spells p.geese=some (codeI (plotB p) 13):=by
  have no:¬ RefOk p→(some (13:Int)=some (codeI (plotB p) 13)):=fun h=>by
    rw [Bool.eq_false_iff.2 (fun hp=>h ((plotB_iff p).1 hp))]; rfl
  unfold F23
  rw [F79_eq,bindO_some,F80_eq,bindO_some]
  by_cases h1:areSheavesB p.lo p.hi=true
  · rw [if_pos h1]
    by_cases h2:inB p.geese 0 60=true
    · have h2':=(inB_iff _ _ _).1 h2
      rw [if_pos h2]
      by_cases h3:60 < (p.loads.length:Int)
      · rw [if_pos h3]; exact no fun h=>by have:=h.l1; omega
      · rw [if_neg h3]
        by_cases h4:60 < (p.stands.length:Int)
        · rw [if_pos h4]; exact no fun h=>by have:=h.l2; omega
        · rw [if_neg h4]
          by_cases h5:60 < (p.spells.length:Int)
          · rw [if_pos h5]; exact no fun h=>by have:=h.l3; omega
          · rw [if_neg h5,F23l9_chk]
            have c1:=chk_eq Ld.src F25 (okL 10) F25_eq p.loads (F23j1 p.lo p.hi p.loads p.stands p.spells p.geese N) (by omega) N 0 (by omega) (by omega)
            by_cases a1:All1 Ld.src (okL 10) p.loads 0
            · refine Eq.trans (c1.1 a1) ?_
              unfold F23j1
              rw [F23l7_chk]
              have c2:=chk_eq Ld.src F27 (okL 11) F27_eq p.stands (F23j2 p.lo p.hi p.loads p.stands p.spells p.geese N) (by omega) N 0 (by omega) (by omega)
              by_cases a2:All1 Ld.src (okL 11) p.stands 0
              · refine Eq.trans (c2.1 a2) ?_
                unfold F23j2
                rw [F23l5_chk]
                have c3:=chk_eq Sp.src F29 okS F29_eq p.spells (F23j3 p.lo p.hi p.loads p.stands p.spells p.geese N) (by omega) N 0 (by omega) (by omega)
                by_cases a3:All1 Sp.src okS p.spells 0
                · refine Eq.trans (c3.1 a3) ?_
                  unfold F23j3
                  have hs:(srcsOf p).length≤180:=by unfold srcsOf; simp only [List.length_append,List.length_map]; omega
                  rw [F64_eq N p (by omega) (by omega) (by omega) (by omega) (by omega) (by omega),bindO_some]
                  have c4:=F23l4_eq N (srcsOf p) (by omega) (by omega) N 0 (by omega) (by omega)
                  rw [nodup_iff] at c4
                  by_cases a4:(srcsOf p).Nodup
                  · refine Eq.trans (c4.1 a4) ?_
                    have b1:=all1_iff.1 a1; have b2:=all1_iff.1 a2; have b3:=all1_iff.1 a3
                    rw [(plotB_iff p).2 ⟨h1,h2'.1,h2'.2,by omega,by omega,by omega,b1.1,b1.2,b2.1,b2.2,b3.1,b3.2,a4⟩]; rfl
                  · exact Eq.trans (c4.2 a4) (no fun h=>a4 h.nd)
                · exact Eq.trans (c3.2 a3) (no fun h=>a3 (all1_iff.2 ⟨h.o3,h.a3⟩))
              · exact Eq.trans (c2.2 a2) (no fun h=>a2 (all1_iff.2 ⟨h.o2,h.a2⟩))
            · exact Eq.trans (c1.2 a1) (no fun h=>a1 (all1_iff.2 ⟨h.o1,h.a1⟩))
    · rw [if_neg h2]; exact no fun h=>h2 ((inB_iff _ _ _).2 ⟨h.g0,h.g1⟩)
  · rw [if_neg h1]; exact no fun h=>h1 h.sown
theorem F88_eq (N:Nat) (hN:1000≤N) (p:Pl) (h dy:Int):F88 N p.lo p.hi p.loads p.stands p.spells p.geese h dy=some (hourI p h dy):=by
  unfold F88 hourI
  rw [F23_eq N hN,bindO_some]
  by_cases h1:plotB p=true
  · rw [if_pos h1,h1,if_pos (show codeI true 13=0 from rfl),F80_eq,bindO_some]
    show (if isHourB h=true then _ else _)=_
    by_cases h2:isHourB h=true
    · rw [if_pos h2,if_pos h2,F140_eq,bindO_some]
      by_cases h3:isDayB dy=true
      · rw [if_pos h3,if_pos h3]
      · rw [if_neg h3,if_neg h3]
    · rw [if_neg h2,if_neg h2]
  · rw [if_neg h1,Bool.eq_false_iff.2 h1,if_neg (show ¬ codeI false 13=0 by decide)]
end Go.K
end
section
/- The reference's Sound and Stood are the program's. No condition. -/
namespace Go.K
open Go.RowKit
set_option linter.unusedVariables false
set_option linter.unusedSimpArgs false
theorem crt_le {p:Pl} (hv:plotB p=true) (dy:Int):∀ x∈crtF p dy,x.lo≤x.hi:=fun x hx=>by
  have h9:=((plotB_iff p).1 hv).o1 x (List.mem_filter.1 (sortF_mem.1 hx)).1
  have:=codeI_ok h9 (by decide)
  simp only [loadB,areSheavesB,Bool.and_eq_true,decide_eq_true_eq] at this
  omega
/-- the row by all, settled -/
theorem settle_all (N:Nat) (hN:1000≤N) {p:Pl} (hv:plotB p=true) (dy:Int):F120 N (crtF p dy) (boundsF (scnF p dy) (crtF p dy))=some (refF (boundsF (scnF p dy) (crtF p dy)) (crtF p dy),(stoodF (scnF p dy) (crtF p dy)).2):=by
  have hr:=(plotB_iff p).1 hv
  have hok:=scn_ok hv dy
  have h1:=crt_len p dy
  have h2:=scn_len p dy
  have:=hr.l1
  rw [F120_eq N _ _ (bounds_len _ _) (by omega) hok.ld (boundsF_bd hok) (by omega),refF_yes (crt_le hv dy)]
theorem F89_all (N:Nat) (hN:1000≤N) {p:Pl} (hv:plotB p=true) (dy:Int) (bl:List Int):F89 N p.lo p.hi p.loads p.stands p.spells p.geese dy true bl=some (stoodF (scnF p dy) (crtF p dy)).2:=by
  have hr:=(plotB_iff p).1 hv
  have:=hr.l1; have:=hr.l2
  unfold F89
  rw [F109_all N p dy bl (by omega) (by omega) (by omega) (by omega),bindO_some,settle_all N hN hv dy,bindO_some]
theorem hourI_0 (p:Pl) (dy:Int):hourI p 0 dy=dayI p dy:=by
  unfold hourI dayI
  rw [show isHourB 0=true by decide]; simp
theorem hourI_v {p:Pl} {h dy:Int} (h0:hourI p h dy=0):plotB p=true:=by
  unfold hourI at h0
  by_cases hv:plotB p=true
  · exact hv
  · rw [if_neg hv] at h0; exact absurd h0 (by decide)
theorem F31_eq (N:Nat) (hN:1000≤N) (p:Pl) (dy:Int):F31 N p.lo p.hi p.loads p.stands p.spells p.geese dy=some (soundC p dy):=by
  unfold F31 soundC
  rw [F88_eq N hN,bindO_some,hourI_0]
  by_cases h0:dayI p dy=0
  · rw [if_pos h0,if_pos h0,F89_all N hN (hourI_v ((hourI_0 p dy).trans h0)),bindO_some]
  · rw [if_neg h0,if_neg h0]
end Go.K
end
section
/- The reference's Settle, Stood and Clear are the program's. No condition. -/
namespace Go.K
open Go.RowKit
set_option linter.unusedVariables false
set_option linter.unusedSimpArgs false
end Go.K
end
section
/- The reference's Clear is the program's. No condition. -/
namespace Go.K
open Go.RowKit
set_option linter.unusedVariables false
set_option linter.unusedSimpArgs false
end Go.K
end
section
/- The reference's Shut is the program's. No condition. -/
namespace Go.K
open Go.RowKit
set_option linter.unusedVariables false
set_option linter.unusedSimpArgs false
end Go.K
end
section
/- The reference's row by some loads and stands: the program's. No condition. -/
namespace Go.K
open Go.RowKit
set_option linter.unusedVariables false
set_option linter.unusedSimpArgs false
def inL (l:List Int) (j:Int):Bool:=decide (j∈l)
theorem F109l9_eq (st:List Ld) (dy:Int) (bl:List Int) (N:Nat) (hb:bl.length≤100000) (hN:bl.length < N):∀ (m:Nat) (A R:List Ld) (u:List Rg),u.length=A.length+1→(A++R).length≤100000→R.length < m →
    F109l9 st dy bl N m (byC A (inL bl)++R) u (A.length:Int)=F109j5 st dy bl N (byC (A++R) (inL bl)) (u++List.replicate R.length ⟨0,10000⟩):=by
  intro m
  induction m with
  | zero=>intro A R u hu h0 h; exfalso; omega
  | succ m ih =>
    intro A R u hu h0 h1
    rw [List.length_append] at h0
    show F109b9 st dy bl N (F109l9 st dy bl N m) _ u _=_
    unfold F109b9
    cases R with
    | nil =>
      rw [if_neg (by rw [List.append_nil,byC_len]; omega),List.append_nil,List.append_nil]
      simp
    | cons x R =>
      rw [List.length_cons] at h0 h1
      have hx:(byC A (inL bl)++x :: R)[A.length]?=some x:=by
        rw [List.getElem?_append_right (by rw [byC_len]; omega),byC_len,Nat.sub_self]; rfl
      rw [if_pos (by rw [List.length_append,byC_len,List.length_cons]; omega),gdO_pos (by omega),Int.toNat_natCast,hx,bindO_some,F59_eq bl x.src hb N hN,bindO_some]
      have hs:∀ y,(byC A (inL bl)++x :: R).set A.length y=byC A (inL bl)++[y]++R:=fun y=>by
        rw [List.set_append_right _ _ (by rw [byC_len]; omega),byC_len,Nat.sub_self,List.append_assoc]; rfl
      have key:∀ y,y=(if inL bl x.src then x else ⟨x.src,x.hr,0,10000,x.kn,x.un⟩) →
          F109j10 (F109l9 st dy bl N m) u (A.length:Int) (byC A (inL bl)++[y]++R)=F109j5 st dy bl N (byC (A++x :: R) (inL bl)) (u++List.replicate (R.length+1) ⟨0,10000⟩):=fun y hy=>by
        unfold F109j10
        have e:byC A (inL bl)++[y]=byC (A++[x]) (inL bl):=by unfold byC; rw [List.map_append,hy]; rfl
        have h3:=ih (A++[x]) R (u++[⟨0,10000⟩]) (by simp [hu]) (by simp; omega) (by omega)
        rw [List.length_append,List.length_singleton,List.append_assoc,List.append_assoc,List.singleton_append] at h3
        rw [gdO_pos (by omega),ckO_pos (by unfold InR; omega),succ_cast,e,h3,List.replicate_succ]; rfl
      by_cases hin:inL bl x.src=true
      · have hin':decide (x.src∈bl)=true:=hin
        rw [if_pos hin']
        have:=key x (if_pos hin).symm
        rw [List.append_assoc,List.singleton_append] at this
        exact this
      · have hin':¬ decide (x.src∈bl)=true:=hin
        rw [if_neg hin',hs]
        exact key _ (if_neg hin).symm
theorem F109l6_eq (st:List Ld) (dy:Int) (bl:List Int) (hb:bl.length≤100000) (N:Nat) (hbN:bl.length < N) (cs:List Ld) (hc:cs.length≤100000) (hN:cs.length < N) (hs:st.length≤100000):∀ (m i:Nat) (u:List Rg),u.length=cs.length+1→i≤st.length→st.length < m+i →
    F109l6 st dy bl N cs m u (i:Int)=some (cs,(((st.drop i).filter fun x=>countsB x.kn x.un dy).filter fun x=>inL bl x.src).foldl (boundS cs) u):=by
  intro m
  induction m with
  | zero=>intro i u hu h0 h; exfalso; omega
  | succ m ih =>
    intro i u hu h0 h1
    show F109b6 st dy bl N cs (F109l6 st dy bl N cs m) u (i:Int)=_
    unfold F109b6 F109j8 F109j7
    rcases drop_cases st i with ⟨hi,e⟩ | ⟨x,hi,hx,e⟩
    · rw [if_neg (by omega),e]; rfl
    · rw [if_pos (by omega),gdO_pos (by omega),Int.toNat_natCast,hx,bindO_some,e,F147_eq,bindO_some]
      by_cases hp:countsB x.kn x.un dy=true
      · rw [if_pos hp,List.filter_cons_of_pos (p:=fun x:Ld=>countsB x.kn x.un dy) hp,F59_eq bl x.src hb N hbN,bindO_some]
        by_cases hin:inL bl x.src=true
        · have hk:=cartF_le cs x.hr
          have hu':u[cartF cs x.hr]?=some (u.getD (cartF cs x.hr) ⟨0,0⟩):=by
            rw [List.getD_eq_getElem?_getD,List.getElem?_eq_getElem (show cartF cs x.hr < u.length by omega)]; rfl
          rw [if_pos (show decide (x.src∈bl)=true from hin),F100_eq N cs u x.hr hc hN,bindO_some,gdO_pos (by omega),Int.toNat_natCast,hu',bindO_some,F105_eq,bindO_some,ckO_pos (by unfold InR; omega),succ_cast,
            List.filter_cons_of_pos (p:=fun x:Ld=>inL bl x.src) hin,List.foldl_cons]
          exact ih (i+1) _ (by rw [List.length_set]; exact hu) (by omega) (by omega)
        · rw [if_neg (show ¬ decide (x.src∈bl)=true from hin),ckO_pos (by unfold InR; omega),succ_cast,List.filter_cons_of_neg (p:=fun x:Ld=>inL bl x.src) hin]
          exact ih (i+1) u hu (by omega) (by omega)
      · rw [if_neg hp,ckO_pos (by unfold InR; omega),succ_cast,List.filter_cons_of_neg (p:=fun x:Ld=>countsB x.kn x.un dy) hp]
        exact ih (i+1) u hu (by omega) (by omega)
theorem F109_by (N:Nat) (p:Pl) (dy:Int) (bl:List Int) (hl:p.loads.length≤50000) (hs:p.stands.length≤50000) (hb:bl.length≤100000) (hN:p.loads.length < N) (hN2:p.stands.length < N) (hbN:bl.length < N) :
    F109 N p.lo p.hi p.loads p.stands p.spells p.geese dy false bl=some (byC (crtF p dy) (inL bl),boundsF (byP (scnF p dy) (inL bl)) (byC (crtF p dy) (inL bl))):=by
  have hc:(crtF p dy).length≤p.loads.length:=by
    unfold crtF; rw [sortF_len]; exact List.length_filter_le _ _
  unfold F109
  rw [if_neg (by decide),F104_eq N _ _ _ _ _ _ _ hl hN,bindO_some,gdO_pos (by omega)]
  have h9:=F109l9_eq p.stands dy bl N hb hbN N [] (crtF p dy) [⟨p.lo,p.hi⟩] rfl (by rw [List.nil_append]; omega) (by omega)
  refine Eq.trans h9 ?_
  unfold F109j5
  rw [List.nil_append]
  have h6:=F109l6_eq p.stands dy bl hb N hbN (byC (crtF p dy) (inL bl)) (by rw [byC_len]; omega) (by rw [byC_len]; omega) (by omega) N 0 ([⟨p.lo,p.hi⟩]++List.replicate (crtF p dy).length ⟨0,10000⟩) (by rw [byC_len]; simp) (by omega) (by omega)
  rw [List.drop_zero] at h6
  refine Eq.trans h6 ?_
  unfold boundsF
  rw [byC_len]; rfl
theorem byC_le {cs:List Ld} (h:∀ x∈cs,x.lo≤x.hi) (S:Int→Bool):∀ x∈byC cs S,x.lo≤x.hi:=fun x hx=>by
  obtain ⟨y,hy,rfl⟩:=List.mem_map.1 hx
  split
  · exact h y hy
  · show (0:Int)≤10000; decide
theorem F89_by (N:Nat) (hN:1000≤N) {p:Pl} (hv:plotB p=true) (dy:Int) (bl:List Int) (hb:bl.length≤500):F89 N p.lo p.hi p.loads p.stands p.spells p.geese dy false bl=some (sndB (scnF p dy) (crtF p dy) (inL bl)):=by
  have hr:=(plotB_iff p).1 hv
  have:=hr.l1; have:=hr.l2
  have hok:=by_ok (scn_ok hv dy) (inL bl)
  have h1:=crt_len p dy
  have h2:=scn_len p dy
  unfold F89
  rw [F109_by N p dy bl (by omega) (by omega) (by omega) (by omega) (by omega) (by omega),bindO_some,F120_eq N _ _ (bounds_len _ _) (by rw [byC_len]; omega) hok.ld (boundsF_bd hok) (by rw [byC_len]; omega),bindO_some,refF_yes (byC_le (crt_le hv dy) _)]
  rfl
end Go.K
end
section
/- The reference's Clash is the program's. No condition. -/
namespace Go.K
open Go.RowKit
set_option linter.unusedVariables false
set_option linter.unusedSimpArgs false
def putL (x:Int):List Int→List Int
  | []=>[x]
  | y :: l=>if x≤y then x :: (y :: l).filter (fun z=>decide (z≠x)) else y :: putL x l
theorem F71d_eq (l:List Int) (p:Int) (hl:l.length≤100000):∀ (m i:Nat) (out:List Int),i≤l.length→l.length < m+i→out.length≤i+1 →
    F71l2 l p m out true (i:Int)=some (out++(l.drop i).filter (fun z=>decide (z≠p))):=by
  intro m
  induction m with
  | zero=>intro i out h0 h; exfalso; omega
  | succ m ih =>
    intro i out h0 h ho
    show F71b2 l p (F71l2 l p m) out true (i:Int)=_
    unfold F71b2
    rcases drop_cases l i with ⟨hi,e⟩ | ⟨x,hi,hx,e⟩
    · rw [if_neg (by omega),e]; unfold F71j1; rw [if_pos rfl]; simp
    · rw [if_pos (by omega),if_pos rfl,gdO_pos (by omega),Int.toNat_natCast,hx,bindO_some,ite_self]
      unfold F71j5 F71j4 F71j3
      rw [gdO_pos (by omega),Int.toNat_natCast,hx,bindO_some,e]
      by_cases hp:x=p
      · rw [if_pos hp,ckO_pos (by unfold InR; omega),succ_cast,ih (i+1) out (by omega) (by omega) (by omega),List.filter_cons_of_neg (by simp [hp])]
      · rw [if_neg hp,gdO_pos (by omega),ckO_pos (by unfold InR; omega),succ_cast,ih (i+1) _ (by omega) (by omega) (by simp; omega),List.filter_cons_of_pos (by simp [hp]),List.append_assoc]; rfl
theorem F71l_eq (l:List Int) (p:Int) (hl:l.length≤100000):∀ (m i:Nat) (out:List Int),i≤l.length→l.length < m+i→out.length≤i →
    F71l2 l p m out false (i:Int)=some (out++putL p (l.drop i)):=by
  intro m
  induction m with
  | zero=>intro i out h0 h; exfalso; omega
  | succ m ih =>
    intro i out h0 h ho
    show F71b2 l p (F71l2 l p m) out false (i:Int)=_
    unfold F71b2
    rcases drop_cases l i with ⟨hi,e⟩ | ⟨x,hi,hx,e⟩
    · rw [if_neg (by omega),e]; unfold F71j1; rw [if_neg (by decide),gdO_pos (by omega)]; rfl
    · rw [if_pos (by omega),if_neg (by decide),gdO_pos (by omega),Int.toNat_natCast,hx,bindO_some,e]
      unfold putL
      by_cases hq:p≤x
      · rw [if_pos hq,if_pos hq,gdO_pos (by omega)]
        unfold F71j4 F71j3
        rw [gdO_pos (by omega),Int.toNat_natCast,hx,bindO_some]
        by_cases hp:x=p
        · rw [if_pos hp,ckO_pos (by unfold InR; omega),succ_cast,F71d_eq l p hl m (i+1) _ (by omega) (by omega) (by simp; omega),List.filter_cons_of_neg (by simp [hp]),List.append_assoc]; rfl
        · rw [if_neg hp,gdO_pos (by simp; omega),ckO_pos (by unfold InR; omega),succ_cast,F71d_eq l p hl m (i+1) _ (by omega) (by omega) (by simp; omega),List.filter_cons_of_pos (by simp [hp]),List.append_assoc,List.append_assoc]; rfl
      · have hp:¬ x=p:=by omega
        rw [if_neg hq,if_neg hq]
        unfold F71j5 F71j4 F71j3
        rw [gdO_pos (by omega),Int.toNat_natCast,hx,bindO_some,if_neg hp,gdO_pos (by omega),ckO_pos (by unfold InR; omega),succ_cast,ih (i+1) _ (by omega) (by omega) (by simp; omega),List.append_assoc]; rfl
theorem F71_eq (N:Nat) (l:List Int) (p:Int) (hl:l.length≤100000) (hN:l.length < N):F71 N l p=some (putL p l):=by
  have:=F71l_eq l p hl N 0 [] (by omega) (by omega) (by simp)
  rw [List.drop_zero,List.nil_append] at this
  exact this
theorem putL_ins {x:Int}:∀ {l:List Int},x ∉ l→putL x l=insI x l
  | [],_=>rfl
  | y :: l,h=>by
    rw [List.mem_cons,not_or] at h
    unfold putL insI
    by_cases hq:x≤y
    · rw [if_pos hq,if_pos hq]
      congr 1
      exact List.filter_eq_self.2 fun z hz=>by
        have:z≠x:=by
          rcases List.mem_cons.1 hz with rfl | hz
          · exact fun e=>h.1 e.symm
          · exact fun e=>h.2 (e ▸ hz)
        simp [this]
    · rw [if_neg hq,if_neg hq,putL_ins h.2]
theorem putL_fold:∀ (l acc:List Int),(l++acc).Nodup→acc.Pairwise (· ≤ ·)→(l.foldl (fun a x=>putL x a) acc).Pairwise (· ≤ ·)∧(l.foldl (fun a x=>putL x a) acc).Perm (l++acc)
  | [],acc,_,hs=>⟨hs,List.Perm.refl _⟩
  | x :: l,acc,hn,hs=>by
    rw [List.cons_append,List.nodup_cons] at hn
    have hx:x ∉ acc:=fun h=>hn.1 (List.mem_append_right _ h)
    have hp:=insI_perm x acc
    have hpl:(l++insI x acc).Perm (x :: (l++acc)):=(List.Perm.append_left l hp).trans List.perm_middle
    rw [List.foldl_cons,putL_ins hx]
    have h:=putL_fold l (insI x acc) (hpl.nodup_iff.2 (List.nodup_cons.2 hn)) (insI_srt x acc hs)
    exact ⟨h.1,h.2.trans hpl⟩
theorem putL_sort {l:List Int} (h:l.Nodup):l.foldl (fun a x=>putL x a) []=sortI l:=by
  have h1:=putL_fold l [] (by simpa using h) List.Pairwise.nil
  rw [List.append_nil] at h1
  exact perm_srt_eq _ _ (h1.2.trans (sortI_perm l).symm) h1.1 (sortI_srt l)
theorem F94l2_eq (st:List Ld) (dy:Int) (N:Nat) (hs:st.length≤50000):∀ (m i:Nat) (u:List Int),i≤st.length→st.length < m+i→u.length+(st.length - i)≤90000→u.length+(st.length - i) < N→(((((st.drop i).filter fun x=>countsB x.kn x.un dy).map Ld.src)++u).Nodup)→u.Pairwise (· ≤ ·) →
    F94l2 st dy N m u (i:Int)=some ((((st.drop i).filter fun x=>countsB x.kn x.un dy).map Ld.src).foldl (fun a x=>putL x a) u):=by
  intro m
  induction m with
  | zero=>intro i u h0 h; exfalso; omega
  | succ m ih =>
    intro i u h0 h1 hb hN hn hsr
    show F94b2 st dy N (F94l2 st dy N m) u (i:Int)=_
    unfold F94b2 F94j3
    rcases drop_cases st i with ⟨hi,e⟩ | ⟨x,hi,hx,e⟩
    · rw [if_neg (by omega),e]; rfl
    · rw [if_pos (by omega),gdO_pos (by omega),Int.toNat_natCast,hx,bindO_some,e,F147_eq,bindO_some]
      rw [e] at hn
      by_cases hp:countsB x.kn x.un dy=true
      · rw [List.filter_cons_of_pos (p:=fun x:Ld=>countsB x.kn x.un dy) hp,List.map_cons] at hn
        rw [if_pos hp,F71_eq N u x.src (by omega) (by omega),bindO_some,ckO_pos (by unfold InR; omega),succ_cast,List.filter_cons_of_pos (p:=fun x:Ld=>countsB x.kn x.un dy) hp,List.map_cons,List.foldl_cons]
        rw [List.cons_append,List.nodup_cons] at hn
        have hxu:x.src ∉ u:=fun h=>hn.1 (List.mem_append_right _ h)
        have hpu:=insI_perm x.src u
        rw [putL_ins hxu]
        have hl:=hpu.length_eq
        rw [List.length_cons] at hl
        exact ih (i+1) _ (by omega) (by omega) (by omega) (by omega) (((List.Perm.append_left _ hpu).trans List.perm_middle).nodup_iff.2 (List.nodup_cons.2 hn)) (insI_srt _ _ hsr)
      · rw [List.filter_cons_of_neg (p:=fun x:Ld=>countsB x.kn x.un dy) hp] at hn
        rw [if_neg hp,ckO_pos (by unfold InR; omega),succ_cast,List.filter_cons_of_neg (p:=fun x:Ld=>countsB x.kn x.un dy) hp]
        exact ih (i+1) u (by omega) (by omega) (by omega) (by omega) hn hsr
theorem F94l4_eq (lo st:List Ld) (dy:Int) (N:Nat) (hs:st.length≤50000) (hl:lo.length≤50000):∀ (m i:Nat) (u:List Int),i≤lo.length→lo.length < m+i→u.length+(lo.length - i)+st.length≤90000→u.length+(lo.length - i)+st.length < N →
    (((((lo.drop i).filter fun x=>countsB x.kn x.un dy).map Ld.src)++(((st.filter fun x=>countsB x.kn x.un dy).map Ld.src)++u)).Nodup)→u.Pairwise (· ≤ ·) →
    F94l4 lo st dy N m u (i:Int)=some ((((lo.drop i).filter fun x=>countsB x.kn x.un dy).map Ld.src++(st.filter fun x=>countsB x.kn x.un dy).map Ld.src).foldl (fun a x=>putL x a) u):=by
  intro m
  induction m with
  | zero=>intro i u h0 h; exfalso; omega
  | succ m ih =>
    intro i u h0 h1 hb hN hn hsr
    show F94b4 lo st dy N (F94l4 lo st dy N m) u (i:Int)=_
    unfold F94b4 F94j5
    rcases drop_cases lo i with ⟨hi,e⟩ | ⟨x,hi,hx,e⟩
    · rw [e] at hn
      rw [if_neg (by omega),e]
      unfold F94j1
      have:=F94l2_eq st dy N hs N 0 u (by omega) (by omega) (by omega) (by omega) (by simpa using hn) hsr
      rw [List.drop_zero] at this
      exact this
    · rw [if_pos (by omega),gdO_pos (by omega),Int.toNat_natCast,hx,bindO_some,e,F147_eq,bindO_some]
      rw [e] at hn
      by_cases hp:countsB x.kn x.un dy=true
      · rw [List.filter_cons_of_pos (p:=fun x:Ld=>countsB x.kn x.un dy) hp,List.map_cons] at hn
        rw [if_pos hp,F71_eq N u x.src (by omega) (by omega),bindO_some,ckO_pos (by unfold InR; omega),succ_cast,List.filter_cons_of_pos (p:=fun x:Ld=>countsB x.kn x.un dy) hp,List.map_cons,List.cons_append,List.foldl_cons]
        rw [List.cons_append,List.nodup_cons] at hn
        have hxu:x.src ∉ u:=fun h=>hn.1 (List.mem_append_right _ (List.mem_append_right _ h))
        have hpu:=insI_perm x.src u
        rw [putL_ins hxu]
        have hl:=hpu.length_eq
        rw [List.length_cons] at hl
        refine ih (i+1) _ (by omega) (by omega) (by omega) (by omega) ?_ (insI_srt _ _ hsr)
        rw [← List.append_assoc] at hn ⊢
        exact (((List.Perm.append_left _ hpu).trans List.perm_middle).nodup_iff.2 (List.nodup_cons.2 hn))
      · rw [List.filter_cons_of_neg (p:=fun x:Ld=>countsB x.kn x.un dy) hp] at hn
        rw [if_neg hp,ckO_pos (by unfold InR; omega),succ_cast,List.filter_cons_of_neg (p:=fun x:Ld=>countsB x.kn x.un dy) hp]
        exact ih (i+1) u (by omega) (by omega) (by omega) (by omega) hn hsr
theorem F94_eq (N:Nat) (hN:1000≤N) {p:Pl} (hv:plotB p=true) (dy:Int):F94 N p.lo p.hi p.loads p.stands p.spells p.geese dy=some (sortI (srcL (scnF p dy))):=by
  have hr:=(plotB_iff p).1 hv
  have:=hr.l1; have:=hr.l2
  have hn:=srcL_nodup hv dy
  have h:=F94l4_eq p.loads p.stands dy N (by omega) (by omega) N 0 [] (by omega) (by omega) (by simp; omega) (by simp; omega) (by rw [List.append_nil]; exact hn) List.Pairwise.nil
  rw [List.drop_zero] at h
  rw [← putL_sort hn]
  exact h
theorem F95_eq (A B:List Int) (s:Int) (h:A.length+B.length≤100000):F95 (A++s :: B) (A.length:Int)=some (A++B):=by
  have e:((A.length:Int)+1).toNat=A.length+1:=by omega
  have h1:((A++s :: B).drop (A.length+1))=B:=by
    rw [show A++s :: B=(A++[s])++B by simp,show A.length+1=(A++[s]).length by simp,List.drop_left]
  have hlen:(A++s :: B).length=A.length+(B.length+1):=by rw [List.length_append,List.length_cons]
  have h2:(List.drop 0 (A++s :: B)).take (A.length - 0)=A:=by rw [List.drop_zero,Nat.sub_zero,List.take_left]
  unfold F95
  rw [Int.toNat_natCast,e,h2,h1,hlen]
  have h3:B.take (A.length+(B.length+1) - (A.length+1))=B:=List.take_of_length_le (by omega)
  rw [h3,gdO_pos (by omega),gdO_pos (by omega),gdO_pos (by omega),ckO_pos (by unfold InR; omega),gdO_pos (by omega),gdO_pos (by omega),gdO_pos (by omega)]
theorem inL_less {A B:List Int} {s:Int} (h:s ∉ A++B):(fun j=>if j=s then false else inL (A++s :: B) j)=inL (A++B):=by
  funext j
  by_cases hj:j=s
  · rw [if_pos hj,hj]; exact (decide_eq_false h).symm
  · rw [if_neg hj]; unfold inL; congr 1; simp [hj]
theorem inL_more {A B:List Int} {s:Int}:(fun j=>if j=s then true else if j=s then false else inL (A++s :: B) j)=inL (A++s :: B):=by
  funext j
  by_cases hj:j=s
  · rw [if_pos hj,hj]; exact (decide_eq_true (by simp)).symm
  · rw [if_neg hj,if_neg hj]
theorem F33l1_eq (N:Nat) (hN:1000≤N) {p:Pl} (hv:plotB p=true) (dy:Int):∀ (R K:List Int) (m:Nat),R.length < m→R.length+K.length≤400→(R.reverse++K).Nodup →
    F33l1 p.lo p.hi p.loads p.stands p.spells p.geese dy N m (R.reverse++K) ((R.length:Int) - 1)=some ((R.foldl (clashStep (scnF p dy) (crtF p dy)) (inL (R.reverse++K),K.reverse)).2.reverse,0):=by
  intro R
  induction R with
  | nil =>
    intro K m hm _ _
    obtain ⟨m,rfl⟩:∃ k,m=k+1:=⟨m - 1,by simp at hm; omega⟩
    show F33b1 _ _ _ _ _ _ _ N _ _ _=_
    unfold F33b1
    rw [if_neg (by simp)]; simp
  | cons s R ih =>
    intro K m hm hb hn
    rw [List.length_cons] at hm hb
    obtain ⟨m,rfl⟩:∃ k,m=k+1:=⟨m - 1,by omega⟩
    have e:(s :: R).reverse++K=R.reverse++s :: K:=by rw [List.reverse_cons,List.append_assoc]; rfl
    have hs:s ∉ R.reverse++K:=by
      rw [e] at hn
      exact (List.nodup_cons.1 (List.perm_middle.nodup_iff.1 hn)).1
    have hn2:(R.reverse++K).Nodup:=by
      rw [e] at hn
      exact (List.nodup_cons.1 (List.perm_middle.nodup_iff.1 hn)).2
    have h95:=F95_eq R.reverse K s (by rw [List.length_reverse]; omega)
    rw [List.length_reverse] at h95
    show F33b1 _ _ _ _ _ _ _ N _ _ _=_
    unfold F33b1 F33j2
    rw [if_pos (by rw [List.length_cons]; omega),show (((s :: R).length:Nat):Int) - 1=(R.length:Int) by rw [List.length_cons]; omega,e,h95,bindO_some,
      F89_by N hN hv dy _ (by rw [List.length_append,List.length_reverse]; omega),bindO_some,List.foldl_cons]
    have hst:clashStep (scnF p dy) (crtF p dy) (inL (R.reverse++s :: K),K.reverse) s=if sndB (scnF p dy) (crtF p dy) (inL (R.reverse++K))=true then (inL (R.reverse++s :: K),(s :: K).reverse) else (inL (R.reverse++K),K.reverse):=by
      unfold clashStep
      simp only [inL_less hs,inL_more,List.reverse_cons]
      rfl
    rw [hst]
    by_cases hq:sndB (scnF p dy) (crtF p dy) (inL (R.reverse++K))=true
    · rw [if_pos hq,if_pos hq,ckO_pos (by unfold InR; omega),ih (s :: K) m (by omega) (by rw [List.length_cons]; omega) (e ▸ hn)]
    · rw [if_neg hq,if_neg hq,ckO_pos (by unfold InR; omega),ih K m (by omega) (by omega) hn2]
theorem srcL_len {p:Pl} (hv:plotB p=true) (dy:Int):(srcL (scnF p dy)).length≤120:=by
  have hr:=(plotB_iff p).1 hv
  have:=hr.l1; have:=hr.l2
  have:=scn_len p dy
  unfold srcL
  rw [List.length_append,List.length_map,List.length_map]; omega
theorem F33_eq (N:Nat) (hN:1000≤N) (p:Pl) (dy:Int):F33 N p.lo p.hi p.loads p.stands p.spells p.geese dy=some (clashI p dy):=by
  unfold F33 clashI
  rw [F31_eq N hN,bindO_some]
  unfold soundC
  by_cases h0:dayI p dy=0
  · rw [if_pos h0,if_pos h0]
    have hv:plotB p=true:=(dayI_ok h0).1
    by_cases hs:(stoodF (scnF p dy) (crtF p dy)).2=true
    · simp only [hs,if_true]
    · have hsl:=sortI_len (srcL (scnF p dy))
      have hl:=srcL_len hv dy
      simp only [if_true]
      rw [if_neg hs,if_neg hs,F94_eq N hN hv,bindO_some,ckO_pos (by unfold InR; omega)]
      have hnd:(sortI (srcL (scnF p dy))).Nodup:=(sortI_perm _).nodup_iff.2 (srcL_nodup hv dy)
      have h:=F33l1_eq N hN hv dy (sortI (srcL (scnF p dy))).reverse [] N (by rw [List.length_reverse]; omega) (by rw [List.length_reverse]; simp; omega) (by simpa using hnd)
      rw [List.reverse_reverse,List.append_nil,List.length_reverse] at h
      rw [h]
      have he:inL (sortI (srcL (scnF p dy)))=srcB (scnF p dy):=by
        funext j
        unfold inL srcB
        congr 1
        exact propext (sortI_perm _).mem_iff
      rw [he]; rfl
  · rw [if_neg h0,if_neg h0]; simp only [if_neg h0]
end Go.K
end
section
/- The reference's CheckClash is the program's; SheafClashes. No condition. -/
namespace Go.K
open Go.RowKit
set_option linter.unusedVariables false
set_option linter.unusedSimpArgs false
theorem srcB_pos {p:Pl} (hv:plotB p=true) {dy x:Int} (h:srcB (scnF p dy) x=true):0 < x:=by
  have hr:=(plotB_iff p).1 hv
  have h:=of_decide_eq_true h
  rcases List.mem_append.1 h with h | h
  · obtain ⟨y,hy,rfl⟩:=List.mem_map.1 h
    exact okL_pos (by decide) (hr.o1 y (List.mem_filter.1 hy).1)
  · obtain ⟨y,hy,rfl⟩:=List.mem_map.1 h
    exact okL_pos (by decide) (hr.o2 y (List.mem_filter.1 hy).1)
/-- how many of a list are greater -/
def cntG (L:List Int) (a:Int):Nat:=(L.filter fun z=>decide (a < z)).length
theorem cntG_mono:∀ (L:List Int) {a x:Int},a≤x→cntG L x≤cntG L a
  | [],a,x,_=>Nat.le_refl _
  | z :: L,a,x,h=>by
    have ih:=cntG_mono L h
    unfold cntG at *
    by_cases h1:x < z
    · rw [List.filter_cons_of_pos (by simpa using h1),List.filter_cons_of_pos (by simp; omega)]; simpa using ih
    · rw [List.filter_cons_of_neg (by simpa using h1)]
      refine Nat.le_trans ih ?_
      by_cases h2:a < z
      · rw [List.filter_cons_of_pos (by simpa using h2),List.length_cons]; omega
      · rw [List.filter_cons_of_neg (by simpa using h2)]; exact Nat.le_refl _
theorem cntG_lt:∀ {L:List Int} {a x:Int},a < x→x∈L→cntG L x < cntG L a
  | z :: L,a,x,h,hx=>by
    rcases List.mem_cons.1 hx with rfl | hx
    · have:=cntG_mono L (show a≤x by omega)
      unfold cntG at *
      rw [List.filter_cons_of_neg (by simp),List.filter_cons_of_pos (by simpa using h),List.length_cons]; omega
    · have ih:=cntG_lt h hx
      unfold cntG at *
      by_cases h1:x < z
      · rw [List.filter_cons_of_pos (by simpa using h1),List.filter_cons_of_pos (by simp; omega),List.length_cons,List.length_cons]; omega
      · rw [List.filter_cons_of_neg (by simpa using h1)]
        refine Nat.lt_of_lt_of_le ih ?_
        by_cases h2:a < z
        · rw [List.filter_cons_of_pos (by simpa using h2),List.length_cons]; omega
        · rw [List.filter_cons_of_neg (by simpa using h2)]; exact Nat.le_refl _
theorem cntG_le (L:List Int) (a:Int):cntG L a≤L.length:=List.length_filter_le _ _
theorem someB_len {q:Pl} {L:List Int} (hL:∀ x,srcB q x=true→x∈L):∀ (l:List Int) (last:Int),someB q last l=true→l.length≤cntG L last
  | [],_,_=>Nat.zero_le _
  | x :: l,last,h=>by
    simp only [someB,Bool.and_eq_true,decide_eq_true_eq] at h
    have h1:=someB_len hL l x h.2
    have h2:=cntG_lt h.1.1 (hL x h.1.2)
    rw [List.length_cons]; omega
theorem someB_gt {q:Pl}:∀ (l:List Int) (last:Int),someB q last l=true→∀ x∈l,last < x
  | [],_,_,x,hx=>by cases hx
  | y :: l,last,h,x,hx=>by
    simp only [someB,Bool.and_eq_true,decide_eq_true_eq] at h
    rcases List.mem_cons.1 hx with rfl | hx
    · exact h.1.1
    · have:=someB_gt l y h.2 x hx; omega
theorem someB_nd {q:Pl}:∀ (l:List Int) (last:Int),someB q last l=true→l.Nodup
  | [],_,_=>List.nodup_nil
  | y :: l,last,h=>by
    simp only [someB,Bool.and_eq_true,decide_eq_true_eq] at h
    exact List.nodup_cons.2 ⟨fun hm=>by have:=someB_gt l y h.2 y hm; omega,someB_nd l y h.2⟩
theorem F35l2_eq (N:Nat) (hN:1000≤N) {p:Pl} (hv:plotB p=true) (dy:Int) (l:List Int) (hl:l.length≤400) (hn:l.Nodup):∀ (m:Nat) (A B:List Int),l=A++B→B.length < m →
    F35l2 p.lo p.hi p.loads p.stands p.spells p.geese dy l N m (A.length:Int)=some (if (B.all fun s=>sndB (scnF p dy) (crtF p dy) (lessS l s))=true then 0 else 15):=by
  intro m
  induction m with
  | zero=>intro A B h h0; exfalso; omega
  | succ m ih =>
    intro A B h h0
    have hlen:l.length=A.length+B.length:=by rw [h,List.length_append]
    show F35b2 _ _ _ _ _ _ _ _ N _ _=_
    unfold F35b2
    cases B with
    | nil=>rw [if_neg (by rw [List.length_nil] at hlen; omega)]; rfl
    | cons s B =>
      rw [List.length_cons] at hlen h0
      have hs:s ∉ A++B:=by
        rw [h] at hn
        exact (List.nodup_cons.1 (List.perm_middle.nodup_iff.1 hn)).1
      have hle:lessS l s=inL (A++B):=by
        rw [h]; exact inL_less hs
      have h95:=F95_eq A B s (by omega)
      rw [← h] at h95
      rw [if_pos (by omega),h95,bindO_some,F89_by N hN hv dy _ (by rw [List.length_append]; omega),bindO_some,List.all_cons,hle]
      by_cases hq:sndB (scnF p dy) (crtF p dy) (inL (A++B))=true
      · rw [if_pos hq,hq,Bool.true_and,ckO_pos (by unfold InR; omega)]
        have:=ih (A++[s]) B (by rw [h]; simp) (by omega)
        rw [List.length_append,List.length_singleton] at this
        rw [succ_cast]
        exact this
      · rw [if_neg hq,Bool.eq_false_iff.2 hq,Bool.false_and]; rfl
theorem F35j1_eq (N:Nat) (hN:1000≤N) {p:Pl} (hv:plotB p=true) (dy:Int) (l:List Int) (hl:l.length≤400) (hn:l.Nodup) :
    F35j1 p.lo p.hi p.loads p.stands p.spells p.geese dy l N=some (if (!sndB (scnF p dy) (crtF p dy) (fun j=>decide (j∈l)) && l.all fun s=>sndB (scnF p dy) (crtF p dy) (lessS l s))=true then 0 else 15):=by
  unfold F35j1
  rw [F89_by N hN hv dy l (by omega),bindO_some]
  have h2:=F35l2_eq N hN hv dy l hl hn N [] l rfl (by omega)
  have e:inL l=fun j=>decide (j∈l):=rfl
  rw [e]
  by_cases hq:sndB (scnF p dy) (crtF p dy) (fun j=>decide (j∈l))=true
  · rw [if_pos hq,hq]; rfl
  · rw [if_neg hq,Bool.eq_false_iff.2 hq]
    exact h2
theorem F35l3_eq (N:Nat) (hN:1000≤N) {p:Pl} (hv:plotB p=true) (dy:Int) (l:List Int) (hmax:l.length≤9223372036854775807):∀ (m i:Nat) (last:Int),i≤l.length→(i=0∧last=0∨0 < i∧l[i - 1]?=some last)→cntG (sortI (srcL (scnF p dy))) last < m →
    F35l3 p.lo p.hi p.loads p.stands p.spells p.geese dy l N (sortI (srcL (scnF p dy))) m (i:Int)=if someB (scnF p dy) last (l.drop i)=true then F35j1 p.lo p.hi p.loads p.stands p.spells p.geese dy l N else some 15:=by
  have hsl:=sortI_len (srcL (scnF p dy))
  have hll:=srcL_len hv dy
  intro m
  induction m with
  | zero=>intro i last h0 h1 h; exfalso; omega
  | succ m ih =>
    intro i last h0 h1 h
    show F35b3 _ _ _ _ _ _ _ _ N _ _ _=_
    unfold F35b3
    rcases drop_cases l i with ⟨hi,e⟩ | ⟨x,hi,hx,e⟩
    · rw [if_neg (by omega),e,someB,if_pos rfl]
    · rw [if_pos (by omega),gdO_pos (by omega),Int.toNat_natCast,hx,bindO_some,F59_eq _ x (by omega) N (by omega),bindO_some,e,someB]
      have hmem:decide (x∈sortI (srcL (scnF p dy)))=srcB (scnF p dy) x:=by
        unfold srcB; congr 1; exact propext (sortI_perm _).mem_iff
      rw [hmem]
      by_cases hs:srcB (scnF p dy) x=true
      · have hpos:=srcB_pos hv hs
        rw [if_pos hs,hs,Bool.and_true]
        have go:last < x→F35j4 (F35l3 p.lo p.hi p.loads p.stands p.spells p.geese dy l N (sortI (srcL (scnF p dy))) m) (i:Int)=if someB (scnF p dy) x (l.drop (i+1))=true then F35j1 p.lo p.hi p.loads p.stands p.spells p.geese dy l N else some 15:=fun hlt=>by
          unfold F35j4
          have hm:x∈sortI (srcL (scnF p dy)):=of_decide_eq_true (hmem.trans hs)
          have:=cntG_lt hlt hm
          rw [ckO_pos (by unfold InR; omega),succ_cast]
          exact ih (i+1) x (by omega) (.inr ⟨by omega,by rw [Nat.add_sub_cancel]; exact hx⟩) (by omega)
        rcases h1 with ⟨rfl,rfl⟩ | ⟨hi0,hl⟩
        · rw [if_neg (by omega),go hpos,decide_eq_true hpos,Bool.true_and]
        · rw [if_pos (by omega),ckO_pos (by unfold InR; omega),gdO_pos (by omega),show ((i:Int) - 1).toNat=i - 1 by omega,hl,bindO_some]
          by_cases hlt:last < x
          · rw [if_neg (by omega),go hlt,decide_eq_true hlt,Bool.true_and]
          · rw [if_pos (by omega),decide_eq_false hlt]; rfl
      · rw [if_neg hs,Bool.eq_false_iff.2 hs,Bool.and_false,Bool.false_and]; rfl
theorem F35_eq (N:Nat) (hN:1000≤N) (p:Pl) (dy:Int) (l:List Int) (hmax:l.length≤9223372036854775807):F35 N p.lo p.hi p.loads p.stands p.spells p.geese dy l=some (if dayI p dy=0 then if clashB (scnF p dy) (crtF p dy) l then 0 else 15 else dayI p dy):=by
  unfold F35
  rw [F88_eq N hN,bindO_some,hourI_0]
  by_cases h0:dayI p dy=0
  · have hv:plotB p=true:=(dayI_ok h0).1
    have hll:=srcL_len hv dy
    have hsl:=sortI_len (srcL (scnF p dy))
    have hc:=cntG_le (sortI (srcL (scnF p dy))) 0
    rw [if_pos h0,if_pos h0,F94_eq N hN hv,bindO_some]
    have h:=F35l3_eq N hN hv dy l hmax N 0 0 (Nat.zero_le _) (.inl ⟨rfl,rfl⟩) (by omega)
    rw [List.drop_zero] at h
    refine Eq.trans h ?_
    unfold clashB
    by_cases hs:someB (scnF p dy) 0 l=true
    · have hlen:=someB_len (L:=sortI (srcL (scnF p dy))) (fun x hx=>(sortI_perm _).mem_iff.2 (of_decide_eq_true hx)) l 0 hs
      rw [if_pos hs,F35j1_eq N hN hv dy l (by omega) (someB_nd l 0 hs),hs,Bool.true_and]
    · rw [if_neg hs,Bool.eq_false_iff.2 hs]; rfl
  · rw [if_neg h0,if_neg h0]
/-! the law -/
theorem sane1 (n:Nat):F13 (n+60)=some true:=by kernel_rfl
theorem F21l3_eq (l:List Int) (hl:l.length≤100000):∀ (m i:Nat),i≤l.length→l.length < m+i→F21l3 l l m true (i:Int)=some true:=by
  intro m
  induction m with
  | zero=>intro i h0 h; exfalso; omega
  | succ m ih =>
    intro i h0 h
    show F21b3 l l (F21l3 l l m) true (i:Int)=_
    unfold F21b3 F21j5
    rw [if_pos rfl]
    rcases drop_cases l i with ⟨hi,e⟩ | ⟨x,hi,hx,e⟩
    · rw [if_neg (by omega)]; rfl
    · rw [if_pos (by omega),gdO_pos (by omega),Int.toNat_natCast,hx,bindO_some,bindO_some,if_pos rfl,ckO_pos (by unfold InR; omega),succ_cast]
      exact ih (i+1) (by omega) (by omega)
theorem F21_refl (N:Nat) (l:List Int) (hl:l.length≤100000) (hN:l.length < N):F21 N l l=some true:=by
  unfold F21 F21j1
  rw [if_pos rfl]
  exact F21l3_eq l hl N 0 (by omega) (by omega)
theorem clashI_len (p:Pl) (dy:Int):(clashI p dy).1.length≤120:=by
  unfold clashI
  by_cases h0:dayI p dy=0
  · rw [if_pos h0]
    by_cases hs:(stoodF (scnF p dy) (crtF p dy)).2=true
    · rw [if_pos hs]; simp
    · rw [if_neg hs]
      have hl:=srcL_len (dayI_ok h0).1 dy
      have h1:=clash_len (q:=scnF p dy) (cs:=crtF p dy) (fallI (scnF p dy)) (srcB (scnF p dy),[])
      have h2:(fallI (scnF p dy)).length=(srcL (scnF p dy)).length:=by unfold fallI; rw [List.length_reverse,sortI_len]
      show (clashF (scnF p dy) (crtF p dy) (fallI (scnF p dy))).2.reverse.length≤120
      rw [List.length_reverse]
      unfold clashF
      rw [h2,List.length_nil] at h1
      omega
  · rw [if_neg h0]; simp
theorem lenB_v {p:Pl} (hv:plotB p=true) (dy:Int):lenB (scnF p dy) (crtF p dy)=true:=by
  have hr:=(plotB_iff p).1 hv
  have:=hr.l1; have:=hr.l2; have:=hr.l3
  have h1:=crt_len p dy
  have h2:=scn_len p dy
  simp only [lenB,Bool.and_eq_true,decide_eq_true_eq]; omega
theorem bd_rgB {lo hi:Int} (h:Bd 10000 ⟨lo,hi⟩):rgB lo hi=true:=by
  have:=h.a; have:=h.b; have:=h.c; have:=h.d
  simp only [rgB,Bool.and_eq_true,decide_eq_true_eq]; simp only at *; omega
theorem ok_scB {p:Pl} {cs:List Ld} (hl:lenB p cs=true) (h:ScOk p cs):scB p cs=true:=by
  simp only [scB,Bool.and_eq_true,List.all_eq_true]
  refine ⟨⟨⟨hl,bd_rgB h.sown⟩,fun x hx=>bd_rgB (h.st x hx)⟩,fun x hx=>?_⟩
  have:=h.ld x hx
  simp only [fdB,Bool.and_eq_true,decide_eq_true_eq]
  exact ⟨⟨⟨this.a,this.b⟩,this.c⟩,this.d⟩
theorem scB_v {p:Pl} (hv:plotB p=true) (dy:Int):scB (scnF p dy) (crtF p dy)=true:=ok_scB (lenB_v hv dy) (scn_ok hv dy)
theorem F86_eq {p:Pl} (hv:plotB p=true) (dy:Int):F86 p.lo p.hi p.loads p.stands p.spells p.geese dy=some ((scnF p dy).lo,(scnF p dy).hi,(scnF p dy).loads,(scnF p dy).stands,(scnF p dy).spells,(scnF p dy).geese,crtF p dy):=by
  have hr:=(plotB_iff p).1 hv
  exact gdO_pos ⟨hr.l1,hr.l2,hr.l3⟩
theorem F30_eq (p:Pl) (dy:Int):F30 p.lo p.hi p.loads p.stands p.spells p.geese dy=some (soundC p dy):=by
  unfold F30 soundC
  show bindO (some (dayI p dy)) _=_
  rw [bindO_some]
  by_cases h0:dayI p dy=0
  · have hv:plotB p=true:=(dayI_ok h0).1
    rw [if_pos h0,if_pos h0,F86_eq hv,bindO_some]
    show bindO (gdO (scB (scnF p dy) (crtF p dy)=true) (some (stoodF (scnF p dy) (crtF p dy)).2)) _=_
    rw [gdO_pos (scB_v hv dy),bindO_some]
  · rw [if_neg h0,if_neg h0]
theorem clashes1 (p:Pl) (dy:Int) (l:List Int) (hmax:l.length≤9223372036854775807):F4 (1000+60) p.lo p.hi p.loads p.stands p.spells p.geese dy l=some true:=by
  have hN:1000≤1000+60:=by omega
  have hl:=clashI_len p dy
  unfold F4 F4j1 F4j2
  rw [sane1,bindO_some,if_pos rfl]
  rw [F30_eq,bindO_some,F31_eq _ hN,bindO_some]
  show bindO (some (clashI p dy)) _=_
  rw [bindO_some,F33_eq _ hN,bindO_some,F21_refl _ _ (by omega) (by omega),bindO_some,if_pos rfl,if_pos rfl,if_pos rfl,if_pos rfl,if_pos rfl,if_pos rfl]
  show bindO (some (if dayI p dy=0 then if clashB (scnF p dy) (crtF p dy) l then 0 else 15 else dayI p dy)) _=_
  rw [bindO_some,F35_eq _ hN p dy l hmax,bindO_some,if_pos rfl]
end Go.K
end
