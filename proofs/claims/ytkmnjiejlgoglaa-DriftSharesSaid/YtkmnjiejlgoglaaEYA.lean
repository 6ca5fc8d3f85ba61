/- Z1, Z2, Z3, Z4, Z5, Z6, Z7, Z8, Z9, Zb, Zc, Zd, Ze, Zf. -/
import Derived.Test.YtkmnjiejlgoglaaED
import Derived.KernelRfl
import Derived.Test.YtkmnjiejlgoglaaEKK3
set_option linter.unusedVariables false
set_option linter.unusedSimpArgs false
section
namespace Go.K
open Go.RowKit
theorem ba {α β:Type} (x:α) (k:α→Option β):bp (some x) k=k x:=rfl
theorem bindS_inl {α β γ:Type} (x:α) (k1:α→Option γ) (k2:β→Option γ):bindS (some (.inl x)) k1 k2=k1 x:=rfl
theorem bindS_inr {α β γ:Type} (x:β) (k1:α→Option γ) (k2:β→Option γ):bindS (some (.inr x)) k1 k2=k2 x:=rfl
theorem pz {α β γ δ:Type} (x:γ) (k1:α→Option δ) (k2:β→Option δ) (k3:γ→Option δ):bindS3 (some (.inr (.inr x))) k1 k2 k3=k3 x:=rfl
theorem du {β:Type} {p:Prop} [Decidable p] {k:Option β} (h:p):gdO p k=k:=if_pos h
theorem dr {β:Type} {n:Int} {k:Option β} (h:InR n):ckO n k=k:=if_pos h
theorem gv {α:Type} (l:List α) (i:Nat):(l.length≤i∧l.drop i=[])∨(∃ c,i < l.length∧l[i]?=some c∧l.drop i=c :: l.drop (i+1)):=by
  rcases Nat.lt_or_ge i l.length with h | h
  · exact .inr ⟨l[i],h,List.getElem?_eq_getElem h,List.drop_eq_getElem_cons h⟩
  exact .inl ⟨h,List.drop_eq_nil_of_le h⟩
theorem eh (i:Nat):(i:Int)+1=((i+1:Nat):Int):=by omega
theorem inR_succ {i n:Nat} (h:i < n) (hn:n≤9223372036854775807):InR ((i:Int)+1):=by unfold InR; omega
def vCh (c:Ch):Prop:=(1≤c.lo∧c.lo≤c.hi∧c.hi≤1000)∧1≤c.id∧c.id≤99
instance (c:Ch):Decidable (vCh c):=by unfold vCh; infer_instance
def vCe (c:Ce):Prop:=(1≤c.ch∧c.ch≤99)∧(1≤c.ln∧c.ln≤1000)∧0≤c.wo∧c.wo≤10000
instance (c:Ce):Decidable (vCe c):=by unfold vCe; infer_instance
def vCl (c:Cl):Prop:=(0≤c.fr∧c.fr≤c.to∧c.to < 24)∧(1≤c.fam∧c.fam≤99)∧1≤c.hd∧c.hd≤20
instance (c:Cl):Decidable (vCl c):=by unfold vCl; infer_instance
theorem F59_eq (a b c:Int):F59 a b c=some (decide (b≤a∧a≤c)):=by
  unfold F59; repeat' split
  all_goals simp_all <;> omega
theorem F61_eq (a b c:Int):F61 a b c=some (decide (b≤a∧a≤c)):=F59_eq a b c
theorem F19_eq (c:Ch):F19 c=some (if vCh c then 0 else 40):=by
  unfold F19 F19j1 vCh; simp only [F59_eq,ba]
  repeat' split
  all_goals simp_all
  all_goals omega
theorem F20_eq (c:Ch):F20 c=some (if vCh c then 0 else 40):=by
  unfold F20 vCh; simp only [F61_eq,ba]
  repeat' split
  all_goals simp_all
  all_goals omega
theorem F21_eq (c:Ce):F21 c=some (if vCe c then 0 else 41):=by
  unfold F21 vCe; simp only [F59_eq,ba]
  repeat' split
  all_goals simp_all
  all_goals omega
theorem F22_eq (c:Ce):F22 c=some (if vCe c then 0 else 41):=by
  unfold F22 vCe; simp only [F61_eq,ba]
  repeat' split
  all_goals simp_all
  all_goals omega
theorem F23_eq (c:Cl):F23 c=some (if vCl c then 0 else 43):=by
  unfold F23 F23j1 vCl; simp only [F59_eq,ba]
  repeat' split
  all_goals simp_all
  all_goals omega
theorem F24_eq (c:Cl):F24 c=some (if vCl c then 0 else 43):=by
  unfold F24 vCl; simp only [F61_eq,ba]
  repeat' split
  all_goals simp_all
  all_goals omega
def okChs:Int→List Ch→Prop
  | _,[]=>True
  | last,c :: l=>vCh c∧last < c.id∧okChs c.id l
def extM:(Int→Option Int)→Nat→List Ch→(Int→Option Int)
  | M,_,[]=>M
  | M,i,c :: l=>extM (updM M c.id (i:Int)) (i+1) l
def okCes (M:Int→Option Int) (l:List Ce):Prop:=∀ c∈l,(M c.ch).isSome=true∧vCe c
theorem okChs_cons (a:Int) (c:Ch) (l:List Ch):okChs a (c :: l)↔vCh c∧a < c.id∧okChs c.id l:=⟨fun h=>h,fun h=>h⟩
instance okChsD:(a:Int)→(l:List Ch)→Decidable (okChs a l)
  | _,[]=>isTrue trivial
  | a,c :: l=>by unfold okChs; have:=okChsD c.id l; infer_instance
instance (M:Int→Option Int) (l:List Ce):Decidable (okCes M l):=by unfold okCes; infer_instance
theorem okCes_cons (M:Int→Option Int) (c:Ce) (l:List Ce):okCes M (c :: l)↔((M c.ch).isSome=true∧vCe c)∧okCes M l:=by simp [okCes]
theorem F62l2_eq (cs:List Ce) (M:Int→Option Int) (hn:cs.length≤9223372036854775807):∀ (m i:Nat),i≤cs.length→cs.length < m+i→F62l2 cs M m (i:Int)=some (if okCes M (cs.drop i) then .inr M else .inl ()):=by
  intro m; induction m with
  | zero=>intro i h0 h; omega
  | succ m ih =>
    intro i h0 h
    show F62b2 cs M (F62l2 cs M m) (i:Int)=_
    unfold F62b2 F62j3
    rcases gv cs i with ⟨h1,h2⟩ | ⟨c,h1,h2,h3⟩
    · rw [if_neg (by omega),h2]; simp [okCes]
    rw [if_pos (by omega),du (by omega),Int.toNat_natCast,h2,ba,F21_eq,ba,h3]
    simp only [okCes_cons]
    rw [dr (inR_succ h1 hn),eh,ih (i+1) (by omega) (by omega)]
    repeat' split
    all_goals simp_all
theorem F62l4_eq (chs:List Ch) (cs:List Ce) (N:Nat) (hn:chs.length≤9223372036854775807):∀ (m i:Nat) (M:Int→Option Int) (last:Int),i≤chs.length→chs.length < m+i→F62l4 chs cs N m M last (i:Int)=if okChs last (chs.drop i) then F62j1 cs N (extM M i (chs.drop i)) else some (.inl ()):=by
  intro m; induction m with
  | zero=>intro i M last h0 h; omega
  | succ m ih =>
    intro i M last h0 h
    show F62b4 chs cs N (F62l4 chs cs N m) M last (i:Int)=_
    unfold F62b4
    rcases gv chs i with ⟨h1,h2⟩ | ⟨c,h1,h2,h3⟩
    · rw [if_neg (by omega),h2]; simp [okChs,extM]
    rw [if_pos (by omega),du (by omega),Int.toNat_natCast,h2,ba,F19_eq,ba,h3]
    simp only [okChs_cons,extM]
    rw [dr (inR_succ h1 hn),eh,ih (i+1) _ _ (by omega) (by omega)]
    by_cases hv:vCh c <;> by_cases hl:c.id≤last <;> simp [hv,hl,Int.not_lt.2,Int.not_le.1]
def okG (chs:List Ch) (cs:List Ce):Prop:=(1≤chs.length∧chs.length≤6)∧(1≤cs.length∧cs.length≤24)∧okChs 0 chs∧okCes (extM noM 0 chs) cs
instance (chs:List Ch) (cs:List Ce):Decidable (okG chs cs):=by unfold okG; infer_instance
theorem F62_eq (N:Nat) (chs:List Ch) (cs:List Ce) (hN:30≤N):F62 N chs cs=some (if okG chs cs then .inr (extM noM 0 chs) else .inl ()):=by
  unfold F62
  simp only [F59_eq,ba,decide_eq_true_eq]
  split
  · split
    · have:=F62l4_eq chs cs N (by omega) N 0 noM 0 (by omega) (by omega)
      simp only [List.drop_zero,Int.natCast_zero] at this
      rw [this]
      have h2:=F62l2_eq cs (extM noM 0 chs) (by omega) N 0 (by omega) (by omega)
      simp only [List.drop_zero,Int.natCast_zero] at h2
      unfold F62j1
      rw [h2]
      have e1:(1≤chs.length∧chs.length≤6)=True:=eq_true (by omega)
      have e2:(1≤cs.length∧cs.length≤24)=True:=eq_true (by omega)
      by_cases h3:okChs 0 chs <;> simp [okG,h3,e1,e2]
    rw [if_neg]; unfold okG; omega
  rw [if_neg]; unfold okG; omega
def qb:Nat→List Ch→Int→Int
  | _,[],_=>-1
  | i,c :: l,k=>if c.id=k then (i:Int) else qb (i+1) l k
theorem F63l1_eq (chs:List Ch) (k:Int) (hn:chs.length≤9223372036854775807):∀ (m i:Nat),i≤chs.length→chs.length < m+i→F63l1 chs k m (i:Int)=some (qb i (chs.drop i) k):=by
  intro m; induction m with
  | zero=>intro i h0 h; omega
  | succ m ih =>
    intro i h0 h
    show F63b1 chs k (F63l1 chs k m) (i:Int)=_
    unfold F63b1
    rcases gv chs i with ⟨h1,h2⟩ | ⟨c,h1,h2,h3⟩
    · rw [if_neg (by omega),h2]; rfl
    rw [if_pos (by omega),du (by omega),Int.toNat_natCast,h2,ba,h3,dr (inR_succ h1 hn),eh,ih (i+1) (by omega) (by omega)]
    simp only [qb]; split <;> rfl
theorem F63_eq (N:Nat) (chs:List Ch) (cs:List Ce) (k:Int) (hn:chs.length≤9223372036854775807) (hN:chs.length < N):F63 N chs cs k=some (qb 0 chs k):=F63l1_eq chs k hn N 0 (by omega) (by omega)
def okCesR (chs:List Ch) (l:List Ce):Prop:=∀ c∈l,vCe c∧0≤qb 0 chs c.ch
instance (M:List Ch) (l:List Ce):Decidable (okCesR M l):=by unfold okCesR; infer_instance
theorem okCesR_cons (M:List Ch) (c:Ce) (l:List Ce):okCesR M (c :: l)↔(vCe c∧0≤qb 0 M c.ch)∧okCesR M l:=by simp [okCesR]
theorem F16l2_eq (chs:List Ch) (cs:List Ce) (N:Nat) (hn:cs.length≤9223372036854775807) (hn2:chs.length≤9223372036854775807) (hN:chs.length < N):∀ (m i:Nat),i≤cs.length→cs.length < m+i→F16l2 chs cs N m (i:Int)=some (if okCesR chs (cs.drop i) then 0 else 42):=by
  intro m; induction m with
  | zero=>intro i h0 h; omega
  | succ m ih =>
    intro i h0 h
    show F16b2 chs cs N (F16l2 chs cs N m) (i:Int)=_
    unfold F16b2
    rcases gv cs i with ⟨h1,h2⟩ | ⟨c,h1,h2,h3⟩
    · rw [if_neg (by omega),h2]; simp [okCesR]
    rw [if_pos (by omega),du (by omega),Int.toNat_natCast,h2,ba,F22_eq,ba,F63_eq N chs cs _ hn2 hN,ba,h3]
    simp only [okCesR_cons]
    rw [dr (inR_succ h1 hn),eh,ih (i+1) (by omega) (by omega)]
    by_cases hv:vCe c <;> by_cases hl:qb 0 chs c.ch < 0 <;> simp [hv,hl,Int.not_le.2,Int.not_lt.1]
theorem F16l3_eq (chs:List Ch) (cs:List Ce) (N:Nat) (hn:chs.length≤9223372036854775807):∀ (m i:Nat),i≤chs.length→chs.length < m+i→F16l3 chs cs N m (i:Int)=if okChs (if i=0 then 0 else ((chs[i-1]?).map Ch.id).getD 0) (chs.drop i) then F16j1 chs cs N else some 42:=by
  intro m; induction m with
  | zero=>intro i h0 h; omega
  | succ m ih =>
    intro i h0 h
    show F16b3 chs cs N (F16l3 chs cs N m) (i:Int)=_
    unfold F16b3 F16j4
    rcases gv chs i with ⟨h1,h2⟩ | ⟨c,h1,h2,h3⟩
    · rw [if_neg (by omega),h2]; simp [okChs]
    rw [if_pos (by omega),du (by omega),Int.toNat_natCast,h2,ba,F20_eq,ba,h3]
    simp only [okChs_cons]
    rw [dr (inR_succ h1 hn),eh,ih (i+1) (by omega) (by omega)]
    have e:((chs[i+1 - 1]?).map Ch.id).getD 0=c.id:=by simp [h2]
    rw [if_neg (show ¬ i+1=0 by omega),e]
    by_cases hv:vCh c
    · rw [if_pos hv,if_pos rfl]
      by_cases hi:i=0
      · subst hi
        rw [if_neg (by decide)]
        simp [hv,show 0 < c.id by unfold vCh at hv; omega]
      have hp:chs[i-1]?=some (chs[i-1]'(by omega)):=List.getElem?_eq_getElem _
      rw [if_pos (by omega),dr (by unfold InR; omega),du (by omega),show ((i:Int) - 1).toNat=i - 1 by omega,hp,ba,if_neg hi]
      by_cases hl:c.id≤(chs[i-1]'(by omega)).id <;> simp [hv,hl,Int.not_lt.2,Int.not_le.1]
    rw [if_neg hv,if_neg (by decide),if_neg (fun h=>hv h.1)]
theorem extM_at (k:Int):∀ (l:List Ch) (i:Nat) (M:Int→Option Int) (last:Int),okChs last l→extM M i l k=if 0≤qb i l k then some (qb i l k) else M k
  | [],i,M,last,_=>by simp [extM,qb]
  | c :: l,i,M,last,h=>by
    obtain ⟨h1,h2,h3⟩:=h
    unfold extM qb
    rw [extM_at k l (i+1) _ c.id h3]
    by_cases e:c.id=k
    · rw [if_pos e,if_pos (show (0:Int)≤i by omega)]
      have:∀ (l:List Ch) (a:Int) (j:Nat),okChs a l→k≤a→qb j l k=-1:=by
        intro l
        induction l with
        | nil=>intros; rfl
        | cons d l ih =>
          intro a j h hk
          obtain ⟨g1,g2,g3⟩:=h
          unfold qb
          rw [if_neg (by omega),ih d.id (j+1) g3 (by omega)]
      rw [this l c.id (i+1) h3 (by omega),if_neg (by decide)]
      simp [updM,e]
    rw [if_neg e]
    have:updM M c.id (i:Int) k=M k:=by simp [updM,Ne.symm e]
    rw [this]
theorem okG_ref (chs:List Ch) (cs:List Ce):okG chs cs↔(1≤chs.length∧chs.length≤6)∧(1≤cs.length∧cs.length≤24)∧okChs 0 chs∧okCesR chs cs:=by
  unfold okG
  constructor <;> rintro ⟨h1,h2,h3,h4⟩ <;> refine ⟨h1,h2,h3,fun c hc=>?_⟩
  · have:=h4 c hc
    rw [extM_at c.ch chs 0 noM 0 h3] at this
    refine ⟨this.2,?_⟩
    rcases Int.lt_or_le (qb 0 chs c.ch) 0 with h | h
    · rw [if_neg (by omega)] at this; simp [noM] at this
    exact h
  have:=h4 c hc
  rw [extM_at c.ch chs 0 noM 0 h3,if_pos this.2]
  exact ⟨rfl,this.1⟩
theorem F16_eq (N:Nat) (chs:List Ch) (cs:List Ce) (hN:30≤N):F16 N chs cs=some (if okG chs cs then 0 else 42):=by
  unfold F16
  simp only [F61_eq,ba,decide_eq_true_eq]
  split
  · split
    · have:=F16l3_eq chs cs N (by omega) N 0 (by omega) (by omega)
      simp only [List.drop_zero,Int.natCast_zero,if_true] at this
      rw [this]
      have h2:=F16l2_eq chs cs N (by omega) (by omega) (by omega) N 0 (by omega) (by omega)
      simp only [List.drop_zero,Int.natCast_zero] at h2
      unfold F16j1
      rw [h2]
      have e1:(1≤chs.length∧chs.length≤6)=True:=eq_true (by omega)
      have e2:(1≤cs.length∧cs.length≤24)=True:=eq_true (by omega)
      by_cases h3:okChs 0 chs <;> simp [okG_ref,h3,e1,e2]
    rw [if_neg]; unfold okG; omega
  rw [if_neg]; unfold okG; omega
def okL (n:Int):List Int→List Cl→Prop
  | _,[]=>True
  | seen,c :: l=>vCl c∧c.to < n∧c.fam ∉ seen∧okL n (c.fam :: seen) l
theorem okL_cons (n:Int) (s:List Int) (c:Cl) (l:List Cl):okL n s (c :: l)↔vCl c∧c.to < n∧c.fam ∉ s∧okL n (c.fam :: s) l:=⟨fun h=>h,fun h=>h⟩
instance okLD:(n:Int)→(s:List Int)→(l:List Cl)→Decidable (okL n s l)
  | _,_,[]=>isTrue trivial
  | n,s,c :: l=>by unfold okL; have:=okLD n (c.fam :: s) l; infer_instance
def isSeen (M:Int→Option Bool) (seen:List Int):Prop:=∀ k,((M k).getD false)=decide (k∈seen)
theorem isSeen_upd {M:Int→Option Bool} {seen:List Int} (h:isSeen M seen) (k:Int):isSeen (updM M k true) (k :: seen):=fun j=>by
  unfold updM
  by_cases e:j=k
  · simp [e]
  rw [if_neg e,h j]; simp [e]
theorem F64l1_eq (cs:List Ce) (l:List Cl) (M:Int→Option Int) (hn:l.length≤9223372036854775807):∀ (m i:Nat) (S:Int→Option Bool) (seen:List Int),isSeen S seen→i≤l.length→l.length < m+i→F64l1 cs l M m S (i:Int)=some (if okL cs.length seen (l.drop i) then .inr (.inr M) else .inr (.inl ())):=by
  intro m; induction m with
  | zero=>intro i S seen hs h0 h; omega
  | succ m ih =>
    intro i S seen hs h0 h
    show F64b1 cs l M (F64l1 cs l M m) S (i:Int)=_
    unfold F64b1
    rcases gv l i with ⟨h1,h2⟩ | ⟨c,h1,h2,h3⟩
    · rw [if_neg (by omega),h2]; simp [okL]
    rw [if_pos (by omega),du (by omega),Int.toNat_natCast,h2,ba,F23_eq,ba,h3,hs c.fam]
    simp only [okL_cons]
    rw [dr (inR_succ h1 hn),eh,ih (i+1) _ _ (isSeen_upd hs c.fam) (by omega) (by omega)]
    by_cases hv:vCl c <;> by_cases ht:(cs.length:Int)≤c.to <;> by_cases hf:c.fam∈seen <;> simp [hv,ht,hf,Int.not_lt.2,Int.not_le.1]
def okC (cs:List Ce) (l:List Cl):Prop:=(1≤l.length∧l.length≤12)∧okL cs.length [] l
instance (cs:List Ce) (l:List Cl):Decidable (okC cs l):=by unfold okC; infer_instance
theorem F64_eq (N:Nat) (chs:List Ch) (cs:List Ce) (l:List Cl) (hN:30≤N):F64 N chs cs l=some (if okG chs cs then (if okC cs l then .inr (.inr (extM noM 0 chs)) else .inr (.inl ())) else .inl ()):=by
  unfold F64
  rw [F62_eq N chs cs hN]
  by_cases hg:okG chs cs
  · rw [if_pos hg,bindS_inr,F59_eq,ba,if_pos hg]
    simp only [decide_eq_true_eq]
    split
    · have:=F64l1_eq cs l (extM noM 0 chs) (by omega) N 0 noM [] (fun k=>by simp [noM]) (by omega) (by omega)
      simp only [List.drop_zero,Int.natCast_zero] at this
      rw [this]
      have e1:(1≤l.length∧l.length≤12)=True:=eq_true (by omega)
      by_cases h3:okL cs.length [] l <;> simp [okC,h3,e1]
    rw [if_neg]; unfold okC; omega
  rw [if_neg hg,bindS_inl,if_neg hg]
theorem F65l4_eq (l:List Cl) (i:Nat) (c:Cl) (rec:Int→Option Bool) (hi:i≤l.length) (hn:l.length≤9223372036854775807):∀ (m k:Nat),k≤i→i < m+k→F65l4 l rec i c m (k:Int)=if c.fam∈((l.take i).drop k).map Cl.fam then some false else F65j3 rec i:=by
  intro m; induction m with
  | zero=>intro k h0 h; omega
  | succ m ih =>
    intro k h0 h
    show F65b4 l rec i c (F65l4 l rec i c m) (k:Int)=_
    unfold F65b4
    rcases gv (l.take i) k with ⟨h1,h2⟩ | ⟨d,h1,h2,h3⟩
    · rw [List.length_take] at h1
      rw [if_neg (by omega),h2]; simp
    rw [List.length_take] at h1
    have h2':l[k]?=some d:=by rw [List.getElem?_take] at h2; split at h2 <;> simp_all
    rw [if_pos (by omega),du (by omega),Int.toNat_natCast,h2',ba,h3,dr (by unfold InR; omega),eh,ih (k+1) (by omega) (by omega)]
    simp only [List.map_cons,List.mem_cons]
    by_cases e:d.fam=c.fam
    · rw [if_pos e,if_pos (.inl e.symm)]
    rw [if_neg e]; simp [Ne.symm e]
theorem F65l2_eq (cs:List Ce) (l:List Cl) (N:Nat) (hn:l.length≤9223372036854775807) (hN:l.length < N):∀ (m i:Nat),i≤l.length→l.length < m+i→F65l2 cs l N m (i:Int)=some (decide (okL cs.length ((l.take i).map Cl.fam) (l.drop i)∧1≤l.length∧l.length≤12)):=by
  intro m; induction m with
  | zero=>intro i h0 h; omega
  | succ m ih =>
    intro i h0 h
    show F65b2 cs l N (F65l2 cs l N m) (i:Int)=_
    unfold F65b2 F65j1
    rcases gv l i with ⟨h1,h2⟩ | ⟨c,h1,h2,h3⟩
    · have e:(1≤(l.length:Int)∧(l.length:Int)≤12)↔(1≤l.length∧l.length≤12):=by omega
      rw [if_neg (by omega),h2,F61_eq,ba]; simp [okL,e]
    rw [if_pos (by omega),du (by omega),Int.toNat_natCast,h2,ba,F24_eq,ba,h3]
    have:=F65l4_eq l i c (F65l2 cs l N m) h0 hn N 0 (by omega) (by omega)
    simp only [List.drop_zero,Int.natCast_zero] at this
    rw [this]
    unfold F65j3
    rw [dr (inR_succ h1 hn),eh,ih (i+1) (by omega) (by omega)]
    have e:(l.take (i+1)).map Cl.fam=(l.take i).map Cl.fam++[c.fam]:=by
      rw [List.take_add_one,h2]; simp
    have perm:∀ (n:Int) (l:List Cl) (s t:List Int),(∀ x,x∈s↔x∈t)→(okL n s l↔okL n t l):=by
      intro n l
      induction l with
      | nil=>intros; rfl
      | cons d l ih =>
        intro s t hst
        simp only [okL_cons]
        rw [ih (d.fam :: s) (d.fam :: t) (fun x=>by simp [hst x]),hst d.fam]
    rw [e]
    simp only [okL_cons,perm cs.length (l.drop (i+1)) ((l.take i).map Cl.fam++[c.fam]) (c.fam :: (l.take i).map Cl.fam) (fun x=>by simp [or_comm])]
    clear this e
    generalize (l.take i).map Cl.fam=S
    by_cases hv:vCl c <;> by_cases ht:(cs.length:Int)≤c.to <;> by_cases hf:c.fam∈S <;> simp [hv,ht,hf,Int.not_lt.2,Int.not_le.1]
theorem F65_eq (N:Nat) (chs:List Ch) (cs:List Ce) (l:List Cl) (hn:l.length≤9223372036854775807) (hN:l.length < N):F65 N chs cs l=some (decide (okC cs l)):=by
  have:=F65l2_eq cs l N hn hN N 0 (by omega) (by omega)
  simp only [List.drop_zero,Int.natCast_zero,List.take_zero,List.map_nil] at this
  unfold F65; rw [this]; unfold okC
  congr 1
  by_cases h1:okL cs.length [] l <;> simp [h1]
theorem F18_eq (N:Nat) (chs:List Ch) (cs:List Ce) (l:List Cl) (hn:l.length≤9223372036854775807) (hN:l.length+30 < N):F18 N chs cs l=some (if okG chs cs then (if okC cs l then 0 else 44) else 42):=by
  unfold F18
  rw [F16_eq N chs cs (by omega),ba,F65_eq N chs cs l hn (by omega),ba]
  by_cases h1:okG chs cs <;> by_cases h2:okC cs l <;> simp [h1,h2]
end Go.K
end
section
namespace Go.K
open Go.RowKit
def turned (l:List Cl) (d:Int):List Cl:=l.drop (d.tmod l.length).toNat++l.take (d.tmod l.length).toNat
theorem sane4 (n:Nat):F11 (n+60)=some true:=by kernel_rfl
end Go.K
end
section
namespace Go.K
open Go.RowKit
def bd (B:Int) (l:List Int):Prop:=∀ v∈l,-B≤v∧v≤B
theorem bd_get {B:Int} {l:List Int} (h:bd B l) {i:Nat} {v:Int} (hv:l[i]?=some v):-B≤v∧v≤B:=h v (List.mem_of_getElem? hv)
theorem mul_bd {n c B C:Int} (hn:-B≤n∧n≤B) (hc:0≤c∧c≤C) (hB:0≤B):-(B * C)≤n * c∧n * c≤B * C:=by
  have h1:=Int.mul_le_mul_of_nonneg_right hn.1 hc.1
  have h2:=Int.mul_le_mul_of_nonneg_right hn.2 hc.1
  have h3:=Int.mul_le_mul_of_nonneg_left hc.2 hB
  rw [Int.neg_mul] at h1
  omega
def hasD (n:Nat) (d:Dr):Prop:=0≤d.fr∧d.fr≤d.to∧d.to < (n:Int)
instance (n:Nat) (d:Dr):Decidable (hasD n d):=by unfold hasD; infer_instance
theorem F69_eq (chs:List Ch) (cs:List Ce) (d:Dr):F69 chs cs d=some (decide (hasD cs.length d)):=by
  unfold F69 hasD; simp only [F61_eq,ba,decide_eq_true_eq]; repeat' split
  all_goals first | exact congrArg some (decide_eq_true (by omega)).symm | exact congrArg some (decide_eq_false (by omega)).symm
def addL (ix:Int→Int):List Int→List Ce→List Int
  | ls,[]=>ls
  | ls,c :: r=>addL ix (ls.set (ix c.ch).toNat ((ls[(ix c.ch).toNat]?).getD 0+c.ln)) r
def segC (cs:List Ce) (d:Dr):List Ce:=(cs.drop d.fr.toNat).take ((d.to+1).toNat - d.fr.toNat)
def linksOf (chs:List Ch) (cs:List Ce) (d:Dr):List Int:=addL (qb 0 chs) (List.replicate chs.length 0) (segC cs d)
theorem fstCh_lt (k:Int):∀ (l:List Ch) (i:Nat),qb i l k < (i:Int)+l.length
  | [],i=>by simp [qb]; omega
  | c :: l,i=>by
    unfold qb; split
    · simp; omega
    have:=fstCh_lt k l (i+1); simp; omega
theorem okG_ce {chs:List Ch} {cs:List Ce} (h:okG chs cs) {c:Ce} (hc:c∈cs):vCe c∧0≤qb 0 chs c.ch∧qb 0 chs c.ch < chs.length:=by
  have h1:=((okG_ref chs cs).1 h).2.2.2 c hc
  have:=fstCh_lt c.ch chs 0
  exact ⟨h1.1,h1.2,by omega⟩
theorem F74l1_eq (l:List Int) (B:Int) (hB:0≤B∧B≤1000000000000) (hb:bd B l) (hn:l.length≤100):∀ (m i:Nat) (t:Int),-(B * i)≤t∧t≤B * i→i≤l.length→l.length < m+i→F74l1 l m t (i:Int)=some (t+(l.drop i).sum):=by
  intro m; induction m with
  | zero=>intro i t ht h0 h; omega
  | succ m ih =>
    intro i t ht h0 h
    show F74b1 l (F74l1 l m) t (i:Int)=_
    unfold F74b1
    rcases gv l i with ⟨h1,h2⟩ | ⟨c,h1,h2,h3⟩
    · rw [if_neg (by omega),h2]; simp
    have hc:=bd_get hb h2
    have e:B * ((i+1:Nat):Int)=B * i+B:=by rw [Int.natCast_add,Int.mul_add]; simp
    have hm:B * (i:Int)≤1000000000000 * 100:=Int.mul_le_mul hB.2 (by omega) (by omega) (by omega)
    rw [if_pos (by omega),du (by omega),Int.toNat_natCast,h2,ba,h3,dr (by unfold InR; omega),dr (by unfold InR; omega),eh,ih (i+1) _ (by omega) (by omega) (by omega)]
    simp [Int.add_assoc]
theorem F74_eq (N:Nat) (l:List Int) (B:Int) (hB:0≤B∧B≤1000000000000) (hb:bd B l) (hn:l.length≤100) (hN:101≤N):F74 N l=some l.sum:=by
  unfold F74
  have:=F74l1_eq l B hB hb hn N 0 0 (by simp) (by omega) (by omega)
  simpa using this
def mn (c:Ch) (n:Int):Int:=if n * c.hi < n * c.lo then n * c.hi else n * c.lo
def mx (c:Ch) (n:Int):Int:=if n * c.hi > n * c.lo then n * c.hi else n * c.lo
def mins (chs:List Ch) (l:List Int):List Int:=List.zipWith mn chs l
def maxs (chs:List Ch) (l:List Int):List Int:=List.zipWith mx chs l
def spanOf (chs:List Ch) (l:List Int):Int × Int:=((mins chs l).sum,(maxs chs l).sum)
def subAt:Nat→List Int→List Int→List Int
  | _,a,[]=>a
  | i,a,x :: r=>subAt (i+1) (a.set i ((a[i]?).getD 0 - x)) r
def bd2 (B C:Int) (i:Nat) (a:List Int):Prop:=∀ j v,a[j]?=some v→if j < i then -(B+C)≤v∧v≤B+C else -B≤v∧v≤B
def moreOf (chs:List Ch) (cs:List Ce) (a b:Dr):List Int:=subAt 0 (linksOf chs cs a) (linksOf chs cs b)
def longerOf (chs:List Ch) (cs:List Ce) (a b:Dr):Int:=if 0 < (spanOf chs (moreOf chs cs a b)).1 then 1 else if (spanOf chs (moreOf chs cs a b)).2≤0 then 0 else 2
def trueL:List Ch→List Int→Prop
  | [],_=>True
  | _ :: _,[]=>True
  | c :: l,n :: r=>(c.lo≤n∧n≤c.hi)∧trueL l r
instance trueLD:(l:List Ch)→(r:List Int)→Decidable (trueL l r)
  | [],_=>isTrue trivial
  | _ :: _,[]=>isTrue trivial
  | c :: l,n :: r=>by unfold trueL; have:=trueLD l r; infer_instance
def areL (chs:List Ch) (ls:List Int):Prop:=ls.length=chs.length∧trueL chs ls
instance (chs:List Ch) (ls:List Int):Decidable (areL chs ls):=by unfold areL; infer_instance
def prods (a b:List Int):List Int:=List.zipWith (fun x y=>x * y) a b
def trulyR (chs:List Ch) (cs:List Ce) (ls:List Int) (d:Dr):Int × Int:=if okG chs cs then (if areL chs ls then (if hasD cs.length d then ((prods (linksOf chs cs d) ls).sum,0) else (0,45)) else (0,1)) else (0,42)
def nx (cs:List Ce) (a b:Int):Int:=(((cs.drop a.toNat).take ((b+1).toNat - a.toNat)).map Ce.wo).sum
theorem seg_step {cs:List Ce} {a b:Int} {i:Nat} (ha:0≤a) (hi:a+i≤b) {c:Ce} (hc:cs[(a+i).toNat]?=some c):((cs.drop (a+i).toNat).take ((b+1).toNat - (a+i).toNat)).map Ce.wo=c.wo :: ((cs.drop (a+(i+1:Nat)).toNat).take ((b+1).toNat - (a+(i+1:Nat)).toNat)).map Ce.wo:=by
  have h1:(a+i).toNat < cs.length:=by rcases Nat.lt_or_ge (a+i).toNat cs.length with h | h; exact h; rw [List.getElem?_eq_none h] at hc; cases hc
  rw [List.drop_eq_getElem_cons h1]
  have e:cs[(a+i).toNat]=c:=by rw [List.getElem?_eq_getElem h1] at hc; exact Option.some.inj hc
  rw [e,show (b+1).toNat - (a+i).toNat=((b+1).toNat - (a+(i+1:Nat)).toNat)+1 by omega,List.take_succ_cons,List.map_cons,show (a+i).toNat+1=(a+(i+1:Nat)).toNat by omega]
theorem F76l2_eq (cs:List Ce) (d:Dr) (N:Nat) (ha:0≤d.fr) (hn:cs.length≤24):∀ (m i:Nat) (ws:List Int),ws.length=i→i≤24→cs.length+1 < m+i+d.fr.toNat→1 < m→F76l2 cs d N m ws (d.fr+i)=F76j1 N (ws++((cs.drop (d.fr+i).toNat).take ((d.to+1).toNat - (d.fr+i).toNat)).map Ce.wo):=by
  intro m; induction m with
  | zero=>intro i ws hw a h hm; omega
  | succ m ih =>
    intro i ws hw a h hm
    show F76b2 cs d N (F76l2 cs d N m) ws (d.fr+i)=_
    unfold F76b2 F76j3
    by_cases h1:d.fr+i≤d.to
    · rw [if_pos h1]
      by_cases h2:d.fr+(i:Int) < (cs.length:Int)
      · have hc:cs[(d.fr+i).toNat]?=some (cs[(d.fr+i).toNat]'(by omega)):=List.getElem?_eq_getElem _
        rw [if_pos h2,du (by omega),hc,ba,du (by omega),dr (by unfold InR; omega),show d.fr+(i:Int)+1=d.fr+((i+1:Nat):Int) by omega,ih (i+1) _ (by simp [hw]) (by omega) (by omega) (by omega),seg_step ha h1 hc]
        simp
      rw [if_neg h2,List.drop_eq_nil_of_le (by omega)]; simp
    rw [if_neg h1,show (d.to+1).toNat - (d.fr+i).toNat=0 by omega]; simp
theorem worth_bd {cs:List Ce} (hv:∀ c∈cs,vCe c) (a k:Nat):bd 10000 (((cs.drop a).take k).map Ce.wo):=fun v hv'=>by
  obtain ⟨c,hc,rfl⟩:=List.mem_map.1 hv'
  have:=hv c (List.mem_of_mem_drop (List.mem_of_mem_take hc))
  unfold vCe at this; omega
theorem F76_eq (N:Nat) (chs:List Ch) (cs:List Ce) (M:Int→Option Int) (d:Dr) (ha:0≤d.fr) (hn:cs.length≤24) (hv:∀ c∈cs,vCe c) (hN:101≤N):F76 N chs cs M d=some (nx cs d.fr d.to):=by
  unfold F76
  have:=F76l2_eq cs d N ha hn N 0 [] rfl (by omega) (by omega) (by omega)
  simp only [Int.natCast_zero,Int.add_zero,List.nil_append] at this
  rw [this]
  unfold F76j1
  rw [F74_eq N _ 10000 (by omega) (worth_bd hv _ _) (by simp; omega) hN,ba]; rfl
theorem F77l1_eq (cs:List Ce) (a b:Int) (ha:0≤a) (hn:cs.length≤24) (hv:∀ c∈cs,vCe c):∀ (m i:Nat) (t:Int),-(10000 * i)≤t∧t≤10000 * i→i≤24→cs.length+1 < m+i+a.toNat→1 < m→F77l1 cs b m t (a+i)=some (t+(((cs.drop (a+i).toNat).take ((b+1).toNat - (a+i).toNat)).map Ce.wo).sum):=by
  intro m; induction m with
  | zero=>intro i t ht d h hm; omega
  | succ m ih =>
    intro i t ht d h hm
    show F77b1 cs b (F77l1 cs b m) t (a+i)=_
    unfold F77b1
    by_cases h1:a+i≤b
    · rw [if_pos h1]
      by_cases h2:a+(i:Int) < (cs.length:Int)
      · have hc:cs[(a+i).toNat]?=some (cs[(a+i).toNat]'(by omega)):=List.getElem?_eq_getElem _
        have hcv:=hv _ (List.mem_of_getElem? hc)
        unfold vCe at hcv
        rw [if_pos h2,du (by omega),hc,ba,dr (by unfold InR; omega),dr (by unfold InR; omega),show a+(i:Int)+1=a+((i+1:Nat):Int) by omega,ih (i+1) _ (by omega) (by omega) (by omega) (by omega),seg_step ha h1 hc]
        simp [Int.add_assoc]
      rw [if_neg h2,List.drop_eq_nil_of_le (by omega)]; simp
    rw [if_neg h1,show (b+1).toNat - (a+i).toNat=0 by omega]; simp
theorem F77_eq (N:Nat) (chs:List Ch) (cs:List Ce) (a b:Int) (ha:0≤a) (hn:cs.length≤24) (hv:∀ c∈cs,vCe c) (hN:101≤N):F77 N chs cs a b=some (nx cs a b):=by
  unfold F77
  have:=F77l1_eq cs a b ha hn hv N 0 0 (by simp) (by omega) (by omega) (by omega)
  simp only [Int.natCast_zero,Int.add_zero,Int.zero_add] at this
  rw [this]; rfl
theorem okG_ces {chs:List Ch} {cs:List Ce} (h:okG chs cs):∀ c∈cs,vCe c:=fun c hc=>(okG_ce h hc).1
def vGn (a:Gn):Prop:=(0≤a.num∧a.num≤1000000)∧1≤a.den∧a.den≤1000000
instance (a:Gn):Decidable (vGn a):=by unfold vGn; infer_instance
theorem F78_eq (a:Gn):F78 a=some (decide (vGn a)):=by
  unfold F78 vGn; simp only [F59_eq,ba,decide_eq_true_eq]; split
  · by_cases h:1≤a.den∧a.den≤1000000 <;> simp [h, *]
  exact congrArg some (decide_eq_false (by omega)).symm
theorem F80_eq (a:Gn):F80 a=some (decide (vGn a)):=by
  unfold F80 vGn; simp only [F61_eq,ba,decide_eq_true_eq]; split
  · by_cases h:1≤a.den∧a.den≤1000000 <;> simp [h, *]
  exact congrArg some (decide_eq_false (by omega)).symm
theorem F93_eq (a b:Int):F93 a b=some (if a < b then -1 else if b < a then 1 else 0):=by
  unfold F93 F93j1 F93j2 F100; simp only [ba]; simp
  repeat' split
  all_goals rfl
theorem F79_eq {a b:Gn} (ha:-1000000000≤a.num∧a.num≤1000000000) (ha2:0≤a.den∧a.den≤1000000000) (hb:-1000000000≤b.num∧b.num≤1000000000) (hb2:0≤b.den∧b.den≤1000000000):F79 a b=some (if a.num * b.den < b.num * a.den then -1 else if b.num * a.den < a.num * b.den then 1 else 0):=by
  have h1:=mul_bd ha hb2 (by omega)
  have h2:=mul_bd hb ha2 (by omega)
  unfold F79
  rw [dr (by unfold InR; omega),dr (by unfold InR; omega),F93_eq,ba]
theorem F53_eq {a b:Gn} (ha:-1000000000≤a.num∧a.num≤1000000000) (ha2:0≤a.den∧a.den≤1000000000) (hb:-1000000000≤b.num∧b.num≤1000000000) (hb2:0≤b.den∧b.den≤1000000000):F53 a b=some (decide (a.num * b.den < b.num * a.den)):=by
  have h1:=mul_bd ha hb2 (by omega)
  have h2:=mul_bd hb ha2 (by omega)
  unfold F53
  rw [dr (by unfold InR; omega),dr (by unfold InR; omega)]
  split <;> simp_all
end Go.K
end
section
namespace Go.K
open Go.RowKit
def gCh (u:List Ch):Prop:=∀ (j:Nat) (c:Ch),u[j]?=some c→c.id=1+(j:Int)∧90≤c.lo∧c.lo≤c.hi∧c.hi≤130
def gCe (k:Nat) (u:List Ce):Prop:=∀ c∈u,(1≤c.ch∧c.ch≤(k:Int))∧(1≤c.ln∧c.ln≤9)∧0≤c.wo∧c.wo≤11
def gCl (k:Nat) (u:List Cl):Prop:=∀ (j:Nat) (c:Cl),u[j]?=some c→c.fam=3+2 * (j:Int)∧(1≤c.hd∧c.hd≤4)∧0≤c.fr∧c.fr≤c.to∧c.to < (k:Int)
structure Made4 (chs:List Ch) (cs:List Ce) (l:List Cl):Prop where
  g:okG chs cs
  c:okC cs l
  n1:chs.length≤3
  n2:cs.length≤10
  n3:l.length≤6
  wo:∀ c∈cs,0≤c.wo∧c.wo≤11
end Go.K
end
section
namespace Go.K
open Go.RowKit
theorem F105l1_eq:∀ (m a b:Nat),b < m→F105l1 m (a:Int) (b:Int)=some ((Nat.gcd a b:Nat):Int):=by
  intro m; induction m with
  | zero=>intro a b h; omega
  | succ m ih =>
    intro a b h
    show F105b1 (F105l1 m) (a:Int) (b:Int)=_
    unfold F105b1
    by_cases hb:b=0
    · subst hb; simp
    have hm:a % b < b:=Nat.mod_lt _ (by omega)
    rw [if_neg (by omega),du (by omega),Int.tmod_eq_emod_of_nonneg (by omega),← Int.natCast_emod,ih b (a % b) (by omega)]
    rw [Nat.gcd_comm b,← Nat.gcd_rec,Nat.gcd_comm]
def gnOf (w h:Int):Gn:=⟨w.tdiv (Nat.gcd w.toNat h.toNat:Nat),h.tdiv (Nat.gcd w.toNat h.toNat:Nat)⟩
theorem gnOf_ok {w h:Int} (hw:0≤w) (hh:1≤h):(0≤(gnOf w h).num∧(gnOf w h).num≤w)∧(1≤(gnOf w h).den∧(gnOf w h).den≤h)∧(gnOf w h).num * h=w * (gnOf w h).den:=by
  obtain ⟨a,rfl⟩:=Int.eq_ofNat_of_zero_le hw
  obtain ⟨b,rfl⟩:=Int.eq_ofNat_of_zero_le (show 0≤h by omega)
  have hg:0 < Nat.gcd a b:=Nat.gcd_pos_of_pos_right _ (by omega)
  obtain ⟨p,hp⟩:=Nat.gcd_dvd_left a b
  obtain ⟨q,hq⟩:=Nat.gcd_dvd_right a b
  have e1:(gnOf a b).num=p:=by
    show (a:Int).tdiv ((Nat.gcd (a:Int).toNat (b:Int).toNat:Nat):Int)=p
    rw [Int.toNat_natCast,Int.toNat_natCast]
    conv=>lhs; lhs; rw [hp]
    rw [Int.natCast_mul,Int.mul_tdiv_cancel_left _ (by omega)]
  have e2:(gnOf a b).den=q:=by
    show (b:Int).tdiv ((Nat.gcd (a:Int).toNat (b:Int).toNat:Nat):Int)=q
    rw [Int.toNat_natCast,Int.toNat_natCast]
    conv=>lhs; lhs; rw [hq]
    rw [Int.natCast_mul,Int.mul_tdiv_cancel_left _ (by omega)]
  rw [e1,e2]
  have h1:p≤a:=by rw [hp]; exact Nat.le_mul_of_pos_left p hg
  have h2:q≤b:=by rw [hq]; exact Nat.le_mul_of_pos_left q hg
  have h3:0 < q:=by rcases Nat.eq_zero_or_pos q with h0 | h0; rw [h0,Nat.mul_zero] at hq; omega; exact h0
  refine ⟨by omega,by omega,?_⟩
  have:p * b=a * q:=by
    conv=>lhs; rw [hq]
    conv=>rhs; rw [hp]
    rw [Nat.mul_left_comm,Nat.mul_assoc]
  exact_mod_cast this
theorem F101_eq (N:Nat) (w h:Int) (hw:0≤w∧w≤1000000000) (hh:1≤h∧h≤1000000) (hN:h < N):F101 N w h=some ((gnOf w h).num,(gnOf w h).den):=by
  obtain ⟨a,rfl⟩:=Int.eq_ofNat_of_zero_le hw.1
  obtain ⟨b,rfl⟩:=Int.eq_ofNat_of_zero_le (show 0≤h by omega)
  have hg:0 < Nat.gcd a b:=Nat.gcd_pos_of_pos_right _ (by omega)
  unfold F101 F105
  rw [F105l1_eq N a b (by omega),ba,du (by omega),dr (by unfold InR; omega),dr (by unfold InR; omega)]
  rfl
theorem sum_bd {B:Int}:∀ {l:List Int},(∀ v∈l,0≤v∧v≤B)→0≤l.sum∧l.sum≤B * l.length
  | [],_=>by simp
  | v :: l,h=>by
    have h1:=h v (by simp)
    have h2:=sum_bd (l:=l) (fun v hv=>h v (by simp [hv]))
    simp only [List.sum_cons,List.length_cons]
    have:B * ((l.length+1:Nat):Int)=B * l.length+B:=by rw [Int.natCast_add,Int.mul_add]; simp
    omega
theorem pv {cs:List Ce} (hv:∀ c∈cs,vCe c) (hn:cs.length≤24) (a b:Int):0≤nx cs a b∧nx cs a b≤240000:=by
  have h:=sum_bd (B:=10000) (l:=((cs.drop a.toNat).take ((b+1).toNat - a.toNat)).map Ce.wo) (fun v hv'=>by
    obtain ⟨c,hc,rfl⟩:=List.mem_map.1 hv'
    have:=hv c (List.mem_of_mem_drop (List.mem_of_mem_take hc))
    unfold vCe at this; omega)
  have hl:(((cs.drop a.toNat).take ((b+1).toNat - a.toNat)).map Ce.wo).length≤24:=by simp; omega
  unfold nx
  omega
def gnC (cs:List Ce) (c:Cl) (a b:Int):Gn:=gnOf (nx cs a b) c.hd
def smG (g:Gn):Prop:=(-1≤g.num∧g.num≤240000)∧1≤g.den∧g.den≤20
theorem gnC_ok {cs:List Ce} (hv:∀ c∈cs,vCe c) (hn:cs.length≤24) {c:Cl} (hc:vCl c) (a b:Int):smG (gnC cs c a b)∧0≤(gnC cs c a b).num:=by
  have h1:=pv hv hn a b
  unfold vCl at hc
  have h2:=gnOf_ok h1.1 hc.2.2.1
  unfold smG gnC
  omega
theorem F94_eq (N:Nat) (chs:List Ch) (cs:List Ce) (M:Int→Option Int) (c:Cl) (d:Dr) (ha:0≤d.fr) (hn:cs.length≤24) (hv:∀ c∈cs,vCe c) (hc:vCl c) (hN:101≤N):F94 N chs cs M c d=some ((gnC cs c d.fr d.to).num,(gnC cs c d.fr d.to).den):=by
  unfold F94
  have h1:=pv hv hn d.fr d.to
  have hc':=hc
  unfold vCl at hc'
  rw [F76_eq N chs cs M d ha hn hv hN,ba,F101_eq N _ _ (by omega) (by omega) (by omega),ba]
  rfl
def mt (g t:Gn):Prop:=t.num * g.den < g.num * t.den
instance (g t:Gn):Decidable (mt g t):=by unfold mt; infer_instance
theorem F79_small {a b:Gn} (ha:smG a) (hb:smG b):F79 a b=some (if mt b a then -1 else if mt a b then 1 else 0):=by
  unfold smG at ha hb
  exact F79_eq (by omega) (by omega) (by omega) (by omega)
theorem mt_asymm {a b:Gn} (h:mt a b):¬ mt b a:=by unfold mt at *; omega
theorem cmp_pos {a b:Gn}:(0 < (if mt b a then (-1:Int) else if mt a b then 1 else 0))↔mt a b:=by
  by_cases h1:mt b a
  · rw [if_pos h1]; exact ⟨fun h=>by omega,fun h=>absurd h1 (mt_asymm h)⟩
  rw [if_neg h1]
  by_cases h2:mt a b
  · rw [if_pos h2]; exact ⟨fun _=>h2,fun _=>by omega⟩
  rw [if_neg h2]; exact ⟨fun h=>by omega,fun h=>absurd h h2⟩
theorem cmp_neg {a b:Gn}:((if mt b a then (-1:Int) else if mt a b then 1 else 0) < 0)↔mt b a:=by
  by_cases h1:mt b a
  · rw [if_pos h1]; exact ⟨fun _=>h1,fun _=>by omega⟩
  rw [if_neg h1]
  refine ⟨fun h=>?_,fun h=>absurd h h1⟩
  split at h <;> omega
def fstTo (p:Int→Prop) [DecidablePred p]:Nat→Int→Option Int
  | 0,_=>none
  | n+1,a=>if p a then some a else fstTo p n (a+1)
def hi2 (a b:Int):Int:=if a > b then a else b
def nn (cs:List Ce) (t:Gn):List Cl→Int→List Dr × List Int × Bool
  | [],_=>([],[],true)
  | c :: r,s =>
    match fstTo (fun x=>mt (gnC cs c (hi2 c.fr s) x) t) (c.to+1 - hi2 c.fr s).toNat (hi2 c.fr s) with
    | some x=>(⟨hi2 c.fr s,x⟩ :: (nn cs t r (x+1)).1,(x+1) :: (nn cs t r (x+1)).2.1,(nn cs t r (x+1)).2.2)
    | none=>([],[hi2 (c.to+1) (hi2 c.fr s)+1],false)
theorem fstTo_some {p:Int→Prop} [DecidablePred p]:∀ {n:Nat} {a x:Int},fstTo p n a=some x→a≤x∧x < a+n∧p x
  | 0,a,x,h=>by cases h
  | n+1,a,x,h=>by
    unfold fstTo at h
    split at h
    · injection h with h; subst h; exact ⟨by omega,by omega,by assumption⟩
    have:=fstTo_some h; refine ⟨by omega,by omega,this.2.2⟩
theorem F96l3_eq (chs:List Ch) (cs:List Ce) (M:Int→Option Int) (t:Gn) (N:Nat) (rec1:List Dr→List Int→Int→Option (List Dr × List Int × Bool)) (ds:List Dr) (sts:List Int) (v:Int) (c:Cl) (s:Int)
    (hn:cs.length≤24) (hv:∀ c∈cs,vCe c) (hc:vCl c) (ht:smG t) (hs:0≤s∧s≤100) (hd:ds.length≤1000) (hst:sts.length≤1000) (hN:101≤N):∀ (m:Nat) (x:Int),hi2 c.fr s≤x→x≤200→(c.to+1 - x).toNat < m →
    F96l3 chs cs M t N rec1 ds sts v c s m x=match fstTo (fun x=>mt (gnC cs c (hi2 c.fr s) x) t) (c.to+1 - x).toNat x with
      | some y=>F96j2 rec1 v (ds++[⟨hi2 c.fr s,y⟩]) (sts++[y+1])
      | none=>some (ds,sts++[hi2 (c.to+1) (hi2 c.fr s)+1],false):=by
  have hc':=hc
  unfold vCl at hc'
  have hf:0≤hi2 c.fr s∧hi2 c.fr s≤100:=by unfold hi2; split <;> omega
  have hf2:hi2 (c.to+1) (hi2 c.fr s)≤100∧0≤hi2 (c.to+1) (hi2 c.fr s):=by generalize hi2 c.fr s=f at hf; unfold hi2; split <;> omega
  intro m; induction m with
  | zero=>intro x h1 h2 h3; omega
  | succ m ih =>
    intro x h1 h2 h3
    show F96b3 chs cs M t N rec1 ds sts v c s (F96l3 chs cs M t N rec1 ds sts v c s m) x=_
    unfold F96b3
    show (if x≤c.to then bp (F94 N chs cs M c ⟨hi2 c.fr s,x⟩) _ else ckO (c.to+1) (ckO (hi2 (c.to+1) (hi2 c.fr s)+1) (gdO (sts.length+1≤1000000000) (some (ds,sts++[hi2 (c.to+1) (hi2 c.fr s)+1],false)))))=_
    by_cases hx:x≤c.to
    · have hg:=gnC_ok hv hn hc (hi2 c.fr s) x
      have e:(c.to+1 - x).toNat=(c.to+1 - (x+1)).toNat+1:=by omega
      rw [if_pos hx,F94_eq N chs cs M c ⟨hi2 c.fr s,x⟩ hf.1 hn hv hc hN,ba,F79_small hg.1 ht,ba,e]
      unfold fstTo
      by_cases hm:mt (gnC cs c (hi2 c.fr s) x) t
      · rw [if_pos (cmp_pos.2 hm),if_pos hm,du (by omega),dr (by unfold InR; omega),du (by omega)]
        rfl
      rw [if_neg (fun h=>hm (cmp_pos.1 h)),if_neg hm,dr (by unfold InR; omega),ih (x+1) (by omega) (by omega) (by omega)]
    rw [if_neg hx,show (c.to+1 - x).toNat=0 by omega,dr (by unfold InR; omega),dr (by unfold InR; omega),du (by omega)]
    rfl
theorem F96l1_eq (chs:List Ch) (cs:List Ce) (M:Int→Option Int) (l:List Cl) (t:Gn) (N:Nat) (hn:cs.length≤24) (hv:∀ c∈cs,vCe c) (hc:∀ c∈l,vCl c) (hl:l.length≤12) (ht:smG t) (hN:101≤N):∀ (m i:Nat) (ds:List Dr) (sts:List Int) (s:Int),ds.length≤i→sts.length=i+1→sts[i]?=some s→0≤s∧s≤100→i≤l.length→l.length < m+i →
    F96l1 chs cs M l t N m ds sts (i:Int)=some (ds++(nn cs t (l.drop i) s).1,sts++(nn cs t (l.drop i) s).2.1,(nn cs t (l.drop i) s).2.2):=by
  intro m; induction m with
  | zero=>intro i ds sts s h1 h2 h3 h4 h0 h; omega
  | succ m ih =>
    intro i ds sts s k1 k2 k3 k4 h0 h
    show F96b1 chs cs M l t N (F96l1 chs cs M l t N m) ds sts (i:Int)=_
    unfold F96b1
    rcases gv l i with ⟨h1,h2⟩ | ⟨c,h1,h2,h3⟩
    · rw [if_neg (by omega),h2]; simp [nn]
    have hcc:=hc c (List.mem_of_getElem? h2)
    have hcv:=hcc
    unfold vCl at hcv
    rw [if_pos (by omega),du (by omega),Int.toNat_natCast,h2,ba,dr (by unfold InR; omega),du (by omega),show ((sts.length:Int) - 1).toNat=i by omega,k3,ba]
    show F96l3 chs cs M t N (F96l1 chs cs M l t N m) ds sts (i:Int) c s N (hi2 c.fr s)=_
    have hf:0≤hi2 c.fr s∧hi2 c.fr s≤100:=by unfold hi2; split <;> omega
    rw [F96l3_eq chs cs M t N _ ds sts _ c s hn hv hcc ht k4 (by omega) (by omega) hN N (hi2 c.fr s) (by omega) (by omega) (by omega),h3]
    unfold nn
    cases hq:fstTo (fun x=>mt (gnC cs c (hi2 c.fr s) x) t) (c.to+1 - hi2 c.fr s).toNat (hi2 c.fr s) with
    | none=>simp
    | some y =>
      have hy:=fstTo_some hq
      show F96j2 _ _ _ _=_
      unfold F96j2
      rw [dr (by unfold InR; omega),eh,ih (i+1) _ _ (y+1) (by simp; omega) (by simp [k2]) (by rw [List.getElem?_append_right (by omega)]; simp [k2]) (by omega) (by omega) (by omega)]
      simp
theorem F96_eq (N:Nat) (chs:List Ch) (cs:List Ce) (M:Int→Option Int) (c:Cl) (r:List Cl) (t:Gn) (hn:cs.length≤24) (hv:∀ c∈cs,vCe c) (hc:∀ x∈c :: r,vCl x) (hl:(c :: r).length≤12) (ht:smG t) (hN:101≤N) :
    F96 N chs cs M (c :: r) t=some ((nn cs t (c :: r) c.fr).1,c.fr :: (nn cs t (c :: r) c.fr).2.1,(nn cs t (c :: r) c.fr).2.2):=by
  unfold F96
  have h0:=hc c (by simp)
  unfold vCl at h0
  rw [show (c :: r)[0]?=some c from rfl,ba]
  have:=F96l1_eq chs cs M (c :: r) t N hn hv hc hl ht hN N 0 [] [c.fr] c.fr (by simp) rfl rfl (by omega) (by omega) (by omega)
  simp only [List.drop_zero,Int.natCast_zero,List.nil_append] at this
  rw [this]; rfl
def shL:List Cl→List Dr→Int→Prop
  | [],[],_=>True
  | c :: l,d :: ds,s=>hi2 c.fr s≤d.fr∧d.fr≤d.to∧d.to≤c.to∧shL l ds (d.to+1)
  | _,_,_=>False
instance shLD:(l:List Cl)→(ds:List Dr)→(s:Int)→Decidable (shL l ds s)
  | [],[],_=>isTrue trivial
  | c :: l,d :: ds,s=>by unfold shL; have:=shLD l ds (d.to+1); infer_instance
  | [],_ :: _,_=>isFalse (fun h=>h)
  | _ :: _,[],_=>isFalse (fun h=>h)
theorem nb (c:Cl) (l:List Cl) (d:Dr) (ds:List Dr) (s:Int):shL (c :: l) (d :: ds) s↔hi2 c.fr s≤d.fr∧d.fr≤d.to∧d.to≤c.to∧shL l ds (d.to+1):=⟨fun h=>h,fun h=>h⟩
theorem shL_len:∀ {l:List Cl} {ds:List Dr} {s:Int},shL l ds s→ds.length=l.length
  | [],[],_,_=>rfl
  | c :: l,d :: ds,s,h=>by simp [shL_len h.2.2.2]
def dy (cs:List Ce) (l:List Cl) (ds:List Dr):List Gn:=List.zipWith (fun c d=>gnC cs c d.fr d.to) l ds
theorem srch_sh (cs:List Ce) (t:Gn):∀ (l:List Cl) (s:Int),(nn cs t l s).2.2=true→shL l (nn cs t l s).1 s∧∀ g∈dy cs l (nn cs t l s).1,mt g t
  | [],s,_=>⟨trivial,fun g hg=>by simp [dy] at hg⟩
  | c :: r,s,h=>by
    unfold nn at h ⊢
    cases hq:fstTo (fun x=>mt (gnC cs c (hi2 c.fr s) x) t) (c.to+1 - hi2 c.fr s).toNat (hi2 c.fr s) with
    | none=>rw [hq] at h; cases h
    | some x =>
      rw [hq] at h
      have hx:=fstTo_some hq
      obtain ⟨h1,h2⟩:=srch_sh cs t r (x+1) h
      refine ⟨⟨Int.le_refl _,hx.1,show x≤c.to by omega,h1⟩,fun g hg=>?_⟩
      simp only [dy,List.zipWith_cons_cons,List.mem_cons] at hg
      rcases hg with rfl | hg
      · exact hx.2.2
      exact h2 g hg
theorem F81l1_eq (l:List Cl) (ds:List Dr) (hn:l.length≤12) (hc:∀ c∈l,vCl c) (hl:ds.length=l.length):∀ (m i:Nat) (s:Int),i≤l.length→l.length < m+i→F81l1 l ds m s (i:Int)=some (decide (shL (l.drop i) (ds.drop i) s)):=by
  intro m; induction m with
  | zero=>intro i s h0 h; omega
  | succ m ih =>
    intro i s h0 h
    show F81b1 l ds (F81l1 l ds m) s (i:Int)=_
    unfold F81b1
    rcases gv l i with ⟨h1,h2⟩ | ⟨c,h1,h2,h3⟩
    · rw [if_neg (by omega),h2,List.drop_eq_nil_of_le (by omega)]; exact congrArg some (decide_eq_true (show shL [] [] s from trivial)).symm
    rcases gv ds i with ⟨g1,g2⟩ | ⟨d,g1,g2,g3⟩
    · omega
    have hcc:=hc c (List.mem_of_getElem? h2)
    unfold vCl at hcc
    rw [if_pos (by omega),du (by omega),Int.toNat_natCast,g2,ba,h2,ba,h3,g3]
    simp only [nb]
    show (if d.fr < hi2 c.fr s then some false else _)=_
    by_cases e1:d.fr < hi2 c.fr s
    · rw [if_pos e1]; exact congrArg some (decide_eq_false (fun h=>by omega)).symm
    rw [if_neg e1]
    by_cases e2:d.to < d.fr
    · rw [if_pos e2]; exact congrArg some (decide_eq_false (fun h=>by omega)).symm
    rw [if_neg e2]
    by_cases e3:c.to < d.to
    · rw [if_pos e3]; exact congrArg some (decide_eq_false (fun h=>by omega)).symm
    have hq:c.fr≤hi2 c.fr s:=by unfold hi2; split <;> omega
    rw [if_neg e3,dr (by unfold InR; omega),dr (by unfold InR; omega),eh,ih (i+1) _ (by omega) (by omega)]
    congr 1
    rw [decide_eq_decide]
    constructor
    · intro h; exact ⟨by omega,by omega,by omega,h⟩
    intro h; exact h.2.2.2
end Go.K
end
section
namespace Go.K
open Go.RowKit
theorem F82l1_eq (chs:List Ch) (cs:List Ce) (M:Int→Option Int) (l:List Cl) (ds:List Dr) (N:Nat) (hn:cs.length≤24) (hv:∀ c∈cs,vCe c) (hc:∀ c∈l,vCl c) (hd:∀ d∈ds,0≤d.fr) (hl:l.length≤12) (hlen:ds.length=l.length) (hN:101≤N):∀ (m i:Nat) (a:List Gn),a.length=i→i≤l.length→l.length < m+i →
    F82l1 chs cs M l ds N m a (i:Int)=some (a++dy cs (l.drop i) (ds.drop i)):=by
  intro m; induction m with
  | zero=>intro i a ha h0 h; omega
  | succ m ih =>
    intro i a ha h0 h
    show F82b1 chs cs M l ds N (F82l1 chs cs M l ds N m) a (i:Int)=_
    unfold F82b1
    rcases gv l i with ⟨h1,h2⟩ | ⟨c,h1,h2,h3⟩
    · rw [if_neg (by omega),h2]; simp [dy]
    rcases gv ds i with ⟨g1,g2⟩ | ⟨d,g1,g2,g3⟩
    · omega
    have hcc:=hc c (List.mem_of_getElem? h2)
    have hdd:=hd d (List.mem_of_getElem? g2)
    rw [if_pos (by omega),du (by omega),Int.toNat_natCast,g2,ba,h2,ba,F94_eq N chs cs M c d hdd hn hv hcc hN,ba,du (by omega),dr (by unfold InR; omega),eh,ih (i+1) _ (by simp [ha]) (by omega) (by omega),h3,g3]
    simp [dy]
theorem F82_eq (N:Nat) (chs:List Ch) (cs:List Ce) (M:Int→Option Int) (l:List Cl) (ds:List Dr) (hn:cs.length≤24) (hv:∀ c∈cs,vCe c) (hc:∀ c∈l,vCl c) (hd:∀ d∈ds,0≤d.fr) (hl:l.length≤12) (hlen:ds.length=l.length) (hN:101≤N):F82 N chs cs M l ds=some (dy cs l ds):=by
  have:=F82l1_eq chs cs M l ds N hn hv hc hd hl hlen hN N 0 [] rfl (by omega) (by omega)
  simpa [F82] using this
def lstG:Gn→List Gn→Gn
  | m,[]=>m
  | m,x :: r=>if mt m x then lstG x r else lstG m r
theorem lstG_mem:∀ (r:List Gn) (m:Gn),lstG m r∈m :: r
  | [],m=>by simp [lstG]
  | x :: r,m=>by
    unfold lstG
    split
    · have:=lstG_mem r x; simp at this ⊢; rcases this with h | h <;> simp [h]
    have:=lstG_mem r m; simp at this ⊢; rcases this with h | h <;> simp [h]
theorem F97l1_eq (gs:List Gn) (hg:∀ g∈gs,smG g) (hn:gs.length≤100):∀ (m i:Nat) (g:Gn),smG g→i≤gs.length→gs.length < m+i→F97l1 gs m g.num g.den (i:Int)=some ((lstG g (gs.drop i)).num,(lstG g (gs.drop i)).den):=by
  intro m; induction m with
  | zero=>intro i g hg' h0 h; omega
  | succ m ih =>
    intro i g hg' h0 h
    show F97b1 gs (F97l1 gs m) g.num g.den (i:Int)=_
    unfold F97b1 F97j2
    rcases gv gs i with ⟨h1,h2⟩ | ⟨x,h1,h2,h3⟩
    · rw [if_neg (by omega),h2]; rfl
    have hx:=hg x (List.mem_of_getElem? h2)
    have e:(⟨g.num,g.den⟩:Gn)=g:=rfl
    rw [if_pos (by omega),du (by omega),Int.toNat_natCast,h2,ba,e,F79_small hx hg',ba,h3,dr (by unfold InR; omega),dr (by unfold InR; omega),eh]
    unfold lstG
    by_cases hm:mt g x
    · rw [if_pos (cmp_neg.2 hm),if_pos hm,ih (i+1) x hx (by omega) (by omega)]
    rw [if_neg (fun h=>hm (cmp_neg.1 h)),if_neg hm,ih (i+1) g hg' (by omega) (by omega)]
def leastL (cs:List Ce) (l:List Cl) (ds:List Dr):Gn:=match dy cs l ds with
  | []=>⟨0,1⟩
  | g :: r=>lstG g r
theorem gains_sm {cs:List Ce} (hv:∀ c∈cs,vCe c) (hn:cs.length≤24):∀ {l:List Cl} {ds:List Dr},(∀ c∈l,vCl c)→∀ g∈dy cs l ds,smG g∧0≤g.num
  | [],_,_,g,h=>by simp [dy] at h
  | _ :: _,[],_,g,h=>by simp [dy] at h
  | c :: l,d :: ds,hc,g,h=>by
    simp only [dy,List.zipWith_cons_cons,List.mem_cons] at h
    rcases h with rfl | h
    · exact gnC_ok hv hn (hc c (by simp)) _ _
    exact gains_sm hv hn (fun c hc'=>hc c (by simp [hc'])) g h
theorem leastL_mem {cs:List Ce} {l:List Cl} {ds:List Dr} (h:0 < l.length) (hl:ds.length=l.length):leastL cs l ds∈dy cs l ds:=by
  unfold leastL
  cases hq:dy cs l ds with
  | nil =>
    have:(dy cs l ds).length=l.length:=by simp [dy]; omega
    rw [hq] at this; simp at this; omega
  | cons g r=>exact lstG_mem r g
theorem F97_eq (N:Nat) (chs:List Ch) (cs:List Ce) (M:Int→Option Int) (l:List Cl) (ds:List Dr) (hn:cs.length≤24) (hv:∀ c∈cs,vCe c) (hc:∀ c∈l,vCl c) (hd:∀ d∈ds,0≤d.fr) (h0:0 < l.length) (hl:l.length≤12) (hlen:ds.length=l.length) (hN:101≤N):F97 N chs cs M l ds=some ((leastL cs l ds).num,(leastL cs l ds).den):=by
  unfold F97
  rw [F82_eq N chs cs M l ds hn hv hc hd hl hlen hN,ba]
  have hlen2:(dy cs l ds).length=l.length:=by simp [dy]; omega
  have hs:=gains_sm (ds:=ds) hv hn hc
  rw [if_neg (by omega)]
  unfold leastL
  cases hq:dy cs l ds with
  | nil=>rw [hq] at hlen2; simp at hlen2; omega
  | cons g r =>
    rw [hq] at hs hlen2
    rw [show (g :: r)[0]?=some g from rfl,ba]
    have:=F97l1_eq (g :: r) (fun x hx=>(hs x hx).1) (by omega) N 1 g (hs g (by simp)).1 (by simp) (by omega)
    simpa using this
def valG (g:Gn):Int:=g.num * (232792560 / g.den)
theorem val_den {g:Gn} (h:1≤g.den∧g.den≤20):(232792560 / g.den) * g.den=232792560∧0 < 232792560 / g.den:=by
  have:g.den=1∨g.den=2∨g.den=3∨g.den=4∨g.den=5∨g.den=6∨g.den=7∨g.den=8∨g.den=9∨g.den=10∨g.den=11∨g.den=12∨g.den=13∨g.den=14∨g.den=15∨g.den=16∨g.den=17∨g.den=18∨g.den=19∨g.den=20:=by omega
  rcases this with h | h | h | h | h | h | h | h | h | h | h | h | h | h | h | h | h | h | h | h <;> rw [h] <;> decide
theorem mt_val {g t:Gn} (hg:smG g) (ht:smG t) (h:mt g t):valG t < valG g:=by
  unfold smG at hg ht
  obtain ⟨a1,a2⟩:=val_den hg.2
  obtain ⟨b1,b2⟩:=val_den ht.2
  unfold mt at h
  unfold valG
  generalize 232792560 / g.den=x at *
  generalize 232792560 / t.den=y at *
  have h1:t.num * g.den * (x * y) < g.num * t.den * (x * y):=Int.mul_lt_mul_of_pos_right h (Int.mul_pos a2 b2)
  have e1:t.num * g.den * (x * y)=t.num * y * 232792560:=by rw [← a1]; ac_rfl
  have e2:g.num * t.den * (x * y)=g.num * x * 232792560:=by rw [← b1]; ac_rfl
  rw [e1,e2] at h1
  omega
theorem val_bd {g:Gn} (hg:smG g):valG g≤240000 * 232792560∧-232792560≤valG g:=by
  unfold smG at hg
  obtain ⟨a1,a2⟩:=val_den hg.2
  unfold valG
  generalize 232792560 / g.den=x at *
  have hx:x≤232792560:=by
    have:=Int.mul_le_mul_of_nonneg_left hg.2.1 (show 0≤x by omega)
    omega
  have h1:=Int.mul_le_mul_of_nonneg_right hg.1.1 (show 0≤x by omega)
  have h2:=Int.mul_le_mul_of_nonneg_right hg.1.2 (show 0≤x by omega)
  omega
theorem shL_fr:∀ {l:List Cl} {ds:List Dr} {s:Int},shL l ds s→(∀ c∈l,0≤c.fr)→∀ d∈ds,0≤d.fr
  | [],[],_,_,_,d,h=>by cases h
  | c :: l,e :: ds,s,h,hc,d,hd=>by
    rcases List.mem_cons.1 hd with rfl | hd
    · have h1:=h.1
      have h2:=hc c (by simp)
      have:c.fr≤hi2 c.fr s:=by unfold hi2; split <;> omega
      omega
    exact shL_fr h.2.2.2 (fun c hc'=>hc c (by simp [hc'])) d hd
  | [],_ :: _,_,h,_,_,_=>absurd h (fun h=>h)
  | _ :: _,[],_,h,_,_,_=>absurd h (fun h=>h)
structure GC (chs:List Ch) (cs:List Ce) (c:Cl) (r:List Cl):Prop where
  n:cs.length≤24
  v:∀ c∈cs,vCe c
  k:∀ x∈c :: r,vCl x
  l:(c :: r).length≤12
theorem F86l1_eq {chs:List Ch} {cs:List Ce} {M:Int→Option Int} {c:Cl} {r:List Cl} (H:GC chs cs c r) (N:Nat) (hN:101≤N):∀ (m:Nat) (t:Gn) (bd_:List Dr) (bn bden:Int),smG t→(nn cs t (c :: r) c.fr).2.2=true→240000 * 232792560+3 < valG t+m →
    ∃ ds t',F86l1 chs cs M (c :: r) N m (nn cs t (c :: r) c.fr).1 (c.fr :: (nn cs t (c :: r) c.fr).2.1) true bd_ bn bden=some (ds,t'.num,t'.den,c.fr :: (nn cs t' (c :: r) c.fr).2.1,true)∧shL (c :: r) ds c.fr∧t'=leastL cs (c :: r) ds∧smG t'∧(nn cs t' (c :: r) c.fr).2.2=false:=by
  intro m; induction m with
  | zero=>intro t bd_ bn bden ht hs h; have:=val_bd ht; omega
  | succ m ih =>
    intro t bd_ bn bden ht hs h
    obtain ⟨s1,s2⟩:=srch_sh cs t (c :: r) c.fr hs
    have hlen:=shL_len s1
    have hfr:=shL_fr s1 (fun x hx=>by have:=H.k x hx; unfold vCl at this; omega)
    have hmem:=leastL_mem (cs:=cs) (by simp) hlen
    have hsm:=(gains_sm H.v H.n H.k _ hmem).1
    have hmt:=s2 _ hmem
    have hval:=mt_val hsm ht hmt
    show ∃ ds t',F86b1 chs cs M (c :: r) N (F86l1 chs cs M (c :: r) N m) _ _ true bd_ bn bden=_∧_
    unfold F86b1
    rw [if_pos rfl,F97_eq N chs cs M (c :: r) _ H.n H.v H.k hfr (by simp) H.l hlen hN,ba]
    generalize hds:(nn cs t (c :: r) c.fr).1=ds at *
    generalize hg:leastL cs (c :: r) ds=g at *
    show ∃ ds' t',bp (F96 N chs cs M (c :: r) g) _=_∧_
    rw [F96_eq N chs cs M c r g H.n H.v H.k H.l hsm hN,ba]
    show ∃ ds' t',F86l1 chs cs M (c :: r) N m (nn cs g (c :: r) c.fr).1 (c.fr :: (nn cs g (c :: r) c.fr).2.1) (nn cs g (c :: r) c.fr).2.2 ds g.num g.den=_∧_
    cases hq:(nn cs g (c :: r) c.fr).2.2 with
    | true=>exact ih g ds g.num g.den hsm hq (by omega)
    | false =>
      obtain ⟨k,rfl⟩:∃ k,m=k+1:=⟨m - 1,by have:=val_bd hsm; omega⟩
      refine ⟨ds,g,?_,s1,hg.symm,hsm,hq⟩
      show F86b1 chs cs M (c :: r) N (F86l1 chs cs M (c :: r) N k) _ _ false ds g.num g.den=_
      unfold F86b1
      rw [if_neg (by decide)]
def tm1:Gn:=⟨-1,1⟩
theorem tm1_sm:smG tm1:=by unfold smG tm1; simp
theorem tm1_val:valG tm1=-232792560:=by unfold valG tm1; decide
structure Best (cs:List Ce) (c:Cl) (r:List Cl) (ds:List Dr) (t:Gn):Prop where
  sh:shL (c :: r) ds c.fr
  least:t=leastL cs (c :: r) ds
  sm:smG t
  wall:(nn cs t (c :: r) c.fr).2.2=false
theorem F86_eq {chs:List Ch} {cs:List Ce} {M:Int→Option Int} {c:Cl} {r:List Cl} (H:GC chs cs c r) (N:Nat) (hN:100000000000000≤N) :
    ((nn cs tm1 (c :: r) c.fr).2.2=false∧F86 N chs cs M (c :: r)=some ([],0,0,[],false)) ∨
    ((nn cs tm1 (c :: r) c.fr).2.2=true∧∃ ds t,F86 N chs cs M (c :: r)=some (ds,t.num,t.den,c.fr :: (nn cs t (c :: r) c.fr).2.1,true)∧Best cs c r ds t):=by
  unfold F86
  show (_∧bp (F96 N chs cs M (c :: r) tm1) _=_)∨(_∧∃ ds t,bp (F96 N chs cs M (c :: r) tm1) _=_∧_)
  rw [F96_eq N chs cs M c r tm1 H.n H.v H.k H.l tm1_sm (by omega)]
  simp only [ba]
  cases hq:(nn cs tm1 (c :: r) c.fr).2.2 with
  | false=>left; exact ⟨rfl,by simp⟩
  | true =>
    right
    refine ⟨rfl,?_⟩
    obtain ⟨ds,t,h1,h2,h3,h4,h5⟩:=F86l1_eq (M:=M) H N (by omega) N tm1 [] 0 0 tm1_sm hq (by rw [tm1_val]; omega)
    refine ⟨ds,t,?_,h2,h3,h4,h5⟩
    rw [if_pos rfl]
    exact h1
def crowdL (l:List Cl) (a b:Int):Prop:=∃ x y,l[b.toNat]?=some x∧l[a.toNat]?=some y∧hi2 (x.to - y.fr+1) 0 < b - a+1
theorem F89_eq (chs:List Ch) (cs:List Ce) (M:Int→Option Int) (l:List Cl) (hc:∀ c∈l,vCl c) (hl:l.length≤12) (a b:Int) (h:0≤a∧a≤b∧b < l.length):∃ t,F89 chs cs M l a b=some t∧(t=true↔crowdL l a b):=by
  have hb:l[b.toNat]?=some (l[b.toNat]'(by omega)):=List.getElem?_eq_getElem _
  have ha:l[a.toNat]?=some (l[a.toNat]'(by omega)):=List.getElem?_eq_getElem _
  have v1:=hc _ (List.mem_of_getElem? hb)
  have v2:=hc _ (List.mem_of_getElem? ha)
  unfold F89
  rw [du (by omega),hb,ba,du (by omega),ha,ba]
  generalize l[b.toNat]'(by omega)=x at *
  generalize l[a.toNat]'(by omega)=y at *
  unfold vCl at v1 v2
  rw [dr (by unfold InR; omega),dr (by unfold InR; omega),dr (by unfold InR; omega),dr (by unfold InR; omega)]
  show ∃ t,(if hi2 (x.to - y.fr+1) 0 < b - a+1 then some true else some false)=some t∧_
  by_cases hq:hi2 (x.to - y.fr+1) 0 < b - a+1
  · rw [if_pos hq]; exact ⟨true,rfl,⟨fun _=>⟨x,y,hb,ha,hq⟩,fun _=>rfl⟩⟩
  rw [if_neg hq]
  refine ⟨false,rfl,⟨fun h=>absurd h (by decide),fun ⟨x',y',h1,h2,h3⟩=>?_⟩⟩
  rw [hb] at h1; rw [ha] at h2
  injection h1 with h1; injection h2 with h2
  subst h1; subst h2
  exact absurd h3 hq
theorem crowd_not {l:List Cl} {ds:List Dr}:∀ {s:Int},shL l ds s→∀ (a n:Nat) (x y:Cl),l[a+n]?=some x→l[a]?=some y→y.fr+n≤x.to:=by
  have key:∀ (l:List Cl) (ds:List Dr) (s:Int),shL l ds s→∀ (n:Nat) (x:Cl),l[n]?=some x→s+n≤x.to:=by
    intro l
    induction l with
    | nil=>intro ds s h n x hx; simp at hx
    | cons c l ih =>
      intro ds s h n x hx
      cases ds with
      | nil=>exact absurd h (fun h=>h)
      | cons d ds =>
        have hq:s≤hi2 c.fr s:=by unfold hi2; split <;> omega
        have h1:=h.1; have h2:=h.2.1; have h3:=h.2.2.1
        cases n with
        | zero=>simp at hx; subst hx; omega
        | succ n =>
          have:=ih ds (d.to+1) h.2.2.2 n x (by simpa using hx)
          omega
  induction l generalizing ds with
  | nil=>intro s h a n x y hx hy; simp at hx
  | cons c l ih =>
    intro s h a n x y hx hy
    cases ds with
    | nil=>exact absurd h (fun h=>h)
    | cons d ds =>
      cases a with
      | zero =>
        simp at hy; subst hy
        have h1:=h.1; have h2:=h.2.1; have h3:=h.2.2.1
        have hq:c.fr≤hi2 c.fr s:=by unfold hi2; split <;> omega
        cases n with
        | zero=>simp at hx; subst hx; omega
        | succ n =>
          have:=key l ds (d.to+1) h.2.2.2 n x (by simpa using hx)
          omega
      | succ a =>
        exact ih h.2.2.2 a n x y (by rw [← hx,show a+1+n=(a+n)+1 by omega]; simp) (by simpa using hy)
theorem no_crowd {l:List Cl} {ds:List Dr} {s:Int} (h:shL l ds s) {a b:Int} (hab:0≤a∧a≤b∧b < l.length):¬ crowdL l a b:=by
  rintro ⟨x,y,h1,h2,h3⟩
  have:=crowd_not h a.toNat (b - a).toNat x y (by rw [← h1]; congr 1; omega) h2
  unfold hi2 at h3
  split at h3 <;> omega
theorem srch_tm1 (cs:List Ce) (hn:cs.length≤24) (hv:∀ c∈cs,vCe c):∀ (l:List Cl) (s:Int),(∀ c∈l,vCl c)→(nn cs tm1 l s).2.2=false→(∃ (k:Nat) (x:Cl),l[k]?=some x∧x.to < s+k)∨∃ (a n:Nat) (x y:Cl),l[a+n]?=some x∧l[a]?=some y∧x.to < y.fr+n
  | [],s,_,h=>by cases h
  | c :: r,s,hc,h=>by
    unfold nn at h
    have hcc:=hc c (by simp)
    have hq:hi2 c.fr s=s∨hi2 c.fr s=c.fr:=by unfold hi2; split <;> simp
    by_cases hx:hi2 c.fr s≤c.to
    · have e:fstTo (fun x=>mt (gnC cs c (hi2 c.fr s) x) tm1) (c.to+1 - hi2 c.fr s).toNat (hi2 c.fr s)=some (hi2 c.fr s):=by
        rw [show (c.to+1 - hi2 c.fr s).toNat=(c.to - hi2 c.fr s).toNat+1 by omega]
        unfold fstTo
        rw [if_pos]
        have:=gnC_ok hv hn hcc (hi2 c.fr s) (hi2 c.fr s)
        unfold smG at this
        unfold mt tm1
        show -1 * (gnC cs c (hi2 c.fr s) (hi2 c.fr s)).den < (gnC cs c (hi2 c.fr s) (hi2 c.fr s)).num * 1
        omega
      rw [e] at h
      rcases srch_tm1 cs hn hv r (hi2 c.fr s+1) (fun c hc'=>hc c (by simp [hc'])) h with ⟨k,x,h1,h2⟩ | ⟨a,n,x,y,h1,h2,h3⟩
      · rcases hq with hq | hq
        · left; exact ⟨k+1,x,by simpa using h1,by omega⟩
        right; exact ⟨0,k+1,x,c,by simpa using h1,rfl,by omega⟩
      right; exact ⟨a+1,n,x,y,by rw [show a+1+n=(a+n)+1 by omega]; simpa using h1,by simpa using h2,h3⟩
    rcases hq with hq | hq
    · left; exact ⟨0,c,rfl,by omega⟩
    right; exact ⟨0,0,c,c,rfl,rfl,by omega⟩
theorem crowd_of {cs:List Ce} (hn:cs.length≤24) (hv:∀ c∈cs,vCe c) {c:Cl} {r:List Cl} (hc:∀ x∈c :: r,vCl x) (h:(nn cs tm1 (c :: r) c.fr).2.2=false):∃ (a b:Nat),a≤b∧b < (c :: r).length∧crowdL (c :: r) a b:=by
  have fin:∀ (a n:Nat) (x y:Cl),(c :: r)[a+n]?=some x→(c :: r)[a]?=some y→x.to < y.fr+n→∃ (a b:Nat),a≤b∧b < (c :: r).length∧crowdL (c :: r) a b:=fun a n x y h1 h2 h3=>by
    refine ⟨a,a+n,by omega,?_,x,y,by rw [Int.toNat_natCast]; exact h1,by rw [Int.toNat_natCast]; exact h2,by unfold hi2; split <;> omega⟩
    rcases Nat.lt_or_ge (a+n) (c :: r).length with h4 | h4
    · exact h4
    rw [List.getElem?_eq_none h4] at h1; cases h1
  rcases srch_tm1 cs hn hv (c :: r) c.fr hc h with ⟨k,x,h1,h2⟩ | ⟨a,n,x,y,h1,h2,h3⟩
  · exact fin 0 k x c (by simpa using h1) rfl h2
  exact fin a n x y h1 h2 h3
theorem F51l3_eq (chs:List Ch) (cs:List Ce) (M:Int→Option Int) (l:List Cl) (hc:∀ c∈l,vCl c) (hl:l.length≤12) (rec1:Int→Option (Int × Int × Int)) (a:Int) (ha:0≤a):∀ (m b:Nat),a≤b→b≤l.length→l.length < m+b →
    (∃ b':Int,F51l3 chs cs l rec1 M a m (b:Int)=some (a,b',0)∧(b:Int)≤b'∧b' < l.length∧crowdL l a b')∨(F51l3 chs cs l rec1 M a m (b:Int)=F51j2 rec1 a∧∀ b':Int,(b:Int)≤b'→b' < l.length→¬ crowdL l a b'):=by
  intro m; induction m with
  | zero=>intro b h1 h2 h3; omega
  | succ m ih =>
    intro b h1 h2 h3
    show (∃ b':Int,F51b3 chs cs l rec1 M a (F51l3 chs cs l rec1 M a m) (b:Int)=_∧_)∨(F51b3 chs cs l rec1 M a (F51l3 chs cs l rec1 M a m) (b:Int)=_∧_)
    unfold F51b3
    by_cases hb:(b:Int) < (l.length:Int)
    · obtain ⟨t,e1,e2⟩:=F89_eq chs cs M l hc hl a b ⟨ha,h1,hb⟩
      rw [if_pos hb,e1,ba]
      cases t with
      | true=>left; exact ⟨b,if_pos rfl,by omega,hb,e2.1 rfl⟩
      | false =>
        rw [if_neg (by decide),dr (by unfold InR; omega),eh]
        rcases ih (b+1) (by omega) (by omega) (by omega) with ⟨b',g1,g2,g3⟩ | ⟨g1,g2⟩
        · left; exact ⟨b',g1,by omega,g3⟩
        right
        refine ⟨g1,fun b' k1 k2=>?_⟩
        by_cases e:b'=b
        · subst e; exact fun hq=>by have:=e2.2 hq; cases this
        exact g2 b' (by omega) k2
    right; rw [if_neg hb]; exact ⟨rfl,fun b' k1 k2=>by omega⟩
theorem F51l1_eq (chs:List Ch) (cs:List Ce) (M:Int→Option Int) (l:List Cl) (hc:∀ c∈l,vCl c) (hl:l.length≤12) (N:Nat) (hN:30≤N):∀ (m a:Nat),a≤l.length→l.length < m+a →
    (∃ a' b':Int,F51l1 chs cs l N M m (a:Int)=some (a',b',0)∧0≤a'∧a'≤b'∧b' < l.length∧crowdL l a' b')∨(F51l1 chs cs l N M m (a:Int)=some (0,0,48)∧∀ a' b':Int,(a:Int)≤a'→a'≤b'→b' < l.length→¬ crowdL l a' b'):=by
  intro m; induction m with
  | zero=>intro a h1 h2; omega
  | succ m ih =>
    intro a h1 h2
    show (∃ a' b':Int,F51b1 chs cs l N M (F51l1 chs cs l N M m) (a:Int)=_∧_)∨(F51b1 chs cs l N M (F51l1 chs cs l N M m) (a:Int)=_∧_)
    unfold F51b1
    by_cases ha:(a:Int) < (l.length:Int)
    · rw [if_pos ha]
      rcases F51l3_eq chs cs M l hc hl (F51l1 chs cs l N M m) a (by omega) N a (by omega) (by omega) (by omega) with ⟨b',g1,g2,g3,g4⟩ | ⟨g1,g2⟩
      · left; exact ⟨a,b',g1,by omega,g2,g3,g4⟩
      rw [g1]
      unfold F51j2
      rw [dr (by unfold InR; omega),eh]
      rcases ih (a+1) (by omega) (by omega) with k | ⟨k1,k2⟩
      · left; exact k
      right
      refine ⟨k1,fun a' b' q1 q2 q3=>?_⟩
      by_cases e:a'=a
      · subst e; exact g2 b' q2 q3
      exact k2 a' b' (by omega) q2 q3
    right; rw [if_neg ha]; exact ⟨rfl,fun a' b' q1 q2 q3=>by omega⟩
theorem oa:∀ (l:List Cl) (n:Int) (s:List Int),okL n s l→∀ c∈l,vCl c∧c.to < n
  | [],_,_,_,c,hc=>by simp at hc
  | d :: l,n,s,h,c,hc=>by
    rcases List.mem_cons.1 hc with rfl | hc
    · exact ⟨h.1,h.2.1⟩
    exact oa l n _ h.2.2.2 c hc
theorem F51_eq (N:Nat) (chs:List Ch) (cs:List Ce) (l:List Cl) (hg:okG chs cs) (hc:okC cs l) (hN:40≤N) :
    (∃ a' b':Int,F51 N chs cs l=some (a',b',0)∧0≤a'∧a'≤b'∧b' < l.length∧crowdL l a' b')∨(F51 N chs cs l=some (0,0,48)∧∀ a' b':Int,0≤a'→a'≤b'→b' < l.length→¬ crowdL l a' b'):=by
  unfold F51
  rw [F64_eq N chs cs l (by omega),if_pos hg,if_pos hc,pz]
  have:=F51l1_eq chs cs (extM noM 0 chs) l (fun c h=>(oa l _ _ hc.2 c h).1) hc.1.2 N (by omega) N 0 (by omega) (by have:=hc.1; omega)
  simpa using this
theorem F45_eq (N:Nat) (chs:List Ch) (cs:List Ce) (l:List Cl) (p:Cw) (hg:okG chs cs) (hc:okC cs l) (hN:40≤N):∃ e,F45 N chs cs l p=some e∧(e=0↔(0≤p.fst∧p.fst≤p.lst∧p.lst < l.length)∧crowdL l p.fst p.lst):=by
  unfold F45
  rw [F64_eq N chs cs l (by omega),if_pos hg,if_pos hc,pz]
  by_cases h:0≤p.fst∧p.fst≤p.lst∧p.lst < l.length
  · rw [if_pos h.1,if_pos h.2.1,if_pos h.2.2]
    unfold F45j1
    obtain ⟨t,e1,e2⟩:=F89_eq chs cs (extM noM 0 chs) l (fun c h=>(oa l _ _ hc.2 c h).1) hc.1.2 p.fst p.lst h
    rw [if_pos rfl,e1,ba]
    cases t with
    | true=>exact ⟨0,if_pos rfl,fun _=>⟨h,e2.1 rfl⟩,fun _=>rfl⟩
    | false=>exact ⟨48,if_neg (by decide),fun h=>by omega,fun h=>by have:=e2.2 h.2; cases this⟩
  have:F45j1 chs cs l p (extM noM 0 chs) false=some 48:=rfl
  refine ⟨48,?_,fun h=>by omega,fun h'=>absurd h'.1 h⟩
  rw [this]
  repeat' split
  all_goals first | rfl | (exfalso; omega)
theorem F43_eq (N:Nat) (chs:List Ch) (cs:List Ce) (l:List Cl) (ds:List Dr) (hg:okG chs cs) (hc:okC cs l) (hN:40≤N):F43 N chs cs l ds=some (if shL l ds 0 then 0 else 46):=by
  unfold F43
  rw [F64_eq N chs cs l (by omega),if_pos hg,if_pos hc,pz]
  unfold F81
  by_cases h:ds.length=l.length
  · rw [if_pos (by omega)]
    have:=F81l1_eq l ds hc.1.2 (fun c h=>(oa l _ _ hc.2 c h).1) h N 0 0 (by omega) (by have:=hc.1; omega)
    simp only [List.drop_zero,Int.natCast_zero] at this
    rw [this,ba]
    by_cases h2:shL l ds 0 <;> simp [h2]
  rw [if_neg (by omega),ba,if_neg (by decide),if_neg (fun h2=>h (shL_len h2))]
theorem shL_zero {c:Cl} {r:List Cl} {ds:List Dr} (h0:0≤c.fr):shL (c :: r) ds c.fr↔shL (c :: r) ds 0:=by
  cases ds with
  | nil=>exact ⟨fun h=>h,fun h=>h⟩
  | cons d ds =>
    have e:hi2 c.fr c.fr=hi2 c.fr 0:=by
      unfold hi2; repeat' split
      all_goals omega
    rw [nb,nb,e]
end Go.K
end
section
namespace Go.K
open Go.RowKit
theorem mt_gn {w h:Int} {t:Gn} (hw:0≤w) (hh:1≤h):mt (gnOf w h) t↔t.num * h < w * t.den:=by
  obtain ⟨h1,h2,h3⟩:=gnOf_ok hw hh
  generalize gnOf w h=g at *
  have e1:t.num * g.den * h=t.num * h * g.den:=by ac_rfl
  have e2:g.num * t.den * h=w * t.den * g.den:=by
    have:g.num * t.den * h=g.num * h * t.den:=by ac_rfl
    rw [this,h3]; ac_rfl
  have a1:t.num * g.den * h < g.num * t.den * h↔t.num * g.den < g.num * t.den:=Int.mul_lt_mul_right (by omega)
  have a2:t.num * h * g.den < w * t.den * g.den↔t.num * h < w * t.den:=Int.mul_lt_mul_right (by omega)
  unfold mt
  rw [← a1,e1,e2,a2]
theorem sum_sub:∀ {a b:List Int},a.Sublist b→(∀ v∈b,0≤v)→a.sum≤b.sum
  | _,_,.slnil,_=>Int.le_refl _
  | _,_,.cons x h,hb=>by
    have:=sum_sub h (fun v hv=>hb v (by simp [hv]))
    have:=hb x (by simp)
    simp; omega
  | _,_,.cons_cons x h,hb=>by
    have:=sum_sub h (fun v hv=>hb v (by simp [hv]))
    simp; omega
theorem worth_mono {cs:List Ce} (hv:∀ c∈cs,vCe c) {a b a' b':Int} (ha:0≤a') (h1:a'≤a) (h2:b≤b'):nx cs a b≤nx cs a' b':=by
  unfold nx
  refine sum_sub (List.Sublist.map _ ?_) (fun v hv'=>?_)
  · by_cases hab:a≤b+1
    · have e:(cs.drop a.toNat).take ((b+1).toNat - a.toNat)=(((cs.drop a'.toNat).take ((b'+1).toNat - a'.toNat)).drop (a.toNat - a'.toNat)).take ((b+1).toNat - a.toNat):=by
        rw [List.drop_take,List.drop_drop,List.take_take,Nat.min_eq_left (by omega),show a'.toNat+(a.toNat - a'.toNat)=a.toNat by omega]
      rw [e]
      exact (List.take_sublist _ _).trans (List.drop_sublist _ _)
    rw [show (b+1).toNat - a.toNat=0 by omega]; simp
  obtain ⟨c,hc,rfl⟩:=List.mem_map.1 hv'
  have:=hv c (List.mem_of_mem_drop (List.mem_of_mem_take hc))
  unfold vCe at this; omega
theorem worth_empty (cs:List Ce) {a b:Int} (h:b+1≤a):nx cs a b=0:=by
  unfold nx; rw [show (b+1).toNat - a.toNat=0 by omega]; simp
theorem mt_gnC {cs:List Ce} (hv:∀ c∈cs,vCe c) (hn:cs.length≤24) {c:Cl} (hc:vCl c) (a b:Int) (t:Gn):mt (gnC cs c a b) t↔t.num * c.hd < nx cs a b * t.den:=by
  unfold vCl at hc
  exact mt_gn (pv hv hn a b).1 hc.2.2.1
theorem fstTo_min {p:Int→Prop} [DecidablePred p]:∀ {n:Nat} {a x:Int},fstTo p n a=some x→∀ y,a≤y→y < x→¬ p y
  | 0,a,x,h,_,_,_=>by cases h
  | n+1,a,x,h,y,h1,h2=>by
    unfold fstTo at h
    split at h
    · injection h with h; omega
    rename_i hp
    by_cases e:y=a
    · rw [e]; exact hp
    exact fstTo_min h y (by omega) h2
theorem fstTo_none {p:Int→Prop} [DecidablePred p]:∀ {n:Nat} {a:Int},fstTo p n a=none→∀ y,a≤y→y < a+n→¬ p y
  | 0,a,h,y,_,_=>by omega
  | n+1,a,h,y,h1,h2=>by
    unfold fstTo at h
    split at h
    · cases h
    rename_i hp
    by_cases e:y=a
    · rw [e]; exact hp
    exact fstTo_none h y (by omega) (by omega)
def stepW (cs:List Ce) (t:Gn) (c:Cl) (s n:Int):Prop:=hi2 c.fr s < n∧¬ mt (gnC cs c (hi2 c.fr s) (n - 2)) t
instance (cs:List Ce) (t:Gn) (c:Cl) (s n:Int):Decidable (stepW cs t c s n):=by unfold stepW; infer_instance
def shW (cs:List Ce) (t:Gn):List Cl→Int→List Int→Prop
  | c :: _,s,[n]=>stepW cs t c s n∧c.to < n - 1
  | c :: r,s,n :: m :: l=>stepW cs t c s n∧shW cs t r n (m :: l)
  | _,_,_=>False
theorem shW_one (cs:List Ce) (t:Gn) (c:Cl) (r:List Cl) (s n:Int):shW cs t (c :: r) s [n]↔stepW cs t c s n∧c.to < n - 1:=by cases r <;> exact ⟨fun h=>h,fun h=>h⟩
theorem shW_two (cs:List Ce) (t:Gn) (c:Cl) (r:List Cl) (s n m:Int) (l:List Int):shW cs t (c :: r) s (n :: m :: l)↔stepW cs t c s n∧shW cs t r n (m :: l):=⟨fun h=>h,fun h=>h⟩
theorem srch_wall (cs:List Ce) (hv:∀ c∈cs,vCe c) (hn:cs.length≤24) (t:Gn) (ht:0≤t.num):∀ (l:List Cl) (s:Int),(∀ c∈l,vCl c)→0≤s∧s≤24→(nn cs t l s).2.2=false →
    shW cs t l s (nn cs t l s).2.1∧(∀ n∈(nn cs t l s).2.1,0≤n∧n≤25)∧(nn cs t l s).2.1.length≤l.length∧1≤(nn cs t l s).2.1.length
  | [],s,_,_,h=>by cases h
  | c :: r,s,hc,hs,h=>by
    have hcc:=hc c (by simp)
    have hcv:=hcc
    unfold vCl at hcv
    have hf:0≤hi2 c.fr s∧hi2 c.fr s≤24:=by unfold hi2; split <;> omega
    have hzero:∀ b,b+1≤hi2 c.fr s→¬ mt (gnC cs c (hi2 c.fr s) b) t:=fun b hb=>by
      rw [mt_gnC hv hn hcc,worth_empty cs hb]
      have:=Int.mul_nonneg ht (show 0≤c.hd by omega)
      omega
    unfold nn at h ⊢
    cases hq:fstTo (fun x=>mt (gnC cs c (hi2 c.fr s) x) t) (c.to+1 - hi2 c.fr s).toNat (hi2 c.fr s) with
    | none =>
      have hno:=fstTo_none hq
      have hg:hi2 (c.to+1) (hi2 c.fr s)≤24∧c.to+1≤hi2 (c.to+1) (hi2 c.fr s)∧hi2 c.fr s≤hi2 (c.to+1) (hi2 c.fr s)∧(hi2 (c.to+1) (hi2 c.fr s)=c.to+1∨hi2 (c.to+1) (hi2 c.fr s)=hi2 c.fr s):=by
        generalize hi2 c.fr s=f at *
        unfold hi2; split <;> omega
      refine ⟨(shW_one cs t c r s _).2 ⟨⟨by omega,?_⟩,by omega⟩,fun n hn'=>by simp at hn'; omega,by simp,by simp⟩
      rw [show hi2 (c.to+1) (hi2 c.fr s)+1 - 2=hi2 (c.to+1) (hi2 c.fr s) - 1 by omega]
      by_cases hlt:hi2 c.fr s≤c.to
      · have:hi2 (c.to+1) (hi2 c.fr s) - 1=c.to:=by omega
        rw [this]; exact hno c.to hlt (by omega)
      exact hzero _ (by omega)
    | some x =>
      rw [hq] at h
      have hx:=fstTo_some hq
      have hmin:=fstTo_min hq
      obtain ⟨i1,i2,i3,i4⟩:=srch_wall cs hv hn t ht r (x+1) (fun c hc'=>hc c (by simp [hc'])) (by omega) h
      have hst:stepW cs t c s (x+1):=by
        refine ⟨by omega,?_⟩
        rw [show x+1 - 2=x - 1 by omega]
        by_cases hlt:hi2 c.fr s≤x - 1
        · exact hmin _ hlt (by omega)
        exact hzero _ (by omega)
      refine ⟨?_,fun n hn'=>?_,by simpa using i3,by simp⟩
      · show shW cs t (c :: r) s ((x+1) :: (nn cs t r (x+1)).2.1)
        cases hl:(nn cs t r (x+1)).2.1 with
        | nil=>rw [hl] at i4; simp at i4
        | cons m l=>rw [hl] at i1; exact (shW_two cs t c r s _ m l).2 ⟨hst,i1⟩
      rcases List.mem_cons.1 hn' with rfl | hn'
      · omega
      exact i2 n hn'
theorem wall_not (cs:List Ce) (hv:∀ c∈cs,vCe c) (hn:cs.length≤24) (t:Gn) (ht:0≤t.den):∀ (l:List Cl) (s s0:Int) (ns:List Int) (ds:List Dr),(∀ c∈l,vCl c)→shW cs t l s ns→shL l ds s0→s≤s0→¬ ∀ g∈dy cs l ds,mt g t
  | [],s,s0,ns,ds,_,h,_,_=>absurd h (by cases ns <;> exact fun h=>h)
  | c :: r,s,s0,[],ds,_,h,_,_=>absurd h (by cases r <;> exact fun h=>h)
  | c :: r,s,s0,n :: ns,[],_,_,h,_=>absurd h (fun h=>h)
  | c :: r,s,s0,n :: ns,d :: ds,hc,hw,hs,hle=>fun hg=>by
    have hcc:=hc c (by simp)
    have hcv:=hcc
    unfold vCl at hcv
    rw [nb] at hs
    obtain ⟨k1,k2,k3,k4⟩:=hs
    have hst:stepW cs t c s n:=by
      cases ns with
      | nil=>exact ((shW_one cs t c r s n).1 hw).1
      | cons m l=>exact ((shW_two cs t c r s n m l).1 hw).1
    have hf:hi2 c.fr s≤d.fr∧0≤hi2 c.fr s:=by
      have:hi2 c.fr s≤hi2 c.fr s0:=by
                                            unfold hi2; repeat' split
                                            all_goals omega
      refine ⟨by omega,?_⟩
      unfold hi2; split <;> omega
    have g1:mt (gnC cs c d.fr d.to) t:=hg _ (by simp [dy])
    have hto:n - 1≤d.to:=by
      rcases Int.lt_or_le d.to (n - 1) with h1 | h1
      · exfalso
        apply hst.2
        rw [mt_gnC hv hn hcc] at g1 ⊢
        have:=Int.mul_le_mul_of_nonneg_right (worth_mono hv hf.2 hf.1 (show d.to≤n - 2 by omega)) ht
        omega
      exact h1
    cases ns with
    | nil =>
      have:=((shW_one cs t c r s n).1 hw).2
      omega
    | cons m l =>
      exact wall_not cs hv hn t ht r n (d.to+1) (m :: l) ds (fun c hc'=>hc c (by simp [hc'])) ((shW_two cs t c r s n m l).1 hw).2 k4 (by omega) (fun g hg'=>hg g (by simp only [dy,List.zipWith_cons_cons,List.mem_cons]; exact .inr hg'))
theorem F90l2_eq (l:List Cl) (fst:Int) (ns:List Int) (hn:ns.length≤1000):∀ (m i:Nat),i≤ns.length→ns.length < m+i→F90l2 l fst ns m (i:Int)=if ∀ n∈ns.drop i,0≤n∧n≤25 then F90j1 l fst ns else some false:=by
  intro m; induction m with
  | zero=>intro i h0 h; omega
  | succ m ih =>
    intro i h0 h
    show F90b2 l fst ns (F90l2 l fst ns m) (i:Int)=_
    unfold F90b2
    rcases gv ns i with ⟨h1,h2⟩ | ⟨c,h1,h2,h3⟩
    · rw [if_neg (by omega),h2]; simp
    rw [if_pos (by omega),du (by omega),Int.toNat_natCast,h2,ba,F59_eq,ba,h3,dr (by unfold InR; omega),eh,ih (i+1) (by omega) (by omega)]
    by_cases hv:0≤c∧c≤25 <;> simp [hv]
def isW (l:List Cl) (fst:Int) (ns:List Int):Prop:=(0≤fst∧fst≤(l.length:Int) - 1)∧(2≤(ns.length:Int)∧(ns.length:Int)≤(l.length:Int) - fst+1)∧(∀ n∈ns,0≤n∧n≤25)∧∃ c,l[fst.toNat]?=some c∧ns[0]?=some c.fr
theorem F90_eq (N:Nat) (chs:List Ch) (cs:List Ce) (M:Int→Option Int) (l:List Cl) (fst:Int) (ns:List Int) (hl:l.length≤12) (hN:101≤N):∃ b,F90 N chs cs M l fst ns=some b∧(b=true↔isW l fst ns):=by
  unfold F90
  rw [dr (by unfold InR; omega),F59_eq,ba]
  by_cases h1:0≤fst∧fst≤(l.length:Int) - 1
  · rw [if_pos (by simpa using h1),dr (by unfold InR; omega),dr (by unfold InR; omega),F59_eq,ba]
    by_cases h2:2≤(ns.length:Int)∧(ns.length:Int)≤(l.length:Int) - fst+1
    · rw [if_pos (by simpa using h2)]
      have:=F90l2_eq l fst ns (by omega) N 0 (by omega) (by omega)
      simp only [List.drop_zero,Int.natCast_zero] at this
      rw [this]
      by_cases h3:∀ n∈ns,0≤n∧n≤25
      · rw [if_pos h3]
        unfold F90j1
        have e1:ns[0]?=some (ns[0]'(by omega)):=List.getElem?_eq_getElem _
        have e2:l[fst.toNat]?=some (l[fst.toNat]'(by omega)):=List.getElem?_eq_getElem _
        rw [e1,ba,du h1.1,e2,ba]
        by_cases h4:ns[0]'(by omega)=(l[fst.toNat]'(by omega)).fr
        · rw [if_pos h4]; exact ⟨true,rfl,⟨fun _=>⟨h1,h2,h3,_,e2,by rw [e1,h4]⟩,fun _=>rfl⟩⟩
        rw [if_neg h4]
        refine ⟨false,rfl,⟨fun h=>absurd h (by decide),fun ⟨_,_,_,c,k1,k2⟩=>?_⟩⟩
        rw [e2] at k1; rw [e1] at k2
        injection k1 with k1; injection k2 with k2
        subst k1; exact absurd k2 h4
      rw [if_neg h3]; exact ⟨false,rfl,⟨fun h=>absurd h (by decide),fun h=>absurd h.2.2.1 h3⟩⟩
    rw [if_neg (by simpa using h2)]; exact ⟨false,rfl,⟨fun h=>absurd h (by decide),fun h=>absurd h.2.1 h2⟩⟩
  rw [if_neg (by simpa using h1)]; exact ⟨false,rfl,⟨fun h=>absurd h (by decide),fun h=>absurd h.1 h1⟩⟩
theorem F79_gn {a t:Gn} (ha:smG a) (ht:vGn t):F79 a t=some (if mt t a then -1 else if mt a t then 1 else 0):=by
  unfold smG at ha; unfold vGn at ht
  exact F79_eq (by omega) (by omega) (by omega) (by omega)
theorem F91l2_eq (chs:List Ch) (cs:List Ce) (M:Int→Option Int) (l:List Cl) (f:Nat) (ns:List Int) (t:Gn) (N:Nat) (hv:∀ c∈cs,vCe c) (hn:cs.length≤24) (hc:∀ c∈l,vCl c) (hl:l.length≤12) (ht:vGn t) (hf:f < l.length) (h2:2≤ns.length) (h3:ns.length≤l.length - f+1) (hb:∀ n∈ns,0≤n∧n≤25) (hN:101≤N) :
    ∀ (m i:Nat) (s:Int),i+1 < ns.length→ns[i]?=some s→ns.length < m+i→∃ b,F91l2 chs cs M l (f:Int) ns t N m (i:Int)=some b∧(b=true↔shW cs t (l.drop (f+i)) s (ns.drop (i+1))):=by
  intro m; induction m with
  | zero=>intro i s h0 h1 h; omega
  | succ m ih =>
    intro i s h0 hs h
    show ∃ b,F91b2 chs cs M l (f:Int) ns t N (F91l2 chs cs M l (f:Int) ns t N m) (i:Int)=some b∧_
    unfold F91b2
    have hx:l[f+i]?=some (l[f+i]'(by omega)):=List.getElem?_eq_getElem _
    have hnx:ns[i+1]?=some (ns[i+1]'(by omega)):=List.getElem?_eq_getElem _
    have hseg:((l.drop ((f:Int)).toNat).take (((f:Int)+((ns.length:Int) - 1)).toNat - ((f:Int)).toNat))[i]?=some (l[f+i]'(by omega)):=by
      rw [List.getElem?_take,if_pos (by omega),List.getElem?_drop,Int.toNat_natCast,hx]
    have hlen:((l.drop ((f:Int)).toNat).take (((f:Int)+((ns.length:Int) - 1)).toNat - ((f:Int)).toNat)).length=ns.length - 1:=by
      rw [List.length_take,List.length_drop]; omega
    have e3:l.drop (f+i)=(l[f+i]'(by omega)) :: l.drop (f+i+1):=List.drop_eq_getElem_cons _
    have e4:ns.drop (i+1)=(ns[i+1]'(by omega)) :: ns.drop (i+1+1):=List.drop_eq_getElem_cons _
    have hcc:=hc _ (List.mem_of_getElem? hx)
    have hnb:=hb _ (List.mem_of_getElem? hnx)
    have hsb:=hb _ (List.mem_of_getElem? hs)
    rw [hlen,if_pos (by omega),du (by omega),Int.toNat_natCast i,hseg,ba,hs,ba,dr (by unfold InR; omega),du (by omega),show ((i:Int)+1).toNat=i+1 by omega,hnx,ba,e3,e4]
    have hlast:i+1+1=ns.length→(F91l2 chs cs M l (f:Int) ns t N m ((i+1:Nat):Int)=some (decide ((l[f+i]'(by omega)).to < (ns[i+1]'(by omega)) - 1))):=fun e=>by
      obtain ⟨k,rfl⟩:∃ k,m=k+1:=⟨m - 1,by omega⟩
      show F91b2 chs cs M l (f:Int) ns t N (F91l2 chs cs M l (f:Int) ns t N k) ((i+1:Nat):Int)=_
      unfold F91b2
      rw [hlen,if_neg (by omega)]
      unfold F91j1
      rw [du (by omega),show ((ns.length:Int) - 1).toNat=i+1 by omega,hnx,ba,dr (by unfold InR; omega),dr (by unfold InR; omega),dr (by unfold InR; omega),du (by omega),show ((f:Int)+((ns.length:Int) - 1) - 1).toNat=f+i by omega,hx,ba]
      split <;> simp_all
    generalize hcd:(l[f+i]'(by omega))=c at *
    generalize hnd:(ns[i+1]'(by omega))=n at *
    have hcv:=hcc
    unfold vCl at hcv
    have hhi:0≤hi2 c.fr s:=by unfold hi2; split <;> omega
    have hiff:shW cs t (c :: l.drop (f+i+1)) s (n :: ns.drop (i+1+1))→stepW cs t c s n:=fun h=>by
      cases hd:ns.drop (i+1+1) with
      | nil=>rw [hd] at h; exact ((shW_one cs t c _ s n).1 h).1
      | cons m' l'=>rw [hd] at h; exact ((shW_two cs t c _ s n m' l').1 h).1
    show ∃ b,(if n≤hi2 c.fr s then some false else ckO (n - 2) (bp (F94 N chs cs M c ⟨hi2 c.fr s,n - 2⟩) _))=some b∧_
    by_cases k1:n≤hi2 c.fr s
    · rw [if_pos k1]; exact ⟨false,rfl,⟨fun h=>absurd h (by decide),fun h=>absurd (hiff h).1 (by omega)⟩⟩
    rw [if_neg k1,dr (by unfold InR; omega),F94_eq N chs cs M c ⟨hi2 c.fr s,n - 2⟩ hhi hn hv hcc hN,ba,F79_gn (gnC_ok hv hn hcc _ _).1 ht,ba]
    by_cases k2:mt (gnC cs c (hi2 c.fr s) (n - 2)) t
    · rw [if_pos (cmp_pos.2 k2)]; exact ⟨false,rfl,⟨fun h=>absurd h (by decide),fun h=>absurd k2 (hiff h).2⟩⟩
    rw [if_neg (fun h=>k2 (cmp_pos.1 h)),eh]
    have hst:stepW cs t c s n:=⟨by omega,k2⟩
    by_cases e:i+1+1=ns.length
    · rw [hlast e]
      refine ⟨_,rfl,?_⟩
      rw [List.drop_eq_nil_of_le (by omega:ns.length≤i+1+1),shW_one]
      simp [hst]
    obtain ⟨b,g1,g2⟩:=ih (i+1) n (by omega) hnx (by omega)
    refine ⟨b,g1,?_⟩
    rw [g2,show f+(i+1)=f+i+1 by omega]
    have hnx2:ns[i+1+1]?=some (ns[i+1+1]'(by omega)):=List.getElem?_eq_getElem _
    have e5:ns.drop (i+1+1)=(ns[i+1+1]'(by omega)) :: ns.drop (i+1+1+1):=List.drop_eq_getElem_cons _
    rw [e5,shW_two]
    exact ⟨fun h=>⟨hst,h⟩,fun h=>h.2⟩
def wallOK (cs:List Ce) (l:List Cl) (fst:Int) (ns:List Int) (t:Gn):Prop:=vGn t∧isW l fst ns∧∃ c,l[fst.toNat]?=some c∧shW cs t (l.drop fst.toNat) c.fr (ns.drop 1)
theorem F47_eq (N:Nat) (chs:List Ch) (cs:List Ce) (l:List Cl) (fst:Int) (ns:List Int) (t:Gn) (hg:okG chs cs) (hc:okC cs l) (hN:101≤N):∃ e,F47 N chs cs l fst ns t=some e∧(e=0↔wallOK cs l fst ns t):=by
  unfold F47
  rw [F64_eq N chs cs l (by omega),if_pos hg,if_pos hc,pz,F78_eq,ba]
  by_cases h1:vGn t
  · rw [if_pos (by simpa using h1)]
    obtain ⟨b,e1,e2⟩:=F90_eq N chs cs (extM noM 0 chs) l fst ns hc.1.2 hN
    rw [e1,ba]
    cases b with
    | false=>rw [if_neg (by decide)]; exact ⟨49,rfl,⟨fun h=>by omega,fun h=>absurd (e2.2 h.2.1) (by decide)⟩⟩
    | true =>
      have hw:=e2.1 rfl
      obtain ⟨w1,w2,w3,c,w4,w5⟩:=hw
      rw [if_pos rfl]
      unfold F91
      have hl:=hc.1
      rw [dr (by unfold InR; omega),dr (by unfold InR; omega),du (by omega),du (by omega),du (by omega)]
      obtain ⟨f,rfl⟩:=Int.eq_ofNat_of_zero_le w1.1
      obtain ⟨b,g1,g2⟩:=F91l2_eq chs cs (extM noM 0 chs) l f ns t N (okG_ces hg) hg.2.1.2 (fun c h=>(oa l _ _ hc.2 c h).1) hl.2 h1 (by omega) (by omega) (by omega) w3 hN N 0 c.fr (by omega) w5 (by omega)
      simp only [Int.natCast_zero,Nat.add_zero,Nat.zero_add] at g1 g2
      rw [g1,ba]
      rw [Int.toNat_natCast] at w4
      cases b with
      | false =>
        rw [if_neg (by decide)]
        refine ⟨49,rfl,⟨fun h=>by omega,fun ⟨_,_,c',k1,k2⟩=>?_⟩⟩
        rw [Int.toNat_natCast] at k1 k2
        rw [w4] at k1; injection k1 with k1; subst k1
        exact absurd (g2.2 k2) (by decide)
      | true =>
        rw [if_pos rfl]
        refine ⟨0,rfl,⟨fun _=>⟨h1,⟨w1,w2,w3,c,by rw [Int.toNat_natCast]; exact w4,w5⟩,c,by rw [Int.toNat_natCast]; exact w4,by rw [Int.toNat_natCast]; exact g2.1 rfl⟩,fun _=>rfl⟩⟩
  rw [if_neg (by simpa using h1)]; exact ⟨1,rfl,⟨fun h=>by omega,fun h=>absurd h.1 h1⟩⟩
theorem shL_drop:∀ (k:Nat) {l:List Cl} {ds:List Dr} {s:Int},shL l ds s→k≤l.length→∃ s',shL (l.drop k) (ds.drop k) s'
  | 0,l,ds,s,h,_=>⟨s,h⟩
  | k+1,[],_,_,_,h=>by simp at h
  | k+1,c :: l,[],s,h,_=>absurd h (fun h=>h)
  | k+1,c :: l,d :: ds,s,h,hk=>by
    obtain ⟨s',hs⟩:=shL_drop k h.2.2.2 (by simpa using hk)
    exact ⟨s',by simpa using hs⟩
theorem gains_drop (cs:List Ce) (k:Nat) (l:List Cl) (ds:List Dr):dy cs (l.drop k) (ds.drop k)=(dy cs l ds).drop k:=by
  unfold dy; rw [List.drop_zipWith]
theorem wall_best {cs:List Ce} (hv:∀ c∈cs,vCe c) (hn:cs.length≤24) {l:List Cl} (hc:∀ c∈l,vCl c) {fst:Int} {ns:List Int} {t:Gn} (hw:wallOK cs l fst ns t) {ds:List Dr} {s:Int} (hs:shL l ds s):¬ ∀ g∈dy cs l ds,mt g t:=fun hg=>by
  obtain ⟨w1,w2,c,w3,w4⟩:=hw
  unfold vGn at w1
  have hk:fst.toNat < l.length:=lt_of_get w3
  obtain ⟨s',h1⟩:=shL_drop fst.toNat hs (by omega)
  have hd:l.drop fst.toNat=c :: l.drop (fst.toNat+1):=by
    rw [List.drop_eq_getElem_cons hk]
    rw [List.getElem?_eq_getElem hk] at w3; injection w3 with w3; rw [w3]
  have h2:shL (l.drop fst.toNat) (ds.drop fst.toNat) (hi2 c.fr s'):=by
    rw [hd] at h1 ⊢
    cases he:ds.drop fst.toNat with
    | nil=>rw [he] at h1; exact absurd h1 (fun h=>h)
    | cons d r =>
      rw [he,nb] at h1
      rw [nb]
      refine ⟨?_,h1.2⟩
      have:hi2 c.fr (hi2 c.fr s')=hi2 c.fr s':=by
        unfold hi2; repeat' split
        all_goals omega
      rw [this]; exact h1.1
  refine wall_not cs hv hn t (by omega) (l.drop fst.toNat) c.fr (hi2 c.fr s') (ns.drop 1) (ds.drop fst.toNat) (fun c hc'=>hc c (List.mem_of_mem_drop hc')) w4 h2 (by unfold hi2; split <;> omega) (fun g hg'=>hg g ?_)
  rw [gains_drop] at hg'
  exact List.mem_of_mem_drop hg'
theorem best_wall {cs:List Ce} (hv:∀ c∈cs,vCe c) (hn:cs.length≤24) {c:Cl} {r:List Cl} (hc:∀ x∈c :: r,vCl x) (hl:(c :: r).length≤12) {ds:List Dr} {t:Gn} (h:Best cs c r ds t) (h0:0≤t.num):wallOK cs (c :: r) 0 (c.fr :: (nn cs t (c :: r) c.fr).2.1) t:=by
  have hcv:=hc c (by simp)
  unfold vCl at hcv
  obtain ⟨w1,w2,w3,w4⟩:=srch_wall cs hv hn t h0 (c :: r) c.fr hc (by omega) h.wall
  have hsm:=h.sm
  unfold smG at hsm
  refine ⟨by unfold vGn; omega,⟨⟨by omega,by simp only [List.length_cons]; omega⟩,⟨by simp only [List.length_cons]; omega,by simp only [List.length_cons] at w3 ⊢; omega⟩,fun n hn'=>?_,c,rfl,rfl⟩,c,rfl,by simpa using w1⟩
  rcases List.mem_cons.1 hn' with rfl | hn'
  · omega
  exact w2 n hn'
end Go.K
end
section
namespace Go.K
open Go.RowKit
theorem mt_trans {a b c:Gn} (ha:0 < a.den) (hb:0 < b.den) (hc:0 < c.den) (h1:mt a b) (h2:mt b c):mt a c:=by
  unfold mt at *
  have e1:=Int.mul_lt_mul_of_pos_right h1 hc
  have e2:=Int.mul_lt_mul_of_pos_right h2 ha
  have f1:b.num * a.den * c.den=b.num * c.den * a.den:=by ac_rfl
  have f2:a.num * b.den * c.den=a.num * c.den * b.den:=by ac_rfl
  have f3:c.num * b.den * a.den=c.num * a.den * b.den:=by ac_rfl
  have:c.num * a.den * b.den < a.num * c.den * b.den:=by omega
  exact Int.lt_of_mul_lt_mul_right this (by omega)
theorem mt_of_not {a g t:Gn} (ha:0 < a.den) (hg:0 < g.den) (ht:0 < t.den) (h1:¬ mt a g) (h2:mt a t):mt g t:=by
  unfold mt at *
  have e1:=Int.mul_le_mul_of_nonneg_right (Int.not_lt.1 h1) (show 0≤t.den by omega)
  have e2:=Int.mul_lt_mul_of_pos_right h2 hg
  have f1:a.num * g.den * t.den=a.num * t.den * g.den:=by ac_rfl
  have f2:g.num * a.den * t.den=g.num * t.den * a.den:=by ac_rfl
  have f3:t.num * a.den * g.den=t.num * g.den * a.den:=by ac_rfl
  have:t.num * g.den * a.den < g.num * t.den * a.den:=by omega
  exact Int.lt_of_mul_lt_mul_right this (by omega)
theorem mt_ge {l g m:Gn} (hm:0 < m.den) (hg:0 < g.den) (hl:0 < l.den) (h1:¬ mt m g) (h2:mt l g):mt l m:=by
  unfold mt at *
  have e1:=Int.mul_le_mul_of_nonneg_right (Int.not_lt.1 h1) (show 0≤l.den by omega)
  have e2:=Int.mul_lt_mul_of_pos_right h2 hm
  have f1:m.num * g.den * l.den=m.num * l.den * g.den:=by ac_rfl
  have f2:g.num * m.den * l.den=g.num * l.den * m.den:=by ac_rfl
  have f3:l.num * g.den * m.den=l.num * m.den * g.den:=by ac_rfl
  have:m.num * l.den * g.den < l.num * m.den * g.den:=by omega
  exact Int.lt_of_mul_lt_mul_right this (by omega)
theorem lstG_least:∀ (r:List Gn) (m:Gn),(∀ g∈m :: r,0 < g.den)→∀ g∈m :: r,¬ mt (lstG m r) g
  | [],m,hd,g,hg=>by
    simp only [List.mem_singleton] at hg; subst hg
    unfold lstG mt; omega
  | x :: r,m,hd,g,hg=>by
    have hl:=lstG_mem r
    unfold lstG
    by_cases hm:mt m x
    · rw [if_pos hm]
      have ih:=lstG_least r x (fun g hg=>hd g (by simp at hg ⊢; rcases hg with h | h <;> simp [h]))
      simp only [List.mem_cons] at hg
      rcases hg with rfl | hg
      · intro hc
        have d1:=hd _ (show lstG x r∈g :: x :: r by have:=hl x; simp at this ⊢; rcases this with h | h <;> simp [h])
        exact ih x (by simp) (mt_trans d1 (hd g (by simp)) (hd x (by simp)) hc hm)
      exact ih g (by simp only [List.mem_cons]; exact hg)
    rw [if_neg hm]
    have ih:=lstG_least r m (fun g hg=>hd g (by simp at hg ⊢; rcases hg with h | h <;> simp [h]))
    simp only [List.mem_cons] at hg
    rcases hg with rfl | rfl | hg
    · exact ih g (by simp)
    · intro hc
      have d1:=hd _ (show lstG m r∈m :: g :: r by have:=hl m; simp at this ⊢; rcases this with h | h <;> simp [h])
      exact ih m (by simp) (mt_ge (hd m (by simp)) (hd g (by simp)) d1 hm hc)
    exact ih g (by simp [hg])
def cmpG (a b:Gn):Int:=if mt b a then -1 else if mt a b then 1 else 0
theorem F35l1_eq (gs:List Gn) (hn:gs.length≤1000):∀ (m i:Nat) (a:List Gn),a.length=i→i≤gs.length→gs.length < m+i→F35l1 gs m a (i:Int)=some (a++gs.drop i,0):=by
  intro m; induction m with
  | zero=>intro i a ha h0 h; omega
  | succ m ih =>
    intro i a ha h0 h
    show F35b1 gs (F35l1 gs m) a (i:Int)=_
    unfold F35b1
    rcases gv gs i with ⟨h1,h2⟩ | ⟨x,h1,h2,h3⟩
    · rw [if_neg (by omega),h2]; simp
    rw [if_pos (by omega),du (by omega),Int.toNat_natCast,h2,ba,du (by omega),dr (by unfold InR; omega),eh,ih (i+1) _ (by simp [ha]) (by omega) (by omega),h3]
    simp
theorem F35_eq (N:Nat) (chs:List Ch) (cs:List Ce) (l:List Cl) (ds:List Dr) (hg:okG chs cs) (hc:okC cs l) (hN:101≤N):F35 N chs cs l ds=some (if shL l ds 0 then (dy cs l ds,0) else ([],46)):=by
  unfold F35
  have hl:=hc.1
  have hcl:∀ c∈l,vCl c:=fun c h=>(oa l _ _ hc.2 c h).1
  rw [F64_eq N chs cs l (by omega),if_pos hg,if_pos hc,pz]
  unfold F81
  by_cases h:ds.length=l.length
  · rw [if_pos (by omega)]
    have:=F81l1_eq l ds hl.2 hcl h N 0 0 (by omega) (by omega)
    simp only [List.drop_zero,Int.natCast_zero] at this
    rw [this,ba]
    by_cases h2:shL l ds 0
    · have hfr:=shL_fr h2 (fun x hx=>by have:=hcl x hx; unfold vCl at this; omega)
      rw [if_pos (by simpa using h2),if_pos h2,F82_eq N chs cs _ l ds hg.2.1.2 (okG_ces hg) hcl hfr hl.2 h hN,ba]
      have hlen:(dy cs l ds).length≤12:=by simp [dy]; omega
      have:=F35l1_eq (dy cs l ds) (by omega) N 0 [] rfl (by omega) (by omega)
      simpa using this
    rw [if_neg (by simpa using h2),if_neg h2]
  rw [if_neg (by omega),ba,if_neg (by decide),if_neg (fun h2=>h (shL_len h2))]
end Go.K
end
section
namespace Go.K
open Go.RowKit
def relL:List Cl→List Cl→Prop
  | [],[]=>True
  | c :: l,c' :: l'=>(c'.fr≤c.fr∧c.to≤c'.to∧c'.hd≤c.hd)∧relL l l'
  | _,_=>False
end Go.K
end
section
namespace Go.K
open Go.RowKit
theorem F83l2_eq (p q:Int):∀ (m a b:Nat),b < m→F83l2 p q m (a:Int) (b:Int)=F83j1 p q ((Nat.gcd a b:Nat):Int):=by
  intro m; induction m with
  | zero=>intro a b h; omega
  | succ m ih =>
    intro a b h
    show F83b2 p q (F83l2 p q m) (a:Int) (b:Int)=_
    unfold F83b2
    by_cases hb:b=0
    · subst hb; simp
    have hm:a % b < b:=Nat.mod_lt _ (by omega)
    rw [if_neg (by omega),du (by omega),Int.tmod_eq_emod_of_nonneg (by omega),← Int.natCast_emod,ih b (a % b) (by omega)]
    rw [Nat.gcd_comm b,← Nat.gcd_rec,Nat.gcd_comm]
theorem F83_eq (N:Nat) (w h:Int) (hw:0≤w∧w≤1000000000) (hh:1≤h∧h≤1000000) (hN:h < N):F83 N w h=some ((gnOf w h).num,(gnOf w h).den):=by
  obtain ⟨a,rfl⟩:=Int.eq_ofNat_of_zero_le hw.1
  obtain ⟨b,rfl⟩:=Int.eq_ofNat_of_zero_le (show 0≤h by omega)
  have hg:0 < Nat.gcd a b:=Nat.gcd_pos_of_pos_right _ (by omega)
  unfold F83
  rw [F83l2_eq _ _ N a b (by omega)]
  unfold F83j1
  rw [du (by omega),dr (by unfold InR; omega),dr (by unfold InR; omega)]
  rfl
theorem F88l1_eq (chs:List Ch) (cs:List Ce) (l:List Cl) (ds:List Dr) (hn:l.length≤12) (hc:∀ c∈l,vCl c∧c.to < cs.length) (hl:ds.length=l.length):∀ (m i:Nat) (s:Int),(i=0∧s=0∨0 < i∧∃ e,ds[i - 1]?=some e∧s=e.to+1)→i≤l.length→l.length < m+i→F88l1 chs cs l ds m (i:Int)=some (decide (shL (l.drop i) (ds.drop i) s)):=by
  intro m; induction m with
  | zero=>intro i s hs h0 h; omega
  | succ m ih =>
    intro i s hs h0 h
    show F88b1 chs cs l ds (F88l1 chs cs l ds m) (i:Int)=_
    unfold F88b1
    rcases gv l i with ⟨h1,h2⟩ | ⟨c,h1,h2,h3⟩
    · rw [if_neg (by omega),h2,List.drop_eq_nil_of_le (by omega)]
      exact congrArg some (decide_eq_true trivial).symm
    rcases gv ds i with ⟨k1,k2⟩ | ⟨d,k1,k2,k3⟩
    · omega
    rw [if_pos (by omega),du (by omega),Int.toNat_natCast,k2,ba,F69_eq,ba,h2,h3,k3]
    have hv:=hc c (List.mem_of_getElem? h2)
    have hv1:=hv.1
    unfold vCl at hv1
    have ihh:=ih (i+1) (d.to+1) (.inr ⟨by omega,d,by simpa using k2,rfl⟩) (by omega) (by omega)
    have hj:F88j2 (F88l1 chs cs l ds m) (i:Int)=some (decide (shL (l.drop (i+1)) (ds.drop (i+1)) (d.to+1))):=by
      unfold F88j2
      rw [dr (by unfold InR; omega),eh,ihh]
    have key:∀ b:Bool,(b=true↔shL (c :: l.drop (i+1)) (d :: ds.drop (i+1)) s)→some b=some (decide (shL (c :: l.drop (i+1)) (d :: ds.drop (i+1)) s)):=fun b hb=>congrArg some (Bool.eq_iff_iff.2 (by rw [decide_eq_true_eq]; exact hb))
    have hs0:0≤s→hi2 c.fr s≤d.fr→c.fr≤d.fr∧s≤d.fr:=fun _=>by unfold hi2; split <;> omega
    have hs1:c.fr≤d.fr→s≤d.fr→hi2 c.fr s≤d.fr:=by unfold hi2; split <;> omega
    have hs2:hi2 c.fr s≤d.fr→c.fr≤d.fr∧s≤d.fr:=by unfold hi2; split <;> omega
    by_cases e1:hasD cs.length d
    · rw [if_pos (by simpa using e1),ba]
      unfold hasD at e1
      by_cases e2:d.fr < c.fr
      · rw [if_pos e2]; refine key false ⟨fun h=>(by cases h),fun h=>?_⟩
        rw [nb] at h; have:=hs2 h.1; omega
      rw [if_neg e2]
      by_cases e3:c.to < d.to
      · rw [if_pos e3]; refine key false ⟨fun h=>(by cases h),fun h=>?_⟩
        rw [nb] at h; omega
      rw [if_neg e3]
      rcases hs with ⟨rfl,rfl⟩ | ⟨hi,e,he,rfl⟩
      · rw [if_neg (by omega),hj]
        refine key _ ?_
        rw [decide_eq_true_eq,nb]
        exact ⟨fun h=>⟨hs1 (by omega) (by omega),by omega,by omega,h⟩,fun h=>h.2.2.2⟩
      rw [if_pos (by omega),dr (by unfold InR; omega),du (by omega),show ((i:Int) - 1).toNat=i - 1 by omega,he,ba]
      by_cases e4:d.fr≤e.to
      · rw [if_pos e4]; refine key false ⟨fun h=>(by cases h),fun h=>?_⟩
        rw [nb] at h; have:=hs2 h.1; omega
      rw [if_neg e4,hj]
      refine key _ ?_
      rw [decide_eq_true_eq,nb]
      exact ⟨fun h=>⟨hs1 (by omega) (by omega),by omega,by omega,h⟩,fun h=>h.2.2.2⟩
    rw [if_neg (by simpa using e1)]
    refine key false ⟨fun h=>(by cases h),fun h=>?_⟩
    rw [nb] at h
    have:=hs2 h.1
    exact absurd (show hasD cs.length d from ⟨by omega,by omega,by omega⟩) e1
theorem F88_eq (N:Nat) (chs:List Ch) (cs:List Ce) (l:List Cl) (ds:List Dr) (hc:okC cs l) (hN:40≤N):F88 N chs cs l ds=some (decide (shL l ds 0)):=by
  unfold F88
  have:=hc.1
  by_cases h:ds.length=l.length
  · rw [if_pos (by omega)]
    have:=F88l1_eq chs cs l ds (by omega) (fun c h=>oa l _ _ hc.2 c h) h N 0 0 (.inl ⟨rfl,rfl⟩) (by omega) (by omega)
    simpa using this
  rw [if_neg (by omega),decide_eq_false (fun h2=>h (shL_len h2))]
theorem F44_eq (N:Nat) (chs:List Ch) (cs:List Ce) (l:List Cl) (ds:List Dr) (hn:l.length≤9223372036854775807) (hN:l.length+40 < N):F44 N chs cs l ds=some (if okG chs cs then (if okC cs l then (if shL l ds 0 then 0 else 46) else 44) else 42):=by
  unfold F44
  rw [F18_eq N chs cs l hn (by omega),ba]
  by_cases hg:okG chs cs
  · by_cases hc:okC cs l
    · simp only [if_pos hg,if_pos hc,if_true]
      rw [F88_eq N chs cs l ds hc (by omega),ba]
      by_cases h:shL l ds 0 <;> simp [h]
    simp only [if_pos hg,if_neg hc]; rfl
  simp only [if_neg hg]; rfl
theorem F36l1_eq (chs:List Ch) (cs:List Ce) (l:List Cl) (ds:List Dr) (N:Nat) (hn:cs.length≤24) (hv:∀ c∈cs,vCe c) (hc:∀ c∈l,vCl c) (hd:∀ d∈ds,0≤d.fr) (hl:l.length≤12) (hlen:ds.length=l.length) (hN:101≤N):∀ (m i:Nat) (a:List Gn),a.length=i→i≤l.length→l.length < m+i→F36l1 chs cs l ds N m a (i:Int)=some (a++dy cs (l.drop i) (ds.drop i),0):=by
  intro m; induction m with
  | zero=>intro i a ha h0 h; omega
  | succ m ih =>
    intro i a ha h0 h
    show F36b1 chs cs l ds N (F36l1 chs cs l ds N m) a (i:Int)=_
    unfold F36b1
    rcases gv l i with ⟨h1,h2⟩ | ⟨c,h1,h2,h3⟩
    · rw [if_neg (by omega),h2]; simp [dy]
    rcases gv ds i with ⟨k1,k2⟩ | ⟨d,k1,k2,k3⟩
    · omega
    have hcv:=hc c (List.mem_of_getElem? h2)
    have hcv':=hcv
    unfold vCl at hcv
    have hw:=pv hv hn d.fr d.to
    rw [if_pos (by omega),du (by omega),Int.toNat_natCast,k2,ba,F77_eq N chs cs d.fr d.to (hd d (List.mem_of_getElem? k2)) hn hv hN,ba,h2,ba,F83_eq N _ _ (by omega) (by omega) (by omega),ba,du (by omega),dr (by unfold InR; omega),eh,ih (i+1) _ (by simp [ha]) (by omega) (by omega),h3,k3]
    simp [dy,gnC]
theorem F36_eq (N:Nat) (chs:List Ch) (cs:List Ce) (l:List Cl) (ds:List Dr) (hg:okG chs cs) (hc:okC cs l) (hN:l.length+141 < N) (hn:l.length≤9223372036854775807):F36 N chs cs l ds=some (if shL l ds 0 then (dy cs l ds,0) else ([],46)):=by
  unfold F36
  rw [F44_eq N chs cs l ds hn (by omega),ba,if_pos hg,if_pos hc]
  by_cases h:shL l ds 0
  · have hcl:∀ c∈l,vCl c:=fun c h=>(oa l _ _ hc.2 c h).1
    have hfr:=shL_fr h (fun x hx=>by have:=hcl x hx; unfold vCl at this; omega)
    have:=F36l1_eq chs cs l ds N hg.2.1.2 (okG_ces hg) hcl hfr hc.1.2 (shL_len h) (by omega) N 0 [] rfl (by omega) (by omega)
    simp only [List.drop_zero,List.nil_append,Int.natCast_zero] at this
    simp only [if_pos h,if_true]
    exact this
  simp only [if_neg h]; rfl
theorem F45_F46 (N:Nat) (chs:List Ch) (cs:List Ce) (l:List Cl) (p:Cw) (hn:l.length≤9223372036854775807) (hN:l.length+140 < N):∃ e,F45 N chs cs l p=some e∧F46 N chs cs l p=some e:=by
  unfold F45 F46
  rw [F64_eq N chs cs l (by omega),F18_eq N chs cs l hn (by omega),ba]
  by_cases hg:okG chs cs
  · by_cases hc:okC cs l
    · simp only [if_pos hg,if_pos hc,pz,if_true,F61_eq,ba]
      have hl:=hc.1
      by_cases h:0≤p.fst∧p.fst≤p.lst∧p.lst < l.length
      · rw [if_pos h.1,if_pos h.2.1,if_pos h.2.2,if_pos (by simpa using ⟨h.1,h.2.1⟩),if_neg (by omega),du (by omega)]
        have e1:l[p.lst.toNat]?=some (l[p.lst.toNat]'(by omega)):=List.getElem?_eq_getElem _
        have e2:l[p.fst.toNat]?=some (l[p.fst.toNat]'(by omega)):=List.getElem?_eq_getElem _
        have v1:=(oa l _ _ hc.2 _ (List.mem_of_getElem? e1)).1
        have v2:=(oa l _ _ hc.2 _ (List.mem_of_getElem? e2)).1
        unfold F45j1
        obtain ⟨t,t1,t2⟩:=F89_eq chs cs (extM noM 0 chs) l (fun c h=>(oa l _ _ hc.2 c h).1) hl.2 p.fst p.lst h
        rw [if_pos rfl,t1,ba,e1,ba,du h.1,e2,ba]
        generalize hx:l[p.lst.toNat]'(by omega)=x at *
        generalize hy:l[p.fst.toNat]'(by omega)=y at *
        unfold vCl at v1 v2
        rw [dr (by unfold InR; omega),dr (by unfold InR; omega),dr (by unfold InR; omega),dr (by unfold InR; omega)]
        have hh:hi2 (x.to - y.fr+1) 0=if x.to - y.fr+1 > 0 then x.to - y.fr+1 else 0:=rfl
        have t3:t=true↔hi2 (x.to - y.fr+1) 0 < p.lst - p.fst+1:=by
          rw [t2]; unfold crowdL
          exact ⟨fun ⟨a,b,q1,q2,q3⟩=>by rw [e1] at q1; rw [e2] at q2; injection q1 with q1; injection q2 with q2; subst q1; subst q2; exact q3,fun q=>⟨x,y,e1,e2,q⟩⟩
        rw [hh] at t3
        by_cases q:t=true
        · have:=t3.1 q
          exact ⟨0,by rw [if_pos q],by rw [if_neg (by omega)]⟩
        have:¬ _:=fun z=>q (t3.2 z)
        exact ⟨48,by rw [if_neg q],by rw [if_pos (by omega)]⟩
      have e:F45j1 chs cs l p (extM noM 0 chs) false=some 48:=rfl
      refine ⟨48,?_,?_⟩
      · rw [e]
        repeat' split
        all_goals first | rfl | (exfalso; omega)
      by_cases h2:0≤p.fst∧p.fst≤p.lst
      · rw [if_pos (by simpa using h2),if_pos (by omega)]
      rw [if_neg (by simpa using h2)]
    simp only [if_pos hg,if_neg hc]; exact ⟨44,rfl,rfl⟩
  simp only [if_neg hg]; exact ⟨42,rfl,rfl⟩
end Go.K
end
section
namespace Go.K
open Go.RowKit
theorem less_gain {A w d:Int} (hA:0≤A) (hw:0≤w) (hd:1≤d):mt (gnOf w 1) (gnOf A d)↔A < w * d:=by
  obtain ⟨h1,h2,h3⟩:=gnOf_ok hA hd
  rw [mt_gn hw (by omega)]
  generalize gnOf A d=g at *
  have a1:g.num * 1 * d < w * g.den * d↔g.num * 1 < w * g.den:=Int.mul_lt_mul_right (by omega)
  have a2:A * g.den < w * d * g.den↔A < w * d:=Int.mul_lt_mul_right (by omega)
  rw [← a1,← a2,Int.mul_one,h3,show w * g.den * d=w * d * g.den by ac_rfl]
theorem F48l2_eq (chs:List Ch) (cs:List Ce) (l:List Cl) (f:Nat) (ns:List Int) (t:Gn) (N:Nat) (hv:∀ c∈cs,vCe c) (hn:cs.length≤24) (hc:∀ c∈l,vCl c) (hl:l.length≤12) (ht:vGn t) (hf:f < l.length) (h2:2≤ns.length) (h3:ns.length≤l.length - f+1) (hN:10000000≤N) :
    ∀ (m i:Nat) (s:Int),i+1 < ns.length→ns[i]?=some s→0≤s→s≤25→ns.length < m+i→∃ b:Bool,F48l2 chs cs l (f:Int) ns t.num t.den N m (i:Int)=some (if b=true then 0 else 49)∧(b=true↔(shW cs t (l.drop (f+i)) s (ns.drop (i+1))∧∀ n∈ns.drop (i+1),n≤25∧0≤n)):=by
  intro m; induction m with
  | zero=>intro i s h0 h1 _ _ h; omega
  | succ m ih =>
    intro i s h0 hs hs0 hs1 h
    show ∃ b:Bool,F48b2 chs cs l (f:Int) ns t.num t.den N (F48l2 chs cs l (f:Int) ns t.num t.den N m) (i:Int)=some (if b=true then 0 else 49)∧_
    unfold F48b2
    have hx:l[f+i]?=some (l[f+i]'(by omega)):=List.getElem?_eq_getElem _
    have hnx:ns[i+1]?=some (ns[i+1]'(by omega)):=List.getElem?_eq_getElem _
    have e3:l.drop (f+i)=(l[f+i]'(by omega)) :: l.drop (f+i+1):=List.drop_eq_getElem_cons _
    have e4:ns.drop (i+1)=(ns[i+1]'(by omega)) :: ns.drop (i+1+1):=List.drop_eq_getElem_cons _
    have hcc:=hc _ (List.mem_of_getElem? hx)
    rw [if_pos (by omega),dr (by unfold InR; omega),du (by omega),show ((f:Int)+(i:Int)).toNat=f+i by omega,hx,ba,du (by omega),Int.toNat_natCast i,hs,ba,dr (by unfold InR; omega),du (by omega),show ((i:Int)+1).toNat=i+1 by omega,hnx,ba,e3,e4]
    have hlast:i+1+1=ns.length→((ns[i+1]'(by omega))≤25∧0≤(ns[i+1]'(by omega)))→(F48l2 chs cs l (f:Int) ns t.num t.den N m ((i+1:Nat):Int)=some (if (ns[i+1]'(by omega)) - 1≤(l[f+i]'(by omega)).to then 49 else 0)):=fun e hb=>by
      obtain ⟨k,rfl⟩:∃ k,m=k+1:=⟨m - 1,by omega⟩
      show F48b2 chs cs l (f:Int) ns t.num t.den N (F48l2 chs cs l (f:Int) ns t.num t.den N k) ((i+1:Nat):Int)=_
      unfold F48b2
      rw [if_neg (by omega)]
      unfold F48j1
      rw [du (by omega),show ((ns.length:Int) - 1).toNat=i+1 by omega,hnx,ba,dr (by unfold InR; omega),dr (by unfold InR; omega),dr (by unfold InR; omega),du (by omega),show ((f:Int)+((ns.length:Int) - 1) - 1).toNat=f+i by omega,hx,ba]
      split <;> rfl
    generalize hcd:(l[f+i]'(by omega))=c at *
    generalize hnd:(ns[i+1]'(by omega))=n at *
    have hcv:=hcc
    have htv:=ht
    unfold vCl at hcv
    unfold vGn at htv
    have hhi:0≤hi2 c.fr s∧hi2 c.fr s≤25:=by unfold hi2; split <;> omega
    have hiff:shW cs t (c :: l.drop (f+i+1)) s (n :: ns.drop (i+1+1))→stepW cs t c s n:=fun h=>by
      cases hd:ns.drop (i+1+1) with
      | nil=>rw [hd] at h; exact ((shW_one cs t c _ s n).1 h).1
      | cons m' l'=>rw [hd] at h; exact ((shW_two cs t c _ s n m' l').1 h).1
    show ∃ b:Bool,(ckO (hi2 c.fr s+1) (bp (F61 n (hi2 c.fr s+1) 25) _))=some (if b=true then 0 else 49)∧_
    rw [dr (by unfold InR; omega),F61_eq,ba]
    by_cases k1:hi2 c.fr s+1≤n∧n≤25
    · have hA0:0≤c.hd * t.num:=Int.mul_nonneg (by omega) (by omega)
      have hA1:c.hd * t.num≤20 * 1000000:=by
        have q1:=Int.mul_le_mul_of_nonneg_right hcv.2.2.2 (show 0≤t.num by omega)
        have q2:=Int.mul_le_mul_of_nonneg_left htv.1.2 (show (0:Int)≤20 by omega)
        omega
      have hw:=pv hv hn (hi2 c.fr s) (n - 2)
      have g1:=gnOf_ok hA0 htv.2.1
      have g2:=gnOf_ok hw.1 (show (1:Int)≤1 by omega)
      rw [if_pos (by simpa using k1),dr (by unfold InR; omega),F83_eq N _ _ (by omega) (by omega) (by omega),ba,dr (by unfold InR; omega)]
      show ∃ b:Bool,(bp (F77 N chs cs (hi2 c.fr s) (n - 2)) _)=some (if b=true then 0 else 49)∧_
      rw [F77_eq N chs cs _ _ hhi.1 hn hv (by omega),ba,F83_eq N _ _ (by omega) (by omega) (by omega),ba]
      show ∃ b:Bool,(bp (F53 (gnOf (c.hd * t.num) t.den) (gnOf (nx cs (hi2 c.fr s) (n - 2)) 1)) _)=some (if b=true then 0 else 49)∧_
      rw [F53_eq (by omega) (by omega) (by omega) (by omega),ba]
      have hm:(gnOf (c.hd * t.num) t.den).num * (gnOf (nx cs (hi2 c.fr s) (n - 2)) 1).den < (gnOf (nx cs (hi2 c.fr s) (n - 2)) 1).num * (gnOf (c.hd * t.num) t.den).den↔mt (gnC cs c (hi2 c.fr s) (n - 2)) t:=by
        rw [mt_gnC hv hn hcc]
        have:=less_gain (A:=c.hd * t.num) (w:=nx cs (hi2 c.fr s) (n - 2)) (d:=t.den) hA0 hw.1 htv.2.1
        unfold mt at this
        rw [this,Int.mul_comm c.hd t.num]
      by_cases k2:mt (gnC cs c (hi2 c.fr s) (n - 2)) t
      · rw [if_pos (by rw [decide_eq_true_eq]; exact hm.2 k2)]
        exact ⟨false,rfl,⟨fun h=>absurd h (by decide),fun h=>absurd k2 (hiff h.1).2⟩⟩
      rw [if_neg (by rw [decide_eq_true_eq]; exact fun h=>k2 (hm.1 h)),eh]
      have hst:stepW cs t c s n:=⟨by omega,k2⟩
      by_cases e:i+1+1=ns.length
      · rw [hlast e (by omega),List.drop_eq_nil_of_le (by omega:ns.length≤i+1+1),shW_one]
        by_cases q:n - 1≤c.to
        · exact ⟨false,by rw [if_pos q]; rfl,⟨fun h=>absurd h (by decide),fun h=>by omega⟩⟩
        exact ⟨true,by rw [if_neg q]; rfl,⟨fun _=>⟨⟨hst,by omega⟩,fun z hz=>by rw [List.mem_singleton.1 hz]; omega⟩,fun _=>rfl⟩⟩
      obtain ⟨b,g1,g2⟩:=ih (i+1) n (by omega) hnx (by omega) (by omega) (by omega)
      refine ⟨b,g1,?_⟩
      rw [g2,show f+(i+1)=f+i+1 by omega]
      have e5:ns.drop (i+1+1)=(ns[i+1+1]'(by omega)) :: ns.drop (i+1+1+1):=List.drop_eq_getElem_cons _
      have hall:(∀ z∈n :: ns.drop (i+1+1),z≤25∧0≤z)↔∀ z∈ns.drop (i+1+1),z≤25∧0≤z:=by
        rw [List.forall_mem_cons]; exact ⟨fun h=>h.2,fun h=>⟨by omega,h⟩⟩
      rw [hall,e5,shW_two]
      exact ⟨fun h=>⟨⟨hst,h.1⟩,h.2⟩,fun h=>⟨h.1.2,h.2⟩⟩
    rw [if_neg (by simpa using k1)]
    refine ⟨false,rfl,⟨fun h=>absurd h (by decide),fun h=>?_⟩⟩
    have q1:=(hiff h.1).1
    have q2:=(h.2 n (by simp)).1
    exact absurd ⟨by omega,q2⟩ k1
theorem code2 {a:Option Bool} {b:Bool→Option Bool} {e:Int} (h:bp a (fun y=>if y=true then bp (b y) (fun z=>if z=true then some 0 else some 49) else some 49)=some e):e=0∨e=49:=by
  cases a with
  | none=>cases h
  | some y =>
    rw [ba] at h
    split at h
    · cases hb:b y with
      | none=>rw [hb] at h; cases h
      | some z =>
        rw [hb,ba] at h
        split at h <;> (injection h with h; subst h; simp)
    injection h with h; subst h; simp
theorem F47_F48 (N:Nat) (chs:List Ch) (cs:List Ce) (l:List Cl) (fst:Int) (ns:List Int) (t:Gn) (hn:l.length≤9223372036854775807) (hns:ns.length≤9223372036854775807) (hN:10000000≤N) (hN2:l.length+140 < N):∃ e,F47 N chs cs l fst ns t=some e∧F48 N chs cs l fst ns t.num t.den=some e:=by
  by_cases hg:okG chs cs
  · by_cases hc:okC cs l
    · obtain ⟨e,h1,h2⟩:=F47_eq N chs cs l fst ns t hg hc (by omega)
      refine ⟨e,h1,?_⟩
      unfold F47 at h1
      rw [F64_eq N chs cs l (by omega),if_pos hg,if_pos hc,pz,F78_eq,ba] at h1
      unfold F48
      rw [F18_eq N chs cs l hn (by omega),ba,if_pos hg,if_pos hc,if_pos rfl]
      show bp (F80 t) _=_
      rw [F80_eq,ba]
      have hl:=hc.1
      by_cases hv:vGn t
      · rw [if_pos (by simpa using hv)] at h1 ⊢
        have hcode:=code2 h1
        have key:∀ b:Bool,(b=true↔wallOK cs l fst ns t)→some (if b=true then (0:Int) else 49)=some e:=fun b hb=>by
          congr 1
          by_cases q:b=true
          · rw [if_pos q]; exact (h2.2 (hb.1 q)).symm
          rw [if_neg q]
          rcases hcode with h | h
          · exact absurd (hb.2 (h2.1 h)) q
          exact h.symm
        have no:¬ wallOK cs l fst ns t→some (49:Int)=some e:=fun h=>key false ⟨fun h=>(by cases h),fun q=>absurd q h⟩
        rw [dr (by unfold InR; omega)]
        by_cases k1:(ns.length:Int) - 1 < 1
        · rw [if_pos k1]; exact no fun h=>by have:=h.2.1.2.1.1; omega
        rw [if_neg k1]
        by_cases k2:(l.length:Int) < (ns.length:Int) - 1
        · rw [if_pos k2]; exact no fun h=>by have:=h.2.1.2.1.2; have:=h.2.1.1; omega
        rw [if_neg k2,dr (by unfold InR; omega),F61_eq,ba]
        by_cases k3:0≤fst∧fst≤(l.length:Int) - ((ns.length:Int) - 1)
        · rw [if_pos (by simpa using k3)]
          obtain ⟨f,rfl⟩:=Int.eq_ofNat_of_zero_le k3.1
          have e1:ns[0]?=some (ns[0]'(by omega)):=List.getElem?_eq_getElem _
          have e2:l[f]?=some (l[f]'(by omega)):=List.getElem?_eq_getElem _
          have hcv:=(oa l _ _ hc.2 _ (List.mem_of_getElem? e2)).1
          rw [e1,ba,du (by omega),Int.toNat_natCast,e2,ba]
          by_cases k4:ns[0]'(by omega)=(l[f]'(by omega)).fr
          · rw [if_pos k4]
            generalize hcd:(l[f]'(by omega))=c at *
            unfold vCl at hcv
            obtain ⟨b,b1,b2⟩:=F48l2_eq chs cs l f ns t N (okG_ces hg) hg.2.1.2 (fun c h=>(oa l _ _ hc.2 c h).1) hl.2 hv (by omega) (by omega) (by omega) hN N 0 c.fr (by omega) (by rw [e1,k4]) (by omega) (by omega) (by omega)
            simp only [Int.natCast_zero,Nat.add_zero,Nat.zero_add] at b1 b2
            rw [b1]
            refine key b ?_
            rw [b2]
            constructor
            · rintro ⟨q1,q2⟩
              refine ⟨hv,⟨⟨by omega,by omega⟩,⟨by omega,by omega⟩,fun n hn=>?_,c,by rw [Int.toNat_natCast]; exact e2,by rw [e1,k4]⟩,c,by rw [Int.toNat_natCast]; exact e2,by rw [Int.toNat_natCast]; exact q1⟩
              have e0:ns=(ns[0]'(by omega)) :: ns.drop 1:=by
                conv=>lhs; rw [← List.drop_zero (l:=ns)]
                exact List.drop_eq_getElem_cons _
              rw [e0,List.mem_cons] at hn
              rcases hn with h | h
              · rw [h,k4]; omega
              have:=q2 n h; omega
            rintro ⟨_,w,c',q1,q2⟩
            rw [Int.toNat_natCast] at q1 q2
            rw [e2] at q1; injection q1 with q1; subst q1
            exact ⟨q2,fun n hn=>by have:=w.2.2.1 n (List.mem_of_mem_drop hn); omega⟩
          rw [if_neg k4]
          refine no fun h=>?_
          obtain ⟨c,q1,q2⟩:=h.2.1.2.2.2
          rw [Int.toNat_natCast,e2] at q1
          rw [e1] at q2
          injection q1 with q1; injection q2 with q2
          rw [← q1] at q2
          exact k4 q2
        rw [if_neg (by simpa using k3)]
        exact no fun h=>by have h1:=h.2.1.2.1.2; have h2:=h.2.1.1; omega
      rw [if_neg (by simpa using hv)] at h1 ⊢
      exact h1
    refine ⟨44,?_,?_⟩
    · unfold F47; rw [F64_eq N chs cs l (by omega),if_pos hg,if_neg hc]; rfl
    unfold F48; rw [F18_eq N chs cs l hn (by omega),ba,if_pos hg,if_neg hc]; rfl
  refine ⟨42,?_,?_⟩
  · unfold F47; rw [F64_eq N chs cs l (by omega),if_neg hg]; rfl
  unfold F48; rw [F18_eq N chs cs l hn (by omega),ba,if_neg hg]; rfl
end Go.K
end
section
namespace Go.K
open Go.RowKit
def lowG (g:Gn):Prop:=∃ w h:Int,0≤w∧w≤1000000∧1≤h∧h≤20∧g=gnOf w h
theorem ob {g:Gn} (h:lowG g):(0≤g.num∧g.num≤1000000)∧1≤g.den∧g.den≤20:=by
  obtain ⟨w,h,h1,h2,h3,h4,rfl⟩:=h
  have:=gnOf_ok h1 h3
  omega
def Sup (cs:List Ce) (l:List Cl) (S:List Dr→Prop) (g:Gn):Prop :=
  (g=⟨0,0⟩∧∀ ds,¬ S ds)∨(lowG g∧∀ t:Gn,0 < t.den→t.num < 1000000 * t.den→(mt g t↔∃ ds,S ds∧∀ x∈dy cs l ds,mt x t))
theorem Sup.congr {cs:List Ce} {l:List Cl} {S S':List Dr→Prop} {g:Gn} (h:Sup cs l S g) (e:∀ ds,S ds↔S' ds):Sup cs l S' g:=by
  have:S=S':=funext fun ds=>propext (e ds)
  rwa [this] at h
theorem sup_base (cs:List Ce) (s:Int):Sup cs [] (fun ds=>shL [] ds s) ⟨1000000,1⟩:=by
  refine .inr ⟨⟨1000000,1,by omega,by omega,by omega,by omega,by decide⟩,fun t h1 h2=>⟨fun _=>⟨[],trivial,fun x hx=>by simp [dy] at hx⟩,fun _=>?_⟩⟩
  unfold mt; dsimp only; omega
theorem min_mt {x g t:Gn} (hx:0 < x.den) (hg:0 < g.den) (ht:0 < t.den):mt (if mt g x then x else g) t↔mt x t∧mt g t:=by
  by_cases h:mt g x
  · rw [if_pos h]; exact ⟨fun q=>⟨q,mt_trans hg hx ht h q⟩,fun q=>q.1⟩
  rw [if_neg h]; exact ⟨fun q=>⟨mt_of_not hg hx ht h q,q⟩,fun q=>q.2⟩
theorem max_mt {x g t:Gn} (hx:0 < x.den) (hg:0 < g.den) (ht:0 < t.den):mt (if mt x g then x else g) t↔mt g t∨mt x t:=by
  by_cases h:mt x g
  · rw [if_pos h]; exact ⟨.inr,fun q=>q.elim (fun q=>mt_trans hx hg ht h q) id⟩
  rw [if_neg h]; exact ⟨.inl,fun q=>q.elim id (fun q=>mt_of_not hx hg ht h q)⟩
theorem sup_cons {cs:List Ce} (hv:∀ c∈cs,vCe c) (hn:cs.length≤24) {c:Cl} (hc:vCl c) {r:List Cl} {a b:Int} {x:Gn} (hx:Sup cs r (fun ds=>shL r ds (b+1)) x) (h0:x.den≠0) :
    lowG (if mt (gnC cs c a b) x then x else gnC cs c a b)∧Sup cs (c :: r) (fun ds=>∃ ds',ds=⟨a,b⟩ :: ds'∧shL r ds' (b+1)) (if mt (gnC cs c a b) x then x else gnC cs c a b):=by
  rcases hx with ⟨rfl,_⟩ | ⟨h1,h2⟩
  · exact absurd rfl h0
  have hw:=pv hv hn a b
  have hcv:=hc
  unfold vCl at hcv
  have lg:lowG (gnC cs c a b):=⟨nx cs a b,c.hd,hw.1,by omega,hcv.2.2.1,hcv.2.2.2,rfl⟩
  have b1:=ob h1
  have b2:=ob lg
  have hlow:lowG (if mt (gnC cs c a b) x then x else gnC cs c a b):=by split <;> assumption
  refine ⟨hlow,.inr ⟨hlow,fun t t1 t2=>?_⟩⟩
  rw [min_mt (by omega) (by omega) t1,h2 t t1 t2]
  constructor
  · rintro ⟨⟨ds,q1,q2⟩,q3⟩
    exact ⟨_,⟨ds,rfl,q1⟩,fun y hy=>by
      simp only [dy,List.zipWith_cons_cons,List.mem_cons] at hy
      rcases hy with rfl | hy
      · exact q3
      exact q2 y hy⟩
  rintro ⟨_,⟨ds,rfl,q1⟩,q2⟩
  exact ⟨⟨ds,q1,fun y hy=>q2 y (by simp only [dy,List.zipWith_cons_cons,List.mem_cons]; exact .inr hy)⟩,q2 _ (by simp [dy])⟩
theorem sup_union {cs:List Ce} {l:List Cl} {S1 S2:List Dr→Prop} {g y:Gn} (h1:Sup cs l S1 g) (h2:Sup cs l S2 y) (hy:lowG y):Sup cs l (fun ds=>S1 ds∨S2 ds) (if g.den=0 then y else if mt y g then y else g):=by
  have by_:=ob hy
  have k2:∀ t:Gn,0 < t.den→t.num < 1000000 * t.den→(mt y t↔∃ ds,S2 ds∧∀ x∈dy cs l ds,mt x t):=by
    rcases h2 with ⟨rfl,_⟩ | ⟨_,h⟩
    · exact absurd by_.2.1 (by decide)
    exact h
  rcases h1 with ⟨rfl,h⟩ | ⟨h,k1⟩
  · rw [if_pos rfl]
    exact .inr ⟨hy,fun t t1 t2=>(k2 t t1 t2).trans ⟨fun ⟨ds,q1,q2⟩=>⟨ds,.inr q1,q2⟩,fun ⟨ds,q1,q2⟩=>⟨ds,q1.elim (fun q=>absurd q (h ds)) id,q2⟩⟩⟩
  have bg:=ob h
  rw [if_neg (by omega)]
  refine .inr ⟨by split <;> assumption,fun t t1 t2=>?_⟩
  rw [max_mt (by omega) (by omega) t1,k1 t t1 t2,k2 t t1 t2]
  constructor
  · rintro (⟨ds,q1,q2⟩ | ⟨ds,q1,q2⟩)
    · exact ⟨ds,.inl q1,q2⟩
    exact ⟨ds,.inr q1,q2⟩
  rintro ⟨ds,q1 | q1,q2⟩
  · exact .inl ⟨ds,q1,q2⟩
  exact .inr ⟨ds,q1,q2⟩
def rowOK (cs:List Ce) (l:List Cl) (row:List Gn):Prop:=row.length=cs.length+1∧∀ f:Nat,f≤cs.length→∃ g,row[f]?=some g∧Sup cs l (fun ds=>shL l ds (f:Int)) g
def upTo (c:Cl) (r:List Cl) (a b:Int) (ds:List Dr):Prop:=∃ d ds',ds=d :: ds'∧c.fr≤d.fr∧d.fr≤d.to∧d.to≤c.to∧shL r ds' (d.to+1)∧(a+1≤d.fr∨d.fr=a∧d.to < b)
theorem sup_low {cs:List Ce} {l:List Cl} {S:List Dr→Prop} {g:Gn} (h:Sup cs l S g) (h0:g.den≠0):lowG g:=by
  rcases h with ⟨rfl,_⟩ | ⟨h,_⟩
  · exact absurd rfl h0
  exact h
theorem sup_none {cs:List Ce} {l:List Cl} {S:List Dr→Prop} {g:Gn} (h:Sup cs l S g) (h0:g.den=0):∀ ds,¬ S ds:=by
  rcases h with ⟨_,h⟩ | ⟨h,_⟩
  · exact h
  have:=ob h; omega
theorem F95l4_eq (chs:List Ch) (cs:List Ce) (N:Nat) (rec2:List Gn→Int→Option (List (List Gn))) (next:List Gn) (c:Cl) (r:List Cl) (hv:∀ c∈cs,vCe c) (hn:cs.length≤24) (hc:vCl c∧c.to < cs.length) (hN:101≤N) (hnx:rowOK cs r next) (a:Nat) (ha:c.fr≤a) :
    ∀ (m b:Nat) (row:List Gn) (g:Gn),a≤b→(b:Int)≤c.to+1→c.to+1 < (m:Int)+b→row.length=cs.length+1→row[a]?=some g→Sup cs (c :: r) (upTo c r a b) g →
    ∃ row' g',py chs cs N rec2 next c (a:Int) m row (b:Int)=F95j3 rec2 (a:Int) row'∧row'.length=cs.length+1∧(∀ j,j≠a→row'[j]?=row[j]?)∧row'[a]?=some g'∧Sup cs (c :: r) (upTo c r a (c.to+1)) g':=by
  intro m; induction m with
  | zero=>intro b row g _ h1 h2; omega
  | succ m ih =>
    intro b row g hab h1 h2 hlen hg hs
    show ∃ row' g',F95b4 chs cs N rec2 next c (a:Int) (py chs cs N rec2 next c (a:Int) m) row (b:Int)=_∧_
    unfold F95b4
    have hcv:=hc.1
    unfold vCl at hcv
    by_cases hb:(b:Int)≤c.to
    · obtain ⟨x,x1,x2⟩:=hnx.2 (b+1) (by omega)
      rw [if_pos hb,dr (by unfold InR; omega),du (by omega),show ((b:Int)+1).toNat=b+1 by omega,x1,ba]
      have x2':Sup cs r (fun ds=>shL r ds ((b:Int)+1)) x:=x2
      have hj:∀ row2:List Gn,F95j5 (py chs cs N rec2 next c (a:Int) m) (b:Int) row2=py chs cs N rec2 next c (a:Int) m row2 ((b+1:Nat):Int):=fun row2=>by
        unfold F95j5; rw [dr (by unfold InR; omega),eh]
      by_cases h0:x.den=0
      · rw [if_pos h0,hj]
        have hno:=sup_none x2' h0
        refine ih (b+1) row g (by omega) (by omega) (by omega) hlen hg (hs.congr fun ds=>?_)
        constructor
        · rintro ⟨d,ds',rfl,q1,q2,q3,q4,q5⟩
          exact ⟨d,ds',rfl,q1,q2,q3,q4,by omega⟩
        rintro ⟨d,ds',rfl,q1,q2,q3,q4,q5⟩
        refine ⟨d,ds',rfl,q1,q2,q3,q4,?_⟩
        by_cases e:d.to=b
        · rw [e] at q4; exact absurd q4 (hno ds')
        omega
      have xl:=ob (sup_low x2' h0)
      have hw:=pv hv hn (a:Int) (b:Int)
      have hgc:=gnC_ok hv hn hc.1 (a:Int) (b:Int)
      have hgl:=hgc.1
      unfold smG at hgl
      rw [if_neg h0,F77_eq N chs cs _ _ (by omega) hn hv hN,ba,F83_eq N _ _ (by omega) (by omega) (by omega),ba]
      show ∃ row' g',bp (F53 x (gnC cs c (a:Int) (b:Int))) _=_∧_
      rw [F53_eq (by omega) (by omega) (by omega) (by omega),ba]
      obtain ⟨yl,ys⟩:=sup_cons hv hn hc.1 (r:=r) (a:=(a:Int)) (b:=(b:Int)) x2' h0
      have hyb:=ob yl
      have hif:(if decide (x.num * (gnC cs c (a:Int) (b:Int)).den < (gnC cs c (a:Int) (b:Int)).num * x.den)=true then F95j6 (py chs cs N rec2 next c (a:Int) m) (a:Int) row (b:Int) x.num x.den else F95j6 (py chs cs N rec2 next c (a:Int) m) (a:Int) row (b:Int) (gnC cs c (a:Int) (b:Int)).num (gnC cs c (a:Int) (b:Int)).den)=F95j6 (py chs cs N rec2 next c (a:Int) m) (a:Int) row (b:Int) (if mt (gnC cs c (a:Int) (b:Int)) x then x else gnC cs c (a:Int) (b:Int)).num (if mt (gnC cs c (a:Int) (b:Int)) x then x else gnC cs c (a:Int) (b:Int)).den:=by
        by_cases q:mt (gnC cs c (a:Int) (b:Int)) x
        · rw [if_pos q,if_pos (by rw [decide_eq_true_eq]; exact q)]
        rw [if_neg q,if_neg (by rw [decide_eq_true_eq]; exact q)]
      suffices H:∃ row' g',F95j6 (py chs cs N rec2 next c (a:Int) m) (a:Int) row (b:Int) (if mt (gnC cs c (a:Int) (b:Int)) x then x else gnC cs c (a:Int) (b:Int)).num (if mt (gnC cs c (a:Int) (b:Int)) x then x else gnC cs c (a:Int) (b:Int)).den=F95j3 rec2 (a:Int) row'∧row'.length=cs.length+1∧(∀ j,j≠a→row'[j]?=row[j]?)∧row'[a]?=some g'∧Sup cs (c :: r) (upTo c r a (c.to+1)) g' by
        obtain ⟨row',g',q1,q2⟩:=H
        exact ⟨row',g',hif.trans q1,q2⟩
      generalize hy:(if mt (gnC cs c (a:Int) (b:Int)) x then x else gnC cs c (a:Int) (b:Int))=y at *
      have hsu:=sup_union hs ys yl
      have hcong:Sup cs (c :: r) (upTo c r (a:Int) ((b+1:Nat):Int)) (if g.den=0 then y else if mt y g then y else g):=hsu.congr fun ds=>by
        constructor
        · rintro (⟨d,ds',rfl,q1,q2,q3,q4,q5⟩ | ⟨ds',rfl,q1⟩)
          · exact ⟨d,ds',rfl,q1,q2,q3,q4,by omega⟩
          exact ⟨⟨a,b⟩,ds',rfl,by dsimp only; omega,by dsimp only; omega,by dsimp only; omega,q1,by dsimp only; omega⟩
        rintro ⟨d,ds',rfl,q1,q2,q3,q4,q5⟩
        by_cases e:d.fr=a∧d.to=b
        · refine .inr ⟨ds',?_,by rw [← e.2]; exact q4⟩
          cases d; simp only at e; rw [e.1,e.2]
        exact .inl ⟨d,ds',rfl,q1,q2,q3,q4,by omega⟩
      have hset:(row.set a y)[a]?=some y:=by rw [List.getElem?_set,if_pos rfl,if_pos (by omega)]
      have h7:F95j7 (py chs cs N rec2 next c (a:Int) m) (a:Int) row (b:Int) y.num y.den=py chs cs N rec2 next c (a:Int) m (row.set a y) ((b+1:Nat):Int):=by
        unfold F95j7
        rw [Int.toNat_natCast,hg,ba,hj]
      have hput:(if g.den=0 then y else if mt y g then y else g)=y→∃ row' g',F95j7 (py chs cs N rec2 next c (a:Int) m) (a:Int) row (b:Int) y.num y.den=F95j3 rec2 (a:Int) row'∧row'.length=cs.length+1∧(∀ j,j≠a→row'[j]?=row[j]?)∧row'[a]?=some g'∧Sup cs (c :: r) (upTo c r a (c.to+1)) g':=fun e=>by
        rw [e] at hcong
        obtain ⟨row',g',r1,r2,r3,r4,r5⟩:=ih (b+1) (row.set a y) y (by omega) (by omega) (by omega) (by simpa using hlen) hset hcong
        exact ⟨row',g',h7.trans r1,r2,fun j hj=>by rw [r3 j hj,List.getElem?_set,if_neg (fun h=>hj h.symm)],r4,r5⟩
      unfold F95j6
      rw [Int.toNat_natCast,hg,ba]
      by_cases g0:g.den=0
      · rw [if_pos g0]; exact hput (if_pos g0)
      have gl:=ob (sup_low hs g0)
      rw [if_neg g0]
      show ∃ row' g',bp (F53 g y) _=_∧_
      rw [F53_eq (by omega) (by omega) (by omega) (by omega),ba]
      by_cases q:mt y g
      · rw [if_pos (by rw [decide_eq_true_eq]; exact q)]; exact hput (by rw [if_neg g0,if_pos q])
      rw [if_neg (by rw [decide_eq_true_eq]; exact q),hj]
      rw [if_neg g0,if_neg q] at hcong
      exact ih (b+1) row g (by omega) (by omega) (by omega) hlen hg hcong
    rw [if_neg hb]
    exact ⟨row,g,rfl,hlen,fun _ _=>rfl,hg,by rwa [show c.to+1=(b:Int) by omega]⟩
theorem F95l2_eq (chs:List Ch) (cs:List Ce) (a:List (List Gn)) (N:Nat) (next:List Gn) (c:Cl) (r:List Cl) (hv:∀ c∈cs,vCe c) (hn:cs.length≤24) (hc:vCl c∧c.to < cs.length) (hN:101≤N) (hnx:rowOK cs r next) (hlp:a.length≤1000) :
    ∀ (m k:Nat) (row:List Gn),k≤cs.length→k < m→row.length=cs.length+1→(∀ f:Nat,k≤f→f≤cs.length→∃ g,row[f]?=some g∧Sup cs (c :: r) (fun ds=>shL (c :: r) ds (f:Int)) g) →
    ∃ row',pa chs cs a N next c m row ((k:Int) - 1)=some (row' :: a)∧rowOK cs (c :: r) row':=by
  intro m; induction m with
  | zero=>intro k row _ h; omega
  | succ m ih =>
    intro k row hk hm hlen hrow
    show ∃ row',F95b2 chs cs a N next c (pa chs cs a N next c m) row ((k:Int) - 1)=_∧_
    unfold F95b2
    have hcv:=hc.1
    unfold vCl at hcv
    cases k with
    | zero =>
      rw [if_neg (by omega)]
      unfold F95j1
      rw [du (by omega),du (by omega)]
      exact ⟨row,rfl,hlen,fun f hf=>hrow f (by omega) hf⟩
    | succ k =>
      rw [show (((k+1:Nat):Int) - 1)=(k:Int) by omega,if_pos (by omega),dr (by unfold InR; omega),du (by omega),show ((k:Int)+1).toNat=k+1 by omega,Int.toNat_natCast]
      obtain ⟨g1,e1,s1⟩:=hrow (k+1) (by omega) (by omega)
      have e2:row[k]?=some (row[k]'(by omega)):=List.getElem?_eq_getElem _
      rw [e1,ba,e2,ba]
      have hset:(row.set k g1)[k]?=some g1:=by rw [List.getElem?_set,if_pos rfl,if_pos (by omega)]
      have next_:∀ row2:List Gn,F95j3 (pa chs cs a N next c m) (k:Int) row2=pa chs cs a N next c m row2 ((k:Int) - 1):=fun row2=>by
        unfold F95j3; rw [dr (by unfold InR; omega)]
      by_cases hf:(k:Int) < c.fr
      · rw [if_pos hf,next_]
        refine ih k _ (by omega) (by omega) (by simpa using hlen) fun f h1 h2=>?_
        by_cases e:f=k
        · subst e
          refine ⟨g1,hset,s1.congr fun ds=>?_⟩
          cases ds with
          | nil=>exact Iff.rfl
          | cons d ds =>
            rw [nb,nb,show hi2 c.fr ((f+1:Nat):Int)=hi2 c.fr (f:Int) by unfold hi2; (repeat' split) <;> omega]
        obtain ⟨g,q1,q2⟩:=hrow f (by omega) h2
        exact ⟨g,by rw [List.getElem?_set,if_neg (by omega)]; exact q1,q2⟩
      rw [if_neg hf]
      have start:Sup cs (c :: r) (upTo c r (k:Int) (k:Int)) g1:=s1.congr fun ds=>by
        constructor
        · intro h
          cases ds with
          | nil=>exact absurd h (fun h=>h)
          | cons d ds =>
            rw [nb,show hi2 c.fr ((k+1:Nat):Int)=(k:Int)+1 by unfold hi2; rw [if_neg (by omega)]; omega] at h
            exact ⟨d,ds,rfl,by omega,h.2.1,h.2.2.1,h.2.2.2,by omega⟩
        rintro ⟨d,ds',rfl,q1,q2,q3,q4,q5⟩
        rw [nb,show hi2 c.fr ((k+1:Nat):Int)=(k:Int)+1 by unfold hi2; rw [if_neg (by omega)]; omega]
        exact ⟨by omega,q2,q3,q4⟩
      have hk2:(k:Int)≤c.to+1∨c.to+1 < k:=by omega
      rcases hk2 with hk2 | hk2
      · obtain ⟨row',g',r1,r2,r3,r4,r5⟩:=F95l4_eq chs cs N (pa chs cs a N next c m) next c r hv hn hc hN hnx k (by omega) N k (row.set k g1) g1 (by omega) hk2 (by omega) (by simpa using hlen) hset start
        rw [r1,next_]
        refine ih k row' (by omega) (by omega) r2 fun f h1 h2=>?_
        by_cases e:f=k
        · subst e
          refine ⟨g',r4,r5.congr fun ds=>?_⟩
          constructor
          · rintro ⟨d,ds',rfl,q1,q2,q3,q4,q5⟩
            rw [nb]
            exact ⟨by unfold hi2; split <;> omega,q2,q3,q4⟩
          intro h
          cases ds with
          | nil=>exact absurd h (fun h=>h)
          | cons d ds =>
            rw [nb] at h
            have:f≤d.fr∧c.fr≤d.fr:=by have:=h.1; unfold hi2 at this; split at this <;> omega
            exact ⟨d,ds,rfl,by omega,h.2.1,h.2.2.1,h.2.2.2,by omega⟩
        obtain ⟨g,q1,q2⟩:=hrow f (by omega) h2
        exact ⟨g,by rw [r3 f e,List.getElem?_set,if_neg (by omega)]; exact q1,q2⟩
      obtain ⟨N',rfl⟩:∃ N',N=N'+1:=⟨N - 1,by omega⟩
      have hdone:py chs cs (N'+1) (pa chs cs a (N'+1) next c m) next c (k:Int) (N'+1) (row.set k g1) (k:Int)=F95j3 (pa chs cs a (N'+1) next c m) (k:Int) (row.set k g1):=by
        show F95b4 chs cs (N'+1) (pa chs cs a (N'+1) next c m) next c (k:Int) (py chs cs (N'+1) (pa chs cs a (N'+1) next c m) next c (k:Int) N') (row.set k g1) (k:Int)=_
        unfold F95b4
        rw [if_neg (by omega)]
      rw [hdone,next_]
      refine ih k _ (by omega) (by omega) (by simpa using hlen) fun f h1 h2=>?_
      by_cases e:f=k
      · subst e
        refine ⟨g1,hset,s1.congr fun ds=>?_⟩
        cases ds with
        | nil=>exact Iff.rfl
        | cons d ds =>
          rw [nb,nb]
          constructor
          · intro h; have:=h.1; unfold hi2 at this; split at this <;> omega
          intro h; have:=h.1; unfold hi2 at this; split at this <;> omega
      obtain ⟨g,q1,q2⟩:=hrow f (by omega) h2
      exact ⟨g,by rw [List.getElem?_set,if_neg (by omega)]; exact q1,q2⟩
end Go.K
end
section
namespace Go.K
open Go.RowKit
theorem G5F4 (chs:List Ch) (cs:List Ce) (N:Nat) (rec:List Gn→Int→Option (List (List Gn))) (next:List Gn) (c:Cl) (v:Int):∀ m,G95l5 chs cs N rec next c v m=py chs cs N rec next c v m
  | 0=>rfl
  | m+1=>by
    show G95b5 chs cs N rec next c v (G95l5 chs cs N rec next c v m)=F95b4 chs cs N rec next c v (py chs cs N rec next c v m)
    rw [G5F4 chs cs N rec next c v m]; rfl
theorem G3F2 (chs:List Ch) (cs:List Ce) (N:Nat) (next:List Gn) (c:Cl):∀ m,G95l3 chs cs N next c m=pa chs cs [] N next c m
  | 0=>rfl
  | m+1=>by
    show G95b3 chs cs N next c (G95l3 chs cs N next c m)=F95b2 chs cs [] N next c (pa chs cs [] N next c m)
    rw [G3F2 chs cs N next c m]
    funext row v
    unfold G95b3 F95b2
    simp only [G5F4]
    rfl
theorem last_row (chs:List Ch) (cs:List Ce) (a:List (List Gn)) (N:Nat) (next:List Gn) (c:Cl) (r:List Cl) (hv:∀ c∈cs,vCe c) (hn:cs.length≤24) (hc:vCl c∧c.to < cs.length) (hN:101≤N) (hnx:rowOK cs r next) (hlp:a.length≤1000) :
    ∃ row',pa chs cs a N next c N (List.replicate ((cs.length:Int)+1).toNat (⟨0,0⟩:Gn)) ((cs.length:Int) - 1)=some (row' :: a)∧rowOK cs (c :: r) row':=by
  rw [show ((cs.length:Int)+1).toNat=cs.length+1 by omega]
  refine F95l2_eq chs cs a N next c r hv hn hc hN hnx hlp N cs.length _ (Nat.le_refl _) (by omega) (by simp) fun f h1 h2=>⟨⟨0,0⟩,?_,.inl ⟨rfl,fun ds h=>?_⟩⟩
  · rw [List.getElem?_replicate,if_pos (by omega)]
  cases ds with
  | nil=>exact h
  | cons d ds =>
    have h:hi2 c.fr (f:Int)≤d.fr∧d.fr≤d.to∧d.to≤c.to∧shL r ds (d.to+1):=h
    have h3:=h.1
    have:=hc.2
    unfold hi2 at h3; split at h3 <;> omega
def allOK (cs:List Ce) (l:List Cl):Prop:=∀ c∈l,vCl c∧c.to < cs.length
theorem F95_eq (N:Nat) (chs:List Ch) (cs:List Ce) (l:List Cl) (hv:∀ c∈cs,vCe c) (hn:cs.length≤24) (hc:allOK cs l) (hl:l.length≤12) (hN:101≤N) (row:List Gn) (tl:List (List Gn)) (ht:(row :: tl).length < l.length) (hr:rowOK cs (l.drop (l.length - (row :: tl).length)) row) :
    ∃ row',F95 N chs cs l (row :: tl)=some (row' :: row :: tl)∧rowOK cs (l.drop (l.length - (row :: tl).length - 1)) row':=by
  unfold F95
  generalize hk:(row :: tl).length=k at *
  have hx:l[l.length - k - 1]?=some (l[l.length - k - 1]'(by omega)):=List.getElem?_eq_getElem _
  have e1:l.drop (l.length - k - 1)=(l[l.length - k - 1]'(by omega)) :: l.drop (l.length - k - 1+1):=List.drop_eq_getElem_cons _
  rw [show l.length - k - 1+1=l.length - k by omega] at e1
  rw [dr (by unfold InR; omega),du (by omega),du (by omega),show (row :: tl)[0]?=some row from rfl,ba,dr (by unfold InR; omega),dr (by unfold InR; omega),du (by omega),show (((l.length:Int) - 1) - (k:Int)).toNat=l.length - k - 1 by omega,hx,ba,dr (by unfold InR; omega),e1]
  exact last_row chs cs (row :: tl) N row _ _ hv hn (hc _ (List.mem_of_getElem? hx)) hN hr (by omega)
theorem G95l9_eq (chs:List Ch) (cs:List Ce) (l:List Cl) (N:Nat) (hn:cs.length≤24):∀ (m i:Nat) (u:List Gn),u.length=cs.length+1→i≤cs.length+1→(∀ j,j < i→u[j]?=some ⟨1000000,1⟩)→cs.length+1 < m+i→G95l9 chs cs l N m u (i:Int)=G95j1 chs cs l N (List.replicate (cs.length+1) ⟨1000000,1⟩):=by
  intro m; induction m with
  | zero=>intro i u _ h1 _ h; omega
  | succ m ih =>
    intro i u hu h1 hj h
    show G95b9 chs cs l N (G95l9 chs cs l N m) u (i:Int)=_
    unfold G95b9
    by_cases hi:i≤cs.length
    · have hx:u[i]?=some (u[i]'(by omega)):=List.getElem?_eq_getElem _
      rw [if_pos (by omega),du (by omega),Int.toNat_natCast,hx,ba,dr (by unfold InR; omega),eh]
      refine ih (i+1) _ (by simpa using hu) (by omega) (fun j h=>?_) (by omega)
      rw [List.getElem?_set]
      by_cases e:i=j
      · rw [if_pos e,if_pos (by omega)]
      rw [if_neg e]; exact hj j (by omega)
    rw [if_neg (by omega)]
    congr 1
    refine List.ext_getElem? fun j=>?_
    rw [List.getElem?_replicate]
    by_cases h:j < cs.length+1
    · rw [if_pos h]; exact hj j (by omega)
    rw [if_neg h]; exact List.getElem?_eq_none (by omega)
theorem G95_eq (N:Nat) (chs:List Ch) (cs:List Ce) (l:List Cl) (hv:∀ c∈cs,vCe c) (hn:cs.length≤24) (hc:allOK cs l) (hl:1≤l.length∧l.length≤12) (hN:101≤N) :
    ∃ row',G95 N chs cs l=some [row']∧rowOK cs (l.drop (l.length - 1)) row':=by
  unfold G95
  rw [dr (by unfold InR; omega),du (by omega),du (by omega)]
  have:=G95l9_eq chs cs l N hn N 0 (List.replicate ((cs.length:Int)+1).toNat (⟨0,0⟩:Gn)) (by rw [List.length_replicate]; omega) (by omega) (fun j h=>by omega) (by omega)
  rw [Int.natCast_zero] at this
  rw [this]
  unfold G95j1
  have hx:l[l.length - 1]?=some (l[l.length - 1]'(by omega)):=List.getElem?_eq_getElem _
  have e1:l.drop (l.length - 1)=(l[l.length - 1]'(by omega)) :: l.drop (l.length - 1+1):=List.drop_eq_getElem_cons _
  rw [List.drop_eq_nil_of_le (by omega:l.length≤l.length - 1+1)] at e1
  rw [dr (by unfold InR; omega),dr (by unfold InR; omega),du (by omega),show ((l.length:Int) - 1 - 0).toNat=l.length - 1 by omega,hx,ba,dr (by unfold InR; omega),e1,G3F2]
  refine last_row chs cs [] N _ _ _ hv hn (hc _ (List.mem_of_getElem? hx)) hN ⟨by simp,fun f hf=>⟨⟨1000000,1⟩,?_,sup_base cs _⟩⟩ (by simp)
  rw [List.getElem?_replicate,if_pos (by omega)]
theorem F85l_eq (N:Nat) (chs:List Ch) (cs:List Ce) (l:List Cl) (hv:∀ c∈cs,vCe c) (hn:cs.length≤24) (hc:allOK cs l) (hl:1≤l.length∧l.length≤12) (hN:101≤N):∀ (m:Nat) (t:List (List Gn)),t.length≤l.length→(t=[]∨∃ row tl,t=row :: tl∧rowOK cs (l.drop (l.length - t.length)) row)→l.length < m+t.length →
    ∃ row tl,F85l N chs cs l m t=some (row :: tl)∧rowOK cs l row:=by
  intro m; induction m with
  | zero=>intro t h1 _ h; omega
  | succ m ih =>
    intro t h1 h2 h
    show ∃ row tl,(if (t.length:Int) < (l.length:Int) then bp (F85s N chs cs l t) fun y=>F85l N chs cs l m y else some t)=some (row :: tl)∧_
    by_cases hlt:t.length < l.length
    · rw [if_pos (by omega)]
      rcases h2 with rfl | ⟨row,tl,rfl,h2⟩
      · obtain ⟨row',q1,q2⟩:=G95_eq N chs cs l hv hn hc hl hN
        have e:F85s N chs cs l []=some [row']:=by
          unfold F85s; dsimp only; rw [q1]; rfl
        rw [e,ba]
        exact ih [row'] (by simp; omega) (.inr ⟨row',[],rfl,q2⟩) (by simp at h ⊢; omega)
      obtain ⟨row',q1,q2⟩:=F95_eq N chs cs l hv hn hc hl.2 hN row tl hlt h2
      have e:F85s N chs cs l (row :: tl)=some (row' :: row :: tl):=by
        unfold F85s; dsimp only; rw [q1]; rfl
      rw [e,ba]
      refine ih (row' :: row :: tl) (by simp at hlt ⊢; omega) (.inr ⟨row',row :: tl,rfl,?_⟩) (by simp at h ⊢; omega)
      rwa [show l.length - (row' :: row :: tl).length=l.length - (row :: tl).length - 1 by simp only [List.length_cons]; omega]
    rw [if_neg (by omega)]
    rcases h2 with rfl | ⟨row,tl,rfl,h2⟩
    · simp at hlt; rw [hlt] at hl; simp at hl
    refine ⟨row,tl,rfl,?_⟩
    rwa [show l.length - (row :: tl).length=0 by omega,List.drop_zero] at h2
theorem F85_eq (N:Nat) (chs:List Ch) (cs:List Ce) (l:List Cl) (hv:∀ c∈cs,vCe c) (hn:cs.length≤24) (hc:allOK cs l) (hl:1≤l.length∧l.length≤12) (hN:101≤N):∃ g:Gn,F85 N chs cs l=some (g.num,g.den)∧Sup cs l (fun ds=>shL l ds 0) g:=by
  obtain ⟨row,tl,h1,h2⟩:=F85l_eq N chs cs l hv hn hc hl hN N [] (by simp) (.inl rfl) (by simp; omega)
  obtain ⟨g,g1,g2⟩:=h2.2 0 (by omega)
  refine ⟨g,?_,by simpa using g2⟩
  unfold F85
  rw [h1,ba]
  show bp (some row) _=_
  rw [ba,g1]; rfl
theorem gnOf_nat (p q:Nat):gnOf (p:Int) (q:Int)=⟨((p / Nat.gcd p q:Nat):Int),((q / Nat.gcd p q:Nat):Int)⟩:=by
  unfold gnOf
  rw [Int.toNat_natCast,Int.toNat_natCast]
  rfl
theorem lowG_inj {a b:Gn} (ha:lowG a) (hb:lowG b) (h:a.num * b.den=b.num * a.den):a=b:=by
  obtain ⟨w,k,h1,h2,h3,h4,rfl⟩:=ha
  obtain ⟨w',k',g1,g2,g3,g4,rfl⟩:=hb
  obtain ⟨p,rfl⟩:=Int.eq_ofNat_of_zero_le h1
  obtain ⟨q,rfl⟩:=Int.eq_ofNat_of_zero_le (show 0≤k by omega)
  obtain ⟨p',rfl⟩:=Int.eq_ofNat_of_zero_le g1
  obtain ⟨q',rfl⟩:=Int.eq_ofNat_of_zero_le (show 0≤k' by omega)
  have c1:=Nat.coprime_div_gcd_div_gcd (m:=p) (n:=q) (Nat.gcd_pos_of_pos_right _ (by omega))
  have c2:=Nat.coprime_div_gcd_div_gcd (m:=p') (n:=q') (Nat.gcd_pos_of_pos_right _ (by omega))
  have d1:=(gnOf_ok (w:=(p:Int)) (h:=(q:Int)) h1 h3).2.1.1
  have d2:=(gnOf_ok (w:=(p':Int)) (h:=(q':Int)) g1 g3).2.1.1
  rw [gnOf_nat] at h d1 ⊢
  rw [gnOf_nat p' q'] at h d2 ⊢
  dsimp only at h d1 d2
  generalize p / Nat.gcd p q=x at *
  generalize q / Nat.gcd p q=y at *
  generalize p' / Nat.gcd p' q'=z at *
  generalize q' / Nat.gcd p' q'=u at *
  have hN:x * u=z * y:=by
    have:((x * u:Nat):Int)=((z * y:Nat):Int):=by rw [Int.natCast_mul,Int.natCast_mul]; exact h
    exact Int.ofNat.inj this
  have e1:y ∣ u:=Nat.Coprime.dvd_of_dvd_mul_left c1.symm ⟨z,by rw [hN,Nat.mul_comm]⟩
  have e2:u ∣ y:=Nat.Coprime.dvd_of_dvd_mul_left c2.symm ⟨x,by rw [← hN,Nat.mul_comm]⟩
  have e3:y=u:=Nat.dvd_antisymm e1 e2
  subst e3
  rw [Nat.eq_of_mul_eq_mul_right (by omega) hN]
theorem gains_low {cs:List Ce} (hv:∀ c∈cs,vCe c) (hn:cs.length≤24):∀ {l:List Cl} {ds:List Dr},(∀ c∈l,vCl c)→∀ g∈dy cs l ds,lowG g
  | [],ds,_,g,h=>by simp [dy] at h
  | c :: l,[],_,g,h=>by simp [dy] at h
  | c :: l,d :: ds,hc,g,h=>by
    simp only [dy,List.zipWith_cons_cons,List.mem_cons] at h
    rcases h with rfl | h
    · have hw:=pv hv hn d.fr d.to
      have hcv:=hc c (by simp)
      unfold vCl at hcv
      exact ⟨nx cs d.fr d.to,c.hd,hw.1,by omega,hcv.2.2.1,hcv.2.2.2,rfl⟩
    exact gains_low hv hn (fun c h=>hc c (by simp [h])) g h
theorem F86_F85 (N:Nat) (chs:List Ch) (cs:List Ce) (M:Int→Option Int) (c:Cl) (r:List Cl) (H:GC chs cs c r) (hc:allOK cs (c :: r)) (hN:100000000000000≤N) :
    ∃ g:Gn,F85 N chs cs (c :: r)=some (g.num,g.den) ∧
    (((nn cs tm1 (c :: r) c.fr).2.2=false∧F86 N chs cs M (c :: r)=some ([],0,0,[],false)∧g=⟨0,0⟩) ∨
    ((nn cs tm1 (c :: r) c.fr).2.2=true∧∃ ds,F86 N chs cs M (c :: r)=some (ds,g.num,g.den,c.fr :: (nn cs g (c :: r) c.fr).2.1,true)∧Best cs c r ds g)):=by
  obtain ⟨g,g1,g2⟩:=F85_eq N chs cs (c :: r) H.v H.n hc ⟨by simp,H.l⟩ (by omega)
  have h0:0≤c.fr:=by have:=(hc c (by simp)).1; unfold vCl at this; omega
  rcases F86_eq (M:=M) H N hN with ⟨s1,s2⟩ | ⟨s1,ds,t,s2,s3⟩
  · refine ⟨g,g1,.inl ⟨s1,s2,?_⟩⟩
    rcases g2 with ⟨h,_⟩ | ⟨h,k⟩
    · exact h
    have hb:=ob h
    obtain ⟨ds,q1,_⟩:=(k tm1 (by decide) (by decide)).1 (by unfold mt tm1; dsimp only; omega)
    obtain ⟨a,b,k1,k2,k3⟩:=crowd_of H.n H.v H.k s1
    exact absurd k3 (no_crowd q1 ⟨by omega,by omega,by omega⟩)
  have hlen:=shL_len s3.sh
  have hmem:=leastL_mem (cs:=cs) (show 0 < (c :: r).length by simp) hlen
  rw [← s3.least] at hmem
  have tl:=gains_low H.v H.n H.k t hmem
  have tb:=ob tl
  have hsm:=gains_sm H.v H.n H.k t hmem
  have hw:=best_wall H.v H.n H.k H.l s3 hsm.2
  have hsh:shL (c :: r) ds 0:=(shL_zero h0).1 s3.sh
  have hst:=hsm.1
  unfold smG at hst
  have hle:∀ x∈dy cs (c :: r) ds,¬ mt t x:=by
    intro x hx
    have:=s3.least
    unfold leastL at this
    cases hq:dy cs (c :: r) ds with
    | nil=>rw [hq] at hx; cases hx
    | cons a b =>
      rw [hq] at this hx
      have hall:∀ z∈a :: b,0 < z.den:=fun z hz=>by
        have:=ob (gains_low H.v H.n H.k z (by rw [hq]; exact hz)); omega
      rw [this]
      exact lstG_least b a hall x hx
  have gl:g=t:=by
    rcases g2 with ⟨_,h⟩ | ⟨h,k⟩
    · exact absurd hsh (h ds)
    have gb:=ob h
    refine lowG_inj h tl ?_
    have n1:¬ mt g t:=fun q=>by
      obtain ⟨ds',q1,q2⟩:=(k t (by omega) (by omega)).1 q
      exact wall_best H.v H.n H.k hw q1 q2
    have n2:¬ mt t g:=fun q=>by
      have hg1:g.num < 1000000 * g.den:=by
        unfold mt at q
        have d:t.num * g.den≤240000 * g.den:=Int.mul_le_mul_of_nonneg_right hst.1.2 (by omega)
        have e:g.num * 1≤g.num * t.den:=Int.mul_le_mul_of_nonneg_left (by omega) (by omega)
        omega
      have:=(k g (by omega) hg1).2 ⟨ds,hsh,fun x hx=>mt_of_not (by omega) (by have:=ob (gains_low H.v H.n H.k x hx); omega) (by omega) (hle x hx) q⟩
      exact mt_asymm this this
    unfold mt at n1 n2
    omega
  subst gl
  exact ⟨g,g1,.inr ⟨s1,ds,s2,s3⟩⟩
end Go.K
end
section
namespace Go.K
open Go.RowKit
theorem F41l3_eq (l:List Gn) (hn:l.length≤1000000):∀ (m i:Nat),i≤l.length→l.length < m+i→F41l3 l l m true (i:Int)=some true:=by
  intro m; induction m with
  | zero=>intro i h1 h; omega
  | succ m ih =>
    intro i h1 h
    show F41b3 l l (F41l3 l l m) true (i:Int)=_
    unfold F41b3
    rw [if_pos rfl]
    by_cases hi:i < l.length
    · have hx:l[i]?=some (l[i]'hi):=List.getElem?_eq_getElem _
      rw [if_pos (by omega),du (by omega),Int.toNat_natCast,hx,ba,ba,if_pos (by simp)]
      unfold F41j5
      rw [dr (by unfold InR; omega),eh,ih (i+1) (by omega) (by omega)]
    rw [if_neg (by omega)]; rfl
theorem F41_self (N:Nat) (l:List Gn) (hn:l.length≤1000000) (hN:1000001 < N):F41 N l l=some true:=by
  unfold F41
  rw [if_pos rfl]
  unfold F41j1
  exact F41l3_eq l hn N 0 (by omega) (by omega)
theorem F42l3_eq (l:List Int) (hn:l.length≤1000000):∀ (m i:Nat),i≤l.length→l.length < m+i→F42l3 l l m true (i:Int)=some true:=by
  intro m; induction m with
  | zero=>intro i h1 h; omega
  | succ m ih =>
    intro i h1 h
    show F42b3 l l (F42l3 l l m) true (i:Int)=_
    unfold F42b3
    rw [if_pos rfl]
    by_cases hi:i < l.length
    · have hx:l[i]?=some (l[i]'hi):=List.getElem?_eq_getElem _
      rw [if_pos (by omega),du (by omega),Int.toNat_natCast,hx,ba,ba,if_pos rfl]
      unfold F42j5
      rw [dr (by unfold InR; omega),eh,ih (i+1) (by omega) (by omega)]
    rw [if_neg (by omega)]; rfl
theorem F42_self (N:Nat) (l:List Int) (hn:l.length≤1000000) (hN:1000001 < N):F42 N l l=some true:=by
  unfold F42
  rw [if_pos rfl]
  unfold F42j1
  exact F42l3_eq l hn N 0 (by omega) (by omega)
theorem F87_eq (chs:List Ch) (cs:List Ce) (M:Int→Option Int) (l:List Cl) (i:Nat) (hi:i < l.length) (hl:l.length≤12):F87 chs cs M l (i:Int)=some (l.take i++l.drop (i+1)):=by
  unfold F87 F99
  rw [du (by omega),ba,dr (by unfold InR; omega),du (by omega)]
  unfold F98
  have hlen:(l.take i++l.drop (i+1)).length=l.length - 1:=by simp; omega
  rw [du (by omega),du (by omega),Int.toNat_natCast,show ((i:Int)+1).toNat=i+1 by omega,du (by omega),if_neg (by omega),du (by omega),du (by omega),du (by omega),du (by omega),du (by omega),ba]
theorem allOK_del {cs:List Ce} {l:List Cl} (h:allOK cs l) (i:Nat):allOK cs (l.take i++l.drop (i+1)):=fun c hc=>by
  rw [List.mem_append] at hc
  exact h c (hc.elim List.mem_of_mem_take List.mem_of_mem_drop)
theorem moved_loop (N:Nat) (chs:List Ch) (cs:List Ce) (M:Int→Option Int) (l:List Cl) (g:Gn) (ds:List Dr) (sts:List Int) (fl:Bool) (hfl:fl=true↔g≠⟨0,0⟩) (hv:∀ c∈cs,vCe c) (hn:cs.length≤24) (hc:allOK cs l) (hl:2≤l.length∧l.length≤12) (hN:100000000000000≤N) :
    ∀ (m i:Nat) (u:List Int),i≤l.length→u.length≤i→l.length < m+i→∃ o:List Int,F39l1 chs cs l N M (ds,g.num,g.den,sts,fl) m u (i:Int)=some (o,0)∧F40l1 chs cs l N (g.num,g.den) m u (i:Int)=some (o,0)∧o.length≤12:=by
  intro m; induction m with
  | zero=>intro i u h1 _ h; omega
  | succ m ih =>
    intro i u h1 hu h
    show ∃ o:List Int,F39b1 chs cs l N M (ds,g.num,g.den,sts,fl) (F39l1 chs cs l N M (ds,g.num,g.den,sts,fl) m) u (i:Int)=some (o,0)∧F40b1 chs cs l N (g.num,g.den) (F40l1 chs cs l N (g.num,g.den) m) u (i:Int)=some (o,0)∧_
    unfold F39b1 F40b1
    by_cases hi:i < l.length
    · have hx:l[i]?=some (l[i]'hi):=List.getElem?_eq_getElem _
      have hlen:(l.take i++l.drop (i+1)).length=l.length - 1:=by simp; omega
      have ew:((l.drop 0).take (i - 0))++((l.drop ((i:Int)+1).toNat).take (l.length - ((i:Int)+1).toNat))=l.take i++l.drop (i+1):=by
        rw [List.drop_zero,Nat.sub_zero,show ((i:Int)+1).toNat=i+1 by omega,show (l.drop (i+1)).take (l.length - (i+1))=l.drop (i+1) from List.take_of_length_le (by simp)]
      have l1:((l.drop 0).take (i - 0)).length=i:=by simp; omega
      have l2:((l.drop ((i:Int)+1).toNat).take (l.length - ((i:Int)+1).toNat)).length=l.length - (i+1):=by rw [List.length_take,List.length_drop]; omega
      rw [if_pos (by omega),du (by omega),Int.toNat_natCast,hx,ba,F87_eq chs cs M l i hi hl.2,ba]
      rw [if_pos (by omega),du (by omega),du (by omega),du (by omega),dr (by unfold InR; omega),du (by omega),du (by omega),du (by omega),ew,hlen,if_neg (by omega)]
      have hok:=allOK_del hc i
      generalize hw:l.take i++l.drop (i+1)=w at *
      cases w with
      | nil=>simp at hlen; omega
      | cons c r =>
        have H:GC chs cs c r:=⟨hn,hv,fun x h=>(hok x h).1,by omega⟩
        obtain ⟨g',g1,g2⟩:=F86_F85 N chs cs M c r H hok hN
        rw [g1,ba]
        have hj2:∀ u2:List Int,u2.length≤i+1→∃ o:List Int,F39j2 (F39l1 chs cs l N M (ds,g.num,g.den,sts,fl) m) (i:Int) u2=some (o,0)∧F40j2 (F40l1 chs cs l N (g.num,g.den) m) (i:Int) u2=some (o,0)∧o.length≤12:=fun u2 hu2=>by
          unfold F39j2 F40j2
          rw [dr (by unfold InR; omega),dr (by unfold InR; omega),eh]
          exact ih (i+1) u2 (by omega) hu2 (by omega)
        have hj3:∃ o:List Int,F39j3 (F39l1 chs cs l N M (ds,g.num,g.den,sts,fl) m) u (i:Int) (l[i]'hi)=some (o,0)∧F40j3 l (F40l1 chs cs l N (g.num,g.den) m) u (i:Int)=some (o,0)∧o.length≤12:=by
          unfold F39j3 F40j3
          rw [Int.toNat_natCast,hx,ba,du (by omega),du (by omega)]
          exact hj2 _ (by simp; omega)
        obtain ⟨ds',sts',fl',f1,f2⟩:∃ ds' sts' fl',F86 N chs cs M (c :: r)=some (ds',g'.num,g'.den,sts',fl')∧(fl'=true↔g'≠⟨0,0⟩):=by
          rcases g2 with ⟨_,q,rfl⟩ | ⟨_,ds',q,b⟩
          · exact ⟨_,_,_,q,by simp⟩
          have hsm:=b.sm
          unfold smG at hsm
          exact ⟨_,_,_,q,fun _ h=>by rw [h] at hsm; exact absurd hsm.2.1 (by decide),fun _=>rfl⟩
        rw [f1,ba]
        dsimp only
        by_cases e:g'=g
        · subst e
          have:fl=fl':=Bool.eq_iff_iff.2 (hfl.trans f2.symm)
          rw [if_pos this,if_pos (by simp),if_pos (by simp)]
          exact hj2 u (by omega)
        have hne:¬ (g'.num=g.num∧g'.den=g.den):=fun h=>e (by cases g; cases g'; simp only at h; rw [h.1,h.2])
        have hb1:¬ (decide (g'.num=g.num) && decide (g'.den=g.den))=true:=by simpa using hne
        have hb2:¬ (decide (g.num=g'.num) && decide (g.den=g'.den))=true:=by
          simp only [Bool.and_eq_true,decide_eq_true_eq]; exact fun h=>hne ⟨h.1.symm,h.2.symm⟩
        rw [if_neg hb1]
        by_cases q:fl=fl'
        · rw [if_pos q,if_neg hb2]; exact hj3
        rw [if_neg q]; exact hj3
    rw [if_neg (by omega),if_neg (by omega)]
    exact ⟨u,rfl,rfl,by omega⟩
theorem F39_F40 (N:Nat) (chs:List Ch) (cs:List Ce) (l:List Cl) (hg:okG chs cs) (hc:okC cs l) (hN:100000000000000≤N):∃ o:List Int,F39 N chs cs l=some (o,0)∧F40 N chs cs l=some (o,0)∧o.length≤12:=by
  have hl:=hc.1
  have hok:allOK cs l:=oa l _ _ hc.2
  unfold F39 F40
  rw [F64_eq N chs cs l (by omega),F18_eq N chs cs l (by omega) (by omega),if_pos hg,if_pos hc,pz,ba,if_pos hg,if_pos hc,if_pos rfl]
  cases l with
  | nil=>simp at hl
  | cons c r =>
    have H:GC chs cs c r:=⟨hg.2.1.2,okG_ces hg,fun x h=>(hok x h).1,hl.2⟩
    obtain ⟨g,g1,g2⟩:=F86_F85 N chs cs (extM noM 0 chs) c r H hok hN
    rw [g1,ba]
    by_cases h1:(c :: r).length=1
    · rw [if_pos (by omega)]
      have hr:r=[]:=by cases r; rfl; simp at h1
      subst hr
      obtain ⟨k,rfl⟩:∃ k,N=k+2:=⟨N - 2,by omega⟩
      refine ⟨[c.fam],rfl,?_,by simp⟩
      show F40b1 chs cs [c] (k+2) (g.num,g.den) (F40b1 chs cs [c] (k+2) (g.num,g.den) (F40l1 chs cs [c] (k+2) (g.num,g.den) k)) [] 0=_
      unfold F40b1
      rfl
    rw [if_neg (by omega)]
    obtain ⟨ds',sts',fl',f1,f2⟩:∃ ds' sts' fl',F86 N chs cs (extM noM 0 chs) (c :: r)=some (ds',g.num,g.den,sts',fl')∧(fl'=true↔g≠⟨0,0⟩):=by
      rcases g2 with ⟨_,q,rfl⟩ | ⟨_,ds',q,b⟩
      · exact ⟨_,_,_,q,by simp⟩
      have hsm:=b.sm
      unfold smG at hsm
      exact ⟨_,_,_,q,fun _ h=>by rw [h] at hsm; exact absurd hsm.2.1 (by decide),fun _=>rfl⟩
    rw [f1,ba]
    exact moved_loop N chs cs (extM noM 0 chs) (c :: r) g ds' sts' fl' f2 (okG_ces hg) hg.2.1.2 hok ⟨by omega,hl.2⟩ hN N 0 [] (by omega) (by simp) (by omega)
theorem F5l6_eq (t:Gn) (k:Int) (y:List Gn × Int) (N0:Unit) (ht:smG t) (hg:∀ x∈y.1,smG x∧¬ mt t x) (hn:y.1.length≤100):∀ (m i:Nat) (v:Bool),i≤y.1.length→y.1.length < m+i→(v=true∨t∈y.1.drop i)→F5l6 (t.num,t.den,k) y m v (i:Int)=some true:=by
  intro m; induction m with
  | zero=>intro i v h1 h; omega
  | succ m ih =>
    intro i v h1 h hv
    show F5b6 (t.num,t.den,k) y (F5l6 (t.num,t.den,k) y m) v (i:Int)=_
    unfold F5b6
    rcases gv y.1 i with ⟨h1',h2⟩ | ⟨c,h1',h2,h3⟩
    · rw [if_neg (by omega)]
      rw [h2] at hv
      rcases hv with rfl | h
      · rfl
      cases h
    obtain ⟨s1,s2⟩:=hg c (List.mem_of_getElem? h2)
    have ht':=ht
    unfold smG at s1 ht'
    rw [if_pos (by omega),du (by omega),Int.toNat_natCast,h2,ba]
    show bp (F53 c t) _=_
    rw [F53_eq (by omega) (by omega) (by omega) (by omega),ba,if_neg (by rw [decide_eq_true_eq]; exact s2)]
    have hj:∀ v2:Bool,(v2=true∨t∈y.1.drop (i+1))→F5j7 (F5l6 (t.num,t.den,k) y m) (i:Int) v2=some true:=fun v2 h=>by
      unfold F5j7
      rw [dr (by unfold InR; omega),eh]
      exact ih (i+1) v2 (by omega) (by omega) h
    rw [h3] at hv
    by_cases q:v=true
    · rw [if_pos q]; exact hj true (.inl rfl)
    rw [if_neg q]
    by_cases q2:c=t
    · subst q2
      rw [if_pos (by simp)]; exact hj true (.inl rfl)
    have hne:¬ (c.num=t.num∧c.den=t.den):=fun h=>q2 (by cases c; cases t; simp only at h; rw [h.1,h.2])
    rw [if_neg (by simpa using hne)]
    refine hj false (.inr ?_)
    rcases hv with h | h
    · exact absurd h q
    rcases List.mem_cons.1 h with h | h
    · exact absurd h.symm q2
    exact h
theorem shares_bad (N:Nat) (chs:List Ch) (cs:List Ce) (l:List Cl) (ds:List Dr) (a b f:Int) (ns:List Int) (q1 q2:Int) (hn:l.length≤9223372036854775807) (hns:ns.length≤9223372036854775807) (hN:100000000000000≤N) (hN2:l.length+200 < N) (e:Int) (he:e=42∧¬ okG chs cs∨e=44∧okG chs cs∧¬ okC cs l):F5j1 chs cs l ds a b f ns q1 q2 N true=some true:=by
  have he0:e≠0:=by omega
  have g:F18 N chs cs l=some e:=by
    rw [F18_eq N chs cs l hn (by omega)]
    rcases he with ⟨rfl,h⟩ | ⟨rfl,h,h'⟩
    · rw [if_neg h]
    rw [if_pos h,if_neg h']
  have i:F44 N chs cs l ds=some e:=by unfold F44; rw [g,ba,if_neg he0]
  have n:F36 N chs cs l ds=some ([],e):=by unfold F36; rw [i,ba,if_neg he0]
  have j:F38 N chs cs l=some (0,0,e):=by unfold F38; rw [g,ba,if_neg he0]
  have o:F40 N chs cs l=some ([],e):=by unfold F40; rw [g,ba,if_neg he0]
  have d:F64 N chs cs l=some (if okG chs cs then (if okC cs l then .inr (.inr (extM noM 0 chs)) else .inr (.inl ())) else .inl ()):=F64_eq N chs cs l (by omega)
  have k:F84 N chs cs l=some ([],0,0,[],e):=by
    unfold F84; rw [d]
    rcases he with ⟨rfl,h⟩ | ⟨rfl,h,h'⟩
    · rw [if_neg h]; rfl
    rw [if_pos h,if_neg h']; rfl
  have p:F35 N chs cs l ds=some ([],e):=by
    unfold F35; rw [d]
    rcases he with ⟨rfl,h⟩ | ⟨rfl,h,h'⟩
    · rw [if_neg h]; rfl
    rw [if_pos h,if_neg h']; rfl
  have q:F39 N chs cs l=some ([],e):=by
    unfold F39; rw [d]
    rcases he with ⟨rfl,h⟩ | ⟨rfl,h,h'⟩
    · rw [if_neg h]; rfl
    rw [if_pos h,if_neg h']; rfl
  have r:F43 N chs cs l ds=some e:=by
    unfold F43; rw [d]
    rcases he with ⟨rfl,h⟩ | ⟨rfl,h,h'⟩
    · rw [if_neg h]; rfl
    rw [if_pos h,if_neg h']; rfl
  have s:F51 N chs cs l=some (0,0,e):=by
    unfold F51; rw [d]
    rcases he with ⟨rfl,h⟩ | ⟨rfl,h,h'⟩
    · rw [if_neg h]; rfl
    rw [if_pos h,if_neg h']; rfl
  have t:F52 N chs cs l=some e:=by
    unfold F52; rw [j,ba]; dsimp only; rw [if_neg he0,if_neg (by omega)]
  obtain ⟨e2,u,v⟩:=F45_F46 N chs cs l ⟨a,b⟩ hn (by omega)
  obtain ⟨e3,x,m⟩:=F47_F48 N chs cs l f ns ⟨q1,q2⟩ hn hns (by omega) (by omega)
  unfold F5j1
  rw [p,ba,n,ba]
  unfold F37
  rw [k,ba,ba,j,ba,q,ba,o,ba,F41_self N [] (by simp) (by omega),ba,if_pos rfl]
  unfold F5j2
  rw [F42_self N [] (by simp) (by omega),ba,if_pos rfl]
  unfold F5j3
  dsimp only at m ⊢
  unfold F49 F50
  simp only [if_true,r,i,u,v,x,m,k,s,t,ba,decide_true,Bool.and_true,if_neg he0]
  unfold F5j4
  dsimp only
  rw [if_neg he0]
  rfl
theorem shares_ok (N:Nat) (chs:List Ch) (cs:List Ce) (l:List Cl) (ds:List Dr) (a b f:Int) (ns:List Int) (q1 q2:Int) (hns:ns.length≤9223372036854775807) (hN:100000000000000≤N) (hg:okG chs cs) (hc:okC cs l):F5j1 chs cs l ds a b f ns q1 q2 N true=some true:=by
  have hl:=hc.1
  have hok:allOK cs l:=oa l _ _ hc.2
  obtain ⟨e2,t,u⟩:=F45_F46 N chs cs l ⟨a,b⟩ (by omega) (by omega)
  obtain ⟨e3,A,i⟩:=F47_F48 N chs cs l f ns ⟨q1,q2⟩ (by omega) hns (by omega) (by omega)
  obtain ⟨o,B,C,ho⟩:=F39_F40 N chs cs l hg hc hN
  have D:=F43_eq N chs cs l ds hg hc (by omega)
  have m:=F44_eq N chs cs l ds (by omega) (by omega)
  rw [if_pos hg,if_pos hc] at m
  have E:F18 N chs cs l=some 0:=by rw [F18_eq N chs cs l (by omega) (by omega),if_pos hg,if_pos hc]
  cases l with
  | nil=>simp at hl
  | cons c r =>
    have H:GC chs cs c r:=⟨hg.2.1.2,okG_ces hg,fun x h=>(hok x h).1,hl.2⟩
    have h0:0≤c.fr:=by have:=(hok c (by simp)).1; unfold vCl at this; omega
    have hgl:(if shL (c :: r) ds 0 then (dy cs (c :: r) ds,(0:Int)) else ([],46)).1.length≤1000000:=by
      split
      · simp [dy]; simp at hl; omega
      simp
    obtain ⟨g,g1,g2⟩:=F86_F85 N chs cs (extM noM 0 chs) c r H hok hN
    unfold F5j1
    rw [F35_eq N chs cs _ ds hg hc (by omega),ba,F36_eq N chs cs _ ds hg hc (by omega) (by omega),ba]
    have G:F64 N chs cs (c :: r)=some (.inr (.inr (extM noM 0 chs))):=by rw [F64_eq N chs cs _ (by omega),if_pos hg,if_pos hc]
    rcases g2 with ⟨s1,s2,rfl⟩ | ⟨s1,best,s2,s3⟩
    · have d:F84 N chs cs (c :: r)=some ([],0,0,[],47):=by unfold F84; rw [G,pz,s2,ba]; rfl
      have e:F38 N chs cs (c :: r)=some (0,0,47):=by unfold F38; rw [E,ba,if_pos rfl,g1,ba]; rfl
      have s:F52 N chs cs (c :: r)=some 0:=by unfold F52; rw [e,ba]; rfl
      obtain ⟨x,y,k1,k2,k3⟩:=crowd_of H.n H.v H.k s1
      rcases F51_eq N chs cs (c :: r) hg hc (by omega) with ⟨x',y',j,w1,w2,w3,w4⟩ | ⟨_,h⟩
      · obtain ⟨e4,h45',h46'⟩:=F45_F46 N chs cs (c :: r) ⟨x',y'⟩ (by omega) (by omega)
        obtain ⟨e5,h45'',e6⟩:=F45_eq N chs cs (c :: r) ⟨x',y'⟩ hg hc (by omega)
        have e7:e4=0:=by
          rw [h45'] at h45''; injection h45'' with h; rw [h]; exact e6.2 ⟨⟨w1,w2,w3⟩,w4⟩
        subst e7
        unfold F37
        rw [d,ba,ba,e,ba,B,ba,C,ba,F41_self N _ hgl (by omega),ba,if_pos rfl]
        unfold F5j2
        rw [F42_self N o (by omega) (by omega),ba,if_pos rfl]
        unfold F5j3
        dsimp only at i ⊢
        unfold F49 F50
        simp only [if_true,D,m,t,u,A,i,d,j,s,h46',ba,decide_true,Bool.and_true]
        unfold F5j4
        rfl
      exact absurd k3 (h x y (by omega) (by omega) (by omega))
    have hsm:=s3.sm
    have hsm':=hsm
    unfold smG at hsm'
    have hlen:=shL_len s3.sh
    have hmem:=leastL_mem (cs:=cs) (show 0 < (c :: r).length by simp) hlen
    rw [← s3.least] at hmem
    have h0g:=(gains_sm H.v H.n H.k g hmem).2
    have hw:=best_wall H.v H.n H.k H.l s3 h0g
    have hsh:shL (c :: r) best 0:=(shL_zero h0).1 s3.sh
    have d:F84 N chs cs (c :: r)=some (best,g.num,g.den,c.fr :: (nn cs g (c :: r) c.fr).2.1,0):=by unfold F84; rw [G,pz,s2,ba]; rfl
    have e:F38 N chs cs (c :: r)=some (g.num,g.den,0):=by unfold F38; rw [E,ba,if_pos rfl,g1,ba]; dsimp only; rw [if_neg (by omega)]
    have s:F52 N chs cs (c :: r)=some 48:=by unfold F52; rw [e,ba]; rfl
    have J:=F36_eq N chs cs (c :: r) best hg hc (by omega) (by omega)
    rw [if_pos hsh] at J
    obtain ⟨e4,h47',h48'⟩:=F47_F48 N chs cs (c :: r) 0 (c.fr :: (nn cs g (c :: r) c.fr).2.1) g (by omega) (by
      have:=hw.2.1.2.1.2; omega) (by omega) (by omega)
    obtain ⟨e5,h47'',e6⟩:=F47_eq N chs cs (c :: r) 0 (c.fr :: (nn cs g (c :: r) c.fr).2.1) g hg hc (by omega)
    have e7:e4=0:=by
      rw [h47'] at h47''; injection h47'' with h; rw [h]; exact e6.2 hw
    subst e7
    rcases F51_eq N chs cs (c :: r) hg hc (by omega) with ⟨x',y',j,w1,w2,w3,w4⟩ | ⟨j,_⟩
    · exact absurd w4 (no_crowd hsh ⟨w1,w2,w3⟩)
    unfold F37
    rw [d,ba,ba,e,ba,B,ba,C,ba,F41_self N _ hgl (by omega),ba,if_pos rfl]
    unfold F5j2
    rw [F42_self N o (by omega) (by omega),ba,if_pos rfl]
    unfold F5j3
    dsimp only at i ⊢
    unfold F49 F50
    simp only [if_true,D,m,t,u,A,i,d,j,s,ba,decide_true,Bool.and_true]
    unfold F5j4
    dsimp only
    rw [if_pos rfl,J,ba]
    dsimp only
    rw [if_pos rfl,h48',ba,if_pos rfl]
    have hall:∀ x∈dy cs (c :: r) best,smG x∧¬ mt g x:=fun x hx=>by
      refine ⟨(gains_sm H.v H.n H.k x hx).1,?_⟩
      have:=s3.least
      unfold leastL at this
      cases hq:dy cs (c :: r) best with
      | nil=>rw [hq] at hx; cases hx
      | cons p q =>
        rw [hq] at this hx
        rw [this]
        exact lstG_least q p (fun z hz=>by have:=ob (gains_low H.v H.n H.k z (by rw [hq]; exact hz)); omega) x hx
    exact F5l6_eq g 0 (dy cs (c :: r) best,0) () hsm hall (by simp [dy]; simp at hl; omega) N 0 false (by simp) (by simp [dy]; simp at hl; omega) (.inr hmem)
theorem shares4 (chs:List Ch) (cs:List Ce) (l:List Cl) (hn:l.length≤9223372036854775807) (ds:List Dr) (a b f:Int) (ns:List Int) (hns:ns.length≤9223372036854775807) (q1 q2:Int):F5 (10000000000000000000+60) chs cs l ds a b f ns q1 q2=some true:=by
  unfold F5
  rw [sane4,ba,if_pos rfl]
  by_cases hg:okG chs cs
  · by_cases hc:okC cs l
    · exact shares_ok _ chs cs l ds a b f ns q1 q2 hns (by omega) hg hc
    exact shares_bad _ chs cs l ds a b f ns q1 q2 hn hns (by omega) (by omega) 44 (.inr ⟨rfl,hg,hc⟩)
  exact shares_bad _ chs cs l ds a b f ns q1 q2 hn hns (by omega) (by omega) 42 (.inl ⟨rfl,hg⟩)
end Go.K
end
