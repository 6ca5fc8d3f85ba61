/- Y1, Y2, Y3, Y4, Y5, Y6. -/
import Derived.Test.YtinkdlmimiefaaaGreatPD
import Derived.Test.YtinkdlmimiefaaaGreatPM5a
import Derived.KernelRfl
import Derived.Test.YtinkdlmimiefaaaGreatPM14
import Derived.Test.YtinkdlmimiefaaaGreatPM15
import Derived.Test.YtinkdlmimiefaaaGreatPG10
set_option linter.unusedVariables false
set_option linter.unusedSimpArgs false
section
namespace Go.K
open Go.RowKit
theorem ba {α β:Type} (x:α) (k:α→Option β):bp (some x) k=k x:=rfl
theorem du {β:Type} {p:Prop} [Decidable p] {k:Option β} (h:p):gdO p k=k:=if_pos h
theorem dr {β:Type} {n:Int} {k:Option β} (h:InR n):ckO n k=k:=if_pos h
theorem eh (i:Nat):(i:Int)+1=((i+1:Nat):Int):=by omega
theorem gv {α:Type} (l:List α) (i:Nat):(l.length≤i∧l.drop i=[])∨∃ x,i < l.length∧l[i]?=some x∧l.drop i=x :: l.drop (i+1):=by
  rcases Nat.lt_or_ge i l.length with h | h
  · exact .inr ⟨l[i],h,List.getElem?_eq_getElem h,List.drop_eq_getElem_cons h⟩
  exact .inl ⟨h,List.drop_eq_nil_of_le h⟩
theorem F79_eq (r:Rg):F79 r=some (cu r.lo r.hi):=by
  unfold F79 cu
  by_cases h1:0≤r.lo <;> by_cases h2:r.lo≤r.hi <;> by_cases h3:r.hi≤10000 <;> simp [h1,h2,h3]
theorem F80_eq (a b c:Int):F80 a b c=some (inB a b c):=by
  unfold F80 inB
  by_cases h1:b≤a <;> by_cases h2:a≤c <;> simp [h1,h2]
theorem F83_eq (s h:Int):F83 s h=some (inB s 1 99999 && dx h):=by
  unfold F83; simp only [F80_eq,ba]
  by_cases h1:inB s 1 99999=true
  · rw [if_pos h1,h1]; rfl
  rw [if_neg h1,Bool.eq_false_iff.2 h1]; rfl
theorem F140_eq (n:Int):F140 n=some (ci n):=by
  unfold F140; rw [F80_eq]; rfl
theorem isDayB_iff (n:Int):ci n=true↔0≤n∧n≤4166:=by
  unfold ci; simp
theorem F84_eq (k u:Int):F84 k u=some (ci k && (decide (u=0) || decide (k < u) && ci u)):=by
  unfold F84; rw [F140_eq,ba]
  by_cases h1:ci k=true
  · rw [if_pos h1,h1,Bool.true_and]
    have h2:=(isDayB_iff k).1 h1
    by_cases h3:u=0
    · rw [if_pos h3,decide_eq_true h3]; rfl
    rw [if_neg h3,dr (by unfold InR; omega),F80_eq,ba,decide_eq_false h3,Bool.false_or]
    congr 1; unfold inB ci
    by_cases h4:k < u
    · rw [decide_eq_true h4,decide_eq_true (show k+1≤u by omega),decide_eq_true (show 0≤u by omega)]; simp
    rw [decide_eq_false h4,decide_eq_false (show ¬ k+1≤u by omega)]; rfl
  rw [if_neg h1,Bool.eq_false_iff.2 h1]; rfl
theorem F147_eq (k u d:Int):F147 k u d=some (bo k u d):=by
  unfold F147 bo
  by_cases h1:k≤d <;> by_cases h2:u=0 <;> by_cases h3:d < u <;> simp [h1,h2,h3]
theorem F25_eq (x:Ld):F25 x=some (okL 10 x):=by
  unfold F25 okL cg fk df
  simp only [F83_eq,F79_eq,F84_eq,ba,inB]
  generalize dx x.hr=a; generalize cu x.lo x.hi=b; generalize ci x.kn=c; generalize (decide (x.un=0) || decide (x.kn < x.un) && ci x.un)=d
  generalize decide (1≤x.src)=e; generalize decide (x.src≤99999)=f
  cases a <;> cases b <;> cases c <;> cases d <;> cases e <;> cases f <;> rfl
theorem F27_eq (x:Ld):F27 x=some (okL 11 x):=by
  unfold F27 okL cg fk df
  simp only [F83_eq,F79_eq,F84_eq,ba,inB]
  generalize dx x.hr=a; generalize cu x.lo x.hi=b; generalize ci x.kn=c; generalize (decide (x.un=0) || decide (x.kn < x.un) && ci x.un)=d
  generalize decide (1≤x.src)=e; generalize decide (x.src≤99999)=f
  cases a <;> cases b <;> cases c <;> cases d <;> cases e <;> cases f <;> rfl
theorem F29_eq (x:Sp):F29 x=some (okS x):=by
  have hk:inB x.kd 1 2=(decide (x.kd=1) || decide (x.kd=2)):=by
    rw [Bool.eq_iff_iff]; unfold inB; simp; omega
  have ht:(dx x.fr && inB x.to x.fr 99999)=(dx x.fr && (dx x.to && decide (x.fr≤x.to))):=by
    rw [Bool.eq_iff_iff]; unfold inB dx; simp; omega
  unfold F29 okS cg dq df
  simp only [F83_eq,F80_eq,F84_eq,ba]
  rw [hk]
  generalize inB x.to x.fr 99999=t at ht ⊢
  have hi:inB x.src 1 99999=(decide (1≤x.src) && decide (x.src≤99999)):=rfl
  rw [hi]
  generalize dx x.fr=a at ht ⊢; generalize dx x.to=b at ht ⊢; generalize ci x.kn=c; generalize (decide (x.un=0) || decide (x.kn < x.un) && ci x.un)=d
  generalize decide (1≤x.src)=e; generalize decide (x.src≤99999)=f; generalize (decide (x.kd=1) || decide (x.kd=2))=q; generalize decide (x.fr≤x.to)=z at ht ⊢
  revert ht
  cases a <;> cases b <;> cases c <;> cases d <;> cases e <;> cases f <;> cases q <;> cases z <;> cases t <;> simp
theorem F59l1_eq (l:List Int) (p:Int) (hl:l.length≤100000):∀ (m i:Nat),i≤l.length→l.length < m+i→F59l1 l p m (i:Int)=some (decide (p∈l.drop i)):=by
  intro m
  induction m with
  | zero=>intro i h0 h; exfalso; omega
  | succ m ih =>
    intro i h0 h
    show F59b1 l p (F59l1 l p m) (i:Int)=_
    unfold F59b1
    rcases gv l i with ⟨hi,e⟩ | ⟨x,hi,hx,e⟩
    · rw [if_neg (by omega),e]; rfl
    rw [if_pos (by omega),du (by omega),Int.toNat_natCast,hx,ba,e]
    by_cases hp:x=p
    · rw [if_pos hp,decide_eq_true (by rw [hp]; exact List.mem_cons_self)]
    rw [if_neg hp,dr (by unfold InR; omega),eh,ih (i+1) (by omega) (by omega)]
    congr 1
    by_cases hq:p∈l.drop (i+1)
    · rw [decide_eq_true hq,decide_eq_true (List.mem_cons_of_mem _ hq)]
    rw [decide_eq_false hq,decide_eq_false (fun h=>(List.mem_cons.1 h).elim (fun h=>hp h.symm) hq)]
theorem F59_eq (l:List Int) (p:Int) (hl:l.length≤100000) (N:Nat) (hN:l.length < N):F59 N l p=some (decide (p∈l)):=by
  have:=F59l1_eq l p hl N 0 (by omega) (by omega)
  exact this
end Go.K
end
section
namespace Go.K
open Go.RowKit
def leH (x y:Ld):Bool:=decide (y.hr≤x.hr)
def insL (x:Ld) (acc:List Ld):List Ld:=acc.takeWhile (leH x)++[x]++acc.dropWhile (leH x)
theorem take_while {α:Type} (q:α→Bool) (l:List α):l.take (l.takeWhile q).length=l.takeWhile q:=by
  induction l with
  | nil=>rfl
  | cons a l ih =>
    by_cases h:q a=true
    · rw [List.takeWhile_cons_of_pos h,List.length_cons,List.take_succ_cons,ih]
    rw [List.takeWhile_cons_of_neg h]; rfl
theorem drop_while {α:Type} (q:α→Bool) (l:List α):l.drop (l.takeWhile q).length=l.dropWhile q:=by
  induction l with
  | nil=>rfl
  | cons a l ih =>
    by_cases h:q a=true
    · rw [List.takeWhile_cons_of_pos h,List.length_cons,List.drop_succ_cons,ih,List.dropWhile_cons_of_pos h]
    rw [List.takeWhile_cons_of_neg h,List.dropWhile_cons_of_neg h]; rfl
theorem while_le {α:Type} (q:α→Bool) (l:List α):(l.takeWhile q).length≤l.length:=(List.takeWhile_sublist q).length_le
theorem insL_len (x:Ld) (acc:List Ld):(insL x acc).length=acc.length+1:=by
  have h:(acc.takeWhile (leH x)).length+(acc.dropWhile (leH x)).length=acc.length:=by
    rw [← List.length_append,List.takeWhile_append_dropWhile]
  unfold insL; rw [List.length_append,List.length_append,List.length_singleton]; omega
theorem F104j3_eq (rec1:List Ld→Int→Option (List Ld)) (out:List Ld) (i n:Nat) (x:Ld) (hn:n≤out.length) (ho:out.length≤100000) (hi:i≤100000) :
    F104j3 rec1 out (i:Int) x (n:Int)=rec1 (out.take n++[x]++out.drop n) ((i+1:Nat):Int):=by
  have h1:=List.length_take (l:=out) (i:=n)
  have h2:=List.length_drop (l:=out) (i:=n)
  unfold F104j3 F104j2
  simp only [Int.toNat_natCast]
  rw [du (by omega),du hn,du (by omega),du (by omega),du (by rw [List.length_append,List.length_singleton]; omega),dr (by unfold InR; omega),eh]
theorem F104l4_eq (rec1:List Ld→Int→Option (List Ld)) (out:List Ld) (i:Int) (x:Ld) (ho:out.length≤100000):∀ (m a:Nat),a≤out.length→out.length < m+a →
    F104l4 rec1 out i x m (a:Int)=F104j3 rec1 out i x ((a+((out.drop a).takeWhile (leH x)).length:Nat):Int):=by
  intro m
  induction m with
  | zero=>intro a h0 h; exfalso; omega
  | succ m ih =>
    intro a h0 h
    show F104b4 rec1 out i x (F104l4 rec1 out i x m) (a:Int)=_
    unfold F104b4 F104j5
    rcases gv out a with ⟨hi,e⟩ | ⟨y,hi,hy,e⟩
    · rw [if_neg (by omega),e]; rfl
    rw [if_pos (by omega),du (by omega),Int.toNat_natCast,hy,ba,e]
    by_cases hp:y.hr≤x.hr
    · rw [if_pos hp,dr (by unfold InR; omega),eh,ih (a+1) (by omega) (by omega),List.takeWhile_cons_of_pos (show leH x y=true from decide_eq_true hp),List.length_cons]
      congr 1; omega
    rw [if_neg hp,List.takeWhile_cons_of_neg (show ¬ leH x y=true from fun h=>hp (of_decide_eq_true h))]; rfl
theorem F104l1_eq (l:List Ld) (p:Int) (N:Nat):∀ (m i:Nat) (out:List Ld),i≤l.length→l.length < m+i→out.length+(l.length - i)≤50000→out.length+(l.length - i) < N→l.length≤50000 →
    F104l1 l p N m out (i:Int)=some (((l.drop i).filter fun x=>bo x.kn x.un p).foldl (fun acc x=>insL x acc) out):=by
  intro m
  induction m with
  | zero=>intro i out h0 h; exfalso; omega
  | succ m ih =>
    intro i out h0 h hb hN hl
    show F104b1 l p N (F104l1 l p N m) out (i:Int)=_
    unfold F104b1
    rcases gv l i with ⟨hi,e⟩ | ⟨x,hi,hx,e⟩
    · rw [if_neg (by omega),e]; rfl
    rw [if_pos (by omega),du (by omega),Int.toNat_natCast,hx,ba,e,F147_eq,ba]
    by_cases hp:bo x.kn x.un p=true
    · have h4:=F104l4_eq (F104l1 l p N m) out (i:Int) x (by omega) N 0 (by omega) (by omega)
      rw [Nat.zero_add,List.drop_zero] at h4
      have h4':F104l4 (F104l1 l p N m) out (i:Int) x N 0=_:=h4
      rw [if_pos hp,h4',F104j3_eq _ out i _ x (while_le _ _) (by omega) (by omega),take_while,drop_while,List.filter_cons_of_pos (p:=fun x:Ld=>bo x.kn x.un p) hp]
      have h5:=insL_len x out
      exact ih (i+1) (insL x out) (by omega) (by omega) (by omega) (by omega) hl
    rw [if_neg hp,List.filter_cons_of_neg (p:=fun x:Ld=>bo x.kn x.un p) hp]
    unfold F104j2
    rw [dr (by unfold InR; omega),eh]
    exact ih (i+1) out (by omega) (by omega) (by omega) (by omega) hl
def Up (l:List Ld):Prop:=l.Pairwise fun x y=>x.hr≤y.hr
theorem up_while {l:List Ld} (h:Up l) (x:Ld):(∀ y∈l.takeWhile (leH x),y.hr≤x.hr)∧∀ y∈l.dropWhile (leH x),x.hr < y.hr:=by
  induction l with
  | nil=>exact ⟨fun y h=>absurd h (by simp),fun y h=>absurd h (by simp)⟩
  | cons a l ih =>
    have h':=List.pairwise_cons.1 h
    by_cases hp:a.hr≤x.hr
    · have hq:leH x a=true:=decide_eq_true hp
      rw [List.takeWhile_cons_of_pos hq,List.dropWhile_cons_of_pos hq]
      refine ⟨fun y hy=>?_,(ih h'.2).2⟩
      rcases List.mem_cons.1 hy with rfl | hy
      · exact hp
      exact (ih h'.2).1 y hy
    have hq:¬ leH x a=true:=fun h=>hp (of_decide_eq_true h)
    rw [List.takeWhile_cons_of_neg hq,List.dropWhile_cons_of_neg hq]
    refine ⟨fun y h=>absurd h (by simp),fun y hy=>?_⟩
    rcases List.mem_cons.1 hy with rfl | hy
    · omega
    have:=h'.1 y hy; omega
theorem while_rev {α:Type} (q:α→Bool) (A B:List α) (hA:∀ y∈A,q y=false) (hB:∀ y∈B,q y=true):(A++B).reverse.takeWhile q=B.reverse∧(A++B).reverse.dropWhile q=A.reverse:=by
  rw [List.reverse_append]
  have hB':∀ y∈B.reverse,q y=true:=fun y hy=>hB y (List.mem_reverse.1 hy)
  have hA':∀ y∈A.reverse,q y=false:=fun y hy=>hA y (List.mem_reverse.1 hy)
  generalize A.reverse=A at hA' ⊢; generalize B.reverse=B at hB' ⊢
  induction B with
  | nil =>
    rw [List.nil_append]
    cases A with
    | nil=>exact ⟨rfl,rfl⟩
    | cons a A =>
      have h:¬ q a=true:=by rw [hA' a List.mem_cons_self]; decide
      rw [List.takeWhile_cons_of_neg h,List.dropWhile_cons_of_neg h]; exact ⟨rfl,rfl⟩
  | cons b B ih =>
    have h:=hB' b List.mem_cons_self
    rw [List.cons_append,List.takeWhile_cons_of_pos h,List.dropWhile_cons_of_pos h]
    have:=ih (fun y hy=>hB' y (List.mem_cons_of_mem _ hy))
    exact ⟨by rw [this.1],this.2⟩
theorem insL_insR {acc:List Ld} (h:Up acc) (x:Ld):insL x acc=insR x acc:=by
  have hw:=up_while h x
  have hr:=while_rev (fun y:Ld=>decide (x.hr < y.hr)) (acc.takeWhile (leH x)) (acc.dropWhile (leH x)) (fun y hy=>decide_eq_false (by have:=hw.1 y hy; omega)) (fun y hy=>decide_eq_true (hw.2 y hy))
  rw [List.takeWhile_append_dropWhile] at hr
  unfold insL insR
  rw [hr.1,hr.2,List.reverse_reverse,List.reverse_reverse]
theorem insL_up {acc:List Ld} (h:Up acc) (x:Ld):Up (insL x acc):=by
  have hw:=up_while h x
  have hs:Up (acc.takeWhile (leH x)++acc.dropWhile (leH x)):=by rw [List.takeWhile_append_dropWhile]; exact h
  have hs':=List.pairwise_append.1 hs
  unfold insL Up
  rw [List.append_assoc]
  refine List.pairwise_append.2 ⟨hs'.1,List.pairwise_append.2 ⟨List.pairwise_singleton _ _,hs'.2.1,fun a ha b hb=>?_⟩,fun a ha b hb=>?_⟩
  · rcases List.mem_singleton.1 ha with rfl; have:=hw.2 b hb; omega
  rcases List.mem_append.1 hb with hb | hb
  · rcases List.mem_singleton.1 hb with rfl; exact hw.1 a ha
  exact hs'.2.2 a ha b hb
theorem fold_ins (l:List Ld):∀ acc:List Ld,Up acc→l.foldl (fun acc x=>insL x acc) acc=l.foldl (fun acc x=>insR x acc) acc:=by
  induction l with
  | nil=>intro acc _; rfl
  | cons x l ih =>
    intro acc h
    rw [List.foldl_cons,List.foldl_cons,← insL_insR h x]
    exact ih _ (insL_up h x)
theorem F104_eq (N:Nat) (a b:Int) (l st:List Ld) (sp:List Sp) (g p:Int) (hl:l.length≤50000) (hN:l.length < N):F104 N a b l st sp g p=some (ed (l.filter fun x=>bo x.kn x.un p)):=by
  unfold F104
  have h:=F104l1_eq l p N N 0 [] (by omega) (by omega) (by simpa using hl) (by simpa using hN) hl
  rw [List.drop_zero,fold_ins _ [] List.Pairwise.nil] at h
  exact h
end Go.K
end
section
namespace Go.K
open Go.RowKit
theorem F105_eq (a b:Rg):F105 a b=some ((er a b).lo,(er a b).hi):=rfl
theorem F100l1_eq (l:List Ld) (h:Int) (hl:l.length≤100000):∀ (m i:Nat),i≤l.length→l.length < m+i→F100l1 l h m (i:Int)=some ((i+dz (l.drop i) h:Nat):Int):=by
  intro m
  induction m with
  | zero=>intro i h0 h; exfalso; omega
  | succ m ih =>
    intro i h0 h1
    show F100b1 l h (F100l1 l h m) (i:Int)=_
    unfold F100b1
    rcases gv l i with ⟨hi,e⟩ | ⟨x,hi,hx,e⟩
    · rw [if_neg (by omega),e]; rfl
    rw [if_pos (by omega),du (by omega),Int.toNat_natCast,hx,ba,e]
    unfold dz
    by_cases hp:x.hr≤h
    · rw [if_pos hp,dr (by unfold InR; omega),eh,ih (i+1) (by omega) (by omega),List.takeWhile_cons_of_pos (by simpa using hp),List.length_cons]
      unfold dz; congr 1; omega
    rw [if_neg hp,List.takeWhile_cons_of_neg (by simpa using hp)]; rfl
theorem F100_eq (N:Nat) (l:List Ld) (b:List Rg) (h:Int) (hl:l.length≤100000) (hN:l.length < N):F100 N l b h=some ((dz l h:Nat):Int):=by
  have:=F100l1_eq l h hl N 0 (by omega) (by omega)
  rw [Nat.zero_add,List.drop_zero] at this
  exact this
theorem ko (l:List Ld) (h:Int):dz l h≤l.length:=(List.takeWhile_sublist _).length_le
theorem F109l2_eq (st:List Ld) (dy:Int) (N:Nat) (cs:List Ld) (hc:cs.length≤100000) (hN:cs.length < N) (hs:st.length≤100000):∀ (m i:Nat) (u:List Rg),u.length=cs.length+1→i≤st.length→st.length < m+i →
    F109l2 st dy N cs m u (i:Int)=some (cs,((st.drop i).filter fun x=>bo x.kn x.un dy).foldl (gk cs) u):=by
  intro m
  induction m with
  | zero=>intro i u hu h0 h; exfalso; omega
  | succ m ih =>
    intro i u hu h0 h1
    show F109b2 st dy N cs (F109l2 st dy N cs m) u (i:Int)=_
    unfold F109b2 F109j3
    rcases gv st i with ⟨hi,e⟩ | ⟨x,hi,hx,e⟩
    · rw [if_neg (by omega),e]; rfl
    rw [if_pos (by omega),du (by omega),Int.toNat_natCast,hx,ba,e,F147_eq,ba]
    by_cases hp:bo x.kn x.un dy=true
    · have hk:=ko cs x.hr
      have hu':u[dz cs x.hr]?=some (u.getD (dz cs x.hr) ⟨0,0⟩):=by
        rw [List.getD_eq_getElem?_getD,List.getElem?_eq_getElem (show dz cs x.hr < u.length by omega)]; rfl
      rw [if_pos hp,F100_eq N cs u x.hr hc hN,ba,du (by omega),Int.toNat_natCast,hu',ba,F105_eq,ba,dr (by unfold InR; omega),eh,
        List.filter_cons_of_pos (p:=fun x:Ld=>bo x.kn x.un dy) hp,List.foldl_cons]
      exact ih (i+1) _ (by rw [List.length_set]; exact hu) (by omega) (by omega)
    rw [if_neg hp,dr (by unfold InR; omega),eh,List.filter_cons_of_neg (p:=fun x:Ld=>bo x.kn x.un dy) hp]
    exact ih (i+1) u hu (by omega) (by omega)
theorem F109l4_eq (st:List Ld) (dy:Int) (N:Nat) (cs:List Ld) (hc:cs.length≤100000):∀ (m i:Nat) (u:List Rg),u.length=i+1→i≤cs.length→cs.length < m+i →
    F109l4 st dy N cs m u (i:Int)=F109j1 st dy N cs (u++List.replicate (cs.length - i) ⟨0,10000⟩):=by
  intro m
  induction m with
  | zero=>intro i u hu h0 h; exfalso; omega
  | succ m ih =>
    intro i u hu h0 h1
    show F109b4 st dy N cs (F109l4 st dy N cs m) u (i:Int)=_
    unfold F109b4
    by_cases hi:i < cs.length
    · rw [if_pos (by omega),du (by omega),dr (by unfold InR; omega),eh,ih (i+1) _ (by rw [List.length_append,hu]; rfl) (by omega) (by omega),List.append_assoc,
        show cs.length - i=(cs.length - (i+1))+1 by omega,List.replicate_succ]; rfl
    rw [if_neg (by omega),show cs.length - i=0 by omega,List.replicate_zero,List.append_nil]
theorem F109_all (N:Nat) (p:Pl) (dy:Int) (bl:List Int) (hl:p.loads.length≤50000) (hs:p.stands.length≤50000) (hN:p.loads.length < N) (hN2:p.stands.length < N) :
    F109 N p.lo p.hi p.loads p.stands p.spells p.geese dy true bl=some (ax p dy,bj (ae p dy) (ax p dy)):=by
  have hc:(ax p dy).length≤p.loads.length:=by
    unfold ax; rw [fm]; exact List.length_filter_le _ _
  unfold F109
  rw [if_pos rfl,F104_eq N _ _ _ _ _ _ _ hl hN,ba,du (by omega)]
  have h4:=F109l4_eq p.stands dy N (ax p dy) (by omega) N 0 [⟨p.lo,p.hi⟩] rfl (by omega) (by omega)
  rw [Nat.sub_zero] at h4
  refine Eq.trans h4 ?_
  unfold F109j1
  have h2:=F109l2_eq p.stands dy N (ax p dy) (by omega) (by omega) (by omega) N 0 ([⟨p.lo,p.hi⟩]++List.replicate (ax p dy).length ⟨0,10000⟩) (by simp) (by omega) (by omega)
  rw [List.drop_zero] at h2
  exact h2
end Go.K
end
section
namespace Go.K
open Go.RowKit
theorem meetF_comm (a b:Rg):er a b=er b a:=by
  unfold er
  congr 1
  · by_cases h1:b.lo > a.lo <;> by_cases h2:a.lo > b.lo <;> simp [h1,h2] <;> omega
  by_cases h1:b.hi < a.hi <;> by_cases h2:a.hi < b.hi <;> simp [h1,h2] <;> omega
theorem meetF_bd {M:Int} {a b:Rg} (ha:Bd M a) (hb:Bd M b):Bd M (er a b):=by
  have:=ha.a; have:=ha.b; have:=ha.c; have:=ha.d; have:=hb.a; have:=hb.b; have:=hb.c; have:=hb.d
  unfold er
  refine ⟨?_,?_,?_,?_⟩ <;> dsimp only <;> split <;> assumption
theorem Bd.up {M M':Int} {r:Rg} (h:Bd M r) (hm:M≤M'):Bd M' r:=by
  have:=h.a; have:=h.b; have:=h.c; have:=h.d
  exact ⟨by omega,by omega,by omega,by omega⟩
theorem pfF_bd {M:Int} {x:Ld} {b:Bool} {r:Rg} (hx:Fd x) (h:Bd M r):Bd (M+10000) (pfF ⟨b,x⟩ r):=by
  have:=h.a; have:=h.b; have:=h.c; have:=h.d; have:=hx.a; have:=hx.b; have:=hx.c; have:=hx.d
  cases b
  · exact ⟨by show _≤r.lo - x.hi; omega,by show r.lo - x.hi≤_; omega,by show _≤r.hi - x.lo; omega,by show r.hi - x.lo≤_; omega⟩
  exact ⟨by show _≤r.lo+x.lo; omega,by show r.lo+x.lo≤_; omega,by show _≤r.hi+x.hi; omega,by show r.hi+x.hi≤_; omega⟩
theorem F120l5_eq (cs:List Ld) (N:Nat) (hc:cs.length≤10000) (hx:∀ x∈cs,Fd x):∀ (m:Nat) (A:List Rg) (q:Rg) (bs:List Rg),A.length+bs.length=cs.length→cs.length < m+A.length →
    Bd (10000 * (A.length+1:Nat)) q→(∀ b∈bs,Bd 10000 b) →
    F120l5 cs N m (A++q :: bs) (A.length:Int)=F120j1 cs N (A++q :: gi q bs ((cs.drop A.length).map (Pf.mk false))):=by
  intro m
  induction m with
  | zero=>intro A q bs h0 h; exfalso; omega
  | succ m ih =>
    intro A q bs h0 h1 hq hb
    show F120b5 cs N (F120l5 cs N m) (A++q :: bs) (A.length:Int)=_
    unfold F120b5
    rcases gv cs A.length with ⟨hi,e⟩ | ⟨x,hi,hxx,e⟩
    · have hz:bs=[]:=List.eq_nil_of_length_eq_zero (by omega)
      rw [if_neg (by omega),e,hz]; rfl
    cases bs with
    | nil=>rw [List.length_nil] at h0; exfalso; omega
    | cons b bs =>
      rw [List.length_cons] at h0
      have hF:=hx x (List.mem_of_getElem? hxx)
      have hB:=hb b List.mem_cons_self
      have hP:=pfF_bd (b:=false) hF hq
      have e1:(A++q :: b :: bs)[A.length]?=some q:=by rw [List.getElem?_append_right (Nat.le_refl _),Nat.sub_self]; rfl
      have e2:(A++q :: b :: bs)[A.length+1]?=some b:=by rw [List.getElem?_append_right (by omega),show A.length+1 - A.length=1 by omega]; rfl
      have e3:∀ r,(A++q :: b :: bs).set (A.length+1) r=(A++[q])++r :: bs:=by
        intro r
        rw [List.set_append_right _ _ (by omega),show A.length+1 - A.length=1 by omega,List.append_assoc]; rfl
      have:=hq.a; have:=hq.b; have:=hq.c; have:=hq.d; have:=hF.a; have:=hF.b; have:=hF.c; have:=hF.d
      rw [if_pos (by omega),du (by omega),Int.toNat_natCast,hxx,ba,dr (by unfold InR; omega),du (by omega),eh,Int.toNat_natCast,e2,ba,e1,ba,
        dr (by unfold InR; omega),dr (by unfold InR; omega),F105_eq,ba,e3]
      have hlen:(A++[q]).length=A.length+1:=by rw [List.length_append]; rfl
      have hnew:Bd (10000 * ((A++[q]).length+1:Nat)) (er b ⟨q.lo - x.hi,q.hi - x.lo⟩):=by
        rw [hlen]
        exact meetF_bd (hB.up (by omega)) (hP.up (by omega))
      have h5:=ih (A++[q]) (er b ⟨q.lo - x.hi,q.hi - x.lo⟩) bs (by omega) (by omega) hnew (fun b hb'=>hb b (List.mem_cons_of_mem _ hb'))
      rw [hlen] at h5
      refine Eq.trans h5 ?_
      rw [e,List.map_cons,List.append_assoc,meetF_comm]
      rfl
theorem F120l4_eq (cs:List Ld) (N:Nat) (hc:cs.length≤10000) (hx:∀ x∈cs,Fd x):∀ (m:Nat) (R:List Rg) (q:Rg) (D:List Rg),R.length≤cs.length→R.length < m →
    Bd (10000 * (cs.length+1:Nat)+10000 * (cs.length - R.length:Nat)) q→(∀ b∈R,Bd (10000 * (cs.length+1:Nat)) b) →
    F120l4 cs N m (R.reverse++q :: D) ((R.length:Int) - 1)=F120j2 N ((gi q R ((cs.take R.length).reverse.map (Pf.mk true))).reverse++q :: D):=by
  intro m
  induction m with
  | zero=>intro R q D h0 h; exfalso; omega
  | succ m ih =>
    intro R q D h0 h1 hq hb
    show F120b4 cs N (F120l4 cs N m) (R.reverse++q :: D) ((R.length:Int) - 1)=_
    unfold F120b4
    cases R with
    | nil=>rw [if_neg (by simp)]; rfl
    | cons b R =>
      rw [List.length_cons] at h0 h1 hq ⊢
      have hcs:cs[R.length]?=some cs[R.length]:=List.getElem?_eq_getElem (by omega)
      generalize cs[R.length]=x at hcs
      have hF:=hx x (List.mem_of_getElem? hcs)
      have hB:=hb b List.mem_cons_self
      have hP:=pfF_bd (b:=true) hF hq
      have eu:(b :: R).reverse++q :: D=R.reverse++b :: q :: D:=by rw [List.reverse_cons,List.append_assoc]; rfl
      have hr:R.reverse.length=R.length:=List.length_reverse
      have e1:(R.reverse++b :: q :: D)[R.length]?=some b:=by rw [List.getElem?_append_right (by omega),hr,Nat.sub_self]; rfl
      have e2:(R.reverse++b :: q :: D)[R.length+1]?=some q:=by rw [List.getElem?_append_right (by omega),hr,show R.length+1 - R.length=1 by omega]; rfl
      have e3:∀ r,(R.reverse++b :: q :: D).set R.length r=R.reverse++r :: q :: D:=by
        intro r
        rw [List.set_append_right _ _ (by omega),hr,Nat.sub_self]; rfl
      have hv:((R.length+1:Nat):Int) - 1=(R.length:Int):=by omega
      have:=hq.a; have:=hq.b; have:=hq.c; have:=hq.d; have:=hF.a; have:=hF.b; have:=hF.c; have:=hF.d
      rw [hv,eu,if_pos (by omega),Int.toNat_natCast,hcs,ba,e1,ba,dr (by unfold InR; omega),du (by omega),eh,Int.toNat_natCast,e2,ba,
        dr (by unfold InR; omega),dr (by unfold InR; omega),F105_eq,ba,e3,dr (by unfold InR; omega)]
      have hnew:Bd (10000 * (cs.length+1:Nat)+10000 * (cs.length - R.length:Nat)) (er b ⟨q.lo+x.lo,q.hi+x.hi⟩) :=
        meetF_bd (hB.up (by omega)) (hP.up (by omega))
      refine Eq.trans (ih R (er b ⟨q.lo+x.lo,q.hi+x.hi⟩) (q :: D) (by omega) (by omega) hnew (fun b hb'=>hb b (List.mem_cons_of_mem _ hb'))) ?_
      have ht:cs.take (R.length+1)=cs.take R.length++[x]:=by
        rw [List.take_add_one,hcs]; rfl
      rw [ht,List.reverse_append,List.reverse_singleton,List.singleton_append,List.map_cons,meetF_comm]
      show _=F120j2 N ((er (pfF ⟨true,x⟩ q) b :: gi (er (pfF ⟨true,x⟩ q) b) R _).reverse++q :: D)
      rw [List.reverse_cons,List.append_assoc]
      rfl
theorem F120l3_eq (u:List Rg) (hu:u.length≤100000):∀ (m i:Nat),i≤u.length→u.length < m+i→F120l3 u m (i:Int)=some (u,(u.drop i).all fun r=>decide (r.lo≤r.hi)):=by
  intro m
  induction m with
  | zero=>intro i h0 h; exfalso; omega
  | succ m ih =>
    intro i h0 h1
    show F120b3 u (F120l3 u m) (i:Int)=_
    unfold F120b3
    rcases gv u i with ⟨hi,e⟩ | ⟨x,hi,hxx,e⟩
    · rw [if_neg (by omega),e]; rfl
    rw [if_pos (by omega),du (by omega),Int.toNat_natCast,hxx,ba,e,List.all_cons]
    by_cases hp:x.hi < x.lo
    · rw [if_pos hp,decide_eq_false (by omega)]; rfl
    rw [if_neg hp,dr (by unfold InR; omega),eh,ih (i+1) (by omega) (by omega),decide_eq_true (by omega),Bool.true_and]
end Go.K
end
section
namespace Go.K
open Go.RowKit
def okR (r:Rg):Bool:=decide (r.lo≤r.hi)
def refF (bs:List Rg) (cs:List Ld):List Rg:=(cr (cr bs (cs.map (Pf.mk false))).reverse (cs.map (Pf.mk true)).reverse).reverse
theorem passL_bd {b:Bool}:∀ (cs:List Ld) (bs:List Rg) (p:Rg) (M:Int),(∀ x∈cs,Fd x)→Bd M p→10000≤M→(∀ r∈bs,Bd 10000 r)→∀ r∈gi p bs (cs.map (Pf.mk b)),Bd (M+10000 * (cs.length:Nat)) r:=by
  intro cs
  induction cs with
  | nil=>intro bs p M hx hp hM hb r hr; cases bs <;> exact absurd hr (by simp [gi])
  | cons x cs ih =>
    intro bs p M hx hp hM hb r hr
    cases bs with
    | nil=>exact absurd hr (by simp [gi])
    | cons c bs =>
      have hc:=hb c List.mem_cons_self
      have hm:Bd (M+10000) (er (pfF ⟨b,x⟩ p) c):=meetF_bd (pfF_bd (hx x List.mem_cons_self) hp) (hc.up (by omega))
      have hr':r∈er (pfF ⟨b,x⟩ p) c :: gi (er (pfF ⟨b,x⟩ p) c) bs (cs.map (Pf.mk b)):=hr
      rw [List.length_cons]
      rcases List.mem_cons.1 hr' with rfl | hr'
      · exact hm.up (by omega)
      exact (ih bs _ (M+10000) (fun y hy=>hx y (List.mem_cons_of_mem _ hy)) hm (by omega) (fun y hy=>hb y (List.mem_cons_of_mem _ hy)) r hr').up (by omega)
theorem F120_eq (N:Nat) (cs:List Ld) (bs:List Rg) (hlen:bs.length=cs.length+1) (hc:cs.length≤9000) (hx:∀ x∈cs,Fd x) (hb:∀ b∈bs,Bd 10000 b) (hN:cs.length+1 < N) :
    F120 N cs bs=some (refF bs cs,(refF bs cs).all okR):=by
  unfold F120
  rw [du (by omega)]
  cases bs with
  | nil=>rw [List.length_nil] at hlen; exfalso; omega
  | cons b0 bs =>
    rw [List.length_cons] at hlen
    have h7:=F120l5_eq cs N (by omega) hx N [] b0 bs (by simpa using hlen) (by simp; omega) ((hb b0 List.mem_cons_self).up (by simp)) (fun b h=>hb b (List.mem_cons_of_mem _ h))
    refine Eq.trans h7 ?_
    rw [List.length_nil,List.drop_zero,List.nil_append]
    have hu:cr (b0 :: bs) (cs.map (Pf.mk false))=b0 :: gi b0 bs (cs.map (Pf.mk false)):=rfl
    have hul:(cr (b0 :: bs) (cs.map (Pf.mk false))).length=cs.length+1:=by
      rw [jg (by rw [List.length_cons,List.length_map]; omega),List.length_cons]; omega
    have hub:∀ r∈cr (b0 :: bs) (cs.map (Pf.mk false)),Bd (10000 * (cs.length+1:Nat)) r:=by
      intro r hr
      rw [hu] at hr
      rcases List.mem_cons.1 hr with rfl | hr
      · exact (hb r List.mem_cons_self).up (by omega)
      exact (passL_bd cs bs b0 10000 hx (hb b0 List.mem_cons_self) (by omega) (fun b h=>hb b (List.mem_cons_of_mem _ h)) r hr).up (by omega)
    rw [← hu]
    unfold refF
    generalize cr (b0 :: bs) (cs.map (Pf.mk false))=u at hul hub
    unfold F120j1
    rw [dr (by unfold InR; omega)]
    obtain ⟨q,R,hR⟩:∃ q R,u.reverse=q :: R:=by
      cases h:u.reverse with
      | nil=>have:=congrArg List.length h; rw [List.length_reverse,List.length_nil] at this; omega
      | cons q R=>exact ⟨q,R,rfl⟩
    have hRl:R.length=cs.length:=by
      have:=congrArg List.length hR; rw [List.length_reverse,List.length_cons] at this; omega
    have hue:u=R.reverse++q :: []:=by
      have:=congrArg List.reverse hR; rw [List.reverse_reverse,List.reverse_cons] at this; exact this
    have hm:∀ r∈q :: R,r∈u:=fun r hr=>by rw [← hR] at hr; exact List.mem_reverse.1 hr
    have h5:=F120l4_eq cs N (by omega) hx N R q [] (by omega) (by omega) ((hub q (hm q List.mem_cons_self)).up (by omega)) (fun b h=>hub b (hm b (List.mem_cons_of_mem _ h)))
    rw [hRl,List.take_length,← hue] at h5
    refine Eq.trans h5 ?_
    rw [hR,List.map_reverse]
    have hz:(cr (q :: R) (cs.map (Pf.mk true)).reverse).reverse=(gi q R (cs.map (Pf.mk true)).reverse).reverse++[q]:=List.reverse_cons
    rw [hz]
    unfold F120j2
    have hl:((gi q R (cs.map (Pf.mk true)).reverse).reverse++[q]).length≤100000:=by
      rw [List.length_append,List.length_reverse,passL_len2 (by rw [List.length_reverse,List.length_map]; omega)]; simp; omega
    have hl':((gi q R (cs.map (Pf.mk true)).reverse).reverse++[q]).length < N:=by
      rw [List.length_append,List.length_reverse,passL_len2 (by rw [List.length_reverse,List.length_map]; omega)]; simp; omega
    exact F120l3_eq _ hl N 0 (by omega) (by omega)
end Go.K
end
section
namespace Go.K
open Go.RowKit
theorem within_rev {bs:List Rg} {ts:List Int} (h:iy bs ts) (hl:bs.length=ts.length):iy bs.reverse ts.reverse:=fun i r t h1 h2=>by
  have hi:=bu h1
  have hj:=bu h2
  rw [List.length_reverse] at hi hj
  rw [List.getElem?_reverse hi] at h1
  rw [List.getElem?_reverse hj,← hl] at h2
  exact h _ r t h1 h2
theorem steps_back {p:Pl} {cs:List Ld} {ts:List Int} (h:True_ p cs ts):Steps (cs.map (Pf.mk true)).reverse ts.reverse:=fun i f a b h1 h2 h3 r hr=>by
  have hi:=bu h1
  have hj:=bu h3
  simp only [List.length_reverse,List.length_map] at hi hj
  have hl:=h.len
  rw [List.getElem?_reverse (by simpa using hi),List.getElem?_map] at h1
  rw [List.getElem?_reverse (by omega)] at h2 h3
  simp only [List.length_map,Option.map_eq_some_iff] at h1
  obtain ⟨x,hx,rfl⟩:=h1
  have:=h.took (cs.length - 1 - i) x b a hx (by rw [← h3]; congr 1; omega) (by rw [← h2]; congr 1; omega)
  unfold Rng pfF at *
  simp only [cond_true]
  omega
theorem steps_on {p:Pl} {cs:List Ld} {ts:List Int} (h:True_ p cs ts):Steps (cs.map (Pf.mk false)) ts:=fun i f a b h1 h2 h3 r hr=>by
  rw [List.getElem?_map,Option.map_eq_some_iff] at h1
  obtain ⟨x,hx,rfl⟩:=h1
  have:=h.took i x a b hx h2 h3
  unfold Rng pfF at *
  simp only [cond_false]
  omega
theorem refF_len (p:Pl) (cs:List Ld):(refF (bj p cs) cs).length=cs.length+1:=by
  have hb:=gu p cs
  have l1:(cr (bj p cs) (cs.map (Pf.mk false))).length=cs.length+1:=by
    rw [jg (by simp [hb]),hb]
  unfold refF
  rw [List.length_reverse,jg (by simp [l1]),List.length_reverse,l1]
theorem refF_in {p:Pl} {cs:List Ld} {ts:List Int} (h:True_ p cs ts):(∀ r∈refF (bj p cs) cs,r.lo≤r.hi)∧iy (refF (bj p cs) cs) ts:=by
  have hb:=gu p cs
  have b1:=passF_in (bs:=bj p cs) (fs:=cs.map (Pf.mk false)) (ts:=ts) (by rw [h.len,hb]) (by simp [hb]) h.bnd (steps_on h)
  have b2:=passF_in (bs:=(cr (bj p cs) (cs.map (Pf.mk false))).reverse) (fs:=(cs.map (Pf.mk true)).reverse) (ts:=ts.reverse) (by simp [b1.2.1,hb,h.len]) (by simp [b1.2.1,hb]) (within_rev b1.2.2 (by rw [b1.2.1,hb,h.len])) (steps_back h)
  have y:=passF_yes (show (dd (cr (bj p cs) (cs.map (Pf.mk false))).reverse (cs.map (Pf.mk true)).reverse).2=true by rw [b2.1])
  refine ⟨fun r hr=>y.2 r (List.mem_reverse.1 hr),?_⟩
  have w:=within_rev b2.2.2 (by rw [b2.2.1,List.length_reverse,List.length_reverse,b1.2.1,hb,h.len])
  rw [List.reverse_reverse] at w
  exact w
theorem refF_ends {p:Pl} {cs:List Ld} (hx:∀ x∈cs,x.lo≤x.hi) (ho:∀ r∈refF (bj p cs) cs,r.lo≤r.hi) (most:Bool):True_ p cs (endsF most (refF (bj p cs) cs)):=by
  have hb:=gu p cs
  have hl:=refF_len p cs
  have l1:(cr (bj p cs) (cs.map (Pf.mk false))).length=cs.length+1:=by
    rw [jg (by simp [hb]),hb]
  have l2:(cr (cr (bj p cs) (cs.map (Pf.mk false))).reverse (cs.map (Pf.mk true)).reverse).length=cs.length+1:=by
    rw [jg (by simp [l1]),List.length_reverse,l1]
  have sk:∀ (i:Nat) (s:Rg),(refF (bj p cs) cs)[i]?=some s→∃ k,(cr (bj p cs) (cs.map (Pf.mk false)))[i]?=some k∧k.lo≤s.lo∧s.hi≤k.hi:=by
    intro i s hs
    have hi:=bu hs
    rw [hl] at hi
    unfold refF at hs
    rw [List.getElem?_reverse (by omega),l2] at hs
    obtain ⟨k,g1,g2,g3⟩:=iu hs
    rw [List.getElem?_reverse (by omega),l1] at g1
    exact ⟨k,by rw [← g1]; congr 1; omega,g2,g3⟩
  have step:∀ (i:Nat) (x:Ld) (s s':Rg),cs[i]?=some x→(refF (bj p cs) cs)[i]?=some s→(refF (bj p cs) cs)[i+1]?=some s'→∃ k,(cr (bj p cs) (cs.map (Pf.mk false)))[i]?=some k∧s=er ⟨s'.lo+x.lo,s'.hi+x.hi⟩ k:=by
    intro i x s s' hxi h2 h3
    have hi2:=bu hxi
    unfold refF at h2 h3
    rw [List.getElem?_reverse (by omega),l2] at h2 h3
    rw [show cs.length+1 - 1 - i=(cs.length+1 - 1 - (i+1))+1 by omega] at h2
    obtain ⟨f,b,q,g1,g2,g3,rfl⟩:=passAll_at h2
    rw [h3] at g3
    injection g3 with g3
    subst g3
    rw [List.getElem?_reverse (by rw [List.length_map]; omega),List.length_map,List.getElem?_map,show cs.length - 1 - (cs.length+1 - 1 - (i+1))=i by omega,hxi] at g1
    simp only [Option.map_some,Option.some.injEq] at g1
    subst g1
    rw [List.getElem?_reverse (by omega),l1] at g2
    exact ⟨b,by rw [← g2]; congr 1; omega,rfl⟩
  have on:∀ (i:Nat) (x:Ld) (k k':Rg),cs[i]?=some x→(cr (bj p cs) (cs.map (Pf.mk false)))[i]?=some k→(cr (bj p cs) (cs.map (Pf.mk false)))[i+1]?=some k'→k.lo - x.hi≤k'.lo∧k'.hi≤k.hi - x.lo:=by
    intro i x k k' hxi h2 h3
    obtain ⟨f,b,q,g1,g2,g3,rfl⟩:=passAll_at h3
    rw [h2] at g3
    injection g3 with g3
    subst g3
    rw [List.getElem?_map,hxi] at g1
    simp only [Option.map_some,Option.some.injEq] at g1
    subst g1
    have m1 := @jf (pfF ⟨false,x⟩ k) b
    have p1:(pfF ⟨false,x⟩ k).lo=k.lo - x.hi:=rfl
    have p2:(pfF ⟨false,x⟩ k).hi=k.hi - x.lo:=rfl
    omega
  have kb:∀ (i:Nat) (k:Rg),(cr (bj p cs) (cs.map (Pf.mk false)))[i]?=some k→∃ b,(bj p cs)[i]?=some b∧b.lo≤k.lo∧k.hi≤b.hi:=fun i k hk=>iu hk
  generalize refF (bj p cs) cs=S at *
  generalize cr (bj p cs) (cs.map (Pf.mk false))=K at *
  refine ⟨by rw [endsF,List.length_map,hl],fun i r t hr ht=>?_,fun i x a b hxi ha hb'=>?_⟩
  · rw [endsF,List.getElem?_map,Option.map_eq_some_iff] at ht
    obtain ⟨s,hsi,rfl⟩:=ht
    obtain ⟨k,hk,k1,k2⟩:=sk i s hsi
    obtain ⟨b,hb2,b1,b2⟩:=kb i k hk
    rw [hr] at hb2
    injection hb2 with hb2
    subst hb2
    have:=ho s (bz hsi)
    unfold Rng
    split <;> omega
  rw [endsF,List.getElem?_map,Option.map_eq_some_iff] at ha hb'
  obtain ⟨s,hsi,rfl⟩:=ha
  obtain ⟨s',hsi',rfl⟩:=hb'
  obtain ⟨k,hk,rfl⟩:=step i x s s' hxi hsi hsi'
  obtain ⟨k',hk',k1,k2⟩:=sk (i+1) s' hsi'
  have hon:=on i x k k' hxi hk hk'
  have hxx:=hx x (bz hxi)
  have q1:(⟨s'.lo+x.lo,s'.hi+x.hi⟩:Rg).lo=s'.lo+x.lo:=rfl
  have q2:(⟨s'.lo+x.lo,s'.hi+x.hi⟩:Rg).hi=s'.hi+x.hi:=rfl
  have m := @jf ⟨s'.lo+x.lo,s'.hi+x.hi⟩ k
  split
  · rcases meet_hi ⟨s'.lo+x.lo,s'.hi+x.hi⟩ k with e | e <;> rw [e] <;> omega
  rcases meet_lo ⟨s'.lo+x.lo,s'.hi+x.hi⟩ k with e | e <;> rw [e] <;> omega
theorem refF_yes {p:Pl} {cs:List Ld} (hx:∀ x∈cs,x.lo≤x.hi):(refF (bj p cs) cs).all okR=(ay p cs).2:=by
  rw [Bool.eq_iff_iff,List.all_eq_true]
  constructor
  · intro h
    exact (lc (refF_ends hx (fun r hr=>of_decide_eq_true (h r hr)) true)).1
  intro h r hr
  exact decide_eq_true ((refF_in (lb hx h true)).1 r hr)
theorem refF_stood {p:Pl} {cs:List Ld} (hx:∀ x∈cs,x.lo≤x.hi) (h:(ay p cs).2=true):refF (bj p cs) cs=(ay p cs).1:=by
  have ho:∀ r∈refF (bj p cs) cs,r.lo≤r.hi:=fun r hr=>of_decide_eq_true (List.all_eq_true.1 ((refF_yes hx).trans h) r hr)
  have hl:=refF_len p cs
  have e:=fun most=>(refF_in (lb hx h most)).2
  have f:=fun most=>(lc (refF_ends hx ho most)).2.2
  have hl2:=(lc (refF_ends hx ho true)).2.1
  apply List.ext_getElem?
  intro i
  rcases Nat.lt_or_ge i (cs.length+1) with hi | hi
  · have h1:(refF (bj p cs) cs)[i]?=some (refF (bj p cs) cs)[i]:=List.getElem?_eq_getElem (by omega)
    have h2:(ay p cs).1[i]?=some (ay p cs).1[i]:=List.getElem?_eq_getElem (by omega)
    generalize (refF (bj p cs) cs)[i]=a at h1
    generalize (ay p cs).1[i]=b at h2
    have g1:=e true i a b.hi h1 (by rw [endsF,List.getElem?_map,h2]; rfl)
    have g2:=e false i a b.lo h1 (by rw [endsF,List.getElem?_map,h2]; rfl)
    have g3:=f true i b a.hi h2 (by rw [endsF,List.getElem?_map,h1]; rfl)
    have g4:=f false i b a.lo h2 (by rw [endsF,List.getElem?_map,h1]; rfl)
    unfold Rng at g1 g2 g3 g4
    rw [h1,h2]
    have hlo:a.lo=b.lo:=by omega
    have hhi:a.hi=b.hi:=by omega
    cases a; cases b; simp only at hlo hhi; subst hlo; subst hhi; rfl
  rw [List.getElem?_eq_none (by omega),List.getElem?_eq_none (by omega)]
end Go.K
end
