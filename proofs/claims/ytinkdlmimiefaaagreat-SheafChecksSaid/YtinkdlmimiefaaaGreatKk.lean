/-
  The ground of my own proofs, eleventh part: maps with keys of the kind int. No condition.
-/
import Derived.Test.YtinkdlmimiefaaaGreatKj
namespace Go.K
open Go.RowKit

structure En where
  key : Int
  val : Value
  born : Nat
def toE (e : En) : MapEntry := ⟨.int .i64 e.key, e.val, e.born⟩
abbrev mobj (es : List En) (clk : Nat) : Obj := .map (es.map toE).toArray clk
/-- The value of a key. -/
def mget : List En → Int → Option Value
  | [], _ => none
  | e :: es, k => if k = e.key then some e.val else mget es k
def mfind : List En → Int → Nat → Option (Nat × Value)
  | [], _, _ => none
  | e :: es, k, i => if k = e.key then some (i, e.val) else mfind es k (i + 1)
/-- No key twice, no stamp twice, none from the clock on. -/
structure MOk (es : List En) (clk : Nat) : Prop where
  keys : (es.map En.key).Nodup
  borns : (es.map En.born).Nodup
  lt : ∀ e ∈ es, e.born < clk

theorem findNow_eq (K : IntKind) (k : Int) : ∀ (es : List En) (i : Nat), Instr.findNow (.int K) (.int .i64 k) (es.map toE) i = some (mfind es k i)
  | [], i => rfl
  | e :: es, i => by
    simp only [List.map_cons, Instr.findNow, toE, Instr.sameNow, if_true, mfind]
    by_cases h : k = e.key
    · simp [h]
    · have : (k == e.key) = false := by simp [h]
      simp only [this, h, if_false]
      exact findNow_eq K k es (i + 1)
theorem mfind_get : ∀ (es : List En) (k : Int) (i : Nat), (mfind es k i).map (·.2) = mget es k
  | [], _, _ => rfl
  | e :: es, k, i => by
    simp only [mfind, mget]
    split
    · rfl
    · exact mfind_get es k (i + 1)
theorem mfind_at : ∀ (es : List En) (k : Int) (i n : Nat) (v : Value), mfind es k i = some (n, v) → i ≤ n ∧ ∃ e, es[n - i]? = some e ∧ e.key = k
  | [], _, _, _, _, h => by cases h
  | e :: es, k, i, n, v, h => by
    simp only [mfind] at h
    split at h
    · rename_i hk
      simp only [Option.some.injEq, Prod.mk.injEq] at h
      obtain ⟨rfl, _⟩ := h
      exact ⟨Nat.le_refl _, e, by simp, hk.symm⟩
    · obtain ⟨h1, e', h2, h3⟩ := mfind_at es k (i + 1) n v h
      refine ⟨by omega, e', ?_, h3⟩
      rw [show n - i = (n - (i + 1)) + 1 by omega, List.getElem?_cons_succ]; exact h2
theorem mget_none : ∀ (es : List En) (k : Int), mget es k = none → ∀ e ∈ es, e.key ≠ k
  | [], _, _, e, he => by cases he
  | a :: es, k, h, e, he => by
    simp only [mget] at h
    split at h
    · cases h
    · rename_i hk
      rcases List.mem_cons.1 he with rfl | he
      · exact fun h => hk h.symm
      · exact mget_none es k h e he
theorem mget_append : ∀ (es : List En) (x : En) (k : Int), mget (es ++ [x]) k = match mget es k with
    | some v => some v
    | none => if k = x.key then some x.val else none
  | [], x, k => by simp only [List.nil_append, mget]
  | e :: es, x, k => by
    simp only [List.cons_append, mget]
    split
    · rfl
    · exact mget_append es x k
theorem mget_set : ∀ (es : List En) (n : Nat) (e : En) (v : Value) (b : Nat), (es.map En.key).Nodup → es[n]? = some e → ∀ k, mget (es.set n ⟨e.key, v, b⟩) k = if k = e.key then some v else mget es k
  | [], _, _, _, _, _, h, _ => by simp at h
  | a :: es, 0, e, v, b, _, h, k => by
    simp only [List.getElem?_cons_zero, Option.some.injEq] at h
    subst h
    simp only [List.set_cons_zero, mget]
    split <;> rfl
  | a :: es, n + 1, e, v, b, hn, h, k => by
    simp only [List.getElem?_cons_succ] at h
    simp only [List.map_cons, List.nodup_cons] at hn
    simp only [List.set_cons_succ, mget]
    have hne : a.key ≠ e.key := fun he => hn.1 (he ▸ List.mem_map.2 ⟨e, List.mem_of_getElem? h, rfl⟩)
    rw [mget_set es n e v b hn.2 h k]
    by_cases h1 : k = a.key
    · subst h1; simp [hne]
    · simp [h1]

section steps
variable {P : Program} {ρ : Env} {B : Option Nat} {w w0 : World} {L : List (Option Nat × Obj)} {R : Value → World → Prop} {d : Option Nat} {ty : TypeId} {pos : String} {af : Array Edge} {gd : Option (Nat × Bool)}

theorem run_checkKey (K : TypeId) (k : Int) (kd : IntKind) (hK : P.underlying K = some (.int kd)) (em : Bool) (w : World) : (Instr.checkKey em 10000 K (.int .i64 k)).run P w = .ok () w := by
  have : Instr.checkKey em (9999 + 1) K (.int .i64 k) = Instr.checkKey em 10000 K (.int .i64 k) := rfl
  rw [← this]
  unfold Instr.checkKey
  rw [Sem.run_bind, run_underlying hK]
  rfl
theorem run_findKey {K : TypeId} {kd : IntKind} (hK : P.underlying K = some (.int kd)) (es : List En) (k : Int) (w : World) : (Instr.findKey K (.int .i64 k) (es.map toE)).run P w = .ok (mfind es k 0) w := by
  unfold Instr.findKey
  rw [Sem.run_bind, run_underlying hK, Result.andThen_ok, findNow_eq]
  rfl

theorem s_makeMap (hI : Inv B w0 w L) {T : TypeId} (k : ∀ b w', Inv B w0 w' ((some b, mobj [] 0) :: L) → R (.map (some b)) w') : Step P ⟨d, .makeMap T none, ty, pos, af, gd⟩ ρ w R := by
  have h : (execOp (ev ρ) ⟨d, .makeMap T none, ty, pos, af, gd⟩).run P w = .ok (.value (.map (some w.heap.size))) (w.alloc (mobj [] 0)) := by
    have : execOp (ev ρ) ⟨d, .makeMap T none, ty, pos, af, gd⟩ = (do pure (.value (← Instr.makeMap T none))) := rfl
    rw [this, Sem.run_bind]
    rfl
  unfold Step; rw [h]; exact k _ _ (hI.alloc _)

theorem run_lookup {T K E b : TypeId} {kd : IntKind} {z : Value} {es : List En} {clk : Nat} (hT : P.underlying T = some (.map K E)) (hK : P.underlying K = some (.int kd)) (hz : ∀ w, (zeroValue E).run P w = .ok z w) (k : Int) (hb : w.heap[b]? = some (mobj es clk)) :
    (Instr.lookup T (.map (some b)) (.int .i64 k) false).run P w = .ok ((mget es k).getD z) w := by
  unfold Instr.lookup
  have hg : (getObj b).run P w = .ok (mobj es clk) w := by simp only [getObj, Sem.run, hb]
  have hf := run_findKey (P := P) hK es k w
  have hm := mfind_get es k 0
  simp only [Sem.run_bind, run_underlying hT, Result.andThen_ok, hg, Sem.run_pure, run_checkKey K k kd hK, List.toList_toArray]
  rw [hf]
  cases hq : mfind es k 0 with
  | none => rw [hq] at hm; simp at hm; simp [hz, ← hm]
  | some p => rw [hq] at hm; simp at hm; simp [← hm]

/-- m[k], m's block known. -/
theorem s_lookup (hI : Inv B w0 w L) {T K E : TypeId} {kd : IntKind} {z : Value} {x y : Operand} {b : Nat} {k : Int} {es : List En} {clk : Nat} (v : Value) (hT : P.underlying T = some (.map K E)) (hK : P.underlying K = some (.int kd)) (hz : ∀ w, (zeroValue E).run P w = .ok z w) (i : Nat)
    (hx : ev ρ x = .map (some b)) (hy : ev ρ y = .int .i64 k) (hL : L[i]? = some (some b, mobj es clk)) (hv : (mget es k).getD z = v) (kk : R v w) : Step P ⟨d, .lookup T x y false, ty, pos, af, gd⟩ ρ w R := by
  subst hv
  refine s_pure _ ?_ kk
  have : execOp (ev ρ) ⟨d, .lookup T x y false, ty, pos, af, gd⟩ = (do pure (.value (← Instr.lookup T (ev ρ x) (ev ρ y) false))) := rfl
  rw [this, hx, hy, Sem.run_bind, run_lookup hT hK hz k (hI.has i b _ hL).1]
  rfl

theorem s_mapUpdate (hI : Inv B w0 w L) {T K E : TypeId} {kd : IntKind} {m x y : Operand} {b : Nat} {k : Int} {v : Value} {es : List En} {clk : Nat} (hT : P.underlying T = some (.map K E)) (hK : P.underlying K = some (.int kd)) (i : Nat)
    (hm : ev ρ m = .map (some b)) (hx : ev ρ x = .int .i64 k) (hy : ev ρ y = v) (hL : L[i]? = some (some b, mobj es clk)) (ho : MOk es clk)
    (kk : ∀ es' clk' w', Inv B w0 w' (L.set i (some b, mobj es' clk')) → MOk es' clk' → (∀ j, mget es' j = if j = k then some v else mget es j) → R undef w') : Step P ⟨d, .mapUpdate T m x y, ty, pos, af, gd⟩ ρ w R := by
  have hb := (hI.has i b _ hL).1
  have hg : (getObj b).run P w = .ok (mobj es clk) w := by simp only [getObj, Sem.run, hb]
  have hf := run_findKey (P := P) hK es k w
  have hlt := hI.lt hL
  have hset : ∀ es' clk', (setObj b (mobj es' clk')).run P w = .ok () { w with heap := w.heap.setIfInBounds b (mobj es' clk') } := fun es' clk' => by simp only [setObj, Sem.run, hb]
  have fin : ∀ es' clk', MOk es' clk' → (∀ j, mget es' j = if j = k then some v else mget es j) → (Instr.mapUpdate T (.map (some b)) (.int .i64 k) v).run P w = (setObj b (mobj es' clk')).run P w → Step P ⟨d, .mapUpdate T m x y, ty, pos, af, gd⟩ ρ w R := by
    intro es' clk' h1 h2 h3
    have h : (execOp (ev ρ) ⟨d, .mapUpdate T m x y, ty, pos, af, gd⟩).run P w = .ok .skip { w with heap := w.heap.setIfInBounds b (mobj es' clk') } := by
      have : execOp (ev ρ) ⟨d, .mapUpdate T m x y, ty, pos, af, gd⟩ = (do Instr.mapUpdate T (ev ρ m) (ev ρ x) (ev ρ y); pure .skip) := rfl
      rw [this, hm, hx, hy, Sem.run_bind, h3, hset]
      rfl
    unfold Step; rw [h]
    refine kk es' clk' _ (hI.turn hL rfl rfl rfl (by simp) (fun q hq hne => ?_) (fun b' hb' => ?_)) h1 h2
    · have : b ≠ q := fun e => hne (by rw [e])
      simp [Array.getElem?_setIfInBounds, this]
    · injection hb' with hb'
      subst hb'
      simp [Array.getElem?_setIfInBounds, hlt]
  have hup : (Instr.mapUpdate T (.map (some b)) (.int .i64 k) v).run P w = (match mfind es k 0 with
      | some (n, _) => (setObj b (.map ((es.map toE).toArray.modify n fun e => { e with key := .int .i64 k, val := v }) clk)).run P w
      | none => (setObj b (.map ((es.map toE).toArray.push { key := .int .i64 k, val := v, born := clk }) (clk + 1))).run P w) := by
    unfold Instr.mapUpdate
    simp only [Sem.run_bind, run_underlying hT, Result.andThen_ok, hg, run_checkKey K k kd hK, List.toList_toArray]
    rw [hf]
    cases hq : mfind es k 0 with
    | none => rfl
    | some p =>
      obtain ⟨n, u⟩ := p
      obtain ⟨_, e, h2, h3⟩ := mfind_at es k 0 n u hq
      rw [Nat.sub_zero] at h2
      have hkey : (((es.map toE).toArray[n]?).map (·.key)).getD (.int .i64 k) = .int .i64 k := by
        simp [h2, toE, h3]
      have hst : (Instr.keyThatStays (.int .i64 k) (.int .i64 k)).run P w = .ok (.int .i64 k) w := by
        unfold Instr.keyThatStays
        have : Instr.sameBits 10000 (.int .i64 k) (.int .i64 k) = true := by
          show (IntKind.i64 == IntKind.i64 && k == k) = true
          simp
        rw [this]; rfl
      simp only [Result.andThen_ok, hkey]
      rw [Sem.run_bind, hst]
      rfl
  cases hq : mfind es k 0 with
  | none =>
    have hnone : mget es k = none := by rw [← mfind_get es k 0, hq]; rfl
    refine fin (es ++ [⟨k, v, clk⟩]) (clk + 1) ⟨?_, ?_, ?_⟩ ?_ ?_
    · rw [List.map_append, List.nodup_append]
      refine ⟨ho.keys, by simp, fun a ha b hb => ?_⟩
      simp only [List.map_cons, List.map_nil, List.mem_singleton] at hb
      rw [hb]
      obtain ⟨e, he, rfl⟩ := List.mem_map.1 ha
      exact mget_none es k hnone e he
    · rw [List.map_append, List.nodup_append]
      refine ⟨ho.borns, by simp, fun a ha b hb => ?_⟩
      simp only [List.map_cons, List.map_nil, List.mem_singleton] at hb
      rw [hb]
      obtain ⟨e, he, rfl⟩ := List.mem_map.1 ha
      exact Nat.ne_of_lt (ho.lt e he)
    · intro e he
      rcases List.mem_append.1 he with he | he
      · exact Nat.lt_succ_of_lt (ho.lt e he)
      · simp only [List.mem_singleton] at he; subst he; exact Nat.lt_succ_self _
    · intro j
      rw [mget_append]
      by_cases hj : j = k
      · subst hj; rw [hnone]
      · simp only [hj, if_false]; cases mget es j <;> rfl
    · rw [hup, hq]
      show (setObj b (.map ((es.map toE).toArray.push _) (clk + 1))).run P w = _
      congr 2
      simp [mobj, toE]
  | some p =>
    obtain ⟨n, u⟩ := p
    obtain ⟨_, e, h2, h3⟩ := mfind_at es k 0 n u hq
    rw [Nat.sub_zero] at h2
    have hn : n < es.length := lt_of_get h2
    have hen : es[n] = e := by rw [List.getElem?_eq_getElem hn] at h2; injection h2
    refine fin (es.set n ⟨e.key, v, e.born⟩) clk ⟨?_, ?_, ?_⟩ ?_ ?_
    · rw [List.map_set]
      have : (es.map En.key).set n e.key = es.map En.key := by
        apply List.ext_getElem?
        intro j
        rw [List.getElem?_set]
        split
        · rename_i hj; subst hj
          split
          · simp [h2]
          · rename_i hge; simp at hge; omega
        · rfl
      rw [this]; exact ho.keys
    · rw [List.map_set]
      have : (es.map En.born).set n e.born = es.map En.born := by
        apply List.ext_getElem?
        intro j
        rw [List.getElem?_set]
        split
        · rename_i hj; subst hj
          split
          · simp [h2]
          · rename_i hge; simp at hge; omega
        · rfl
      rw [this]; exact ho.borns
    · intro x hx
      rcases List.mem_or_eq_of_mem_set hx with hx | rfl
      · exact ho.lt x hx
      · exact ho.lt e (mem_of_get h2)
    · intro j
      rw [mget_set es n e v e.born ho.keys h2 j, h3]
    · rw [hup, hq]
      show (setObj b (.map ((es.map toE).toArray.modify n _) clk)).run P w = _
      congr 2
      simp only [mobj]
      congr 1
      apply Array.ext'
      simp only [Array.toList_modify]
      apply List.ext_getElem?
      intro j
      rw [List.getElem?_modify, List.map_set, List.getElem?_set]
      by_cases hj : n = j
      · subst hj
        simp [toE, h3, hn, hen]
      · simp [hj]
end steps
end Go.K
