/- Ve, Vf, Vg, Vgg. -/
import Derived.Test.YtinkdlmimiefaaaGreatPVV1
set_option linter.unusedVariables false
set_option linter.unusedSimpArgs false
section
/-
  A run by reckoning, fifth part: append, clear, maps. No condition.
-/
namespace Go.K
open Go.RowKit
set_option linter.unusedVariables false
set_option linter.unusedSimpArgs false

/-- The elements that are appended. -/
noncomputable def eNews (H : Hp) (k : Nat) (y : V) : Option (Nat × List V) :=
  match y with
  | .v (.slice none 0 _) => some (0, [])
  | .z _ => some (0, [])
  | .s j off m k' => bif Nat.beq k' k then match hget H j with
    | some o => match rowOf o with
      | some (l, _) => bif Nat.ble (off + m * k) l.length then some (m, (l.drop off).take (m * k)) else none
      | none => none
    | none => none else none
  | _ => none
/-- append(x, y...), where y has elements. -/
noncomputable def eAppend (P : Program) (H : Hp) (lo : Nat) (t : TypeId) (x y : V) : Option (V × Hp × Nat) :=
  match P.underlying t with
  | some (.slice e) => match P.info? e with
    | some i => match i.zero with
      | some z => bif Nat.blt 0 i.size && Nat.beq z.cells.size i.size then
          match eNews H i.size y with
          | some (0, _) => match x with
            | .v (.slice none 0 0) | .s .. | .z _ => some (x, H, lo)
            | _ => none
          | some (m, xs) => bif xs.all V.one then
              match x with
              | .v (.slice none 0 0) | .z true => bif Nat.ble m 100000000 && Nat.ble (m * i.bytes) 140737488355328 then some (.s lo 0 m i.size, (lo, .cells xs e false) :: H, lo + 1) else none
              | .s j 0 n k' => bif Nat.beq k' i.size && Nat.ble (n + m) 100000000 && Nat.ble ((n + m) * i.bytes) 140737488355328 then
                match hget H j with
                | some (.cells l T _) => bif Nat.beq T e && Nat.ble (n * i.size) l.length then some (.s lo 0 (n + m) i.size, hren H j lo (.cells (l.take (n * i.size) ++ xs) e false), lo + 1) else none
                | _ => none else none
              | _ => none else none
          | none => none else none
      | none => none
    | none => none
  | _ => none

section app
variable {P : Program} {G : Ctx} {μ : Mu} {w0 w : World} {H : Hp} {σ : Fr} {ρ : Env} {lo hi : Nat} {d : Option Nat} {ty : TypeId} {pos : String} {af : Array Edge} {gd : Option (Nat × Bool)}
theorem news_ok (hM : Mem G μ w0 w H) {k : Nat} {y : V} {u : Value} (hy : Den μ y u) {m : Nat} {xs : List V} (h : eNews H k y = some (m, xs)) : ∃ A c us, u = .slice A m c ∧ Dens μ xs us ∧ us.length = m * k ∧ Cells w A us := by
  unfold eNews at h
  split at h
  · simp only [Option.some.injEq, Prod.mk.injEq] at h
    obtain ⟨rfl, rfl⟩ := h
    exact ⟨_, _, [], hy, rfl, by simp, fun h => by simp at h⟩
  · simp only [Option.some.injEq, Prod.mk.injEq] at h
    obtain ⟨rfl, rfl⟩ := h
    obtain ⟨b, off, c, e1, _⟩ := hy
    exact ⟨_, _, [], e1, rfl, by simp, fun h => by simp at h⟩
  · rename_i j off m' k'
    cases hb : Nat.beq k' k with
    | false => rw [hb] at h; cases h
    | true =>
      rw [hb] at h
      simp only [cond_true] at h
      split at h
      · rename_i o hg
        split at h
        · rename_i l T ho
          cases hc : Nat.ble (off + m' * k) l.length with
          | false => rw [hc] at h; cases h
          | true =>
          rw [hc] at h
          simp only [cond_true, Option.some.injEq, Prod.mk.injEq] at h
          obtain ⟨rfl, rfl⟩ := h
          rw [Nat.ble_eq] at hc
          obtain ⟨b, n, vs, us, f1, f2, f3, f5, f6, f7⟩ := hM.cells hg ho
          obtain ⟨b', n', e1, e2, _⟩ := hy
          rw [f1] at e1
          injection e1 with e1
          injection e1 with e1 e1'
          subst e1; subst e1'
          have hl := f2.length
          refine ⟨_, _, (vs.drop off).take (m' * k), e2, (f2.drop off).take _, by rw [List.length_take, List.length_drop]; omega, fun _ => ⟨b, off, rfl, f7, fun j u hj => f6 _ _ ?_⟩⟩
          rw [List.getElem?_take] at hj
          split at hj
          · rwa [List.getElem?_drop] at hj
          · cases hj
        · cases h
      · cases h
  · cases h

/-- Nothing is appended. -/
theorem run_append_none {t e : TypeId} {i : TypeInfo} (ht : P.underlying t = some (.slice e)) (hi : P.info? e = some i) {A A2 : Option Addr} {n c c2 : Nat} (hle : n ≤ c) :
    (Builtin.append_ #[t, t] ty #[.slice A n c, .slice A2 0 c2]).run P w = .ok (.slice A n c) w := by
  cases A <;> cases A2 <;> simp [Builtin.append_, run_underlying ht, sizeOf, typeInfo, hi, Builtin.lenOf, hle, Builtin.firstCells, loadCells, loadCellsFrom, storeCells]
/-- Something is appended where there is no room at all. -/
theorem run_append0 {t e : TypeId} {i : TypeInfo} {z : Value} (ht : P.underlying t = some (.slice e)) (hi : P.info? e = some i) (hz : i.zero = some z) (hzs : z.cells.size = i.size) (hk0 : 0 < i.size)
    {A A2 : Option Addr} {m c2 : Nat} {news : List Value} (hl : news.length = m * i.size) (hc : Cells w A2 news) (hm : 0 < m) (hmax : m ≤ 100000000) (hbytes : m * i.bytes ≤ 140737488355328) :
    ∃ c' us, (Builtin.append_ #[t, t] ty #[.slice A 0 0, .slice A2 m c2]).run P w = .ok (.slice (some ⟨w.heap.size, 0, none⟩) m c') (w.drew.alloc (blk (news ++ us) e)) ∧ (news ++ us).length = c' * i.size ∧ m ≤ c' ∧ c' ≤ maxLen := by
  have hfit := growslice_fits (need := m) (old := 0) (bytes := i.bytes) (by omega) hbytes
  have h63 : ¬ (9223372036854775807 < (m : Int)) := by omega
  have h48 : ¬ (281474976710656 < Builtin.nextslicecap m 0 * i.bytes) := by omega
  have hnew := run_first (P := P) (c := c2) hc hl w.drew rfl
  have hge := grownCap_ge w m 0 e
  have hcm : grownCap w m 0 e ≤ maxLen := grownCap_le_maxLen w m 0 e (by unfold maxLen; omega)
  have hold : (Builtin.firstCells i.size 0 (.slice A 0 0)).run P w.drew = .ok #[] w.drew := by
    cases A <;> simp [Builtin.firstCells, loadCells, loadCellsFrom]
  refine ⟨grownCap w m 0 e, (Builtin.zeroCells z.cells (grownCap w m 0 e - m)).toList, ?_, ?_, hge, hcm⟩
  · have hm0 : ¬ m = 0 := by omega
    simp [Builtin.append_, run_underlying ht, sizeOf, typeInfo, zeroValue, hi, hz, Builtin.lenOf, hm0, h63, h48, Question.forced, hnew, hold, newRow, grownCap]
    congr 2
    apply Array.ext'
    simp
  · rw [List.length_append, hl, zero_len, hzs, ← Nat.add_mul]; congr 1; omega

theorem append_ok (hE : ERel μ σ ρ) (hM : Mem G μ w0 w H) (hf : Free μ lo hi) (hlt : lo < hi) {t : TypeId} {x y : Operand} {r : V} {H' : Hp} {lo' : Nat} (h : eAppend P H lo t (evV σ x) (evV σ y) = some (r, H', lo')) :
    Step P ⟨d, .call ⟨.builtin .append, #[x, y], #[t, t]⟩, ty, pos, af, gd⟩ ρ w (Goal G μ w0 lo lo' r H') := by
  have hx := hE.ev x
  have hy := hE.ev y
  have fin : ∀ {v : Value} {w' : World}, (Builtin.append_ #[t, t] ty #[ev ρ x, ev ρ y]).run P w = .ok v w' → Goal G μ w0 lo lo' r H' v w' → Step P ⟨d, .call ⟨.builtin .append, #[x, y], #[t, t]⟩, ty, pos, af, gd⟩ ρ w (Goal G μ w0 lo lo' r H') := fun {v w'} hr hg => by
    have h : (execOp (ev ρ) ⟨d, .call ⟨.builtin .append, #[x, y], #[t, t]⟩, ty, pos, af, gd⟩).run P w = .ok (.value v) w' := by
      simp [execOp, resolve, invoke, builtin, hr]
    unfold Step; rw [h]; exact hg
  unfold eAppend at h
  split at h
  · rename_i e hu
    split at h
    · rename_i i hi'
      split at h
      · rename_i z hz
        cases hb : (Nat.blt 0 i.size && Nat.beq z.cells.size i.size) with
        | false => rw [hb] at h; cases h
        | true =>
          rw [hb] at h
          simp only [cond_true] at h
          simp only [Bool.and_eq_true, Nat.blt_eq, Nat.beq_eq] at hb
          split at h
          · rename_i xs hn
            obtain ⟨A2, c2, us, e1, e2, e3, e4⟩ := news_ok hM hy hn
            rw [e1] at fin
            have hres : ∀ {A : Option Addr} {n c : Nat}, ev ρ x = .slice A n c → n ≤ c → some (evV σ x, H, lo) = some (r, H', lo') → Step P ⟨d, .call ⟨.builtin .append, #[x, y], #[t, t]⟩, ty, pos, af, gd⟩ ρ w (Goal G μ w0 lo lo' r H') := fun hxe hle h => by
              simp only [Option.some.injEq, Prod.mk.injEq] at h
              obtain ⟨rfl, rfl, rfl⟩ := h
              rw [hxe] at fin hx
              exact fin (run_append_none hu hi' hle) ⟨μ, Ext.refl _ _, hx, hM⟩
            split at h
            · rename_i hxe
              have hx' := hx
              rw [hxe] at hx' h
              exact hres hx' (Nat.le_refl _) (by rw [hxe]; exact h)
            · rename_i j off n k hxe
              have hx' := hx
              rw [hxe] at hx' h
              obtain ⟨b, mm, f1, f2, f3, f4, f5, f6⟩ := hx'
              exact hres f2 (by rw [Nat.le_div_iff_mul_le f4]; omega) (by rw [hxe]; exact h)
            · rename_i c0 hxe
              have hx' := hx
              rw [hxe] at hx' h
              obtain ⟨b, off, c, f1, f2⟩ := hx'
              exact hres f1 (Nat.zero_le _) (by rw [hxe]; exact h)
            · cases h
          · rename_i m xs hm0 hn
            obtain ⟨A2, c2, us, e1, e2, e3, e4⟩ := news_ok hM hy hn
            have hm : 0 < m := by
              rcases Nat.eq_zero_or_pos m with h0 | h0
              · exact absurd h0 (by simpa using hm0)
              · exact h0
            rw [e1] at fin
            cases hone : xs.all V.one with
            | false => rw [hone] at h; cases h
            | true =>
              rw [hone] at h
              simp only [cond_true] at h
              have hus := e2.one hone
              have fresh : ∀ {A : Option Addr}, ev ρ x = .slice A 0 0 → (bif Nat.ble m 100000000 && Nat.ble (m * i.bytes) 140737488355328 then some (V.s lo 0 m i.size, ((lo, O.cells xs e false) :: H : Hp), lo + 1) else none) = some (r, H', lo') →
                  Step P ⟨d, .call ⟨.builtin .append, #[x, y], #[t, t]⟩, ty, pos, af, gd⟩ ρ w (Goal G μ w0 lo lo' r H') := fun hxe h => by
                cases hc : (Nat.ble m 100000000 && Nat.ble (m * i.bytes) 140737488355328) with
                | false => rw [hc] at h; cases h
                | true =>
                  rw [hc] at h
                  simp only [cond_true, Option.some.injEq, Prod.mk.injEq] at h
                  obtain ⟨rfl, rfl, rfl⟩ := h
                  simp only [Bool.and_eq_true, Nat.ble_eq] at hc
                  rw [hxe] at fin
                  obtain ⟨c', us', g1, g2, g3, g4⟩ := run_append0 (P := P) (w := w) (ty := ty) (A := _) (c2 := c2) hu hi' hz hb.2 hb.1 e3 e4 hm hc.1 hc.2
                  refine fin g1 ⟨_, Ext.one hf hlt _, ⟨_, _, Mu.put_same _ _ (w.drew.heap.size, (us ++ us').length), ?_, ?_, hb.1, ?_, ?_⟩, hM.drew.new hf hlt _ ⟨us, us', rfl, e2.mono (Mu.put_le (hf lo (Nat.le_refl _) hlt) _), by rw [List.length_append], fun h => by cases h⟩⟩
                  · rw [g2, Nat.sub_zero, Nat.mul_div_cancel _ hb.1]; rfl
                  · rw [g2, Nat.zero_add]; exact Nat.mul_le_mul_right _ g3
                  · rw [g2, Nat.sub_zero, Nat.mul_mod_left]
                  · rw [g2, Nat.sub_zero, Nat.mul_div_cancel _ hb.1]; exact g4
              split at h
              · rename_i hxe
                rw [hxe] at hx
                exact fresh hx h
              · rename_i hxe
                rw [hxe] at hx
                obtain ⟨b, off, c, f1, f2⟩ := hx
                rw [f2 rfl] at f1
                exact fresh f1 h
              · rename_i j n k' hxe
                rw [hxe] at hx
                obtain ⟨b, mm, f1, f2, f3, f4, f5, f6⟩ := hx
                cases hc : (Nat.beq k' i.size && Nat.ble (n + m) 100000000 && Nat.ble ((n + m) * i.bytes) 140737488355328) with
                | false => rw [hc] at h; cases h
                | true =>
                  rw [hc] at h
                  simp only [cond_true] at h
                  simp only [Bool.and_eq_true, Nat.beq_eq, Nat.ble_eq] at hc
                  obtain ⟨⟨rfl, hc1⟩, hc2⟩ := hc
                  split at h
                  · rename_i l T ex hg
                    cases hq : (Nat.beq T e && Nat.ble (n * i.size) l.length) with
                    | false => rw [hq] at h; cases h
                    | true =>
                      rw [hq] at h
                      simp only [cond_true, Option.some.injEq, Prod.mk.injEq] at h
                      obtain ⟨rfl, rfl, rfl⟩ := h
                      simp only [Bool.and_eq_true, Nat.beq_eq, Nat.ble_eq] at hq
                      obtain ⟨rfl, hq⟩ := hq
                      obtain ⟨L, hL, hI⟩ := hM
                      obtain ⟨kk, b', n', ob, l1, l2, ⟨vs, vt, l3, l4, l5, l6⟩, _, l7⟩ := hL.get hg rfl
                      rw [f1] at l2
                      injection l2 with l2
                      injection l2 with l2 l2'
                      subst l2; subst l2'
                      subst l3
                      have hlv := l4.length
                      have hcap : n ≤ (mm - 0) / i.size := by rw [Nat.le_div_iff_mul_le f4]; omega
                      have hdm : (mm - 0) / i.size * i.size = mm := by
                        have := Nat.div_add_mod (mm - 0) i.size
                        rw [f5] at this
                        rw [Nat.mul_comm]; omega
                      have hrow : Row i.size (some b) n ((mm - 0) / i.size) (vs ++ vt) (vs.take (n * i.size)) :=
                        ⟨by rw [List.length_take]; omega, hcap, f6, by rw [List.length_append, hdm]; omega, by rw [List.take_append_of_le_length (by omega)], fun h => by cases h⟩
                      obtain ⟨g', c', cl', w', hrun, hr', hI'⟩ := run_append (P := P) (c2 := c2) hI (ty := ty) hu hi' hz rfl rfl hb.2 hb.1 kk l1 hrow e3 e4 hus (by unfold maxLen; omega) hc2
                      obtain ⟨b2, rfl⟩ := hr'.some_ (by omega)
                      rw [f2] at fin
                      have hle := Mu.put_le (hf lo (Nat.le_refl _) hlt) (b2, cl'.length)
                      refine fin hrun ⟨_, Ext.one hf hlt (b2, cl'.length), ⟨b2, _, Mu.put_same _ _ _, ?_, ?_, f4, ?_, ?_⟩, _, l7 _ lo b2 _ _ _ hle (Mu.put_same _ _ _) ⟨vs.take (n * i.size) ++ us, cl'.drop ((n + m) * i.size), ?_, ((l4.take _).append e2).mono hle, ?_, fun h => by cases h⟩, hI'⟩
                      · rw [hr'.size, Nat.sub_zero, Nat.mul_div_cancel _ f4]; rfl
                      · rw [hr'.size, Nat.zero_add]; exact Nat.mul_le_mul_right _ hr'.cap
                      · rw [hr'.size, Nat.sub_zero, Nat.mul_mod_left]
                      · rw [hr'.size, Nat.sub_zero, Nat.mul_div_cancel _ f4]; exact hr'.capmax
                      · rw [← hr'.head, List.take_append_drop]
                      · rw [hr'.len, List.length_drop, hr'.size]
                        have := Nat.mul_le_mul_right i.size hr'.cap
                        omega
                  · cases h
              · cases h
          · cases h
      · cases h
    · cases h
  · cases h
end app
end Go.K
end
section
/-
  A run by reckoning, sixth part: clear, maps with keys of the kind int. No condition.
-/
namespace Go.K
open Go.RowKit
set_option linter.unusedVariables false
set_option linter.unusedSimpArgs false

section del
variable {P : Program} {ρ : Env} {B : Option Nat} {w w0 : World} {L : List (Option Nat × Obj)} {R : Value → World → Prop} {d : Option Nat} {ty : TypeId} {pos : String} {af : Array Edge} {gd : Option (Nat × Bool)}
theorem v_map_erase {α β : Type} (f : α → β) : ∀ (l : List α) (n : Nat), (l.map f).eraseIdx n = (l.eraseIdx n).map f
  | [], _ => by simp
  | a :: l, 0 => by simp
  | a :: l, n + 1 => by simp [v_map_erase f l n]
theorem v_mfind_none : ∀ (es : List En) (k : Int) (i : Nat), mfind es k i = none → mget es k = none
  | [], _, _, _ => rfl
  | e :: es, k, i, h => by
    simp only [mfind] at h
    simp only [mget]
    split at h
    · cases h
    · rename_i hne; rw [if_neg hne]; exact v_mfind_none es k (i + 1) h
theorem v_mget_erase : ∀ (es : List En) (n : Nat) (e : En), (es.map En.key).Nodup → es[n]? = some e → ∀ k, mget (es.eraseIdx n) k = if k = e.key then none else mget es k
  | [], _, _, _, h, _ => by simp at h
  | a :: es, 0, e, hn, h, k => by
    simp only [List.getElem?_cons_zero, Option.some.injEq] at h
    subst h
    simp only [List.eraseIdx_cons_zero, mget]
    by_cases hk : k = a.key
    · rw [if_pos hk]
      cases hq : mget es k with
      | none => rfl
      | some v =>
        have : k ∈ es.map En.key := by
          clear hn
          induction es with
          | nil => cases hq
          | cons b es ih =>
            simp only [mget] at hq
            split at hq
            · rename_i hb; simp [hb]
            · simp [ih hq]
        rw [List.map_cons, List.nodup_cons] at hn
        exact absurd (hk ▸ this) hn.1
    · rw [if_neg hk, if_neg hk]
  | a :: es, n + 1, e, hn, h, k => by
    rw [List.map_cons, List.nodup_cons] at hn
    rw [List.getElem?_cons_succ] at h
    simp only [List.eraseIdx_cons_succ, mget]
    rw [v_mget_erase es n e hn.2 h k]
    by_cases hk : k = e.key
    · have hne : ¬ k = a.key := fun ha => hn.1 (by rw [← ha, hk]; exact List.mem_map.2 ⟨e, List.mem_of_getElem? h, rfl⟩)
      rw [if_neg hne, if_pos hk, if_pos hk]
    · rw [if_neg hk, if_neg hk]
theorem v_s_delete (hI : Inv B w0 w L) {T K E : TypeId} {kd : IntKind} {m x : Operand} {b : Nat} {k : Int} {es : List En} {clk : Nat} (hT : P.underlying T = some (.map K E)) (hK : P.underlying K = some (.int kd)) (i : Nat)
    (hm : ev ρ m = .map (some b)) (hx : ev ρ x = .int .i64 k) (hL : L[i]? = some (some b, mobj es clk)) (ho : MOk es clk) {K2 : TypeId}
    (kk : ∀ es' w', Inv B w0 w' (L.set i (some b, mobj es' clk)) → MOk es' clk → (∀ j, mget es' j = if j = k then none else mget es j) → R (.tuple #[]) w') : Step P ⟨d, .call ⟨.builtin .delete, #[m, x], #[T, K2]⟩, ty, pos, af, gd⟩ ρ w R := by
  have hb := (hI.has i b _ hL).1
  have key : ∃ es', (Builtin.delete_ #[T, K2] ty #[.map (some b), .int .i64 k]).run P w = .ok (.tuple #[]) (w.putObj b (mobj es' clk)) ∧ MOk es' clk ∧ (∀ j, mget es' j = if j = k then none else mget es j) := by
    have hgo : (getObj b).run P w = .ok (mobj es clk) w := by simp [getObj, Sem.run, hb]
    have hf := run_findKey (P := P) hK es k w
    have hck := run_checkKey (P := P) K k kd hK (es.map toE).toArray.isEmpty w
    cases hq : mfind es k 0 with
    | none =>
      refine ⟨es, ?_, ho, fun j => ?_⟩
      · rw [hq] at hf
        simp only [Builtin.delete_, Sem.run_bind, run_underlying hT, hgo, Result.andThen, List.getElem?_toArray, List.getElem?_cons_zero, List.getElem?_cons_succ, Sem.run_pure]
        simp only [hck, hf]
        simp [setObj, Sem.run, hb, World.putObj]
      · by_cases hj : j = k
        · rw [if_pos hj, hj]; exact v_mfind_none es k 0 hq
        · rw [if_neg hj]
    | some p =>
      obtain ⟨n, v⟩ := p
      obtain ⟨_, e, he, hek⟩ := mfind_at es k 0 n v hq
      rw [Nat.sub_zero] at he
      refine ⟨es.eraseIdx n, ?_, ⟨?_, ?_, fun e' h' => ho.lt e' (List.mem_of_mem_eraseIdx h')⟩, fun j => ?_⟩
      · rw [hq] at hf
        simp only [Builtin.delete_, Sem.run_bind, run_underlying hT, hgo, Result.andThen, List.getElem?_toArray, List.getElem?_cons_zero, List.getElem?_cons_succ, Sem.run_pure]
        simp only [hck, hf]
        have hlt := lt_of_get he
        have e1 : (es.map toE).toArray.eraseIdxIfInBounds n = ((es.eraseIdx n).map toE).toArray := by
          have hlt' : n < (es.map toE).toArray.size := by simpa using hlt
          rw [Array.eraseIdxIfInBounds, dif_pos hlt']
          apply Array.ext'
          rw [Array.toList_eraseIdx]
          exact v_map_erase toE es n
        rw [e1]
        simp [setObj, Sem.run, hb, World.putObj]
      · exact ho.keys.sublist ((List.eraseIdx_sublist _ _).map _)
      · exact ho.borns.sublist ((List.eraseIdx_sublist _ _).map _)
      · rw [v_mget_erase es n e ho.keys he j, hek]
  obtain ⟨es', hrun, ho', hg⟩ := key
  have h : (execOp (ev ρ) ⟨d, .call ⟨.builtin .delete, #[m, x], #[T, K2]⟩, ty, pos, af, gd⟩).run P w = .ok (.value (.tuple #[])) (w.putObj b (mobj es' clk)) := by
    simp [execOp, resolve, invoke, builtin, hm, hx, hrun]
  unfold Step; rw [h]
  exact kk es' _ (hI.turn (i := i) hL rfl rfl rfl (by rw [World.putObj_size]; exact Nat.le_refl _) (fun k _ hk => World.putObj_heap_other fun e => hk (by rw [e])) (fun b' hb' => by
      injection hb' with hb'; subst hb'; exact World.putObj_heap_same (hI.lt hL))) ho' hg
end del

/-- clear(s). -/
noncomputable def eClear (P : Program) (H : Hp) (t : TypeId) (x : V) : Option Hp :=
  match P.underlying t, x with
  | some (.slice _), .z _ => some H
  | some (.slice _), .v (.slice none _ _) => some H
  | some (.slice _), .s _ _ 0 _ => some H
  | some (.slice E), .s i off (n + 1) k => match runPure P (zeroValue E), hget H i with
    | some z, some (.cells l T ex) => bif Nat.beq (Builtin.zeroCells z.cells (n + 1)).toList.length ((n + 1) * k) && Nat.ble (off + (n + 1) * k) l.length && ((Builtin.zeroCells z.cells (n + 1)).toList.map V.v).all V.one then
        some (hset H i (.cells (putV l off ((Builtin.zeroCells z.cells (n + 1)).toList.map .v)) T ex)) else none
    | _, _ => none
  | _, _ => none
def vdel (es : List (Int × V)) (j : Int) : List (Int × V) := es.filter fun p => !decide (p.1 = j)
theorem vget_del (j : Int) : ∀ (es : List (Int × V)) (i : Int), vget (vdel es j) i = if i = j then none else vget es i
  | [], i => by simp [vdel, vget]
  | (k, x) :: es, i => by
    have ih := vget_del j es i
    unfold vdel at ih ⊢
    by_cases h : k = j
    · subst h
      simp only [List.filter_cons, decide_true, Bool.not_true, Bool.false_eq_true, if_false, vget]
      rw [ih]
      by_cases h' : i = k
      · simp [h']
      · simp [h']
    · simp only [List.filter_cons, h, decide_false, Bool.not_false, if_true, vget]
      rw [ih]
      by_cases h' : i = k
      · subst h'; simp [h]
      · simp [h']
/-- m[k] = x. -/
noncomputable def eMapUpdate (P : Program) (H : Hp) (T : TypeId) (m k x : V) : Option Hp :=
  match P.underlying T, m, k with
  | some (.map K _), .m i, .v (.int .i64 j) => match P.underlying K, hget H i with
    | some (.int _), some (.map es) => some (hset H i (.map ((j, x) :: vdel es j)))
    | _, _ => none
  | _, _, _ => none
noncomputable def eDelete (P : Program) (H : Hp) (T : TypeId) (m k : V) : Option Hp :=
  match P.underlying T, m, k with
  | some (.map K _), .m i, .v (.int .i64 j) => match P.underlying K, hget H i with
    | some (.int _), some (.map es) => some (hset H i (.map (vdel es j)))
    | _, _ => none
  | _, _, _ => none
/-- m[k], or with whether it is there. -/
noncomputable def eLookup (P : Program) (H : Hp) (T : TypeId) (m k : V) (ok : Bool) : Option V :=
  match P.underlying T, m, k with
  | some (.map K E), .m i, .v (.int .i64 j) => match P.underlying K, hget H i, runPure P (zeroValue E) with
    | some (.int _), some (.map es), some z => some (match vget es j with
      | some x => bif ok then .t [x, .v (.bool true)] else x
      | none => bif ok then .t [ofV z, .v (.bool false)] else ofV z)
    | _, _, _ => none
  | _, _, _ => none

section ops
variable {P : Program} {G : Ctx} {μ : Mu} {w0 w : World} {H : Hp} {σ : Fr} {ρ : Env} {lo hi : Nat} {d : Option Nat} {ty : TypeId} {pos : String} {af : Array Edge} {gd : Option (Nat × Bool)}
theorem clear_ok (hE : ERel μ σ ρ) (hM : Mem G μ w0 w H) {t : TypeId} {x : Operand} {H' : Hp} (h : eClear P H t (evV σ x) = some H') : Step P ⟨d, .call ⟨.builtin .clear, #[x], #[t]⟩, ty, pos, af, gd⟩ ρ w (Goal G μ w0 lo lo (.v undef) H') := by
  have hx := hE.ev x
  have fin : ∀ {w' : World}, (Builtin.clear_ #[t] ty #[ev ρ x]).run P w = .ok (.tuple #[]) w' → Mem G μ w0 w' H' → Step P ⟨d, .call ⟨.builtin .clear, #[x], #[t]⟩, ty, pos, af, gd⟩ ρ w (Goal G μ w0 lo lo (.v undef) H') := fun {w'} hr hg => by
    have h : (execOp (ev ρ) ⟨d, .call ⟨.builtin .clear, #[x], #[t]⟩, ty, pos, af, gd⟩).run P w = .ok (.value (.tuple #[])) w' := by
      simp [execOp, resolve, invoke, builtin, hr]
    unfold Step; rw [h]; exact ⟨μ, Ext.refl _ _, rfl, hg⟩
  unfold eClear at h
  split at h
  · rename_i E c0 hu hxe
    injection h with h
    subst h
    rw [hxe] at hx
    obtain ⟨b, off, c, e1, _⟩ := hx
    rw [e1] at fin
    exact fin (by simp [Builtin.clear_, run_underlying hu]) hM
  · rename_i E n c hu hxe
    injection h with h
    subst h
    rw [hxe] at hx
    have e1 : ev ρ x = .slice none n c := hx
    rw [e1] at fin
    exact fin (by simp [Builtin.clear_, run_underlying hu]) hM
  · rename_i E i off k hu hxe
    injection h with h
    subst h
    rw [hxe] at hx
    obtain ⟨b, m, _, e1, _⟩ := hx
    rw [e1] at fin
    exact fin (by simp [Builtin.clear_, run_underlying hu]) hM
  · rename_i E i off n k hu hxe
    rw [hxe] at hx
    obtain ⟨b, m, e0, e1, _⟩ := hx
    rw [e1] at fin
    split at h
    · rename_i z l T ex hz hg
      cases hb : (Nat.beq (Builtin.zeroCells z.cells (n + 1)).toList.length ((n + 1) * k) && Nat.ble (off + (n + 1) * k) l.length && ((Builtin.zeroCells z.cells (n + 1)).toList.map V.v).all V.one) with
      | false => rw [hb] at h; cases h
      | true =>
        rw [hb] at h
        simp only [cond_true, Option.some.injEq] at h
        subst h
        simp only [Bool.and_eq_true, Nat.beq_eq, Nat.ble_eq] at hb
        obtain ⟨⟨h1, h2⟩, h3⟩ := hb
        obtain ⟨w', hrun, hM'⟩ := hM.store (P := P) (off := off) hg e0 (Dens.map_v μ _) h3 (by rw [List.length_map, h1]; exact h2)
        refine fin ?_ hM'
        have e2 := runPure_run hz w
        simp [Builtin.clear_, run_underlying hu, e2, hrun]
    · cases h
  · cases h
theorem makeMap_ok (hM : Mem G μ w0 w H) (hf : Free μ lo hi) (h : lo < hi) {T : TypeId} : Step P ⟨d, .makeMap T none, ty, pos, af, gd⟩ ρ w (Goal G μ w0 lo (lo + 1) (.m lo) ((lo, .map []) :: H)) := by
  obtain ⟨L, hL, hI⟩ := hM
  refine s_makeMap hI fun b w' hI' => ⟨_, Ext.one hf h (b, 0), ⟨b, 0, Mu.put_same _ _ _, rfl⟩, _, hL.cons hf h ⟨[], 0, rfl, ⟨List.nodup_nil, List.nodup_nil, fun e he => by cases he⟩, fun j => rfl⟩, hI'⟩
theorem mapUpdate_ok (hE : ERel μ σ ρ) (hM : Mem G μ w0 w H) {T : TypeId} {m k x : Operand} {H' : Hp} (h : eMapUpdate P H T (evV σ m) (evV σ k) (evV σ x) = some H') : Step P ⟨d, .mapUpdate T m k x, ty, pos, af, gd⟩ ρ w (Goal G μ w0 lo lo (.v undef) H') := by
  have hm := hE.ev m
  have hk := hE.ev k
  have hx := hE.ev x
  unfold eMapUpdate at h
  split at h
  · rename_i K E i j hu hme hke
    rw [hme] at hm
    rw [hke] at hk
    obtain ⟨b, n, e1, e2⟩ := hm
    split at h
    · rename_i kd es hK hg
      injection h with h
      subst h
      obtain ⟨L, hL, hI⟩ := hM
      obtain ⟨ix, b', n', ob, l1, l2, ⟨en, clk, l3, l4, l5⟩, l6, _⟩ := hL.get hg rfl
      rw [e1] at l2
      injection l2 with l2
      injection l2 with l2 l2'
      subst l2; subst l2'; subst l3
      refine s_mapUpdate hI hu hK ix e2 hk rfl l1 l4 fun es' clk' w' hI' ho hg' => ⟨μ, Ext.refl _ _, rfl, _, l6 μ _ _ (fun _ _ h => h) e1 ⟨es', clk', rfl, ho, fun q => ?_⟩, hI'⟩
      rw [hg' q]
      simp only [vget]
      by_cases hq : q = j
      · subst hq; simp only [decide_true, cond_true, if_true]; exact ⟨_, rfl, hx⟩
      · simp only [hq, decide_false, cond_false, if_false]
        rw [vget_del, if_neg hq]; exact l5 q
    · cases h
  · cases h
theorem delete_ok (hE : ERel μ σ ρ) (hM : Mem G μ w0 w H) {T K2 : TypeId} {m k : Operand} {H' : Hp} (h : eDelete P H T (evV σ m) (evV σ k) = some H') : Step P ⟨d, .call ⟨.builtin .delete, #[m, k], #[T, K2]⟩, ty, pos, af, gd⟩ ρ w (Goal G μ w0 lo lo (.v undef) H') := by
  have hm := hE.ev m
  have hk := hE.ev k
  unfold eDelete at h
  split at h
  · rename_i K E i j hu hme hke
    rw [hme] at hm
    rw [hke] at hk
    obtain ⟨b, n, e1, e2⟩ := hm
    split at h
    · rename_i kd es hK hg
      injection h with h
      subst h
      obtain ⟨L, hL, hI⟩ := hM
      obtain ⟨ix, b', n', ob, l1, l2, ⟨en, clk, l3, l4, l5⟩, l6, _⟩ := hL.get hg rfl
      rw [e1] at l2
      injection l2 with l2
      injection l2 with l2 l2'
      subst l2; subst l2'; subst l3
      refine v_s_delete hI hu hK ix e2 hk l1 l4 fun es' w' hI' ho hg' => ⟨μ, Ext.refl _ _, rfl, _, l6 μ _ _ (fun _ _ h => h) e1 ⟨es', clk, rfl, ho, fun q => ?_⟩, hI'⟩
      rw [hg' q, vget_del]
      by_cases hq : q = j
      · subst hq; simp only [if_true]; exact rfl
      · simp only [hq, if_false]; exact l5 q
    · cases h
  · cases h
theorem run_lookup2 {T K E b : TypeId} {kd : IntKind} {z : Value} {es : List En} {clk : Nat} (hT : P.underlying T = some (.map K E)) (hK : P.underlying K = some (.int kd)) (hz : ∀ w, (zeroValue E).run P w = .ok z w) (k : Int) (hb : w.heap[b]? = some (mobj es clk)) :
    (Instr.lookup T (.map (some b)) (.int .i64 k) true).run P w = .ok (.tuple #[(mget es k).getD z, .bool (mget es k).isSome]) w := by
  unfold Instr.lookup
  have hg : (getObj b).run P w = .ok (mobj es clk) w := by simp only [getObj, Sem.run, hb]
  have hf := run_findKey (P := P) hK es k w
  have hm := mfind_get es k 0
  simp only [Sem.run_bind, run_underlying hT, Result.andThen_ok, hg, Sem.run_pure, run_checkKey K k kd hK, List.toList_toArray]
  rw [hf]
  cases hq : mfind es k 0 with
  | none => rw [hq] at hm; simp at hm; simp [hz, ← hm]
  | some p => rw [hq] at hm; simp at hm; simp [← hm]
theorem lookup_ok (hE : ERel μ σ ρ) (hM : Mem G μ w0 w H) {T : TypeId} {m k : Operand} {ok : Bool} {y : V} (h : eLookup P H T (evV σ m) (evV σ k) ok = some y) : Step P ⟨d, .lookup T m k ok, ty, pos, af, gd⟩ ρ w (Goal G μ w0 lo lo y H) := by
  have hm := hE.ev m
  have hk := hE.ev k
  unfold eLookup at h
  split at h
  · rename_i K E i j hu hme hke
    rw [hme] at hm
    rw [hke] at hk
    obtain ⟨b, n, e1, e2⟩ := hm
    have e3 : ev ρ k = .int .i64 j := hk
    split at h
    · rename_i kd es z hK hg hz
      injection h with h
      subst h
      have hM' := hM
      obtain ⟨L, hL, hI⟩ := hM
      obtain ⟨ix, b', n', ob, l1, l2, ⟨en, clk, l3, l4, l5⟩, l6, _⟩ := hL.get hg rfl
      rw [e1] at l2
      injection l2 with l2
      injection l2 with l2 l2'
      subst l2; subst l2'; subst l3
      have hbk := (hI.has ix b _ l1).1
      have hj := l5 j
      have hd : Den μ ((vget es j).getD (ofV z)) ((mget en j).getD z) := by
        cases hv : vget es j with
        | none => rw [hv] at hj; have hj : mget en j = none := hj; rw [hj]; exact den_ofV μ z
        | some x => rw [hv] at hj; obtain ⟨v, h1, h2⟩ := hj; rw [h1]; exact h2
      have hs : (mget en j).isSome = (vget es j).isSome := by
        cases hv : vget es j with
        | none => rw [hv] at hj; have hj : mget en j = none := hj; rw [hj]; rfl
        | some x => rw [hv] at hj; obtain ⟨v, h1, h2⟩ := hj; rw [h1]; rfl
      cases ok with
      | false =>
        refine s_lookup hI _ hu hK (runPure_run hz) ix e2 e3 l1 rfl ⟨μ, Ext.refl _ _, ?_, hM'⟩
        cases hv : vget es j with
        | none => rw [hv] at hd; exact hd
        | some x => rw [hv] at hd; exact hd
      | true =>
        refine s_pure (.tuple #[(mget en j).getD z, .bool (mget en j).isSome]) ?_ ⟨μ, Ext.refl _ _, ?_, hM'⟩
        · have : execOp (ev ρ) ⟨d, .lookup T m k true, ty, pos, af, gd⟩ = (do pure (.value (← Instr.lookup T (ev ρ m) (ev ρ k) true))) := rfl
          rw [this, e2, e3, Sem.run_bind, run_lookup2 hu hK (runPure_run hz) j hbk]
          rfl
        · rw [hs]
          cases hv : vget es j with
          | none => rw [hv] at hd; exact ⟨[_, _], rfl, _, _, rfl, hd, _, _, rfl, rfl, rfl⟩
          | some x => rw [hv] at hd; exact ⟨[_, _], rfl, _, _, rfl, hd, _, _, rfl, rfl, rfl⟩
    · cases h
  · cases h
end ops
end Go.K
end
section
/-
  A run by reckoning, seventh part: one operation; a region; a region that draws its order. No condition.
-/
namespace Go.K
open Go.RowKit
set_option linter.unusedVariables false
set_option linter.unusedSimpArgs false

/-- No function has the name that the model takes for itself. -/
def NamesOk (P : Program) : Prop := P.funcs.all (fun fn => !(fn.name == "runtime.NumGoroutine")) = true
/-- What enters a function of the program. -/
theorem enter_ok {P : Program} (hn : NamesOk P) {f : Nat} {fn : Func} (hf : P.funcs[f]? = some fn) (hb : fn.body.isSome = true) (cap args : Array Value) (W : World) : (invoke (.fn (.func f) cap) args).run P W = .ok (.enter f (args ++ cap)) W := by
  unfold NamesOk at hn
  have hname : (fn.name == "runtime.NumGoroutine") = false := by
    rw [Array.all_eq_true_iff_forall_mem] at hn
    have := hn fn (Array.mem_of_getElem? hf)
    simpa using this
  have hb2 : ¬ fn.body = none := fun h => by rw [h] at hb; cases hb
  have hn2 : ¬ fn.name = "runtime.NumGoroutine" := by simpa using hname
  simp [invoke, callFunc, go_sem, hf, hn2, hb2]

abbrev Res := Option (V × Hp × Nat)
abbrev Caller := Lps → V → List V → Hp → Nat → Nat → Res
/-- What a call by reckoning promises. -/
def CallerOk (P : Program) (call : Caller) : Prop := ∀ (G : Ctx) fv args H lo hi x H' lo', call G.G fv args H lo hi = some (x, H', lo') →
  ∀ μ w0 w u us, Den μ fv u → Dens μ args us → Mem G μ w0 w H → Free μ lo hi → CallV P u us w (Goal G μ w0 lo lo' x H')

def andV (x : Option V) (H : Hp) (lo : Nat) : Res := match x with
  | some x => some (x, H, lo)
  | none => none
def andH (x : Option Hp) (lo : Nat) : Res := match x with
  | some H => some (.v undef, H, lo)
  | none => none
/-- A call whose operands hold no address of the call's own: of a method, say. -/
noncomputable def evalEnter (P : Program) (call : Caller) (G : Lps) (σ : Fr) (H : Hp) (lo hi : Nat) (o : Oper) : Res :=
  bif allPlain σ o.op.operands.toList && noSel o.op then
    match runPure P (execOp (plainEv σ) o) with
    | some (.enter f args) => bif (P.funcs[f]?).any (·.body.isSome) then call G (.v (.func (.func f) #[] #[])) (args.toList.map ofV1) H lo hi else none
    | _ => none
  else none
noncomputable def evalCallee (P : Program) (call : Caller) (G : Lps) (σ : Fr) (H : Hp) (lo hi : Nat) (o : Oper) (c : Call) : Res :=
  match c.callee, c.args.toList, c.argTypes.toList with
  | .value f, args, _ => call G (evV σ f) (evVs σ args) H lo hi
  | .builtin .append, [x, y], [t, t'] => bif Nat.beq t t' && Nat.blt lo hi then eAppend P H lo t (evV σ x) (evV σ y) else none
  | .builtin .clear, [x], [t] => andH (eClear P H t (evV σ x)) lo
  | .builtin .delete, [m, k], [t, _] => andH (eDelete P H t (evV σ m) (evV σ k)) lo
  | .invoke _ _, _, _ => evalEnter P call G σ H lo hi o
  | _, _, _ => andV (evalPureK o P σ) H lo
/-- One operation. -/
noncomputable def evalOp (P : Program) (call : Caller) (G : Lps) (σ : Fr) (H : Hp) (lo hi : Nat) (o : Oper) : Res :=
  match o.op with
  | .load t a => andV (eLoad P H t (evV σ a)) H lo
  | .store t a x => andH (eStore P H t (evV σ a) (evV σ x)) lo
  | .box T x => bif Nat.blt lo hi then some (.p lo 0, (lo, .cells (evV σ x).cells T true) :: H, lo + 1) else none
  | .alloc T => match runPure P (zeroValue T) with
    | some z => bif Nat.blt lo hi then some (.p lo 0, (lo, .cells (z.cells.toList.map .v) T true) :: H, lo + 1) else none
    | none => none
  | .buildSlice t len parts => match eBuildSlice P σ t len parts with
    | some (E, cs, k) => bif Nat.blt lo hi then some (.s lo 0 len k, (lo, .cells cs E true) :: H, lo + 1) else none
    | none => match len with
      | 0 => bif eEmpty P t parts then some (.z true, H, lo) else none
      | _ => none
  | .makeSlice t x y => match eMakeSlice P t (evV σ x) (evV σ y) with
    | some (E, cs, n, k) => bif Nat.blt lo hi then some (.s lo 0 n k, (lo, .cells cs E true) :: H, lo + 1) else none
    | none => none
  | .makeMap _ none => bif Nat.blt lo hi then some (.m lo, (lo, .map []) :: H, lo + 1) else none
  | .mapUpdate T m k x => andH (eMapUpdate P H T (evV σ m) (evV σ k) (evV σ x)) lo
  | .lookup T m k ok => andV (eLookup P H T (evV σ m) (evV σ k) ok) H lo
  | .call c => evalCallee P call G σ H lo hi o c
  | _ => andV (evalPure P σ o) H lo

/-- The same, the operation first: so each way stands by itself. -/
noncomputable def evalOpK (o : Oper) : Program → Caller → Lps → Fr → Hp → Nat → Nat → Res :=
  match o.op with
  | .load t a => fun P call G σ H lo hi => andV (eLoad P H t (evV σ a)) H lo
  | .store t a x => fun P call G σ H lo hi => andH (eStore P H t (evV σ a) (evV σ x)) lo
  | .box T x => fun P call G σ H lo hi => bif Nat.blt lo hi then some (.p lo 0, (lo, .cells (evV σ x).cells T true) :: H, lo + 1) else none
  | .alloc T => fun P call G σ H lo hi => evalOp P call G σ H lo hi o
  | .buildSlice t len parts => fun P call G σ H lo hi => evalOp P call G σ H lo hi o
  | .makeSlice t x y => fun P call G σ H lo hi => evalOp P call G σ H lo hi o
  | .makeMap _ _ => fun P call G σ H lo hi => evalOp P call G σ H lo hi o
  | .mapUpdate T m k x => fun P call G σ H lo hi => evalOp P call G σ H lo hi o
  | .lookup T m k ok => fun P call G σ H lo hi => evalOp P call G σ H lo hi o
  | .call c => fun P call G σ H lo hi => evalCallee P call G σ H lo hi o c
  | _ => fun P call G σ H lo hi => andV (evalPureK o P σ) H lo
theorem evalOpK_eq (o : Oper) (P : Program) (call : Caller) (G : Lps) (σ : Fr) (H : Hp) (lo hi : Nat) : evalOpK o P call G σ H lo hi = evalOp P call G σ H lo hi o := by
  obtain ⟨d, op, ty, pos, af, gd⟩ := o
  cases op <;> simp only [evalOpK, evalOp, evalPureK_eq]

section one
variable {P : Program} {call : Caller} {G : Ctx} {μ : Mu} {w0 w : World} {H : Hp} {σ : Fr} {ρ : Env} {lo hi : Nat}
theorem andV_ok {x : Option V} {y : V} {H H' : Hp} {lo lo' : Nat} (h : andV x H lo = some (y, H', lo')) : x = some y ∧ H' = H ∧ lo' = lo := by
  unfold andV at h
  split at h
  · simp only [Option.some.injEq, Prod.mk.injEq] at h
    obtain ⟨rfl, rfl, rfl⟩ := h
    exact ⟨rfl, rfl, rfl⟩
  · cases h
theorem andH_ok {x : Option Hp} {y : V} {H' : Hp} {lo lo' : Nat} (h : andH x lo = some (y, H', lo')) : x = some H' ∧ y = .v undef ∧ lo' = lo := by
  unfold andH at h
  split at h
  · simp only [Option.some.injEq, Prod.mk.injEq] at h
    obtain ⟨rfl, rfl, rfl⟩ := h
    exact ⟨rfl, rfl, rfl⟩
  · cases h
theorem pureStep_ok (hE : ERel μ σ ρ) (hM : Mem G μ w0 w H) {o : Oper} {x : V} {H' : Hp} {lo' : Nat} (h : andV (evalPure P σ o) H lo = some (x, H', lo')) : Step P o ρ w (Goal G μ w0 lo lo' x H') := by
  obtain ⟨h1, rfl, rfl⟩ := andV_ok h
  obtain ⟨u, h2, h3⟩ := evalPure_ok hE h1
  exact s_pure u (h2 w) ⟨μ, Ext.refl _ _, h3, hM⟩
theorem bif_some {α : Type} {b : Bool} {x y : α} (h : (bif b then some x else none) = some y) : b = true ∧ x = y := by
  cases b with
  | false => cases h
  | true => exact ⟨rfl, by simpa using h⟩
theorem evalEnter_ok (hn : NamesOk P) (hc : CallerOk P call) (hE : ERel μ σ ρ) (hM : Mem G μ w0 w H) (hf : Free μ lo hi) {o : Oper} {x : V} {H' : Hp} {lo' : Nat} (h : evalEnter P call G.G σ H lo hi o = some (x, H', lo')) : Step P o ρ w (Goal G μ w0 lo lo' x H') := by
  unfold evalEnter at h
  cases hb : (allPlain σ o.op.operands.toList && noSel o.op) with
  | false => rw [hb] at h; cases h
  | true =>
    rw [hb] at h
    simp only [cond_true] at h
    simp only [Bool.and_eq_true] at hb
    split at h
    · rename_i f args hr
      cases hfn : (P.funcs[f]?).any (·.body.isSome) with
      | false => rw [hfn] at h; cases h
      | true =>
        rw [hfn] at h
        simp only [cond_true] at h
        have hce : execOp (ev ρ) o = execOp (plainEv σ) o := execOp_congr o (fun cs b he => by rw [he] at hb; exact absurd hb.2 (by simp [noSel])) fun y hy => by
          have h1 := (List.all_eq_true.1 hb.1) y (by simpa using hy)
          unfold plainEv
          cases hp : (evV σ y).plain with
          | none => rw [hp] at h1; cases h1
          | some v => exact (hE.ev y).plain hp
        cases hq : P.funcs[f]? with
        | none => rw [hq] at hfn; cases hfn
        | some fn =>
          rw [hq] at hfn
          have hcv := hc G _ _ _ _ _ _ _ _ h μ w0 w _ _ (show Den μ (.v (.func (.func f) #[] #[])) _ from rfl) (dens_ofV1 μ args.toList) hM hf
          unfold CallV at hcv
          have he := enter_ok hn hq (by simpa using hfn) #[] args w
          have he2 : ((do let d ← Deferred.ofValue (.func (.func f) #[] #[]) args.toList.toArray; invoke d.target d.args : Sem Next)).run P w = .ok (.enter f args) w := by
            simpa [Deferred.ofValue] using he
          rw [he2] at hcv
          unfold Step
          rw [hce, runPure_run hr w]
          exact hcv
    · cases h
theorem evalOp_ok (hn : NamesOk P) (hc : CallerOk P call) (hE : ERel μ σ ρ) (hM : Mem G μ w0 w H) (hf : Free μ lo hi) {o : Oper} {x : V} {H' : Hp} {lo' : Nat} (h : evalOp P call G.G σ H lo hi o = some (x, H', lo')) : Step P o ρ w (Goal G μ w0 lo lo' x H') := by
  have ho : o = ⟨o.dst, o.op, o.type, o.pos, o.after, o.guard⟩ := rfl
  unfold evalOp at h
  split at h
  · rename_i t a hop
    obtain ⟨h1, rfl, rfl⟩ := andV_ok h
    rw [ho, hop]
    exact load_ok hE hM h1
  · rename_i t a y hop
    obtain ⟨h1, rfl, rfl⟩ := andH_ok h
    rw [ho, hop]
    exact store_ok hE hM h1
  · rename_i T y hop
    obtain ⟨h1, h2⟩ := bif_some h
    simp only [Prod.mk.injEq] at h2
    obtain ⟨rfl, rfl, rfl⟩ := h2
    rw [ho, hop]
    exact box_ok hE hM hf (by simpa [Nat.blt_eq] using h1)
  · rename_i T hop
    split at h
    · rename_i z hz
      obtain ⟨h1, h2⟩ := bif_some h
      simp only [Prod.mk.injEq] at h2
      obtain ⟨rfl, rfl, rfl⟩ := h2
      rw [ho, hop]
      exact alloc_ok hM hf (by simpa [Nat.blt_eq] using h1) hz
    · cases h
  · rename_i t len parts hop
    split at h
    · rename_i E cs k hz
      obtain ⟨h1, h2⟩ := bif_some h
      simp only [Prod.mk.injEq] at h2
      obtain ⟨rfl, rfl, rfl⟩ := h2
      rw [ho, hop]
      exact buildSlice_ok hE hM hf (by simpa [Nat.blt_eq] using h1) hz
    · split at h
      · obtain ⟨h1, h2⟩ := bif_some h
        simp only [Prod.mk.injEq] at h2
        obtain ⟨rfl, rfl, rfl⟩ := h2
        rw [ho, hop]
        exact empty_ok hM h1
      · cases h
  · rename_i t y z hop
    split at h
    · rename_i E cs n k hz
      obtain ⟨h1, h2⟩ := bif_some h
      simp only [Prod.mk.injEq] at h2
      obtain ⟨rfl, rfl, rfl⟩ := h2
      rw [ho, hop]
      exact makeSlice_ok hE hM hf (by simpa [Nat.blt_eq] using h1) hz
    · cases h
  · rename_i T hop
    obtain ⟨h1, h2⟩ := bif_some h
    simp only [Prod.mk.injEq] at h2
    obtain ⟨rfl, rfl, rfl⟩ := h2
    rw [ho, hop]
    exact makeMap_ok hM hf (by simpa [Nat.blt_eq] using h1)
  · rename_i T m k y hop
    obtain ⟨h1, rfl, rfl⟩ := andH_ok h
    rw [ho, hop]
    exact mapUpdate_ok hE hM h1
  · rename_i T m k ok hop
    obtain ⟨h1, rfl, rfl⟩ := andV_ok h
    rw [ho, hop]
    exact lookup_ok hE hM h1
  · rename_i c hop
    obtain ⟨ce, as, ts⟩ := c
    unfold evalCallee at h
    split at h
    · rename_i f h1
      have h1 : ce = .value f := h1
      subst h1
      rw [ho, hop]
      refine s_callV (as.toList.map (ev ρ)) rfl (by apply Array.ext'; simp) (hc G _ _ _ _ _ _ _ _ h μ w0 w _ _ (hE.ev f) (hE.evs as.toList) hM hf) fun v w' hg => hg
    · rename_i y z t t' h1 h2 h3
      simp only at h1 h2 h3
      subst h1
      obtain rfl := arr_of h2
      obtain rfl := arr_of h3
      cases hb : (Nat.beq t t' && Nat.blt lo hi) with
      | false => rw [hb] at h; cases h
      | true =>
        rw [hb] at h
        simp only [cond_true] at h
        simp only [Bool.and_eq_true, Nat.beq_eq, Nat.blt_eq] at hb
        obtain ⟨rfl, hlt⟩ := hb
        rw [ho, hop]
        exact append_ok hE hM hf hlt h
    · rename_i y t h1 h2 h3
      simp only at h1 h2 h3
      subst h1
      obtain rfl := arr_of h2
      obtain rfl := arr_of h3
      obtain ⟨h1, rfl, rfl⟩ := andH_ok h
      rw [ho, hop]
      exact clear_ok hE hM h1
    · rename_i m k t t' h1 h2 h3
      simp only at h1 h2 h3
      subst h1
      obtain rfl := arr_of h2
      obtain rfl := arr_of h3
      obtain ⟨h1, rfl, rfl⟩ := andH_ok h
      rw [ho, hop]
      exact delete_ok hE hM h1
    · exact evalEnter_ok hn hc hE hM hf h
    · rw [evalPureK_eq] at h; exact pureStep_ok hE hM h
  · exact pureStep_ok hE hM h
end one

/-- Is the operation wanted? -/
noncomputable def wantV (ops : Array Oper) (σ : Fr) (o : Oper) : Option Bool :=
  match o.guard with
  | none => some true
  | some (j, b) => match (ops[j]?).bind (·.dst) with
    | some d => match getF σ d with
      | .v (.bool c) => some (c == b)
      | .v (.tuple _) => some false
      | _ => none
    | none => none
theorem want_ok {μ : Mu} {σ : Fr} {ρ : Env} (hE : ERel μ σ ρ) {ops : Array Oper} {o : Oper} {b : Bool} (h : wantV ops σ o = some b) : Region.wanted o (yieldE ops ρ) = b := by
  unfold wantV at h
  unfold Region.wanted
  split at h
  · rename_i hg
    rw [hg]
    injection h
  · rename_i j c hg
    rw [hg]
    simp only
    split at h
    · rename_i d hd
      have hy : yieldE ops ρ j = (match ρ d with | .bool b => some b | _ => none) := by unfold yieldE; rw [hd]; rfl
      rw [hy]
      have hr := hE d
      split at h
      · rename_i e he
        rw [he] at hr
        have hr : ρ d = _ := hr
        rw [hr]
        injection h with h
      · rename_i e he
        rw [he] at hr
        have hr : ρ d = _ := hr
        rw [hr]
        injection h with h
      · cases h
    · cases h

/-- One operation, and what comes behind it. -/
noncomputable def stepK (o : Oper) : Program → Caller → Lps → Fr → Hp → Nat → Nat → (Fr → Hp → Nat → Option (Fr × Hp × Nat)) → Option (Fr × Hp × Nat) :=
  match o.op with
  | .move x => fun P call G σ H lo hi k => k (setO σ o.dst (evV σ x)) H lo
  | .assign x => fun P call G σ H lo hi k => k (setO σ o.dst (evV σ x)) H lo
  | _ => fun P call G σ H lo hi k => match evalOpK o P call G σ H lo hi with
    | some (x, H', lo') => k (setO σ o.dst x) H' lo'
    | none => none
theorem stepK_spec {o : Oper} {P : Program} {call : Caller} {G : Lps} {σ : Fr} {H : Hp} {lo hi : Nat} {k : Fr → Hp → Nat → Option (Fr × Hp × Nat)} {r : Fr × Hp × Nat} (h : stepK o P call G σ H lo hi k = some r) : ∃ x H' lo', evalOp P call G σ H lo hi o = some (x, H', lo') ∧ k (setO σ o.dst x) H' lo' = some r := by
  have gen : (match evalOpK o P call G σ H lo hi with
    | some (x, H', lo') => k (setO σ o.dst x) H' lo'
    | none => none) = some r → ∃ x H' lo', evalOp P call G σ H lo hi o = some (x, H', lo') ∧ k (setO σ o.dst x) H' lo' = some r := fun h => by
    rw [evalOpK_eq] at h
    split at h
    · rename_i x H' lo' he
      exact ⟨x, H', lo', he, h⟩
    · cases h
  obtain ⟨d, op, ty, pos, af, gd⟩ := o
  cases op with
  | move x => exact ⟨evV σ x, H, lo, rfl, h⟩
  | assign x => exact ⟨evV σ x, H, lo, rfl, h⟩
  | _ => exact gen h
/-- The operations of a region, one after the other. -/
noncomputable def evalSeq (P : Program) (call : Caller) (G : Lps) (hi : Nat) (ops : Array Oper) : List Oper → Fr → Hp → Nat → Option (Fr × Hp × Nat)
  | [], σ, H, lo => some (σ, H, lo)
  | o :: l, σ, H, lo => match o.guard with
    | none => stepK o P call G σ H lo hi (evalSeq P call G hi ops l)
    | some _ => match wantV ops σ o with
      | some true => stepK o P call G σ H lo hi (evalSeq P call G hi ops l)
      | some false => evalSeq P call G hi ops l (setO σ o.dst (.v undef)) H lo
      | none => none
theorem evalSeq_ok {P : Program} {call : Caller} (hn : NamesOk P) (hc : CallerOk P call) {G : Ctx} {w0 : World} {hi : Nat} {ops : Array Oper} {K : Env → World → Prop} : ∀ {l : List Oper} {σ σ' : Fr} {H H' : Hp} {lo lo' : Nat} {μ : Mu} {ρ : Env} {w : World}, evalSeq P call G.G hi ops l σ H lo = some (σ', H', lo') →
    ERel μ σ ρ → Mem G μ w0 w H → Free μ lo hi → (∀ μ' ρ' w', Ext μ μ' lo lo' → ERel μ' σ' ρ' → Mem G μ' w0 w' H' → K ρ' w') → Seq P ops K l ρ w
  | [], σ, σ', H, H', lo, lo', μ, ρ, w, h, hE, hM, hf, k => by
    simp only [evalSeq, Option.some.injEq, Prod.mk.injEq] at h
    obtain ⟨rfl, rfl, rfl⟩ := h
    exact k μ ρ w (Ext.refl _ _) hE hM
  | o :: l, σ, σ', H, H', lo, lo', μ, ρ, w, h, hE, hM, hf, k => by
    have yes : Region.wanted o (yieldE ops ρ) = true → stepK o P call G.G σ H lo hi (evalSeq P call G.G hi ops l) = some (σ', H', lo') → Seq P ops K (o :: l) ρ w := fun hw h => by
      unfold Seq
      rw [hw]
      obtain ⟨x, H1, lo1, ho, hk⟩ := stepK_spec h
      refine (evalOp_ok hn hc hE hM hf ho).mono fun v w' ⟨μ', h1, h2, h3⟩ => ?_
      exact evalSeq_ok hn hc hk ((hE.mono h1.le).set _ h2) h3 (h1.free hf) fun μ'' ρ' w'' h4 h5 h6 => k μ'' ρ' w'' (h1.trans h4) h5 h6
    simp only [evalSeq] at h
    split at h
    · rename_i hg
      exact yes (by unfold Region.wanted; rw [hg]) h
    · split at h
      · rename_i hw
        exact yes (want_ok hE hw) h
      · rename_i hw
        unfold Seq
        rw [want_ok hE hw]
        exact evalSeq_ok hn hc h (hE.set _ rfl) hM hf k
      · cases h

/-! ### Equal states -/
def beq1 : Value → Value → Bool
  | .bool a, .bool b => a == b
  | .int k n, .int l m => decide (k = l) && decide (n = m)
  | .pointer a, .pointer b => decide (a = b)
  | .slice none n c, .slice none m d => Nat.beq n m && Nat.beq c d
  | .map none, .map none => true
  | .nilFunc, .nilFunc => true
  | .nilIface, .nilIface => true
  | .func f a b, .func g c d => decide (f = g) && a.isEmpty && b.isEmpty && c.isEmpty && d.isEmpty
  | .tuple a, .tuple b => a.isEmpty && b.isEmpty
  | .string a, .string b => decide (a = b)
  | _, _ => false
theorem empty_of {α : Type} {a : Array α} (h : a.isEmpty = true) : a = #[] := by simpa using h
theorem beq1_eq {a b : Value} (h : beq1 a b = true) : a = b := by
  unfold beq1 at h
  split at h
  · rw [beq_iff_eq.1 h]
  · simp only [Bool.and_eq_true, decide_eq_true_eq] at h; rw [h.1, h.2]
  · simp only [decide_eq_true_eq] at h; rw [h]
  · simp only [Bool.and_eq_true, Nat.beq_eq] at h; rw [h.1, h.2]
  · rfl
  · rfl
  · rfl
  · simp only [Bool.and_eq_true, decide_eq_true_eq] at h
    rw [h.1.1.1.1, empty_of h.1.1.1.2, empty_of h.1.1.2, empty_of h.1.2, empty_of h.2]
  · simp only [Bool.and_eq_true] at h; rw [empty_of h.1, empty_of h.2]
  · simp only [decide_eq_true_eq] at h; rw [h]
  · cases h
def beqL : List Value → List Value → Bool
  | [], [] => true
  | a :: l, b :: m => beq1 a b && beqL l m
  | _, _ => false
theorem beqL_eq : ∀ {l m : List Value}, beqL l m = true → l = m
  | [], m, h => by cases m <;> simp only [beqL, Bool.false_eq_true] at h; rfl
  | x :: l, m, h => by cases m <;> simp only [beqL, Bool.false_eq_true, Bool.and_eq_true] at h; rw [beq1_eq h.1, beqL_eq h.2]
def beqI : Value → Value → Bool
  | .agg a, .agg b => beqL a.toList b.toList
  | a, b => beq1 a b
theorem beqI_eq {a b : Value} (h : beqI a b = true) : a = b := by
  unfold beqI at h
  split at h
  · rw [Array.toList_inj.1 (beqL_eq h)]
  · exact beq1_eq h
def beqS : Value → Value → Bool
  | .iface t a, .iface u b => Nat.beq t u && beqI a b
  | a, b => beqI a b
theorem beqS_eq {a b : Value} (h : beqS a b = true) : a = b := by
  unfold beqS at h
  split at h
  · simp only [Bool.and_eq_true, Nat.beq_eq] at h; rw [h.1, beqI_eq h.2]
  · exact beqI_eq h
mutual
def beqV : V → V → Bool
  | .v a, .v b => beqS a b
  | .p i o, .p j q => Nat.beq i j && Nat.beq o q
  | .s i o n k, .s j q m l => Nat.beq i j && Nat.beq o q && Nat.beq n m && Nat.beq k l
  | .a l, .a m => beqVs l m
  | .t l, .t m => beqVs l m
  | .f f l c, .f g m d => decide (f = g) && beqVs l m && beqVs c d
  | .m i, .m j => Nat.beq i j
  | .y i, .y j => Nat.beq i j
  | .z b, .z c => b == c
  | _, _ => false
def beqVs : List V → List V → Bool
  | [], [] => true
  | x :: l, y :: m => beqV x y && beqVs l m
  | _, _ => false
end
mutual
theorem beqV_eq : ∀ {x y : V}, beqV x y = true → x = y
  | .v a, y, h => by cases y <;> simp only [beqV, Bool.false_eq_true] at h; rw [beqS_eq h]
  | .p i o, y, h => by cases y <;> simp only [beqV, Bool.false_eq_true, Bool.and_eq_true, Nat.beq_eq] at h; rw [h.1, h.2]
  | .s i o n k, y, h => by cases y <;> simp only [beqV, Bool.false_eq_true, Bool.and_eq_true, Nat.beq_eq] at h; rw [h.1.1.1, h.1.1.2, h.1.2, h.2]
  | .a l, y, h => by cases y <;> simp only [beqV, Bool.false_eq_true] at h; rw [beqVs_eq h]
  | .t l, y, h => by cases y <;> simp only [beqV, Bool.false_eq_true] at h; rw [beqVs_eq h]
  | .f f l c, y, h => by cases y <;> simp only [beqV, Bool.false_eq_true, Bool.and_eq_true, decide_eq_true_eq] at h; rw [h.1.1, beqVs_eq h.1.2, beqVs_eq h.2]
  | .m i, y, h => by cases y <;> simp only [beqV, Bool.false_eq_true, Nat.beq_eq] at h; rw [h]
  | .y i, y, h => by cases y <;> simp only [beqV, Bool.false_eq_true, Nat.beq_eq] at h; rw [h]
  | .z b, y, h => by cases y <;> simp only [beqV, Bool.false_eq_true, beq_iff_eq] at h; rw [h]
theorem beqVs_eq : ∀ {l m : List V}, beqVs l m = true → l = m
  | [], m, h => by cases m <;> simp only [beqVs, Bool.false_eq_true] at h; rfl
  | x :: l, m, h => by cases m <;> simp only [beqVs, Bool.false_eq_true, Bool.and_eq_true] at h; rw [beqV_eq h.1, beqVs_eq h.2]
end
/-- Equal frames. -/
def beqF : Fr → Fr → Bool
  | [], [] => true
  | x :: l, y :: m => beqVs x y && beqF l m
  | _, _ => false
theorem beqF_eq : ∀ {l m : Fr}, beqF l m = true → l = m
  | [], m, h => by cases m <;> simp only [beqF, Bool.false_eq_true] at h; rfl
  | x :: l, m, h => by cases m <;> simp only [beqF, Bool.false_eq_true, Bool.and_eq_true] at h; rw [beqVs_eq h.1, beqF_eq h.2]
def beqM : List (Int × V) → List (Int × V) → Bool
  | [], [] => true
  | (i, x) :: l, (j, y) :: m => decide (i = j) && beqV x y && beqM l m
  | _, _ => false
theorem beqM_eq : ∀ {l m : List (Int × V)}, beqM l m = true → l = m
  | [], m, h => by cases m <;> simp only [beqM, Bool.false_eq_true] at h; rfl
  | (i, x) :: l, m, h => by
    cases m <;> simp only [beqM, Bool.false_eq_true, Bool.and_eq_true, decide_eq_true_eq] at h
    rw [h.1.1, beqV_eq h.1.2, beqM_eq h.2]
def beqP : PE → PE → Bool
  | .none, .none => true
  | .ret, .ret => true
  | .exit i, .exit j => Nat.beq i j
  | _, _ => false
theorem beqP_eq {a b : PE} (h : beqP a b = true) : a = b := by
  cases a <;> cases b <;> simp_all [beqP]
def beqO : O → O → Bool
  | .cells l T x, .cells m U y => beqVs l m && Nat.beq T U && (x == y)
  | .ro l T, .ro m U => beqVs l m && Nat.beq T U
  | .map l, .map m => beqM l m
  | .loop s p, .loop t q => decide (s = t) && beqP p q
  | .defs, .defs => true
  | .dead, .dead => true
  | _, _ => false
theorem beqO_eq {a b : O} (h : beqO a b = true) : a = b := by
  cases a <;> cases b <;> simp only [beqO, Bool.false_eq_true, Bool.and_eq_true, Nat.beq_eq, beq_iff_eq, decide_eq_true_eq] at h
  · rw [beqVs_eq h.1.1, h.1.2, h.2]
  · rw [beqVs_eq h.1, h.2]
  · rw [beqM_eq h]
  · rw [h.1, beqP_eq h.2]
  · rfl
  · rfl
/-- Are all of these entries there, no name twice? -/
noncomputable def subH (H H' : Hp) : Bool := match H with
  | [] => true
  | (i, o) :: R => (match hget H' i with
    | some q => beqO o q
    | none => false) && (match hget R i with
    | some _ => false
    | none => true) && subH R H'
theorem LRel.index {G : Ctx} {μ : Mu} : ∀ {H : Hp} {L : List (Option Nat × Obj)} {i : Nat} {o : O}, LRel G μ H L → hget H i = some o → ∃ (k : Nat) (g : Option Nat) (ob : Obj), L[k]? = some (g, ob) ∧ (H[k]?).map (fun p : Nat × O => p.1) = some i ∧ Ent G μ i o g ob
  | [], _, _, _, _, hg => by simp [hget_nil] at hg
  | (j, q) :: H, _, i, o, ⟨g, ob, L', h1, h2, h3⟩, hg => by
    subst h1
    cases hb : Nat.beq i j with
    | true =>
      have hij := Nat.eq_of_beq_eq_true hb
      subst hij
      simp only [hget_cons, hb, cond_true, Option.some.injEq] at hg
      subst hg
      exact ⟨0, g, ob, rfl, rfl, h3⟩
    | false =>
      simp only [hget_cons, hb, cond_false] at hg
      obtain ⟨k, c, ob', e1, e2, e3⟩ := h2.index hg
      exact ⟨k + 1, c, ob', by simpa using e1, by simpa using e2, e3⟩
theorem hget_none : ∀ {R : Hp} {i : Nat}, hget R i = none → ∀ o, (i, o) ∉ R
  | [], _, _, _, h => by cases h
  | (j, q) :: R, i, hg, o, h => by
    cases hb : Nat.beq i j with
    | true => simp [hget_cons, hb] at hg
    | false =>
      simp only [hget_cons, hb, cond_false] at hg
      rcases List.mem_cons.1 h with h | h
      · injection h with h1 h2
        subst h1
        rw [Nat.beq_refl] at hb
        cases hb
      · exact hget_none hg o h
theorem LRel.sub {G : Ctx} {μ : Mu} {H' : Hp} {L : List (Option Nat × Obj)} (hL : LRel G μ H' L) : ∀ {H : Hp}, subH H H' = true → ∃ l L', l.Nodup ∧ pickL L l = some L' ∧ LRel G μ H L' ∧ ∀ k ∈ l, ∃ i o, (i, o) ∈ H ∧ (H'[k]?).map (fun p : Nat × O => p.1) = some i
  | [], _ => ⟨[], [], List.nodup_nil, rfl, rfl, fun k hk => by cases hk⟩
  | (i, o) :: R, h => by
    simp only [subH, Bool.and_eq_true] at h
    obtain ⟨⟨h1, h2⟩, h3⟩ := h
    obtain ⟨l, L', e1, e2, e3, e4⟩ := hL.sub h3
    split at h1
    · rename_i q hq
      have hoq := beqO_eq h1
      subst hoq
      obtain ⟨k, g, ob, f1, f2, f3⟩ := hL.index hq
      refine ⟨k :: l, (g, ob) :: L', ?_, ?_, ⟨_, _, _, rfl, e3, f3⟩, fun k' hk' => ?_⟩
      · rw [List.nodup_cons]
        refine ⟨fun hk => ?_, e1⟩
        obtain ⟨i', o', g1, g2⟩ := e4 k hk
        rw [f2] at g2
        injection g2 with g2
        subst g2
        split at h2
        · cases h2
        · rename_i hn
          exact hget_none hn o' g1
      · simp only [pickL, f1, e2]
      · rcases List.mem_cons.1 hk' with rfl | hk'
        · exact ⟨i, o, List.mem_cons_self, f2⟩
        · obtain ⟨i', o', g1, g2⟩ := e4 k' hk'
          exact ⟨i', o', List.mem_cons_of_mem _ g1, g2⟩
    · cases h1
theorem Mem.sub {G : Ctx} {μ : Mu} {w0 w : World} {H H' : Hp} (h : Mem G μ w0 w H') (hs : subH H H' = true) : Mem G μ w0 w H := by
  obtain ⟨L, h1, h2⟩ := h
  obtain ⟨l, L', e1, e2, e3, _⟩ := h1.sub hs
  exact ⟨L', e3, h2.pickL l e1 e2⟩
end Go.K
end
section
/-
  A run by reckoning, part 7b: regions that draw their order, with what stays all along. No condition.
-/
namespace Go.K
open Go.RowKit
set_option linter.unusedVariables false
set_option linter.unusedSimpArgs false
section drawn
variable {P : Program} {ops : Array Oper} {B : Option Nat} {w0 : World} {C : World → Prop} {Q : Env → World → Prop}
/-- Whatever order is picked from here on. -/
def AnyC (P : Program) (ops : Array Oper) (B : Option Nat) (w0 : World) (C : World → Prop) (Q : Env → World → Prop) : Nat → Array Bool → Env → List (Option Nat × Obj) → Prop
  | 0, listed, ρ, L => Region.ready .any ops listed = [] ∧ ∀ w, Inv B w0 w L → Q ρ w
  | fuel + 1, listed, ρ, L =>
    (Region.ready .any ops listed = [] → ∀ w, Inv B w0 w L → Q ρ w) ∧
    ∀ i ∈ Region.ready .any ops listed, ∀ w, Inv B w0 w L → opX P ops i ρ w (fun ρ' w' => ∃ L', Inv B w0 w' L' ∧ (∀ x, Inv B w0 x L' → C x) ∧ AnyC P ops B w0 C Q fuel (listed.setIfInBounds i true) ρ' L')

/-- A light operation: one value in every world of the class, and nothing turned. -/
def LightC (P : Program) (ops : Array Oper) (B : Option Nat) (w0 : World) (C : World → Prop) (o : Oper) (v : Value) (ρ : Env) : Prop :=
  (Region.wanted o (yieldE ops ρ) = true ∧ ∀ w, C w → Step P o ρ w (fun v' w' => v' = v ∧ Below w.heap.size w w')) ∨ (Region.wanted o (yieldE ops ρ) = false ∧ v = undef)

theorem LightC.of_same {o : Oper} {v : Value} {ρ ρ' : Env} (h : LightC P ops B w0 C o v ρ) (he : execOp (ev ρ') o = execOp (ev ρ) o) (hw : Region.wanted o (yieldE ops ρ') = Region.wanted o (yieldE ops ρ)) : LightC P ops B w0 C o v ρ' := by
  unfold LightC Step at *
  rw [he, hw]
  exact h

theorem anyC_first {i : Nat} {oi : Oper} {v : Value} (hi : ops[i]? = some oi) (hsel : ∀ (j : Nat) (o : Oper) cs b, ops[j]? = some o → o.op ≠ .select cs b) :
    ∀ (fuel : Nat) (listed : Array Bool) (ρ : Env) (L : List (Option Nat × Obj)), (∀ x, Inv B w0 x L → C x) →
      (∀ j oj, ops[j]? = some oj → j ≠ i → listed.getD j true = false → (∀ e ∈ oj.after, Region.binds .any e = true → e.on ≠ i) → oi.apart ops oj = true) →
      i ∈ Region.ready .any ops listed → LightC P ops B w0 C oi v ρ →
      AnyC P ops B w0 C Q fuel (listed.setIfInBounds i true) (updO ρ oi.dst v) L → AnyC P ops B w0 C Q (fuel + 1) listed ρ L := by
  have one : ∀ (fuel : Nat) (listed : Array Bool) (ρ : Env) (L : List (Option Nat × Obj)), (∀ x, Inv B w0 x L → C x) → LightC P ops B w0 C oi v ρ →
      AnyC P ops B w0 C Q fuel (listed.setIfInBounds i true) (updO ρ oi.dst v) L → ∀ w, Inv B w0 w L → opX P ops i ρ w (fun ρ' w' => ∃ L', Inv B w0 w' L' ∧ (∀ x, Inv B w0 x L' → C x) ∧ AnyC P ops B w0 C Q fuel (listed.setIfInBounds i true) ρ' L') := by
    intro fuel listed ρ L hsub hy H w hI
    unfold opX
    simp only [hi]
    rcases hy with ⟨hw, hv⟩ | ⟨hw, rfl⟩
    · simp only [hw]
      exact (hv w (hsub w hI)).mono fun v' w' ⟨e, hb⟩ => by subst e; exact ⟨L, hI.call hb, hsub, H⟩
    · simp only [hw]
      exact ⟨L, hI, hsub, H⟩
  intro fuel
  induction fuel with
  | zero =>
    intro listed ρ L hsub _ hr hy H
    refine ⟨fun h => (by rw [h] at hr; cases hr), fun j hj w hI => ?_⟩
    by_cases hji : j = i
    · subst hji; exact one 0 listed ρ L hsub hy H w hI
    · have := ready_mono hj hji
      rw [H.1] at this
      cases this
  | succ fuel ih =>
    intro listed ρ L hsub hfree hr hy H
    refine ⟨fun h => (by rw [h] at hr; cases hr), fun j hj w hI => ?_⟩
    by_cases hji : j = i
    · subst hji; exact one (fuel + 1) listed ρ L hsub hy H w hI
    · have h1 := H.2 j (ready_mono hj hji) w hI
      obtain ⟨hjun, oj, hoj, hall⟩ := mem_ready.1 hj
      have hnot : ∀ e ∈ oj.after, Region.binds .any e = true → e.on ≠ i := fun e he hb heq => by
        have h1 := hall e he hb
        have h0 := (mem_ready.1 hr).1
        rw [heq] at h1
        rcases Nat.lt_or_ge i listed.size with h' | h'
        · simp [h'] at h0 h1; rw [h0] at h1; cases h1
        · simp [Array.getElem?_eq_none h'] at h1
      have hap := hfree j oj hoj hji hjun hnot
      obtain ⟨a1, a2, a3⟩ := Oper.apart_spec hap
      have hfree' : ∀ k ok, ops[k]? = some ok → k ≠ i → (listed.setIfInBounds j true).getD k true = false →
          (∀ e ∈ ok.after, Region.binds .any e = true → e.on ≠ i) → oi.apart ops ok = true := fun k ok hk hki hun hno => by
        refine hfree k ok hk hki ?_ hno
        by_cases hjk : j = k
        · subst hjk; exact hjun
        · rw [getD_set_ne true hjk] at hun; exact hun
      have keep : ∀ u, LightC P ops B w0 C oi v (updO ρ oj.dst u) := fun u => hy.of_same (exec_upd oi (fun cs b => hsel i oi cs b hi) ρ oj.dst u a3) (wanted_upd oi ρ oj.dst u a3)
      have fin : ∀ u w' L', Inv B w0 w' L' → (∀ x, Inv B w0 x L' → C x) → AnyC P ops B w0 C Q fuel ((listed.setIfInBounds i true).setIfInBounds j true) (updO (updO ρ oi.dst v) oj.dst u) L' →
          ∃ L', Inv B w0 w' L' ∧ (∀ x, Inv B w0 x L' → C x) ∧ AnyC P ops B w0 C Q (fuel + 1) (listed.setIfInBounds j true) (updO ρ oj.dst u) L' := fun u w' L' hI' hs' hA => by
        refine ⟨L', hI', hs', ih (listed.setIfInBounds j true) (updO ρ oj.dst u) L' hs' hfree' (ready_mono hr (Ne.symm hji)) (keep u) ?_⟩
        rw [Array.setIfInBounds_comm _ _ hji, ← updO_comm ρ v u a2]
        exact hA
      unfold opX at h1 ⊢
      simp only [hoj] at h1 ⊢
      rw [wanted_upd oj ρ oi.dst v a1] at h1
      split
      · rename_i hw
        simp only [hw] at h1
        unfold Step at h1 ⊢
        rw [exec_upd oj (fun cs b => hsel j oj cs b hoj) ρ oi.dst v a1] at h1
        generalize (execOp (ev ρ) oj).run P w = r at *
        cases r with
        | ok x w' =>
          cases x with
          | value u => obtain ⟨L', h2, h3, h4⟩ := h1; exact fin u w' L' h2 h3 h4
          | skip => obtain ⟨L', h2, h3, h4⟩ := h1; exact fin undef w' L' h2 h3 h4
          | enter f args => exact Calls.mono h1 fun e w'' ⟨u, he, L', h2, h3, h4⟩ => ⟨u, he, fin u w'' L' h2 h3 h4⟩
          | round l f tmps assign body => exact RoundIn.mono h1 fun e w'' ⟨u, he, L', h2, h3, h4⟩ => ⟨u, he, fin u w'' L' h2 h3 h4⟩
          | _ => exact h1.elim
        | halt x w' => exact h1.elim
      · rename_i hw
        simp only [hw] at h1
        obtain ⟨L', h2, h3, h4⟩ := h1
        exact fin undef w L' h2 h3 h4

end drawn
theorem wpAny_of_AnyC {P : Program} {r : Option Nat} {ds : List Deferred} {n : Nat} {ops : Array Oper} {B : Option Nat} {w0 : World} {C : World → Prop} {Q : Env → World → Prop} {Q' : Exit → Act → World → Prop} (hd : ∀ (i : Nat) o, ops[i]? = some o → dstOk n o.dst = true)
    (hQ : ∀ ρ a w, Sat ds n ρ a → Q ρ w → Q' .normal a w) : ∀ (fuel : Nat) (listed : Array Bool) (ρ : Env) (a : Act) (w : World) (L : List (Option Nat × Obj)), Sat ds n ρ a → Inv B w0 w L → AnyC P ops B w0 C Q fuel listed ρ L → wpAnyIn (fen r) 0 P .any ops Q' fuel listed a w
  | 0, _, ρ, a, w, L, hs, hI, h => ⟨h.1, hQ _ _ _ hs (h.2 w hI)⟩
  | fuel + 1, listed, ρ, a, w, L, hs, hI, h => by
    refine ⟨fun h0 => hQ _ _ _ hs (h.1 h0 w hI), fun i hi => ?_⟩
    have h1 := h.2 i hi w hI
    unfold opX at h1
    unfold wpOpIn
    split
    · rename_i ho
      simp only [ho] at h1
      obtain ⟨L', h2, _, h4⟩ := h1
      exact wpAny_of_AnyC hd hQ fuel _ ρ a w L' hs h2 h4
    · rename_i o ho
      simp only [ho] at h1
      rw [hs.yielded]
      split
      · rename_i hw
        simp only [hw] at h1
        exact h1.toWp hs fun v w' ⟨L', h2, _, h4⟩ => wpAny_of_AnyC hd hQ fuel _ _ _ w' L' (hs.put (hd i o ho) v) h2 h4
      · rename_i hw
        have hw' : Region.wanted o (yieldE ops ρ) = false := by simpa using hw
        simp only [hw'] at h1
        obtain ⟨L', h2, _, h4⟩ := h1
        exact ⟨fun _ _ => trivial, wpAny_of_AnyC hd hQ fuel _ _ _ _ L' (hs.put (hd i o ho) undef) h2 h4⟩

theorem wp_drawnC {P : Program} {r : Option Nat} {ds : List Deferred} {n : Nat} {Q : List Deferred → Exit → Env → World → Prop} {ρ : Env} {B : Option Nat} {w w0 : World} {L : List (Option Nat × Obj)} {id : Nat} {l : List Oper} (hI : Inv B w0 w L) (C : World → Prop) (hm : P.follows .mixedOrders = true) (hd : dstsOk n l = true)
    (h : AnyC P l.toArray B w0 C (Q ds .normal) l.length (Array.replicate l.length false) ρ L) : WP r ds P n (.region id l.toArray true) Q ρ w :=
  ⟨fun a hs => wpIn_region_any hm (by
    have := wpAny_of_AnyC (P := P) (r := r) (ds := ds) (ops := l.toArray) (Q := Q ds .normal) (Q' := fun e a' w' => ∃ ds' ρ', Sat ds' n ρ' a' ∧ Q ds' e ρ' w') (fun i o ho => by
      simp only [dstsOk, List.all_eq_true] at hd
      exact hd o (List.mem_of_getElem? (by simpa using ho))) (fun ρ a w hs hk => ⟨ds, ρ, hs, hk⟩) l.length (Array.replicate l.length false) ρ a { w with drawn := w.drawn + 1 } L hs (hI.drew) h
    simpa using this)⟩
end Go.K
end
