/-
  The ground of my own proofs, sixth part: regions whose order is drawn. Operations that only look (or add blocks) may be taken first; of the others each that may come next is gone through. No condition.
-/
import Derived.Test.YtinkdlmimiefaaaGreatKe
namespace Go.K
open Go.RowKit

section drawn
variable {P : Program} {ops : Array Oper} {B : Option Nat} {w0 : World} {Lc : List (Option Nat × Obj)} {Q : Env → World → Prop}

theorem updO_comm (ρ : Env) {x y : Option Nat} (v u : Value) (h : ∀ d, x = some d → y ≠ some d) : updO (updO ρ x v) y u = updO (updO ρ y u) x v := by
  cases x with
  | none => rfl
  | some d =>
    cases y with
    | none => rfl
    | some e =>
      have hne : d ≠ e := fun he => h d rfl (he ▸ rfl)
      funext s
      show upd (upd ρ d v) e u s = upd (upd ρ e u) d v s
      by_cases h1 : s = d
      · subst h1
        rw [upd_ne _ _ hne, upd_same, upd_same]
      · by_cases h2 : s = e
        · subst h2
          rw [upd_same, upd_ne _ _ h1, upd_same]
        · rw [upd_ne _ _ h2, upd_ne _ _ h1, upd_ne _ _ h1, upd_ne _ _ h2]

theorem ev_upd {ρ : Env} {dst : Option Nat} {v : Value} {x : Operand} (h : ∀ d, dst = some d → x ≠ .tmp d) : ev (updO ρ dst v) x = ev ρ x := by
  cases dst with
  | none => rfl
  | some d =>
    cases x with
    | tmp t =>
      have hne : t ≠ d := fun e => h d rfl (e ▸ rfl)
      exact upd_ne ρ v hne
    | _ => rfl

theorem exec_upd (o : Oper) (hs : ∀ cs b, o.op ≠ .select cs b) (ρ : Env) (dst : Option Nat) (v : Value) (h : ∀ d, dst = some d → d ∉ o.looksAt ops) : execOp (ev (updO ρ dst v)) o = execOp (ev ρ) o :=
  execOp_congr o hs fun x hx => ev_upd fun d hd hxd => h d hd (by
    subst hxd
    exact List.mem_append_left _ (List.mem_filterMap.2 ⟨.tmp d, by simpa using hx, rfl⟩))

theorem wanted_upd (o : Oper) (ρ : Env) (dst : Option Nat) (v : Value) (h : ∀ d, dst = some d → d ∉ o.looksAt ops) : Region.wanted o (yieldE ops (updO ρ dst v)) = Region.wanted o (yieldE ops ρ) := by
  cases dst with
  | none => rfl
  | some d =>
    unfold Region.wanted
    cases hg : o.guard with
    | none => rfl
    | some gw =>
      obtain ⟨g, want⟩ := gw
      have hy : yieldE ops (updO ρ (some d) v) g = yieldE ops ρ g := by
        unfold yieldE
        cases ht : (ops[g]?).bind (·.dst) with
        | none => rfl
        | some t =>
          have hne : t ≠ d := fun e => h d rfl (by subst e; simp [Oper.looksAt, hg, ht])
          simp only [updO, upd_ne ρ v hne]
      simp only [hy]

/-- Operation i comes up. -/
def opX (P : Program) (ops : Array Oper) (i : Nat) (ρ : Env) (w : World) (K : Env → World → Prop) : Prop :=
  match ops[i]? with
  | none => K ρ w
  | some o =>
    match Region.wanted o (yieldE ops ρ) with
    | true => Step P o ρ w (fun v w' => K (updO ρ o.dst v) w')
    | false => K (updO ρ o.dst undef) w

theorem opX.mono {i : Nat} {ρ : Env} {w : World} {K K' : Env → World → Prop} (h : opX P ops i ρ w K) (hk : ∀ ρ w, K ρ w → K' ρ w) : opX P ops i ρ w K' := by
  unfold opX at *
  split
  · rename_i ho; simp only [ho] at h; exact hk _ _ h
  · rename_i o ho
    simp only [ho] at h
    split
    · rename_i hw; simp only [hw] at h; exact h.mono fun v w' hv => hk _ _ hv
    · rename_i hw; simp only [hw] at h; exact hk _ _ h

/-- Whatever order is picked from here on. -/
def AnyE (P : Program) (ops : Array Oper) (B : Option Nat) (w0 : World) (Lc : List (Option Nat × Obj)) (Q : Env → World → Prop) : Nat → Array Bool → Env → List (Option Nat × Obj) → Prop
  | 0, listed, ρ, L => Region.ready .any ops listed = [] ∧ ∀ w, Inv B w0 w L → Q ρ w
  | fuel + 1, listed, ρ, L =>
    (Region.ready .any ops listed = [] → ∀ w, Inv B w0 w L → Q ρ w) ∧
    ∀ i ∈ Region.ready .any ops listed, ∀ w, Inv B w0 w L → opX P ops i ρ w (fun ρ' w' => ∃ L', Inv B w0 w' L' ∧ (∀ x, Inv B w0 x L' → Inv B w0 x Lc) ∧ AnyE P ops B w0 Lc Q fuel (listed.setIfInBounds i true) ρ' L')

/-- A light operation: one value in every world of the class, and nothing turned. -/
def Light (P : Program) (ops : Array Oper) (B : Option Nat) (w0 : World) (Lc : List (Option Nat × Obj)) (o : Oper) (v : Value) (ρ : Env) : Prop :=
  (Region.wanted o (yieldE ops ρ) = true ∧ ∀ w, Inv B w0 w Lc → Step P o ρ w (fun v' w' => v' = v ∧ Below w.heap.size w w')) ∨ (Region.wanted o (yieldE ops ρ) = false ∧ v = undef)

theorem Light.of_same {o : Oper} {v : Value} {ρ ρ' : Env} (h : Light P ops B w0 Lc o v ρ) (he : execOp (ev ρ') o = execOp (ev ρ) o) (hw : Region.wanted o (yieldE ops ρ') = Region.wanted o (yieldE ops ρ)) : Light P ops B w0 Lc o v ρ' := by
  unfold Light Step at *
  rw [he, hw]
  exact h

theorem any_first {i : Nat} {oi : Oper} {v : Value} (hi : ops[i]? = some oi) (hsel : ∀ (j : Nat) (o : Oper) cs b, ops[j]? = some o → o.op ≠ .select cs b) :
    ∀ (fuel : Nat) (listed : Array Bool) (ρ : Env) (L : List (Option Nat × Obj)), (∀ x, Inv B w0 x L → Inv B w0 x Lc) →
      (∀ j oj, ops[j]? = some oj → j ≠ i → listed.getD j true = false → (∀ e ∈ oj.after, Region.binds .any e = true → e.on ≠ i) → oi.apart ops oj = true) →
      i ∈ Region.ready .any ops listed → Light P ops B w0 Lc oi v ρ →
      AnyE P ops B w0 Lc Q fuel (listed.setIfInBounds i true) (updO ρ oi.dst v) L → AnyE P ops B w0 Lc Q (fuel + 1) listed ρ L := by
  have one : ∀ (fuel : Nat) (listed : Array Bool) (ρ : Env) (L : List (Option Nat × Obj)), (∀ x, Inv B w0 x L → Inv B w0 x Lc) → Light P ops B w0 Lc oi v ρ →
      AnyE P ops B w0 Lc Q fuel (listed.setIfInBounds i true) (updO ρ oi.dst v) L → ∀ w, Inv B w0 w L → opX P ops i ρ w (fun ρ' w' => ∃ L', Inv B w0 w' L' ∧ (∀ x, Inv B w0 x L' → Inv B w0 x Lc) ∧ AnyE P ops B w0 Lc Q fuel (listed.setIfInBounds i true) ρ' L') := by
    intro fuel listed ρ L hsub hy H w hI
    unfold opX
    simp only [hi]
    rcases hy with ⟨hw, hv⟩ | ⟨hw, rfl⟩
    · simp only [hw]
      exact (hv w (hsub w hI)).mono fun v' w' ⟨e, hb⟩ => by subst e; exact ⟨L, hI.call hb, hsub, H⟩
    · simp only [hw]
      exact ⟨L, hI, hsub, H⟩
  intro fuel
  induction fuel with
  | zero =>
    intro listed ρ L hsub _ hr hy H
    refine ⟨fun h => (by rw [h] at hr; cases hr), fun j hj w hI => ?_⟩
    by_cases hji : j = i
    · subst hji; exact one 0 listed ρ L hsub hy H w hI
    · have := ready_mono hj hji
      rw [H.1] at this
      cases this
  | succ fuel ih =>
    intro listed ρ L hsub hfree hr hy H
    refine ⟨fun h => (by rw [h] at hr; cases hr), fun j hj w hI => ?_⟩
    by_cases hji : j = i
    · subst hji; exact one (fuel + 1) listed ρ L hsub hy H w hI
    · have h1 := H.2 j (ready_mono hj hji) w hI
      obtain ⟨hjun, oj, hoj, hall⟩ := mem_ready.1 hj
      have hnot : ∀ e ∈ oj.after, Region.binds .any e = true → e.on ≠ i := fun e he hb heq => by
        have h1 := hall e he hb
        have h0 := (mem_ready.1 hr).1
        rw [heq] at h1
        rcases Nat.lt_or_ge i listed.size with h' | h'
        · simp [h'] at h0 h1; rw [h0] at h1; cases h1
        · simp [Array.getElem?_eq_none h'] at h1
      have hap := hfree j oj hoj hji hjun hnot
      obtain ⟨a1, a2, a3⟩ := Oper.apart_spec hap
      have hfree' : ∀ k ok, ops[k]? = some ok → k ≠ i → (listed.setIfInBounds j true).getD k true = false →
          (∀ e ∈ ok.after, Region.binds .any e = true → e.on ≠ i) → oi.apart ops ok = true := fun k ok hk hki hun hno => by
        refine hfree k ok hk hki ?_ hno
        by_cases hjk : j = k
        · subst hjk; exact hjun
        · rw [getD_set_ne true hjk] at hun; exact hun
      have keep : ∀ u, Light P ops B w0 Lc oi v (updO ρ oj.dst u) := fun u => hy.of_same (exec_upd oi (fun cs b => hsel i oi cs b hi) ρ oj.dst u a3) (wanted_upd oi ρ oj.dst u a3)
      have fin : ∀ u w' L', Inv B w0 w' L' → (∀ x, Inv B w0 x L' → Inv B w0 x Lc) → AnyE P ops B w0 Lc Q fuel ((listed.setIfInBounds i true).setIfInBounds j true) (updO (updO ρ oi.dst v) oj.dst u) L' →
          ∃ L', Inv B w0 w' L' ∧ (∀ x, Inv B w0 x L' → Inv B w0 x Lc) ∧ AnyE P ops B w0 Lc Q (fuel + 1) (listed.setIfInBounds j true) (updO ρ oj.dst u) L' := fun u w' L' hI' hs' hA => by
        refine ⟨L', hI', hs', ih (listed.setIfInBounds j true) (updO ρ oj.dst u) L' hs' hfree' (ready_mono hr (Ne.symm hji)) (keep u) ?_⟩
        rw [Array.setIfInBounds_comm _ _ hji, ← updO_comm ρ v u a2]
        exact hA
      unfold opX at h1 ⊢
      simp only [hoj] at h1 ⊢
      rw [wanted_upd oj ρ oi.dst v a1] at h1
      split
      · rename_i hw
        simp only [hw] at h1
        unfold Step at h1 ⊢
        rw [exec_upd oj (fun cs b => hsel j oj cs b hoj) ρ oi.dst v a1] at h1
        generalize (execOp (ev ρ) oj).run P w = r at *
        cases r with
        | ok x w' =>
          cases x with
          | value u => obtain ⟨L', h2, h3, h4⟩ := h1; exact fin u w' L' h2 h3 h4
          | skip => obtain ⟨L', h2, h3, h4⟩ := h1; exact fin undef w' L' h2 h3 h4
          | enter f args => exact Calls.mono h1 fun e w'' ⟨u, he, L', h2, h3, h4⟩ => ⟨u, he, fin u w'' L' h2 h3 h4⟩
          | round l f tmps assign body => exact RoundIn.mono h1 fun e w'' ⟨u, he, L', h2, h3, h4⟩ => ⟨u, he, fin u w'' L' h2 h3 h4⟩
          | _ => exact h1.elim
        | halt x w' => exact h1.elim
      · rename_i hw
        simp only [hw] at h1
        obtain ⟨L', h2, h3, h4⟩ := h1
        exact fin undef w L' h2 h3 h4

/-- May it be taken first? -/
def goB (ops : Array Oper) (listed : Array Bool) (i : Nat) : Bool := (Region.ready .any ops listed).contains i && Region.free .any ops listed i

theorem any_light {fuel : Nat} {listed : Array Bool} {ρ : Env} {L : List (Option Nat × Obj)} (i : Nat) (v : Value) {d : Option Nat} {op : Op} {ty : TypeId} {pos : String} {af : Array Edge} (hn : Region.noSelect ops = true) (hsub : ∀ x, Inv B w0 x L → Inv B w0 x Lc) (hi : ops[i]? = some ⟨d, op, ty, pos, af, none⟩) (hg : goB ops listed i = true)
    (hl : ∀ w, Inv B w0 w Lc → Step P ⟨d, op, ty, pos, af, none⟩ ρ w (fun v' w' => v' = v ∧ Below w.heap.size w w'))
    (h : AnyE P ops B w0 Lc Q fuel (listed.setIfInBounds i true) (updO ρ d v) L) : AnyE P ops B w0 Lc Q (fuel + 1) listed ρ L := by
  simp only [goB, Bool.and_eq_true] at hg
  exact any_first hi (Region.noSelect_spec hn) fuel listed ρ L hsub (Region.free_spec hi hg.2) (by simpa using hg.1) (.inl ⟨rfl, hl⟩) h
theorem any_on {fuel : Nat} {listed : Array Bool} {ρ : Env} {L : List (Option Nat × Obj)} (i : Nat) (v : Value) {d : Option Nat} {op : Op} {ty : TypeId} {pos : String} {af : Array Edge} {j : Nat} {b : Bool} (hn : Region.noSelect ops = true) (hsub : ∀ x, Inv B w0 x L → Inv B w0 x Lc) (hi : ops[i]? = some ⟨d, op, ty, pos, af, some (j, b)⟩) (hg : goB ops listed i = true) (hy : yieldE ops ρ j = some b)
    (hl : ∀ w, Inv B w0 w Lc → Step P ⟨d, op, ty, pos, af, some (j, b)⟩ ρ w (fun v' w' => v' = v ∧ Below w.heap.size w w'))
    (h : AnyE P ops B w0 Lc Q fuel (listed.setIfInBounds i true) (updO ρ d v) L) : AnyE P ops B w0 Lc Q (fuel + 1) listed ρ L := by
  simp only [goB, Bool.and_eq_true] at hg
  exact any_first hi (Region.noSelect_spec hn) fuel listed ρ L hsub (Region.free_spec hi hg.2) (by simpa using hg.1) (.inl ⟨by simp [Region.wanted, hy], hl⟩) h
theorem any_off {fuel : Nat} {listed : Array Bool} {ρ : Env} {L : List (Option Nat × Obj)} (i : Nat) {d : Option Nat} {op : Op} {ty : TypeId} {pos : String} {af : Array Edge} {j : Nat} {b : Bool} (hn : Region.noSelect ops = true) (hsub : ∀ x, Inv B w0 x L → Inv B w0 x Lc) (hi : ops[i]? = some ⟨d, op, ty, pos, af, some (j, b)⟩) (hg : goB ops listed i = true) (hy : (yieldE ops ρ j == some b) = false)
    (h : AnyE P ops B w0 Lc Q fuel (listed.setIfInBounds i true) (updO ρ d undef) L) : AnyE P ops B w0 Lc Q (fuel + 1) listed ρ L := by
  simp only [goB, Bool.and_eq_true] at hg
  exact any_first hi (Region.noSelect_spec hn) fuel listed ρ L hsub (Region.free_spec hi hg.2) (by simpa using hg.1) (.inr ⟨by simpa [Region.wanted] using hy, rfl⟩) h

theorem any_end {fuel : Nat} {listed : Array Bool} {ρ : Env} {L : List (Option Nat × Obj)} (hr : Region.ready .any ops listed = []) (h : ∀ w, Inv B w0 w L → Q ρ w) : AnyE P ops B w0 Lc Q fuel listed ρ L := by
  cases fuel with
  | zero => exact ⟨hr, h⟩
  | succ fuel => exact ⟨fun _ => h, fun i hi => by rw [hr] at hi; cases hi⟩

/-- Of those that may come next each is gone through. -/
theorem any_heavy {fuel : Nat} {listed : Array Bool} {ρ : Env} {L : List (Option Nat × Obj)} (rs : List Nat) (hr : Region.ready .any ops listed = rs) (hne : rs.isEmpty = false)
    (h : ∀ i ∈ rs, ∀ w, Inv B w0 w L → opX P ops i ρ w (fun ρ' w' => ∃ L', Inv B w0 w' L' ∧ (∀ x, Inv B w0 x L' → Inv B w0 x Lc) ∧ AnyE P ops B w0 Lc Q fuel (listed.setIfInBounds i true) ρ' L')) : AnyE P ops B w0 Lc Q (fuel + 1) listed ρ L := by
  subst hr
  exact ⟨fun he => (by rw [he] at hne; cases hne), h⟩
theorem each1 {a : Nat} {p : Nat → Prop} (h : p a) : ∀ i ∈ [a], p i := fun i hi => by simp at hi; subst hi; exact h
theorem each2 {a b : Nat} {p : Nat → Prop} (h : p a) (h' : p b) : ∀ i ∈ [a, b], p i := fun i hi => by
  simp at hi
  rcases hi with rfl | rfl
  · exact h
  · exact h'
theorem each3 {a b c : Nat} {p : Nat → Prop} (h : p a) (h' : p b) (h'' : p c) : ∀ i ∈ [a, b, c], p i := fun i hi => by
  simp at hi
  rcases hi with rfl | rfl | rfl
  · exact h
  · exact h'
  · exact h''
theorem opx_c {i : Nat} {ρ : Env} {w : World} {K : Env → World → Prop} {d : Option Nat} {op : Op} {ty : TypeId} {pos : String} {af : Array Edge} (hi : ops[i]? = some ⟨d, op, ty, pos, af, none⟩)
    (h : Step P ⟨d, op, ty, pos, af, none⟩ ρ w (fun v w' => K (updO ρ d v) w')) : opX P ops i ρ w K := by
  unfold opX; simp only [hi]; exact h
theorem opx_on {i : Nat} {ρ : Env} {w : World} {K : Env → World → Prop} {d : Option Nat} {op : Op} {ty : TypeId} {pos : String} {af : Array Edge} {j : Nat} {b : Bool} (hi : ops[i]? = some ⟨d, op, ty, pos, af, some (j, b)⟩) (hy : yieldE ops ρ j = some b)
    (h : Step P ⟨d, op, ty, pos, af, some (j, b)⟩ ρ w (fun v w' => K (updO ρ d v) w')) : opX P ops i ρ w K := by
  unfold opX
  have : Region.wanted ⟨d, op, ty, pos, af, some (j, b)⟩ (yieldE ops ρ) = true := by simp [Region.wanted, hy]
  simp only [hi, this]; exact h
end drawn

theorem wpAny_of_AnyE {P : Program} {r : Option Nat} {ds : List Deferred} {n : Nat} {ops : Array Oper} {B : Option Nat} {w0 : World} {Lc : List (Option Nat × Obj)} {Q : Env → World → Prop} {Q' : Exit → Act → World → Prop} (hd : ∀ (i : Nat) o, ops[i]? = some o → dstOk n o.dst = true)
    (hQ : ∀ ρ a w, Sat ds n ρ a → Q ρ w → Q' .normal a w) : ∀ (fuel : Nat) (listed : Array Bool) (ρ : Env) (a : Act) (w : World) (L : List (Option Nat × Obj)), Sat ds n ρ a → Inv B w0 w L → AnyE P ops B w0 Lc Q fuel listed ρ L → wpAnyIn (fen r) 0 P .any ops Q' fuel listed a w
  | 0, _, ρ, a, w, L, hs, hI, h => ⟨h.1, hQ _ _ _ hs (h.2 w hI)⟩
  | fuel + 1, listed, ρ, a, w, L, hs, hI, h => by
    refine ⟨fun h0 => hQ _ _ _ hs (h.1 h0 w hI), fun i hi => ?_⟩
    have h1 := h.2 i hi w hI
    unfold opX at h1
    unfold wpOpIn
    split
    · rename_i ho
      simp only [ho] at h1
      obtain ⟨L', h2, _, h4⟩ := h1
      exact wpAny_of_AnyE hd hQ fuel _ ρ a w L' hs h2 h4
    · rename_i o ho
      simp only [ho] at h1
      rw [hs.yielded]
      split
      · rename_i hw
        simp only [hw] at h1
        exact h1.toWp hs fun v w' ⟨L', h2, _, h4⟩ => wpAny_of_AnyE hd hQ fuel _ _ _ w' L' (hs.put (hd i o ho) v) h2 h4
      · rename_i hw
        have hw' : Region.wanted o (yieldE ops ρ) = false := by simpa using hw
        simp only [hw'] at h1
        obtain ⟨L', h2, _, h4⟩ := h1
        exact ⟨fun _ _ => trivial, wpAny_of_AnyE hd hQ fuel _ _ _ _ L' (hs.put (hd i o ho) undef) h2 h4⟩

theorem wp_drawn {P : Program} {r : Option Nat} {ds : List Deferred} {n : Nat} {Q : List Deferred → Exit → Env → World → Prop} {ρ : Env} {B : Option Nat} {w w0 : World} {L : List (Option Nat × Obj)} {id : Nat} {l : List Oper} (hI : Inv B w0 w L) (Lc : List (Option Nat × Obj)) (hm : P.follows .mixedOrders = true) (hd : dstsOk n l = true)
    (h : AnyE P l.toArray B w0 Lc (Q ds .normal) l.length (Array.replicate l.length false) ρ L) : WP r ds P n (.region id l.toArray true) Q ρ w :=
  ⟨fun a hs => wpIn_region_any hm (by
    have := wpAny_of_AnyE (P := P) (r := r) (ds := ds) (ops := l.toArray) (Q := Q ds .normal) (Q' := fun e a' w' => ∃ ds' ρ', Sat ds' n ρ' a' ∧ Q ds' e ρ' w') (fun i o ho => by
      simp only [dstsOk, List.all_eq_true] at hd
      exact hd o (List.mem_of_getElem? (by simpa using ho))) (fun ρ a w hs hk => ⟨ds, ρ, hs, hk⟩) l.length (Array.replicate l.length false) ρ a { w with drawn := w.drawn + 1 } L hs (hI.drew) h
    simpa using this)⟩
theorem subk {A B : Prop} (a : A) (b : A → B) : A ∧ B := ⟨a, b a⟩
theorem wp_drawn2 {P : Program} {r : Option Nat} {ds : List Deferred} {n : Nat} {Q : List Deferred → Exit → Env → World → Prop} {ρ : Env} {B : Option Nat} {w w0 : World} {L : List (Option Nat × Obj)} {id : Nat} {l : List Oper} (hI : Inv B w0 w L) (l0 : List Nat) {Lc : List (Option Nat × Obj)} (hn : l0.Nodup) (hL : K.pickL L l0 = some Lc) (hm : P.follows .mixedOrders = true) (hd : dstsOk n l = true)
    (h : (∀ x, Inv B w0 x L → Inv B w0 x Lc) → AnyE P l.toArray B w0 Lc (Q ds .normal) l.length (Array.replicate l.length false) ρ L) : WP r ds P n (.region id l.toArray true) Q ρ w :=
  wp_drawn hI Lc hm hd (h fun _ hx => hx.pickL l0 hn hL)
end Go.K
