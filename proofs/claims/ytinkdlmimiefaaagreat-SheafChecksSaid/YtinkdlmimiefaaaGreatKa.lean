/-
  The ground of my own proofs: a call's frame seen as a function from slots to values, and the rules of the code over it. No condition.
-/
import Derived.WalkKit
import Derived.Deep.Quiet
import Derived.Deep.LoopGhost
import Derived.RangeFuncRecord
import Derived.OrdersIn
namespace Go.K
open Go.RowKit

abbrev Env := Nat → Value

def upd (ρ : Env) (t : Nat) (v : Value) : Env := fun s => bif Nat.beq s t then v else ρ s
def updO (ρ : Env) : Option Nat → Value → Env
  | some t, v => upd ρ t v
  | none, _ => ρ
def ev (ρ : Env) : Operand → Value
  | .tmp t => ρ t
  | .const v => v
  | .global g => .pointer (some ⟨g, 0, none⟩)
  | .func f => .func (.func f) #[] #[]

/-- The fence of all: in a round of a range over a function (r: its record), or not. -/
abbrev fen (r : Option Nat) : Fence := { Fence.wide with round := r }

structure Sat (ds : List Deferred) (n : Nat) (ρ : Env) (a : Act) : Prop where
  size : a.tmps.size = n
  defers : a.defers = ds
  at_ : ∀ t, a.tmps.getD t undef = ρ t

theorem Sat.eval {ds : List Deferred} {n : Nat} {ρ : Env} {a : Act} (h : Sat ds n ρ a) : a.eval = ev ρ := by
  funext x
  cases x with
  | tmp t => exact h.at_ t
  | _ => rfl

theorem upd_same (ρ : Env) (t : Nat) (v : Value) : upd ρ t v t = v := by simp [upd]
theorem upd_ne (ρ : Env) {t s : Nat} (v : Value) (h : s ≠ t) : upd ρ t v s = ρ s := by
  have : Nat.beq s t = false := by
    cases hb : Nat.beq s t with
    | false => rfl
    | true => exact absurd (Nat.eq_of_beq_eq_true hb) h
  simp [upd, this]

def dstOk (n : Nat) : Option Nat → Bool
  | some d => Nat.blt d n
  | none => true

theorem Sat.put {ds : List Deferred} {n : Nat} {ρ : Env} {a : Act} (h : Sat ds n ρ a) {d : Option Nat} (hd : dstOk n d = true) (v : Value) : Sat ds n (updO ρ d v) (a.put d v) := by
  cases d with
  | none => exact h
  | some d =>
    have hlt : d < n := by simpa [dstOk, Nat.blt_eq] using hd
    refine ⟨by simpa [Act.put] using h.size, h.defers, fun t => ?_⟩
    have ht := h.at_ t
    have hs := h.size
    by_cases e : t = d
    · subst e
      simp [Act.put, updO, upd_same, Array.getD_eq_getD_getElem?, hs, hlt]
    · have e' : d ≠ t := fun h => e h.symm
      rw [show updO ρ (some d) v t = ρ t from upd_ne ρ v e, ← ht]
      simp [Act.put, Array.getD_eq_getD_getElem?, Array.getElem?_setIfInBounds, e']

def yieldE (ops : Array Oper) (ρ : Env) (j : Nat) : Option Bool :=
  match (ops[j]?).bind (·.dst) with
  | some d => match ρ d with
    | .bool b => some b
    | _ => none
  | none => none

theorem Sat.yielded {ds : List Deferred} {n : Nat} {ρ : Env} {a : Act} (h : Sat ds n ρ a) (ops : Array Oper) : Go.yielded ops a.tmps = yieldE ops ρ := by
  funext j
  unfold Go.yielded yieldE
  cases hd : (ops[j]?).bind (·.dst) with
  | none => rfl
  | some d =>
    have ht := h.at_ d
    simp only [Option.bind_some]
    rw [Array.getD_eq_getD_getElem?] at ht
    cases hv : a.tmps[d]? with
    | none =>
      rw [hv] at ht
      simp only [Option.getD_none] at ht
      rw [← ht]; rfl
    | some v =>
      rw [hv] at ht
      simp only [Option.getD_some] at ht
      rw [← ht]
      cases v <;> rfl

/-- One operation, carried out: it hands back a value, or is a call that returns one. -/
def Step (P : Program) (o : Oper) (ρ : Env) (w : World) (R : Value → World → Prop) : Prop :=
  match (execOp (ev ρ) o).run P w with
  | .ok (.value v) w' => R v w'
  | .ok .skip w' => R undef w'
  | .ok (.enter f args) w' => Calls P f args w' (fun e w'' => ∃ v, e = .returned v ∧ R v w'')
  | .ok (.round l f tmps assign body) w' => RoundIn Fence.wide 0 P l f tmps assign body w' (fun e w'' => ∃ v, e = .returned v ∧ R v w'')
  | _ => False

theorem Step.mono {P : Program} {o : Oper} {ρ : Env} {w : World} {R R' : Value → World → Prop} (h : Step P o ρ w R) (hr : ∀ v w', R v w' → R' v w') : Step P o ρ w R' := by
  unfold Step at *
  generalize (execOp (ev ρ) o).run P w = r at *
  cases r with
  | ok x w' =>
    cases x with
    | value v => exact hr _ _ h
    | skip => exact hr _ _ h
    | enter f args => exact Calls.mono h fun e w'' ⟨v, he, hv⟩ => ⟨v, he, hr _ _ hv⟩
    | round l f tmps assign body => exact RoundIn.mono h fun e w'' ⟨v, he, hv⟩ => ⟨v, he, hr _ _ hv⟩
    | _ => exact h
  | halt x w' => exact h

theorem Step.noDefer {P : Program} {o : Oper} {ρ : Env} {w : World} {R : Value → World → Prop} (h : Step P o ρ w R) : ∀ c, o.op ≠ .defer c := by
  intro c hc
  unfold Step at h
  have e : execOp (ev ρ) o = (do pure (.defer (← resolve (ev ρ) c o.type))) := by unfold execOp; rw [hc]
  rw [e, Sem.run_bind] at h
  cases hr : (resolve (ev ρ) c o.type).run P w with
  | ok d w' => rw [hr] at h; exact h
  | halt x w' => rw [hr] at h; exact h

/-- In the frame: the operation's own wp. -/
theorem Step.toWp {P : Program} {o : Oper} {ρ : Env} {w : World} {r : Option Nat} {ds : List Deferred} {n : Nat} {a : Act} {K : Act → World → Prop} {Q : Exit → Act → World → Prop} {R : Value → World → Prop}
    (hs : Sat ds n ρ a) (h : Step P o ρ w R) (hk : ∀ v w', R v w' → K (a.put o.dst v) w') : o.wpIn (fen r) 0 P a w K Q := by
  refine ⟨fun _ _ => trivial, ?_⟩
  rw [Oper.semAt_eq _ _ _ h.noDefer, hs.eval]
  unfold Step at h
  generalize (execOp (ev ρ) o).run P w = x at *
  cases x with
  | ok x w' =>
    cases x with
    | value v => exact hk _ _ h
    | skip => exact hk _ _ h
    | enter f args =>
      refine ⟨fun h => (by simp [fen, Fence.wide] at h), ?_⟩
      refine callsIn_wide.2 (Calls.mono h fun e w'' ⟨v, he, hv⟩ => ?_)
      subst he
      exact hk _ _ hv
    | round l f tmps assign body =>
      refine ⟨fun h => (by simp [fen, Fence.wide] at h), ?_⟩
      refine RoundIn.mono (F := Fence.wide) h fun e w'' ⟨v, he, hv⟩ => ?_
      subst he
      exact hk _ _ hv
    | _ => exact h.elim
  | halt x w' => exact h.elim

/-- The operations of a region, one after the other. -/
def Seq (P : Program) (ops : Array Oper) (K : Env → World → Prop) : List Oper → Env → World → Prop
  | [], ρ, w => K ρ w
  | o :: rest, ρ, w =>
    match Region.wanted o (yieldE ops ρ) with
    | true => Step P o ρ w (fun v w' => Seq P ops K rest (updO ρ o.dst v) w')
    | false => Seq P ops K rest (updO ρ o.dst undef) w

def dstsOk (n : Nat) (l : List Oper) : Bool := l.all fun o => dstOk n o.dst

/-- A piece of code from a frame: r: the round that it is of; ds: the marks that its deferred calls hold. -/
structure WP (r : Option Nat) (ds : List Deferred) (P : Program) (n : Nat) (c : Code) (Q : List Deferred → Exit → Env → World → Prop) (ρ : Env) (w : World) : Prop where
  go : ∀ a, Sat ds n ρ a → c.wpIn (fen r) 0 P (fun e a' w' => ∃ ds' ρ', Sat ds' n ρ' a' ∧ Q ds' e ρ' w') a w

theorem wpOps_of_Seq {P : Program} {r : Option Nat} {ds : List Deferred} {n : Nat} {ops : Array Oper} {K : Env → World → Prop} {Q : Exit → Act → World → Prop} (hQ : ∀ ρ a w, Sat ds n ρ a → K ρ w → Q .normal a w) :
    ∀ (l : List Oper) (k : Nat) (ρ : Env) (a : Act) (w : World), (∀ j, l[j]? = ops[k + j]?) → dstsOk n l = true → Sat ds n ρ a → Seq P ops K l ρ w →
      wpOpsIn (fen r) 0 P ops Q (List.range' k l.length) a w
  | [], k, ρ, a, w, _, _, hs, h => hQ _ _ _ hs h
  | o :: l, k, ρ, a, w, hl, hd, hs, h => by
    have h0 : ops[k]? = some o := by simpa using (hl 0).symm
    simp only [dstsOk, List.all_cons, Bool.and_eq_true] at hd
    have ih := fun ρ a w => wpOps_of_Seq (P := P) (r := r) hQ l (k + 1) ρ a w (fun j => by have := hl (j + 1); simpa [Nat.add_assoc, Nat.add_comm 1 j] using this) hd.2
    simp only [List.length_cons, List.range'_succ, wpOpsIn, h0]
    rw [hs.yielded]
    unfold Seq at h
    cases hw : Region.wanted o (yieldE ops ρ) with
    | true =>
      simp only [hw] at h
      simp only [if_true]
      exact h.toWp hs fun v w' hv => ih _ _ _ (hs.put hd.1 v) hv
    | false =>
      simp only [hw] at h
      simp only [Bool.false_eq_true, if_false]
      exact ⟨fun _ _ => trivial, ih _ _ _ (hs.put hd.1 undef) h⟩

section rules
variable {P : Program} {r : Option Nat} {ds : List Deferred} {n : Nat} {Q : List Deferred → Exit → Env → World → Prop} {ρ : Env} {w : World}

def thenE (K : List Deferred → Env → World → Prop) (Q : List Deferred → Exit → Env → World → Prop) : List Deferred → Exit → Env → World → Prop
  | ds, .normal => K ds
  | ds, e => Q ds e

theorem WP.mono {c : Code} {Q' : List Deferred → Exit → Env → World → Prop} (h : WP r ds P n c Q ρ w) (hq : ∀ ds e ρ w, Q ds e ρ w → Q' ds e ρ w) : WP r ds P n c Q' ρ w :=
  ⟨fun a hs => wpIn_mono (h.go a hs) fun e a w ⟨ds', ρ', hs', h'⟩ => ⟨ds', ρ', hs', hq _ _ _ _ h'⟩⟩

theorem wp_region {id : Nat} {l : List Oper} (hd : dstsOk n l = true) (h : Seq P l.toArray (Q ds .normal) l ρ w) : WP r ds P n (.region id l.toArray false) Q ρ w :=
  ⟨fun a hs => wpIn_region (by
    have := wpOps_of_Seq (P := P) (r := r) (ds := ds) (ops := l.toArray) (K := Q ds .normal) (Q := fun e a' w' => ∃ ds' ρ', Sat ds' n ρ' a' ∧ Q ds' e ρ' w') (fun ρ a w hs hk => ⟨ds, ρ, hs, hk⟩) l 0 ρ a w (fun j => by simp) hd hs h
    rw [List.range_eq_range']; simpa using this)⟩

theorem wp_seq {x y : Code} (h : WP r ds P n x (thenE (fun ds => WP r ds P n y Q) Q) ρ w) : WP r ds P n (.seq x y) Q ρ w :=
  ⟨fun a hs => wpIn_seq (wpIn_mono (h.go a hs) fun e a w ⟨ds', ρ', hs', h'⟩ => by
    cases e with
    | normal => exact h'.go a hs'
    | _ => exact ⟨ds', ρ', hs', h'⟩)⟩

theorem wp_skip (h : Q ds .normal ρ w) : WP r ds P n .skip Q ρ w := ⟨fun a hs => wpIn_skip ⟨ds, ρ, hs, h⟩⟩
theorem wp_ret (h : Q ds .ret ρ w) : WP r ds P n .ret Q ρ w := ⟨fun a hs => wpIn_ret ⟨ds, ρ, hs, h⟩⟩
theorem wp_exit {id : Nat} (h : Q ds (.exit id) ρ w) : WP r ds P n (.exit id) Q ρ w := ⟨fun a hs => wpIn_exit ⟨ds, ρ, hs, h⟩⟩
theorem wp_cond {c : Operand} {x y : Code} {t : Bool} (hc : ev ρ c = .bool t) (h1 : t = true → WP r ds P n x Q ρ w) (h2 : t = false → WP r ds P n y Q ρ w) : WP r ds P n (.cond c x y) Q ρ w := by
  refine ⟨fun a hs => ?_⟩
  have he : a.eval c = .bool t := by rw [hs.eval]; exact hc
  cases t with
  | true => exact wpIn_cond_true he ((h1 rfl).go a hs)
  | false => exact wpIn_cond_false he ((h2 rfl).go a hs)

def blockE (id : Nat) (Q : List Deferred → Exit → Env → World → Prop) : List Deferred → Exit → Env → World → Prop
  | ds, .exit id' => bif Nat.beq id' id then Q ds .normal else Q ds (.exit id')
  | ds, e => Q ds e

theorem wp_block {id : Nat} {c : Code} (h : WP r ds P n c (blockE id Q) ρ w) : WP r ds P n (.block id c) Q ρ w :=
  ⟨fun a hs => wpIn_block (wpIn_mono (h.go a hs) fun e a w ⟨ds', ρ', hs', h'⟩ => by
    cases e with
    | exit id' =>
      simp only [Exit.inBlock]
      by_cases e : id' = id
      · subst e
        simp only [blockE, show Nat.beq id' id' = true from Nat.beq_refl id', cond_true] at h'
        simp only [if_true]
        exact ⟨ds', ρ', hs', h'⟩
      · have hb : Nat.beq id' id = false := by
          cases hb : Nat.beq id' id with
          | false => rfl
          | true => exact absurd (Nat.eq_of_beq_eq_true hb) e
        simp only [blockE, hb, cond_false] at h'
        simp only [e, if_false]
        exact ⟨ds', ρ', hs', h'⟩
    | _ => exact ⟨ds', ρ', hs', h'⟩)⟩

theorem wp_loop {c : Code} (I : Nat → Env → World → Prop) {m : Nat} (h0 : I m ρ w)
    (round : ∀ m ρ w, I m ρ w → WP r ds P n c (thenE (fun ds' ρ w => ds' = ds ∧ ∃ m', m' < m ∧ I m' ρ w) Q) ρ w) : WP r ds P n (.loop c) Q ρ w :=
  ⟨fun a hs => by
    refine wpIn_loop (fun a w => ∃ m, ∃ ρ, Sat ds n ρ a ∧ I m ρ w) (fun a w => leastOf fun m => ∃ ρ, Sat ds n ρ a ∧ I m ρ w) ⟨m, ρ, hs, h0⟩ ?_
    intro a w hI
    obtain ⟨⟨ρ, hs, hm⟩, hmin⟩ := leastOf_spec hI
    refine wpIn_mono ((round _ ρ w hm).go a hs) fun e a w ⟨ds', ρ', hs', hq⟩ => ?_
    cases e with
    | normal =>
      obtain ⟨rfl, m', hlt, hI'⟩ := hq
      exact ⟨⟨m', ρ', hs', hI'⟩, Nat.lt_of_le_of_lt ((leastOf_spec (p := fun m => ∃ ρ, Sat ds' n ρ a ∧ I m ρ w) ⟨m', ρ', hs', hI'⟩).2 m' ⟨ρ', hs', hI'⟩) hlt⟩
    | _ => exact ⟨ds', ρ', hs', hq⟩⟩

/-- What a call's frame holds at the start. -/
def enterE (args : List Value) : Env := fun t => args.getD t undef

theorem enter_sat (args : List Value) (n : Nat) (h : args.length ≤ n) : Sat [] n (enterE args) { tmps := args.toArray ++ Array.replicate (n - args.toArray.size) undef, defers := [] } := by
  refine ⟨by simp; omega, rfl, fun t => ?_⟩
  unfold enterE
  rw [Array.getD_eq_getD_getElem?, List.getD_eq_getElem?_getD]
  by_cases h1 : t < args.length
  · rw [Array.getElem?_append_left (by simpa using h1)]
    simp
  · rw [Array.getElem?_append_right (by simpa using h1), List.getElem?_eq_none (by omega), Array.getElem?_replicate]
    split <;> rfl

def resultsG (lv : TypeId → Addr → Sem Value) (fn : Func) (tmps : Array Value) : Sem Value := do
  let vs ← fn.results.mapM fun
    | .tmp t => pure (tmps.getD t undef)
    | .cell a t => do lv t (← asAddr (tmps.getD a undef))
  pure (if h : vs.size = 1 then vs[0] else .tuple vs)
theorem results_eq (fn : Func) (tmps : Array Value) : results fn tmps = resultsG loadVar fn tmps := rfl

section rets
variable {lv : TypeId → Addr → Sem Value} {fn : Func} {tmps : Array Value} {ρ : Env} {w : World}
theorem rets0 (h : fn.results = #[]) : (resultsG lv fn tmps).run P w = .ok (.tuple #[]) w := by
  simp [resultsG, h, go_sem]
theorem rets1 (hs : ∀ t, tmps.getD t undef = ρ t) {t : Nat} (h : fn.results = #[.tmp t]) : (resultsG lv fn tmps).run P w = .ok (ρ t) w := by
  rw [← hs t]; simp [resultsG, h, go_sem]
theorem rets2 (hs : ∀ t, tmps.getD t undef = ρ t) {t s : Nat} (h : fn.results = #[.tmp t, .tmp s]) : (resultsG lv fn tmps).run P w = .ok (.tuple #[ρ t, ρ s]) w := by
  rw [← hs t, ← hs s]; simp [resultsG, h, go_sem]
theorem rets3 (hs : ∀ t, tmps.getD t undef = ρ t) {t s r : Nat} (h : fn.results = #[.tmp t, .tmp s, .tmp r]) : (resultsG lv fn tmps).run P w = .ok (.tuple #[ρ t, ρ s, ρ r]) w := by
  rw [← hs t, ← hs s, ← hs r]; simp [resultsG, h, go_sem]
theorem retsC (hs : ∀ t, tmps.getD t undef = ρ t) {a T : Nat} {ad : Addr} {v : Value} (h : fn.results = #[.cell a T]) (h1 : ρ a = .pointer (some ad)) (h2 : (lv T ad).run P w = .ok v w) :
    (resultsG lv fn tmps).run P w = .ok v w := by
  rw [← hs a] at h1
  simp [resultsG, h, go_sem, asAddr] at h1 ⊢
  simp [h1, go_sem, h2]
theorem retsCT (hs : ∀ t, tmps.getD t undef = ρ t) {a T s : Nat} {ad : Addr} {v : Value} (h : fn.results = #[.cell a T, .tmp s]) (h1 : ρ a = .pointer (some ad)) (h2 : (lv T ad).run P w = .ok v w) :
    (resultsG lv fn tmps).run P w = .ok (.tuple #[v, ρ s]) w := by
  rw [← hs a] at h1
  rw [← hs s]
  simp [resultsG, h, go_sem, asAddr] at h1 ⊢
  simp [h1, go_sem, h2]
theorem retsCC (hs : ∀ t, tmps.getD t undef = ρ t) {a T b S : Nat} {ad bd : Addr} {v u : Value} (h : fn.results = #[.cell a T, .cell b S]) (h1 : ρ a = .pointer (some ad)) (h2 : (lv T ad).run P w = .ok v w)
    (h3 : ρ b = .pointer (some bd)) (h4 : (lv S bd).run P w = .ok u w) : (resultsG lv fn tmps).run P w = .ok (.tuple #[v, u]) w := by
  rw [← hs a] at h1
  rw [← hs b] at h3
  simp [resultsG, h, go_sem, asAddr] at h1 h3 ⊢
  simp [h1, h3, go_sem, h2, h4]
end rets

/-- What the frame hands back, in this world. -/
def Ret (P : Program) (fn : Func) (ρ : Env) (w : World) (v : Value) : Prop := ∀ tmps : Array Value, (∀ t, tmps.getD t undef = ρ t) → (results fn tmps).run P w = .ok v w

theorem Ret.r0 {fn : Func} (h : fn.results = #[]) : Ret P fn ρ w (.tuple #[]) := fun _ _ => rets0 h
theorem Ret.r1 {fn : Func} {t : Nat} {v : Value} (h : fn.results = #[.tmp t]) (h1 : ρ t = v) : Ret P fn ρ w v := fun _ hs => h1 ▸ rets1 hs h
theorem Ret.r2 {fn : Func} {t s : Nat} {v u : Value} (h : fn.results = #[.tmp t, .tmp s]) (h1 : ρ t = v) (h2 : ρ s = u) : Ret P fn ρ w (.tuple #[v, u]) := fun _ hs => h1 ▸ h2 ▸ rets2 hs h
theorem Ret.r3 {fn : Func} {t s r : Nat} {v u x : Value} (h : fn.results = #[.tmp t, .tmp s, .tmp r]) (h1 : ρ t = v) (h2 : ρ s = u) (h3 : ρ r = x) : Ret P fn ρ w (.tuple #[v, u, x]) := fun _ hs => h1 ▸ h2 ▸ h3 ▸ rets3 hs h
theorem Ret.c {fn : Func} {a T : Nat} {ad : Addr} {v : Value} (h : fn.results = #[.cell a T]) (h1 : ρ a = .pointer (some ad)) (h2 : (loadVar T ad).run P w = .ok v w) : Ret P fn ρ w v := fun _ hs => retsC hs h h1 h2
theorem Ret.ct {fn : Func} {a T s : Nat} {ad : Addr} {v u : Value} (h : fn.results = #[.cell a T, .tmp s]) (h1 : ρ a = .pointer (some ad)) (h2 : (loadVar T ad).run P w = .ok v w) (h3 : ρ s = u) : Ret P fn ρ w (.tuple #[v, u]) := fun _ hs => h3 ▸ retsCT hs h h1 h2
theorem Ret.cc {fn : Func} {a T b S : Nat} {ad bd : Addr} {v u : Value} (h : fn.results = #[.cell a T, .cell b S]) (h1 : ρ a = .pointer (some ad)) (h2 : (loadVar T ad).run P w = .ok v w)
    (h3 : ρ b = .pointer (some bd)) (h4 : (loadVar S bd).run P w = .ok u w) : Ret P fn ρ w (.tuple #[v, u]) := fun _ hs => retsCC hs h h1 h2 h3 h4

/-- A frame leaves: its marks are taken in, and it hands back what it has. -/
def LeaveE (P : Program) (fn : Func) (R : Value → World → Prop) : List Deferred → Env → World → Prop
  | [], ρ, w => ∃ v, Ret P fn ρ w v ∧ R v w
  | d :: ds, ρ, w => ∃ D w', d.target = .collected D ∧ (Instr.takeDeferred D).run P w = .ok [] w' ∧ LeaveE P fn R ds ρ w'
/-- The post of a body. -/
def bodyE (P : Program) (fn : Func) (R : Value → World → Prop) : List Deferred → Exit → Env → World → Prop
  | ds, .normal, ρ, w | ds, .ret, ρ, w => LeaveE P fn R ds ρ w
  | _, _, _, _ => False

theorem LeaveE.leaves {fn : Func} {R : Value → World → Prop} {tmps : Array Value} (ht : ∀ t, tmps.getD t undef = ρ t) : ∀ (ds : List Deferred) (w : World), LeaveE P fn R ds ρ w →
    LeavesInM (fen none) 0 P fn tmps (fun e w' => ∃ v, e = .returned v ∧ R v w') ds .returning w
  | [], w, ⟨v, hr, hR⟩ => ⟨v, hr _ ht, v, rfl, hR⟩
  | d :: ds, w, ⟨D, w', h1, h2, h3⟩ => ⟨(by simp), .inl ⟨D, w', h1, h2, LeaveE.leaves ht ds w' h3⟩⟩

/-- A CALL: its body from the frame it enters with. -/
theorem calls_of {f : FuncId} {fn : Func} {c : Code} {n : Nat} {args : List Value} {R : Value → World → Prop} (hf : P.funcs[f]? = some fn) (hb : fn.body = some c) (hn : fn.ntmps = n) (hl : Nat.ble args.length n = true)
    (h : WP none [] P n c (bodyE P fn R) (enterE args) w) : Calls P f args.toArray w (fun e w' => ∃ v, e = .returned v ∧ R v w') := by
  subst hn
  refine (callsIn_wide (n := 0)).1 (callsIn_of_wp_marks (F := fen none) hf hb trivial (wpIn_mono (h.go _ (enter_sat args fn.ntmps (Nat.le_of_ble_eq_true hl))) ?_) rfl)
  intro e a w' ⟨ds, ρ, hs, hq⟩
  cases e with
  | normal => show LeavesInM _ _ _ _ _ _ _ _ _; rw [hs.defers]; exact hq.leaves hs.at_ ds w'
  | ret => show LeavesInM _ _ _ _ _ _ _ _ _; rw [hs.defers]; exact hq.leaves hs.at_ ds w'
  | _ => exact hq.elim
end rules
end Go.K
