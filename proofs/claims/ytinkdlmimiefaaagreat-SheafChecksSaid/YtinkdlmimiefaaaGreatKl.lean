/-
  The ground of my own proofs, twelfth part: a range over a function: the statement, a round, what a frame does with its marks when it leaves. No condition.
-/
import Derived.Test.YtinkdlmimiefaaaGreatKk
namespace Go.K
open Go.RowKit

/-- The record of a range over a function, but for its state. -/
structure Rec where
  fn : FuncId
  tmps : Array Value
  params : Array Tmp
  assign : Code
  body : Code
  defers : Nat
def Rec.at (r : Rec) (st : LoopState) (pe : Option Code) : Obj := .loop { state := st, pending := pe, fn := r.fn, tmps := r.tmps, params := r.params, assign := r.assign, body := r.body, defers := r.defers }
abbrev mark (D : Nat) : Deferred := { target := .collected D, args := #[] }
abbrev yfn (l : Nat) : Value := .func (.yield l) #[] #[]
/-- The record's frame. -/
structure Rec.Of (rc : Rec) (n : Nat) (ρ : Env) : Prop where
  size : rc.tmps.size = n
  at_ : ∀ t, rc.tmps.getD t undef = ρ t
def setP (ρ : Env) : List (Nat × Value) → Env
  | [] => ρ
  | (t, v) :: l => setP (upd ρ t v) l

section cut
variable {P : Program} {r : Option Nat} {ds : List Deferred} {n : Nat} {Q : List Deferred → Exit → Env → World → Prop} {ρ : Env} {w : World}
def cutE (M : Env → World → Prop) (ds : List Deferred) (Q : List Deferred → Exit → Env → World → Prop) : List Deferred → Exit → Env → World → Prop
  | ds', .normal => fun ρ w => ds' = ds ∧ M ρ w
  | ds', e => Q ds' e
theorem wp_cut {x y : Code} (M : Env → World → Prop) (h : WP r ds P n x (cutE M ds Q) ρ w) (k : ∀ ρ w, M ρ w → WP r ds P n y Q ρ w) : WP r ds P n (.seq x y) Q ρ w :=
  wp_seq (h.mono fun ds' e ρ w h => by
    cases e with
    | normal => obtain ⟨rfl, hm⟩ := h; exact k _ _ hm
    | _ => exact h)
end cut

section rf
variable {P : Program} {B : Option Nat} {w0 w : World} {L : List (Option Nat × Obj)} {ρ : Env}

theorem Inv.putO {l : Nat} {o : Obj} (hI : Inv B w0 w ((some l, o) :: L)) (o' : Obj) : Inv B w0 (w.putObj l o') ((some l, o') :: L) :=
  hI.turn (i := 0) (g := some l) (o := o) (o' := o') rfl rfl rfl rfl (by rw [World.putObj_size]; exact Nat.le_refl _) (fun k _ hk => World.putObj_heap_other fun e => hk (by rw [e])) (fun b hb => by
    injection hb with hb
    subst hb
    exact World.putObj_heap_same (hI.lt (i := 0) rfl))

theorem wp_rangeFunc {ds : List Deferred} {n : Nat} {g : Operand} {ps : Array Tmp} {assign body : Code} {Q : List Deferred → Exit → Env → World → Prop} (hI : Inv B w0 w L) {fnv : Fn} {first cap : Array Value} (hg : ev ρ g = .func fnv first cap)
    (gf : FuncId) (args : Value → List Value) (hinv : ∀ l W, (invoke (.fn fnv cap) (first ++ #[yfn l])).run P W = .ok (.enter gf (args (yfn l)).toArray) W)
    (h : ∀ (rc : Rec) (l : Nat) (W : World), rc.params = ps → rc.assign = assign → rc.body = body → rc.Of n ρ → Inv B w0 W ((some l, rc.at .ready none) :: (some rc.defers, .deferred (some [])) :: L) →
      Does P gf (args (yfn l)) W (fun _ W' => ∃ L', (Inv B w0 W' ((some l, rc.at .ready none) :: L') ∧ ∀ W'', Inv B w0 W'' ((some l, rc.at .exhausted none) :: L') → Q (mark rc.defers :: ds) .normal ρ W'')
        ∨ ∃ c, Inv B w0 W' ((some l, rc.at .done (some c)) :: L') ∧ ∀ W'', Inv B w0 W'' ((some l, rc.at .exhausted (some c)) :: L') → WP none (mark rc.defers :: ds) P n c Q ρ W'')) :
    WP none ds P n (.rangeFunc g ps assign body) Q ρ w := by
  refine ⟨fun a hs => wpIn_rangeFunc fun fn _ => ?_⟩
  obtain ⟨rc, hrc⟩ : ∃ rc : Rec, rc = { fn, tmps := a.tmps, params := ps, assign, body, defers := w.heap.size } := ⟨_, rfl⟩
  obtain ⟨W1, hW1⟩ : ∃ W1, W1 = (w.alloc (.deferred (some []))).alloc (rc.at .ready none) := ⟨_, rfl⟩
  have hI1 : Inv B w0 W1 ((some (w.heap.size + 1), rc.at .ready none) :: (some w.heap.size, .deferred (some [])) :: L) := by
    have := (hI.alloc (.deferred (some []))).alloc (rc.at .ready none)
    rwa [World.size_alloc, ← hW1] at this
  have hD : rc.defers = w.heap.size := by rw [hrc]
  have hc := h rc (w.heap.size + 1) W1 (by rw [hrc]) (by rw [hrc]) (by rw [hrc]) ⟨by rw [hrc]; exact hs.size, by rw [hrc]; exact hs.at_⟩ (by rw [hD]; exact hI1)
  refine ⟨w.heap.size + 1, [mark w.heap.size], W1, { target := .fn fnv cap, args := first ++ #[yfn (w.heap.size + 1)] }, W1, gf, (args (yfn (w.heap.size + 1))).toArray, W1, ?_, ?_, fun _ _ => trivial, hinv _ _, fun h => (by simp [fen, Fence.wide] at h), ?_⟩
  · rw [hW1, hrc]; exact run_enterLoop_outer _ _ _ _ _
  · rw [hs.eval]
    simp only [resolve, hg]
    simp [Deferred.ofValue, ev, go_sem]
  refine callsIn_wide.2 (Calls.mono hc ?_)
  · rintro e W' ⟨v, rfl, L', h⟩
    have hsat : Sat (mark rc.defers :: ds) n ρ { a with defers := [mark w.heap.size] ++ a.defers } := ⟨hs.size, by rw [hD, hs.defers]; rfl, hs.at_⟩
    rcases h with ⟨hI', hk⟩ | ⟨c, hI', hk⟩
    · have hl := (hI'.has 0 _ _ rfl).1
      exact ⟨_, _, run_endLoop hl (by simp), _, ρ, hsat, hk _ (hI'.putO _)⟩
    · have hl := (hI'.has 0 _ _ rfl).1
      exact ⟨_, _, run_endLoop hl (by simp), (hk _ (hI'.putO _)).go _ hsat⟩

/-- How a round may end. -/
def roundE (B : Option Nat) (w0 : World) (l : Nat) (rc : Rec) (R : Value → World → Prop) : List Deferred → Exit → Env → World → Prop
  | _, .normal, _, W => ∃ L3, Inv B w0 W ((some l, rc.at .busy none) :: L3) ∧ ∀ W4, Inv B w0 W4 ((some l, rc.at .ready none) :: L3) → R (.bool true) W4
  | _, .ret, _, W => ∃ L3, Inv B w0 W ((some l, rc.at .busy none) :: L3) ∧ ∀ W4, Inv B w0 W4 ((some l, rc.at .done (some .ret)) :: L3) → R (.bool false) W4
  | _, .exit id, _, W => ∃ L3, Inv B w0 W ((some l, rc.at .busy none) :: L3) ∧ ∀ W4, Inv B w0 W4 ((some l, rc.at .done (some (.exit id))) :: L3) → R (.bool false) W4
  | _, _, _, _ => False
/-- What the assignments to the loop's left sides must come to. -/
def assignE (B : Option Nat) (w0 : World) (l : Nat) (rc : Rec) (P : Program) (n : Nat) (R : Value → World → Prop) : List Deferred → Exit → Env → World → Prop
  | ds, .normal, ρ, W => ds = [] ∧ ∃ L1, Inv B w0 W ((some l, rc.at .ready none) :: L1) ∧ ∀ W2, Inv B w0 W2 ((some l, rc.at .busy none) :: L1) → WP (some l) [] P n rc.body (roundE B w0 l rc R) ρ W2
  | _, _, _, _ => False

theorem sat_setP {n : Nat} : ∀ (l : List (Nat × Value)) {ρ : Env} {tmps : Array Value}, (∀ x ∈ l, x.1 < n) → Sat [] n ρ { tmps := tmps, defers := [] } → Sat [] n (setP ρ l) { tmps := l.foldl (fun t x => t.setIfInBounds x.1 x.2) tmps, defers := [] }
  | [], _, _, _, h => h
  | (t, v) :: l, ρ, tmps, hl, h => by
    have := h.put (d := some t) (by simpa [dstOk, Nat.blt_eq] using hl (t, v) (by simp)) v
    exact sat_setP l (fun x hx => hl x (by simp [hx])) this

/-- A call of yield: a round. -/
theorem callV_yield {n l : Nat} {rc : Rec} {args : List Value} {R : Value → World → Prop} (hI : Inv B w0 w ((some l, rc.at .ready none) :: L)) (ho : rc.Of n ρ) (ps : List Nat) (hps : rc.params = ps.toArray) (hl : args.length = ps.length) (hlt : ∀ t ∈ ps, t < n)
    (h : WP (some l) [] P n rc.assign (assignE B w0 l rc P n R) (setP ρ (ps.zip args)) w) : CallV P (yfn l) args w R := by
  have hb := (hI.has 0 _ _ rfl).1
  unfold CallV
  have e : ((do let d ← Deferred.ofValue (yfn l) args.toArray; invoke d.target d.args : Sem Next)).run P w = .ok (.round l rc.fn ((rc.params.zip args.toArray).foldl (fun tmps (t, a) => tmps.setIfInBounds t a) rc.tmps) rc.assign rc.body) w := by
    have := run_yield (P := P) (args := #[] ++ args.toArray) hb (by simp [hps, hl])
    simpa [Deferred.ofValue, invoke, go_sem] using this
  rw [e]
  have ht : ((rc.params.zip args.toArray).foldl (fun tmps (t, a) => tmps.setIfInBounds t a) rc.tmps) = (ps.zip args).foldl (fun t x => t.setIfInBounds x.1 x.2) rc.tmps := by
    rw [hps]; simp
  rw [ht]
  have hsat := sat_setP (ps.zip args) (ρ := ρ) (tmps := rc.tmps) (n := n) (fun x hx => hlt _ (List.of_mem_zip hx).1) ⟨ho.size, rfl, ho.at_⟩
  refine roundIn_of_wpIn (F := Fence.wide) trivial (wpIn_mono (h.go _ hsat) ?_)
  rintro e a1 w1 ⟨ds1, ρ1, hs1, hq⟩
  cases e with
  | normal =>
    obtain ⟨rfl, L1, hI1, hk⟩ := hq
    refine ⟨_, run_beginRound (hI1.has 0 _ _ rfl).1 rfl, wpIn_mono ((hk _ (hI1.putO _)).go _ hs1) ?_⟩
    rintro e a2 w2 ⟨ds2, ρ2, hs2, hq2⟩
    cases e with
    | normal => obtain ⟨L3, hI3, hk3⟩ := hq2; exact ⟨_, _, run_endRound none (hI3.has 0 _ _ rfl).1, _, rfl, hk3 _ (hI3.putO _)⟩
    | ret => obtain ⟨L3, hI3, hk3⟩ := hq2; exact ⟨_, _, run_endRound (some .ret) (hI3.has 0 _ _ rfl).1, _, rfl, hk3 _ (hI3.putO _)⟩
    | exit id => obtain ⟨L3, hI3, hk3⟩ := hq2; exact ⟨_, _, run_endRound (some (.exit id)) (hI3.has 0 _ _ rfl).1, _, rfl, hk3 _ (hI3.putO _)⟩
    | _ => exact hq2.elim
  | _ => exact hq.elim

/-- A frame with a mark leaves. -/
theorem LeaveE.mark {fn : Func} {R : Value → World → Prop} {ds : List Deferred} {D : Nat} (hI : Inv B w0 w ((some D, .deferred (some [])) :: L)) (h : ∀ w', Inv B w0 w' L → LeaveE P fn R ds ρ w') : LeaveE P fn R (K.mark D :: ds) ρ w :=
  ⟨D, _, rfl, run_takeDeferred (hI.has 0 _ _ rfl).1, h _ (hI.putO _).tail⟩
end rf
end Go.K
