/- What an argument reads as, opened to cells, over any program; the end of a law that answers true and leaves what it reads as it was. No condition. By an AI agent; no person has read it. -/
import Derived.Test.YtfdjmhmjdihihaaPKK2
import Derived.Deep.Slices
import Derived.ChangeArms
import Derived.WideKeyArgs
import Derived.OpenShut
import Derived.WalkKit
import Derived.ProofKit
open Go Go.RowKit Go.ChangeShapes Go.Deep Go.WideShapes
namespace Go.K
set_option linter.unusedVariables false
def W64 (a : Int) : Prop := -9223372036854775808 ≤ a ∧ a ≤ 9223372036854775807
theorem wf64 {a : Int} (h : (Lit.int .i64 a).wf = true) : W64 a := by
  have h1 : IntKind.i64.min = -9223372036854775808 := rfl
  have h2 : IntKind.i64.max = 9223372036854775807 := rfl
  simp only [Lit.wf, Bool.and_eq_true, decide_eq_true_eq, h1, h2] at h
  exact h
section
variable {P : Program} {H : Type} {enc : TypeId × Value → H} {w : World} {base : Nat} {sp : Nat → Bool} {held : Bool}
theorem elem_of {t e k n : Nat} {m : Nat} {cs : List Value} {x : DataW H × List MemPlace} (ht : P.underlying t = some (.array n e)) (he : P.cellsOf e = k) (h : DataW.trod enc P w base sp held m t cs = some x) :
    cs.length = P.cellsOf t ∧ ∃ m', ∀ i, i < n → ∃ y, DataW.trod enc P w base sp held m' e ((cs.drop (i * k)).take k) = some y := by
  obtain ⟨xs, m', _, _, hl, hn, hf⟩ := DataW.trod_array ht h
  refine ⟨hl, m', fun i hi => ?_⟩
  have h1 := hf i hi
  rw [he] at h1
  exact ⟨_, h1.trans (List.getElem?_eq_getElem (by omega))⟩
theorem intb_of {ti n : Nat} {c : Value} {x : DataW H × List MemPlace} (ht : P.underlying ti = some (.int .i64)) (h : DataW.trod enc P w base sp held n ti [c] = some x) : ∃ a, c = .int .i64 a ∧ W64 a := by
  obtain ⟨a, e, _, hw⟩ := DataW.trod_int ht h
  refine ⟨a, by simpa using e, ?_⟩
  exact wf64 hw
end
theorem all_stays {P : Program} (laidOut_ : laidOutB P = true) {H : Type} {enc : TypeId × Value → H} {W W' : World} (hb : Below W.heap.size W W') {sp : Nat → Bool} : ∀ {ts : List TypeId} {vs : List Value} {ds : List (DataW H)} {ps : List MemPlace},
    (∀ t ∈ ts, P.readableRec t = true ∧ t < P.types.size) → DataW.TrodAll enc P W 0 (fun _ => true) true ts vs ds ps → (∀ p ∈ ps, p.block < W.heap.size ∧ sp p.block = true) → DataW.TrodAll enc P W' 0 sp true ts vs ds ps
  | [], vs, ds, ps, _, h, _ => by
    obtain ⟨rfl, rfl, rfl⟩ := trodAll_nil h
    exact h
  | t :: ts, vs, ds, ps, ht, h, hp => by
    obtain ⟨v, vs', d, ds', p, q, rfl, rfl, rfl, h1, h2⟩ := trodAll_cons h
    obtain ⟨r1, r2⟩ := ht t (by simp)
    exact ⟨p, q, WideElems.Trod_stays laidOut_ r1 r2 h1 (fun x hx => hb.same (hp x (List.mem_append_left _ hx)).1) (fun x hx => (hp x (List.mem_append_left _ hx)).2),
      all_stays laidOut_ hb (fun t ht' => ht t (List.mem_cons_of_mem _ ht')) h2 (fun x hx => hp x (List.mem_append_right _ hx)), rfl⟩
/-- The end of a law that answers true and writes nothing that was there. -/
theorem post_kept {P : Program} (laidOut_ : laidOutB P = true) {b4 : TypeId} (hb4 : P.underlying b4 = some .bool) {H : Type} {enc : TypeId × Value → H} {f : Func} {s : ChangeSpec} {apart fresh handsOn : Bool} {W W' : World} {args : Array Value} {ds : List (DataW H)} {before : List MemPlace}
    (hv : s.vars = []) (hW : DataW.Whole enc P f.params.toList s.vars apart W args.toList ds [] before) (hr : f.resultTypes = #[b4]) (hfn : s.fn H ds = { results := [.lit (.bool true)], args := ds })
    (ht : ∀ t ∈ f.params.toList, P.readableRec t = true ∧ t < P.types.size) (hb : Below W.heap.size W W') : s.post enc P f apart fresh handsOn false W args (.bool true) W' := by
  have hW' := hW
  obtain ⟨p, q, h1, h2, rfl, _, _⟩ := hW
  rw [hv] at h2
  obtain ⟨_, rfl⟩ := trodVars_none h2
  rw [List.append_nil] at hW'
  refine ⟨ds, [], p, [], p, [], hW', ?_, ?_, ?_, hb.frame _, fun h => by cases h⟩
  · rw [hr, List.append_nil, hfn]
    exact trodAll_cons_mk (shut_bool hb4 _) trodAll_mk0
  · rw [List.append_nil, hfn]
    exact all_stays laidOut_ hb ht h1 fun x hx => ⟨hW'.lt x hx, by simpa using hW'.lt x hx⟩
  · rw [List.append_nil, hfn, hv]; rfl
end Go.K
