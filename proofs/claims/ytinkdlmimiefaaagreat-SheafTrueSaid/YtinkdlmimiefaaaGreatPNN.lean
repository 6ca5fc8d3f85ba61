/- N2, N0. -/
import Derived.Test.YtinkdlmimiefaaaGreatPKK2
import Derived.Test.YtinkdlmimiefaaaGreatProg
import Derived.Deep.Slices
import Derived.ChangeArms
import Derived.WideKeyArgs
import Derived.OpenShut
import Derived.WalkKit
import Derived.ProofKit
set_option linter.unusedVariables false
set_option linter.unusedSimpArgs false
section
/- What an argument reads as, opened to cells: a plot and a change. No condition. By an AI agent; no person has read it. -/
open Go Go.Proofs Go.RowKit Go.ChangeShapes Go.Deep
namespace Go.K
theorem laidOut_ : laidOutB Tryz.prog = true := by kernel_rfl
theorem c3 : Tryz.prog.cellsOf 3 = 1 := by kernel_rfl
theorem c23 : Tryz.prog.cellsOf 23 = 2 := by kernel_rfl
theorem c24 : Tryz.prog.cellsOf 24 = 1 := by kernel_rfl
theorem c25 : Tryz.prog.cellsOf 25 = 1 := by kernel_rfl
theorem c26 : Tryz.prog.cellsOf 26 = 1 := by kernel_rfl
theorem c28 : Tryz.prog.cellsOf 28 = 6 := by kernel_rfl
theorem c30 : Tryz.prog.cellsOf 30 = 6 := by kernel_rfl
theorem c31 : Tryz.prog.cellsOf 31 = 6 := by kernel_rfl
theorem c33 : Tryz.prog.cellsOf 33 = 6 := by kernel_rfl
theorem c35 : Tryz.prog.cellsOf 35 = 18 := by kernel_rfl
section
variable {H : Type} {enc : TypeId × Value → H} {w : World} {base : Nat} {sp : Nat → Bool} {held : Bool}
/-- What a reading of a struct says of a field. -/
theorem field_of {t : TypeId} {fs : Array Field} {n : Nat} {cs : List Value} {x : DataW H × List MemPlace} (ht : Tryz.prog.underlying t = some (.struct fs)) (h : DataW.trod enc Tryz.prog w base sp held n t cs = some x) :
    cs.length = Tryz.prog.cellsOf t ∧ ∃ m, ∀ (i : Nat) (f : Field), fs[i]? = some f → ∀ (ty off k : Nat), f.type = ty → f.offset = off → Tryz.prog.cellsOf ty = k → ∃ y, DataW.trod enc Tryz.prog w base sp held m ty ((cs.drop off).take k) = some y := by
  obtain ⟨xs, m, _, _, hl, hn, hf⟩ := DataW.trod_struct ht h
  refine ⟨hl, m, fun i f hi ty off k e1 e2 e3 => ?_⟩
  subst e1; subst e2; subst e3
  have hi' : i < fs.size := (Array.getElem?_eq_some_iff.1 hi).1
  exact ⟨_, (hf i f hi).trans (List.getElem?_eq_getElem (by omega))⟩
theorem int_of {n : Nat} {c : Value} {x : DataW H × List MemPlace} (h : DataW.trod enc Tryz.prog w base sp held n 3 [c] = some x) : ∃ a, c = .int .i64 a := by
  obtain ⟨a, e, _⟩ := DataW.trod_int Tryz.underlying3 h
  exact ⟨a, by simpa using e⟩
theorem rg_of {n : Nat} {c d : Value} {x : DataW H × List MemPlace} (h : DataW.trod enc Tryz.prog w base sp held n 23 [c, d] = some x) : ∃ a b, c = .int .i64 a ∧ d = .int .i64 b := by
  obtain ⟨_, m, hf⟩ := field_of Tryz.underlying23 h
  obtain ⟨_, h0⟩ := hf 0 _ rfl 3 0 1 rfl rfl c3
  obtain ⟨_, h1⟩ := hf 1 _ rfl 3 1 1 rfl rfl c3
  obtain ⟨a, rfl⟩ := int_of (c := c) h0
  obtain ⟨b, rfl⟩ := int_of (c := d) h1
  exact ⟨a, b, rfl, rfl⟩
set_option maxRecDepth 20000 in
theorem ld_of {t : TypeId} (ht : t = 30 ∨ t = 31) {n : Nat} {cs : List Value} {x : DataW H × List MemPlace} (h : DataW.trod enc Tryz.prog w base sp held n t cs = some x) : ∃ l : Ld, cs = eLd l := by
  have hu : Tryz.prog.underlying t = some (.struct #[{ name := "Source", type := 3, offset := 0, embedded := false, tag := "", pkgPath := "", byteOffset := 0 }, { name := "Hour", type := 3, offset := 1, embedded := false, tag := "", pkgPath := "", byteOffset := 8 }, { name := "Sheaves", type := 23, offset := 2, embedded := false, tag := "", pkgPath := "", byteOffset := 16 }, { name := "Known", type := 3, offset := 4, embedded := false, tag := "", pkgPath := "", byteOffset := 32 }, { name := "Until", type := 3, offset := 5, embedded := false, tag := "", pkgPath := "", byteOffset := 40 }]) := by
    rcases ht with rfl | rfl
    · exact Tryz.underlying30
    · exact Tryz.underlying31
  have hc : Tryz.prog.cellsOf t = 6 := by rcases ht with rfl | rfl; exact c30; exact c31
  obtain ⟨hl, m, hf⟩ := field_of hu h
  rw [hc] at hl
  match cs, hl with
  | [v0, v1, v2, v3, v4, v5], _ =>
    obtain ⟨_, h0⟩ := hf 0 _ rfl 3 0 1 rfl rfl c3
    obtain ⟨_, h1⟩ := hf 1 _ rfl 3 1 1 rfl rfl c3
    obtain ⟨_, h2⟩ := hf 2 _ rfl 23 2 2 rfl rfl c23
    obtain ⟨_, h3⟩ := hf 3 _ rfl 3 4 1 rfl rfl c3
    obtain ⟨_, h4⟩ := hf 4 _ rfl 3 5 1 rfl rfl c3
    obtain ⟨a0, rfl⟩ := int_of (c := v0) h0
    obtain ⟨a1, rfl⟩ := int_of (c := v1) h1
    obtain ⟨a2, a3, rfl, rfl⟩ := rg_of (c := v2) (d := v3) h2
    obtain ⟨a4, rfl⟩ := int_of (c := v4) h3
    obtain ⟨a5, rfl⟩ := int_of (c := v5) h4
    exact ⟨⟨a0, a1, a2, a3, a4, a5⟩, rfl⟩
set_option maxRecDepth 20000 in
theorem sp_of {n : Nat} {cs : List Value} {x : DataW H × List MemPlace} (h : DataW.trod enc Tryz.prog w base sp held n 33 cs = some x) : ∃ l : Sp, cs = eSp l := by
  obtain ⟨hl, m, hf⟩ := field_of Tryz.underlying33 h
  rw [c33] at hl
  match cs, hl with
  | [v0, v1, v2, v3, v4, v5], _ =>
    obtain ⟨_, h0⟩ := hf 0 _ rfl 3 0 1 rfl rfl c3
    obtain ⟨_, h1⟩ := hf 1 _ rfl 3 1 1 rfl rfl c3
    obtain ⟨_, h2⟩ := hf 2 _ rfl 3 2 1 rfl rfl c3
    obtain ⟨_, h3⟩ := hf 3 _ rfl 3 3 1 rfl rfl c3
    obtain ⟨_, h4⟩ := hf 4 _ rfl 3 4 1 rfl rfl c3
    obtain ⟨_, h5⟩ := hf 5 _ rfl 3 5 1 rfl rfl c3
    obtain ⟨a0, rfl⟩ := int_of (c := v0) h0
    obtain ⟨a1, rfl⟩ := int_of (c := v1) h1
    obtain ⟨a2, rfl⟩ := int_of (c := v2) h2
    obtain ⟨a3, rfl⟩ := int_of (c := v3) h3
    obtain ⟨a4, rfl⟩ := int_of (c := v4) h4
    obtain ⟨a5, rfl⟩ := int_of (c := v5) h5
    exact ⟨⟨a0, a1, a2, a3, a4, a5⟩, rfl⟩
/-- As many as there are, in a row. -/
theorem list_of {α : Type} {p : Nat → α → Prop} : ∀ (n : Nat), (∀ i, i < n → ∃ x, p i x) → ∃ l : List α, l.length = n ∧ ∀ i x, l[i]? = some x → p i x
  | 0, _ => ⟨[], rfl, fun i x h => by simp at h⟩
  | n + 1, h => by
    obtain ⟨l, hl, hp⟩ := list_of n fun i hi => h i (by omega)
    obtain ⟨y, hy⟩ := h n (by omega)
    refine ⟨l ++ [y], by simp [hl], fun i x hx => ?_⟩
    rcases Nat.lt_trichotomy i n with h1 | h1 | h1
    · rw [List.getElem?_append_left (by omega)] at hx
      exact hp i x hx
    · subst h1
      rw [List.getElem?_append_right (by omega), hl, Nat.sub_self] at hx
      simp at hx
      subst hx; exact hy
    · rw [List.getElem?_eq_none (by simp; omega)] at hx; cases hx
theorem cell_lt {a : Addr} {v : Value} (h : w.cell? a = some v) : a.spot = none ∧ a.block < w.heap.size := by
  unfold World.cell? at h
  split at h
  · rename_i hb
    split at h
    · cases h
    · rename_i hs
      exact ⟨by simpa using hs, (Array.getElem?_eq_some_iff.1 hb).1⟩
  · cases h
/-- A slice of structs of six cells each. -/
theorem row_of {α : Type} {f : α → List Value} (hlen : ∀ x, (f x).length = 6) {t e : TypeId} (ht : Tryz.prog.underlying t = some (.slice e)) (hc : Tryz.prog.cellsOf e = 6) (he : ∀ {n : Nat} {cs : List Value} {x : DataW H × List MemPlace}, DataW.trod enc Tryz.prog w base sp held n e cs = some x → ∃ l : α, cs = f l)
    {n : Nat} {c : Value} {x : DataW H × List MemPlace} (h : DataW.trod enc Tryz.prog w base sp held n t [c] = some x) :
    ∃ (A : Option Addr) (len cap : Nat) (l : List α), c = .slice A len cap ∧ len ≤ cap ∧ cap ≤ maxLen ∧ len = l.length ∧ Cells w A (flat f l) := by
  rcases open_slice ht h with ⟨h1, _⟩ | ⟨a, len, cap, m, n', D, Pl, h1, _, h2, h3, h4, _, h5⟩
  · exact ⟨none, 0, 0, [], by simpa using h1, Nat.le_refl _, by decide, rfl, fun h => by simp [flat] at h⟩
  · have hm : len ≤ m := by rw [h4]; split <;> omega
    obtain ⟨l, hl, hp⟩ := list_of (p := fun i (x : α) => w.cells? base (a.add (i * 6)) 6 = some (f x)) len fun i hi => by
      obtain ⟨cs', e1, e2⟩ := h5 i (by omega)
      rw [hc] at e1
      obtain ⟨x, rfl⟩ := he e2
      exact ⟨x, e1⟩
    refine ⟨some a, len, cap, l, by simpa using h1, h2, h3, hl.symm, fun hpos => ?_⟩
    have at_ : ∀ i x j u, l[i]? = some x → (f x)[j]? = some u → w.cell? ((a.add (i * 6)).add j) = some u := fun i x j u hx hu => by
      obtain ⟨_, e2, e3⟩ := World.cells?_some (hp i x hx)
      have := (List.getElem?_eq_some_iff.1 hu).1
      rw [e3 j (by omega), hu]
    have hl0 : 0 < l.length := by rw [flat_len hlen] at hpos; omega
    have hf0 : 0 < (f l[0]).length := by rw [hlen]; omega
    have h00 := at_ 0 l[0] 0 _ (List.getElem?_eq_getElem hl0) (List.getElem?_eq_getElem hf0)
    obtain ⟨b, off, s⟩ := a
    have e0 : ((Addr.mk b off s).add (0 * 6)).add 0 = ⟨b, off, s⟩ := rfl
    rw [e0] at h00
    obtain ⟨rfl, hb⟩ := cell_lt h00
    refine ⟨b, off, rfl, hb, fun j u hj => ?_⟩
    have hj' : j < l.length * 6 := by rw [← flat_len hlen]; exact (List.getElem?_eq_some_iff.1 hj).1
    have hi : j / 6 < l.length := by omega
    have hg := flat_get hlen l (j / 6) (j % 6) l[j / 6] (List.getElem?_eq_getElem hi) (by omega)
    have ej : j / 6 * 6 + j % 6 = j := by omega
    rw [ej] at hg
    have := at_ (j / 6) l[j / 6] (j % 6) u (List.getElem?_eq_getElem hi) (hg ▸ hj)
    rw [add_lit, add_lit, Nat.add_assoc, ej] at this
    exact this
set_option maxRecDepth 20000 in
theorem plot_of {v : Value} {d : DataW H} {ps : List MemPlace} (hv : Value.okWide Tryz.prog w .any base 28 v) (h : DataW.Trod enc Tryz.prog w 0 sp held 28 v d ps) :
    ∃ (pl : Pl) (A1 : Option Addr) (n1 m1 : Nat) (A2 : Option Addr) (n2 m2 : Nat) (A3 : Option Addr) (n3 m3 : Nat), v = .agg #[.int .i64 pl.lo, .int .i64 pl.hi, .slice A1 n1 m1, .slice A2 n2 m2, .slice A3 n3 m3, .int .i64 pl.geese] ∧ PlotIn w pl A1 n1 A2 n2 A3 n3 ∧ n2 ≤ m2 := by
  obtain ⟨cs, rfl, hsz⟩ := Go.WideShapes.okWide_struct Tryz.underlying28 hv
  obtain ⟨fuel, h⟩ := h
  have hcs : (Value.agg cs).cells.toList = cs.toList := rfl
  rw [hcs] at h
  obtain ⟨l⟩ := cs
  obtain ⟨hl, m, hf⟩ := field_of Tryz.underlying28 h
  rw [c28] at hl
  match l, hl with
  | [v0, v1, v2, v3, v4, v5], _ =>
    obtain ⟨_, h0⟩ := hf 0 _ rfl 23 0 2 rfl rfl c23
    obtain ⟨_, h1⟩ := hf 1 _ rfl 24 2 1 rfl rfl c24
    obtain ⟨_, h2⟩ := hf 2 _ rfl 25 3 1 rfl rfl c25
    obtain ⟨_, h3⟩ := hf 3 _ rfl 26 4 1 rfl rfl c26
    obtain ⟨_, h4⟩ := hf 4 _ rfl 3 5 1 rfl rfl c3
    obtain ⟨a0, a1, rfl, rfl⟩ := rg_of (c := v0) (d := v1) h0
    obtain ⟨A1, n1, m1, l1, rfl, x1, y1, z1, k1⟩ := row_of eLd_len Tryz.underlying24 c30 (ld_of (.inl rfl)) (c := v2) h1
    obtain ⟨A2, n2, m2, l2, rfl, x2, y2, z2, k2⟩ := row_of eLd_len Tryz.underlying25 c31 (ld_of (.inr rfl)) (c := v3) h2
    obtain ⟨A3, n3, m3, l3, rfl, x3, y3, z3, k3⟩ := row_of eSp_len Tryz.underlying26 c33 sp_of (c := v4) h3
    obtain ⟨a5, rfl⟩ := int_of (c := v5) h4
    unfold maxLen at y1 y2 y3
    exact ⟨⟨a0, a1, l1, l2, l3, a5⟩, A1, n1, m1, A2, n2, m2, A3, n3, m3, rfl, ⟨k1, z1, k2, z2, k3, z3, by omega, by omega, by omega⟩, x2⟩
set_option maxRecDepth 20000 in
theorem change_of {v : Value} {d : DataW H} {ps : List MemPlace} (hv : Value.okWide Tryz.prog w .any base 35 v) (h : DataW.Trod enc Tryz.prog w 0 sp held 35 v d ps) :
    ∃ (ll xx : Ld) (s : Sp), v = .agg (eLd ll ++ eLd xx ++ eSp s).toArray := by
  obtain ⟨cs, rfl, hsz⟩ := Go.WideShapes.okWide_struct Tryz.underlying35 hv
  obtain ⟨fuel, h⟩ := h
  have hcs : (Value.agg cs).cells.toList = cs.toList := rfl
  rw [hcs] at h
  obtain ⟨l⟩ := cs
  obtain ⟨hl, m, hf⟩ := field_of Tryz.underlying35 h
  rw [c35] at hl
  obtain ⟨_, h0⟩ := hf 0 _ rfl 30 0 6 rfl rfl c30
  obtain ⟨_, h1⟩ := hf 1 _ rfl 31 6 6 rfl rfl c31
  obtain ⟨_, h2⟩ := hf 2 _ rfl 33 12 6 rfl rfl c33
  obtain ⟨ll, e0⟩ := ld_of (.inl rfl) h0
  obtain ⟨xx, e1⟩ := ld_of (.inr rfl) h1
  obtain ⟨s, e2⟩ := sp_of h2
  refine ⟨ll, xx, s, ?_⟩
  rw [← e0, ← e1, ← e2]
  congr 1
  have h18 : l.length = 18 := hl
  have : ((l.drop 0).take 6 ++ (l.drop 6).take 6) ++ (l.drop 12).take 6 = l := by
    have a1 : (l.drop 0).take 6 ++ (l.drop 6).take 6 = l.take 12 := by rw [List.drop_zero, ← List.take_add]
    rw [a1, ← List.take_add, List.take_of_length_le (by omega)]
  exact congrArg List.toArray this.symm
end
end Go.K
end
section
/- The end of a law that answers true and leaves what it reads as it was. No condition. By an AI agent; no person has read it. -/
namespace Go.Proofs.YtinkdlmimiefaaaGreat.ends
open Go Go.ChangeShapes Go.WideShapes Go.RowKit Go.K
set_option linter.unusedVariables false
theorem own : ownKnob Tryz.prog.godebug = none := by kernel_rfl
theorem all_stays {H : Type} {enc : TypeId × Value → H} {W W' : World} (hb : Below W.heap.size W W') {sp : Nat → Bool} : ∀ {ts : List TypeId} {vs : List Value} {ds : List (DataW H)} {ps : List MemPlace},
    (∀ t ∈ ts, Tryz.prog.readableRec t = true ∧ t < Tryz.prog.types.size) → DataW.TrodAll enc Tryz.prog W 0 (fun _ => true) true ts vs ds ps → (∀ p ∈ ps, p.block < W.heap.size ∧ sp p.block = true) → DataW.TrodAll enc Tryz.prog W' 0 sp true ts vs ds ps
  | [], vs, ds, ps, _, h, _ => by
    obtain ⟨rfl, rfl, rfl⟩ := trodAll_nil h
    exact h
  | t :: ts, vs, ds, ps, ht, h, hp => by
    obtain ⟨v, vs', d, ds', p, q, rfl, rfl, rfl, h1, h2⟩ := trodAll_cons h
    obtain ⟨r1, r2⟩ := ht t (by simp)
    exact ⟨p, q, WideElems.Trod_stays laidOut_ r1 r2 h1 (fun x hx => hb.same (hp x (List.mem_append_left _ hx)).1) (fun x hx => (hp x (List.mem_append_left _ hx)).2),
      all_stays hb (fun t ht' => ht t (List.mem_cons_of_mem _ ht')) h2 (fun x hx => hp x (List.mem_append_right _ hx)), rfl⟩
/-- The end of a law that answers true and writes nothing that was there. -/
theorem post_kept {H : Type} {enc : TypeId × Value → H} {f : Func} {s : ChangeSpec} {apart fresh handsOn : Bool} {W W' : World} {args : Array Value} {ds : List (DataW H)} {before : List MemPlace}
    (hv : s.vars = []) (hW : DataW.Whole enc Tryz.prog f.params.toList s.vars apart W args.toList ds [] before) (hr : f.resultTypes = #[4]) (hfn : s.fn H ds = { results := [.lit (.bool true)], args := ds })
    (ht : ∀ t ∈ f.params.toList, Tryz.prog.readableRec t = true ∧ t < Tryz.prog.types.size) (hb : Below W.heap.size W W') : s.post enc Tryz.prog f apart fresh handsOn false W args (.bool true) W' := by
  have hW' := hW
  obtain ⟨p, q, h1, h2, rfl, _, _⟩ := hW
  rw [hv] at h2
  obtain ⟨_, rfl⟩ := trodVars_none h2
  rw [List.append_nil] at hW'
  refine ⟨ds, [], p, [], p, [], hW', ?_, ?_, ?_, hb.frame _, fun h => by cases h⟩
  · rw [hr, List.append_nil, hfn]
    exact trodAll_cons_mk (shut_bool Tryz.underlying4 _) trodAll_mk0
  · rw [List.append_nil, hfn]
    exact all_stays hb ht h1 fun x hx => ⟨hW'.lt x hx, by simpa using hW'.lt x hx⟩
  · rw [List.append_nil, hfn, hv]; rfl
end Go.Proofs.YtinkdlmimiefaaaGreat.ends
end
