/- What an argument reads as, opened to cells: numbers, rows of four numbers, three numbers. No condition. By an AI agent; no person has read it. -/
import Derived.Test.YtinkdlmimiefaaaGreatPNN
import Derived.Test.YtinkdlmimiefaaaGreatPM33
open Go Go.Proofs Go.RowKit Go.ChangeShapes Go.Deep
namespace Go.K
set_option linter.unusedVariables false
theorem c76 : Tryz.prog.cellsOf 76 = 1 := by kernel_rfl
theorem c78 : Tryz.prog.cellsOf 78 = 5 := by kernel_rfl
theorem c84 : Tryz.prog.cellsOf 84 = 3 := by kernel_rfl
theorem c160 : Tryz.prog.cellsOf 160 = 4 := by kernel_rfl
def W64 (a : Int) : Prop := -9223372036854775808 ≤ a ∧ a ≤ 9223372036854775807
theorem wf64 {a : Int} (h : (Lit.int .i64 a).wf = true) : W64 a := by
  have h1 : IntKind.i64.min = -9223372036854775808 := rfl
  have h2 : IntKind.i64.max = 9223372036854775807 := rfl
  simp only [Lit.wf, Bool.and_eq_true, decide_eq_true_eq, h1, h2] at h
  exact h
section
variable {H : Type} {enc : TypeId × Value → H} {w : World} {base : Nat} {sp : Nat → Bool} {held : Bool}
theorem intb_of {n : Nat} {c : Value} {x : DataW H × List MemPlace} (h : DataW.trod enc Tryz.prog w base sp held n 3 [c] = some x) : ∃ a, c = .int .i64 a ∧ W64 a := by
  obtain ⟨a, e, _, hw⟩ := DataW.trod_int Tryz.underlying3 h
  refine ⟨a, by simpa using e, ?_⟩
  exact wf64 hw
theorem ints_of {t n : Nat} (ht : Tryz.prog.underlying t = some (.array n 3)) {m : Nat} {cs : List Value} {x : DataW H × List MemPlace} (h : DataW.trod enc Tryz.prog w base sp held m t cs = some x) : ∀ i, i < n → ∃ a, (cs.drop i).take 1 = [.int .i64 a] ∧ W64 a := by
  obtain ⟨xs, m', _, _, hl, hn, hf⟩ := DataW.trod_array ht h
  intro i hi
  have h1 := hf i hi
  rw [c3, Nat.mul_one] at h1
  rw [List.getElem?_eq_getElem (by omega)] at h1
  obtain ⟨a, e, _, hw⟩ := DataW.trod_int Tryz.underlying3 h1
  refine ⟨a, e, ?_⟩
  exact wf64 hw
set_option maxRecDepth 20000 in
theorem a4_of {n : Nat} {cs : List Value} {x : DataW H × List MemPlace} (h : DataW.trod enc Tryz.prog w base sp held n 160 cs = some x) : ∃ r : A4, cs = eA4 r ∧ A4Ok r := by
  obtain ⟨_, _, _, _, hl, _, _⟩ := DataW.trod_array Tryz.underlying160 h
  have hi := ints_of Tryz.underlying160 h
  rw [c160] at hl
  match cs, hl with
  | [v0, v1, v2, v3], _ =>
    obtain ⟨a0, e0, w0⟩ := hi 0 (by omega)
    obtain ⟨a1, e1, w1⟩ := hi 1 (by omega)
    obtain ⟨a2, e2, w2⟩ := hi 2 (by omega)
    obtain ⟨a3, e3, w3⟩ := hi 3 (by omega)
    simp at e0 e1 e2 e3
    subst e0; subst e1; subst e2; subst e3
    exact ⟨⟨a0, a1, a2, a3⟩, rfl, w2⟩
set_option maxRecDepth 20000 in
theorem three_of {n : Nat} {cs : List Value} {x : DataW H × List MemPlace} (h : DataW.trod enc Tryz.prog w base sp held n 84 cs = some x) : ∃ a b c, cs = [.int .i64 a, .int .i64 b, .int .i64 c] := by
  obtain ⟨_, _, _, _, hl, _, _⟩ := DataW.trod_array Tryz.underlying84 h
  have hi := ints_of Tryz.underlying84 h
  rw [c84] at hl
  match cs, hl with
  | [v0, v1, v2], _ =>
    obtain ⟨a0, e0, w0⟩ := hi 0 (by omega)
    obtain ⟨a1, e1, w1⟩ := hi 1 (by omega)
    obtain ⟨a2, e2, w2⟩ := hi 2 (by omega)
    simp at e0 e1 e2
    subst e0; subst e1; subst e2
    exact ⟨a0, a1, a2, rfl⟩
/-- A slice of values of k cells each, each of which is an x with q x. -/
theorem rowq_of {α : Type} {f : α → List Value} {q : α → Prop} {k : Nat} (hk : 0 < k) (hlen : ∀ x, (f x).length = k) {t e : TypeId} (ht : Tryz.prog.underlying t = some (.slice e)) (hc : Tryz.prog.cellsOf e = k) (he : ∀ {n : Nat} {cs : List Value} {x : DataW H × List MemPlace}, DataW.trod enc Tryz.prog w base sp held n e cs = some x → ∃ l : α, cs = f l ∧ q l)
    {n : Nat} {c : Value} {x : DataW H × List MemPlace} (h : DataW.trod enc Tryz.prog w base sp held n t [c] = some x) :
    ∃ (A : Option Addr) (len cap : Nat) (l : List α), c = .slice A len cap ∧ len ≤ cap ∧ cap ≤ maxLen ∧ len = l.length ∧ Cells w A (flat f l) ∧ ∀ x ∈ l, q x := by
  rcases open_slice ht h with ⟨h1, _⟩ | ⟨a, len, cap, m, n', D, Pl, h1, _, h2, h3, h4, _, h5⟩
  · exact ⟨none, 0, 0, [], by simpa using h1, Nat.le_refl _, by decide, rfl, fun h => by simp [flat] at h, fun x hx => by cases hx⟩
  · have hm : len ≤ m := by rw [h4]; split <;> omega
    obtain ⟨l, hl, hp⟩ := list_of (p := fun i (x : α) => w.cells? base (a.add (i * k)) k = some (f x) ∧ q x) len fun i hi => by
      obtain ⟨cs', e1, e2⟩ := h5 i (by omega)
      rw [hc] at e1
      obtain ⟨x, rfl, hq⟩ := he e2
      exact ⟨x, e1, hq⟩
    refine ⟨some a, len, cap, l, by simpa using h1, h2, h3, hl.symm, fun hpos => ?_, fun x hx => ?_⟩
    · have at_ : ∀ i x j u, l[i]? = some x → (f x)[j]? = some u → w.cell? ((a.add (i * k)).add j) = some u := fun i x j u hx hu => by
        obtain ⟨_, e2, e3⟩ := World.cells?_some (hp i x hx).1
        have := (List.getElem?_eq_some_iff.1 hu).1
        rw [e3 j (by rw [hlen] at this; exact this), hu]
      have hl0 : 0 < l.length := by
        rw [flat_len hlen] at hpos
        rcases Nat.eq_zero_or_pos l.length with h0 | h0
        · rw [h0, Nat.zero_mul] at hpos; omega
        · exact h0
      have hf0 : 0 < (f l[0]).length := by rw [hlen]; omega
      have h00 := at_ 0 l[0] 0 _ (List.getElem?_eq_getElem hl0) (List.getElem?_eq_getElem hf0)
      obtain ⟨b, off, s⟩ := a
      have e0 : ((Addr.mk b off s).add (0 * k)).add 0 = ⟨b, off, s⟩ := by rw [Nat.zero_mul]; rfl
      rw [e0] at h00
      obtain ⟨rfl, hb⟩ := cell_lt h00
      refine ⟨b, off, rfl, hb, fun j u hj => ?_⟩
      have hj' : j < l.length * k := by rw [← flat_len hlen]; exact (List.getElem?_eq_some_iff.1 hj).1
      have hi : j / k < l.length := Nat.div_lt_of_lt_mul (by rw [Nat.mul_comm]; exact hj')
      have hg := flat_get hlen l (j / k) (j % k) l[j / k] (List.getElem?_eq_getElem hi) (Nat.mod_lt _ hk)
      have ej : j / k * k + j % k = j := by rw [Nat.mul_comm]; exact Nat.div_add_mod j k
      rw [ej] at hg
      have := at_ (j / k) l[j / k] (j % k) u (List.getElem?_eq_getElem hi) (hg ▸ hj)
      rw [add_lit, add_lit, Nat.add_assoc, ej] at this
      exact this
    · obtain ⟨i, hi, e⟩ := List.getElem_of_mem hx
      exact (hp i x (by rw [List.getElem?_eq_getElem hi, e])).2
set_option maxRecDepth 20000 in
theorem raw_of {v : Value} {d : DataW H} {ps : List MemPlace} (hv : Value.okWide Tryz.prog w .any base 78 v) (h : DataW.Trod enc Tryz.prog w 0 sp held 78 v d ps) :
    ∃ (q0 q1 : Int) (A1 : Option Addr) (n1 m1 : Nat) (A2 : Option Addr) (n2 m2 : Nat) (A3 : Option Addr) (n3 m3 : Nat) (ls ss ps : List A4), v = .agg #[.int .i64 q0, .int .i64 q1, .slice A1 n1 m1, .slice A2 n2 m2, .slice A3 n3 m3] ∧ W64 q0
      ∧ (Cells w A1 (flat eA4 ls) ∧ n1 = ls.length ∧ n1 ≤ 9223372036854775807 ∧ ∀ r ∈ ls, A4Ok r) ∧ (Cells w A2 (flat eA4 ss) ∧ n2 = ss.length ∧ n2 ≤ 9223372036854775807 ∧ ∀ r ∈ ss, A4Ok r) ∧ (Cells w A3 (flat eA4 ps) ∧ n3 = ps.length ∧ n3 ≤ 9223372036854775807 ∧ ∀ r ∈ ps, A4Ok r) := by
  obtain ⟨cs, rfl, hsz⟩ := Go.WideShapes.okWide_struct Tryz.underlying78 hv
  obtain ⟨fuel, h⟩ := h
  have hcs : (Value.agg cs).cells.toList = cs.toList := rfl
  rw [hcs] at h
  obtain ⟨l⟩ := cs
  obtain ⟨hl, m, hf⟩ := field_of Tryz.underlying78 h
  rw [c78] at hl
  match l, hl with
  | [v0, v1, v2, v3, v4], _ =>
    obtain ⟨_, h0⟩ := hf 0 _ rfl 3 0 1 rfl rfl c3
    obtain ⟨_, h1⟩ := hf 1 _ rfl 3 1 1 rfl rfl c3
    obtain ⟨_, h2⟩ := hf 2 _ rfl 76 2 1 rfl rfl c76
    obtain ⟨_, h3⟩ := hf 3 _ rfl 76 3 1 rfl rfl c76
    obtain ⟨_, h4⟩ := hf 4 _ rfl 76 4 1 rfl rfl c76
    obtain ⟨a0, rfl, hw⟩ := intb_of (c := v0) h0
    obtain ⟨a1, rfl⟩ := int_of (c := v1) h1
    obtain ⟨A1, n1, m1, l1, rfl, x1, y1, z1, k1, o1⟩ := rowq_of (by decide) eA4_len Tryz.underlying76 c160 a4_of (c := v2) h2
    obtain ⟨A2, n2, m2, l2, rfl, x2, y2, z2, k2, o2⟩ := rowq_of (by decide) eA4_len Tryz.underlying76 c160 a4_of (c := v3) h3
    obtain ⟨A3, n3, m3, l3, rfl, x3, y3, z3, k3, o3⟩ := rowq_of (by decide) eA4_len Tryz.underlying76 c160 a4_of (c := v4) h4
    unfold maxLen at y1 y2 y3
    exact ⟨a0, a1, A1, n1, m1, A2, n2, m2, A3, n3, m3, l1, l2, l3, rfl, hw, ⟨k1, z1, by omega, o1⟩, ⟨k2, z2, by omega, o2⟩, ⟨k3, z3, by omega, o3⟩⟩
end
end Go.K
