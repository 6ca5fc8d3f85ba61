import Derived.Test.YtcondbkhcjgemaaGreatDoorEKK3
import Derived.Test.YtcondbkhcjgemaaGreatDoorProg
import Derived.Test.YtcondbkhcjgemaaGreatDoorED
import Derived.SizedLaws
open Go Go.Proofs Go.RowKit Go.ChangeShapes Go.Deep Go.WideShapes
namespace Go.K
set_option linter.unusedVariables false
theorem laid_ : laidOutB Tryz.prog = true := by kernel_rfl
def SL (s : Str) : Prop := s.length ≤ 9223372036854775807
def WtB (P : Program) {H : Type} (t : TypeId) (d : DataW H) : Prop := ∀ n ∈ DataW.weights P t d, n ≤ 140737488351232
def SZ (s : Str) : Prop := s.length ≤ 140737488351232
section
variable {P : Program} {H : Type} {enc : TypeId × Value → H} {w : World} {base : Nat} {sp : Nat → Bool} {held : Bool}
theorem wt_all {e : TypeId} : ∀ {l : List (DataW H)} {d : DataW H}, d ∈ l → ∀ n ∈ DataW.weights P e d, n ∈ DataW.weightsAll P e l
  | x :: l, d, hd, n, hn => by
    simp only [DataW.weightsAll, List.mem_append]
    rcases List.mem_cons.1 hd with rfl | h
    · exact Or.inl hn
    exact Or.inr (wt_all h n hn)
theorem field_z {t : TypeId} {fs : Array Field} {n : Nat} {cs : List Value} {x : DataW H × List MemPlace} (ht : P.underlying t = some (.struct fs)) (h : DataW.trod enc P w base sp held n t cs = some x) (hz : WtB P t x.1) :
    cs.length = P.cellsOf t ∧ ∃ m, ∀ (i : Nat) (f : Field), fs[i]? = some f → ∀ (ty off k : Nat), f.type = ty → f.offset = off → P.cellsOf ty = k → ∃ y, DataW.trod enc P w base sp held m ty ((cs.drop off).take k) = some y ∧ WtB P ty y.1 := by
  obtain ⟨xs, m, _, rfl, hl, hn, hf⟩ := DataW.trod_struct ht h
  refine ⟨hl, m, fun i f hi ty off k e1 e2 e3 => ?_⟩
  subst e1; subst e2; subst e3
  have hi' : i < fs.size := (Array.getElem?_eq_some_iff.1 hi).1
  refine ⟨xs[i]'(by omega), (hf i f hi).trans (List.getElem?_eq_getElem (by omega)), fun n hn => hz n ?_⟩
  show n ∈ DataW.weights P t (.agg (xs.map (·.1)))
  unfold DataW.weights
  rw [ht]
  exact DataW.weights_mem_each (j := i) (by simp [hi]) (by rw [List.getElem?_map, List.getElem?_eq_getElem (by omega)]; rfl) n hn
theorem elem_z {t e k n : Nat} {m : Nat} {cs : List Value} {x : DataW H × List MemPlace} (ht : P.underlying t = some (.array n e)) (he : P.cellsOf e = k) (h : DataW.trod enc P w base sp held m t cs = some x) (hz : WtB P t x.1) :
    cs.length = P.cellsOf t ∧ ∃ m', ∀ i, i < n → ∃ y, DataW.trod enc P w base sp held m' e ((cs.drop (i * k)).take k) = some y ∧ WtB P e y.1 := by
  obtain ⟨xs, m', _, rfl, hl, hn, hf⟩ := DataW.trod_array ht h
  refine ⟨hl, m', fun i hi => ?_⟩
  have h1 := hf i hi
  rw [he] at h1
  refine ⟨xs[i]'(by omega), h1.trans (List.getElem?_eq_getElem (by omega)), fun n hn => hz n ?_⟩
  show n ∈ DataW.weights P t (.agg (xs.map (·.1)))
  unfold DataW.weights
  rw [ht]
  exact wt_all (List.mem_map.2 ⟨xs[i]'(by omega), List.getElem_mem _, rfl⟩) n hn
theorem str_z {ti n : Nat} {c : Value} {x : DataW H × List MemPlace} (ht : P.underlying ti = some .string) (h : DataW.trod enc P w base sp held n ti [c] = some x) (hz : WtB P ti x.1) : ∃ s : Str, c = .string (bts s) ∧ SZ s := by
  obtain ⟨s, d, e1, e2⟩ : ∃ (s : Str) (p : List MemPlace), c = .string (bts s) ∧ x = (.lit (.string s), p) := by
    obtain ⟨s, e, ex, hw⟩ := DataW.trod_string ht h
    injection e with e1 _
    exact ⟨s.data.toList, x.2, e1, by rw [ex]⟩
  subst e2
  exact ⟨s, e1, hz _ (by simp [DataW.weights])⟩
theorem row_z {α : Type} {f : α → List Value} {q : α → Prop} {k by_ : Nat} (hk : 0 < k) (hlen : ∀ x, (f x).length = k) {t e : TypeId} (ht : P.underlying t = some (.slice e)) (hc : P.cellsOf e = k) (hby : P.bytesOf e = by_) (he : ∀ {n : Nat} {cs : List Value} {x : DataW H × List MemPlace}, DataW.trod enc P w base sp held n e cs = some x → WtB P e x.1 → ∃ l : α, cs = f l ∧ q l)
    {n : Nat} {c : Value} {x : DataW H × List MemPlace} (h : DataW.trod enc P w base sp held n t [c] = some x) (hz : WtB P t x.1) :
    ∃ (A : Option Addr) (cap : Nat) (l : List α), c = .slice A l.length cap ∧ bi w A (al f l) ∧ l.length ≤ 9223372036854775807 ∧ l.length ≤ cap ∧ l.length * by_ ≤ 140737488351232 ∧ ∀ x ∈ l, q x := by
  rcases open_slice ht h with ⟨h1, rfl⟩ | ⟨a, len, cap, m, n', D, Pl, h1, _, h2, h3, h4, rfl, h5⟩
  · exact ⟨none, 0, [], by simpa using h1, fun h => by simp [al] at h, by simp, by simp, by simp, fun x hx => by cases hx⟩
  have hm : len ≤ m := by rw [h4]; split <;> omega
  have hw : ∀ n ∈ (((List.range len).map D).length * P.bytesOf e + ((List.range (m - len)).map fun j => D (len + j)).length * P.bytesOf e) :: (DataW.weightsAll P e ((List.range len).map D) ++ DataW.weightsAll P e ((List.range (m - len)).map fun j => D (len + j))), n ≤ 140737488351232 := by
    intro n hn
    refine hz n ?_
    show n ∈ DataW.weights P t (.slice _ _)
    unfold DataW.weights
    rw [ht]
    simpa [Nat.add_mul] using hn
  have hb : len * by_ ≤ 140737488351232 := by
    have := hw _ (List.mem_cons_self ..)
    rw [hby, List.length_map, List.length_range] at this
    omega
  have hd : ∀ i, i < len → WtB P e (D i) := fun i hi n hn => hw n (List.mem_cons_of_mem _ (List.mem_append_left _ (wt_all (List.mem_map.2 ⟨i, List.mem_range.2 hi, rfl⟩) n hn)))
  obtain ⟨l, hl, hp⟩ := list_of (p := fun i (x : α) => w.cells? base (a.add (i * k)) k = some (f x) ∧ q x) len fun i hi => by
    obtain ⟨cs', e1, e2⟩ := h5 i (by omega)
    rw [hc] at e1
    obtain ⟨x, rfl, hq⟩ := he e2 (hd i hi)
    exact ⟨x, e1, hq⟩
  subst hl
  unfold maxLen at h3
  refine ⟨some a, cap, l, by simpa using h1, fun hpos => ?_, by omega, h2, hb, fun x hx => ?_⟩
  · have at_ : ∀ i x j u, l[i]? = some x → (f x)[j]? = some u → w.cell? ((a.add (i * k)).add j) = some u := fun i x j u hx hu => by
      obtain ⟨_, e2, e3⟩ := World.cells?_some (hp i x hx).1
      have := (List.getElem?_eq_some_iff.1 hu).1
      rw [e3 j (by rw [hlen] at this; exact this), hu]
    have hl0 : 0 < l.length := by
      rw [dt hlen] at hpos
      rcases Nat.eq_zero_or_pos l.length with h0 | h0
      · rw [h0, Nat.zero_mul] at hpos; omega
      exact h0
    have hf0 : 0 < (f l[0]).length := by rw [hlen]; omega
    have h00 := at_ 0 l[0] 0 _ (List.getElem?_eq_getElem hl0) (List.getElem?_eq_getElem hf0)
    obtain ⟨b, off, s⟩ := a
    have e0 : ((Addr.mk b off s).add (0 * k)).add 0 = ⟨b, off, s⟩ := by rw [Nat.zero_mul]; rfl
    rw [e0] at h00
    obtain ⟨rfl, hb⟩ := cell_lt h00
    refine ⟨b, off, rfl, hb, fun j u hj => ?_⟩
    have hj' : j < l.length * k := by rw [← dt hlen]; exact (List.getElem?_eq_some_iff.1 hj).1
    have hi : j / k < l.length := Nat.div_lt_of_lt_mul (by rw [Nat.mul_comm]; exact hj')
    have hg := flat_get hlen l (j / k) (j % k) l[j / k] (List.getElem?_eq_getElem hi) (Nat.mod_lt _ hk)
    have ej : j / k * k + j % k = j := by rw [Nat.mul_comm]; exact Nat.div_add_mod j k
    rw [ej] at hg
    have := at_ (j / k) l[j / k] (j % k) u (List.getElem?_eq_getElem hi) (hg ▸ hj)
    rw [jl, jl, Nat.add_assoc, ej] at this
    exact this
  obtain ⟨i, hi, e⟩ := List.getElem_of_mem hx
  exact (hp i x (by rw [List.getElem?_eq_getElem hi, e])).2
theorem wt_arg {ts : List TypeId} {ds : List (DataW H)} (h : (DataW.weightsEach P ts ds).all (· ≤ reachBytes) = true) {j : Nat} {t : TypeId} {d : DataW H} (ht : ts[j]? = some t) (hd : ds[j]? = some d) : WtB P t d := fun n hn => by
  have h2 : decide (n ≤ reachBytes) = true := List.all_eq_true.1 h n (DataW.weights_mem_each ht hd n hn)
  exact of_decide_eq_true h2
end
section
variable {H : Type} {enc : TypeId × Value → H} {w : World} {base : Nat} {sp : Nat → Bool} {held : Bool}
theorem c3 : Tryz.prog.cellsOf 3 = 1 := by kernel_rfl
theorem c9 : Tryz.prog.cellsOf 9 = 1 := by kernel_rfl
def q117 (w : World) (y : Dsp) : Prop := okDsp w y ∧ SL y.p.t
theorem c38 : Tryz.prog.cellsOf 38 = 1 := by kernel_rfl
theorem c35 : Tryz.prog.cellsOf 35 = 3 := by kernel_rfl
set_option maxRecDepth 20000 in
theorem ty35z_of {n : Nat} {cs : List Value} {x : DataW H × List MemPlace} (h : DataW.trod enc Tryz.prog w base sp held n 35 cs = some x) (hz : WtB Tryz.prog 35 x.1) : ∃ (a0 : Int) (a1 : Int) (a2 : Str), cs = [.int .i64 a0, .int .i64 a1, .string (bts a2)] ∧ W64 a0 ∧ W64 a1 ∧ SZ a2 := by
  obtain ⟨hl, m, hf⟩ := field_z Tryz.underlying35 h hz
  rw [c35] at hl
  match cs, hl with
  | [v0, v1, v2], _ =>
    obtain ⟨_, h0, z0⟩ := hf 0 _ rfl 3 0 1 rfl rfl c3
    obtain ⟨_, h1, z1⟩ := hf 1 _ rfl 3 1 1 rfl rfl c3
    obtain ⟨_, h2, z2⟩ := hf 2 _ rfl 9 2 1 rfl rfl c9
    obtain ⟨a0, rfl, w0⟩ := intb_of Tryz.underlying3 (c := v0) h0
    obtain ⟨a1, rfl, w1⟩ := intb_of Tryz.underlying3 (c := v1) h1
    obtain ⟨a2, rfl, w2⟩ := str_z Tryz.underlying9 (c := v2) h2 z2
    exact ⟨a0, a1, a2, rfl, w0, w1, w2⟩
def q35z (y : Sp3) : Prop := W64 y.no ∧ W64 y.sz ∧ SZ y.t
theorem el35z_of {n : Nat} {cs : List Value} {x : DataW H × List MemPlace} (h : DataW.trod enc Tryz.prog w base sp held n 35 cs = some x) (hz : WtB Tryz.prog 35 x.1) : ∃ y : Sp3, cs = bb y ∧ q35z y := by
  obtain ⟨a0, a1, a2, e, w0, w1, w2⟩ := ty35z_of h hz
  exact ⟨⟨a0, a1, a2⟩, e, ⟨w0, w1, w2⟩⟩
theorem c60 : Tryz.prog.cellsOf 60 = 3 := by kernel_rfl
set_option maxRecDepth 20000 in
theorem ty60z_of {n : Nat} {cs : List Value} {x : DataW H × List MemPlace} (h : DataW.trod enc Tryz.prog w base sp held n 60 cs = some x) (hz : WtB Tryz.prog 60 x.1) : ∃ (A0 : Option Addr) (c0 : Nat) (l0 : List Sp3) (A1 : Option Addr) (c1 : Nat) (l1 : List Sp3) (A2 : Option Addr) (c2 : Nat) (l2 : List Sp3), cs = [.slice A0 l0.length c0, .slice A1 l1.length c1, .slice A2 l2.length c2] ∧ (bi w A0 (al bb l0) ∧ l0.length ≤ 9223372036854775807 ∧ l0.length ≤ c0 ∧ l0.length * 32 ≤ 140737488351232 ∧ ∀ x ∈ l0, q35z x) ∧ (bi w A1 (al bb l1) ∧ l1.length ≤ 9223372036854775807 ∧ l1.length ≤ c1 ∧ l1.length * 32 ≤ 140737488351232 ∧ ∀ x ∈ l1, q35z x) ∧ (bi w A2 (al bb l2) ∧ l2.length ≤ 9223372036854775807 ∧ l2.length ≤ c2 ∧ l2.length * 32 ≤ 140737488351232 ∧ ∀ x ∈ l2, q35z x) := by
  obtain ⟨hl, m, hf⟩ := elem_z Tryz.underlying60 c38 h hz
  rw [c60] at hl
  match cs, hl with
  | [v0, v1, v2], _ =>
    obtain ⟨_, h0, z0⟩ := hf 0 (by decide)
    obtain ⟨_, h1, z1⟩ := hf 1 (by decide)
    obtain ⟨_, h2, z2⟩ := hf 2 (by decide)
    obtain ⟨A0, c0, l0, rfl, w0⟩ := row_z (q := q35z) (f := bb) (by decide) bk Tryz.underlying38 c35 (by_ := 32) (by kernel_rfl) (fun h hz => el35z_of h hz) (c := v0) h0 z0
    obtain ⟨A1, c1, l1, rfl, w1⟩ := row_z (q := q35z) (f := bb) (by decide) bk Tryz.underlying38 c35 (by_ := 32) (by kernel_rfl) (fun h hz => el35z_of h hz) (c := v1) h1 z1
    obtain ⟨A2, c2, l2, rfl, w2⟩ := row_z (q := q35z) (f := bb) (by decide) bk Tryz.underlying38 c35 (by_ := 32) (by kernel_rfl) (fun h hz => el35z_of h hz) (c := v2) h2 z2
    exact ⟨A0, c0, l0, A1, c1, l1, A2, c2, l2, rfl, w0, w1, w2⟩
theorem c61 : Tryz.prog.cellsOf 61 = 3 := by kernel_rfl
set_option maxRecDepth 20000 in
theorem ty61z_of {n : Nat} {cs : List Value} {x : DataW H × List MemPlace} (h : DataW.trod enc Tryz.prog w base sp held n 61 cs = some x) (hz : WtB Tryz.prog 61 x.1) : ∃ (a0 : Int) (a1 : Int) (a2 : Int), cs = [.int .i64 a0, .int .i64 a1, .int .i64 a2] ∧ W64 a0 ∧ W64 a1 ∧ W64 a2 := by
  obtain ⟨hl, m, hf⟩ := elem_z Tryz.underlying61 c3 h hz
  rw [c61] at hl
  match cs, hl with
  | [v0, v1, v2], _ =>
    obtain ⟨_, h0, z0⟩ := hf 0 (by decide)
    obtain ⟨_, h1, z1⟩ := hf 1 (by decide)
    obtain ⟨_, h2, z2⟩ := hf 2 (by decide)
    obtain ⟨a0, rfl, w0⟩ := intb_of Tryz.underlying3 (c := v0) h0
    obtain ⟨a1, rfl, w1⟩ := intb_of Tryz.underlying3 (c := v1) h1
    obtain ⟨a2, rfl, w2⟩ := intb_of Tryz.underlying3 (c := v2) h2
    exact ⟨a0, a1, a2, rfl, w0, w1, w2⟩
theorem c63 : Tryz.prog.cellsOf 63 = 6 := by kernel_rfl
set_option maxRecDepth 20000 in
theorem ty63z_of {n : Nat} {cs : List Value} {x : DataW H × List MemPlace} (h : DataW.trod enc Tryz.prog w base sp held n 63 cs = some x) (hz : WtB Tryz.prog 63 x.1) : ∃ (A0 : Option Addr) (c0 : Nat) (l0 : List Sp3) (A1 : Option Addr) (c1 : Nat) (l1 : List Sp3) (A2 : Option Addr) (c2 : Nat) (l2 : List Sp3) (a3 : Int) (a4 : Int) (a5 : Int), cs = [.slice A0 l0.length c0, .slice A1 l1.length c1, .slice A2 l2.length c2, .int .i64 a3, .int .i64 a4, .int .i64 a5] ∧ (bi w A0 (al bb l0) ∧ l0.length ≤ 9223372036854775807 ∧ l0.length ≤ c0 ∧ l0.length * 32 ≤ 140737488351232 ∧ ∀ x ∈ l0, q35z x) ∧ (bi w A1 (al bb l1) ∧ l1.length ≤ 9223372036854775807 ∧ l1.length ≤ c1 ∧ l1.length * 32 ≤ 140737488351232 ∧ ∀ x ∈ l1, q35z x) ∧ (bi w A2 (al bb l2) ∧ l2.length ≤ 9223372036854775807 ∧ l2.length ≤ c2 ∧ l2.length * 32 ≤ 140737488351232 ∧ ∀ x ∈ l2, q35z x) ∧ W64 a3 ∧ W64 a4 ∧ W64 a5 := by
  obtain ⟨hl, m, hf⟩ := field_z Tryz.underlying63 h hz
  rw [c63] at hl
  match cs, hl with
  | [v0, v1, v2, v3, v4, v5], _ =>
    obtain ⟨_, h0, z0⟩ := hf 0 _ rfl 60 0 3 rfl rfl c60
    obtain ⟨_, h1, z1⟩ := hf 1 _ rfl 61 3 3 rfl rfl c61
    obtain ⟨A0, c0, l0, A1, c1, l1, A2, c2, l2, e0, w0, w1, w2⟩ := ty60z_of (cs := [v0, v1, v2]) h0 z0
    cases e0
    obtain ⟨a3, a4, a5, e1, w3, w4, w5⟩ := ty61z_of (cs := [v3, v4, v5]) h1 z1
    cases e1
    exact ⟨A0, c0, l0, A1, c1, l1, A2, c2, l2, a3, a4, a5, rfl, w0, w1, w2, w3, w4, w5⟩
theorem c45 : Tryz.prog.cellsOf 45 = 1 := by kernel_rfl
theorem c23 : Tryz.prog.cellsOf 23 = 2 := by kernel_rfl
set_option maxRecDepth 20000 in
theorem ty23z_of {n : Nat} {cs : List Value} {x : DataW H × List MemPlace} (h : DataW.trod enc Tryz.prog w base sp held n 23 cs = some x) (hz : WtB Tryz.prog 23 x.1) : ∃ (a0 : Int) (a1 : Int), cs = [.int .i64 a0, .int .i64 a1] ∧ W64 a0 ∧ W64 a1 := by
  obtain ⟨hl, m, hf⟩ := field_z Tryz.underlying23 h hz
  rw [c23] at hl
  match cs, hl with
  | [v0, v1], _ =>
    obtain ⟨_, h0, z0⟩ := hf 0 _ rfl 3 0 1 rfl rfl c3
    obtain ⟨_, h1, z1⟩ := hf 1 _ rfl 3 1 1 rfl rfl c3
    obtain ⟨a0, rfl, w0⟩ := intb_of Tryz.underlying3 (c := v0) h0
    obtain ⟨a1, rfl, w1⟩ := intb_of Tryz.underlying3 (c := v1) h1
    exact ⟨a0, a1, rfl, w0, w1⟩
theorem c25 : Tryz.prog.cellsOf 25 = 8 := by kernel_rfl
set_option maxRecDepth 20000 in
theorem ty25z_of {n : Nat} {cs : List Value} {x : DataW H × List MemPlace} (h : DataW.trod enc Tryz.prog w base sp held n 25 cs = some x) (hz : WtB Tryz.prog 25 x.1) : ∃ (a0 : Int) (a1 : Int) (a2 : Int) (a3 : Int) (a4 : Int) (a5 : Int) (a6 : Int) (a7 : Str), cs = [.int .i64 a0, .int .i64 a1, .int .i64 a2, .int .i64 a3, .int .i64 a4, .int .i64 a5, .int .i64 a6, .string (bts a7)] ∧ W64 a0 ∧ W64 a1 ∧ W64 a2 ∧ W64 a3 ∧ W64 a4 ∧ W64 a5 ∧ W64 a6 ∧ SZ a7 := by
  obtain ⟨hl, m, hf⟩ := field_z Tryz.underlying25 h hz
  rw [c25] at hl
  match cs, hl with
  | [v0, v1, v2, v3, v4, v5, v6, v7], _ =>
    obtain ⟨_, h0, z0⟩ := hf 0 _ rfl 23 0 2 rfl rfl c23
    obtain ⟨_, h1, z1⟩ := hf 1 _ rfl 3 2 1 rfl rfl c3
    obtain ⟨_, h2, z2⟩ := hf 2 _ rfl 3 3 1 rfl rfl c3
    obtain ⟨_, h3, z3⟩ := hf 3 _ rfl 3 4 1 rfl rfl c3
    obtain ⟨_, h4, z4⟩ := hf 4 _ rfl 23 5 2 rfl rfl c23
    obtain ⟨_, h5, z5⟩ := hf 5 _ rfl 9 7 1 rfl rfl c9
    obtain ⟨a0, a1, e0, w0, w1⟩ := ty23z_of (cs := [v0, v1]) h0 z0
    cases e0
    obtain ⟨a2, rfl, w2⟩ := intb_of Tryz.underlying3 (c := v2) h1
    obtain ⟨a3, rfl, w3⟩ := intb_of Tryz.underlying3 (c := v3) h2
    obtain ⟨a4, rfl, w4⟩ := intb_of Tryz.underlying3 (c := v4) h3
    obtain ⟨a5, a6, e4, w5, w6⟩ := ty23z_of (cs := [v5, v6]) h4 z4
    cases e4
    obtain ⟨a7, rfl, w7⟩ := str_z Tryz.underlying9 (c := v7) h5 z5
    exact ⟨a0, a1, a2, a3, a4, a5, a6, a7, rfl, w0, w1, w2, w3, w4, w5, w6, w7⟩
def q25z (y : Rc) : Prop := W64 y.p ∧ W64 y.n ∧ W64 y.k ∧ W64 y.d ∧ W64 y.kn ∧ W64 y.op ∧ W64 y.on ∧ SZ y.t
theorem el25z_of {n : Nat} {cs : List Value} {x : DataW H × List MemPlace} (h : DataW.trod enc Tryz.prog w base sp held n 25 cs = some x) (hz : WtB Tryz.prog 25 x.1) : ∃ y : Rc, cs = eRc y ∧ q25z y := by
  obtain ⟨a0, a1, a2, a3, a4, a5, a6, a7, e, w0, w1, w2, w3, w4, w5, w6, w7⟩ := ty25z_of h hz
  exact ⟨⟨a0, a1, a2, a3, a4, a5, a6, a7⟩, e, ⟨w0, w1, w2, w3, w4, w5, w6, w7⟩⟩
theorem c49 : Tryz.prog.cellsOf 49 = 9 := by kernel_rfl
set_option maxRecDepth 20000 in
theorem ty49z_of {n : Nat} {cs : List Value} {x : DataW H × List MemPlace} (h : DataW.trod enc Tryz.prog w base sp held n 49 cs = some x) (hz : WtB Tryz.prog 49 x.1) : ∃ (A0 : Option Addr) (c0 : Nat) (l0 : List Rc) (a1 : Int) (a2 : Int) (a3 : Int) (a4 : Int) (a5 : Int) (a6 : Int) (a7 : Int) (a8 : Str), cs = [.slice A0 l0.length c0, .int .i64 a1, .int .i64 a2, .int .i64 a3, .int .i64 a4, .int .i64 a5, .int .i64 a6, .int .i64 a7, .string (bts a8)] ∧ (bi w A0 (al eRc l0) ∧ l0.length ≤ 9223372036854775807 ∧ l0.length ≤ c0 ∧ l0.length * 72 ≤ 140737488351232 ∧ ∀ x ∈ l0, q25z x) ∧ W64 a1 ∧ W64 a2 ∧ W64 a3 ∧ W64 a4 ∧ W64 a5 ∧ W64 a6 ∧ W64 a7 ∧ SZ a8 := by
  obtain ⟨hl, m, hf⟩ := field_z Tryz.underlying49 h hz
  rw [c49] at hl
  match cs, hl with
  | [v0, v1, v2, v3, v4, v5, v6, v7, v8], _ =>
    obtain ⟨_, h0, z0⟩ := hf 0 _ rfl 45 0 1 rfl rfl c45
    obtain ⟨_, h1, z1⟩ := hf 1 _ rfl 25 1 8 rfl rfl c25
    obtain ⟨A0, c0, l0, rfl, w0⟩ := row_z (q := q25z) (f := eRc) (by decide) bx Tryz.underlying45 c25 (by_ := 72) (by kernel_rfl) (fun h hz => el25z_of h hz) (c := v0) h0 z0
    obtain ⟨a1, a2, a3, a4, a5, a6, a7, a8, e1, w1, w2, w3, w4, w5, w6, w7, w8⟩ := ty25z_of (cs := [v1, v2, v3, v4, v5, v6, v7, v8]) h1 z1
    cases e1
    exact ⟨A0, c0, l0, a1, a2, a3, a4, a5, a6, a7, a8, rfl, w0, w1, w2, w3, w4, w5, w6, w7, w8⟩
def q25 (y : Rc) : Prop := W64 y.p ∧ W64 y.n ∧ W64 y.k ∧ W64 y.d ∧ W64 y.kn ∧ W64 y.op ∧ W64 y.on ∧ SL y.t
theorem c37 : Tryz.prog.cellsOf 37 = 8 := by kernel_rfl
end
end Go.K
