/- Contracts of the laws' own comparisons. -/
import Derived.Test.YtinkdlmimiefaaaGreatProg
import Derived.Test.YtinkdlmimiefaaaGreatM6
import Derived.Laws.StructEq
import Derived.Tactics2
namespace Go.K
open Go.Proofs Go.RowKit
set_option linter.unusedVariables false
set_option linter.unusedSimpArgs false
set_option maxRecDepth 100000
attribute [local irreducible] Seq Step CallV AnyE opX

theorem same_step {a b : List Int} {k : Nat} {x y : Int} (h : a.take k = b.take k) (hx : a[k]? = some x) (hy : b[k]? = some y) : decide (x = y) = decide (a.take (k + 1) = b.take (k + 1)) := by
  rw [take_get hx, take_get hy, h]; simp
theorem same_no {a b : List Int} {k : Nat} (h : decide (a.take k = b.take k) = false) : decide (a = b) = false := by
  rw [decide_eq_false_iff_not] at h ⊢
  rintro rfl; exact h rfl
theorem same_len {a b : List Int} (h : ¬ a.length = b.length) : decide (a = b) = false := by
  rw [decide_eq_false_iff_not]; rintro rfl; exact h rfl
theorem same_yes {a b : List Int} {k : Nat} (h : a.take k = b.take k) (ha : a.length ≤ k) (hb : b.length ≤ k) : decide (a = b) = true := by
  rw [List.take_of_length_le ha, List.take_of_length_le hb] at h; simp [h]


theorem Same_c (w0 : World) (a b : List Int) (A : Option Addr) (n c : Nat) (A2 : Option Addr) (n2 c2 : Nat) (hn : n = a.length) (hn2 : n2 = b.length) (hmax : n ≤ 9223372036854775807) (hmax2 : n2 ≤ 9223372036854775807) (hC : Cells w0 A (flat eInt a)) (hC2 : Cells w0 A2 (flat eInt b)) : Does Tryz.prog 21 [.slice A n c, .slice A2 n2 c2] w0 fun v w => v = .bool (decide (a = b)) ∧ Below w0.heap.size w0 w := by
 refine calls_of (n := 31) Tryz.func21 rfl Tryz.ntmps21 rfl ?_
 have hI := Inv.start w0
 refine wp_seq (rgn (by kernel_rfl) (pu (.bool false) (by kernel_rfl) (seq_nil (wp_seq (rgn (by kernel_rfl) (pu (.slice A n c) (by kernel_rfl) (pu (iv ((n : Nat) : Int)) (by kernel_rfl) (pu (.slice A2 n2 c2) (by kernel_rfl) (pu (iv ((n2 : Nat) : Int)) (by kernel_rfl) ?_)))))))))
 refine seq_c (s_eql rfl rfl ?_ ?_)
 ·intro h1
  refine pu (.bool true) (by kernel_rfl) (seq_nil (wp_seq (wp_seq (rgn (by kernel_rfl) (pu (iv 0) (by kernel_rfl) (seq_nil (wp_block ?_)))))))
  refine wp_loop (fun m ρ w => ∃ (k : Nat) (s : Bool), Agree ρ [(0, .slice A n c), (1, .slice A2 n2 c2), (5, .bool s), (6, iv (k : Int))] ∧ Inv none w0 w [] ∧ (k ≤ n) ∧ (s = decide (a.take k = b.take k)) ∧ m = n - k) (m := n - 0) ⟨0, true, ⟨rfl, rfl, rfl, rfl, trivial⟩, hI.pickL [] (by decide) rfl, (by omega), rfl, rfl⟩ ?_
  rintro m ρ w ⟨k, s, hag, hI, hk, hsm, hm⟩
  obtain ⟨ρ, rfl⟩ := hag.form; clear hag
  refine wp_seq (wp_seq (rgn (by kernel_rfl) (pu (iv (k : Int)) (by kernel_rfl) (pu (.slice A n c) (by kernel_rfl) (pu (iv ((n : Nat) : Int)) (by kernel_rfl) (seq_c (s_lss rfl rfl ?_ ?_)))))))
  ·intro h2
   refine pu (.bool true) (by kernel_rfl) (puo (.bool s) ⟨(by kernel_rfl), (by kernel_rfl)⟩ (pu (.bool s) (by kernel_rfl) (seq_nil (wp_cond (t := s) rfl ?_ ?_))))
   ·intro h3
    refine wp_skip (wp_seq (wp_block ?_))
    refine wp_drawn2 hI [] (by decide) rfl (by kernel_rfl) (by kernel_rfl) ?_
    intro hsub
    refine alp 0 (.slice A n c) hsub rfl (by kernel_rfl) (fun _ => (by kernel_rfl)) ?_
    refine alp 1 (iv (k : Int)) hsub rfl (by kernel_rfl) (fun _ => (by kernel_rfl)) ?_
    obtain ⟨x1, hx2⟩ := get_lt (l := a) (i := k) (by omega)
    obtain ⟨b3, o4, hA5, hb6, he7⟩ := hC.at_ eInt_len (by decide) hx2
    refine al_light 2 (.pointer (some ⟨b3, o4 + k * 1, none⟩)) hsub rfl (by kernel_rfl) (fun w hI => s_indexA k Tryz.underlying41 Tryz.sizeOf3 rfl hA5 rfl rfl (by omega) ⟨rfl, Below.refl _ _⟩) ?_
    refine al_light 3 (iv x1) hsub rfl (by kernel_rfl) (fun w hI => s_loadB1 hI (iv x1) Tryz.isAgg3 rfl hb6 (by simp) (he7 0 _ rfl) ⟨rfl, Below.refl _ _⟩) ?_
    refine alp 4 (.slice A2 n2 c2) hsub rfl (by kernel_rfl) (fun _ => (by kernel_rfl)) ?_
    refine alp 5 (iv (k : Int)) hsub rfl (by kernel_rfl) (fun _ => (by kernel_rfl)) ?_
    obtain ⟨x8, hx9⟩ := get_lt (l := b) (i := k) (by omega)
    obtain ⟨b10, o11, hA12, hb13, he14⟩ := hC2.at_ eInt_len (by decide) hx9
    refine al_light 6 (.pointer (some ⟨b10, o11 + k * 1, none⟩)) hsub rfl (by kernel_rfl) (fun w hI => s_indexA k Tryz.underlying41 Tryz.sizeOf3 rfl hA12 rfl rfl (by omega) ⟨rfl, Below.refl _ _⟩) ?_
    refine al_light 7 (iv x8) hsub rfl (by kernel_rfl) (fun w hI => s_loadB1 hI (iv x8) Tryz.isAgg3 rfl hb13 (by simp) (he14 0 _ rfl) ⟨rfl, Below.refl _ _⟩) ?_
    by_cases h4 : x1 = x8
    ·refine al_light 8 (.bool true) hsub rfl (by kernel_rfl) (fun w hI => s_eql rfl rfl (fun _ => ⟨rfl, Below.refl _ _⟩) (fun h => absurd h4 h)) ?_
     refine alp 9 (.bool true) hsub rfl (by kernel_rfl) (fun _ => (by kernel_rfl)) ?_
     refine any_end (by kernel_rfl) (fun w hI => ?_)
     refine rgn (by kernel_rfl) (pu (iv (k : Int)) (by kernel_rfl) (seq_c (s_add rfl rfl (by omega) ?_)))
     refine pu (iv ((k : Int) + 1)) (by kernel_rfl) (seq_nil ?_)
     exact ⟨rfl, _, (by omega), ⟨k + 1, true, ⟨rfl, rfl, rfl, rfl, trivial⟩, hI.pickL [] (by decide) rfl, (by omega), (by rw [← same_step (of_decide_eq_true (hsm.symm.trans (by assumption))) hx2 hx9]; simp [*]), rfl⟩⟩
    ·refine al_light 8 (.bool false) hsub rfl (by kernel_rfl) (fun w hI => s_eql rfl rfl (fun h => absurd h h4) (fun _ => ⟨rfl, Below.refl _ _⟩)) ?_
     refine alp 9 (.bool false) hsub rfl (by kernel_rfl) (fun _ => (by kernel_rfl)) ?_
     refine any_end (by kernel_rfl) (fun w hI => ?_)
     refine rgn (by kernel_rfl) (pu (iv (k : Int)) (by kernel_rfl) (seq_c (s_add rfl rfl (by omega) ?_)))
     refine pu (iv ((k : Int) + 1)) (by kernel_rfl) (seq_nil ?_)
     exact ⟨rfl, _, (by omega), ⟨k + 1, false, ⟨rfl, rfl, rfl, rfl, trivial⟩, hI.pickL [] (by decide) rfl, (by omega), (by rw [← same_step (of_decide_eq_true (hsm.symm.trans (by assumption))) hx2 hx9]; simp [*]), rfl⟩⟩
   ·intro h5
    refine wp_exit ?_
    refine wp_seq (rgn (by kernel_rfl) (pu (.bool s) (by kernel_rfl) (pu (.bool s) (by kernel_rfl) (seq_nil (wp_ret ?_)))))
    exact ⟨.bool s, Ret.r1 rfl rfl, ⟨by first | (have hk9 : a.length ≤ k := (by omega); rw [hsm, List.take_of_length_le hk9, List.take_of_length_le (by omega)]; done) | (rw [same_no (hsm.symm.trans (by assumption))]; simp_all; done), hI.below⟩⟩
  ·intro h6
   refine pu (.bool false) (by kernel_rfl) (of_ (by kernel_rfl) (pu (.bool false) (by kernel_rfl) (seq_nil (wp_condF rfl (wp_exit ?_)))))
   refine wp_seq (rgn (by kernel_rfl) (pu (.bool s) (by kernel_rfl) (pu (.bool s) (by kernel_rfl) (seq_nil (wp_ret ?_)))))
   exact ⟨.bool s, Ret.r1 rfl rfl, ⟨by first | (have hk9 : a.length ≤ k := (by omega); rw [hsm, List.take_of_length_le hk9, List.take_of_length_le (by omega)]; done) | (rw [same_no (hsm.symm.trans (by assumption))]; simp_all; done), hI.below⟩⟩
 ·intro h7
  refine pu (.bool false) (by kernel_rfl) (seq_nil (wp_seq (wp_seq (rgn (by kernel_rfl) (pu (iv 0) (by kernel_rfl) (seq_nil (wp_block ?_)))))))
  refine wp_loop (fun m ρ w => Agree ρ [(0, .slice A n c), (1, .slice A2 n2 c2), (5, .bool false), (6, iv 0)] ∧ Inv none w0 w [] ∧ m = 0) (m := 0) ⟨⟨rfl, rfl, rfl, rfl, trivial⟩, hI.pickL [] (by decide) rfl, rfl⟩ ?_
  rintro m ρ w ⟨hag, hI, hm⟩
  obtain ⟨ρ, rfl⟩ := hag.form; clear hag
  refine wp_seq (wp_seq (rgn (by kernel_rfl) (pu (iv 0) (by kernel_rfl) (pu (.slice A n c) (by kernel_rfl) (pu (iv ((n : Nat) : Int)) (by kernel_rfl) (seq_c (s_lss rfl rfl ?_ ?_)))))))
  ·intro h8
   refine pu (.bool true) (by kernel_rfl) (puo (.bool false) ⟨(by kernel_rfl), (by kernel_rfl)⟩ (pu (.bool false) (by kernel_rfl) (seq_nil (wp_condF rfl (wp_exit ?_)))))
   refine wp_seq (rgn (by kernel_rfl) (pu (.bool false) (by kernel_rfl) (pu (.bool false) (by kernel_rfl) (seq_nil (wp_ret ?_)))))
   exact ⟨.bool false, Ret.r1 rfl rfl, ⟨by rw [same_len (by omega)], hI.below⟩⟩
  ·intro h9
   refine pu (.bool false) (by kernel_rfl) (of_ (by kernel_rfl) (pu (.bool false) (by kernel_rfl) (seq_nil (wp_condF rfl (wp_exit ?_)))))
   refine wp_seq (rgn (by kernel_rfl) (pu (.bool false) (by kernel_rfl) (pu (.bool false) (by kernel_rfl) (seq_nil (wp_ret ?_)))))
   exact ⟨.bool false, Ret.r1 rfl rfl, ⟨by rw [same_len (by omega)], hI.below⟩⟩

theorem eq23 (n : Nat) (a b c d : Int) (w : World) : (Op.equalIn (n + 2) 23 (.agg #[.int .i64 a, .int .i64 b]) (.agg #[.int .i64 c, .int .i64 d])).run Tryz.prog w = .ok (decide (a = c) && decide (b = d)) w := by
  have u3 := Tryz.underlying3
  have a3 := Tryz.isAgg3
  have z3 := Tryz.sizeOf3
  have hS : Tryz.prog.underlying 23 = some (.struct (Tryz.prog.fieldsOf 23)) := by kernel_rfl
  rw [show n + 2 = (n + 1) + 1 from rfl, run_equalIn_agg w (n + 1) 23 _ _ hS (by kernel_rfl)]
  simp only [Program.fieldsOf, Tryz.underlying23]
  go_simp
  by_cases h1 : a = c <;> by_cases h2 : b = d <;> simp [h1, h2]
theorem eq30 (n : Nat) (a b c d e f a' b' c' d' e' f' : Int) (w : World) : (Op.equalIn (n + 3) 30 (.agg #[.int .i64 a, .int .i64 b, .int .i64 c, .int .i64 d, .int .i64 e, .int .i64 f]) (.agg #[.int .i64 a', .int .i64 b', .int .i64 c', .int .i64 d', .int .i64 e', .int .i64 f'])).run Tryz.prog w = .ok (decide (a = a') && decide (b = b') && decide (c = c') && decide (d = d') && decide (e = e') && decide (f = f')) w := by
  have u3 := Tryz.underlying3
  have a3 := Tryz.isAgg3
  have z3 := Tryz.sizeOf3
  have a23 := Tryz.isAgg23
  have z23 := Tryz.sizeOf23
  have q23 := fun a b c d w => eq23 n a b c d w
  have hS : Tryz.prog.underlying 30 = some (.struct (Tryz.prog.fieldsOf 30)) := by kernel_rfl
  rw [show n + 3 = (n + 2) + 1 from rfl, run_equalIn_agg w (n + 2) 30 _ _ hS (by kernel_rfl)]
  simp only [Program.fieldsOf, Tryz.underlying30]
  go_simp
  by_cases h1 : a = a' <;> by_cases h2 : b = b' <;> by_cases h3 : c = c' <;> by_cases h4 : d = d' <;> by_cases h5 : e = e' <;> by_cases h6 : f = f' <;> simp [h1, h2, h3, h4, h5, h6, q23]
theorem eq31 (n : Nat) (a b c d e f a' b' c' d' e' f' : Int) (w : World) : (Op.equalIn (n + 3) 31 (.agg #[.int .i64 a, .int .i64 b, .int .i64 c, .int .i64 d, .int .i64 e, .int .i64 f]) (.agg #[.int .i64 a', .int .i64 b', .int .i64 c', .int .i64 d', .int .i64 e', .int .i64 f'])).run Tryz.prog w = .ok (decide (a = a') && decide (b = b') && decide (c = c') && decide (d = d') && decide (e = e') && decide (f = f')) w := by
  have u3 := Tryz.underlying3
  have a3 := Tryz.isAgg3
  have z3 := Tryz.sizeOf3
  have a23 := Tryz.isAgg23
  have z23 := Tryz.sizeOf23
  have q23 := fun a b c d w => eq23 n a b c d w
  have hS : Tryz.prog.underlying 31 = some (.struct (Tryz.prog.fieldsOf 31)) := by kernel_rfl
  rw [show n + 3 = (n + 2) + 1 from rfl, run_equalIn_agg w (n + 2) 31 _ _ hS (by kernel_rfl)]
  simp only [Program.fieldsOf, Tryz.underlying31]
  go_simp
  by_cases h1 : a = a' <;> by_cases h2 : b = b' <;> by_cases h3 : c = c' <;> by_cases h4 : d = d' <;> by_cases h5 : e = e' <;> by_cases h6 : f = f' <;> simp [h1, h2, h3, h4, h5, h6, q23]
theorem eq33 (n : Nat) (a b c d e f a' b' c' d' e' f' : Int) (w : World) : (Op.equalIn (n + 3) 33 (.agg #[.int .i64 a, .int .i64 b, .int .i64 c, .int .i64 d, .int .i64 e, .int .i64 f]) (.agg #[.int .i64 a', .int .i64 b', .int .i64 c', .int .i64 d', .int .i64 e', .int .i64 f'])).run Tryz.prog w = .ok (decide (a = a') && decide (b = b') && decide (c = c') && decide (d = d') && decide (e = e') && decide (f = f')) w := by
  have u3 := Tryz.underlying3
  have a3 := Tryz.isAgg3
  have z3 := Tryz.sizeOf3
  have a23 := Tryz.isAgg23
  have z23 := Tryz.sizeOf23
  have q23 := fun a b c d w => eq23 n a b c d w
  have hS : Tryz.prog.underlying 33 = some (.struct (Tryz.prog.fieldsOf 33)) := by kernel_rfl
  rw [show n + 3 = (n + 2) + 1 from rfl, run_equalIn_agg w (n + 2) 33 _ _ hS (by kernel_rfl)]
  simp only [Program.fieldsOf, Tryz.underlying33]
  go_simp
  by_cases h1 : a = a' <;> by_cases h2 : b = b' <;> by_cases h3 : c = c' <;> by_cases h4 : d = d' <;> by_cases h5 : e = e' <;> by_cases h6 : f = f' <;> simp [h1, h2, h3, h4, h5, h6, q23]
theorem s_eqlA {P : Program} {ρ : Env} {w : World} {R : Value → World → Prop} {d : Option Nat} {ty : TypeId} {pos : String} {af : Array Edge} {gd : Option (Nat × Bool)} {T Ty : TypeId} {x y : Operand} {xs ys : Array Value} {b : Bool} (ha : ev ρ x = .agg xs) (hb : ev ρ y = .agg ys)
    (hm : P.eqGuardType P.depth T = false) (he : ∀ w, (Op.equalIn 10000 T (.agg xs) (.agg ys)).run P w = .ok b w) (k1 : b = true → R (.bool true) w) (k2 : ¬ b = true → R (.bool false) w) : Step P ⟨d, .binOp .eql T x y Ty, ty, pos, af, gd⟩ ρ w R := by
  refine s_pure (.bool b) ?_ ?_
  · have : execOp (ev ρ) ⟨d, .binOp .eql T x y Ty, ty, pos, af, gd⟩ = (do pure (.value (← (do eqGuard .eql T x y (ev ρ x) (ev ρ y); binOp .eql T (ev ρ x) (ev ρ y))))) := rfl
    rw [this, ha, hb]
    simp only [Sem.run_bind, run_eqGuard_agg _ _ _ _ _ _ _ hm, run_eql_struct, he, Result.andThen_ok, Sem.run_pure]
  · cases b with
    | true => exact k1 rfl
    | false => exact k2 (by simp)
deriving instance DecidableEq for Ld
deriving instance DecidableEq for Sp
deriving instance DecidableEq for Pl
theorem eqLd (x y : Ld) : decide (x = y) = (decide (x.src = y.src) && decide (x.hr = y.hr) && decide (x.lo = y.lo) && decide (x.hi = y.hi) && decide (x.kn = y.kn) && decide (x.un = y.un)) := by
  cases x; cases y; rw [Bool.eq_iff_iff]; simp [and_assoc]
theorem eqSp (x y : Sp) : decide (x = y) = (decide (x.src = y.src) && decide (x.kd = y.kd) && decide (x.fr = y.fr) && decide (x.to = y.to) && decide (x.kn = y.kn) && decide (x.un = y.un)) := by
  cases x; cases y; rw [Bool.eq_iff_iff]; simp [and_assoc]
theorem plot_eq {p q : Pl} (h1 : (decide (p.lo = q.lo) && decide (p.hi = q.hi)) = true) (h2 : p.geese = q.geese) : (((true && decide (p.loads = q.loads)) && decide (p.stands = q.stands)) && decide (p.spells = q.spells)) = decide (p = q) := by
  obtain ⟨a1, a2, a3, a4, a5, a6⟩ := p
  obtain ⟨b1, b2, b3, b4, b5, b6⟩ := q
  rw [Bool.and_eq_true, decide_eq_true_eq, decide_eq_true_eq] at h1
  obtain ⟨e1, e2⟩ := h1
  simp only at e1 e2 h2
  subst e1; subst e2; subst h2
  rw [Bool.eq_iff_iff]
  simp [and_assoc]
section lists
variable {α : Type} [DecidableEq α] {a b : List α} {k : Nat} {s S : Bool}
theorem exitA (h : s = (S && decide (a.take k = b.take k))) (ha : a.length ≤ k) (hb : b.length ≤ k) : s = (S && decide (a = b)) := by
  rw [List.take_of_length_le ha, List.take_of_length_le hb] at h; exact h
theorem exitB (h : s = (S && decide (a.take k = b.take k))) (hs : s = false) : s = (S && decide (a = b)) := by
  subst hs
  cases S with
  | false => rfl
  | true =>
    have h1 : decide (a.take k = b.take k) = false := by simpa using h.symm
    rw [decide_eq_false_iff_not] at h1
    have : decide (a = b) = false := by rw [decide_eq_false_iff_not]; rintro rfl; exact h1 rfl
    rw [this]; rfl
theorem stepT (h : s = (S && decide (a.take k = b.take k))) (hs : s = true) {x y : α} (hx : a[k]? = some x) (hy : b[k]? = some y) {t : Bool} (ht : t = decide (x = y)) : t = (S && decide (a.take (k + 1) = b.take (k + 1))) := by
  rw [hs] at h
  have h2 := h.symm
  rw [Bool.and_eq_true, decide_eq_true_eq] at h2
  rw [ht, h2.1, take_get hx, take_get hy, h2.2]; simp
end lists

set_option maxHeartbeats 1600000 in
theorem SamePlot_c (w0 : World) (pl : Pl) (pA1 : Option Addr) (pn1 pc1 : Nat) (pA2 : Option Addr) (pn2 pc2 : Nat) (pA3 : Option Addr) (pn3 pc3 : Nat) (hP : PlotIn w0 pl pA1 pn1 pA2 pn2 pA3 pn3) (ql : Pl) (qA1 : Option Addr) (qn1 qc1 : Nat) (qA2 : Option Addr) (qn2 qc2 : Nat) (qA3 : Option Addr) (qn3 qc3 : Nat) (hQ : PlotIn w0 ql qA1 qn1 qA2 qn2 qA3 qn3) : Does Tryz.prog 20 [.agg #[.int .i64 pl.lo, .int .i64 pl.hi, .slice pA1 pn1 pc1, .slice pA2 pn2 pc2, .slice pA3 pn3 pc3, .int .i64 pl.geese], .agg #[.int .i64 ql.lo, .int .i64 ql.hi, .slice qA1 qn1 qc1, .slice qA2 qn2 qc2, .slice qA3 qn3 qc3, .int .i64 ql.geese]] w0 fun v w => v = .bool (decide (pl = ql)) ∧ Below w0.heap.size w0 w := by
 have hm1 := hP.m1; have hm2 := hP.m2; have hm3 := hP.m3; have hq1 := hQ.m1; have hq2 := hQ.m2; have hq3 := hQ.m3; have ho1 := hP.b1; have ho2 := hP.b2; have ho3 := hP.b3; have hr1 := hQ.b1; have hr2 := hQ.b2; have hr3 := hQ.b3
 refine calls_of (n := 112) Tryz.func20 rfl Tryz.ntmps20 rfl ?_
 have hI := Inv.start w0
 refine wp_seq (rgn (by kernel_rfl) (seq_c (s_boxI hI [iv pl.lo, iv pl.hi, .slice pA1 pn1 pc1, .slice pA2 pn2 pc2, .slice pA3 pn3 pc3, iv pl.geese] rfl ?_)))
 intro b1 w hI
 refine seq_c (s_boxI hI [iv ql.lo, iv ql.hi, .slice qA1 qn1 qc1, .slice qA2 qn2 qc2, .slice qA3 qn3 qc3, iv ql.geese] rfl ?_)
 intro b2 w hI
 refine pu (.bool false) (by kernel_rfl) (seq_nil (wp_seq (rgn (by kernel_rfl) (pu (.pointer (some ⟨b1, 0, none⟩)) (by kernel_rfl) (seq_c (s_loadK hI 1 2 [iv pl.lo, iv pl.hi] Tryz.isAgg23 Tryz.sizeOf23 rfl rfl rfl rfl ?_))))))
 refine pu (.pointer (some ⟨b2, 0, none⟩)) (by kernel_rfl) (seq_c (s_loadK hI 0 2 [iv ql.lo, iv ql.hi] Tryz.isAgg23 Tryz.sizeOf23 rfl rfl rfl rfl ?_))
 refine seq_c (s_eqlA (b := decide (pl.lo = ql.lo) && decide (pl.hi = ql.hi)) rfl rfl (by kernel_rfl) (fun w => eq23 _ pl.lo pl.hi ql.lo ql.hi w) ?_ ?_)
 ·intro h1
  refine pu (.bool true) (by kernel_rfl) (puo (.pointer (some ⟨b1, 5, none⟩)) ⟨(by kernel_rfl), (by kernel_rfl)⟩ (seq_on (by kernel_rfl) (s_load1 hI 1 (iv pl.geese) Tryz.isAgg3 rfl rfl rfl ?_)))
  refine puo (.pointer (some ⟨b2, 5, none⟩)) ⟨(by kernel_rfl), (by kernel_rfl)⟩ (seq_on (by kernel_rfl) (s_load1 hI 0 (iv ql.geese) Tryz.isAgg3 rfl rfl rfl ?_))
  refine seq_on (by kernel_rfl) (s_eql rfl rfl ?_ ?_)
  ·intro h2
   refine pu (.bool true) (by kernel_rfl) (pu (.bool true) (by kernel_rfl) (puo (.pointer (some ⟨b1, 2, none⟩)) ⟨(by kernel_rfl), (by kernel_rfl)⟩ (seq_on (by kernel_rfl) (s_load1 hI 1 (.slice pA1 pn1 pc1) Tryz.isAgg24 rfl rfl rfl ?_))))
   refine puo (iv ((pn1 : Nat) : Int)) ⟨(by kernel_rfl), (by kernel_rfl)⟩ (puo (.pointer (some ⟨b2, 2, none⟩)) ⟨(by kernel_rfl), (by kernel_rfl)⟩ (seq_on (by kernel_rfl) (s_load1 hI 0 (.slice qA1 qn1 qc1) Tryz.isAgg24 rfl rfl rfl ?_)))
   refine puo (iv ((qn1 : Nat) : Int)) ⟨(by kernel_rfl), (by kernel_rfl)⟩ (seq_on (by kernel_rfl) (s_eql rfl rfl ?_ ?_))
   ·intro h3
    refine pu (.bool true) (by kernel_rfl) (pu (.bool true) (by kernel_rfl) (puo (.pointer (some ⟨b1, 3, none⟩)) ⟨(by kernel_rfl), (by kernel_rfl)⟩ (seq_on (by kernel_rfl) (s_load1 hI 1 (.slice pA2 pn2 pc2) Tryz.isAgg25 rfl rfl rfl ?_))))
    refine puo (iv ((pn2 : Nat) : Int)) ⟨(by kernel_rfl), (by kernel_rfl)⟩ (puo (.pointer (some ⟨b2, 3, none⟩)) ⟨(by kernel_rfl), (by kernel_rfl)⟩ (seq_on (by kernel_rfl) (s_load1 hI 0 (.slice qA2 qn2 qc2) Tryz.isAgg25 rfl rfl rfl ?_)))
    refine puo (iv ((qn2 : Nat) : Int)) ⟨(by kernel_rfl), (by kernel_rfl)⟩ (seq_on (by kernel_rfl) (s_eql rfl rfl ?_ ?_))
    ·intro h4
     refine pu (.bool true) (by kernel_rfl) (pu (.bool true) (by kernel_rfl) (puo (.pointer (some ⟨b1, 4, none⟩)) ⟨(by kernel_rfl), (by kernel_rfl)⟩ (seq_on (by kernel_rfl) (s_load1 hI 1 (.slice pA3 pn3 pc3) Tryz.isAgg26 rfl rfl rfl ?_))))
     refine puo (iv ((pn3 : Nat) : Int)) ⟨(by kernel_rfl), (by kernel_rfl)⟩ (puo (.pointer (some ⟨b2, 4, none⟩)) ⟨(by kernel_rfl), (by kernel_rfl)⟩ (seq_on (by kernel_rfl) (s_load1 hI 0 (.slice qA3 qn3 qc3) Tryz.isAgg26 rfl rfl rfl ?_)))
     refine puo (iv ((qn3 : Nat) : Int)) ⟨(by kernel_rfl), (by kernel_rfl)⟩ (seq_on (by kernel_rfl) (s_eql rfl rfl ?_ ?_))
     ·intro h5
      refine pu (.bool true) (by kernel_rfl) (pu (.bool true) (by kernel_rfl) (seq_nil (wp_seq (wp_seq (rgn (by kernel_rfl) (pu (iv 0) (by kernel_rfl) (seq_nil (wp_block ?_))))))))
      refine wp_loop (fun m ρ w => ∃ (k0 : Nat) (s0 : Bool), Agree ρ [(2, .pointer (some ⟨b1, 0, none⟩)), (3, .pointer (some ⟨b2, 0, none⟩)), (5, .bool s0), (6, iv (k0 : Int))] ∧ Inv none w0 w [(some b2, blk [iv ql.lo, iv ql.hi, .slice qA1 qn1 qc1, .slice qA2 qn2 qc2, .slice qA3 qn3 qc3, iv ql.geese] 28), (some b1, blk [iv pl.lo, iv pl.hi, .slice pA1 pn1 pc1, .slice pA2 pn2 pc2, .slice pA3 pn3 pc3, iv pl.geese] 28)] ∧ (k0 ≤ pn1) ∧ (s0 = (true && decide (pl.loads.take k0 = ql.loads.take k0))) ∧ m = pn1 - k0) (m := pn1 - 0) ⟨0, true, ⟨rfl, rfl, rfl, rfl, trivial⟩, hI.pickL [0, 1] (by decide) rfl, (by omega), (by simp), rfl⟩ ?_
      rintro m ρ w ⟨k0, s0, hag, hI, hk0, hsm0, hm⟩
      obtain ⟨ρ, rfl⟩ := hag.form; clear hag
      refine wp_seq (wp_seq (rgn (by kernel_rfl) (pu (iv (k0 : Int)) (by kernel_rfl) (pu (.pointer (some ⟨b1, 2, none⟩)) (by kernel_rfl) (seq_c (s_load1 hI 1 (.slice pA1 pn1 pc1) Tryz.isAgg24 rfl rfl rfl ?_))))))
      refine pu (iv ((pn1 : Nat) : Int)) (by kernel_rfl) (seq_c (s_lss rfl rfl ?_ ?_))
      ·intro h6
       refine pu (.bool true) (by kernel_rfl) (puo (.bool s0) ⟨(by kernel_rfl), (by kernel_rfl)⟩ (pu (.bool s0) (by kernel_rfl) (seq_nil (wp_cond (t := s0) rfl ?_ ?_))))
       ·intro h7
        refine wp_skip (wp_seq (wp_block ?_))
        refine wp_drawn2 hI [0, 1] (by decide) rfl (by kernel_rfl) (by kernel_rfl) ?_
        intro hsub
        refine alp 0 (.pointer (some ⟨b1, 2, none⟩)) hsub rfl (by kernel_rfl) (fun _ => (by kernel_rfl)) ?_
        refine al_light 1 (.slice pA1 pn1 pc1) hsub rfl (by kernel_rfl) (fun w hI => s_load1 hI 1 (.slice pA1 pn1 pc1) Tryz.isAgg24 rfl rfl rfl ⟨rfl, Below.refl _ _⟩) ?_
        refine alp 2 (iv (k0 : Int)) hsub rfl (by kernel_rfl) (fun _ => (by kernel_rfl)) ?_
        obtain ⟨x3, hx4⟩ := get_lt (l := pl.loads) (i := k0) (by omega)
        obtain ⟨b5, o6, hA7, hb8, he9⟩ := hP.c1.at_ eLd_len (by decide) hx4
        refine al_light 3 (.pointer (some ⟨b5, o6 + k0 * 6, none⟩)) hsub rfl (by kernel_rfl) (fun w hI => s_indexA k0 Tryz.underlying24 Tryz.sizeOf30 rfl hA7 rfl rfl (by omega) ⟨rfl, Below.refl _ _⟩) ?_
        refine al_light 4 (.agg #[iv x3.src, iv x3.hr, iv x3.lo, iv x3.hi, iv x3.kn, iv x3.un]) hsub rfl (by kernel_rfl) (fun w hI => s_loadBK hI [iv x3.src, iv x3.hr, iv x3.lo, iv x3.hi, iv x3.kn, iv x3.un] Tryz.isAgg30 Tryz.sizeOf30 rfl rfl hb8 (by simp) he9 ⟨rfl, Below.refl _ _⟩) ?_
        refine alp 5 (.pointer (some ⟨b2, 2, none⟩)) hsub rfl (by kernel_rfl) (fun _ => (by kernel_rfl)) ?_
        refine al_light 6 (.slice qA1 qn1 qc1) hsub rfl (by kernel_rfl) (fun w hI => s_load1 hI 0 (.slice qA1 qn1 qc1) Tryz.isAgg24 rfl rfl rfl ⟨rfl, Below.refl _ _⟩) ?_
        refine alp 7 (iv (k0 : Int)) hsub rfl (by kernel_rfl) (fun _ => (by kernel_rfl)) ?_
        obtain ⟨x10, hx11⟩ := get_lt (l := ql.loads) (i := k0) (by omega)
        obtain ⟨b12, o13, hA14, hb15, he16⟩ := hQ.c1.at_ eLd_len (by decide) hx11
        refine al_light 8 (.pointer (some ⟨b12, o13 + k0 * 6, none⟩)) hsub rfl (by kernel_rfl) (fun w hI => s_indexA k0 Tryz.underlying24 Tryz.sizeOf30 rfl hA14 rfl rfl (by omega) ⟨rfl, Below.refl _ _⟩) ?_
        refine al_light 9 (.agg #[iv x10.src, iv x10.hr, iv x10.lo, iv x10.hi, iv x10.kn, iv x10.un]) hsub rfl (by kernel_rfl) (fun w hI => s_loadBK hI [iv x10.src, iv x10.hr, iv x10.lo, iv x10.hi, iv x10.kn, iv x10.un] Tryz.isAgg30 Tryz.sizeOf30 rfl rfl hb15 (by simp) he16 ⟨rfl, Below.refl _ _⟩) ?_
        by_cases h8 : (decide (x3.src = x10.src) && decide (x3.hr = x10.hr) && decide (x3.lo = x10.lo) && decide (x3.hi = x10.hi) && decide (x3.kn = x10.kn) && decide (x3.un = x10.un)) = true
        ·refine al_light 10 (.bool true) hsub rfl (by kernel_rfl) (fun w hI => s_eqlA (b := decide (x3.src = x10.src) && decide (x3.hr = x10.hr) && decide (x3.lo = x10.lo) && decide (x3.hi = x10.hi) && decide (x3.kn = x10.kn) && decide (x3.un = x10.un)) rfl rfl (by kernel_rfl) (fun w => eq30 _ x3.src x3.hr x3.lo x3.hi x3.kn x3.un x10.src x10.hr x10.lo x10.hi x10.kn x10.un w) (fun _ => ⟨rfl, Below.refl _ _⟩) (fun h => absurd h8 h)) ?_
         refine alp 11 (.bool true) hsub rfl (by kernel_rfl) (fun _ => (by kernel_rfl)) ?_
         refine any_end (by kernel_rfl) (fun w hI => ?_)
         refine rgn (by kernel_rfl) (pu (iv (k0 : Int)) (by kernel_rfl) (seq_c (s_add rfl rfl (by omega) ?_)))
         refine pu (iv ((k0 : Int) + 1)) (by kernel_rfl) (seq_nil ?_)
         exact ⟨rfl, _, (by omega), ⟨k0 + 1, true, ⟨rfl, rfl, rfl, rfl, trivial⟩, hI.pickL [0, 1] (by decide) rfl, (by omega), (stepT hsm0 (by assumption) hx4 hx11 (by first | exact Eq.symm ((eqLd x3 x10).trans (by assumption)) | exact Eq.symm ((eqLd x3 x10).trans (Bool.eq_false_iff.2 (by assumption))))), rfl⟩⟩
        ·refine al_light 10 (.bool false) hsub rfl (by kernel_rfl) (fun w hI => s_eqlA (b := decide (x3.src = x10.src) && decide (x3.hr = x10.hr) && decide (x3.lo = x10.lo) && decide (x3.hi = x10.hi) && decide (x3.kn = x10.kn) && decide (x3.un = x10.un)) rfl rfl (by kernel_rfl) (fun w => eq30 _ x3.src x3.hr x3.lo x3.hi x3.kn x3.un x10.src x10.hr x10.lo x10.hi x10.kn x10.un w) (fun h => absurd h h8) (fun _ => ⟨rfl, Below.refl _ _⟩)) ?_
         refine alp 11 (.bool false) hsub rfl (by kernel_rfl) (fun _ => (by kernel_rfl)) ?_
         refine any_end (by kernel_rfl) (fun w hI => ?_)
         refine rgn (by kernel_rfl) (pu (iv (k0 : Int)) (by kernel_rfl) (seq_c (s_add rfl rfl (by omega) ?_)))
         refine pu (iv ((k0 : Int) + 1)) (by kernel_rfl) (seq_nil ?_)
         exact ⟨rfl, _, (by omega), ⟨k0 + 1, false, ⟨rfl, rfl, rfl, rfl, trivial⟩, hI.pickL [0, 1] (by decide) rfl, (by omega), (stepT hsm0 (by assumption) hx4 hx11 (by first | exact Eq.symm ((eqLd x3 x10).trans (by assumption)) | exact Eq.symm ((eqLd x3 x10).trans (Bool.eq_false_iff.2 (by assumption))))), rfl⟩⟩
       ·intro h9
        refine wp_exit ?_
        refine wp_seq (wp_seq (rgn (by kernel_rfl) (pu (iv 0) (by kernel_rfl) (seq_nil (wp_block ?_)))))
        have e0 : s0 = (true && decide (pl.loads = ql.loads)) := by first | exact exitA hsm0 (by omega) (by omega) | exact exitB hsm0 (by assumption)
        refine wp_loop (fun m ρ w => ∃ (k1 : Nat) (s1 : Bool), Agree ρ [(2, .pointer (some ⟨b1, 0, none⟩)), (3, .pointer (some ⟨b2, 0, none⟩)), (5, .bool s1), (7, iv (k1 : Int))] ∧ Inv none w0 w [(some b2, blk [iv ql.lo, iv ql.hi, .slice qA1 qn1 qc1, .slice qA2 qn2 qc2, .slice qA3 qn3 qc3, iv ql.geese] 28), (some b1, blk [iv pl.lo, iv pl.hi, .slice pA1 pn1 pc1, .slice pA2 pn2 pc2, .slice pA3 pn3 pc3, iv pl.geese] 28)] ∧ (k1 ≤ pn2) ∧ (s1 = (s0 && decide (pl.stands.take k1 = ql.stands.take k1))) ∧ m = pn2 - k1) (m := pn2 - 0) ⟨0, s0, ⟨rfl, rfl, rfl, rfl, trivial⟩, hI.pickL [0, 1] (by decide) rfl, (by omega), (by simp), rfl⟩ ?_
        rintro m ρ w ⟨k1, s1, hag, hI, hk1, hsm1, hm⟩
        obtain ⟨ρ, rfl⟩ := hag.form; clear hag
        refine wp_seq (wp_seq (rgn (by kernel_rfl) (pu (iv (k1 : Int)) (by kernel_rfl) (pu (.pointer (some ⟨b1, 3, none⟩)) (by kernel_rfl) (seq_c (s_load1 hI 1 (.slice pA2 pn2 pc2) Tryz.isAgg25 rfl rfl rfl ?_))))))
        refine pu (iv ((pn2 : Nat) : Int)) (by kernel_rfl) (seq_c (s_lss rfl rfl ?_ ?_))
        ·intro h10
         refine pu (.bool true) (by kernel_rfl) (puo (.bool s1) ⟨(by kernel_rfl), (by kernel_rfl)⟩ (pu (.bool s1) (by kernel_rfl) (seq_nil (wp_cond (t := s1) rfl ?_ ?_))))
         ·intro h11
          refine wp_skip (wp_seq (wp_block ?_))
          refine wp_drawn2 hI [0, 1] (by decide) rfl (by kernel_rfl) (by kernel_rfl) ?_
          intro hsub
          refine alp 0 (.pointer (some ⟨b1, 3, none⟩)) hsub rfl (by kernel_rfl) (fun _ => (by kernel_rfl)) ?_
          refine al_light 1 (.slice pA2 pn2 pc2) hsub rfl (by kernel_rfl) (fun w hI => s_load1 hI 1 (.slice pA2 pn2 pc2) Tryz.isAgg25 rfl rfl rfl ⟨rfl, Below.refl _ _⟩) ?_
          refine alp 2 (iv (k1 : Int)) hsub rfl (by kernel_rfl) (fun _ => (by kernel_rfl)) ?_
          obtain ⟨x17, hx18⟩ := get_lt (l := pl.stands) (i := k1) (by omega)
          obtain ⟨b19, o20, hA21, hb22, he23⟩ := hP.c2.at_ eLd_len (by decide) hx18
          refine al_light 3 (.pointer (some ⟨b19, o20 + k1 * 6, none⟩)) hsub rfl (by kernel_rfl) (fun w hI => s_indexA k1 Tryz.underlying25 Tryz.sizeOf31 rfl hA21 rfl rfl (by omega) ⟨rfl, Below.refl _ _⟩) ?_
          refine al_light 4 (.agg #[iv x17.src, iv x17.hr, iv x17.lo, iv x17.hi, iv x17.kn, iv x17.un]) hsub rfl (by kernel_rfl) (fun w hI => s_loadBK hI [iv x17.src, iv x17.hr, iv x17.lo, iv x17.hi, iv x17.kn, iv x17.un] Tryz.isAgg31 Tryz.sizeOf31 rfl rfl hb22 (by simp) he23 ⟨rfl, Below.refl _ _⟩) ?_
          refine alp 5 (.pointer (some ⟨b2, 3, none⟩)) hsub rfl (by kernel_rfl) (fun _ => (by kernel_rfl)) ?_
          refine al_light 6 (.slice qA2 qn2 qc2) hsub rfl (by kernel_rfl) (fun w hI => s_load1 hI 0 (.slice qA2 qn2 qc2) Tryz.isAgg25 rfl rfl rfl ⟨rfl, Below.refl _ _⟩) ?_
          refine alp 7 (iv (k1 : Int)) hsub rfl (by kernel_rfl) (fun _ => (by kernel_rfl)) ?_
          obtain ⟨x24, hx25⟩ := get_lt (l := ql.stands) (i := k1) (by omega)
          obtain ⟨b26, o27, hA28, hb29, he30⟩ := hQ.c2.at_ eLd_len (by decide) hx25
          refine al_light 8 (.pointer (some ⟨b26, o27 + k1 * 6, none⟩)) hsub rfl (by kernel_rfl) (fun w hI => s_indexA k1 Tryz.underlying25 Tryz.sizeOf31 rfl hA28 rfl rfl (by omega) ⟨rfl, Below.refl _ _⟩) ?_
          refine al_light 9 (.agg #[iv x24.src, iv x24.hr, iv x24.lo, iv x24.hi, iv x24.kn, iv x24.un]) hsub rfl (by kernel_rfl) (fun w hI => s_loadBK hI [iv x24.src, iv x24.hr, iv x24.lo, iv x24.hi, iv x24.kn, iv x24.un] Tryz.isAgg31 Tryz.sizeOf31 rfl rfl hb29 (by simp) he30 ⟨rfl, Below.refl _ _⟩) ?_
          by_cases h12 : (decide (x17.src = x24.src) && decide (x17.hr = x24.hr) && decide (x17.lo = x24.lo) && decide (x17.hi = x24.hi) && decide (x17.kn = x24.kn) && decide (x17.un = x24.un)) = true
          ·refine al_light 10 (.bool true) hsub rfl (by kernel_rfl) (fun w hI => s_eqlA (b := decide (x17.src = x24.src) && decide (x17.hr = x24.hr) && decide (x17.lo = x24.lo) && decide (x17.hi = x24.hi) && decide (x17.kn = x24.kn) && decide (x17.un = x24.un)) rfl rfl (by kernel_rfl) (fun w => eq31 _ x17.src x17.hr x17.lo x17.hi x17.kn x17.un x24.src x24.hr x24.lo x24.hi x24.kn x24.un w) (fun _ => ⟨rfl, Below.refl _ _⟩) (fun h => absurd h12 h)) ?_
           refine alp 11 (.bool true) hsub rfl (by kernel_rfl) (fun _ => (by kernel_rfl)) ?_
           refine any_end (by kernel_rfl) (fun w hI => ?_)
           refine rgn (by kernel_rfl) (pu (iv (k1 : Int)) (by kernel_rfl) (seq_c (s_add rfl rfl (by omega) ?_)))
           refine pu (iv ((k1 : Int) + 1)) (by kernel_rfl) (seq_nil ?_)
           exact ⟨rfl, _, (by omega), ⟨k1 + 1, true, ⟨rfl, rfl, rfl, rfl, trivial⟩, hI.pickL [0, 1] (by decide) rfl, (by omega), (stepT hsm1 (by assumption) hx18 hx25 (by first | exact Eq.symm ((eqLd x17 x24).trans (by assumption)) | exact Eq.symm ((eqLd x17 x24).trans (Bool.eq_false_iff.2 (by assumption))))), rfl⟩⟩
          ·refine al_light 10 (.bool false) hsub rfl (by kernel_rfl) (fun w hI => s_eqlA (b := decide (x17.src = x24.src) && decide (x17.hr = x24.hr) && decide (x17.lo = x24.lo) && decide (x17.hi = x24.hi) && decide (x17.kn = x24.kn) && decide (x17.un = x24.un)) rfl rfl (by kernel_rfl) (fun w => eq31 _ x17.src x17.hr x17.lo x17.hi x17.kn x17.un x24.src x24.hr x24.lo x24.hi x24.kn x24.un w) (fun h => absurd h h12) (fun _ => ⟨rfl, Below.refl _ _⟩)) ?_
           refine alp 11 (.bool false) hsub rfl (by kernel_rfl) (fun _ => (by kernel_rfl)) ?_
           refine any_end (by kernel_rfl) (fun w hI => ?_)
           refine rgn (by kernel_rfl) (pu (iv (k1 : Int)) (by kernel_rfl) (seq_c (s_add rfl rfl (by omega) ?_)))
           refine pu (iv ((k1 : Int) + 1)) (by kernel_rfl) (seq_nil ?_)
           exact ⟨rfl, _, (by omega), ⟨k1 + 1, false, ⟨rfl, rfl, rfl, rfl, trivial⟩, hI.pickL [0, 1] (by decide) rfl, (by omega), (stepT hsm1 (by assumption) hx18 hx25 (by first | exact Eq.symm ((eqLd x17 x24).trans (by assumption)) | exact Eq.symm ((eqLd x17 x24).trans (Bool.eq_false_iff.2 (by assumption))))), rfl⟩⟩
         ·intro h13
          refine wp_exit ?_
          refine wp_seq (wp_seq (rgn (by kernel_rfl) (pu (iv 0) (by kernel_rfl) (seq_nil (wp_block ?_)))))
          have e1 : s1 = (s0 && decide (pl.stands = ql.stands)) := by first | exact exitA hsm1 (by omega) (by omega) | exact exitB hsm1 (by assumption)
          refine wp_loop (fun m ρ w => ∃ (k2 : Nat) (s2 : Bool), Agree ρ [(2, .pointer (some ⟨b1, 0, none⟩)), (3, .pointer (some ⟨b2, 0, none⟩)), (5, .bool s2), (8, iv (k2 : Int))] ∧ Inv none w0 w [(some b2, blk [iv ql.lo, iv ql.hi, .slice qA1 qn1 qc1, .slice qA2 qn2 qc2, .slice qA3 qn3 qc3, iv ql.geese] 28), (some b1, blk [iv pl.lo, iv pl.hi, .slice pA1 pn1 pc1, .slice pA2 pn2 pc2, .slice pA3 pn3 pc3, iv pl.geese] 28)] ∧ (k2 ≤ pn3) ∧ (s2 = (s1 && decide (pl.spells.take k2 = ql.spells.take k2))) ∧ m = pn3 - k2) (m := pn3 - 0) ⟨0, s1, ⟨rfl, rfl, rfl, rfl, trivial⟩, hI.pickL [0, 1] (by decide) rfl, (by omega), (by simp), rfl⟩ ?_
          rintro m ρ w ⟨k2, s2, hag, hI, hk2, hsm2, hm⟩
          obtain ⟨ρ, rfl⟩ := hag.form; clear hag
          refine wp_seq (wp_seq (rgn (by kernel_rfl) (pu (iv (k2 : Int)) (by kernel_rfl) (pu (.pointer (some ⟨b1, 4, none⟩)) (by kernel_rfl) (seq_c (s_load1 hI 1 (.slice pA3 pn3 pc3) Tryz.isAgg26 rfl rfl rfl ?_))))))
          refine pu (iv ((pn3 : Nat) : Int)) (by kernel_rfl) (seq_c (s_lss rfl rfl ?_ ?_))
          ·intro h14
           refine pu (.bool true) (by kernel_rfl) (puo (.bool s2) ⟨(by kernel_rfl), (by kernel_rfl)⟩ (pu (.bool s2) (by kernel_rfl) (seq_nil (wp_cond (t := s2) rfl ?_ ?_))))
           ·intro h15
            refine wp_skip (wp_seq (wp_block ?_))
            refine wp_drawn2 hI [0, 1] (by decide) rfl (by kernel_rfl) (by kernel_rfl) ?_
            intro hsub
            refine alp 0 (.pointer (some ⟨b1, 4, none⟩)) hsub rfl (by kernel_rfl) (fun _ => (by kernel_rfl)) ?_
            refine al_light 1 (.slice pA3 pn3 pc3) hsub rfl (by kernel_rfl) (fun w hI => s_load1 hI 1 (.slice pA3 pn3 pc3) Tryz.isAgg26 rfl rfl rfl ⟨rfl, Below.refl _ _⟩) ?_
            refine alp 2 (iv (k2 : Int)) hsub rfl (by kernel_rfl) (fun _ => (by kernel_rfl)) ?_
            obtain ⟨x31, hx32⟩ := get_lt (l := pl.spells) (i := k2) (by omega)
            obtain ⟨b33, o34, hA35, hb36, he37⟩ := hP.c3.at_ eSp_len (by decide) hx32
            refine al_light 3 (.pointer (some ⟨b33, o34 + k2 * 6, none⟩)) hsub rfl (by kernel_rfl) (fun w hI => s_indexA k2 Tryz.underlying26 Tryz.sizeOf33 rfl hA35 rfl rfl (by omega) ⟨rfl, Below.refl _ _⟩) ?_
            refine al_light 4 (.agg #[iv x31.src, iv x31.kd, iv x31.fr, iv x31.to, iv x31.kn, iv x31.un]) hsub rfl (by kernel_rfl) (fun w hI => s_loadBK hI [iv x31.src, iv x31.kd, iv x31.fr, iv x31.to, iv x31.kn, iv x31.un] Tryz.isAgg33 Tryz.sizeOf33 rfl rfl hb36 (by simp) he37 ⟨rfl, Below.refl _ _⟩) ?_
            refine alp 5 (.pointer (some ⟨b2, 4, none⟩)) hsub rfl (by kernel_rfl) (fun _ => (by kernel_rfl)) ?_
            refine al_light 6 (.slice qA3 qn3 qc3) hsub rfl (by kernel_rfl) (fun w hI => s_load1 hI 0 (.slice qA3 qn3 qc3) Tryz.isAgg26 rfl rfl rfl ⟨rfl, Below.refl _ _⟩) ?_
            refine alp 7 (iv (k2 : Int)) hsub rfl (by kernel_rfl) (fun _ => (by kernel_rfl)) ?_
            obtain ⟨x38, hx39⟩ := get_lt (l := ql.spells) (i := k2) (by omega)
            obtain ⟨b40, o41, hA42, hb43, he44⟩ := hQ.c3.at_ eSp_len (by decide) hx39
            refine al_light 8 (.pointer (some ⟨b40, o41 + k2 * 6, none⟩)) hsub rfl (by kernel_rfl) (fun w hI => s_indexA k2 Tryz.underlying26 Tryz.sizeOf33 rfl hA42 rfl rfl (by omega) ⟨rfl, Below.refl _ _⟩) ?_
            refine al_light 9 (.agg #[iv x38.src, iv x38.kd, iv x38.fr, iv x38.to, iv x38.kn, iv x38.un]) hsub rfl (by kernel_rfl) (fun w hI => s_loadBK hI [iv x38.src, iv x38.kd, iv x38.fr, iv x38.to, iv x38.kn, iv x38.un] Tryz.isAgg33 Tryz.sizeOf33 rfl rfl hb43 (by simp) he44 ⟨rfl, Below.refl _ _⟩) ?_
            by_cases h16 : (decide (x31.src = x38.src) && decide (x31.kd = x38.kd) && decide (x31.fr = x38.fr) && decide (x31.to = x38.to) && decide (x31.kn = x38.kn) && decide (x31.un = x38.un)) = true
            ·refine al_light 10 (.bool true) hsub rfl (by kernel_rfl) (fun w hI => s_eqlA (b := decide (x31.src = x38.src) && decide (x31.kd = x38.kd) && decide (x31.fr = x38.fr) && decide (x31.to = x38.to) && decide (x31.kn = x38.kn) && decide (x31.un = x38.un)) rfl rfl (by kernel_rfl) (fun w => eq33 _ x31.src x31.kd x31.fr x31.to x31.kn x31.un x38.src x38.kd x38.fr x38.to x38.kn x38.un w) (fun _ => ⟨rfl, Below.refl _ _⟩) (fun h => absurd h16 h)) ?_
             refine alp 11 (.bool true) hsub rfl (by kernel_rfl) (fun _ => (by kernel_rfl)) ?_
             refine any_end (by kernel_rfl) (fun w hI => ?_)
             refine rgn (by kernel_rfl) (pu (iv (k2 : Int)) (by kernel_rfl) (seq_c (s_add rfl rfl (by omega) ?_)))
             refine pu (iv ((k2 : Int) + 1)) (by kernel_rfl) (seq_nil ?_)
             exact ⟨rfl, _, (by omega), ⟨k2 + 1, true, ⟨rfl, rfl, rfl, rfl, trivial⟩, hI.pickL [0, 1] (by decide) rfl, (by omega), (stepT hsm2 (by assumption) hx32 hx39 (by first | exact Eq.symm ((eqSp x31 x38).trans (by assumption)) | exact Eq.symm ((eqSp x31 x38).trans (Bool.eq_false_iff.2 (by assumption))))), rfl⟩⟩
            ·refine al_light 10 (.bool false) hsub rfl (by kernel_rfl) (fun w hI => s_eqlA (b := decide (x31.src = x38.src) && decide (x31.kd = x38.kd) && decide (x31.fr = x38.fr) && decide (x31.to = x38.to) && decide (x31.kn = x38.kn) && decide (x31.un = x38.un)) rfl rfl (by kernel_rfl) (fun w => eq33 _ x31.src x31.kd x31.fr x31.to x31.kn x31.un x38.src x38.kd x38.fr x38.to x38.kn x38.un w) (fun h => absurd h h16) (fun _ => ⟨rfl, Below.refl _ _⟩)) ?_
             refine alp 11 (.bool false) hsub rfl (by kernel_rfl) (fun _ => (by kernel_rfl)) ?_
             refine any_end (by kernel_rfl) (fun w hI => ?_)
             refine rgn (by kernel_rfl) (pu (iv (k2 : Int)) (by kernel_rfl) (seq_c (s_add rfl rfl (by omega) ?_)))
             refine pu (iv ((k2 : Int) + 1)) (by kernel_rfl) (seq_nil ?_)
             exact ⟨rfl, _, (by omega), ⟨k2 + 1, false, ⟨rfl, rfl, rfl, rfl, trivial⟩, hI.pickL [0, 1] (by decide) rfl, (by omega), (stepT hsm2 (by assumption) hx32 hx39 (by first | exact Eq.symm ((eqSp x31 x38).trans (by assumption)) | exact Eq.symm ((eqSp x31 x38).trans (Bool.eq_false_iff.2 (by assumption))))), rfl⟩⟩
           ·intro h17
            refine wp_exit ?_
            refine wp_seq (rgn (by kernel_rfl) (pu (.bool s2) (by kernel_rfl) (pu (.bool s2) (by kernel_rfl) (seq_nil (wp_ret ?_)))))
            have e2 : s2 = (s1 && decide (pl.spells = ql.spells)) := by first | exact exitA hsm2 (by omega) (by omega) | exact exitB hsm2 (by assumption)
            have hf : s2 = decide (pl = ql) := by rw [e2, e1, e0]; exact plot_eq (by assumption) (by assumption)
            exact ⟨.bool s2, Ret.r1 rfl rfl, ⟨by rw [← hf], hI.below⟩⟩
          ·intro h18
           refine pu (.bool false) (by kernel_rfl) (of_ (by kernel_rfl) (pu (.bool false) (by kernel_rfl) (seq_nil (wp_condF rfl (wp_exit ?_)))))
           refine wp_seq (rgn (by kernel_rfl) (pu (.bool s2) (by kernel_rfl) (pu (.bool s2) (by kernel_rfl) (seq_nil (wp_ret ?_)))))
           have e2 : s2 = (s1 && decide (pl.spells = ql.spells)) := by first | exact exitA hsm2 (by omega) (by omega) | exact exitB hsm2 (by assumption)
           have hf : s2 = decide (pl = ql) := by rw [e2, e1, e0]; exact plot_eq (by assumption) (by assumption)
           exact ⟨.bool s2, Ret.r1 rfl rfl, ⟨by rw [← hf], hI.below⟩⟩
        ·intro h19
         refine pu (.bool false) (by kernel_rfl) (of_ (by kernel_rfl) (pu (.bool false) (by kernel_rfl) (seq_nil (wp_condF rfl (wp_exit ?_)))))
         refine wp_seq (wp_seq (rgn (by kernel_rfl) (pu (iv 0) (by kernel_rfl) (seq_nil (wp_block ?_)))))
         have e1 : s1 = (s0 && decide (pl.stands = ql.stands)) := by first | exact exitA hsm1 (by omega) (by omega) | exact exitB hsm1 (by assumption)
         refine wp_loop (fun m ρ w => ∃ (k2 : Nat) (s2 : Bool), Agree ρ [(2, .pointer (some ⟨b1, 0, none⟩)), (3, .pointer (some ⟨b2, 0, none⟩)), (5, .bool s2), (8, iv (k2 : Int))] ∧ Inv none w0 w [(some b2, blk [iv ql.lo, iv ql.hi, .slice qA1 qn1 qc1, .slice qA2 qn2 qc2, .slice qA3 qn3 qc3, iv ql.geese] 28), (some b1, blk [iv pl.lo, iv pl.hi, .slice pA1 pn1 pc1, .slice pA2 pn2 pc2, .slice pA3 pn3 pc3, iv pl.geese] 28)] ∧ (k2 ≤ pn3) ∧ (s2 = (s1 && decide (pl.spells.take k2 = ql.spells.take k2))) ∧ m = pn3 - k2) (m := pn3 - 0) ⟨0, s1, ⟨rfl, rfl, rfl, rfl, trivial⟩, hI.pickL [0, 1] (by decide) rfl, (by omega), (by simp), rfl⟩ ?_
         rintro m ρ w ⟨k2, s2, hag, hI, hk2, hsm2, hm⟩
         obtain ⟨ρ, rfl⟩ := hag.form; clear hag
         refine wp_seq (wp_seq (rgn (by kernel_rfl) (pu (iv (k2 : Int)) (by kernel_rfl) (pu (.pointer (some ⟨b1, 4, none⟩)) (by kernel_rfl) (seq_c (s_load1 hI 1 (.slice pA3 pn3 pc3) Tryz.isAgg26 rfl rfl rfl ?_))))))
         refine pu (iv ((pn3 : Nat) : Int)) (by kernel_rfl) (seq_c (s_lss rfl rfl ?_ ?_))
         ·intro h20
          refine pu (.bool true) (by kernel_rfl) (puo (.bool s2) ⟨(by kernel_rfl), (by kernel_rfl)⟩ (pu (.bool s2) (by kernel_rfl) (seq_nil (wp_cond (t := s2) rfl ?_ ?_))))
          ·intro h21
           refine wp_skip (wp_seq (wp_block ?_))
           refine wp_drawn2 hI [0, 1] (by decide) rfl (by kernel_rfl) (by kernel_rfl) ?_
           intro hsub
           refine alp 0 (.pointer (some ⟨b1, 4, none⟩)) hsub rfl (by kernel_rfl) (fun _ => (by kernel_rfl)) ?_
           refine al_light 1 (.slice pA3 pn3 pc3) hsub rfl (by kernel_rfl) (fun w hI => s_load1 hI 1 (.slice pA3 pn3 pc3) Tryz.isAgg26 rfl rfl rfl ⟨rfl, Below.refl _ _⟩) ?_
           refine alp 2 (iv (k2 : Int)) hsub rfl (by kernel_rfl) (fun _ => (by kernel_rfl)) ?_
           obtain ⟨x45, hx46⟩ := get_lt (l := pl.spells) (i := k2) (by omega)
           obtain ⟨b47, o48, hA49, hb50, he51⟩ := hP.c3.at_ eSp_len (by decide) hx46
           refine al_light 3 (.pointer (some ⟨b47, o48 + k2 * 6, none⟩)) hsub rfl (by kernel_rfl) (fun w hI => s_indexA k2 Tryz.underlying26 Tryz.sizeOf33 rfl hA49 rfl rfl (by omega) ⟨rfl, Below.refl _ _⟩) ?_
           refine al_light 4 (.agg #[iv x45.src, iv x45.kd, iv x45.fr, iv x45.to, iv x45.kn, iv x45.un]) hsub rfl (by kernel_rfl) (fun w hI => s_loadBK hI [iv x45.src, iv x45.kd, iv x45.fr, iv x45.to, iv x45.kn, iv x45.un] Tryz.isAgg33 Tryz.sizeOf33 rfl rfl hb50 (by simp) he51 ⟨rfl, Below.refl _ _⟩) ?_
           refine alp 5 (.pointer (some ⟨b2, 4, none⟩)) hsub rfl (by kernel_rfl) (fun _ => (by kernel_rfl)) ?_
           refine al_light 6 (.slice qA3 qn3 qc3) hsub rfl (by kernel_rfl) (fun w hI => s_load1 hI 0 (.slice qA3 qn3 qc3) Tryz.isAgg26 rfl rfl rfl ⟨rfl, Below.refl _ _⟩) ?_
           refine alp 7 (iv (k2 : Int)) hsub rfl (by kernel_rfl) (fun _ => (by kernel_rfl)) ?_
           obtain ⟨x52, hx53⟩ := get_lt (l := ql.spells) (i := k2) (by omega)
           obtain ⟨b54, o55, hA56, hb57, he58⟩ := hQ.c3.at_ eSp_len (by decide) hx53
           refine al_light 8 (.pointer (some ⟨b54, o55 + k2 * 6, none⟩)) hsub rfl (by kernel_rfl) (fun w hI => s_indexA k2 Tryz.underlying26 Tryz.sizeOf33 rfl hA56 rfl rfl (by omega) ⟨rfl, Below.refl _ _⟩) ?_
           refine al_light 9 (.agg #[iv x52.src, iv x52.kd, iv x52.fr, iv x52.to, iv x52.kn, iv x52.un]) hsub rfl (by kernel_rfl) (fun w hI => s_loadBK hI [iv x52.src, iv x52.kd, iv x52.fr, iv x52.to, iv x52.kn, iv x52.un] Tryz.isAgg33 Tryz.sizeOf33 rfl rfl hb57 (by simp) he58 ⟨rfl, Below.refl _ _⟩) ?_
           by_cases h22 : (decide (x45.src = x52.src) && decide (x45.kd = x52.kd) && decide (x45.fr = x52.fr) && decide (x45.to = x52.to) && decide (x45.kn = x52.kn) && decide (x45.un = x52.un)) = true
           ·refine al_light 10 (.bool true) hsub rfl (by kernel_rfl) (fun w hI => s_eqlA (b := decide (x45.src = x52.src) && decide (x45.kd = x52.kd) && decide (x45.fr = x52.fr) && decide (x45.to = x52.to) && decide (x45.kn = x52.kn) && decide (x45.un = x52.un)) rfl rfl (by kernel_rfl) (fun w => eq33 _ x45.src x45.kd x45.fr x45.to x45.kn x45.un x52.src x52.kd x52.fr x52.to x52.kn x52.un w) (fun _ => ⟨rfl, Below.refl _ _⟩) (fun h => absurd h22 h)) ?_
            refine alp 11 (.bool true) hsub rfl (by kernel_rfl) (fun _ => (by kernel_rfl)) ?_
            refine any_end (by kernel_rfl) (fun w hI => ?_)
            refine rgn (by kernel_rfl) (pu (iv (k2 : Int)) (by kernel_rfl) (seq_c (s_add rfl rfl (by omega) ?_)))
            refine pu (iv ((k2 : Int) + 1)) (by kernel_rfl) (seq_nil ?_)
            exact ⟨rfl, _, (by omega), ⟨k2 + 1, true, ⟨rfl, rfl, rfl, rfl, trivial⟩, hI.pickL [0, 1] (by decide) rfl, (by omega), (stepT hsm2 (by assumption) hx46 hx53 (by first | exact Eq.symm ((eqSp x45 x52).trans (by assumption)) | exact Eq.symm ((eqSp x45 x52).trans (Bool.eq_false_iff.2 (by assumption))))), rfl⟩⟩
           ·refine al_light 10 (.bool false) hsub rfl (by kernel_rfl) (fun w hI => s_eqlA (b := decide (x45.src = x52.src) && decide (x45.kd = x52.kd) && decide (x45.fr = x52.fr) && decide (x45.to = x52.to) && decide (x45.kn = x52.kn) && decide (x45.un = x52.un)) rfl rfl (by kernel_rfl) (fun w => eq33 _ x45.src x45.kd x45.fr x45.to x45.kn x45.un x52.src x52.kd x52.fr x52.to x52.kn x52.un w) (fun h => absurd h h22) (fun _ => ⟨rfl, Below.refl _ _⟩)) ?_
            refine alp 11 (.bool false) hsub rfl (by kernel_rfl) (fun _ => (by kernel_rfl)) ?_
            refine any_end (by kernel_rfl) (fun w hI => ?_)
            refine rgn (by kernel_rfl) (pu (iv (k2 : Int)) (by kernel_rfl) (seq_c (s_add rfl rfl (by omega) ?_)))
            refine pu (iv ((k2 : Int) + 1)) (by kernel_rfl) (seq_nil ?_)
            exact ⟨rfl, _, (by omega), ⟨k2 + 1, false, ⟨rfl, rfl, rfl, rfl, trivial⟩, hI.pickL [0, 1] (by decide) rfl, (by omega), (stepT hsm2 (by assumption) hx46 hx53 (by first | exact Eq.symm ((eqSp x45 x52).trans (by assumption)) | exact Eq.symm ((eqSp x45 x52).trans (Bool.eq_false_iff.2 (by assumption))))), rfl⟩⟩
          ·intro h23
           refine wp_exit ?_
           refine wp_seq (rgn (by kernel_rfl) (pu (.bool s2) (by kernel_rfl) (pu (.bool s2) (by kernel_rfl) (seq_nil (wp_ret ?_)))))
           have e2 : s2 = (s1 && decide (pl.spells = ql.spells)) := by first | exact exitA hsm2 (by omega) (by omega) | exact exitB hsm2 (by assumption)
           have hf : s2 = decide (pl = ql) := by rw [e2, e1, e0]; exact plot_eq (by assumption) (by assumption)
           exact ⟨.bool s2, Ret.r1 rfl rfl, ⟨by rw [← hf], hI.below⟩⟩
         ·intro h24
          refine pu (.bool false) (by kernel_rfl) (of_ (by kernel_rfl) (pu (.bool false) (by kernel_rfl) (seq_nil (wp_condF rfl (wp_exit ?_)))))
          refine wp_seq (rgn (by kernel_rfl) (pu (.bool s2) (by kernel_rfl) (pu (.bool s2) (by kernel_rfl) (seq_nil (wp_ret ?_)))))
          have e2 : s2 = (s1 && decide (pl.spells = ql.spells)) := by first | exact exitA hsm2 (by omega) (by omega) | exact exitB hsm2 (by assumption)
          have hf : s2 = decide (pl = ql) := by rw [e2, e1, e0]; exact plot_eq (by assumption) (by assumption)
          exact ⟨.bool s2, Ret.r1 rfl rfl, ⟨by rw [← hf], hI.below⟩⟩
      ·intro h25
       refine pu (.bool false) (by kernel_rfl) (of_ (by kernel_rfl) (pu (.bool false) (by kernel_rfl) (seq_nil (wp_condF rfl (wp_exit ?_)))))
       refine wp_seq (wp_seq (rgn (by kernel_rfl) (pu (iv 0) (by kernel_rfl) (seq_nil (wp_block ?_)))))
       have e0 : s0 = (true && decide (pl.loads = ql.loads)) := by first | exact exitA hsm0 (by omega) (by omega) | exact exitB hsm0 (by assumption)
       refine wp_loop (fun m ρ w => ∃ (k1 : Nat) (s1 : Bool), Agree ρ [(2, .pointer (some ⟨b1, 0, none⟩)), (3, .pointer (some ⟨b2, 0, none⟩)), (5, .bool s1), (7, iv (k1 : Int))] ∧ Inv none w0 w [(some b2, blk [iv ql.lo, iv ql.hi, .slice qA1 qn1 qc1, .slice qA2 qn2 qc2, .slice qA3 qn3 qc3, iv ql.geese] 28), (some b1, blk [iv pl.lo, iv pl.hi, .slice pA1 pn1 pc1, .slice pA2 pn2 pc2, .slice pA3 pn3 pc3, iv pl.geese] 28)] ∧ (k1 ≤ pn2) ∧ (s1 = (s0 && decide (pl.stands.take k1 = ql.stands.take k1))) ∧ m = pn2 - k1) (m := pn2 - 0) ⟨0, s0, ⟨rfl, rfl, rfl, rfl, trivial⟩, hI.pickL [0, 1] (by decide) rfl, (by omega), (by simp), rfl⟩ ?_
       rintro m ρ w ⟨k1, s1, hag, hI, hk1, hsm1, hm⟩
       obtain ⟨ρ, rfl⟩ := hag.form; clear hag
       refine wp_seq (wp_seq (rgn (by kernel_rfl) (pu (iv (k1 : Int)) (by kernel_rfl) (pu (.pointer (some ⟨b1, 3, none⟩)) (by kernel_rfl) (seq_c (s_load1 hI 1 (.slice pA2 pn2 pc2) Tryz.isAgg25 rfl rfl rfl ?_))))))
       refine pu (iv ((pn2 : Nat) : Int)) (by kernel_rfl) (seq_c (s_lss rfl rfl ?_ ?_))
       ·intro h26
        refine pu (.bool true) (by kernel_rfl) (puo (.bool s1) ⟨(by kernel_rfl), (by kernel_rfl)⟩ (pu (.bool s1) (by kernel_rfl) (seq_nil (wp_cond (t := s1) rfl ?_ ?_))))
        ·intro h27
         refine wp_skip (wp_seq (wp_block ?_))
         refine wp_drawn2 hI [0, 1] (by decide) rfl (by kernel_rfl) (by kernel_rfl) ?_
         intro hsub
         refine alp 0 (.pointer (some ⟨b1, 3, none⟩)) hsub rfl (by kernel_rfl) (fun _ => (by kernel_rfl)) ?_
         refine al_light 1 (.slice pA2 pn2 pc2) hsub rfl (by kernel_rfl) (fun w hI => s_load1 hI 1 (.slice pA2 pn2 pc2) Tryz.isAgg25 rfl rfl rfl ⟨rfl, Below.refl _ _⟩) ?_
         refine alp 2 (iv (k1 : Int)) hsub rfl (by kernel_rfl) (fun _ => (by kernel_rfl)) ?_
         obtain ⟨x59, hx60⟩ := get_lt (l := pl.stands) (i := k1) (by omega)
         obtain ⟨b61, o62, hA63, hb64, he65⟩ := hP.c2.at_ eLd_len (by decide) hx60
         refine al_light 3 (.pointer (some ⟨b61, o62 + k1 * 6, none⟩)) hsub rfl (by kernel_rfl) (fun w hI => s_indexA k1 Tryz.underlying25 Tryz.sizeOf31 rfl hA63 rfl rfl (by omega) ⟨rfl, Below.refl _ _⟩) ?_
         refine al_light 4 (.agg #[iv x59.src, iv x59.hr, iv x59.lo, iv x59.hi, iv x59.kn, iv x59.un]) hsub rfl (by kernel_rfl) (fun w hI => s_loadBK hI [iv x59.src, iv x59.hr, iv x59.lo, iv x59.hi, iv x59.kn, iv x59.un] Tryz.isAgg31 Tryz.sizeOf31 rfl rfl hb64 (by simp) he65 ⟨rfl, Below.refl _ _⟩) ?_
         refine alp 5 (.pointer (some ⟨b2, 3, none⟩)) hsub rfl (by kernel_rfl) (fun _ => (by kernel_rfl)) ?_
         refine al_light 6 (.slice qA2 qn2 qc2) hsub rfl (by kernel_rfl) (fun w hI => s_load1 hI 0 (.slice qA2 qn2 qc2) Tryz.isAgg25 rfl rfl rfl ⟨rfl, Below.refl _ _⟩) ?_
         refine alp 7 (iv (k1 : Int)) hsub rfl (by kernel_rfl) (fun _ => (by kernel_rfl)) ?_
         obtain ⟨x66, hx67⟩ := get_lt (l := ql.stands) (i := k1) (by omega)
         obtain ⟨b68, o69, hA70, hb71, he72⟩ := hQ.c2.at_ eLd_len (by decide) hx67
         refine al_light 8 (.pointer (some ⟨b68, o69 + k1 * 6, none⟩)) hsub rfl (by kernel_rfl) (fun w hI => s_indexA k1 Tryz.underlying25 Tryz.sizeOf31 rfl hA70 rfl rfl (by omega) ⟨rfl, Below.refl _ _⟩) ?_
         refine al_light 9 (.agg #[iv x66.src, iv x66.hr, iv x66.lo, iv x66.hi, iv x66.kn, iv x66.un]) hsub rfl (by kernel_rfl) (fun w hI => s_loadBK hI [iv x66.src, iv x66.hr, iv x66.lo, iv x66.hi, iv x66.kn, iv x66.un] Tryz.isAgg31 Tryz.sizeOf31 rfl rfl hb71 (by simp) he72 ⟨rfl, Below.refl _ _⟩) ?_
         by_cases h28 : (decide (x59.src = x66.src) && decide (x59.hr = x66.hr) && decide (x59.lo = x66.lo) && decide (x59.hi = x66.hi) && decide (x59.kn = x66.kn) && decide (x59.un = x66.un)) = true
         ·refine al_light 10 (.bool true) hsub rfl (by kernel_rfl) (fun w hI => s_eqlA (b := decide (x59.src = x66.src) && decide (x59.hr = x66.hr) && decide (x59.lo = x66.lo) && decide (x59.hi = x66.hi) && decide (x59.kn = x66.kn) && decide (x59.un = x66.un)) rfl rfl (by kernel_rfl) (fun w => eq31 _ x59.src x59.hr x59.lo x59.hi x59.kn x59.un x66.src x66.hr x66.lo x66.hi x66.kn x66.un w) (fun _ => ⟨rfl, Below.refl _ _⟩) (fun h => absurd h28 h)) ?_
          refine alp 11 (.bool true) hsub rfl (by kernel_rfl) (fun _ => (by kernel_rfl)) ?_
          refine any_end (by kernel_rfl) (fun w hI => ?_)
          refine rgn (by kernel_rfl) (pu (iv (k1 : Int)) (by kernel_rfl) (seq_c (s_add rfl rfl (by omega) ?_)))
          refine pu (iv ((k1 : Int) + 1)) (by kernel_rfl) (seq_nil ?_)
          exact ⟨rfl, _, (by omega), ⟨k1 + 1, true, ⟨rfl, rfl, rfl, rfl, trivial⟩, hI.pickL [0, 1] (by decide) rfl, (by omega), (stepT hsm1 (by assumption) hx60 hx67 (by first | exact Eq.symm ((eqLd x59 x66).trans (by assumption)) | exact Eq.symm ((eqLd x59 x66).trans (Bool.eq_false_iff.2 (by assumption))))), rfl⟩⟩
         ·refine al_light 10 (.bool false) hsub rfl (by kernel_rfl) (fun w hI => s_eqlA (b := decide (x59.src = x66.src) && decide (x59.hr = x66.hr) && decide (x59.lo = x66.lo) && decide (x59.hi = x66.hi) && decide (x59.kn = x66.kn) && decide (x59.un = x66.un)) rfl rfl (by kernel_rfl) (fun w => eq31 _ x59.src x59.hr x59.lo x59.hi x59.kn x59.un x66.src x66.hr x66.lo x66.hi x66.kn x66.un w) (fun h => absurd h h28) (fun _ => ⟨rfl, Below.refl _ _⟩)) ?_
          refine alp 11 (.bool false) hsub rfl (by kernel_rfl) (fun _ => (by kernel_rfl)) ?_
          refine any_end (by kernel_rfl) (fun w hI => ?_)
          refine rgn (by kernel_rfl) (pu (iv (k1 : Int)) (by kernel_rfl) (seq_c (s_add rfl rfl (by omega) ?_)))
          refine pu (iv ((k1 : Int) + 1)) (by kernel_rfl) (seq_nil ?_)
          exact ⟨rfl, _, (by omega), ⟨k1 + 1, false, ⟨rfl, rfl, rfl, rfl, trivial⟩, hI.pickL [0, 1] (by decide) rfl, (by omega), (stepT hsm1 (by assumption) hx60 hx67 (by first | exact Eq.symm ((eqLd x59 x66).trans (by assumption)) | exact Eq.symm ((eqLd x59 x66).trans (Bool.eq_false_iff.2 (by assumption))))), rfl⟩⟩
        ·intro h29
         refine wp_exit ?_
         refine wp_seq (wp_seq (rgn (by kernel_rfl) (pu (iv 0) (by kernel_rfl) (seq_nil (wp_block ?_)))))
         have e1 : s1 = (s0 && decide (pl.stands = ql.stands)) := by first | exact exitA hsm1 (by omega) (by omega) | exact exitB hsm1 (by assumption)
         refine wp_loop (fun m ρ w => ∃ (k2 : Nat) (s2 : Bool), Agree ρ [(2, .pointer (some ⟨b1, 0, none⟩)), (3, .pointer (some ⟨b2, 0, none⟩)), (5, .bool s2), (8, iv (k2 : Int))] ∧ Inv none w0 w [(some b2, blk [iv ql.lo, iv ql.hi, .slice qA1 qn1 qc1, .slice qA2 qn2 qc2, .slice qA3 qn3 qc3, iv ql.geese] 28), (some b1, blk [iv pl.lo, iv pl.hi, .slice pA1 pn1 pc1, .slice pA2 pn2 pc2, .slice pA3 pn3 pc3, iv pl.geese] 28)] ∧ (k2 ≤ pn3) ∧ (s2 = (s1 && decide (pl.spells.take k2 = ql.spells.take k2))) ∧ m = pn3 - k2) (m := pn3 - 0) ⟨0, s1, ⟨rfl, rfl, rfl, rfl, trivial⟩, hI.pickL [0, 1] (by decide) rfl, (by omega), (by simp), rfl⟩ ?_
         rintro m ρ w ⟨k2, s2, hag, hI, hk2, hsm2, hm⟩
         obtain ⟨ρ, rfl⟩ := hag.form; clear hag
         refine wp_seq (wp_seq (rgn (by kernel_rfl) (pu (iv (k2 : Int)) (by kernel_rfl) (pu (.pointer (some ⟨b1, 4, none⟩)) (by kernel_rfl) (seq_c (s_load1 hI 1 (.slice pA3 pn3 pc3) Tryz.isAgg26 rfl rfl rfl ?_))))))
         refine pu (iv ((pn3 : Nat) : Int)) (by kernel_rfl) (seq_c (s_lss rfl rfl ?_ ?_))
         ·intro h30
          refine pu (.bool true) (by kernel_rfl) (puo (.bool s2) ⟨(by kernel_rfl), (by kernel_rfl)⟩ (pu (.bool s2) (by kernel_rfl) (seq_nil (wp_cond (t := s2) rfl ?_ ?_))))
          ·intro h31
           refine wp_skip (wp_seq (wp_block ?_))
           refine wp_drawn2 hI [0, 1] (by decide) rfl (by kernel_rfl) (by kernel_rfl) ?_
           intro hsub
           refine alp 0 (.pointer (some ⟨b1, 4, none⟩)) hsub rfl (by kernel_rfl) (fun _ => (by kernel_rfl)) ?_
           refine al_light 1 (.slice pA3 pn3 pc3) hsub rfl (by kernel_rfl) (fun w hI => s_load1 hI 1 (.slice pA3 pn3 pc3) Tryz.isAgg26 rfl rfl rfl ⟨rfl, Below.refl _ _⟩) ?_
           refine alp 2 (iv (k2 : Int)) hsub rfl (by kernel_rfl) (fun _ => (by kernel_rfl)) ?_
           obtain ⟨x73, hx74⟩ := get_lt (l := pl.spells) (i := k2) (by omega)
           obtain ⟨b75, o76, hA77, hb78, he79⟩ := hP.c3.at_ eSp_len (by decide) hx74
           refine al_light 3 (.pointer (some ⟨b75, o76 + k2 * 6, none⟩)) hsub rfl (by kernel_rfl) (fun w hI => s_indexA k2 Tryz.underlying26 Tryz.sizeOf33 rfl hA77 rfl rfl (by omega) ⟨rfl, Below.refl _ _⟩) ?_
           refine al_light 4 (.agg #[iv x73.src, iv x73.kd, iv x73.fr, iv x73.to, iv x73.kn, iv x73.un]) hsub rfl (by kernel_rfl) (fun w hI => s_loadBK hI [iv x73.src, iv x73.kd, iv x73.fr, iv x73.to, iv x73.kn, iv x73.un] Tryz.isAgg33 Tryz.sizeOf33 rfl rfl hb78 (by simp) he79 ⟨rfl, Below.refl _ _⟩) ?_
           refine alp 5 (.pointer (some ⟨b2, 4, none⟩)) hsub rfl (by kernel_rfl) (fun _ => (by kernel_rfl)) ?_
           refine al_light 6 (.slice qA3 qn3 qc3) hsub rfl (by kernel_rfl) (fun w hI => s_load1 hI 0 (.slice qA3 qn3 qc3) Tryz.isAgg26 rfl rfl rfl ⟨rfl, Below.refl _ _⟩) ?_
           refine alp 7 (iv (k2 : Int)) hsub rfl (by kernel_rfl) (fun _ => (by kernel_rfl)) ?_
           obtain ⟨x80, hx81⟩ := get_lt (l := ql.spells) (i := k2) (by omega)
           obtain ⟨b82, o83, hA84, hb85, he86⟩ := hQ.c3.at_ eSp_len (by decide) hx81
           refine al_light 8 (.pointer (some ⟨b82, o83 + k2 * 6, none⟩)) hsub rfl (by kernel_rfl) (fun w hI => s_indexA k2 Tryz.underlying26 Tryz.sizeOf33 rfl hA84 rfl rfl (by omega) ⟨rfl, Below.refl _ _⟩) ?_
           refine al_light 9 (.agg #[iv x80.src, iv x80.kd, iv x80.fr, iv x80.to, iv x80.kn, iv x80.un]) hsub rfl (by kernel_rfl) (fun w hI => s_loadBK hI [iv x80.src, iv x80.kd, iv x80.fr, iv x80.to, iv x80.kn, iv x80.un] Tryz.isAgg33 Tryz.sizeOf33 rfl rfl hb85 (by simp) he86 ⟨rfl, Below.refl _ _⟩) ?_
           by_cases h32 : (decide (x73.src = x80.src) && decide (x73.kd = x80.kd) && decide (x73.fr = x80.fr) && decide (x73.to = x80.to) && decide (x73.kn = x80.kn) && decide (x73.un = x80.un)) = true
           ·refine al_light 10 (.bool true) hsub rfl (by kernel_rfl) (fun w hI => s_eqlA (b := decide (x73.src = x80.src) && decide (x73.kd = x80.kd) && decide (x73.fr = x80.fr) && decide (x73.to = x80.to) && decide (x73.kn = x80.kn) && decide (x73.un = x80.un)) rfl rfl (by kernel_rfl) (fun w => eq33 _ x73.src x73.kd x73.fr x73.to x73.kn x73.un x80.src x80.kd x80.fr x80.to x80.kn x80.un w) (fun _ => ⟨rfl, Below.refl _ _⟩) (fun h => absurd h32 h)) ?_
            refine alp 11 (.bool true) hsub rfl (by kernel_rfl) (fun _ => (by kernel_rfl)) ?_
            refine any_end (by kernel_rfl) (fun w hI => ?_)
            refine rgn (by kernel_rfl) (pu (iv (k2 : Int)) (by kernel_rfl) (seq_c (s_add rfl rfl (by omega) ?_)))
            refine pu (iv ((k2 : Int) + 1)) (by kernel_rfl) (seq_nil ?_)
            exact ⟨rfl, _, (by omega), ⟨k2 + 1, true, ⟨rfl, rfl, rfl, rfl, trivial⟩, hI.pickL [0, 1] (by decide) rfl, (by omega), (stepT hsm2 (by assumption) hx74 hx81 (by first | exact Eq.symm ((eqSp x73 x80).trans (by assumption)) | exact Eq.symm ((eqSp x73 x80).trans (Bool.eq_false_iff.2 (by assumption))))), rfl⟩⟩
           ·refine al_light 10 (.bool false) hsub rfl (by kernel_rfl) (fun w hI => s_eqlA (b := decide (x73.src = x80.src) && decide (x73.kd = x80.kd) && decide (x73.fr = x80.fr) && decide (x73.to = x80.to) && decide (x73.kn = x80.kn) && decide (x73.un = x80.un)) rfl rfl (by kernel_rfl) (fun w => eq33 _ x73.src x73.kd x73.fr x73.to x73.kn x73.un x80.src x80.kd x80.fr x80.to x80.kn x80.un w) (fun h => absurd h h32) (fun _ => ⟨rfl, Below.refl _ _⟩)) ?_
            refine alp 11 (.bool false) hsub rfl (by kernel_rfl) (fun _ => (by kernel_rfl)) ?_
            refine any_end (by kernel_rfl) (fun w hI => ?_)
            refine rgn (by kernel_rfl) (pu (iv (k2 : Int)) (by kernel_rfl) (seq_c (s_add rfl rfl (by omega) ?_)))
            refine pu (iv ((k2 : Int) + 1)) (by kernel_rfl) (seq_nil ?_)
            exact ⟨rfl, _, (by omega), ⟨k2 + 1, false, ⟨rfl, rfl, rfl, rfl, trivial⟩, hI.pickL [0, 1] (by decide) rfl, (by omega), (stepT hsm2 (by assumption) hx74 hx81 (by first | exact Eq.symm ((eqSp x73 x80).trans (by assumption)) | exact Eq.symm ((eqSp x73 x80).trans (Bool.eq_false_iff.2 (by assumption))))), rfl⟩⟩
          ·intro h33
           refine wp_exit ?_
           refine wp_seq (rgn (by kernel_rfl) (pu (.bool s2) (by kernel_rfl) (pu (.bool s2) (by kernel_rfl) (seq_nil (wp_ret ?_)))))
           have e2 : s2 = (s1 && decide (pl.spells = ql.spells)) := by first | exact exitA hsm2 (by omega) (by omega) | exact exitB hsm2 (by assumption)
           have hf : s2 = decide (pl = ql) := by rw [e2, e1, e0]; exact plot_eq (by assumption) (by assumption)
           exact ⟨.bool s2, Ret.r1 rfl rfl, ⟨by rw [← hf], hI.below⟩⟩
         ·intro h34
          refine pu (.bool false) (by kernel_rfl) (of_ (by kernel_rfl) (pu (.bool false) (by kernel_rfl) (seq_nil (wp_condF rfl (wp_exit ?_)))))
          refine wp_seq (rgn (by kernel_rfl) (pu (.bool s2) (by kernel_rfl) (pu (.bool s2) (by kernel_rfl) (seq_nil (wp_ret ?_)))))
          have e2 : s2 = (s1 && decide (pl.spells = ql.spells)) := by first | exact exitA hsm2 (by omega) (by omega) | exact exitB hsm2 (by assumption)
          have hf : s2 = decide (pl = ql) := by rw [e2, e1, e0]; exact plot_eq (by assumption) (by assumption)
          exact ⟨.bool s2, Ret.r1 rfl rfl, ⟨by rw [← hf], hI.below⟩⟩
       ·intro h35
        refine pu (.bool false) (by kernel_rfl) (of_ (by kernel_rfl) (pu (.bool false) (by kernel_rfl) (seq_nil (wp_condF rfl (wp_exit ?_)))))
        refine wp_seq (wp_seq (rgn (by kernel_rfl) (pu (iv 0) (by kernel_rfl) (seq_nil (wp_block ?_)))))
        have e1 : s1 = (s0 && decide (pl.stands = ql.stands)) := by first | exact exitA hsm1 (by omega) (by omega) | exact exitB hsm1 (by assumption)
        refine wp_loop (fun m ρ w => ∃ (k2 : Nat) (s2 : Bool), Agree ρ [(2, .pointer (some ⟨b1, 0, none⟩)), (3, .pointer (some ⟨b2, 0, none⟩)), (5, .bool s2), (8, iv (k2 : Int))] ∧ Inv none w0 w [(some b2, blk [iv ql.lo, iv ql.hi, .slice qA1 qn1 qc1, .slice qA2 qn2 qc2, .slice qA3 qn3 qc3, iv ql.geese] 28), (some b1, blk [iv pl.lo, iv pl.hi, .slice pA1 pn1 pc1, .slice pA2 pn2 pc2, .slice pA3 pn3 pc3, iv pl.geese] 28)] ∧ (k2 ≤ pn3) ∧ (s2 = (s1 && decide (pl.spells.take k2 = ql.spells.take k2))) ∧ m = pn3 - k2) (m := pn3 - 0) ⟨0, s1, ⟨rfl, rfl, rfl, rfl, trivial⟩, hI.pickL [0, 1] (by decide) rfl, (by omega), (by simp), rfl⟩ ?_
        rintro m ρ w ⟨k2, s2, hag, hI, hk2, hsm2, hm⟩
        obtain ⟨ρ, rfl⟩ := hag.form; clear hag
        refine wp_seq (wp_seq (rgn (by kernel_rfl) (pu (iv (k2 : Int)) (by kernel_rfl) (pu (.pointer (some ⟨b1, 4, none⟩)) (by kernel_rfl) (seq_c (s_load1 hI 1 (.slice pA3 pn3 pc3) Tryz.isAgg26 rfl rfl rfl ?_))))))
        refine pu (iv ((pn3 : Nat) : Int)) (by kernel_rfl) (seq_c (s_lss rfl rfl ?_ ?_))
        ·intro h36
         refine pu (.bool true) (by kernel_rfl) (puo (.bool s2) ⟨(by kernel_rfl), (by kernel_rfl)⟩ (pu (.bool s2) (by kernel_rfl) (seq_nil (wp_cond (t := s2) rfl ?_ ?_))))
         ·intro h37
          refine wp_skip (wp_seq (wp_block ?_))
          refine wp_drawn2 hI [0, 1] (by decide) rfl (by kernel_rfl) (by kernel_rfl) ?_
          intro hsub
          refine alp 0 (.pointer (some ⟨b1, 4, none⟩)) hsub rfl (by kernel_rfl) (fun _ => (by kernel_rfl)) ?_
          refine al_light 1 (.slice pA3 pn3 pc3) hsub rfl (by kernel_rfl) (fun w hI => s_load1 hI 1 (.slice pA3 pn3 pc3) Tryz.isAgg26 rfl rfl rfl ⟨rfl, Below.refl _ _⟩) ?_
          refine alp 2 (iv (k2 : Int)) hsub rfl (by kernel_rfl) (fun _ => (by kernel_rfl)) ?_
          obtain ⟨x87, hx88⟩ := get_lt (l := pl.spells) (i := k2) (by omega)
          obtain ⟨b89, o90, hA91, hb92, he93⟩ := hP.c3.at_ eSp_len (by decide) hx88
          refine al_light 3 (.pointer (some ⟨b89, o90 + k2 * 6, none⟩)) hsub rfl (by kernel_rfl) (fun w hI => s_indexA k2 Tryz.underlying26 Tryz.sizeOf33 rfl hA91 rfl rfl (by omega) ⟨rfl, Below.refl _ _⟩) ?_
          refine al_light 4 (.agg #[iv x87.src, iv x87.kd, iv x87.fr, iv x87.to, iv x87.kn, iv x87.un]) hsub rfl (by kernel_rfl) (fun w hI => s_loadBK hI [iv x87.src, iv x87.kd, iv x87.fr, iv x87.to, iv x87.kn, iv x87.un] Tryz.isAgg33 Tryz.sizeOf33 rfl rfl hb92 (by simp) he93 ⟨rfl, Below.refl _ _⟩) ?_
          refine alp 5 (.pointer (some ⟨b2, 4, none⟩)) hsub rfl (by kernel_rfl) (fun _ => (by kernel_rfl)) ?_
          refine al_light 6 (.slice qA3 qn3 qc3) hsub rfl (by kernel_rfl) (fun w hI => s_load1 hI 0 (.slice qA3 qn3 qc3) Tryz.isAgg26 rfl rfl rfl ⟨rfl, Below.refl _ _⟩) ?_
          refine alp 7 (iv (k2 : Int)) hsub rfl (by kernel_rfl) (fun _ => (by kernel_rfl)) ?_
          obtain ⟨x94, hx95⟩ := get_lt (l := ql.spells) (i := k2) (by omega)
          obtain ⟨b96, o97, hA98, hb99, he100⟩ := hQ.c3.at_ eSp_len (by decide) hx95
          refine al_light 8 (.pointer (some ⟨b96, o97 + k2 * 6, none⟩)) hsub rfl (by kernel_rfl) (fun w hI => s_indexA k2 Tryz.underlying26 Tryz.sizeOf33 rfl hA98 rfl rfl (by omega) ⟨rfl, Below.refl _ _⟩) ?_
          refine al_light 9 (.agg #[iv x94.src, iv x94.kd, iv x94.fr, iv x94.to, iv x94.kn, iv x94.un]) hsub rfl (by kernel_rfl) (fun w hI => s_loadBK hI [iv x94.src, iv x94.kd, iv x94.fr, iv x94.to, iv x94.kn, iv x94.un] Tryz.isAgg33 Tryz.sizeOf33 rfl rfl hb99 (by simp) he100 ⟨rfl, Below.refl _ _⟩) ?_
          by_cases h38 : (decide (x87.src = x94.src) && decide (x87.kd = x94.kd) && decide (x87.fr = x94.fr) && decide (x87.to = x94.to) && decide (x87.kn = x94.kn) && decide (x87.un = x94.un)) = true
          ·refine al_light 10 (.bool true) hsub rfl (by kernel_rfl) (fun w hI => s_eqlA (b := decide (x87.src = x94.src) && decide (x87.kd = x94.kd) && decide (x87.fr = x94.fr) && decide (x87.to = x94.to) && decide (x87.kn = x94.kn) && decide (x87.un = x94.un)) rfl rfl (by kernel_rfl) (fun w => eq33 _ x87.src x87.kd x87.fr x87.to x87.kn x87.un x94.src x94.kd x94.fr x94.to x94.kn x94.un w) (fun _ => ⟨rfl, Below.refl _ _⟩) (fun h => absurd h38 h)) ?_
           refine alp 11 (.bool true) hsub rfl (by kernel_rfl) (fun _ => (by kernel_rfl)) ?_
           refine any_end (by kernel_rfl) (fun w hI => ?_)
           refine rgn (by kernel_rfl) (pu (iv (k2 : Int)) (by kernel_rfl) (seq_c (s_add rfl rfl (by omega) ?_)))
           refine pu (iv ((k2 : Int) + 1)) (by kernel_rfl) (seq_nil ?_)
           exact ⟨rfl, _, (by omega), ⟨k2 + 1, true, ⟨rfl, rfl, rfl, rfl, trivial⟩, hI.pickL [0, 1] (by decide) rfl, (by omega), (stepT hsm2 (by assumption) hx88 hx95 (by first | exact Eq.symm ((eqSp x87 x94).trans (by assumption)) | exact Eq.symm ((eqSp x87 x94).trans (Bool.eq_false_iff.2 (by assumption))))), rfl⟩⟩
          ·refine al_light 10 (.bool false) hsub rfl (by kernel_rfl) (fun w hI => s_eqlA (b := decide (x87.src = x94.src) && decide (x87.kd = x94.kd) && decide (x87.fr = x94.fr) && decide (x87.to = x94.to) && decide (x87.kn = x94.kn) && decide (x87.un = x94.un)) rfl rfl (by kernel_rfl) (fun w => eq33 _ x87.src x87.kd x87.fr x87.to x87.kn x87.un x94.src x94.kd x94.fr x94.to x94.kn x94.un w) (fun h => absurd h h38) (fun _ => ⟨rfl, Below.refl _ _⟩)) ?_
           refine alp 11 (.bool false) hsub rfl (by kernel_rfl) (fun _ => (by kernel_rfl)) ?_
           refine any_end (by kernel_rfl) (fun w hI => ?_)
           refine rgn (by kernel_rfl) (pu (iv (k2 : Int)) (by kernel_rfl) (seq_c (s_add rfl rfl (by omega) ?_)))
           refine pu (iv ((k2 : Int) + 1)) (by kernel_rfl) (seq_nil ?_)
           exact ⟨rfl, _, (by omega), ⟨k2 + 1, false, ⟨rfl, rfl, rfl, rfl, trivial⟩, hI.pickL [0, 1] (by decide) rfl, (by omega), (stepT hsm2 (by assumption) hx88 hx95 (by first | exact Eq.symm ((eqSp x87 x94).trans (by assumption)) | exact Eq.symm ((eqSp x87 x94).trans (Bool.eq_false_iff.2 (by assumption))))), rfl⟩⟩
         ·intro h39
          refine wp_exit ?_
          refine wp_seq (rgn (by kernel_rfl) (pu (.bool s2) (by kernel_rfl) (pu (.bool s2) (by kernel_rfl) (seq_nil (wp_ret ?_)))))
          have e2 : s2 = (s1 && decide (pl.spells = ql.spells)) := by first | exact exitA hsm2 (by omega) (by omega) | exact exitB hsm2 (by assumption)
          have hf : s2 = decide (pl = ql) := by rw [e2, e1, e0]; exact plot_eq (by assumption) (by assumption)
          exact ⟨.bool s2, Ret.r1 rfl rfl, ⟨by rw [← hf], hI.below⟩⟩
        ·intro h40
         refine pu (.bool false) (by kernel_rfl) (of_ (by kernel_rfl) (pu (.bool false) (by kernel_rfl) (seq_nil (wp_condF rfl (wp_exit ?_)))))
         refine wp_seq (rgn (by kernel_rfl) (pu (.bool s2) (by kernel_rfl) (pu (.bool s2) (by kernel_rfl) (seq_nil (wp_ret ?_)))))
         have e2 : s2 = (s1 && decide (pl.spells = ql.spells)) := by first | exact exitA hsm2 (by omega) (by omega) | exact exitB hsm2 (by assumption)
         have hf : s2 = decide (pl = ql) := by rw [e2, e1, e0]; exact plot_eq (by assumption) (by assumption)
         exact ⟨.bool s2, Ret.r1 rfl rfl, ⟨by rw [← hf], hI.below⟩⟩
     ·intro h41
      refine pu (.bool false) (by kernel_rfl) (pu (.bool false) (by kernel_rfl) (seq_nil (wp_seq (wp_seq (rgn (by kernel_rfl) (pu (iv 0) (by kernel_rfl) (seq_nil (wp_block ?_))))))))
      refine wp_loop (fun m ρ w => Agree ρ [(2, .pointer (some ⟨b1, 0, none⟩)), (3, .pointer (some ⟨b2, 0, none⟩)), (5, .bool false), (6, iv 0)] ∧ Inv none w0 w [(some b2, blk [iv ql.lo, iv ql.hi, .slice qA1 qn1 qc1, .slice qA2 qn2 qc2, .slice qA3 qn3 qc3, iv ql.geese] 28), (some b1, blk [iv pl.lo, iv pl.hi, .slice pA1 pn1 pc1, .slice pA2 pn2 pc2, .slice pA3 pn3 pc3, iv pl.geese] 28)] ∧ m = 0) (m := 0) ⟨⟨rfl, rfl, rfl, rfl, trivial⟩, hI.pickL [0, 1] (by decide) rfl, rfl⟩ ?_
      rintro m ρ w ⟨hag, hI, hm⟩
      obtain ⟨ρ, rfl⟩ := hag.form; clear hag
      refine wp_seq (wp_seq (rgn (by kernel_rfl) (pu (iv 0) (by kernel_rfl) (pu (.pointer (some ⟨b1, 2, none⟩)) (by kernel_rfl) (seq_c (s_load1 hI 1 (.slice pA1 pn1 pc1) Tryz.isAgg24 rfl rfl rfl ?_))))))
      refine pu (iv ((pn1 : Nat) : Int)) (by kernel_rfl) (seq_c (s_lss rfl rfl ?_ ?_))
      ·intro h42
       refine pu (.bool true) (by kernel_rfl) (puo (.bool false) ⟨(by kernel_rfl), (by kernel_rfl)⟩ (pu (.bool false) (by kernel_rfl) (seq_nil (wp_condF rfl (wp_exit ?_)))))
       refine wp_seq (wp_seq (rgn (by kernel_rfl) (pu (iv 0) (by kernel_rfl) (seq_nil (wp_block ?_)))))
       refine wp_loop (fun m ρ w => Agree ρ [(2, .pointer (some ⟨b1, 0, none⟩)), (3, .pointer (some ⟨b2, 0, none⟩)), (5, .bool false), (7, iv 0)] ∧ Inv none w0 w [(some b2, blk [iv ql.lo, iv ql.hi, .slice qA1 qn1 qc1, .slice qA2 qn2 qc2, .slice qA3 qn3 qc3, iv ql.geese] 28), (some b1, blk [iv pl.lo, iv pl.hi, .slice pA1 pn1 pc1, .slice pA2 pn2 pc2, .slice pA3 pn3 pc3, iv pl.geese] 28)] ∧ m = 0) (m := 0) ⟨⟨rfl, rfl, rfl, rfl, trivial⟩, hI.pickL [0, 1] (by decide) rfl, rfl⟩ ?_
       rintro m ρ w ⟨hag, hI, hm⟩
       obtain ⟨ρ, rfl⟩ := hag.form; clear hag
       refine wp_seq (wp_seq (rgn (by kernel_rfl) (pu (iv 0) (by kernel_rfl) (pu (.pointer (some ⟨b1, 3, none⟩)) (by kernel_rfl) (seq_c (s_load1 hI 1 (.slice pA2 pn2 pc2) Tryz.isAgg25 rfl rfl rfl ?_))))))
       refine pu (iv ((pn2 : Nat) : Int)) (by kernel_rfl) (seq_c (s_lss rfl rfl ?_ ?_))
       ·intro h43
        refine pu (.bool true) (by kernel_rfl) (puo (.bool false) ⟨(by kernel_rfl), (by kernel_rfl)⟩ (pu (.bool false) (by kernel_rfl) (seq_nil (wp_condF rfl (wp_exit ?_)))))
        refine wp_seq (wp_seq (rgn (by kernel_rfl) (pu (iv 0) (by kernel_rfl) (seq_nil (wp_block ?_)))))
        refine wp_loop (fun m ρ w => Agree ρ [(2, .pointer (some ⟨b1, 0, none⟩)), (3, .pointer (some ⟨b2, 0, none⟩)), (5, .bool false), (8, iv 0)] ∧ Inv none w0 w [(some b2, blk [iv ql.lo, iv ql.hi, .slice qA1 qn1 qc1, .slice qA2 qn2 qc2, .slice qA3 qn3 qc3, iv ql.geese] 28), (some b1, blk [iv pl.lo, iv pl.hi, .slice pA1 pn1 pc1, .slice pA2 pn2 pc2, .slice pA3 pn3 pc3, iv pl.geese] 28)] ∧ m = 0) (m := 0) ⟨⟨rfl, rfl, rfl, rfl, trivial⟩, hI.pickL [0, 1] (by decide) rfl, rfl⟩ ?_
        rintro m ρ w ⟨hag, hI, hm⟩
        obtain ⟨ρ, rfl⟩ := hag.form; clear hag
        refine wp_seq (wp_seq (rgn (by kernel_rfl) (pu (iv 0) (by kernel_rfl) (pu (.pointer (some ⟨b1, 4, none⟩)) (by kernel_rfl) (seq_c (s_load1 hI 1 (.slice pA3 pn3 pc3) Tryz.isAgg26 rfl rfl rfl ?_))))))
        refine pu (iv ((pn3 : Nat) : Int)) (by kernel_rfl) (seq_c (s_lss rfl rfl ?_ ?_))
        ·intro h44
         refine pu (.bool true) (by kernel_rfl) (puo (.bool false) ⟨(by kernel_rfl), (by kernel_rfl)⟩ (pu (.bool false) (by kernel_rfl) (seq_nil (wp_condF rfl (wp_exit ?_)))))
         refine wp_seq (rgn (by kernel_rfl) (pu (.bool false) (by kernel_rfl) (pu (.bool false) (by kernel_rfl) (seq_nil (wp_ret ?_)))))
         exact ⟨.bool false, Ret.r1 rfl rfl, ⟨by refine congrArg Value.bool (Eq.symm (decide_eq_false ?_)); intro e; subst e; first | omega | (simp_all; done), hI.below⟩⟩
        ·intro h45
         refine pu (.bool false) (by kernel_rfl) (of_ (by kernel_rfl) (pu (.bool false) (by kernel_rfl) (seq_nil (wp_condF rfl (wp_exit ?_)))))
         refine wp_seq (rgn (by kernel_rfl) (pu (.bool false) (by kernel_rfl) (pu (.bool false) (by kernel_rfl) (seq_nil (wp_ret ?_)))))
         exact ⟨.bool false, Ret.r1 rfl rfl, ⟨by refine congrArg Value.bool (Eq.symm (decide_eq_false ?_)); intro e; subst e; first | omega | (simp_all; done), hI.below⟩⟩
       ·intro h46
        refine pu (.bool false) (by kernel_rfl) (of_ (by kernel_rfl) (pu (.bool false) (by kernel_rfl) (seq_nil (wp_condF rfl (wp_exit ?_)))))
        refine wp_seq (wp_seq (rgn (by kernel_rfl) (pu (iv 0) (by kernel_rfl) (seq_nil (wp_block ?_)))))
        refine wp_loop (fun m ρ w => Agree ρ [(2, .pointer (some ⟨b1, 0, none⟩)), (3, .pointer (some ⟨b2, 0, none⟩)), (5, .bool false), (8, iv 0)] ∧ Inv none w0 w [(some b2, blk [iv ql.lo, iv ql.hi, .slice qA1 qn1 qc1, .slice qA2 qn2 qc2, .slice qA3 qn3 qc3, iv ql.geese] 28), (some b1, blk [iv pl.lo, iv pl.hi, .slice pA1 pn1 pc1, .slice pA2 pn2 pc2, .slice pA3 pn3 pc3, iv pl.geese] 28)] ∧ m = 0) (m := 0) ⟨⟨rfl, rfl, rfl, rfl, trivial⟩, hI.pickL [0, 1] (by decide) rfl, rfl⟩ ?_
        rintro m ρ w ⟨hag, hI, hm⟩
        obtain ⟨ρ, rfl⟩ := hag.form; clear hag
        refine wp_seq (wp_seq (rgn (by kernel_rfl) (pu (iv 0) (by kernel_rfl) (pu (.pointer (some ⟨b1, 4, none⟩)) (by kernel_rfl) (seq_c (s_load1 hI 1 (.slice pA3 pn3 pc3) Tryz.isAgg26 rfl rfl rfl ?_))))))
        refine pu (iv ((pn3 : Nat) : Int)) (by kernel_rfl) (seq_c (s_lss rfl rfl ?_ ?_))
        ·intro h47
         refine pu (.bool true) (by kernel_rfl) (puo (.bool false) ⟨(by kernel_rfl), (by kernel_rfl)⟩ (pu (.bool false) (by kernel_rfl) (seq_nil (wp_condF rfl (wp_exit ?_)))))
         refine wp_seq (rgn (by kernel_rfl) (pu (.bool false) (by kernel_rfl) (pu (.bool false) (by kernel_rfl) (seq_nil (wp_ret ?_)))))
         exact ⟨.bool false, Ret.r1 rfl rfl, ⟨by refine congrArg Value.bool (Eq.symm (decide_eq_false ?_)); intro e; subst e; first | omega | (simp_all; done), hI.below⟩⟩
        ·intro h48
         refine pu (.bool false) (by kernel_rfl) (of_ (by kernel_rfl) (pu (.bool false) (by kernel_rfl) (seq_nil (wp_condF rfl (wp_exit ?_)))))
         refine wp_seq (rgn (by kernel_rfl) (pu (.bool false) (by kernel_rfl) (pu (.bool false) (by kernel_rfl) (seq_nil (wp_ret ?_)))))
         exact ⟨.bool false, Ret.r1 rfl rfl, ⟨by refine congrArg Value.bool (Eq.symm (decide_eq_false ?_)); intro e; subst e; first | omega | (simp_all; done), hI.below⟩⟩
      ·intro h49
       refine pu (.bool false) (by kernel_rfl) (of_ (by kernel_rfl) (pu (.bool false) (by kernel_rfl) (seq_nil (wp_condF rfl (wp_exit ?_)))))
       refine wp_seq (wp_seq (rgn (by kernel_rfl) (pu (iv 0) (by kernel_rfl) (seq_nil (wp_block ?_)))))
       refine wp_loop (fun m ρ w => Agree ρ [(2, .pointer (some ⟨b1, 0, none⟩)), (3, .pointer (some ⟨b2, 0, none⟩)), (5, .bool false), (7, iv 0)] ∧ Inv none w0 w [(some b2, blk [iv ql.lo, iv ql.hi, .slice qA1 qn1 qc1, .slice qA2 qn2 qc2, .slice qA3 qn3 qc3, iv ql.geese] 28), (some b1, blk [iv pl.lo, iv pl.hi, .slice pA1 pn1 pc1, .slice pA2 pn2 pc2, .slice pA3 pn3 pc3, iv pl.geese] 28)] ∧ m = 0) (m := 0) ⟨⟨rfl, rfl, rfl, rfl, trivial⟩, hI.pickL [0, 1] (by decide) rfl, rfl⟩ ?_
       rintro m ρ w ⟨hag, hI, hm⟩
       obtain ⟨ρ, rfl⟩ := hag.form; clear hag
       refine wp_seq (wp_seq (rgn (by kernel_rfl) (pu (iv 0) (by kernel_rfl) (pu (.pointer (some ⟨b1, 3, none⟩)) (by kernel_rfl) (seq_c (s_load1 hI 1 (.slice pA2 pn2 pc2) Tryz.isAgg25 rfl rfl rfl ?_))))))
       refine pu (iv ((pn2 : Nat) : Int)) (by kernel_rfl) (seq_c (s_lss rfl rfl ?_ ?_))
       ·intro h50
        refine pu (.bool true) (by kernel_rfl) (puo (.bool false) ⟨(by kernel_rfl), (by kernel_rfl)⟩ (pu (.bool false) (by kernel_rfl) (seq_nil (wp_condF rfl (wp_exit ?_)))))
        refine wp_seq (wp_seq (rgn (by kernel_rfl) (pu (iv 0) (by kernel_rfl) (seq_nil (wp_block ?_)))))
        refine wp_loop (fun m ρ w => Agree ρ [(2, .pointer (some ⟨b1, 0, none⟩)), (3, .pointer (some ⟨b2, 0, none⟩)), (5, .bool false), (8, iv 0)] ∧ Inv none w0 w [(some b2, blk [iv ql.lo, iv ql.hi, .slice qA1 qn1 qc1, .slice qA2 qn2 qc2, .slice qA3 qn3 qc3, iv ql.geese] 28), (some b1, blk [iv pl.lo, iv pl.hi, .slice pA1 pn1 pc1, .slice pA2 pn2 pc2, .slice pA3 pn3 pc3, iv pl.geese] 28)] ∧ m = 0) (m := 0) ⟨⟨rfl, rfl, rfl, rfl, trivial⟩, hI.pickL [0, 1] (by decide) rfl, rfl⟩ ?_
        rintro m ρ w ⟨hag, hI, hm⟩
        obtain ⟨ρ, rfl⟩ := hag.form; clear hag
        refine wp_seq (wp_seq (rgn (by kernel_rfl) (pu (iv 0) (by kernel_rfl) (pu (.pointer (some ⟨b1, 4, none⟩)) (by kernel_rfl) (seq_c (s_load1 hI 1 (.slice pA3 pn3 pc3) Tryz.isAgg26 rfl rfl rfl ?_))))))
        refine pu (iv ((pn3 : Nat) : Int)) (by kernel_rfl) (seq_c (s_lss rfl rfl ?_ ?_))
        ·intro h51
         refine pu (.bool true) (by kernel_rfl) (puo (.bool false) ⟨(by kernel_rfl), (by kernel_rfl)⟩ (pu (.bool false) (by kernel_rfl) (seq_nil (wp_condF rfl (wp_exit ?_)))))
         refine wp_seq (rgn (by kernel_rfl) (pu (.bool false) (by kernel_rfl) (pu (.bool false) (by kernel_rfl) (seq_nil (wp_ret ?_)))))
         exact ⟨.bool false, Ret.r1 rfl rfl, ⟨by refine congrArg Value.bool (Eq.symm (decide_eq_false ?_)); intro e; subst e; first | omega | (simp_all; done), hI.below⟩⟩
        ·intro h52
         refine pu (.bool false) (by kernel_rfl) (of_ (by kernel_rfl) (pu (.bool false) (by kernel_rfl) (seq_nil (wp_condF rfl (wp_exit ?_)))))
         refine wp_seq (rgn (by kernel_rfl) (pu (.bool false) (by kernel_rfl) (pu (.bool false) (by kernel_rfl) (seq_nil (wp_ret ?_)))))
         exact ⟨.bool false, Ret.r1 rfl rfl, ⟨by refine congrArg Value.bool (Eq.symm (decide_eq_false ?_)); intro e; subst e; first | omega | (simp_all; done), hI.below⟩⟩
       ·intro h53
        refine pu (.bool false) (by kernel_rfl) (of_ (by kernel_rfl) (pu (.bool false) (by kernel_rfl) (seq_nil (wp_condF rfl (wp_exit ?_)))))
        refine wp_seq (wp_seq (rgn (by kernel_rfl) (pu (iv 0) (by kernel_rfl) (seq_nil (wp_block ?_)))))
        refine wp_loop (fun m ρ w => Agree ρ [(2, .pointer (some ⟨b1, 0, none⟩)), (3, .pointer (some ⟨b2, 0, none⟩)), (5, .bool false), (8, iv 0)] ∧ Inv none w0 w [(some b2, blk [iv ql.lo, iv ql.hi, .slice qA1 qn1 qc1, .slice qA2 qn2 qc2, .slice qA3 qn3 qc3, iv ql.geese] 28), (some b1, blk [iv pl.lo, iv pl.hi, .slice pA1 pn1 pc1, .slice pA2 pn2 pc2, .slice pA3 pn3 pc3, iv pl.geese] 28)] ∧ m = 0) (m := 0) ⟨⟨rfl, rfl, rfl, rfl, trivial⟩, hI.pickL [0, 1] (by decide) rfl, rfl⟩ ?_
        rintro m ρ w ⟨hag, hI, hm⟩
        obtain ⟨ρ, rfl⟩ := hag.form; clear hag
        refine wp_seq (wp_seq (rgn (by kernel_rfl) (pu (iv 0) (by kernel_rfl) (pu (.pointer (some ⟨b1, 4, none⟩)) (by kernel_rfl) (seq_c (s_load1 hI 1 (.slice pA3 pn3 pc3) Tryz.isAgg26 rfl rfl rfl ?_))))))
        refine pu (iv ((pn3 : Nat) : Int)) (by kernel_rfl) (seq_c (s_lss rfl rfl ?_ ?_))
        ·intro h54
         refine pu (.bool true) (by kernel_rfl) (puo (.bool false) ⟨(by kernel_rfl), (by kernel_rfl)⟩ (pu (.bool false) (by kernel_rfl) (seq_nil (wp_condF rfl (wp_exit ?_)))))
         refine wp_seq (rgn (by kernel_rfl) (pu (.bool false) (by kernel_rfl) (pu (.bool false) (by kernel_rfl) (seq_nil (wp_ret ?_)))))
         exact ⟨.bool false, Ret.r1 rfl rfl, ⟨by refine congrArg Value.bool (Eq.symm (decide_eq_false ?_)); intro e; subst e; first | omega | (simp_all; done), hI.below⟩⟩
        ·intro h55
         refine pu (.bool false) (by kernel_rfl) (of_ (by kernel_rfl) (pu (.bool false) (by kernel_rfl) (seq_nil (wp_condF rfl (wp_exit ?_)))))
         refine wp_seq (rgn (by kernel_rfl) (pu (.bool false) (by kernel_rfl) (pu (.bool false) (by kernel_rfl) (seq_nil (wp_ret ?_)))))
         exact ⟨.bool false, Ret.r1 rfl rfl, ⟨by refine congrArg Value.bool (Eq.symm (decide_eq_false ?_)); intro e; subst e; first | omega | (simp_all; done), hI.below⟩⟩
    ·intro h56
     refine pu (.bool false) (by kernel_rfl) (pu (.bool false) (by kernel_rfl) (of_ (by kernel_rfl) (of_ (by kernel_rfl) (of_ (by kernel_rfl) (of_ (by kernel_rfl) (of_ (by kernel_rfl) (of_ (by kernel_rfl) (of_ (by kernel_rfl) (pu (.bool false) (by kernel_rfl) ?_)))))))))
     refine pu (.bool false) (by kernel_rfl) (seq_nil (wp_seq (wp_seq (rgn (by kernel_rfl) (pu (iv 0) (by kernel_rfl) (seq_nil (wp_block ?_)))))))
     refine wp_loop (fun m ρ w => Agree ρ [(2, .pointer (some ⟨b1, 0, none⟩)), (3, .pointer (some ⟨b2, 0, none⟩)), (5, .bool false), (6, iv 0)] ∧ Inv none w0 w [(some b2, blk [iv ql.lo, iv ql.hi, .slice qA1 qn1 qc1, .slice qA2 qn2 qc2, .slice qA3 qn3 qc3, iv ql.geese] 28), (some b1, blk [iv pl.lo, iv pl.hi, .slice pA1 pn1 pc1, .slice pA2 pn2 pc2, .slice pA3 pn3 pc3, iv pl.geese] 28)] ∧ m = 0) (m := 0) ⟨⟨rfl, rfl, rfl, rfl, trivial⟩, hI.pickL [0, 1] (by decide) rfl, rfl⟩ ?_
     rintro m ρ w ⟨hag, hI, hm⟩
     obtain ⟨ρ, rfl⟩ := hag.form; clear hag
     refine wp_seq (wp_seq (rgn (by kernel_rfl) (pu (iv 0) (by kernel_rfl) (pu (.pointer (some ⟨b1, 2, none⟩)) (by kernel_rfl) (seq_c (s_load1 hI 1 (.slice pA1 pn1 pc1) Tryz.isAgg24 rfl rfl rfl ?_))))))
     refine pu (iv ((pn1 : Nat) : Int)) (by kernel_rfl) (seq_c (s_lss rfl rfl ?_ ?_))
     ·intro h57
      refine pu (.bool true) (by kernel_rfl) (puo (.bool false) ⟨(by kernel_rfl), (by kernel_rfl)⟩ (pu (.bool false) (by kernel_rfl) (seq_nil (wp_condF rfl (wp_exit ?_)))))
      refine wp_seq (wp_seq (rgn (by kernel_rfl) (pu (iv 0) (by kernel_rfl) (seq_nil (wp_block ?_)))))
      refine wp_loop (fun m ρ w => Agree ρ [(2, .pointer (some ⟨b1, 0, none⟩)), (3, .pointer (some ⟨b2, 0, none⟩)), (5, .bool false), (7, iv 0)] ∧ Inv none w0 w [(some b2, blk [iv ql.lo, iv ql.hi, .slice qA1 qn1 qc1, .slice qA2 qn2 qc2, .slice qA3 qn3 qc3, iv ql.geese] 28), (some b1, blk [iv pl.lo, iv pl.hi, .slice pA1 pn1 pc1, .slice pA2 pn2 pc2, .slice pA3 pn3 pc3, iv pl.geese] 28)] ∧ m = 0) (m := 0) ⟨⟨rfl, rfl, rfl, rfl, trivial⟩, hI.pickL [0, 1] (by decide) rfl, rfl⟩ ?_
      rintro m ρ w ⟨hag, hI, hm⟩
      obtain ⟨ρ, rfl⟩ := hag.form; clear hag
      refine wp_seq (wp_seq (rgn (by kernel_rfl) (pu (iv 0) (by kernel_rfl) (pu (.pointer (some ⟨b1, 3, none⟩)) (by kernel_rfl) (seq_c (s_load1 hI 1 (.slice pA2 pn2 pc2) Tryz.isAgg25 rfl rfl rfl ?_))))))
      refine pu (iv ((pn2 : Nat) : Int)) (by kernel_rfl) (seq_c (s_lss rfl rfl ?_ ?_))
      ·intro h58
       refine pu (.bool true) (by kernel_rfl) (puo (.bool false) ⟨(by kernel_rfl), (by kernel_rfl)⟩ (pu (.bool false) (by kernel_rfl) (seq_nil (wp_condF rfl (wp_exit ?_)))))
       refine wp_seq (wp_seq (rgn (by kernel_rfl) (pu (iv 0) (by kernel_rfl) (seq_nil (wp_block ?_)))))
       refine wp_loop (fun m ρ w => Agree ρ [(2, .pointer (some ⟨b1, 0, none⟩)), (3, .pointer (some ⟨b2, 0, none⟩)), (5, .bool false), (8, iv 0)] ∧ Inv none w0 w [(some b2, blk [iv ql.lo, iv ql.hi, .slice qA1 qn1 qc1, .slice qA2 qn2 qc2, .slice qA3 qn3 qc3, iv ql.geese] 28), (some b1, blk [iv pl.lo, iv pl.hi, .slice pA1 pn1 pc1, .slice pA2 pn2 pc2, .slice pA3 pn3 pc3, iv pl.geese] 28)] ∧ m = 0) (m := 0) ⟨⟨rfl, rfl, rfl, rfl, trivial⟩, hI.pickL [0, 1] (by decide) rfl, rfl⟩ ?_
       rintro m ρ w ⟨hag, hI, hm⟩
       obtain ⟨ρ, rfl⟩ := hag.form; clear hag
       refine wp_seq (wp_seq (rgn (by kernel_rfl) (pu (iv 0) (by kernel_rfl) (pu (.pointer (some ⟨b1, 4, none⟩)) (by kernel_rfl) (seq_c (s_load1 hI 1 (.slice pA3 pn3 pc3) Tryz.isAgg26 rfl rfl rfl ?_))))))
       refine pu (iv ((pn3 : Nat) : Int)) (by kernel_rfl) (seq_c (s_lss rfl rfl ?_ ?_))
       ·intro h59
        refine pu (.bool true) (by kernel_rfl) (puo (.bool false) ⟨(by kernel_rfl), (by kernel_rfl)⟩ (pu (.bool false) (by kernel_rfl) (seq_nil (wp_condF rfl (wp_exit ?_)))))
        refine wp_seq (rgn (by kernel_rfl) (pu (.bool false) (by kernel_rfl) (pu (.bool false) (by kernel_rfl) (seq_nil (wp_ret ?_)))))
        exact ⟨.bool false, Ret.r1 rfl rfl, ⟨by refine congrArg Value.bool (Eq.symm (decide_eq_false ?_)); intro e; subst e; first | omega | (simp_all; done), hI.below⟩⟩
       ·intro h60
        refine pu (.bool false) (by kernel_rfl) (of_ (by kernel_rfl) (pu (.bool false) (by kernel_rfl) (seq_nil (wp_condF rfl (wp_exit ?_)))))
        refine wp_seq (rgn (by kernel_rfl) (pu (.bool false) (by kernel_rfl) (pu (.bool false) (by kernel_rfl) (seq_nil (wp_ret ?_)))))
        exact ⟨.bool false, Ret.r1 rfl rfl, ⟨by refine congrArg Value.bool (Eq.symm (decide_eq_false ?_)); intro e; subst e; first | omega | (simp_all; done), hI.below⟩⟩
      ·intro h61
       refine pu (.bool false) (by kernel_rfl) (of_ (by kernel_rfl) (pu (.bool false) (by kernel_rfl) (seq_nil (wp_condF rfl (wp_exit ?_)))))
       refine wp_seq (wp_seq (rgn (by kernel_rfl) (pu (iv 0) (by kernel_rfl) (seq_nil (wp_block ?_)))))
       refine wp_loop (fun m ρ w => Agree ρ [(2, .pointer (some ⟨b1, 0, none⟩)), (3, .pointer (some ⟨b2, 0, none⟩)), (5, .bool false), (8, iv 0)] ∧ Inv none w0 w [(some b2, blk [iv ql.lo, iv ql.hi, .slice qA1 qn1 qc1, .slice qA2 qn2 qc2, .slice qA3 qn3 qc3, iv ql.geese] 28), (some b1, blk [iv pl.lo, iv pl.hi, .slice pA1 pn1 pc1, .slice pA2 pn2 pc2, .slice pA3 pn3 pc3, iv pl.geese] 28)] ∧ m = 0) (m := 0) ⟨⟨rfl, rfl, rfl, rfl, trivial⟩, hI.pickL [0, 1] (by decide) rfl, rfl⟩ ?_
       rintro m ρ w ⟨hag, hI, hm⟩
       obtain ⟨ρ, rfl⟩ := hag.form; clear hag
       refine wp_seq (wp_seq (rgn (by kernel_rfl) (pu (iv 0) (by kernel_rfl) (pu (.pointer (some ⟨b1, 4, none⟩)) (by kernel_rfl) (seq_c (s_load1 hI 1 (.slice pA3 pn3 pc3) Tryz.isAgg26 rfl rfl rfl ?_))))))
       refine pu (iv ((pn3 : Nat) : Int)) (by kernel_rfl) (seq_c (s_lss rfl rfl ?_ ?_))
       ·intro h62
        refine pu (.bool true) (by kernel_rfl) (puo (.bool false) ⟨(by kernel_rfl), (by kernel_rfl)⟩ (pu (.bool false) (by kernel_rfl) (seq_nil (wp_condF rfl (wp_exit ?_)))))
        refine wp_seq (rgn (by kernel_rfl) (pu (.bool false) (by kernel_rfl) (pu (.bool false) (by kernel_rfl) (seq_nil (wp_ret ?_)))))
        exact ⟨.bool false, Ret.r1 rfl rfl, ⟨by refine congrArg Value.bool (Eq.symm (decide_eq_false ?_)); intro e; subst e; first | omega | (simp_all; done), hI.below⟩⟩
       ·intro h63
        refine pu (.bool false) (by kernel_rfl) (of_ (by kernel_rfl) (pu (.bool false) (by kernel_rfl) (seq_nil (wp_condF rfl (wp_exit ?_)))))
        refine wp_seq (rgn (by kernel_rfl) (pu (.bool false) (by kernel_rfl) (pu (.bool false) (by kernel_rfl) (seq_nil (wp_ret ?_)))))
        exact ⟨.bool false, Ret.r1 rfl rfl, ⟨by refine congrArg Value.bool (Eq.symm (decide_eq_false ?_)); intro e; subst e; first | omega | (simp_all; done), hI.below⟩⟩
     ·intro h64
      refine pu (.bool false) (by kernel_rfl) (of_ (by kernel_rfl) (pu (.bool false) (by kernel_rfl) (seq_nil (wp_condF rfl (wp_exit ?_)))))
      refine wp_seq (wp_seq (rgn (by kernel_rfl) (pu (iv 0) (by kernel_rfl) (seq_nil (wp_block ?_)))))
      refine wp_loop (fun m ρ w => Agree ρ [(2, .pointer (some ⟨b1, 0, none⟩)), (3, .pointer (some ⟨b2, 0, none⟩)), (5, .bool false), (7, iv 0)] ∧ Inv none w0 w [(some b2, blk [iv ql.lo, iv ql.hi, .slice qA1 qn1 qc1, .slice qA2 qn2 qc2, .slice qA3 qn3 qc3, iv ql.geese] 28), (some b1, blk [iv pl.lo, iv pl.hi, .slice pA1 pn1 pc1, .slice pA2 pn2 pc2, .slice pA3 pn3 pc3, iv pl.geese] 28)] ∧ m = 0) (m := 0) ⟨⟨rfl, rfl, rfl, rfl, trivial⟩, hI.pickL [0, 1] (by decide) rfl, rfl⟩ ?_
      rintro m ρ w ⟨hag, hI, hm⟩
      obtain ⟨ρ, rfl⟩ := hag.form; clear hag
      refine wp_seq (wp_seq (rgn (by kernel_rfl) (pu (iv 0) (by kernel_rfl) (pu (.pointer (some ⟨b1, 3, none⟩)) (by kernel_rfl) (seq_c (s_load1 hI 1 (.slice pA2 pn2 pc2) Tryz.isAgg25 rfl rfl rfl ?_))))))
      refine pu (iv ((pn2 : Nat) : Int)) (by kernel_rfl) (seq_c (s_lss rfl rfl ?_ ?_))
      ·intro h65
       refine pu (.bool true) (by kernel_rfl) (puo (.bool false) ⟨(by kernel_rfl), (by kernel_rfl)⟩ (pu (.bool false) (by kernel_rfl) (seq_nil (wp_condF rfl (wp_exit ?_)))))
       refine wp_seq (wp_seq (rgn (by kernel_rfl) (pu (iv 0) (by kernel_rfl) (seq_nil (wp_block ?_)))))
       refine wp_loop (fun m ρ w => Agree ρ [(2, .pointer (some ⟨b1, 0, none⟩)), (3, .pointer (some ⟨b2, 0, none⟩)), (5, .bool false), (8, iv 0)] ∧ Inv none w0 w [(some b2, blk [iv ql.lo, iv ql.hi, .slice qA1 qn1 qc1, .slice qA2 qn2 qc2, .slice qA3 qn3 qc3, iv ql.geese] 28), (some b1, blk [iv pl.lo, iv pl.hi, .slice pA1 pn1 pc1, .slice pA2 pn2 pc2, .slice pA3 pn3 pc3, iv pl.geese] 28)] ∧ m = 0) (m := 0) ⟨⟨rfl, rfl, rfl, rfl, trivial⟩, hI.pickL [0, 1] (by decide) rfl, rfl⟩ ?_
       rintro m ρ w ⟨hag, hI, hm⟩
       obtain ⟨ρ, rfl⟩ := hag.form; clear hag
       refine wp_seq (wp_seq (rgn (by kernel_rfl) (pu (iv 0) (by kernel_rfl) (pu (.pointer (some ⟨b1, 4, none⟩)) (by kernel_rfl) (seq_c (s_load1 hI 1 (.slice pA3 pn3 pc3) Tryz.isAgg26 rfl rfl rfl ?_))))))
       refine pu (iv ((pn3 : Nat) : Int)) (by kernel_rfl) (seq_c (s_lss rfl rfl ?_ ?_))
       ·intro h66
        refine pu (.bool true) (by kernel_rfl) (puo (.bool false) ⟨(by kernel_rfl), (by kernel_rfl)⟩ (pu (.bool false) (by kernel_rfl) (seq_nil (wp_condF rfl (wp_exit ?_)))))
        refine wp_seq (rgn (by kernel_rfl) (pu (.bool false) (by kernel_rfl) (pu (.bool false) (by kernel_rfl) (seq_nil (wp_ret ?_)))))
        exact ⟨.bool false, Ret.r1 rfl rfl, ⟨by refine congrArg Value.bool (Eq.symm (decide_eq_false ?_)); intro e; subst e; first | omega | (simp_all; done), hI.below⟩⟩
       ·intro h67
        refine pu (.bool false) (by kernel_rfl) (of_ (by kernel_rfl) (pu (.bool false) (by kernel_rfl) (seq_nil (wp_condF rfl (wp_exit ?_)))))
        refine wp_seq (rgn (by kernel_rfl) (pu (.bool false) (by kernel_rfl) (pu (.bool false) (by kernel_rfl) (seq_nil (wp_ret ?_)))))
        exact ⟨.bool false, Ret.r1 rfl rfl, ⟨by refine congrArg Value.bool (Eq.symm (decide_eq_false ?_)); intro e; subst e; first | omega | (simp_all; done), hI.below⟩⟩
      ·intro h68
       refine pu (.bool false) (by kernel_rfl) (of_ (by kernel_rfl) (pu (.bool false) (by kernel_rfl) (seq_nil (wp_condF rfl (wp_exit ?_)))))
       refine wp_seq (wp_seq (rgn (by kernel_rfl) (pu (iv 0) (by kernel_rfl) (seq_nil (wp_block ?_)))))
       refine wp_loop (fun m ρ w => Agree ρ [(2, .pointer (some ⟨b1, 0, none⟩)), (3, .pointer (some ⟨b2, 0, none⟩)), (5, .bool false), (8, iv 0)] ∧ Inv none w0 w [(some b2, blk [iv ql.lo, iv ql.hi, .slice qA1 qn1 qc1, .slice qA2 qn2 qc2, .slice qA3 qn3 qc3, iv ql.geese] 28), (some b1, blk [iv pl.lo, iv pl.hi, .slice pA1 pn1 pc1, .slice pA2 pn2 pc2, .slice pA3 pn3 pc3, iv pl.geese] 28)] ∧ m = 0) (m := 0) ⟨⟨rfl, rfl, rfl, rfl, trivial⟩, hI.pickL [0, 1] (by decide) rfl, rfl⟩ ?_
       rintro m ρ w ⟨hag, hI, hm⟩
       obtain ⟨ρ, rfl⟩ := hag.form; clear hag
       refine wp_seq (wp_seq (rgn (by kernel_rfl) (pu (iv 0) (by kernel_rfl) (pu (.pointer (some ⟨b1, 4, none⟩)) (by kernel_rfl) (seq_c (s_load1 hI 1 (.slice pA3 pn3 pc3) Tryz.isAgg26 rfl rfl rfl ?_))))))
       refine pu (iv ((pn3 : Nat) : Int)) (by kernel_rfl) (seq_c (s_lss rfl rfl ?_ ?_))
       ·intro h69
        refine pu (.bool true) (by kernel_rfl) (puo (.bool false) ⟨(by kernel_rfl), (by kernel_rfl)⟩ (pu (.bool false) (by kernel_rfl) (seq_nil (wp_condF rfl (wp_exit ?_)))))
        refine wp_seq (rgn (by kernel_rfl) (pu (.bool false) (by kernel_rfl) (pu (.bool false) (by kernel_rfl) (seq_nil (wp_ret ?_)))))
        exact ⟨.bool false, Ret.r1 rfl rfl, ⟨by refine congrArg Value.bool (Eq.symm (decide_eq_false ?_)); intro e; subst e; first | omega | (simp_all; done), hI.below⟩⟩
       ·intro h70
        refine pu (.bool false) (by kernel_rfl) (of_ (by kernel_rfl) (pu (.bool false) (by kernel_rfl) (seq_nil (wp_condF rfl (wp_exit ?_)))))
        refine wp_seq (rgn (by kernel_rfl) (pu (.bool false) (by kernel_rfl) (pu (.bool false) (by kernel_rfl) (seq_nil (wp_ret ?_)))))
        exact ⟨.bool false, Ret.r1 rfl rfl, ⟨by refine congrArg Value.bool (Eq.symm (decide_eq_false ?_)); intro e; subst e; first | omega | (simp_all; done), hI.below⟩⟩
   ·intro h71
    refine pu (.bool false) (by kernel_rfl) (pu (.bool false) (by kernel_rfl) (of_ (by kernel_rfl) (of_ (by kernel_rfl) (of_ (by kernel_rfl) (of_ (by kernel_rfl) (of_ (by kernel_rfl) (of_ (by kernel_rfl) (of_ (by kernel_rfl) (pu (.bool false) (by kernel_rfl) ?_)))))))))
    refine pu (.bool false) (by kernel_rfl) (of_ (by kernel_rfl) (of_ (by kernel_rfl) (of_ (by kernel_rfl) (of_ (by kernel_rfl) (of_ (by kernel_rfl) (of_ (by kernel_rfl) (of_ (by kernel_rfl) (pu (.bool false) (by kernel_rfl) (pu (.bool false) (by kernel_rfl) ?_)))))))))
    refine seq_nil (wp_seq (wp_seq (rgn (by kernel_rfl) (pu (iv 0) (by kernel_rfl) (seq_nil (wp_block ?_))))))
    refine wp_loop (fun m ρ w => Agree ρ [(2, .pointer (some ⟨b1, 0, none⟩)), (3, .pointer (some ⟨b2, 0, none⟩)), (5, .bool false), (6, iv 0)] ∧ Inv none w0 w [(some b2, blk [iv ql.lo, iv ql.hi, .slice qA1 qn1 qc1, .slice qA2 qn2 qc2, .slice qA3 qn3 qc3, iv ql.geese] 28), (some b1, blk [iv pl.lo, iv pl.hi, .slice pA1 pn1 pc1, .slice pA2 pn2 pc2, .slice pA3 pn3 pc3, iv pl.geese] 28)] ∧ m = 0) (m := 0) ⟨⟨rfl, rfl, rfl, rfl, trivial⟩, hI.pickL [0, 1] (by decide) rfl, rfl⟩ ?_
    rintro m ρ w ⟨hag, hI, hm⟩
    obtain ⟨ρ, rfl⟩ := hag.form; clear hag
    refine wp_seq (wp_seq (rgn (by kernel_rfl) (pu (iv 0) (by kernel_rfl) (pu (.pointer (some ⟨b1, 2, none⟩)) (by kernel_rfl) (seq_c (s_load1 hI 1 (.slice pA1 pn1 pc1) Tryz.isAgg24 rfl rfl rfl ?_))))))
    refine pu (iv ((pn1 : Nat) : Int)) (by kernel_rfl) (seq_c (s_lss rfl rfl ?_ ?_))
    ·intro h72
     refine pu (.bool true) (by kernel_rfl) (puo (.bool false) ⟨(by kernel_rfl), (by kernel_rfl)⟩ (pu (.bool false) (by kernel_rfl) (seq_nil (wp_condF rfl (wp_exit ?_)))))
     refine wp_seq (wp_seq (rgn (by kernel_rfl) (pu (iv 0) (by kernel_rfl) (seq_nil (wp_block ?_)))))
     refine wp_loop (fun m ρ w => Agree ρ [(2, .pointer (some ⟨b1, 0, none⟩)), (3, .pointer (some ⟨b2, 0, none⟩)), (5, .bool false), (7, iv 0)] ∧ Inv none w0 w [(some b2, blk [iv ql.lo, iv ql.hi, .slice qA1 qn1 qc1, .slice qA2 qn2 qc2, .slice qA3 qn3 qc3, iv ql.geese] 28), (some b1, blk [iv pl.lo, iv pl.hi, .slice pA1 pn1 pc1, .slice pA2 pn2 pc2, .slice pA3 pn3 pc3, iv pl.geese] 28)] ∧ m = 0) (m := 0) ⟨⟨rfl, rfl, rfl, rfl, trivial⟩, hI.pickL [0, 1] (by decide) rfl, rfl⟩ ?_
     rintro m ρ w ⟨hag, hI, hm⟩
     obtain ⟨ρ, rfl⟩ := hag.form; clear hag
     refine wp_seq (wp_seq (rgn (by kernel_rfl) (pu (iv 0) (by kernel_rfl) (pu (.pointer (some ⟨b1, 3, none⟩)) (by kernel_rfl) (seq_c (s_load1 hI 1 (.slice pA2 pn2 pc2) Tryz.isAgg25 rfl rfl rfl ?_))))))
     refine pu (iv ((pn2 : Nat) : Int)) (by kernel_rfl) (seq_c (s_lss rfl rfl ?_ ?_))
     ·intro h73
      refine pu (.bool true) (by kernel_rfl) (puo (.bool false) ⟨(by kernel_rfl), (by kernel_rfl)⟩ (pu (.bool false) (by kernel_rfl) (seq_nil (wp_condF rfl (wp_exit ?_)))))
      refine wp_seq (wp_seq (rgn (by kernel_rfl) (pu (iv 0) (by kernel_rfl) (seq_nil (wp_block ?_)))))
      refine wp_loop (fun m ρ w => Agree ρ [(2, .pointer (some ⟨b1, 0, none⟩)), (3, .pointer (some ⟨b2, 0, none⟩)), (5, .bool false), (8, iv 0)] ∧ Inv none w0 w [(some b2, blk [iv ql.lo, iv ql.hi, .slice qA1 qn1 qc1, .slice qA2 qn2 qc2, .slice qA3 qn3 qc3, iv ql.geese] 28), (some b1, blk [iv pl.lo, iv pl.hi, .slice pA1 pn1 pc1, .slice pA2 pn2 pc2, .slice pA3 pn3 pc3, iv pl.geese] 28)] ∧ m = 0) (m := 0) ⟨⟨rfl, rfl, rfl, rfl, trivial⟩, hI.pickL [0, 1] (by decide) rfl, rfl⟩ ?_
      rintro m ρ w ⟨hag, hI, hm⟩
      obtain ⟨ρ, rfl⟩ := hag.form; clear hag
      refine wp_seq (wp_seq (rgn (by kernel_rfl) (pu (iv 0) (by kernel_rfl) (pu (.pointer (some ⟨b1, 4, none⟩)) (by kernel_rfl) (seq_c (s_load1 hI 1 (.slice pA3 pn3 pc3) Tryz.isAgg26 rfl rfl rfl ?_))))))
      refine pu (iv ((pn3 : Nat) : Int)) (by kernel_rfl) (seq_c (s_lss rfl rfl ?_ ?_))
      ·intro h74
       refine pu (.bool true) (by kernel_rfl) (puo (.bool false) ⟨(by kernel_rfl), (by kernel_rfl)⟩ (pu (.bool false) (by kernel_rfl) (seq_nil (wp_condF rfl (wp_exit ?_)))))
       refine wp_seq (rgn (by kernel_rfl) (pu (.bool false) (by kernel_rfl) (pu (.bool false) (by kernel_rfl) (seq_nil (wp_ret ?_)))))
       exact ⟨.bool false, Ret.r1 rfl rfl, ⟨by refine congrArg Value.bool (Eq.symm (decide_eq_false ?_)); intro e; subst e; first | omega | (simp_all; done), hI.below⟩⟩
      ·intro h75
       refine pu (.bool false) (by kernel_rfl) (of_ (by kernel_rfl) (pu (.bool false) (by kernel_rfl) (seq_nil (wp_condF rfl (wp_exit ?_)))))
       refine wp_seq (rgn (by kernel_rfl) (pu (.bool false) (by kernel_rfl) (pu (.bool false) (by kernel_rfl) (seq_nil (wp_ret ?_)))))
       exact ⟨.bool false, Ret.r1 rfl rfl, ⟨by refine congrArg Value.bool (Eq.symm (decide_eq_false ?_)); intro e; subst e; first | omega | (simp_all; done), hI.below⟩⟩
     ·intro h76
      refine pu (.bool false) (by kernel_rfl) (of_ (by kernel_rfl) (pu (.bool false) (by kernel_rfl) (seq_nil (wp_condF rfl (wp_exit ?_)))))
      refine wp_seq (wp_seq (rgn (by kernel_rfl) (pu (iv 0) (by kernel_rfl) (seq_nil (wp_block ?_)))))
      refine wp_loop (fun m ρ w => Agree ρ [(2, .pointer (some ⟨b1, 0, none⟩)), (3, .pointer (some ⟨b2, 0, none⟩)), (5, .bool false), (8, iv 0)] ∧ Inv none w0 w [(some b2, blk [iv ql.lo, iv ql.hi, .slice qA1 qn1 qc1, .slice qA2 qn2 qc2, .slice qA3 qn3 qc3, iv ql.geese] 28), (some b1, blk [iv pl.lo, iv pl.hi, .slice pA1 pn1 pc1, .slice pA2 pn2 pc2, .slice pA3 pn3 pc3, iv pl.geese] 28)] ∧ m = 0) (m := 0) ⟨⟨rfl, rfl, rfl, rfl, trivial⟩, hI.pickL [0, 1] (by decide) rfl, rfl⟩ ?_
      rintro m ρ w ⟨hag, hI, hm⟩
      obtain ⟨ρ, rfl⟩ := hag.form; clear hag
      refine wp_seq (wp_seq (rgn (by kernel_rfl) (pu (iv 0) (by kernel_rfl) (pu (.pointer (some ⟨b1, 4, none⟩)) (by kernel_rfl) (seq_c (s_load1 hI 1 (.slice pA3 pn3 pc3) Tryz.isAgg26 rfl rfl rfl ?_))))))
      refine pu (iv ((pn3 : Nat) : Int)) (by kernel_rfl) (seq_c (s_lss rfl rfl ?_ ?_))
      ·intro h77
       refine pu (.bool true) (by kernel_rfl) (puo (.bool false) ⟨(by kernel_rfl), (by kernel_rfl)⟩ (pu (.bool false) (by kernel_rfl) (seq_nil (wp_condF rfl (wp_exit ?_)))))
       refine wp_seq (rgn (by kernel_rfl) (pu (.bool false) (by kernel_rfl) (pu (.bool false) (by kernel_rfl) (seq_nil (wp_ret ?_)))))
       exact ⟨.bool false, Ret.r1 rfl rfl, ⟨by refine congrArg Value.bool (Eq.symm (decide_eq_false ?_)); intro e; subst e; first | omega | (simp_all; done), hI.below⟩⟩
      ·intro h78
       refine pu (.bool false) (by kernel_rfl) (of_ (by kernel_rfl) (pu (.bool false) (by kernel_rfl) (seq_nil (wp_condF rfl (wp_exit ?_)))))
       refine wp_seq (rgn (by kernel_rfl) (pu (.bool false) (by kernel_rfl) (pu (.bool false) (by kernel_rfl) (seq_nil (wp_ret ?_)))))
       exact ⟨.bool false, Ret.r1 rfl rfl, ⟨by refine congrArg Value.bool (Eq.symm (decide_eq_false ?_)); intro e; subst e; first | omega | (simp_all; done), hI.below⟩⟩
    ·intro h79
     refine pu (.bool false) (by kernel_rfl) (of_ (by kernel_rfl) (pu (.bool false) (by kernel_rfl) (seq_nil (wp_condF rfl (wp_exit ?_)))))
     refine wp_seq (wp_seq (rgn (by kernel_rfl) (pu (iv 0) (by kernel_rfl) (seq_nil (wp_block ?_)))))
     refine wp_loop (fun m ρ w => Agree ρ [(2, .pointer (some ⟨b1, 0, none⟩)), (3, .pointer (some ⟨b2, 0, none⟩)), (5, .bool false), (7, iv 0)] ∧ Inv none w0 w [(some b2, blk [iv ql.lo, iv ql.hi, .slice qA1 qn1 qc1, .slice qA2 qn2 qc2, .slice qA3 qn3 qc3, iv ql.geese] 28), (some b1, blk [iv pl.lo, iv pl.hi, .slice pA1 pn1 pc1, .slice pA2 pn2 pc2, .slice pA3 pn3 pc3, iv pl.geese] 28)] ∧ m = 0) (m := 0) ⟨⟨rfl, rfl, rfl, rfl, trivial⟩, hI.pickL [0, 1] (by decide) rfl, rfl⟩ ?_
     rintro m ρ w ⟨hag, hI, hm⟩
     obtain ⟨ρ, rfl⟩ := hag.form; clear hag
     refine wp_seq (wp_seq (rgn (by kernel_rfl) (pu (iv 0) (by kernel_rfl) (pu (.pointer (some ⟨b1, 3, none⟩)) (by kernel_rfl) (seq_c (s_load1 hI 1 (.slice pA2 pn2 pc2) Tryz.isAgg25 rfl rfl rfl ?_))))))
     refine pu (iv ((pn2 : Nat) : Int)) (by kernel_rfl) (seq_c (s_lss rfl rfl ?_ ?_))
     ·intro h80
      refine pu (.bool true) (by kernel_rfl) (puo (.bool false) ⟨(by kernel_rfl), (by kernel_rfl)⟩ (pu (.bool false) (by kernel_rfl) (seq_nil (wp_condF rfl (wp_exit ?_)))))
      refine wp_seq (wp_seq (rgn (by kernel_rfl) (pu (iv 0) (by kernel_rfl) (seq_nil (wp_block ?_)))))
      refine wp_loop (fun m ρ w => Agree ρ [(2, .pointer (some ⟨b1, 0, none⟩)), (3, .pointer (some ⟨b2, 0, none⟩)), (5, .bool false), (8, iv 0)] ∧ Inv none w0 w [(some b2, blk [iv ql.lo, iv ql.hi, .slice qA1 qn1 qc1, .slice qA2 qn2 qc2, .slice qA3 qn3 qc3, iv ql.geese] 28), (some b1, blk [iv pl.lo, iv pl.hi, .slice pA1 pn1 pc1, .slice pA2 pn2 pc2, .slice pA3 pn3 pc3, iv pl.geese] 28)] ∧ m = 0) (m := 0) ⟨⟨rfl, rfl, rfl, rfl, trivial⟩, hI.pickL [0, 1] (by decide) rfl, rfl⟩ ?_
      rintro m ρ w ⟨hag, hI, hm⟩
      obtain ⟨ρ, rfl⟩ := hag.form; clear hag
      refine wp_seq (wp_seq (rgn (by kernel_rfl) (pu (iv 0) (by kernel_rfl) (pu (.pointer (some ⟨b1, 4, none⟩)) (by kernel_rfl) (seq_c (s_load1 hI 1 (.slice pA3 pn3 pc3) Tryz.isAgg26 rfl rfl rfl ?_))))))
      refine pu (iv ((pn3 : Nat) : Int)) (by kernel_rfl) (seq_c (s_lss rfl rfl ?_ ?_))
      ·intro h81
       refine pu (.bool true) (by kernel_rfl) (puo (.bool false) ⟨(by kernel_rfl), (by kernel_rfl)⟩ (pu (.bool false) (by kernel_rfl) (seq_nil (wp_condF rfl (wp_exit ?_)))))
       refine wp_seq (rgn (by kernel_rfl) (pu (.bool false) (by kernel_rfl) (pu (.bool false) (by kernel_rfl) (seq_nil (wp_ret ?_)))))
       exact ⟨.bool false, Ret.r1 rfl rfl, ⟨by refine congrArg Value.bool (Eq.symm (decide_eq_false ?_)); intro e; subst e; first | omega | (simp_all; done), hI.below⟩⟩
      ·intro h82
       refine pu (.bool false) (by kernel_rfl) (of_ (by kernel_rfl) (pu (.bool false) (by kernel_rfl) (seq_nil (wp_condF rfl (wp_exit ?_)))))
       refine wp_seq (rgn (by kernel_rfl) (pu (.bool false) (by kernel_rfl) (pu (.bool false) (by kernel_rfl) (seq_nil (wp_ret ?_)))))
       exact ⟨.bool false, Ret.r1 rfl rfl, ⟨by refine congrArg Value.bool (Eq.symm (decide_eq_false ?_)); intro e; subst e; first | omega | (simp_all; done), hI.below⟩⟩
     ·intro h83
      refine pu (.bool false) (by kernel_rfl) (of_ (by kernel_rfl) (pu (.bool false) (by kernel_rfl) (seq_nil (wp_condF rfl (wp_exit ?_)))))
      refine wp_seq (wp_seq (rgn (by kernel_rfl) (pu (iv 0) (by kernel_rfl) (seq_nil (wp_block ?_)))))
      refine wp_loop (fun m ρ w => Agree ρ [(2, .pointer (some ⟨b1, 0, none⟩)), (3, .pointer (some ⟨b2, 0, none⟩)), (5, .bool false), (8, iv 0)] ∧ Inv none w0 w [(some b2, blk [iv ql.lo, iv ql.hi, .slice qA1 qn1 qc1, .slice qA2 qn2 qc2, .slice qA3 qn3 qc3, iv ql.geese] 28), (some b1, blk [iv pl.lo, iv pl.hi, .slice pA1 pn1 pc1, .slice pA2 pn2 pc2, .slice pA3 pn3 pc3, iv pl.geese] 28)] ∧ m = 0) (m := 0) ⟨⟨rfl, rfl, rfl, rfl, trivial⟩, hI.pickL [0, 1] (by decide) rfl, rfl⟩ ?_
      rintro m ρ w ⟨hag, hI, hm⟩
      obtain ⟨ρ, rfl⟩ := hag.form; clear hag
      refine wp_seq (wp_seq (rgn (by kernel_rfl) (pu (iv 0) (by kernel_rfl) (pu (.pointer (some ⟨b1, 4, none⟩)) (by kernel_rfl) (seq_c (s_load1 hI 1 (.slice pA3 pn3 pc3) Tryz.isAgg26 rfl rfl rfl ?_))))))
      refine pu (iv ((pn3 : Nat) : Int)) (by kernel_rfl) (seq_c (s_lss rfl rfl ?_ ?_))
      ·intro h84
       refine pu (.bool true) (by kernel_rfl) (puo (.bool false) ⟨(by kernel_rfl), (by kernel_rfl)⟩ (pu (.bool false) (by kernel_rfl) (seq_nil (wp_condF rfl (wp_exit ?_)))))
       refine wp_seq (rgn (by kernel_rfl) (pu (.bool false) (by kernel_rfl) (pu (.bool false) (by kernel_rfl) (seq_nil (wp_ret ?_)))))
       exact ⟨.bool false, Ret.r1 rfl rfl, ⟨by refine congrArg Value.bool (Eq.symm (decide_eq_false ?_)); intro e; subst e; first | omega | (simp_all; done), hI.below⟩⟩
      ·intro h85
       refine pu (.bool false) (by kernel_rfl) (of_ (by kernel_rfl) (pu (.bool false) (by kernel_rfl) (seq_nil (wp_condF rfl (wp_exit ?_)))))
       refine wp_seq (rgn (by kernel_rfl) (pu (.bool false) (by kernel_rfl) (pu (.bool false) (by kernel_rfl) (seq_nil (wp_ret ?_)))))
       exact ⟨.bool false, Ret.r1 rfl rfl, ⟨by refine congrArg Value.bool (Eq.symm (decide_eq_false ?_)); intro e; subst e; first | omega | (simp_all; done), hI.below⟩⟩
  ·intro h86
   refine pu (.bool false) (by kernel_rfl) (pu (.bool false) (by kernel_rfl) (of_ (by kernel_rfl) (of_ (by kernel_rfl) (of_ (by kernel_rfl) (of_ (by kernel_rfl) (of_ (by kernel_rfl) (of_ (by kernel_rfl) (of_ (by kernel_rfl) (pu (.bool false) (by kernel_rfl) ?_)))))))))
   refine pu (.bool false) (by kernel_rfl) (of_ (by kernel_rfl) (of_ (by kernel_rfl) (of_ (by kernel_rfl) (of_ (by kernel_rfl) (of_ (by kernel_rfl) (of_ (by kernel_rfl) (of_ (by kernel_rfl) (pu (.bool false) (by kernel_rfl) (pu (.bool false) (by kernel_rfl) ?_)))))))))
   refine of_ (by kernel_rfl) (of_ (by kernel_rfl) (of_ (by kernel_rfl) (of_ (by kernel_rfl) (of_ (by kernel_rfl) (of_ (by kernel_rfl) (of_ (by kernel_rfl) (pu (.bool false) (by kernel_rfl) (pu (.bool false) (by kernel_rfl) (seq_nil ?_)))))))))
   refine wp_seq (wp_seq (rgn (by kernel_rfl) (pu (iv 0) (by kernel_rfl) (seq_nil (wp_block ?_)))))
   refine wp_loop (fun m ρ w => Agree ρ [(2, .pointer (some ⟨b1, 0, none⟩)), (3, .pointer (some ⟨b2, 0, none⟩)), (5, .bool false), (6, iv 0)] ∧ Inv none w0 w [(some b2, blk [iv ql.lo, iv ql.hi, .slice qA1 qn1 qc1, .slice qA2 qn2 qc2, .slice qA3 qn3 qc3, iv ql.geese] 28), (some b1, blk [iv pl.lo, iv pl.hi, .slice pA1 pn1 pc1, .slice pA2 pn2 pc2, .slice pA3 pn3 pc3, iv pl.geese] 28)] ∧ m = 0) (m := 0) ⟨⟨rfl, rfl, rfl, rfl, trivial⟩, hI.pickL [0, 1] (by decide) rfl, rfl⟩ ?_
   rintro m ρ w ⟨hag, hI, hm⟩
   obtain ⟨ρ, rfl⟩ := hag.form; clear hag
   refine wp_seq (wp_seq (rgn (by kernel_rfl) (pu (iv 0) (by kernel_rfl) (pu (.pointer (some ⟨b1, 2, none⟩)) (by kernel_rfl) (seq_c (s_load1 hI 1 (.slice pA1 pn1 pc1) Tryz.isAgg24 rfl rfl rfl ?_))))))
   refine pu (iv ((pn1 : Nat) : Int)) (by kernel_rfl) (seq_c (s_lss rfl rfl ?_ ?_))
   ·intro h87
    refine pu (.bool true) (by kernel_rfl) (puo (.bool false) ⟨(by kernel_rfl), (by kernel_rfl)⟩ (pu (.bool false) (by kernel_rfl) (seq_nil (wp_condF rfl (wp_exit ?_)))))
    refine wp_seq (wp_seq (rgn (by kernel_rfl) (pu (iv 0) (by kernel_rfl) (seq_nil (wp_block ?_)))))
    refine wp_loop (fun m ρ w => Agree ρ [(2, .pointer (some ⟨b1, 0, none⟩)), (3, .pointer (some ⟨b2, 0, none⟩)), (5, .bool false), (7, iv 0)] ∧ Inv none w0 w [(some b2, blk [iv ql.lo, iv ql.hi, .slice qA1 qn1 qc1, .slice qA2 qn2 qc2, .slice qA3 qn3 qc3, iv ql.geese] 28), (some b1, blk [iv pl.lo, iv pl.hi, .slice pA1 pn1 pc1, .slice pA2 pn2 pc2, .slice pA3 pn3 pc3, iv pl.geese] 28)] ∧ m = 0) (m := 0) ⟨⟨rfl, rfl, rfl, rfl, trivial⟩, hI.pickL [0, 1] (by decide) rfl, rfl⟩ ?_
    rintro m ρ w ⟨hag, hI, hm⟩
    obtain ⟨ρ, rfl⟩ := hag.form; clear hag
    refine wp_seq (wp_seq (rgn (by kernel_rfl) (pu (iv 0) (by kernel_rfl) (pu (.pointer (some ⟨b1, 3, none⟩)) (by kernel_rfl) (seq_c (s_load1 hI 1 (.slice pA2 pn2 pc2) Tryz.isAgg25 rfl rfl rfl ?_))))))
    refine pu (iv ((pn2 : Nat) : Int)) (by kernel_rfl) (seq_c (s_lss rfl rfl ?_ ?_))
    ·intro h88
     refine pu (.bool true) (by kernel_rfl) (puo (.bool false) ⟨(by kernel_rfl), (by kernel_rfl)⟩ (pu (.bool false) (by kernel_rfl) (seq_nil (wp_condF rfl (wp_exit ?_)))))
     refine wp_seq (wp_seq (rgn (by kernel_rfl) (pu (iv 0) (by kernel_rfl) (seq_nil (wp_block ?_)))))
     refine wp_loop (fun m ρ w => Agree ρ [(2, .pointer (some ⟨b1, 0, none⟩)), (3, .pointer (some ⟨b2, 0, none⟩)), (5, .bool false), (8, iv 0)] ∧ Inv none w0 w [(some b2, blk [iv ql.lo, iv ql.hi, .slice qA1 qn1 qc1, .slice qA2 qn2 qc2, .slice qA3 qn3 qc3, iv ql.geese] 28), (some b1, blk [iv pl.lo, iv pl.hi, .slice pA1 pn1 pc1, .slice pA2 pn2 pc2, .slice pA3 pn3 pc3, iv pl.geese] 28)] ∧ m = 0) (m := 0) ⟨⟨rfl, rfl, rfl, rfl, trivial⟩, hI.pickL [0, 1] (by decide) rfl, rfl⟩ ?_
     rintro m ρ w ⟨hag, hI, hm⟩
     obtain ⟨ρ, rfl⟩ := hag.form; clear hag
     refine wp_seq (wp_seq (rgn (by kernel_rfl) (pu (iv 0) (by kernel_rfl) (pu (.pointer (some ⟨b1, 4, none⟩)) (by kernel_rfl) (seq_c (s_load1 hI 1 (.slice pA3 pn3 pc3) Tryz.isAgg26 rfl rfl rfl ?_))))))
     refine pu (iv ((pn3 : Nat) : Int)) (by kernel_rfl) (seq_c (s_lss rfl rfl ?_ ?_))
     ·intro h89
      refine pu (.bool true) (by kernel_rfl) (puo (.bool false) ⟨(by kernel_rfl), (by kernel_rfl)⟩ (pu (.bool false) (by kernel_rfl) (seq_nil (wp_condF rfl (wp_exit ?_)))))
      refine wp_seq (rgn (by kernel_rfl) (pu (.bool false) (by kernel_rfl) (pu (.bool false) (by kernel_rfl) (seq_nil (wp_ret ?_)))))
      exact ⟨.bool false, Ret.r1 rfl rfl, ⟨by refine congrArg Value.bool (Eq.symm (decide_eq_false ?_)); intro e; subst e; first | omega | (simp_all; done), hI.below⟩⟩
     ·intro h90
      refine pu (.bool false) (by kernel_rfl) (of_ (by kernel_rfl) (pu (.bool false) (by kernel_rfl) (seq_nil (wp_condF rfl (wp_exit ?_)))))
      refine wp_seq (rgn (by kernel_rfl) (pu (.bool false) (by kernel_rfl) (pu (.bool false) (by kernel_rfl) (seq_nil (wp_ret ?_)))))
      exact ⟨.bool false, Ret.r1 rfl rfl, ⟨by refine congrArg Value.bool (Eq.symm (decide_eq_false ?_)); intro e; subst e; first | omega | (simp_all; done), hI.below⟩⟩
    ·intro h91
     refine pu (.bool false) (by kernel_rfl) (of_ (by kernel_rfl) (pu (.bool false) (by kernel_rfl) (seq_nil (wp_condF rfl (wp_exit ?_)))))
     refine wp_seq (wp_seq (rgn (by kernel_rfl) (pu (iv 0) (by kernel_rfl) (seq_nil (wp_block ?_)))))
     refine wp_loop (fun m ρ w => Agree ρ [(2, .pointer (some ⟨b1, 0, none⟩)), (3, .pointer (some ⟨b2, 0, none⟩)), (5, .bool false), (8, iv 0)] ∧ Inv none w0 w [(some b2, blk [iv ql.lo, iv ql.hi, .slice qA1 qn1 qc1, .slice qA2 qn2 qc2, .slice qA3 qn3 qc3, iv ql.geese] 28), (some b1, blk [iv pl.lo, iv pl.hi, .slice pA1 pn1 pc1, .slice pA2 pn2 pc2, .slice pA3 pn3 pc3, iv pl.geese] 28)] ∧ m = 0) (m := 0) ⟨⟨rfl, rfl, rfl, rfl, trivial⟩, hI.pickL [0, 1] (by decide) rfl, rfl⟩ ?_
     rintro m ρ w ⟨hag, hI, hm⟩
     obtain ⟨ρ, rfl⟩ := hag.form; clear hag
     refine wp_seq (wp_seq (rgn (by kernel_rfl) (pu (iv 0) (by kernel_rfl) (pu (.pointer (some ⟨b1, 4, none⟩)) (by kernel_rfl) (seq_c (s_load1 hI 1 (.slice pA3 pn3 pc3) Tryz.isAgg26 rfl rfl rfl ?_))))))
     refine pu (iv ((pn3 : Nat) : Int)) (by kernel_rfl) (seq_c (s_lss rfl rfl ?_ ?_))
     ·intro h92
      refine pu (.bool true) (by kernel_rfl) (puo (.bool false) ⟨(by kernel_rfl), (by kernel_rfl)⟩ (pu (.bool false) (by kernel_rfl) (seq_nil (wp_condF rfl (wp_exit ?_)))))
      refine wp_seq (rgn (by kernel_rfl) (pu (.bool false) (by kernel_rfl) (pu (.bool false) (by kernel_rfl) (seq_nil (wp_ret ?_)))))
      exact ⟨.bool false, Ret.r1 rfl rfl, ⟨by refine congrArg Value.bool (Eq.symm (decide_eq_false ?_)); intro e; subst e; first | omega | (simp_all; done), hI.below⟩⟩
     ·intro h93
      refine pu (.bool false) (by kernel_rfl) (of_ (by kernel_rfl) (pu (.bool false) (by kernel_rfl) (seq_nil (wp_condF rfl (wp_exit ?_)))))
      refine wp_seq (rgn (by kernel_rfl) (pu (.bool false) (by kernel_rfl) (pu (.bool false) (by kernel_rfl) (seq_nil (wp_ret ?_)))))
      exact ⟨.bool false, Ret.r1 rfl rfl, ⟨by refine congrArg Value.bool (Eq.symm (decide_eq_false ?_)); intro e; subst e; first | omega | (simp_all; done), hI.below⟩⟩
   ·intro h94
    refine pu (.bool false) (by kernel_rfl) (of_ (by kernel_rfl) (pu (.bool false) (by kernel_rfl) (seq_nil (wp_condF rfl (wp_exit ?_)))))
    refine wp_seq (wp_seq (rgn (by kernel_rfl) (pu (iv 0) (by kernel_rfl) (seq_nil (wp_block ?_)))))
    refine wp_loop (fun m ρ w => Agree ρ [(2, .pointer (some ⟨b1, 0, none⟩)), (3, .pointer (some ⟨b2, 0, none⟩)), (5, .bool false), (7, iv 0)] ∧ Inv none w0 w [(some b2, blk [iv ql.lo, iv ql.hi, .slice qA1 qn1 qc1, .slice qA2 qn2 qc2, .slice qA3 qn3 qc3, iv ql.geese] 28), (some b1, blk [iv pl.lo, iv pl.hi, .slice pA1 pn1 pc1, .slice pA2 pn2 pc2, .slice pA3 pn3 pc3, iv pl.geese] 28)] ∧ m = 0) (m := 0) ⟨⟨rfl, rfl, rfl, rfl, trivial⟩, hI.pickL [0, 1] (by decide) rfl, rfl⟩ ?_
    rintro m ρ w ⟨hag, hI, hm⟩
    obtain ⟨ρ, rfl⟩ := hag.form; clear hag
    refine wp_seq (wp_seq (rgn (by kernel_rfl) (pu (iv 0) (by kernel_rfl) (pu (.pointer (some ⟨b1, 3, none⟩)) (by kernel_rfl) (seq_c (s_load1 hI 1 (.slice pA2 pn2 pc2) Tryz.isAgg25 rfl rfl rfl ?_))))))
    refine pu (iv ((pn2 : Nat) : Int)) (by kernel_rfl) (seq_c (s_lss rfl rfl ?_ ?_))
    ·intro h95
     refine pu (.bool true) (by kernel_rfl) (puo (.bool false) ⟨(by kernel_rfl), (by kernel_rfl)⟩ (pu (.bool false) (by kernel_rfl) (seq_nil (wp_condF rfl (wp_exit ?_)))))
     refine wp_seq (wp_seq (rgn (by kernel_rfl) (pu (iv 0) (by kernel_rfl) (seq_nil (wp_block ?_)))))
     refine wp_loop (fun m ρ w => Agree ρ [(2, .pointer (some ⟨b1, 0, none⟩)), (3, .pointer (some ⟨b2, 0, none⟩)), (5, .bool false), (8, iv 0)] ∧ Inv none w0 w [(some b2, blk [iv ql.lo, iv ql.hi, .slice qA1 qn1 qc1, .slice qA2 qn2 qc2, .slice qA3 qn3 qc3, iv ql.geese] 28), (some b1, blk [iv pl.lo, iv pl.hi, .slice pA1 pn1 pc1, .slice pA2 pn2 pc2, .slice pA3 pn3 pc3, iv pl.geese] 28)] ∧ m = 0) (m := 0) ⟨⟨rfl, rfl, rfl, rfl, trivial⟩, hI.pickL [0, 1] (by decide) rfl, rfl⟩ ?_
     rintro m ρ w ⟨hag, hI, hm⟩
     obtain ⟨ρ, rfl⟩ := hag.form; clear hag
     refine wp_seq (wp_seq (rgn (by kernel_rfl) (pu (iv 0) (by kernel_rfl) (pu (.pointer (some ⟨b1, 4, none⟩)) (by kernel_rfl) (seq_c (s_load1 hI 1 (.slice pA3 pn3 pc3) Tryz.isAgg26 rfl rfl rfl ?_))))))
     refine pu (iv ((pn3 : Nat) : Int)) (by kernel_rfl) (seq_c (s_lss rfl rfl ?_ ?_))
     ·intro h96
      refine pu (.bool true) (by kernel_rfl) (puo (.bool false) ⟨(by kernel_rfl), (by kernel_rfl)⟩ (pu (.bool false) (by kernel_rfl) (seq_nil (wp_condF rfl (wp_exit ?_)))))
      refine wp_seq (rgn (by kernel_rfl) (pu (.bool false) (by kernel_rfl) (pu (.bool false) (by kernel_rfl) (seq_nil (wp_ret ?_)))))
      exact ⟨.bool false, Ret.r1 rfl rfl, ⟨by refine congrArg Value.bool (Eq.symm (decide_eq_false ?_)); intro e; subst e; first | omega | (simp_all; done), hI.below⟩⟩
     ·intro h97
      refine pu (.bool false) (by kernel_rfl) (of_ (by kernel_rfl) (pu (.bool false) (by kernel_rfl) (seq_nil (wp_condF rfl (wp_exit ?_)))))
      refine wp_seq (rgn (by kernel_rfl) (pu (.bool false) (by kernel_rfl) (pu (.bool false) (by kernel_rfl) (seq_nil (wp_ret ?_)))))
      exact ⟨.bool false, Ret.r1 rfl rfl, ⟨by refine congrArg Value.bool (Eq.symm (decide_eq_false ?_)); intro e; subst e; first | omega | (simp_all; done), hI.below⟩⟩
    ·intro h98
     refine pu (.bool false) (by kernel_rfl) (of_ (by kernel_rfl) (pu (.bool false) (by kernel_rfl) (seq_nil (wp_condF rfl (wp_exit ?_)))))
     refine wp_seq (wp_seq (rgn (by kernel_rfl) (pu (iv 0) (by kernel_rfl) (seq_nil (wp_block ?_)))))
     refine wp_loop (fun m ρ w => Agree ρ [(2, .pointer (some ⟨b1, 0, none⟩)), (3, .pointer (some ⟨b2, 0, none⟩)), (5, .bool false), (8, iv 0)] ∧ Inv none w0 w [(some b2, blk [iv ql.lo, iv ql.hi, .slice qA1 qn1 qc1, .slice qA2 qn2 qc2, .slice qA3 qn3 qc3, iv ql.geese] 28), (some b1, blk [iv pl.lo, iv pl.hi, .slice pA1 pn1 pc1, .slice pA2 pn2 pc2, .slice pA3 pn3 pc3, iv pl.geese] 28)] ∧ m = 0) (m := 0) ⟨⟨rfl, rfl, rfl, rfl, trivial⟩, hI.pickL [0, 1] (by decide) rfl, rfl⟩ ?_
     rintro m ρ w ⟨hag, hI, hm⟩
     obtain ⟨ρ, rfl⟩ := hag.form; clear hag
     refine wp_seq (wp_seq (rgn (by kernel_rfl) (pu (iv 0) (by kernel_rfl) (pu (.pointer (some ⟨b1, 4, none⟩)) (by kernel_rfl) (seq_c (s_load1 hI 1 (.slice pA3 pn3 pc3) Tryz.isAgg26 rfl rfl rfl ?_))))))
     refine pu (iv ((pn3 : Nat) : Int)) (by kernel_rfl) (seq_c (s_lss rfl rfl ?_ ?_))
     ·intro h99
      refine pu (.bool true) (by kernel_rfl) (puo (.bool false) ⟨(by kernel_rfl), (by kernel_rfl)⟩ (pu (.bool false) (by kernel_rfl) (seq_nil (wp_condF rfl (wp_exit ?_)))))
      refine wp_seq (rgn (by kernel_rfl) (pu (.bool false) (by kernel_rfl) (pu (.bool false) (by kernel_rfl) (seq_nil (wp_ret ?_)))))
      exact ⟨.bool false, Ret.r1 rfl rfl, ⟨by refine congrArg Value.bool (Eq.symm (decide_eq_false ?_)); intro e; subst e; first | omega | (simp_all; done), hI.below⟩⟩
     ·intro h100
      refine pu (.bool false) (by kernel_rfl) (of_ (by kernel_rfl) (pu (.bool false) (by kernel_rfl) (seq_nil (wp_condF rfl (wp_exit ?_)))))
      refine wp_seq (rgn (by kernel_rfl) (pu (.bool false) (by kernel_rfl) (pu (.bool false) (by kernel_rfl) (seq_nil (wp_ret ?_)))))
      exact ⟨.bool false, Ret.r1 rfl rfl, ⟨by refine congrArg Value.bool (Eq.symm (decide_eq_false ?_)); intro e; subst e; first | omega | (simp_all; done), hI.below⟩⟩
 ·intro h101
  refine pu (.bool false) (by kernel_rfl) (of_ (by kernel_rfl) (of_ (by kernel_rfl) (of_ (by kernel_rfl) (of_ (by kernel_rfl) (of_ (by kernel_rfl) (pu (.bool false) (by kernel_rfl) (pu (.bool false) (by kernel_rfl) (of_ (by kernel_rfl) (of_ (by kernel_rfl) ?_)))))))))
  refine of_ (by kernel_rfl) (of_ (by kernel_rfl) (of_ (by kernel_rfl) (of_ (by kernel_rfl) (of_ (by kernel_rfl) (pu (.bool false) (by kernel_rfl) (pu (.bool false) (by kernel_rfl) (of_ (by kernel_rfl) (of_ (by kernel_rfl) (of_ (by kernel_rfl) ?_)))))))))
  refine of_ (by kernel_rfl) (of_ (by kernel_rfl) (of_ (by kernel_rfl) (of_ (by kernel_rfl) (pu (.bool false) (by kernel_rfl) (pu (.bool false) (by kernel_rfl) (of_ (by kernel_rfl) (of_ (by kernel_rfl) (of_ (by kernel_rfl) (of_ (by kernel_rfl) ?_)))))))))
  refine of_ (by kernel_rfl) (of_ (by kernel_rfl) (of_ (by kernel_rfl) (pu (.bool false) (by kernel_rfl) (pu (.bool false) (by kernel_rfl) (seq_nil (wp_seq (wp_seq (rgn (by kernel_rfl) (pu (iv 0) (by kernel_rfl) ?_)))))))))
  refine seq_nil (wp_block ?_)
  refine wp_loop (fun m ρ w => Agree ρ [(2, .pointer (some ⟨b1, 0, none⟩)), (3, .pointer (some ⟨b2, 0, none⟩)), (5, .bool false), (6, iv 0)] ∧ Inv none w0 w [(some b2, blk [iv ql.lo, iv ql.hi, .slice qA1 qn1 qc1, .slice qA2 qn2 qc2, .slice qA3 qn3 qc3, iv ql.geese] 28), (some b1, blk [iv pl.lo, iv pl.hi, .slice pA1 pn1 pc1, .slice pA2 pn2 pc2, .slice pA3 pn3 pc3, iv pl.geese] 28)] ∧ m = 0) (m := 0) ⟨⟨rfl, rfl, rfl, rfl, trivial⟩, hI.pickL [0, 1] (by decide) rfl, rfl⟩ ?_
  rintro m ρ w ⟨hag, hI, hm⟩
  obtain ⟨ρ, rfl⟩ := hag.form; clear hag
  refine wp_seq (wp_seq (rgn (by kernel_rfl) (pu (iv 0) (by kernel_rfl) (pu (.pointer (some ⟨b1, 2, none⟩)) (by kernel_rfl) (seq_c (s_load1 hI 1 (.slice pA1 pn1 pc1) Tryz.isAgg24 rfl rfl rfl ?_))))))
  refine pu (iv ((pn1 : Nat) : Int)) (by kernel_rfl) (seq_c (s_lss rfl rfl ?_ ?_))
  ·intro h102
   refine pu (.bool true) (by kernel_rfl) (puo (.bool false) ⟨(by kernel_rfl), (by kernel_rfl)⟩ (pu (.bool false) (by kernel_rfl) (seq_nil (wp_condF rfl (wp_exit ?_)))))
   refine wp_seq (wp_seq (rgn (by kernel_rfl) (pu (iv 0) (by kernel_rfl) (seq_nil (wp_block ?_)))))
   refine wp_loop (fun m ρ w => Agree ρ [(2, .pointer (some ⟨b1, 0, none⟩)), (3, .pointer (some ⟨b2, 0, none⟩)), (5, .bool false), (7, iv 0)] ∧ Inv none w0 w [(some b2, blk [iv ql.lo, iv ql.hi, .slice qA1 qn1 qc1, .slice qA2 qn2 qc2, .slice qA3 qn3 qc3, iv ql.geese] 28), (some b1, blk [iv pl.lo, iv pl.hi, .slice pA1 pn1 pc1, .slice pA2 pn2 pc2, .slice pA3 pn3 pc3, iv pl.geese] 28)] ∧ m = 0) (m := 0) ⟨⟨rfl, rfl, rfl, rfl, trivial⟩, hI.pickL [0, 1] (by decide) rfl, rfl⟩ ?_
   rintro m ρ w ⟨hag, hI, hm⟩
   obtain ⟨ρ, rfl⟩ := hag.form; clear hag
   refine wp_seq (wp_seq (rgn (by kernel_rfl) (pu (iv 0) (by kernel_rfl) (pu (.pointer (some ⟨b1, 3, none⟩)) (by kernel_rfl) (seq_c (s_load1 hI 1 (.slice pA2 pn2 pc2) Tryz.isAgg25 rfl rfl rfl ?_))))))
   refine pu (iv ((pn2 : Nat) : Int)) (by kernel_rfl) (seq_c (s_lss rfl rfl ?_ ?_))
   ·intro h103
    refine pu (.bool true) (by kernel_rfl) (puo (.bool false) ⟨(by kernel_rfl), (by kernel_rfl)⟩ (pu (.bool false) (by kernel_rfl) (seq_nil (wp_condF rfl (wp_exit ?_)))))
    refine wp_seq (wp_seq (rgn (by kernel_rfl) (pu (iv 0) (by kernel_rfl) (seq_nil (wp_block ?_)))))
    refine wp_loop (fun m ρ w => Agree ρ [(2, .pointer (some ⟨b1, 0, none⟩)), (3, .pointer (some ⟨b2, 0, none⟩)), (5, .bool false), (8, iv 0)] ∧ Inv none w0 w [(some b2, blk [iv ql.lo, iv ql.hi, .slice qA1 qn1 qc1, .slice qA2 qn2 qc2, .slice qA3 qn3 qc3, iv ql.geese] 28), (some b1, blk [iv pl.lo, iv pl.hi, .slice pA1 pn1 pc1, .slice pA2 pn2 pc2, .slice pA3 pn3 pc3, iv pl.geese] 28)] ∧ m = 0) (m := 0) ⟨⟨rfl, rfl, rfl, rfl, trivial⟩, hI.pickL [0, 1] (by decide) rfl, rfl⟩ ?_
    rintro m ρ w ⟨hag, hI, hm⟩
    obtain ⟨ρ, rfl⟩ := hag.form; clear hag
    refine wp_seq (wp_seq (rgn (by kernel_rfl) (pu (iv 0) (by kernel_rfl) (pu (.pointer (some ⟨b1, 4, none⟩)) (by kernel_rfl) (seq_c (s_load1 hI 1 (.slice pA3 pn3 pc3) Tryz.isAgg26 rfl rfl rfl ?_))))))
    refine pu (iv ((pn3 : Nat) : Int)) (by kernel_rfl) (seq_c (s_lss rfl rfl ?_ ?_))
    ·intro h104
     refine pu (.bool true) (by kernel_rfl) (puo (.bool false) ⟨(by kernel_rfl), (by kernel_rfl)⟩ (pu (.bool false) (by kernel_rfl) (seq_nil (wp_condF rfl (wp_exit ?_)))))
     refine wp_seq (rgn (by kernel_rfl) (pu (.bool false) (by kernel_rfl) (pu (.bool false) (by kernel_rfl) (seq_nil (wp_ret ?_)))))
     exact ⟨.bool false, Ret.r1 rfl rfl, ⟨by refine congrArg Value.bool (Eq.symm (decide_eq_false ?_)); intro e; subst e; first | omega | (simp_all; done), hI.below⟩⟩
    ·intro h105
     refine pu (.bool false) (by kernel_rfl) (of_ (by kernel_rfl) (pu (.bool false) (by kernel_rfl) (seq_nil (wp_condF rfl (wp_exit ?_)))))
     refine wp_seq (rgn (by kernel_rfl) (pu (.bool false) (by kernel_rfl) (pu (.bool false) (by kernel_rfl) (seq_nil (wp_ret ?_)))))
     exact ⟨.bool false, Ret.r1 rfl rfl, ⟨by refine congrArg Value.bool (Eq.symm (decide_eq_false ?_)); intro e; subst e; first | omega | (simp_all; done), hI.below⟩⟩
   ·intro h106
    refine pu (.bool false) (by kernel_rfl) (of_ (by kernel_rfl) (pu (.bool false) (by kernel_rfl) (seq_nil (wp_condF rfl (wp_exit ?_)))))
    refine wp_seq (wp_seq (rgn (by kernel_rfl) (pu (iv 0) (by kernel_rfl) (seq_nil (wp_block ?_)))))
    refine wp_loop (fun m ρ w => Agree ρ [(2, .pointer (some ⟨b1, 0, none⟩)), (3, .pointer (some ⟨b2, 0, none⟩)), (5, .bool false), (8, iv 0)] ∧ Inv none w0 w [(some b2, blk [iv ql.lo, iv ql.hi, .slice qA1 qn1 qc1, .slice qA2 qn2 qc2, .slice qA3 qn3 qc3, iv ql.geese] 28), (some b1, blk [iv pl.lo, iv pl.hi, .slice pA1 pn1 pc1, .slice pA2 pn2 pc2, .slice pA3 pn3 pc3, iv pl.geese] 28)] ∧ m = 0) (m := 0) ⟨⟨rfl, rfl, rfl, rfl, trivial⟩, hI.pickL [0, 1] (by decide) rfl, rfl⟩ ?_
    rintro m ρ w ⟨hag, hI, hm⟩
    obtain ⟨ρ, rfl⟩ := hag.form; clear hag
    refine wp_seq (wp_seq (rgn (by kernel_rfl) (pu (iv 0) (by kernel_rfl) (pu (.pointer (some ⟨b1, 4, none⟩)) (by kernel_rfl) (seq_c (s_load1 hI 1 (.slice pA3 pn3 pc3) Tryz.isAgg26 rfl rfl rfl ?_))))))
    refine pu (iv ((pn3 : Nat) : Int)) (by kernel_rfl) (seq_c (s_lss rfl rfl ?_ ?_))
    ·intro h107
     refine pu (.bool true) (by kernel_rfl) (puo (.bool false) ⟨(by kernel_rfl), (by kernel_rfl)⟩ (pu (.bool false) (by kernel_rfl) (seq_nil (wp_condF rfl (wp_exit ?_)))))
     refine wp_seq (rgn (by kernel_rfl) (pu (.bool false) (by kernel_rfl) (pu (.bool false) (by kernel_rfl) (seq_nil (wp_ret ?_)))))
     exact ⟨.bool false, Ret.r1 rfl rfl, ⟨by refine congrArg Value.bool (Eq.symm (decide_eq_false ?_)); intro e; subst e; first | omega | (simp_all; done), hI.below⟩⟩
    ·intro h108
     refine pu (.bool false) (by kernel_rfl) (of_ (by kernel_rfl) (pu (.bool false) (by kernel_rfl) (seq_nil (wp_condF rfl (wp_exit ?_)))))
     refine wp_seq (rgn (by kernel_rfl) (pu (.bool false) (by kernel_rfl) (pu (.bool false) (by kernel_rfl) (seq_nil (wp_ret ?_)))))
     exact ⟨.bool false, Ret.r1 rfl rfl, ⟨by refine congrArg Value.bool (Eq.symm (decide_eq_false ?_)); intro e; subst e; first | omega | (simp_all; done), hI.below⟩⟩
  ·intro h109
   refine pu (.bool false) (by kernel_rfl) (of_ (by kernel_rfl) (pu (.bool false) (by kernel_rfl) (seq_nil (wp_condF rfl (wp_exit ?_)))))
   refine wp_seq (wp_seq (rgn (by kernel_rfl) (pu (iv 0) (by kernel_rfl) (seq_nil (wp_block ?_)))))
   refine wp_loop (fun m ρ w => Agree ρ [(2, .pointer (some ⟨b1, 0, none⟩)), (3, .pointer (some ⟨b2, 0, none⟩)), (5, .bool false), (7, iv 0)] ∧ Inv none w0 w [(some b2, blk [iv ql.lo, iv ql.hi, .slice qA1 qn1 qc1, .slice qA2 qn2 qc2, .slice qA3 qn3 qc3, iv ql.geese] 28), (some b1, blk [iv pl.lo, iv pl.hi, .slice pA1 pn1 pc1, .slice pA2 pn2 pc2, .slice pA3 pn3 pc3, iv pl.geese] 28)] ∧ m = 0) (m := 0) ⟨⟨rfl, rfl, rfl, rfl, trivial⟩, hI.pickL [0, 1] (by decide) rfl, rfl⟩ ?_
   rintro m ρ w ⟨hag, hI, hm⟩
   obtain ⟨ρ, rfl⟩ := hag.form; clear hag
   refine wp_seq (wp_seq (rgn (by kernel_rfl) (pu (iv 0) (by kernel_rfl) (pu (.pointer (some ⟨b1, 3, none⟩)) (by kernel_rfl) (seq_c (s_load1 hI 1 (.slice pA2 pn2 pc2) Tryz.isAgg25 rfl rfl rfl ?_))))))
   refine pu (iv ((pn2 : Nat) : Int)) (by kernel_rfl) (seq_c (s_lss rfl rfl ?_ ?_))
   ·intro h110
    refine pu (.bool true) (by kernel_rfl) (puo (.bool false) ⟨(by kernel_rfl), (by kernel_rfl)⟩ (pu (.bool false) (by kernel_rfl) (seq_nil (wp_condF rfl (wp_exit ?_)))))
    refine wp_seq (wp_seq (rgn (by kernel_rfl) (pu (iv 0) (by kernel_rfl) (seq_nil (wp_block ?_)))))
    refine wp_loop (fun m ρ w => Agree ρ [(2, .pointer (some ⟨b1, 0, none⟩)), (3, .pointer (some ⟨b2, 0, none⟩)), (5, .bool false), (8, iv 0)] ∧ Inv none w0 w [(some b2, blk [iv ql.lo, iv ql.hi, .slice qA1 qn1 qc1, .slice qA2 qn2 qc2, .slice qA3 qn3 qc3, iv ql.geese] 28), (some b1, blk [iv pl.lo, iv pl.hi, .slice pA1 pn1 pc1, .slice pA2 pn2 pc2, .slice pA3 pn3 pc3, iv pl.geese] 28)] ∧ m = 0) (m := 0) ⟨⟨rfl, rfl, rfl, rfl, trivial⟩, hI.pickL [0, 1] (by decide) rfl, rfl⟩ ?_
    rintro m ρ w ⟨hag, hI, hm⟩
    obtain ⟨ρ, rfl⟩ := hag.form; clear hag
    refine wp_seq (wp_seq (rgn (by kernel_rfl) (pu (iv 0) (by kernel_rfl) (pu (.pointer (some ⟨b1, 4, none⟩)) (by kernel_rfl) (seq_c (s_load1 hI 1 (.slice pA3 pn3 pc3) Tryz.isAgg26 rfl rfl rfl ?_))))))
    refine pu (iv ((pn3 : Nat) : Int)) (by kernel_rfl) (seq_c (s_lss rfl rfl ?_ ?_))
    ·intro h111
     refine pu (.bool true) (by kernel_rfl) (puo (.bool false) ⟨(by kernel_rfl), (by kernel_rfl)⟩ (pu (.bool false) (by kernel_rfl) (seq_nil (wp_condF rfl (wp_exit ?_)))))
     refine wp_seq (rgn (by kernel_rfl) (pu (.bool false) (by kernel_rfl) (pu (.bool false) (by kernel_rfl) (seq_nil (wp_ret ?_)))))
     exact ⟨.bool false, Ret.r1 rfl rfl, ⟨by refine congrArg Value.bool (Eq.symm (decide_eq_false ?_)); intro e; subst e; first | omega | (simp_all; done), hI.below⟩⟩
    ·intro h112
     refine pu (.bool false) (by kernel_rfl) (of_ (by kernel_rfl) (pu (.bool false) (by kernel_rfl) (seq_nil (wp_condF rfl (wp_exit ?_)))))
     refine wp_seq (rgn (by kernel_rfl) (pu (.bool false) (by kernel_rfl) (pu (.bool false) (by kernel_rfl) (seq_nil (wp_ret ?_)))))
     exact ⟨.bool false, Ret.r1 rfl rfl, ⟨by refine congrArg Value.bool (Eq.symm (decide_eq_false ?_)); intro e; subst e; first | omega | (simp_all; done), hI.below⟩⟩
   ·intro h113
    refine pu (.bool false) (by kernel_rfl) (of_ (by kernel_rfl) (pu (.bool false) (by kernel_rfl) (seq_nil (wp_condF rfl (wp_exit ?_)))))
    refine wp_seq (wp_seq (rgn (by kernel_rfl) (pu (iv 0) (by kernel_rfl) (seq_nil (wp_block ?_)))))
    refine wp_loop (fun m ρ w => Agree ρ [(2, .pointer (some ⟨b1, 0, none⟩)), (3, .pointer (some ⟨b2, 0, none⟩)), (5, .bool false), (8, iv 0)] ∧ Inv none w0 w [(some b2, blk [iv ql.lo, iv ql.hi, .slice qA1 qn1 qc1, .slice qA2 qn2 qc2, .slice qA3 qn3 qc3, iv ql.geese] 28), (some b1, blk [iv pl.lo, iv pl.hi, .slice pA1 pn1 pc1, .slice pA2 pn2 pc2, .slice pA3 pn3 pc3, iv pl.geese] 28)] ∧ m = 0) (m := 0) ⟨⟨rfl, rfl, rfl, rfl, trivial⟩, hI.pickL [0, 1] (by decide) rfl, rfl⟩ ?_
    rintro m ρ w ⟨hag, hI, hm⟩
    obtain ⟨ρ, rfl⟩ := hag.form; clear hag
    refine wp_seq (wp_seq (rgn (by kernel_rfl) (pu (iv 0) (by kernel_rfl) (pu (.pointer (some ⟨b1, 4, none⟩)) (by kernel_rfl) (seq_c (s_load1 hI 1 (.slice pA3 pn3 pc3) Tryz.isAgg26 rfl rfl rfl ?_))))))
    refine pu (iv ((pn3 : Nat) : Int)) (by kernel_rfl) (seq_c (s_lss rfl rfl ?_ ?_))
    ·intro h114
     refine pu (.bool true) (by kernel_rfl) (puo (.bool false) ⟨(by kernel_rfl), (by kernel_rfl)⟩ (pu (.bool false) (by kernel_rfl) (seq_nil (wp_condF rfl (wp_exit ?_)))))
     refine wp_seq (rgn (by kernel_rfl) (pu (.bool false) (by kernel_rfl) (pu (.bool false) (by kernel_rfl) (seq_nil (wp_ret ?_)))))
     exact ⟨.bool false, Ret.r1 rfl rfl, ⟨by refine congrArg Value.bool (Eq.symm (decide_eq_false ?_)); intro e; subst e; first | omega | (simp_all; done), hI.below⟩⟩
    ·intro h115
     refine pu (.bool false) (by kernel_rfl) (of_ (by kernel_rfl) (pu (.bool false) (by kernel_rfl) (seq_nil (wp_condF rfl (wp_exit ?_)))))
     refine wp_seq (rgn (by kernel_rfl) (pu (.bool false) (by kernel_rfl) (pu (.bool false) (by kernel_rfl) (seq_nil (wp_ret ?_)))))
     exact ⟨.bool false, Ret.r1 rfl rfl, ⟨by refine congrArg Value.bool (Eq.symm (decide_eq_false ?_)); intro e; subst e; first | omega | (simp_all; done), hI.below⟩⟩

end Go.K
