/- Contracts of the reference's Without, and of Dates. -/
import Derived.Test.YtinkdlmimiefaaaGreatProg
import Derived.Test.YtinkdlmimiefaaaGreatM5
namespace Go.K
open Go.Proofs Go.RowKit
set_option linter.unusedVariables false
set_option linter.unusedSimpArgs false
set_option maxRecDepth 100000
attribute [local irreducible] Seq Step CallV AnyE opX

section steps
variable {P : Program} {ρ : Env} {B : Option Nat} {w w0 w' : World} {L N : List (Option Nat × Obj)} {R : Value → World → Prop}
theorem s_callPlotT (hI : Inv B w0 w L) {o : Oper} (f : FuncId) (args : List Value) {q : Pl} {x : Value} (h : (execOp (ev ρ) o).run P w = .ok (.enter f args.toArray) w)
    (hc : Does P f args w fun v w' => ∃ v1, v = .tuple #[v1, x] ∧ GivesPlot q w v1 w') (kk : ∀ g1 c1 cl1 g2 c2 cl2 g3 c3 cl3 w', Inv B w0 w' ((g1, blk cl1 30) :: (g2, blk cl2 31) :: (g3, blk cl3 33) :: L) → Row 6 g1 q.loads.length c1 cl1 (flat eLd q.loads) → Row 6 g2 q.stands.length c2 cl2 (flat eLd q.stands) → Row 6 g3 q.spells.length c3 cl3 (flat eSp q.spells) → R (.tuple #[plv q g1 c1 g2 c2 g3 c3, x]) w') : Step P o ρ w R :=
  s_call f args h hc fun v w' ⟨v1, hv, g1, c1, cl1, g2, c2, cl2, g3, c3, cl3, hv1, hN, r1, r2, r3⟩ => by
    subst hv; subst hv1
    exact kk g1 c1 cl1 g2 c2 cl2 g3 c3 cl3 w' (hI.join hN) r1 r2 r3
end steps
theorem hasB_eq (p : Pl) (s : Int) : hasB p s = decide (s ∈ srcsOf p) := by
  rw [hasB, Bool.eq_iff_iff, List.any_eq_true, decide_eq_true_eq]
  constructor
  · rintro ⟨y, hy, h⟩
    rw [decide_eq_true_eq] at h
    subst h
    simp only [notesOf, List.mem_append, List.mem_map] at hy
    simp only [srcsOf, List.mem_append, List.mem_map]
    rcases hy with (⟨x, hx, rfl⟩ | ⟨x, hx, rfl⟩) | ⟨x, hx, rfl⟩
    · exact .inl (.inl ⟨x, hx, rfl⟩)
    · exact .inl (.inr ⟨x, hx, rfl⟩)
    · exact .inr ⟨x, hx, rfl⟩
  · intro h
    simp only [srcsOf, List.mem_append, List.mem_map] at h
    simp only [notesOf, List.mem_append, List.mem_map]
    rcases h with (⟨x, hx, rfl⟩ | ⟨x, hx, rfl⟩) | ⟨x, hx, rfl⟩
    · exact ⟨ntL x, .inl (.inl ⟨x, hx, rfl⟩), decide_eq_true rfl⟩
    · exact ⟨ntL x, .inl (.inr ⟨x, hx, rfl⟩), decide_eq_true rfl⟩
    · exact ⟨ntS x, .inr ⟨x, hx, rfl⟩, decide_eq_true rfl⟩


theorem RefWithout_c (w0 : World) (pl : Pl) (pA1 : Option Addr) (pn1 pc1 : Nat) (pA2 : Option Addr) (pn2 pc2 : Nat) (pA3 : Option Addr) (pn3 pc3 : Nat) (hP : PlotIn w0 pl pA1 pn1 pA2 pn2 pA3 pn3) (s : Int) : Does Tryz.prog 17 [.agg #[.int .i64 pl.lo, .int .i64 pl.hi, .slice pA1 pn1 pc1, .slice pA2 pn2 pc2, .slice pA3 pn3 pc3, .int .i64 pl.geese], .int .i64 s] w0 fun v w => ∃ v1, v = .tuple #[v1, .int .i64 (withoutF pl s).2] ∧ GivesPlot (withoutF pl s).1 w0 v1 w := by
 refine calls_of (n := 22) Tryz.func17 rfl Tryz.ntmps17 rfl ?_
 have hI := Inv.start w0
 refine wp_seq (rgn (by kernel_rfl) (seq_c (s_boxI hI [iv pl.lo, iv pl.hi, .slice pA1 pn1 pc1, .slice pA2 pn2 pc2, .slice pA3 pn3 pc3, iv pl.geese] rfl ?_)))
 intro b1 w hI
 refine seq_c (s_allocI hI [iv 0, iv 0, .slice none 0 0, .slice none 0 0, .slice none 0 0, iv 0] Tryz.zeroValue28 rfl ?_)
 intro b2 w hI
 refine pu (iv 0) (by kernel_rfl) (seq_nil (wp_seq (wp_seq (rgn (by kernel_rfl) (seq_c (s_loadK hI 1 6 [iv pl.lo, iv pl.hi, .slice pA1 pn1 pc1, .slice pA2 pn2 pc2, .slice pA3 pn3 pc3, iv pl.geese] Tryz.isAgg28 Tryz.sizeOf28 rfl rfl rfl rfl ?_))))))
 refine seq_c (s_callv hI 23 [.agg #[iv pl.lo, iv pl.hi, .slice pA1 pn1 pc1, .slice pA2 pn2 pc2, .slice pA3 pn3 pc3, iv pl.geese]] (iv (codeI (plotB pl) 13)) (by kernel_rfl) (RefCheck_c _ pl pA1 pn1 pc1 pA2 pn2 pc2 pA3 pn3 pc3 (hP.inv0 hI)) ?_)
 intro w hI
 refine seq_c (s_neq rfl rfl ?_ ?_)
 ·intro h1
  refine seq_nil (wp_condT rfl (wp_seq (rgn (by kernel_rfl) (pu (.agg #[iv 0, iv 0, .slice none 0 0, .slice none 0 0, .slice none 0 0, iv 0]) (by kernel_rfl) (seq_c (s_store hI 0 6 [iv 0, iv 0, .slice none 0 0, .slice none 0 0, .slice none 0 0, iv 0] Tryz.sizeOf28 rfl rfl rfl rfl rfl (Nat.le_of_ble_eq_true rfl) ?_))))))
  intro w hI
  refine pu (iv 13) (by kernel_rfl) (seq_nil (wp_ret ?_))
  have hI := hI.nilRow 33
  have hI := hI.nilRow 31
  have hI := hI.nilRow 30
  have e : withoutF pl s = (zeroPl, 13) := by simp [withoutF, codeI, codeI_no h1]
  exact ⟨.tuple #[.agg #[iv 0, iv 0, .slice none 0 0, .slice none 0 0, .slice none 0 0, iv 0], iv 13], Ret.ct rfl rfl (run_loadK hI 3 6 [iv 0, iv 0, .slice none 0 0, .slice none 0 0, .slice none 0 0, iv 0] Tryz.isAgg28 Tryz.sizeOf28 rfl rfl rfl) rfl, (by rw [e]; exact ⟨.agg #[iv 0, iv 0, .slice none 0 0, .slice none 0 0, .slice none 0 0, iv 0], rfl, ⟨none, 0, [], none, 0, [], none, 0, [], rfl, hI.pickL [0, 1, 2] (by decide) rfl, Row.nil_ 6, Row.nil_ 6, Row.nil_ 6⟩⟩)⟩
 ·intro h2
  refine seq_nil (wp_condF rfl (wp_skip (wp_seq (rgn (by kernel_rfl) (seq_c (s_loadK hI 1 6 [iv pl.lo, iv pl.hi, .slice pA1 pn1 pc1, .slice pA2 pn2 pc2, .slice pA3 pn3 pc3, iv pl.geese] Tryz.isAgg28 Tryz.sizeOf28 rfl rfl rfl rfl ?_))))))
  refine pu (iv s) (by kernel_rfl) (seq_c (s_callPlotT hI (q := keepP (fun y => decide (y.s ≠ s)) pl) 65 [.agg #[iv pl.lo, iv pl.hi, .slice pA1 pn1 pc1, .slice pA2 pn2 pc2, .slice pA3 pn3 pc3, iv pl.geese], iv s] (by kernel_rfl) (without_c _ pl pA1 pn1 pc1 pA2 pn2 pc2 pA3 pn3 pc3 (hP.inv0 hI) (plotB_small (codeI_ok h2 (by decide))) s) ?_))
  intro g3 c4 cl5 g7 c8 cl9 g11 c12 cl13 w hI r6 r10 r14
  refine pu (.tuple #[.agg #[iv ((keepP (fun y => decide (y.s ≠ s)) pl).lo), iv ((keepP (fun y => decide (y.s ≠ s)) pl).hi), slv g3 ((keepP (fun y => decide (y.s ≠ s)) pl).loads.length) c4, slv g7 ((keepP (fun y => decide (y.s ≠ s)) pl).stands.length) c8, slv g11 ((keepP (fun y => decide (y.s ≠ s)) pl).spells.length) c12, iv ((keepP (fun y => decide (y.s ≠ s)) pl).geese)], .bool (decide (s ∈ srcsOf pl))]) (by kernel_rfl) (pu (.agg #[iv ((keepP (fun y => decide (y.s ≠ s)) pl).lo), iv ((keepP (fun y => decide (y.s ≠ s)) pl).hi), slv g3 ((keepP (fun y => decide (y.s ≠ s)) pl).loads.length) c4, slv g7 ((keepP (fun y => decide (y.s ≠ s)) pl).stands.length) c8, slv g11 ((keepP (fun y => decide (y.s ≠ s)) pl).spells.length) c12, iv ((keepP (fun y => decide (y.s ≠ s)) pl).geese)]) (by kernel_rfl) (pu (.bool (decide (s ∈ srcsOf pl))) (by kernel_rfl) (seq_c (s_allocI hI [iv 0, iv 0, .slice none 0 0, .slice none 0 0, .slice none 0 0, iv 0] Tryz.zeroValue28 rfl ?_))))
  intro b15 w hI
  refine seq_c (s_store hI 0 6 [iv ((keepP (fun y => decide (y.s ≠ s)) pl).lo), iv ((keepP (fun y => decide (y.s ≠ s)) pl).hi), slv g3 ((keepP (fun y => decide (y.s ≠ s)) pl).loads.length) c4, slv g7 ((keepP (fun y => decide (y.s ≠ s)) pl).stands.length) c8, slv g11 ((keepP (fun y => decide (y.s ≠ s)) pl).spells.length) c12, iv ((keepP (fun y => decide (y.s ≠ s)) pl).geese)] Tryz.sizeOf28 rfl rfl rfl rfl rfl (Nat.le_of_ble_eq_true rfl) ?_)
  intro w hI
  refine pu (.bool (decide (s ∈ srcsOf pl))) (by kernel_rfl) (seq_nil (wp_seq (wp_seq (rgn (by kernel_rfl) (pu (.bool (decide (s ∈ srcsOf pl))) (by kernel_rfl) (pu (.bool (!(decide (s ∈ srcsOf pl)))) (by kernel_rfl) (seq_nil (wp_cond (t := !(decide (s ∈ srcsOf pl))) rfl ?_ ?_))))))))
  ·intro h3
   refine wp_seq (rgn (by kernel_rfl) (pu (.agg #[iv 0, iv 0, .slice none 0 0, .slice none 0 0, .slice none 0 0, iv 0]) (by kernel_rfl) (seq_c (s_store hI 4 6 [iv 0, iv 0, .slice none 0 0, .slice none 0 0, .slice none 0 0, iv 0] Tryz.sizeOf28 rfl rfl rfl rfl rfl (Nat.le_of_ble_eq_true rfl) ?_))))
   intro w hI
   refine pu (iv 3) (by kernel_rfl) (seq_nil (wp_ret ?_))
   have hI := hI.nilRow 33
   have hI := hI.nilRow 31
   have hI := hI.nilRow 30
   have hhas := h3; simp only [Bool.not_eq_true', Bool.not_eq_false', ← hasB_eq] at hhas
   have e : withoutF pl s = (zeroPl, 3) := by simp [withoutF, codeI, codeI_ok h2 (by decide), hhas]
   exact ⟨.tuple #[.agg #[iv 0, iv 0, .slice none 0 0, .slice none 0 0, .slice none 0 0, iv 0], iv 3], Ret.ct rfl rfl (run_loadK hI 7 6 [iv 0, iv 0, .slice none 0 0, .slice none 0 0, .slice none 0 0, iv 0] Tryz.isAgg28 Tryz.sizeOf28 rfl rfl rfl) rfl, (by rw [e]; exact ⟨.agg #[iv 0, iv 0, .slice none 0 0, .slice none 0 0, .slice none 0 0, iv 0], rfl, ⟨none, 0, [], none, 0, [], none, 0, [], rfl, hI.pickL [0, 1, 2] (by decide) rfl, Row.nil_ 6, Row.nil_ 6, Row.nil_ 6⟩⟩)⟩
  ·intro h4
   refine wp_skip (wp_seq (rgn (by kernel_rfl) (seq_c (s_loadK hI 0 6 [iv ((keepP (fun y => decide (y.s ≠ s)) pl).lo), iv ((keepP (fun y => decide (y.s ≠ s)) pl).hi), slv g3 ((keepP (fun y => decide (y.s ≠ s)) pl).loads.length) c4, slv g7 ((keepP (fun y => decide (y.s ≠ s)) pl).stands.length) c8, slv g11 ((keepP (fun y => decide (y.s ≠ s)) pl).spells.length) c12, iv ((keepP (fun y => decide (y.s ≠ s)) pl).geese)] Tryz.isAgg28 Tryz.sizeOf28 rfl rfl rfl rfl ?_))))
   refine seq_c (s_store hI 4 6 [iv ((keepP (fun y => decide (y.s ≠ s)) pl).lo), iv ((keepP (fun y => decide (y.s ≠ s)) pl).hi), slv g3 ((keepP (fun y => decide (y.s ≠ s)) pl).loads.length) c4, slv g7 ((keepP (fun y => decide (y.s ≠ s)) pl).stands.length) c8, slv g11 ((keepP (fun y => decide (y.s ≠ s)) pl).spells.length) c12, iv ((keepP (fun y => decide (y.s ≠ s)) pl).geese)] Tryz.sizeOf28 rfl rfl rfl rfl rfl (Nat.le_of_ble_eq_true rfl) ?_)
   intro w hI
   refine pu (iv 0) (by kernel_rfl) (seq_nil (wp_ret ?_))
   have hhas := h4; simp only [Bool.not_eq_true', Bool.not_eq_false', ← hasB_eq] at hhas
   have e : withoutF pl s = (keepP (fun y => decide (y.s ≠ s)) pl, 0) := by simp [withoutF, codeI, codeI_ok h2 (by decide), hhas]
   exact ⟨.tuple #[.agg #[iv ((keepP (fun y => decide (y.s ≠ s)) pl).lo), iv ((keepP (fun y => decide (y.s ≠ s)) pl).hi), slv g3 ((keepP (fun y => decide (y.s ≠ s)) pl).loads.length) c4, slv g7 ((keepP (fun y => decide (y.s ≠ s)) pl).stands.length) c8, slv g11 ((keepP (fun y => decide (y.s ≠ s)) pl).spells.length) c12, iv ((keepP (fun y => decide (y.s ≠ s)) pl).geese)], iv 0], Ret.ct rfl rfl (run_loadK hI 4 6 [iv ((keepP (fun y => decide (y.s ≠ s)) pl).lo), iv ((keepP (fun y => decide (y.s ≠ s)) pl).hi), slv g3 ((keepP (fun y => decide (y.s ≠ s)) pl).loads.length) c4, slv g7 ((keepP (fun y => decide (y.s ≠ s)) pl).stands.length) c8, slv g11 ((keepP (fun y => decide (y.s ≠ s)) pl).spells.length) c12, iv ((keepP (fun y => decide (y.s ≠ s)) pl).geese)] Tryz.isAgg28 Tryz.sizeOf28 rfl rfl rfl) rfl, (by rw [e]; exact ⟨.agg #[iv ((keepP (fun y => decide (y.s ≠ s)) pl).lo), iv ((keepP (fun y => decide (y.s ≠ s)) pl).hi), slv g3 ((keepP (fun y => decide (y.s ≠ s)) pl).loads.length) c4, slv g7 ((keepP (fun y => decide (y.s ≠ s)) pl).stands.length) c8, slv g11 ((keepP (fun y => decide (y.s ≠ s)) pl).spells.length) c12, iv ((keepP (fun y => decide (y.s ≠ s)) pl).geese)], rfl, ⟨g3, c4, cl5, g7, c8, cl9, g11, c12, cl13, (by first | rfl | (simp only [plv, ← hm1, ← hm2, ← hm3]; done) | (simp [plv, keepP]; done)), hI.pickL [1, 2, 3] (by decide) rfl, (r6.to (by first | rfl | simp [keepP]) (by first | rfl | assumption | simp [keepP])), (r10.to (by first | rfl | simp [keepP]) (by first | rfl | assumption | simp [keepP])), (r14.to (by first | rfl | simp [keepP]) (by first | rfl | assumption | simp [keepP]))⟩⟩)⟩

def putStep (x : Int) (s : List Int × Bool) (y : Int) : List Int × Bool :=
  let o := if x ≤ y ∧ s.2 = false then s.1 ++ [x] else s.1
  (if y = x then o else o ++ [y], s.2 || decide (x ≤ y))
def putS (x : Int) (l : List Int) : List Int × Bool := l.foldl (putStep x) ([], false)
/-- A rising list with one more number. -/
def putF (x : Int) (l : List Int) : List Int := if (putS x l).2 then (putS x l).1 else (putS x l).1 ++ [x]
theorem putS_step {x : Int} {l : List Int} {k : Nat} {y : Int} (hy : l[k]? = some y) : putS x (l.take (k + 1)) = putStep x (putS x (l.take k)) y := by
  rw [take_get hy, putS, List.foldl_append]; rfl
theorem putS_len (x : Int) : ∀ (l : List Int), (putS x l).1.length ≤ l.length + (if (putS x l).2 then 1 else 0) := by
  have key : ∀ (l : List Int) (s : List Int × Bool), (l.foldl (putStep x) s).1.length ≤ s.1.length + l.length + (if (l.foldl (putStep x) s).2 then 1 else 0) - (if s.2 then 1 else 0) := by
    intro l
    induction l with
    | nil => intro s; obtain ⟨o, d⟩ := s; cases d <;> simp
    | cons a l ih =>
      intro s
      rw [List.foldl_cons]
      refine Nat.le_trans (ih _) ?_
      obtain ⟨o, d⟩ := s
      have hm : d = true → (l.foldl (putStep x) (putStep x (o, d) a)).2 = true := by
        intro hd
        have mono : ∀ (l : List Int) (s : List Int × Bool), s.2 = true → (l.foldl (putStep x) s).2 = true := by
          intro l
          induction l with
          | nil => intro s h; exact h
          | cons b l ih => intro s h; rw [List.foldl_cons]; exact ih _ (by simp [putStep, h])
        exact mono l _ (by simp [putStep, hd])
      simp only [putStep, List.length_cons]
      simp only [putStep] at hm
      by_cases h1 : x ≤ a <;> by_cases h2 : a = x <;> cases d <;> simp_all <;> (try split) <;> omega
  intro l
  have := key l ([], false)
  unfold putS
  generalize List.foldl (putStep x) ([], false) l = s at this ⊢
  obtain ⟨o, d⟩ := s
  cases d <;> simp at this ⊢ <;> omega


theorem Put_c (w0 : World) (l : List Int) (A : Option Addr) (n c : Nat) (x : Int) (hn : n = l.length) (hmax : n ≤ 100000) (hC : Cells w0 A (flat eInt l)) : Does Tryz.prog 71 [.slice A n c, .int .i64 x] w0 fun v w => Gives 1 3 none (putF x l).length (flat eInt (putF x l)) w0 v w := by
 refine calls_of (n := 48) Tryz.func71 rfl Tryz.ntmps71 rfl ?_
 have hI := Inv.start w0
 refine wp_seq (rgn (by kernel_rfl) (pu (.slice none 0 0) (by kernel_rfl) (seq_nil (wp_seq (rgn (by kernel_rfl) (pu (.slice none 0 0) (by kernel_rfl) (seq_nil (wp_seq (rgn (by kernel_rfl) ?_)))))))))
 refine pu (.bool false) (by kernel_rfl) (seq_nil (wp_seq (wp_seq (rgn (by kernel_rfl) (pu (iv 0) (by kernel_rfl) (seq_nil (wp_block ?_)))))))
 have hI := hI.nilRow 3
 refine wp_loop (fun m ρ w => ∃ (k : Nat) (out : List Int) (d : Bool) (nn : Nat) (gg : Option Nat) (cc : Nat) (ccl : List Value), Agree ρ [(0, .slice A n c), (1, iv x), (5, slv gg nn cc), (6, .bool d), (7, iv (k : Int))] ∧ Inv none w0 w [(gg, blk ccl 3)] ∧ (k ≤ n) ∧ (putS x (l.take k) = (out, d)) ∧ (nn = out.length) ∧ (Row 1 gg (nn) cc ccl (flat eInt (out))) ∧ m = n - k) (m := n - 0) ⟨0, [], false, 0, none, 0, [], ⟨rfl, rfl, rfl, rfl, rfl, trivial⟩, hI.pickL [0] (by decide) rfl, (by omega), rfl, rfl, (Row.nil_ 1), rfl⟩ ?_
 rintro m ρ w ⟨k, out, d, nn, gg, cc, ccl, hag, hI, hk, hps, hnn, hrr, hm⟩
 obtain ⟨ρ, rfl⟩ := hag.form; clear hag
 have hlen := putS_len x (l.take k); rw [hps, List.length_take] at hlen; have hlen2 : out.length ≤ k + 1 := by revert hlen; simp only; split <;> omega
 refine wp_seq (wp_seq (rgn (by kernel_rfl) (pu (iv (k : Int)) (by kernel_rfl) (pu (.slice A n c) (by kernel_rfl) (pu (iv ((n : Nat) : Int)) (by kernel_rfl) (seq_c (s_lss rfl rfl ?_ ?_)))))))
 ·intro h1
  refine seq_nil (wp_condT rfl (wp_skip (wp_seq (wp_block ?_))))
  refine wp_seq (wp_seq (rgn (by kernel_rfl) (pu (.slice A n c) (by kernel_rfl) (pu (iv (k : Int)) (by kernel_rfl) ?_))))
  obtain ⟨x1, hx2⟩ := get_lt (l := l) (i := k) (by omega)
  obtain ⟨b3, o4, hA5, hb6, he7⟩ := hC.at_ eInt_len (by decide) hx2
  refine seq_c (s_indexA k Tryz.underlying41 Tryz.sizeOf3 rfl hA5 rfl rfl (by omega) ?_)
  refine seq_c (s_loadB1 hI (iv x1) Tryz.isAgg3 rfl hb6 (by simp) (he7 0 _ rfl) ?_)
  refine pu (iv x) (by kernel_rfl) (seq_c (s_geq rfl rfl ?_ ?_))
  ·intro h2
   refine pu (.bool true) (by kernel_rfl) (puo (.bool d) ⟨(by kernel_rfl), (by kernel_rfl)⟩ (puo (.bool (!d)) ⟨(by kernel_rfl), (by kernel_rfl)⟩ (pu (.bool (!d)) (by kernel_rfl) (seq_nil (wp_cond (t := !d) rfl ?_ ?_)))))
   ·intro h3
    refine wp_seq (rgn (by kernel_rfl) (pu (slv gg nn cc) (by kernel_rfl) (pu (iv x) (by kernel_rfl) (seq_c (s_new hI [iv x] 3 (fun b => slv (some b) 1 1) (by kernel_rfl) ?_)))))
    intro b8 w hI
    refine seq_c (s_app hI Tryz.underlying41 (z := iv 0) (k := 1) (bytes := 8) (by kernel_rfl) rfl rfl 1 rfl rfl hrr [iv x] rfl rfl (hI.cells 0 (off := 0) rfl (fun j u h => by rw [Nat.zero_add]; exact h)) (by simp [Value.oneCell']) (by omega) (by omega) ?_)
    intro g9 c10 cl11 w hI r12
    have r12 : Row 1 g9 (nn + 1) c10 cl11 (flat eInt (out ++ [x])) := r12.snoc _ rfl
    refine pu (slv g9 (nn + 1) c10) (by kernel_rfl) (seq_nil (rgn (by kernel_rfl) (pu (.bool true) (by kernel_rfl) (seq_nil (wp_seq (rgn (by kernel_rfl) (pu (.slice A n c) (by kernel_rfl) (pu (iv (k : Int)) (by kernel_rfl) (seq_c (s_indexA k Tryz.underlying41 Tryz.sizeOf3 rfl hA5 rfl rfl (by omega) ?_))))))))))
    refine seq_c (s_loadB1 hI (iv x1) Tryz.isAgg3 rfl hb6 (by simp) (he7 0 _ rfl) ?_)
    refine pu (iv x) (by kernel_rfl) (seq_c (s_neq rfl rfl ?_ ?_))
    ·intro h4
     refine seq_nil (wp_condT rfl (rgn (by kernel_rfl) (pu (slv g9 (nn + 1) c10) (by kernel_rfl) (pu (.slice A n c) (by kernel_rfl) (pu (iv (k : Int)) (by kernel_rfl) (seq_c (s_indexA k Tryz.underlying41 Tryz.sizeOf3 rfl hA5 rfl rfl (by omega) ?_)))))))
     refine seq_c (s_loadB1 hI (iv x1) Tryz.isAgg3 rfl hb6 (by simp) (he7 0 _ rfl) ?_)
     refine seq_c (s_new hI [iv x1] 3 (fun b => slv (some b) 1 1) (by kernel_rfl) ?_)
     intro b13 w hI
     refine seq_c (s_app hI Tryz.underlying41 (z := iv 0) (k := 1) (bytes := 8) (by kernel_rfl) rfl rfl 2 rfl rfl r12 [iv x1] rfl rfl (hI.cells 0 (off := 0) rfl (fun j u h => by rw [Nat.zero_add]; exact h)) (by simp [Value.oneCell']) (by omega) (by omega) ?_)
     intro g14 c15 cl16 w hI r17
     have r17 : Row 1 g14 (nn + 1 + 1) c15 cl16 (flat eInt ((out ++ [x]) ++ [x1])) := r17.snoc _ rfl
     refine pu (slv g14 (nn + 1 + 1) c15) (by kernel_rfl) (seq_nil (rgn (by kernel_rfl) (pu (iv (k : Int)) (by kernel_rfl) (seq_c (s_add rfl rfl (by omega) ?_)))))
     refine pu (iv ((k : Int) + 1)) (by kernel_rfl) (seq_nil ?_)
     exact ⟨rfl, _, (by omega), ⟨k + 1, (out ++ [x]) ++ [x1], true, nn + 1 + 1, g14, c15, cl16, ⟨rfl, rfl, rfl, rfl, rfl, trivial⟩, hI.pickL [2] (by decide) rfl, (by omega), (by have hd9 : d = true ∨ d = false := (by cases d <;> simp); rcases hd9 with hd9 | hd9 <;> (rw [putS_step hx2, hps]; simp only [putStep]; first | (simp_all; done) | (simp_all; omega))), (by first | exact hnn | (simp; omega)), r17, rfl⟩⟩
    ·intro h5
     refine seq_nil (wp_condF rfl (wp_skip (rgn (by kernel_rfl) (pu (iv (k : Int)) (by kernel_rfl) (seq_c (s_add rfl rfl (by omega) ?_))))))
     refine pu (iv ((k : Int) + 1)) (by kernel_rfl) (seq_nil ?_)
     exact ⟨rfl, _, (by omega), ⟨k + 1, out ++ [x], true, nn + 1, g9, c10, cl11, ⟨rfl, rfl, rfl, rfl, rfl, trivial⟩, hI.pickL [1] (by decide) rfl, (by omega), (by have hd9 : d = true ∨ d = false := (by cases d <;> simp); rcases hd9 with hd9 | hd9 <;> (rw [putS_step hx2, hps]; simp only [putStep]; first | (simp_all; done) | (simp_all; omega))), (by first | exact hnn | (simp; omega)), r12, rfl⟩⟩
   ·intro h6
    refine wp_skip (wp_seq (rgn (by kernel_rfl) (pu (.slice A n c) (by kernel_rfl) (pu (iv (k : Int)) (by kernel_rfl) (seq_c (s_indexA k Tryz.underlying41 Tryz.sizeOf3 rfl hA5 rfl rfl (by omega) ?_))))))
    refine seq_c (s_loadB1 hI (iv x1) Tryz.isAgg3 rfl hb6 (by simp) (he7 0 _ rfl) ?_)
    refine pu (iv x) (by kernel_rfl) (seq_c (s_neq rfl rfl ?_ ?_))
    ·intro h7
     refine seq_nil (wp_condT rfl (rgn (by kernel_rfl) (pu (slv gg nn cc) (by kernel_rfl) (pu (.slice A n c) (by kernel_rfl) (pu (iv (k : Int)) (by kernel_rfl) (seq_c (s_indexA k Tryz.underlying41 Tryz.sizeOf3 rfl hA5 rfl rfl (by omega) ?_)))))))
     refine seq_c (s_loadB1 hI (iv x1) Tryz.isAgg3 rfl hb6 (by simp) (he7 0 _ rfl) ?_)
     refine seq_c (s_new hI [iv x1] 3 (fun b => slv (some b) 1 1) (by kernel_rfl) ?_)
     intro b18 w hI
     refine seq_c (s_app hI Tryz.underlying41 (z := iv 0) (k := 1) (bytes := 8) (by kernel_rfl) rfl rfl 1 rfl rfl hrr [iv x1] rfl rfl (hI.cells 0 (off := 0) rfl (fun j u h => by rw [Nat.zero_add]; exact h)) (by simp [Value.oneCell']) (by omega) (by omega) ?_)
     intro g19 c20 cl21 w hI r22
     have r22 : Row 1 g19 (nn + 1) c20 cl21 (flat eInt (out ++ [x1])) := r22.snoc _ rfl
     refine pu (slv g19 (nn + 1) c20) (by kernel_rfl) (seq_nil (rgn (by kernel_rfl) (pu (iv (k : Int)) (by kernel_rfl) (seq_c (s_add rfl rfl (by omega) ?_)))))
     refine pu (iv ((k : Int) + 1)) (by kernel_rfl) (seq_nil ?_)
     exact ⟨rfl, _, (by omega), ⟨k + 1, out ++ [x1], d, nn + 1, g19, c20, cl21, ⟨rfl, rfl, rfl, rfl, rfl, trivial⟩, hI.pickL [1] (by decide) rfl, (by omega), (by have hd9 : d = true ∨ d = false := (by cases d <;> simp); rcases hd9 with hd9 | hd9 <;> (rw [putS_step hx2, hps]; simp only [putStep]; first | (simp_all; done) | (simp_all; omega))), (by first | exact hnn | (simp; omega)), r22, rfl⟩⟩
    ·intro h8
     refine seq_nil (wp_condF rfl (wp_skip (rgn (by kernel_rfl) (pu (iv (k : Int)) (by kernel_rfl) (seq_c (s_add rfl rfl (by omega) ?_))))))
     refine pu (iv ((k : Int) + 1)) (by kernel_rfl) (seq_nil ?_)
     exact ⟨rfl, _, (by omega), ⟨k + 1, out, d, nn, gg, cc, ccl, ⟨rfl, rfl, rfl, rfl, rfl, trivial⟩, hI.pickL [0] (by decide) rfl, (by omega), (by have hd9 : d = true ∨ d = false := (by cases d <;> simp); rcases hd9 with hd9 | hd9 <;> (rw [putS_step hx2, hps]; simp only [putStep]; first | (simp_all; done) | (simp_all; omega))), (by first | exact hnn | (simp; omega)), hrr, rfl⟩⟩
  ·intro h9
   refine pu (.bool false) (by kernel_rfl) (of_ (by kernel_rfl) (of_ (by kernel_rfl) (pu (.bool false) (by kernel_rfl) (seq_nil (wp_condF rfl (wp_skip (wp_seq (rgn (by kernel_rfl) (pu (.slice A n c) (by kernel_rfl) ?_)))))))))
   refine pu (iv (k : Int)) (by kernel_rfl) (seq_c (s_indexA k Tryz.underlying41 Tryz.sizeOf3 rfl hA5 rfl rfl (by omega) ?_))
   refine seq_c (s_loadB1 hI (iv x1) Tryz.isAgg3 rfl hb6 (by simp) (he7 0 _ rfl) ?_)
   refine pu (iv x) (by kernel_rfl) (seq_c (s_neq rfl rfl ?_ ?_))
   ·intro h10
    refine seq_nil (wp_condT rfl (rgn (by kernel_rfl) (pu (slv gg nn cc) (by kernel_rfl) (pu (.slice A n c) (by kernel_rfl) (pu (iv (k : Int)) (by kernel_rfl) (seq_c (s_indexA k Tryz.underlying41 Tryz.sizeOf3 rfl hA5 rfl rfl (by omega) ?_)))))))
    refine seq_c (s_loadB1 hI (iv x1) Tryz.isAgg3 rfl hb6 (by simp) (he7 0 _ rfl) ?_)
    refine seq_c (s_new hI [iv x1] 3 (fun b => slv (some b) 1 1) (by kernel_rfl) ?_)
    intro b23 w hI
    refine seq_c (s_app hI Tryz.underlying41 (z := iv 0) (k := 1) (bytes := 8) (by kernel_rfl) rfl rfl 1 rfl rfl hrr [iv x1] rfl rfl (hI.cells 0 (off := 0) rfl (fun j u h => by rw [Nat.zero_add]; exact h)) (by simp [Value.oneCell']) (by omega) (by omega) ?_)
    intro g24 c25 cl26 w hI r27
    have r27 : Row 1 g24 (nn + 1) c25 cl26 (flat eInt (out ++ [x1])) := r27.snoc _ rfl
    refine pu (slv g24 (nn + 1) c25) (by kernel_rfl) (seq_nil (rgn (by kernel_rfl) (pu (iv (k : Int)) (by kernel_rfl) (seq_c (s_add rfl rfl (by omega) ?_)))))
    refine pu (iv ((k : Int) + 1)) (by kernel_rfl) (seq_nil ?_)
    exact ⟨rfl, _, (by omega), ⟨k + 1, out ++ [x1], d, nn + 1, g24, c25, cl26, ⟨rfl, rfl, rfl, rfl, rfl, trivial⟩, hI.pickL [1] (by decide) rfl, (by omega), (by have hd9 : d = true ∨ d = false := (by cases d <;> simp); rcases hd9 with hd9 | hd9 <;> (rw [putS_step hx2, hps]; simp only [putStep]; first | (simp_all; done) | (simp_all; omega))), (by first | exact hnn | (simp; omega)), r27, rfl⟩⟩
   ·intro h11
    refine seq_nil (wp_condF rfl (wp_skip (rgn (by kernel_rfl) (pu (iv (k : Int)) (by kernel_rfl) (seq_c (s_add rfl rfl (by omega) ?_))))))
    refine pu (iv ((k : Int) + 1)) (by kernel_rfl) (seq_nil ?_)
    exact ⟨rfl, _, (by omega), ⟨k + 1, out, d, nn, gg, cc, ccl, ⟨rfl, rfl, rfl, rfl, rfl, trivial⟩, hI.pickL [0] (by decide) rfl, (by omega), (by have hd9 : d = true ∨ d = false := (by cases d <;> simp); rcases hd9 with hd9 | hd9 <;> (rw [putS_step hx2, hps]; simp only [putStep]; first | (simp_all; done) | (simp_all; omega))), (by first | exact hnn | (simp; omega)), hrr, rfl⟩⟩
 ·intro h12
  refine seq_nil (wp_condF rfl (wp_exit ?_))
  refine wp_seq (wp_seq (rgn (by kernel_rfl) (pu (.bool d) (by kernel_rfl) (pu (.bool (!d)) (by kernel_rfl) (seq_nil (wp_cond (t := !d) rfl ?_ ?_))))))
  ·intro h13
   refine rgn (by kernel_rfl) (pu (slv gg nn cc) (by kernel_rfl) (pu (iv x) (by kernel_rfl) (seq_c (s_new hI [iv x] 3 (fun b => slv (some b) 1 1) (by kernel_rfl) ?_))))
   intro b28 w hI
   refine seq_c (s_app hI Tryz.underlying41 (z := iv 0) (k := 1) (bytes := 8) (by kernel_rfl) rfl rfl 1 rfl rfl hrr [iv x] rfl rfl (hI.cells 0 (off := 0) rfl (fun j u h => by rw [Nat.zero_add]; exact h)) (by simp [Value.oneCell']) (by omega) (by omega) ?_)
   intro g29 c30 cl31 w hI r32
   have r32 : Row 1 g29 (nn + 1) c30 cl31 (flat eInt (out ++ [x])) := r32.snoc _ rfl
   refine pu (slv g29 (nn + 1) c30) (by kernel_rfl) (seq_nil (wp_seq (rgn (by kernel_rfl) (pu (slv g29 (nn + 1) c30) (by kernel_rfl) (pu (slv g29 (nn + 1) c30) (by kernel_rfl) (seq_nil (wp_ret ?_)))))))
   rw [List.take_of_length_le (by omega)] at hps
   exact ⟨slv g29 (nn + 1) c30, Ret.r1 rfl rfl, ⟨g29, c30, cl31, (by rw [show nn + 1 = (putF x l).length by simp_all [putF]]), hI.pickL [1] (by decide) rfl, r32.to (by simp_all [putF]) (by simp_all [putF])⟩⟩
  ·intro h14
   refine wp_skip (wp_seq (rgn (by kernel_rfl) (pu (slv gg nn cc) (by kernel_rfl) (pu (slv gg nn cc) (by kernel_rfl) (seq_nil (wp_ret ?_))))))
   rw [List.take_of_length_le (by omega)] at hps
   exact ⟨slv gg nn cc, Ret.r1 rfl rfl, ⟨gg, cc, ccl, (by rw [show nn = (putF x l).length by simp_all [putF]]), hI.pickL [0] (by decide) rfl, hrr.to (by simp_all [putF]) (by simp_all [putF])⟩⟩

theorem putF_len (x : Int) (l : List Int) : (putF x l).length ≤ l.length + 1 := by
  have := putS_len x l
  unfold putF
  generalize putS x l = s at this ⊢
  obtain ⟨o, d⟩ := s
  cases d <;> simp at this ⊢ <;> omega
def datesL (acc : List Int) (l : List Nt) : List Int := l.foldl (fun a y => putF (if y.u > y.k then y.u else y.k) (putF y.k a)) acc
def datesF (p : Pl) : List Int × Int := if plotB p then (datesL [] (notesOf p), 0) else ([], 13)
theorem datesL_step {α : Type} {acc : List Int} {q : α → Nt} {l : List α} {k : Nat} {x : α} (hx : l[k]? = some x) : datesL acc ((l.take (k + 1)).map q) = putF (if (q x).u > (q x).k then (q x).u else (q x).k) (putF (q x).k (datesL acc ((l.take k).map q))) := by
  rw [take_get hx, List.map_append, datesL, List.foldl_append]; rfl
theorem datesL_append (acc : List Int) (a b : List Nt) : datesL acc (a ++ b) = datesL (datesL acc a) b := by rw [datesL, List.foldl_append]; rfl

set_option maxHeartbeats 800000 in
theorem RefDates_c (w0 : World) (pl : Pl) (pA1 : Option Addr) (pn1 pc1 : Nat) (pA2 : Option Addr) (pn2 pc2 : Nat) (pA3 : Option Addr) (pn3 pc3 : Nat) (hP : PlotIn w0 pl pA1 pn1 pA2 pn2 pA3 pn3) : Does Tryz.prog 19 [.agg #[.int .i64 pl.lo, .int .i64 pl.hi, .slice pA1 pn1 pc1, .slice pA2 pn2 pc2, .slice pA3 pn3 pc3, .int .i64 pl.geese]] w0 fun v w => ∃ v1, v = .tuple #[v1, .int .i64 (datesF pl).2] ∧ Gives 1 3 none (datesF pl).1.length (flat eInt (datesF pl).1) w0 v1 w := by
 have hm1 := hP.m1; have hm2 := hP.m2; have hm3 := hP.m3
 refine calls_of (n := 99) Tryz.func19 rfl Tryz.ntmps19 rfl ?_
 have hI := Inv.start w0
 refine wp_seq (rgn (by kernel_rfl) (seq_c (s_boxI hI [iv pl.lo, iv pl.hi, .slice pA1 pn1 pc1, .slice pA2 pn2 pc2, .slice pA3 pn3 pc3, iv pl.geese] rfl ?_)))
 intro b1 w hI
 refine pu (.slice none 0 0) (by kernel_rfl) (pu (iv 0) (by kernel_rfl) (seq_nil (wp_seq (wp_seq (rgn (by kernel_rfl) (seq_c (s_loadK hI 0 6 [iv pl.lo, iv pl.hi, .slice pA1 pn1 pc1, .slice pA2 pn2 pc2, .slice pA3 pn3 pc3, iv pl.geese] Tryz.isAgg28 Tryz.sizeOf28 rfl rfl rfl rfl ?_)))))))
 refine seq_c (s_callv hI 23 [.agg #[iv pl.lo, iv pl.hi, .slice pA1 pn1 pc1, .slice pA2 pn2 pc2, .slice pA3 pn3 pc3, iv pl.geese]] (iv (codeI (plotB pl) 13)) (by kernel_rfl) (RefCheck_c _ pl pA1 pn1 pc1 pA2 pn2 pc2 pA3 pn3 pc3 (hP.inv0 hI)) ?_)
 intro w hI
 refine seq_c (s_neq rfl rfl ?_ ?_)
 ·intro h1
  refine seq_nil (wp_condT rfl (wp_seq (rgn (by kernel_rfl) (pu (.slice none 0 0) (by kernel_rfl) (pu (iv 13) (by kernel_rfl) (seq_nil (wp_ret ?_)))))))
  have hI := hI.nilRow 3
  have e : datesF pl = ([], 13) := by simp [datesF, codeI, codeI_no h1]
  exact ⟨.tuple #[.slice none 0 0, iv 13], Ret.r2 rfl rfl rfl, (by rw [e]; exact ⟨.slice none 0 0, rfl, none, 0, [], rfl, hI.pickL [0] (by decide) rfl, Row.nil_ 1⟩)⟩
 ·intro h2
  refine seq_nil (wp_condF rfl (wp_skip (wp_seq (rgn (by kernel_rfl) (pu (.slice none 0 0) (by kernel_rfl) (seq_nil (wp_seq (wp_seq (rgn (by kernel_rfl) ?_)))))))))
  refine pu (iv 0) (by kernel_rfl) (seq_nil (wp_block ?_))
  have hok := codeI_ok h2 (by decide); have hsm := plotB_small hok; have hs1 := hsm.s1; have hs2 := hsm.s2; have hs3 := hsm.s3
  have hI := hI.nilRow 3
  refine wp_loop (fun m ρ w => ∃ (k0 : Nat) (acc0 : List Int) (nn0 : Nat) (gg0 : Option Nat) (cc0 : Nat) (ccl0 : List Value), Agree ρ [(1, .pointer (some ⟨b1, 0, none⟩)), (4, slv gg0 nn0 cc0), (5, iv (k0 : Int))] ∧ Inv none w0 w [(gg0, blk ccl0 3), (some b1, blk [iv pl.lo, iv pl.hi, .slice pA1 pn1 pc1, .slice pA2 pn2 pc2, .slice pA3 pn3 pc3, iv pl.geese] 28)] ∧ (k0 ≤ pn1) ∧ (acc0 = datesL [] ((pl.loads.take k0).map ntL)) ∧ (nn0 = acc0.length) ∧ (nn0 ≤ 0 + 2 * k0) ∧ (Row 1 gg0 (nn0) cc0 ccl0 (flat eInt (acc0))) ∧ m = pn1 - k0) (m := pn1 - 0) ⟨0, [], 0, none, 0, [], ⟨rfl, rfl, rfl, trivial⟩, hI.pickL [0, 1] (by decide) rfl, (by omega), rfl, rfl, (by omega), (Row.nil_ 1), rfl⟩ ?_
  rintro m ρ w ⟨k0, acc0, nn0, gg0, cc0, ccl0, hag, hI, hk0, hac0, hnn0, hbd0, hrr0, hm⟩
  obtain ⟨ρ, rfl⟩ := hag.form; clear hag
  refine wp_seq (wp_seq (rgn (by kernel_rfl) (pu (iv (k0 : Int)) (by kernel_rfl) (pu (.pointer (some ⟨b1, 2, none⟩)) (by kernel_rfl) (seq_c (s_load1 hI 1 (.slice pA1 pn1 pc1) Tryz.isAgg24 rfl rfl rfl ?_))))))
  refine pu (iv ((pn1 : Nat) : Int)) (by kernel_rfl) (seq_c (s_lss rfl rfl ?_ ?_))
  ·intro h3
   refine seq_nil (wp_condT rfl (wp_skip (wp_seq (wp_block ?_))))
   refine wp_drawn2 hI [0, 1] (by decide) rfl (by kernel_rfl) (by kernel_rfl) ?_
   intro hsub
   refine alp 0 (slv gg0 nn0 cc0) hsub rfl (by kernel_rfl) (fun _ => (by kernel_rfl)) ?_
   refine alp 1 (.pointer (some ⟨b1, 2, none⟩)) hsub rfl (by kernel_rfl) (fun _ => (by kernel_rfl)) ?_
   refine al_light 2 (.slice pA1 pn1 pc1) hsub rfl (by kernel_rfl) (fun w hI => s_load1 hI 1 (.slice pA1 pn1 pc1) Tryz.isAgg24 rfl rfl rfl ⟨rfl, Below.refl _ _⟩) ?_
   refine alp 3 (iv (k0 : Int)) hsub rfl (by kernel_rfl) (fun _ => (by kernel_rfl)) ?_
   obtain ⟨x2, hx3⟩ := get_lt (l := pl.loads) (i := k0) (by omega)
   obtain ⟨b4, o5, hA6, hb7, he8⟩ := hP.c1.at_ eLd_len (by decide) hx3
   refine al_light 4 (.pointer (some ⟨b4, o5 + k0 * 6, none⟩)) hsub rfl (by kernel_rfl) (fun w hI => s_indexA k0 Tryz.underlying24 Tryz.sizeOf30 rfl hA6 rfl rfl (by omega) ⟨rfl, Below.refl _ _⟩) ?_
   refine alp 5 (.pointer (some ⟨b4, o5 + k0 * 6 + 4, none⟩)) hsub rfl (by kernel_rfl) (fun _ => (by kernel_rfl)) ?_
   refine al_light 6 (iv x2.kn) hsub rfl (by kernel_rfl) (fun w hI => s_loadB1 hI (iv x2.kn) Tryz.isAgg3 rfl hb7 (by simp) (he8 4 _ rfl) ⟨rfl, Below.refl _ _⟩) ?_
   refine alp 8 (.pointer (some ⟨b1, 2, none⟩)) hsub rfl (by kernel_rfl) (fun _ => (by kernel_rfl)) ?_
   refine al_light 9 (.slice pA1 pn1 pc1) hsub rfl (by kernel_rfl) (fun w hI => s_load1 hI 1 (.slice pA1 pn1 pc1) Tryz.isAgg24 rfl rfl rfl ⟨rfl, Below.refl _ _⟩) ?_
   refine alp 10 (iv (k0 : Int)) hsub rfl (by kernel_rfl) (fun _ => (by kernel_rfl)) ?_
   refine al_light 11 (.pointer (some ⟨b4, o5 + k0 * 6, none⟩)) hsub rfl (by kernel_rfl) (fun w hI => s_indexA k0 Tryz.underlying24 Tryz.sizeOf30 rfl hA6 rfl rfl (by omega) ⟨rfl, Below.refl _ _⟩) ?_
   refine alp 12 (.pointer (some ⟨b4, o5 + k0 * 6 + 4, none⟩)) hsub rfl (by kernel_rfl) (fun _ => (by kernel_rfl)) ?_
   refine al_light 13 (iv x2.kn) hsub rfl (by kernel_rfl) (fun w hI => s_loadB1 hI (iv x2.kn) Tryz.isAgg3 rfl hb7 (by simp) (he8 4 _ rfl) ⟨rfl, Below.refl _ _⟩) ?_
   refine alp 14 (.pointer (some ⟨b1, 2, none⟩)) hsub rfl (by kernel_rfl) (fun _ => (by kernel_rfl)) ?_
   refine al_light 15 (.slice pA1 pn1 pc1) hsub rfl (by kernel_rfl) (fun w hI => s_load1 hI 1 (.slice pA1 pn1 pc1) Tryz.isAgg24 rfl rfl rfl ⟨rfl, Below.refl _ _⟩) ?_
   refine alp 16 (iv (k0 : Int)) hsub rfl (by kernel_rfl) (fun _ => (by kernel_rfl)) ?_
   refine al_light 17 (.pointer (some ⟨b4, o5 + k0 * 6, none⟩)) hsub rfl (by kernel_rfl) (fun w hI => s_indexA k0 Tryz.underlying24 Tryz.sizeOf30 rfl hA6 rfl rfl (by omega) ⟨rfl, Below.refl _ _⟩) ?_
   refine alp 18 (.pointer (some ⟨b4, o5 + k0 * 6 + 5, none⟩)) hsub rfl (by kernel_rfl) (fun _ => (by kernel_rfl)) ?_
   refine al_light 19 (iv x2.un) hsub rfl (by kernel_rfl) (fun w hI => s_loadB1 hI (iv x2.un) Tryz.isAgg3 rfl hb7 (by simp) (he8 5 _ rfl) ⟨rfl, Below.refl _ _⟩) ?_
   refine alp 20 (iv (if x2.un > x2.kn then x2.un else x2.kn)) hsub rfl (by kernel_rfl) (fun _ => (by kernel_rfl)) ?_
   refine any_heavy [7] (by kernel_rfl) rfl (each1 ?_)
   intro w hI
   refine ol_c rfl (s_callNew hI 71 [slv gg0 nn0 cc0, iv x2.kn] (by kernel_rfl) (Put_c _ acc0 (gg0.map fun b => ⟨b, 0, none⟩) nn0 cc0 x2.kn (by omega) (by omega) (hI.rowCells 0 rfl hrr0)) ?_)
   intro g9 c10 cl11 w hI r12
   refine ⟨_, hI, subk (fun _ h => h.pickL [1, 2] (by decide) rfl) ?_⟩
   intro hsub
   have r12 : Row 1 g9 ((putF x2.kn acc0).length) c10 cl11 (flat eInt (putF x2.kn acc0)) := r12
   have := putF_len x2.kn acc0
   refine any_heavy [21] (by kernel_rfl) rfl (each1 ?_)
   intro w hI
   refine ol_c rfl (s_callNew hI 71 [slv g9 ((putF x2.kn acc0).length) c10, iv (if x2.un > x2.kn then x2.un else x2.kn)] (by kernel_rfl) (Put_c _ (putF x2.kn acc0) (g9.map fun b => ⟨b, 0, none⟩) ((putF x2.kn acc0).length) c10 (if x2.un > x2.kn then x2.un else x2.kn) (r12.n_eq eInt_len (by decide)) (by omega) (hI.rowCells 0 rfl r12)) ?_)
   intro g13 c14 cl15 w hI r16
   refine ⟨_, hI, subk (fun _ h => h.pickL [2, 3] (by decide) rfl) ?_⟩
   intro hsub
   have r16 : Row 1 g13 ((putF (if x2.un > x2.kn then x2.un else x2.kn) (putF x2.kn acc0)).length) c14 cl15 (flat eInt (putF (if x2.un > x2.kn then x2.un else x2.kn) (putF x2.kn acc0))) := r16
   have := putF_len (if x2.un > x2.kn then x2.un else x2.kn) (putF x2.kn acc0)
   refine alp 22 (slv g13 ((putF (if x2.un > x2.kn then x2.un else x2.kn) (putF x2.kn acc0)).length) c14) hsub rfl (by kernel_rfl) (fun _ => (by kernel_rfl)) ?_
   refine any_end (by kernel_rfl) (fun w hI => ?_)
   refine rgn (by kernel_rfl) (pu (iv (k0 : Int)) (by kernel_rfl) (seq_c (s_add rfl rfl (by omega) ?_)))
   refine pu (iv ((k0 : Int) + 1)) (by kernel_rfl) (seq_nil ?_)
   exact ⟨rfl, _, (by omega), ⟨k0 + 1, putF (if x2.un > x2.kn then x2.un else x2.kn) (putF x2.kn acc0), (putF (if x2.un > x2.kn then x2.un else x2.kn) (putF x2.kn acc0)).length, g13, c14, cl15, ⟨rfl, rfl, rfl, trivial⟩, hI.pickL [0, 3] (by decide) rfl, (by omega), (by rw [datesL_step hx3, ← hac0]; rfl), rfl, (by omega), r16, rfl⟩⟩
  ·intro h4
   refine seq_nil (wp_condF rfl (wp_exit ?_))
   refine wp_seq (wp_seq (rgn (by kernel_rfl) (pu (iv 0) (by kernel_rfl) (seq_nil (wp_block ?_)))))
   refine wp_loop (fun m ρ w => ∃ (k1 : Nat) (acc1 : List Int) (nn1 : Nat) (gg1 : Option Nat) (cc1 : Nat) (ccl1 : List Value), Agree ρ [(1, .pointer (some ⟨b1, 0, none⟩)), (4, slv gg1 nn1 cc1), (6, iv (k1 : Int))] ∧ Inv none w0 w [(gg1, blk ccl1 3), (some b1, blk [iv pl.lo, iv pl.hi, .slice pA1 pn1 pc1, .slice pA2 pn2 pc2, .slice pA3 pn3 pc3, iv pl.geese] 28)] ∧ (k1 ≤ pn2) ∧ (acc1 = datesL acc0 ((pl.stands.take k1).map ntL)) ∧ (nn1 = acc1.length) ∧ (nn1 ≤ 120 + 2 * k1) ∧ (Row 1 gg1 (nn1) cc1 ccl1 (flat eInt (acc1))) ∧ m = pn2 - k1) (m := pn2 - 0) ⟨0, acc0, nn0, gg0, cc0, ccl0, ⟨rfl, rfl, rfl, trivial⟩, hI.pickL [0, 1] (by decide) rfl, (by omega), rfl, hnn0, (by omega), hrr0, rfl⟩ ?_
   rintro m ρ w ⟨k1, acc1, nn1, gg1, cc1, ccl1, hag, hI, hk1, hac1, hnn1, hbd1, hrr1, hm⟩
   obtain ⟨ρ, rfl⟩ := hag.form; clear hag
   refine wp_seq (wp_seq (rgn (by kernel_rfl) (pu (iv (k1 : Int)) (by kernel_rfl) (pu (.pointer (some ⟨b1, 3, none⟩)) (by kernel_rfl) (seq_c (s_load1 hI 1 (.slice pA2 pn2 pc2) Tryz.isAgg25 rfl rfl rfl ?_))))))
   refine pu (iv ((pn2 : Nat) : Int)) (by kernel_rfl) (seq_c (s_lss rfl rfl ?_ ?_))
   ·intro h5
    refine seq_nil (wp_condT rfl (wp_skip (wp_seq (wp_block ?_))))
    refine wp_drawn2 hI [0, 1] (by decide) rfl (by kernel_rfl) (by kernel_rfl) ?_
    intro hsub
    refine alp 0 (slv gg1 nn1 cc1) hsub rfl (by kernel_rfl) (fun _ => (by kernel_rfl)) ?_
    refine alp 1 (.pointer (some ⟨b1, 3, none⟩)) hsub rfl (by kernel_rfl) (fun _ => (by kernel_rfl)) ?_
    refine al_light 2 (.slice pA2 pn2 pc2) hsub rfl (by kernel_rfl) (fun w hI => s_load1 hI 1 (.slice pA2 pn2 pc2) Tryz.isAgg25 rfl rfl rfl ⟨rfl, Below.refl _ _⟩) ?_
    refine alp 3 (iv (k1 : Int)) hsub rfl (by kernel_rfl) (fun _ => (by kernel_rfl)) ?_
    obtain ⟨x17, hx18⟩ := get_lt (l := pl.stands) (i := k1) (by omega)
    obtain ⟨b19, o20, hA21, hb22, he23⟩ := hP.c2.at_ eLd_len (by decide) hx18
    refine al_light 4 (.pointer (some ⟨b19, o20 + k1 * 6, none⟩)) hsub rfl (by kernel_rfl) (fun w hI => s_indexA k1 Tryz.underlying25 Tryz.sizeOf31 rfl hA21 rfl rfl (by omega) ⟨rfl, Below.refl _ _⟩) ?_
    refine alp 5 (.pointer (some ⟨b19, o20 + k1 * 6 + 4, none⟩)) hsub rfl (by kernel_rfl) (fun _ => (by kernel_rfl)) ?_
    refine al_light 6 (iv x17.kn) hsub rfl (by kernel_rfl) (fun w hI => s_loadB1 hI (iv x17.kn) Tryz.isAgg3 rfl hb22 (by simp) (he23 4 _ rfl) ⟨rfl, Below.refl _ _⟩) ?_
    refine alp 8 (.pointer (some ⟨b1, 3, none⟩)) hsub rfl (by kernel_rfl) (fun _ => (by kernel_rfl)) ?_
    refine al_light 9 (.slice pA2 pn2 pc2) hsub rfl (by kernel_rfl) (fun w hI => s_load1 hI 1 (.slice pA2 pn2 pc2) Tryz.isAgg25 rfl rfl rfl ⟨rfl, Below.refl _ _⟩) ?_
    refine alp 10 (iv (k1 : Int)) hsub rfl (by kernel_rfl) (fun _ => (by kernel_rfl)) ?_
    refine al_light 11 (.pointer (some ⟨b19, o20 + k1 * 6, none⟩)) hsub rfl (by kernel_rfl) (fun w hI => s_indexA k1 Tryz.underlying25 Tryz.sizeOf31 rfl hA21 rfl rfl (by omega) ⟨rfl, Below.refl _ _⟩) ?_
    refine alp 12 (.pointer (some ⟨b19, o20 + k1 * 6 + 4, none⟩)) hsub rfl (by kernel_rfl) (fun _ => (by kernel_rfl)) ?_
    refine al_light 13 (iv x17.kn) hsub rfl (by kernel_rfl) (fun w hI => s_loadB1 hI (iv x17.kn) Tryz.isAgg3 rfl hb22 (by simp) (he23 4 _ rfl) ⟨rfl, Below.refl _ _⟩) ?_
    refine alp 14 (.pointer (some ⟨b1, 3, none⟩)) hsub rfl (by kernel_rfl) (fun _ => (by kernel_rfl)) ?_
    refine al_light 15 (.slice pA2 pn2 pc2) hsub rfl (by kernel_rfl) (fun w hI => s_load1 hI 1 (.slice pA2 pn2 pc2) Tryz.isAgg25 rfl rfl rfl ⟨rfl, Below.refl _ _⟩) ?_
    refine alp 16 (iv (k1 : Int)) hsub rfl (by kernel_rfl) (fun _ => (by kernel_rfl)) ?_
    refine al_light 17 (.pointer (some ⟨b19, o20 + k1 * 6, none⟩)) hsub rfl (by kernel_rfl) (fun w hI => s_indexA k1 Tryz.underlying25 Tryz.sizeOf31 rfl hA21 rfl rfl (by omega) ⟨rfl, Below.refl _ _⟩) ?_
    refine alp 18 (.pointer (some ⟨b19, o20 + k1 * 6 + 5, none⟩)) hsub rfl (by kernel_rfl) (fun _ => (by kernel_rfl)) ?_
    refine al_light 19 (iv x17.un) hsub rfl (by kernel_rfl) (fun w hI => s_loadB1 hI (iv x17.un) Tryz.isAgg3 rfl hb22 (by simp) (he23 5 _ rfl) ⟨rfl, Below.refl _ _⟩) ?_
    refine alp 20 (iv (if x17.un > x17.kn then x17.un else x17.kn)) hsub rfl (by kernel_rfl) (fun _ => (by kernel_rfl)) ?_
    refine any_heavy [7] (by kernel_rfl) rfl (each1 ?_)
    intro w hI
    refine ol_c rfl (s_callNew hI 71 [slv gg1 nn1 cc1, iv x17.kn] (by kernel_rfl) (Put_c _ acc1 (gg1.map fun b => ⟨b, 0, none⟩) nn1 cc1 x17.kn (by omega) (by omega) (hI.rowCells 0 rfl hrr1)) ?_)
    intro g24 c25 cl26 w hI r27
    refine ⟨_, hI, subk (fun _ h => h.pickL [1, 2] (by decide) rfl) ?_⟩
    intro hsub
    have r27 : Row 1 g24 ((putF x17.kn acc1).length) c25 cl26 (flat eInt (putF x17.kn acc1)) := r27
    have := putF_len x17.kn acc1
    refine any_heavy [21] (by kernel_rfl) rfl (each1 ?_)
    intro w hI
    refine ol_c rfl (s_callNew hI 71 [slv g24 ((putF x17.kn acc1).length) c25, iv (if x17.un > x17.kn then x17.un else x17.kn)] (by kernel_rfl) (Put_c _ (putF x17.kn acc1) (g24.map fun b => ⟨b, 0, none⟩) ((putF x17.kn acc1).length) c25 (if x17.un > x17.kn then x17.un else x17.kn) (r27.n_eq eInt_len (by decide)) (by omega) (hI.rowCells 0 rfl r27)) ?_)
    intro g28 c29 cl30 w hI r31
    refine ⟨_, hI, subk (fun _ h => h.pickL [2, 3] (by decide) rfl) ?_⟩
    intro hsub
    have r31 : Row 1 g28 ((putF (if x17.un > x17.kn then x17.un else x17.kn) (putF x17.kn acc1)).length) c29 cl30 (flat eInt (putF (if x17.un > x17.kn then x17.un else x17.kn) (putF x17.kn acc1))) := r31
    have := putF_len (if x17.un > x17.kn then x17.un else x17.kn) (putF x17.kn acc1)
    refine alp 22 (slv g28 ((putF (if x17.un > x17.kn then x17.un else x17.kn) (putF x17.kn acc1)).length) c29) hsub rfl (by kernel_rfl) (fun _ => (by kernel_rfl)) ?_
    refine any_end (by kernel_rfl) (fun w hI => ?_)
    refine rgn (by kernel_rfl) (pu (iv (k1 : Int)) (by kernel_rfl) (seq_c (s_add rfl rfl (by omega) ?_)))
    refine pu (iv ((k1 : Int) + 1)) (by kernel_rfl) (seq_nil ?_)
    exact ⟨rfl, _, (by omega), ⟨k1 + 1, putF (if x17.un > x17.kn then x17.un else x17.kn) (putF x17.kn acc1), (putF (if x17.un > x17.kn then x17.un else x17.kn) (putF x17.kn acc1)).length, g28, c29, cl30, ⟨rfl, rfl, rfl, trivial⟩, hI.pickL [0, 3] (by decide) rfl, (by omega), (by rw [datesL_step hx18, ← hac1]; rfl), rfl, (by omega), r31, rfl⟩⟩
   ·intro h6
    refine seq_nil (wp_condF rfl (wp_exit ?_))
    refine wp_seq (wp_seq (rgn (by kernel_rfl) (pu (iv 0) (by kernel_rfl) (seq_nil (wp_block ?_)))))
    refine wp_loop (fun m ρ w => ∃ (k2 : Nat) (acc2 : List Int) (nn2 : Nat) (gg2 : Option Nat) (cc2 : Nat) (ccl2 : List Value), Agree ρ [(1, .pointer (some ⟨b1, 0, none⟩)), (4, slv gg2 nn2 cc2), (7, iv (k2 : Int))] ∧ Inv none w0 w [(gg2, blk ccl2 3), (some b1, blk [iv pl.lo, iv pl.hi, .slice pA1 pn1 pc1, .slice pA2 pn2 pc2, .slice pA3 pn3 pc3, iv pl.geese] 28)] ∧ (k2 ≤ pn3) ∧ (acc2 = datesL acc1 ((pl.spells.take k2).map ntS)) ∧ (nn2 = acc2.length) ∧ (nn2 ≤ 240 + 2 * k2) ∧ (Row 1 gg2 (nn2) cc2 ccl2 (flat eInt (acc2))) ∧ m = pn3 - k2) (m := pn3 - 0) ⟨0, acc1, nn1, gg1, cc1, ccl1, ⟨rfl, rfl, rfl, trivial⟩, hI.pickL [0, 1] (by decide) rfl, (by omega), rfl, hnn1, (by omega), hrr1, rfl⟩ ?_
    rintro m ρ w ⟨k2, acc2, nn2, gg2, cc2, ccl2, hag, hI, hk2, hac2, hnn2, hbd2, hrr2, hm⟩
    obtain ⟨ρ, rfl⟩ := hag.form; clear hag
    refine wp_seq (wp_seq (rgn (by kernel_rfl) (pu (iv (k2 : Int)) (by kernel_rfl) (pu (.pointer (some ⟨b1, 4, none⟩)) (by kernel_rfl) (seq_c (s_load1 hI 1 (.slice pA3 pn3 pc3) Tryz.isAgg26 rfl rfl rfl ?_))))))
    refine pu (iv ((pn3 : Nat) : Int)) (by kernel_rfl) (seq_c (s_lss rfl rfl ?_ ?_))
    ·intro h7
     refine seq_nil (wp_condT rfl (wp_skip (wp_seq (wp_block ?_))))
     refine wp_drawn2 hI [0, 1] (by decide) rfl (by kernel_rfl) (by kernel_rfl) ?_
     intro hsub
     refine alp 0 (slv gg2 nn2 cc2) hsub rfl (by kernel_rfl) (fun _ => (by kernel_rfl)) ?_
     refine alp 1 (.pointer (some ⟨b1, 4, none⟩)) hsub rfl (by kernel_rfl) (fun _ => (by kernel_rfl)) ?_
     refine al_light 2 (.slice pA3 pn3 pc3) hsub rfl (by kernel_rfl) (fun w hI => s_load1 hI 1 (.slice pA3 pn3 pc3) Tryz.isAgg26 rfl rfl rfl ⟨rfl, Below.refl _ _⟩) ?_
     refine alp 3 (iv (k2 : Int)) hsub rfl (by kernel_rfl) (fun _ => (by kernel_rfl)) ?_
     obtain ⟨x32, hx33⟩ := get_lt (l := pl.spells) (i := k2) (by omega)
     obtain ⟨b34, o35, hA36, hb37, he38⟩ := hP.c3.at_ eSp_len (by decide) hx33
     refine al_light 4 (.pointer (some ⟨b34, o35 + k2 * 6, none⟩)) hsub rfl (by kernel_rfl) (fun w hI => s_indexA k2 Tryz.underlying26 Tryz.sizeOf33 rfl hA36 rfl rfl (by omega) ⟨rfl, Below.refl _ _⟩) ?_
     refine alp 5 (.pointer (some ⟨b34, o35 + k2 * 6 + 4, none⟩)) hsub rfl (by kernel_rfl) (fun _ => (by kernel_rfl)) ?_
     refine al_light 6 (iv x32.kn) hsub rfl (by kernel_rfl) (fun w hI => s_loadB1 hI (iv x32.kn) Tryz.isAgg3 rfl hb37 (by simp) (he38 4 _ rfl) ⟨rfl, Below.refl _ _⟩) ?_
     refine alp 8 (.pointer (some ⟨b1, 4, none⟩)) hsub rfl (by kernel_rfl) (fun _ => (by kernel_rfl)) ?_
     refine al_light 9 (.slice pA3 pn3 pc3) hsub rfl (by kernel_rfl) (fun w hI => s_load1 hI 1 (.slice pA3 pn3 pc3) Tryz.isAgg26 rfl rfl rfl ⟨rfl, Below.refl _ _⟩) ?_
     refine alp 10 (iv (k2 : Int)) hsub rfl (by kernel_rfl) (fun _ => (by kernel_rfl)) ?_
     refine al_light 11 (.pointer (some ⟨b34, o35 + k2 * 6, none⟩)) hsub rfl (by kernel_rfl) (fun w hI => s_indexA k2 Tryz.underlying26 Tryz.sizeOf33 rfl hA36 rfl rfl (by omega) ⟨rfl, Below.refl _ _⟩) ?_
     refine alp 12 (.pointer (some ⟨b34, o35 + k2 * 6 + 4, none⟩)) hsub rfl (by kernel_rfl) (fun _ => (by kernel_rfl)) ?_
     refine al_light 13 (iv x32.kn) hsub rfl (by kernel_rfl) (fun w hI => s_loadB1 hI (iv x32.kn) Tryz.isAgg3 rfl hb37 (by simp) (he38 4 _ rfl) ⟨rfl, Below.refl _ _⟩) ?_
     refine alp 14 (.pointer (some ⟨b1, 4, none⟩)) hsub rfl (by kernel_rfl) (fun _ => (by kernel_rfl)) ?_
     refine al_light 15 (.slice pA3 pn3 pc3) hsub rfl (by kernel_rfl) (fun w hI => s_load1 hI 1 (.slice pA3 pn3 pc3) Tryz.isAgg26 rfl rfl rfl ⟨rfl, Below.refl _ _⟩) ?_
     refine alp 16 (iv (k2 : Int)) hsub rfl (by kernel_rfl) (fun _ => (by kernel_rfl)) ?_
     refine al_light 17 (.pointer (some ⟨b34, o35 + k2 * 6, none⟩)) hsub rfl (by kernel_rfl) (fun w hI => s_indexA k2 Tryz.underlying26 Tryz.sizeOf33 rfl hA36 rfl rfl (by omega) ⟨rfl, Below.refl _ _⟩) ?_
     refine alp 18 (.pointer (some ⟨b34, o35 + k2 * 6 + 5, none⟩)) hsub rfl (by kernel_rfl) (fun _ => (by kernel_rfl)) ?_
     refine al_light 19 (iv x32.un) hsub rfl (by kernel_rfl) (fun w hI => s_loadB1 hI (iv x32.un) Tryz.isAgg3 rfl hb37 (by simp) (he38 5 _ rfl) ⟨rfl, Below.refl _ _⟩) ?_
     refine alp 20 (iv (if x32.un > x32.kn then x32.un else x32.kn)) hsub rfl (by kernel_rfl) (fun _ => (by kernel_rfl)) ?_
     refine any_heavy [7] (by kernel_rfl) rfl (each1 ?_)
     intro w hI
     refine ol_c rfl (s_callNew hI 71 [slv gg2 nn2 cc2, iv x32.kn] (by kernel_rfl) (Put_c _ acc2 (gg2.map fun b => ⟨b, 0, none⟩) nn2 cc2 x32.kn (by omega) (by omega) (hI.rowCells 0 rfl hrr2)) ?_)
     intro g39 c40 cl41 w hI r42
     refine ⟨_, hI, subk (fun _ h => h.pickL [1, 2] (by decide) rfl) ?_⟩
     intro hsub
     have r42 : Row 1 g39 ((putF x32.kn acc2).length) c40 cl41 (flat eInt (putF x32.kn acc2)) := r42
     have := putF_len x32.kn acc2
     refine any_heavy [21] (by kernel_rfl) rfl (each1 ?_)
     intro w hI
     refine ol_c rfl (s_callNew hI 71 [slv g39 ((putF x32.kn acc2).length) c40, iv (if x32.un > x32.kn then x32.un else x32.kn)] (by kernel_rfl) (Put_c _ (putF x32.kn acc2) (g39.map fun b => ⟨b, 0, none⟩) ((putF x32.kn acc2).length) c40 (if x32.un > x32.kn then x32.un else x32.kn) (r42.n_eq eInt_len (by decide)) (by omega) (hI.rowCells 0 rfl r42)) ?_)
     intro g43 c44 cl45 w hI r46
     refine ⟨_, hI, subk (fun _ h => h.pickL [2, 3] (by decide) rfl) ?_⟩
     intro hsub
     have r46 : Row 1 g43 ((putF (if x32.un > x32.kn then x32.un else x32.kn) (putF x32.kn acc2)).length) c44 cl45 (flat eInt (putF (if x32.un > x32.kn then x32.un else x32.kn) (putF x32.kn acc2))) := r46
     have := putF_len (if x32.un > x32.kn then x32.un else x32.kn) (putF x32.kn acc2)
     refine alp 22 (slv g43 ((putF (if x32.un > x32.kn then x32.un else x32.kn) (putF x32.kn acc2)).length) c44) hsub rfl (by kernel_rfl) (fun _ => (by kernel_rfl)) ?_
     refine any_end (by kernel_rfl) (fun w hI => ?_)
     refine rgn (by kernel_rfl) (pu (iv (k2 : Int)) (by kernel_rfl) (seq_c (s_add rfl rfl (by omega) ?_)))
     refine pu (iv ((k2 : Int) + 1)) (by kernel_rfl) (seq_nil ?_)
     exact ⟨rfl, _, (by omega), ⟨k2 + 1, putF (if x32.un > x32.kn then x32.un else x32.kn) (putF x32.kn acc2), (putF (if x32.un > x32.kn then x32.un else x32.kn) (putF x32.kn acc2)).length, g43, c44, cl45, ⟨rfl, rfl, rfl, trivial⟩, hI.pickL [0, 3] (by decide) rfl, (by omega), (by rw [datesL_step hx33, ← hac2]; rfl), rfl, (by omega), r46, rfl⟩⟩
    ·intro h8
     refine seq_nil (wp_condF rfl (wp_exit ?_))
     refine wp_seq (rgn (by kernel_rfl) (pu (slv gg2 nn2 cc2) (by kernel_rfl) (pu (slv gg2 nn2 cc2) (by kernel_rfl) (pu (iv 0) (by kernel_rfl) (seq_nil (wp_ret ?_))))))
     rw [List.take_of_length_le (by omega)] at hac0 hac1 hac2
     have ha : acc2 = datesL [] (notesOf pl) := by rw [hac2, hac1, hac0, notesOf, datesL_append, datesL_append]
     have e : datesF pl = (acc2, 0) := by simp [datesF, hok, ha]
     exact ⟨.tuple #[slv gg2 nn2 cc2, iv 0], Ret.r2 rfl rfl rfl, (by rw [e]; exact ⟨slv gg2 nn2 cc2, rfl, gg2, cc2, ccl2, (by rw [hnn2]), hI.pickL [0] (by decide) rfl, hrr2.to rfl hnn2⟩)⟩

end Go.K
