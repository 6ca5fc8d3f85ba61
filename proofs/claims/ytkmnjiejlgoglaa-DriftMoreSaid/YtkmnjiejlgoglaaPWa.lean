/- That the functions do what the pure definitions say: walks, as tools/lift.py writes them. No condition. -/
import Derived.Test.YtkmnjiejlgoglaaProg
import Derived.Test.YtkmnjiejlgoglaaPKK1
import Derived.Test.YtkmnjiejlgoglaaPKK2
import Derived.Test.YtkmnjiejlgoglaaPD
import Derived.Tactics2
namespace Go.K
open Go.Proofs Go.RowKit
set_option linter.unusedVariables false
set_option maxRecDepth 100000
theorem eq28 (n : Nat) (x0 x1 y0 y1 : Int) (w : World) : (Op.equalIn (n + 2) 28 (.agg #[.int .i64 x0, .int .i64 x1]) (.agg #[.int .i64 y0, .int .i64 y1])).run Try.prog w = .ok (decide (x0 = y0) && decide (x1 = y1)) w := by
  have u3 := Try.underlying3; have a3 := Try.isAgg3; have z3 := Try.sizeOf3
  have hS : Try.prog.underlying 28 = some (.struct (Try.prog.fieldsOf 28)) := by kernel_rfl
  rw [show n + 2 = (n + 1) + 1 from rfl, run_equalIn_agg w (n + 1) 28 _ _ hS (by kernel_rfl)]
  simp only [Program.fieldsOf, Try.underlying28]
  go_simp
  by_cases h0 : x0 = y0 <;> by_cases h1 : x1 = y1 <;> simp [h0, h1]
theorem eq34 (n : Nat) (x0 x1 x2 x3 y0 y1 y2 y3 : Int) (w : World) : (Op.equalIn (n + 2) 34 (.agg #[.int .i64 x0, .int .i64 x1, .int .i64 x2, .int .i64 x3]) (.agg #[.int .i64 y0, .int .i64 y1, .int .i64 y2, .int .i64 y3])).run Try.prog w = .ok (decide (x0 = y0) && decide (x1 = y1) && decide (x2 = y2) && decide (x3 = y3)) w := by
  have u3 := Try.underlying3; have a3 := Try.isAgg3; have z3 := Try.sizeOf3
  have hS : Try.prog.underlying 34 = some (.struct (Try.prog.fieldsOf 34)) := by kernel_rfl
  rw [show n + 2 = (n + 1) + 1 from rfl, run_equalIn_agg w (n + 1) 34 _ _ hS (by kernel_rfl)]
  simp only [Program.fieldsOf, Try.underlying34]
  go_simp
  by_cases h0 : x0 = y0 <;> by_cases h1 : x1 = y1 <;> by_cases h2 : x2 = y2 <;> by_cases h3 : x3 = y3 <;> simp [h0, h1, h2, h3]
theorem eq49 (n : Nat) (x0 x1 y0 y1 : Int) (w : World) : (Op.equalIn (n + 2) 49 (.agg #[.int .i64 x0, .int .i64 x1]) (.agg #[.int .i64 y0, .int .i64 y1])).run Try.prog w = .ok (decide (x0 = y0) && decide (x1 = y1)) w := by
  have u3 := Try.underlying3; have a3 := Try.isAgg3; have z3 := Try.sizeOf3
  have hS : Try.prog.underlying 49 = some (.struct (Try.prog.fieldsOf 49)) := by kernel_rfl
  rw [show n + 2 = (n + 1) + 1 from rfl, run_equalIn_agg w (n + 1) 49 _ _ hS (by kernel_rfl)]
  simp only [Program.fieldsOf, Try.underlying49]
  go_simp
  by_cases h0 : x0 = y0 <;> by_cases h1 : x1 = y1 <;> simp [h0, h1]
theorem eq51 (n : Nat) (x0 x1 y0 y1 : Int) (w : World) : (Op.equalIn (n + 2) 51 (.agg #[.int .i64 x0, .int .i64 x1]) (.agg #[.int .i64 y0, .int .i64 y1])).run Try.prog w = .ok (decide (x0 = y0) && decide (x1 = y1)) w := by
  have u3 := Try.underlying3; have a3 := Try.isAgg3; have z3 := Try.sizeOf3
  have hS : Try.prog.underlying 51 = some (.struct (Try.prog.fieldsOf 51)) := by kernel_rfl
  rw [show n + 2 = (n + 1) + 1 from rfl, run_equalIn_agg w (n + 1) 51 _ _ hS (by kernel_rfl)]
  simp only [Program.fieldsOf, Try.underlying51]
  go_simp
  by_cases h0 : x0 = y0 <;> by_cases h1 : x1 = y1 <;> simp [h0, h1]
theorem eq65 (n : Nat) (x0 x1 y0 y1 : Int) (w : World) : (Op.equalIn (n + 2) 65 (.agg #[.int .i64 x0, .int .i64 x1]) (.agg #[.int .i64 y0, .int .i64 y1])).run Try.prog w = .ok (decide (x0 = y0) && decide (x1 = y1)) w := by
  have u3 := Try.underlying3; have a3 := Try.isAgg3; have z3 := Try.sizeOf3
  have hS : Try.prog.underlying 65 = some (.struct (Try.prog.fieldsOf 65)) := by kernel_rfl
  rw [show n + 2 = (n + 1) + 1 from rfl, run_equalIn_agg w (n + 1) 65 _ _ hS (by kernel_rfl)]
  simp only [Program.fieldsOf, Try.underlying65]
  go_simp
  by_cases h0 : x0 = y0 <;> by_cases h1 : x1 = y1 <;> simp [h0, h1]
theorem eq136 (n : Nat) (x0 x1 y0 y1 : Int) (w : World) : (Op.equalIn (n + 2) 136 (.agg #[.int .i64 x0, .int .i64 x1]) (.agg #[.int .i64 y0, .int .i64 y1])).run Try.prog w = .ok (decide (x0 = y0) && decide (x1 = y1)) w := by
  have u3 := Try.underlying3; have a3 := Try.isAgg3; have z3 := Try.sizeOf3
  have hS : Try.prog.underlying 136 = some (.struct (Try.prog.fieldsOf 136)) := by kernel_rfl
  rw [show n + 2 = (n + 1) + 1 from rfl, run_equalIn_agg w (n + 1) 136 _ _ hS (by kernel_rfl)]
  simp only [Program.fieldsOf, Try.underlying136]
  go_simp
  by_cases h0 : x0 = y0 <;> by_cases h1 : x1 = y1 <;> simp [h0, h1]
attribute [local irreducible] Seq Step CallV AnyE opX

theorem L59 (w0 : World) (p0 : Int) (p1 : Int) (p2 : Int) (r : Bool) (hF : F59 p0 p1 p2 = some r) : Does Try.prog 59 [.int .i64 p0, .int .i64 p1, .int .i64 p2] w0 fun v w => v = .bool r ∧ Below w0.heap.size w0 w := by
 refine calls_of (n := 15) Try.func59 rfl Try.ntmps59 rfl ?_
 have hI := Inv.start w0
 unfold F59 at hF
 refine wp_seq (rgn (by kernel_rfl) (pu (.bool false) (by kernel_rfl) (seq_nil (wp_seq (rgn (by kernel_rfl) (pu (iv p1) (by kernel_rfl) (pu (iv p0) (by kernel_rfl) (ifE hF (fun h7 hF => ?_) (fun h7 hF => ?_)))))))))
 ·
  refine seq_c (s_leq rfl rfl (fun _ => ?_) (fun h => absurd (a := p1 ≤ p0) h7 h))
  refine pu (.bool true) (by kernel_rfl) (puo (iv p0) ⟨(by kernel_rfl), (by kernel_rfl)⟩ (puo (iv p2) ⟨(by kernel_rfl), (by kernel_rfl)⟩ (ifE hF (fun h8 hF => ?_) (fun h8 hF => ?_))))
  ·
   refine seq_on (by kernel_rfl) (s_leq rfl rfl (fun _ => ?_) (fun h => absurd (a := p0 ≤ p2) h8 h))
   refine pu (.bool true) (by kernel_rfl) (pu (.bool true) (by kernel_rfl) (seq_nil (wp_ret ?_)))
   replace hF := Option.some.inj hF; subst hF
   exact ⟨.bool true, Ret.r1 rfl rfl, ⟨rfl, hI.below⟩⟩
  ·
   refine seq_on (by kernel_rfl) (s_leq rfl rfl (fun h => absurd (a := p0 ≤ p2) h h8) (fun _ => ?_))
   refine pu (.bool false) (by kernel_rfl) (pu (.bool false) (by kernel_rfl) (seq_nil (wp_ret ?_)))
   replace hF := Option.some.inj hF; subst hF
   exact ⟨.bool false, Ret.r1 rfl rfl, ⟨rfl, hI.below⟩⟩
 ·
  refine seq_c (s_leq rfl rfl (fun h => absurd (a := p1 ≤ p0) h h7) (fun _ => ?_))
  refine pu (.bool false) (by kernel_rfl) (of_ (by kernel_rfl) (of_ (by kernel_rfl) (of_ (by kernel_rfl) (pu (.bool false) (by kernel_rfl) (pu (.bool false) (by kernel_rfl) (seq_nil (wp_ret ?_)))))))
  replace hF := Option.some.inj hF; subst hF
  exact ⟨.bool false, Ret.r1 rfl rfl, ⟨rfl, hI.below⟩⟩


theorem L23 (w0 : World) (p0 : Cl) (r : Int) (hF : F23 p0 = some r) : Does Try.prog 23 [.agg #[.int .i64 p0.fam, .int .i64 p0.hd, .int .i64 p0.fr, .int .i64 p0.to]] w0 fun v w => v = .int .i64 r ∧ Below w0.heap.size w0 w := by
 refine calls_of (n := 30) Try.func23 rfl Try.ntmps23 rfl ?_
 have hI := Inv.start w0
 unfold F23 at hF
 refine wp_seq (rgn (by kernel_rfl) (seq_c (s_boxI hI [iv p0.fam, iv p0.hd, iv p0.fr, iv p0.to] rfl ?_)))
 intro b19 w hI
 refine pu (iv 0) (by kernel_rfl) (seq_nil (wp_cutO (fun ρ w => ∃ (cells_20 : Bool), Agree ρ [(1, .pointer (some ⟨b19, 0, none⟩)), (3, .bool cells_20)] ∧ Inv [] w0 w [(some b19, blk [iv p0.fam, iv p0.hd, iv p0.fr, iv p0.to] 34)] ∧ F23j1 p0 cells_20 = some r) ?_ ?_))
 ·
  refine rgn (by kernel_rfl) (pu (.pointer (some ⟨b19, 2, none⟩)) (by kernel_rfl) (seq_c (s_load1 hI 0 (iv p0.fr) Try.isAgg3 rfl rfl rfl ?_)))
  refine ifE hF (fun h26 hF => ?_) (fun h26 hF => ?_)
  ·
   refine seq_c (s_geq rfl rfl (fun _ => ?_) (fun h => absurd (a := 0 ≤ p0.fr) h26 h))
   refine pu (.bool true) (by kernel_rfl) (puo (.pointer (some ⟨b19, 2, none⟩)) ⟨(by kernel_rfl), (by kernel_rfl)⟩ (seq_on (by kernel_rfl) (s_load1 hI 0 (iv p0.fr) Try.isAgg3 rfl rfl rfl ?_)))
   refine puo (.pointer (some ⟨b19, 3, none⟩)) ⟨(by kernel_rfl), (by kernel_rfl)⟩ (seq_on (by kernel_rfl) (s_load1 hI 0 (iv p0.to) Try.isAgg3 rfl rfl rfl ?_))
   refine ifE hF (fun h27 hF => ?_) (fun h27 hF => ?_)
   ·
    refine seq_on (by kernel_rfl) (s_leq rfl rfl (fun _ => ?_) (fun h => absurd (a := p0.fr ≤ p0.to) h27 h))
    refine pu (.bool true) (by kernel_rfl) (pu (.bool true) (by kernel_rfl) (puo (.pointer (some ⟨b19, 3, none⟩)) ⟨(by kernel_rfl), (by kernel_rfl)⟩ (seq_on (by kernel_rfl) (s_load1 hI 0 (iv p0.to) Try.isAgg3 rfl rfl rfl ?_))))
    refine ifE hF (fun h28 hF => ?_) (fun h28 hF => ?_)
    ·
     refine seq_on (by kernel_rfl) (s_lss rfl rfl (fun _ => ?_) (fun h => absurd (a := p0.to < 24) h28 h))
     refine pu (.bool true) (by kernel_rfl) (pu (.bool true) (by kernel_rfl) (seq_nil ?_))
     exact .inl ⟨rfl, ⟨true, ⟨rfl, rfl, trivial⟩, hI.pickL [0] (by decide) rfl, hF⟩⟩
    ·
     refine seq_on (by kernel_rfl) (s_lss rfl rfl (fun h => absurd (a := p0.to < 24) h h28) (fun _ => ?_))
     refine pu (.bool false) (by kernel_rfl) (pu (.bool false) (by kernel_rfl) (seq_nil ?_))
     exact .inl ⟨rfl, ⟨false, ⟨rfl, rfl, trivial⟩, hI.pickL [0] (by decide) rfl, hF⟩⟩
   ·
    refine seq_on (by kernel_rfl) (s_leq rfl rfl (fun h => absurd (a := p0.fr ≤ p0.to) h h27) (fun _ => ?_))
    refine pu (.bool false) (by kernel_rfl) (pu (.bool false) (by kernel_rfl) (of_ (by kernel_rfl) (of_ (by kernel_rfl) (of_ (by kernel_rfl) (pu (.bool false) (by kernel_rfl) (pu (.bool false) (by kernel_rfl) (seq_nil ?_)))))))
    exact .inl ⟨rfl, ⟨false, ⟨rfl, rfl, trivial⟩, hI.pickL [0] (by decide) rfl, hF⟩⟩
  ·
   refine seq_c (s_geq rfl rfl (fun h => absurd (a := 0 ≤ p0.fr) h h26) (fun _ => ?_))
   refine pu (.bool false) (by kernel_rfl) (of_ (by kernel_rfl) (of_ (by kernel_rfl) (of_ (by kernel_rfl) (of_ (by kernel_rfl) (of_ (by kernel_rfl) (pu (.bool false) (by kernel_rfl) (pu (.bool false) (by kernel_rfl) (of_ (by kernel_rfl) (of_ (by kernel_rfl) ?_)))))))))
   refine of_ (by kernel_rfl) (pu (.bool false) (by kernel_rfl) (pu (.bool false) (by kernel_rfl) (seq_nil ?_)))
   exact .inl ⟨rfl, ⟨false, ⟨rfl, rfl, trivial⟩, hI.pickL [0] (by decide) rfl, hF⟩⟩
 ·intro ρ w hJ
  obtain ⟨cells_20, hag, hI, hF⟩ := hJ
  obtain ⟨ρ, rfl⟩ := hag.form; clear hag
  unfold F23j1 at hF
  refine wp_seq (wp_seq ?_)
  have hG := hF; rcases Bool.eq_false_or_eq_true cells_20 with rfl | rfl
  ·
   have hF := hG; clear hG
   refine ifE hF (fun _ hF => ?_) (fun h => absurd rfl h)
   refine rgn (by kernel_rfl) (pu (.bool true) (by kernel_rfl) (pu (.bool true) (by kernel_rfl) (puo (.pointer (some ⟨b19, 0, none⟩)) ⟨(by kernel_rfl), (by kernel_rfl)⟩ (seq_on (by kernel_rfl) (s_load1 hI 0 (iv p0.fam) Try.isAgg3 rfl rfl rfl ?_)))))
   refine bindE hF (fun y33 hy34 hF => ?_)
   refine ifE hF (fun h24 hF => ?_) (fun h24 hF => ?_)
   ·
    refine seq_on (by kernel_rfl) (s_callv hI 59 [iv p0.fam, iv 1, iv 99] (.bool true) (by kernel_rfl) (Does.mono (L59 _ p0.fam 1 99 _ hy34) (fun v' w' h => ⟨h.1.trans (congrArg Value.bool h24), h.2⟩)) ?_)
    intro w hI
    refine pu (.bool true) (by kernel_rfl) (pu (.bool true) (by kernel_rfl) (puo (.pointer (some ⟨b19, 1, none⟩)) ⟨(by kernel_rfl), (by kernel_rfl)⟩ (seq_on (by kernel_rfl) (s_load1 hI 0 (iv p0.hd) Try.isAgg3 rfl rfl rfl ?_))))
    refine bindE hF (fun y35 hy36 hF => ?_)
    refine ifE hF (fun h25 hF => ?_) (fun h25 hF => ?_)
    ·
     refine seq_on (by kernel_rfl) (s_callv hI 59 [iv p0.hd, iv 1, iv 20] (.bool true) (by kernel_rfl) (Does.mono (L59 _ p0.hd 1 20 _ hy36) (fun v' w' h => ⟨h.1.trans (congrArg Value.bool h25), h.2⟩)) ?_)
     intro w hI
     refine pu (.bool true) (by kernel_rfl) (seq_nil (wp_condT rfl (wp_seq (rgn (by kernel_rfl) (pu (iv 0) (by kernel_rfl) (seq_nil (wp_ret ?_)))))))
     replace hF := Option.some.inj hF; subst hF
     exact ⟨iv 0, Ret.r1 rfl rfl, ⟨rfl, hI.below⟩⟩
    ·
     refine seq_on (by kernel_rfl) (s_callv hI 59 [iv p0.hd, iv 1, iv 20] (.bool false) (by kernel_rfl) (Does.mono (L59 _ p0.hd 1 20 _ hy36) (fun v' w' h => ⟨h.1.trans (congrArg Value.bool (Bool.eq_false_iff.2 h25)), h.2⟩)) ?_)
     intro w hI
     refine pu (.bool false) (by kernel_rfl) (seq_nil (wp_condF rfl (wp_skip (wp_seq (rgn (by kernel_rfl) (pu (iv 43) (by kernel_rfl) (seq_nil (wp_ret ?_))))))))
     replace hF := Option.some.inj hF; subst hF
     exact ⟨iv 43, Ret.r1 rfl rfl, ⟨rfl, hI.below⟩⟩
   ·
    refine seq_on (by kernel_rfl) (s_callv hI 59 [iv p0.fam, iv 1, iv 99] (.bool false) (by kernel_rfl) (Does.mono (L59 _ p0.fam 1 99 _ hy34) (fun v' w' h => ⟨h.1.trans (congrArg Value.bool (Bool.eq_false_iff.2 h24)), h.2⟩)) ?_)
    intro w hI
    refine pu (.bool false) (by kernel_rfl) (pu (.bool false) (by kernel_rfl) (of_ (by kernel_rfl) (of_ (by kernel_rfl) (of_ (by kernel_rfl) (pu (.bool false) (by kernel_rfl) (seq_nil (wp_condF rfl (wp_skip (wp_seq ?_)))))))))
    refine rgn (by kernel_rfl) (pu (iv 43) (by kernel_rfl) (seq_nil (wp_ret ?_)))
    replace hF := Option.some.inj hF; subst hF
    exact ⟨iv 43, Ret.r1 rfl rfl, ⟨rfl, hI.below⟩⟩
  ·
   have hF := hG; clear hG
   refine ifE hF (fun h => absurd h (by decide)) (fun _ hF => ?_)
   refine rgn (by kernel_rfl) (pu (.bool false) (by kernel_rfl) (pu (.bool false) (by kernel_rfl) (of_ (by kernel_rfl) (of_ (by kernel_rfl) (of_ (by kernel_rfl) (pu (.bool false) (by kernel_rfl) (pu (.bool false) (by kernel_rfl) (of_ (by kernel_rfl) (of_ (by kernel_rfl) ?_)))))))))
   refine of_ (by kernel_rfl) (pu (.bool false) (by kernel_rfl) (seq_nil (wp_condF rfl (wp_skip (wp_seq (rgn (by kernel_rfl) (pu (iv 43) (by kernel_rfl) (seq_nil (wp_ret ?_)))))))))
   replace hF := Option.some.inj hF; subst hF
   exact ⟨iv 43, Ret.r1 rfl rfl, ⟨rfl, hI.below⟩⟩


theorem L19 (w0 : World) (p0 : Ch) (r : Int) (hF : F19 p0 = some r) : Does Try.prog 19 [.agg #[.int .i64 p0.id, .int .i64 p0.lo, .int .i64 p0.hi]] w0 fun v w => v = .int .i64 r ∧ Below w0.heap.size w0 w := by
 refine calls_of (n := 29) Try.func19 rfl Try.ntmps19 rfl ?_
 have hI := Inv.start w0
 unfold F19 at hF
 refine wp_seq (rgn (by kernel_rfl) (seq_c (s_boxI hI [iv p0.id, iv p0.lo, iv p0.hi] rfl ?_)))
 intro b11 w hI
 refine pu (iv 0) (by kernel_rfl) (seq_nil (wp_cutO (fun ρ w => ∃ (link_12 : Bool), Agree ρ [(1, .pointer (some ⟨b11, 0, none⟩)), (3, .bool link_12)] ∧ Inv [] w0 w [(some b11, blk [iv p0.id, iv p0.lo, iv p0.hi] 30)] ∧ F19j1 p0 link_12 = some r) ?_ ?_))
 ·
  refine rgn (by kernel_rfl) (pu (.pointer (some ⟨b11, 1, none⟩)) (by kernel_rfl) (pu (.pointer (some ⟨b11, 1, none⟩)) (by kernel_rfl) (seq_c (s_load1 hI 0 (iv p0.lo) Try.isAgg3 rfl rfl rfl ?_))))
  refine ifE hF (fun h18 hF => ?_) (fun h18 hF => ?_)
  ·
   refine seq_c (s_geq rfl rfl (fun _ => ?_) (fun h => absurd (a := 1 ≤ p0.lo) h18 h))
   refine pu (.bool true) (by kernel_rfl) (puo (.pointer (some ⟨b11, 1, none⟩)) ⟨(by kernel_rfl), (by kernel_rfl)⟩ (puo (.pointer (some ⟨b11, 1, none⟩)) ⟨(by kernel_rfl), (by kernel_rfl)⟩ (seq_on (by kernel_rfl) (s_load1 hI 0 (iv p0.lo) Try.isAgg3 rfl rfl rfl ?_))))
   refine puo (.pointer (some ⟨b11, 1, none⟩)) ⟨(by kernel_rfl), (by kernel_rfl)⟩ (puo (.pointer (some ⟨b11, 2, none⟩)) ⟨(by kernel_rfl), (by kernel_rfl)⟩ (seq_on (by kernel_rfl) (s_load1 hI 0 (iv p0.hi) Try.isAgg3 rfl rfl rfl ?_)))
   refine ifE hF (fun h19 hF => ?_) (fun h19 hF => ?_)
   ·
    refine seq_on (by kernel_rfl) (s_leq rfl rfl (fun _ => ?_) (fun h => absurd (a := p0.lo ≤ p0.hi) h19 h))
    refine pu (.bool true) (by kernel_rfl) (pu (.bool true) (by kernel_rfl) (puo (.pointer (some ⟨b11, 1, none⟩)) ⟨(by kernel_rfl), (by kernel_rfl)⟩ (puo (.pointer (some ⟨b11, 2, none⟩)) ⟨(by kernel_rfl), (by kernel_rfl)⟩ (seq_on (by kernel_rfl) (s_load1 hI 0 (iv p0.hi) Try.isAgg3 rfl rfl rfl ?_)))))
    refine ifE hF (fun h20 hF => ?_) (fun h20 hF => ?_)
    ·
     refine seq_on (by kernel_rfl) (s_leq rfl rfl (fun _ => ?_) (fun h => absurd (a := p0.hi ≤ 1000) h20 h))
     refine pu (.bool true) (by kernel_rfl) (pu (.bool true) (by kernel_rfl) (seq_nil ?_))
     exact .inl ⟨rfl, ⟨true, ⟨rfl, rfl, trivial⟩, hI.pickL [0] (by decide) rfl, hF⟩⟩
    ·
     refine seq_on (by kernel_rfl) (s_leq rfl rfl (fun h => absurd (a := p0.hi ≤ 1000) h h20) (fun _ => ?_))
     refine pu (.bool false) (by kernel_rfl) (pu (.bool false) (by kernel_rfl) (seq_nil ?_))
     exact .inl ⟨rfl, ⟨false, ⟨rfl, rfl, trivial⟩, hI.pickL [0] (by decide) rfl, hF⟩⟩
   ·
    refine seq_on (by kernel_rfl) (s_leq rfl rfl (fun h => absurd (a := p0.lo ≤ p0.hi) h h19) (fun _ => ?_))
    refine pu (.bool false) (by kernel_rfl) (pu (.bool false) (by kernel_rfl) (of_ (by kernel_rfl) (of_ (by kernel_rfl) (of_ (by kernel_rfl) (of_ (by kernel_rfl) (pu (.bool false) (by kernel_rfl) (pu (.bool false) (by kernel_rfl) (seq_nil ?_))))))))
    exact .inl ⟨rfl, ⟨false, ⟨rfl, rfl, trivial⟩, hI.pickL [0] (by decide) rfl, hF⟩⟩
  ·
   refine seq_c (s_geq rfl rfl (fun h => absurd (a := 1 ≤ p0.lo) h h18) (fun _ => ?_))
   refine pu (.bool false) (by kernel_rfl) (of_ (by kernel_rfl) (of_ (by kernel_rfl) (of_ (by kernel_rfl) (of_ (by kernel_rfl) (of_ (by kernel_rfl) (of_ (by kernel_rfl) (of_ (by kernel_rfl) (pu (.bool false) (by kernel_rfl) (pu (.bool false) (by kernel_rfl) ?_)))))))))
   refine of_ (by kernel_rfl) (of_ (by kernel_rfl) (of_ (by kernel_rfl) (of_ (by kernel_rfl) (pu (.bool false) (by kernel_rfl) (pu (.bool false) (by kernel_rfl) (seq_nil ?_))))))
   exact .inl ⟨rfl, ⟨false, ⟨rfl, rfl, trivial⟩, hI.pickL [0] (by decide) rfl, hF⟩⟩
 ·intro ρ w hJ
  obtain ⟨link_12, hag, hI, hF⟩ := hJ
  obtain ⟨ρ, rfl⟩ := hag.form; clear hag
  unfold F19j1 at hF
  refine wp_seq (wp_seq ?_)
  have hG := hF; rcases Bool.eq_false_or_eq_true link_12 with rfl | rfl
  ·
   have hF := hG; clear hG
   refine ifE hF (fun _ hF => ?_) (fun h => absurd rfl h)
   refine rgn (by kernel_rfl) (pu (.bool true) (by kernel_rfl) (pu (.bool true) (by kernel_rfl) (puo (.pointer (some ⟨b11, 0, none⟩)) ⟨(by kernel_rfl), (by kernel_rfl)⟩ (seq_on (by kernel_rfl) (s_load1 hI 0 (iv p0.id) Try.isAgg3 rfl rfl rfl ?_)))))
   refine bindE hF (fun y19 hy20 hF => ?_)
   refine ifE hF (fun h17 hF => ?_) (fun h17 hF => ?_)
   ·
    refine seq_on (by kernel_rfl) (s_callv hI 59 [iv p0.id, iv 1, iv 99] (.bool true) (by kernel_rfl) (Does.mono (L59 _ p0.id 1 99 _ hy20) (fun v' w' h => ⟨h.1.trans (congrArg Value.bool h17), h.2⟩)) ?_)
    intro w hI
    refine pu (.bool true) (by kernel_rfl) (seq_nil (wp_condT rfl (wp_seq (rgn (by kernel_rfl) (pu (iv 0) (by kernel_rfl) (seq_nil (wp_ret ?_)))))))
    replace hF := Option.some.inj hF; subst hF
    exact ⟨iv 0, Ret.r1 rfl rfl, ⟨rfl, hI.below⟩⟩
   ·
    refine seq_on (by kernel_rfl) (s_callv hI 59 [iv p0.id, iv 1, iv 99] (.bool false) (by kernel_rfl) (Does.mono (L59 _ p0.id 1 99 _ hy20) (fun v' w' h => ⟨h.1.trans (congrArg Value.bool (Bool.eq_false_iff.2 h17)), h.2⟩)) ?_)
    intro w hI
    refine pu (.bool false) (by kernel_rfl) (seq_nil (wp_condF rfl (wp_skip (wp_seq (rgn (by kernel_rfl) (pu (iv 40) (by kernel_rfl) (seq_nil (wp_ret ?_))))))))
    replace hF := Option.some.inj hF; subst hF
    exact ⟨iv 40, Ret.r1 rfl rfl, ⟨rfl, hI.below⟩⟩
  ·
   have hF := hG; clear hG
   refine ifE hF (fun h => absurd h (by decide)) (fun _ hF => ?_)
   refine rgn (by kernel_rfl) (pu (.bool false) (by kernel_rfl) (pu (.bool false) (by kernel_rfl) (of_ (by kernel_rfl) (of_ (by kernel_rfl) (of_ (by kernel_rfl) (pu (.bool false) (by kernel_rfl) (seq_nil (wp_condF rfl (wp_skip ?_)))))))))
   refine wp_seq (rgn (by kernel_rfl) (pu (iv 40) (by kernel_rfl) (seq_nil (wp_ret ?_))))
   replace hF := Option.some.inj hF; subst hF
   exact ⟨iv 40, Ret.r1 rfl rfl, ⟨rfl, hI.below⟩⟩


theorem L21 (w0 : World) (p0 : Ce) (r : Int) (hF : F21 p0 = some r) : Does Try.prog 21 [.agg #[.int .i64 p0.ch, .int .i64 p0.ln, .int .i64 p0.wo]] w0 fun v w => v = .int .i64 r ∧ Below w0.heap.size w0 w := by
 refine calls_of (n := 16) Try.func21 rfl Try.ntmps21 rfl ?_
 have hI := Inv.start w0
 unfold F21 at hF
 refine wp_seq (rgn (by kernel_rfl) (seq_c (s_boxI hI [iv p0.ch, iv p0.ln, iv p0.wo] rfl ?_)))
 intro b26 w hI
 refine pu (iv 0) (by kernel_rfl) (seq_nil (wp_seq (wp_seq (rgn (by kernel_rfl) (pu (.pointer (some ⟨b26, 0, none⟩)) (by kernel_rfl) (seq_c (s_load1 hI 0 (iv p0.ch) Try.isAgg3 rfl rfl rfl ?_)))))))
 refine bindE hF (fun y45 hy46 hF => ?_)
 refine ifE hF (fun h22 hF => ?_) (fun h22 hF => ?_)
 ·
  refine seq_c (s_callv hI 59 [iv p0.ch, iv 1, iv 99] (.bool true) (by kernel_rfl) (Does.mono (L59 _ p0.ch 1 99 _ hy46) (fun v' w' h => ⟨h.1.trans (congrArg Value.bool h22), h.2⟩)) ?_)
  intro w hI
  refine pu (.bool true) (by kernel_rfl) (puo (.pointer (some ⟨b26, 1, none⟩)) ⟨(by kernel_rfl), (by kernel_rfl)⟩ (seq_on (by kernel_rfl) (s_load1 hI 0 (iv p0.ln) Try.isAgg3 rfl rfl rfl ?_)))
  refine bindE hF (fun y47 hy48 hF => ?_)
  refine ifE hF (fun h23 hF => ?_) (fun h23 hF => ?_)
  ·
   refine seq_on (by kernel_rfl) (s_callv hI 59 [iv p0.ln, iv 1, iv 1000] (.bool true) (by kernel_rfl) (Does.mono (L59 _ p0.ln 1 1000 _ hy48) (fun v' w' h => ⟨h.1.trans (congrArg Value.bool h23), h.2⟩)) ?_)
   intro w hI
   refine pu (.bool true) (by kernel_rfl) (pu (.bool true) (by kernel_rfl) (puo (.pointer (some ⟨b26, 2, none⟩)) ⟨(by kernel_rfl), (by kernel_rfl)⟩ (seq_on (by kernel_rfl) (s_load1 hI 0 (iv p0.wo) Try.isAgg3 rfl rfl rfl ?_))))
   refine bindE hF (fun y49 hy50 hF => ?_)
   refine ifE hF (fun h24 hF => ?_) (fun h24 hF => ?_)
   ·
    refine seq_on (by kernel_rfl) (s_callv hI 59 [iv p0.wo, iv 0, iv 10000] (.bool true) (by kernel_rfl) (Does.mono (L59 _ p0.wo 0 10000 _ hy50) (fun v' w' h => ⟨h.1.trans (congrArg Value.bool h24), h.2⟩)) ?_)
    intro w hI
    refine pu (.bool true) (by kernel_rfl) (seq_nil (wp_condT rfl (wp_seq (rgn (by kernel_rfl) (pu (iv 0) (by kernel_rfl) (seq_nil (wp_ret ?_)))))))
    replace hF := Option.some.inj hF; subst hF
    exact ⟨iv 0, Ret.r1 rfl rfl, ⟨rfl, hI.below⟩⟩
   ·
    refine seq_on (by kernel_rfl) (s_callv hI 59 [iv p0.wo, iv 0, iv 10000] (.bool false) (by kernel_rfl) (Does.mono (L59 _ p0.wo 0 10000 _ hy50) (fun v' w' h => ⟨h.1.trans (congrArg Value.bool (Bool.eq_false_iff.2 h24)), h.2⟩)) ?_)
    intro w hI
    refine pu (.bool false) (by kernel_rfl) (seq_nil (wp_condF rfl (wp_skip (wp_seq (rgn (by kernel_rfl) (pu (iv 41) (by kernel_rfl) (seq_nil (wp_ret ?_))))))))
    replace hF := Option.some.inj hF; subst hF
    exact ⟨iv 41, Ret.r1 rfl rfl, ⟨rfl, hI.below⟩⟩
  ·
   refine seq_on (by kernel_rfl) (s_callv hI 59 [iv p0.ln, iv 1, iv 1000] (.bool false) (by kernel_rfl) (Does.mono (L59 _ p0.ln 1 1000 _ hy48) (fun v' w' h => ⟨h.1.trans (congrArg Value.bool (Bool.eq_false_iff.2 h23)), h.2⟩)) ?_)
   intro w hI
   refine pu (.bool false) (by kernel_rfl) (pu (.bool false) (by kernel_rfl) (of_ (by kernel_rfl) (of_ (by kernel_rfl) (of_ (by kernel_rfl) (pu (.bool false) (by kernel_rfl) (seq_nil (wp_condF rfl (wp_skip (wp_seq ?_)))))))))
   refine rgn (by kernel_rfl) (pu (iv 41) (by kernel_rfl) (seq_nil (wp_ret ?_)))
   replace hF := Option.some.inj hF; subst hF
   exact ⟨iv 41, Ret.r1 rfl rfl, ⟨rfl, hI.below⟩⟩
 ·
  refine seq_c (s_callv hI 59 [iv p0.ch, iv 1, iv 99] (.bool false) (by kernel_rfl) (Does.mono (L59 _ p0.ch 1 99 _ hy46) (fun v' w' h => ⟨h.1.trans (congrArg Value.bool (Bool.eq_false_iff.2 h22)), h.2⟩)) ?_)
  intro w hI
  refine pu (.bool false) (by kernel_rfl) (of_ (by kernel_rfl) (of_ (by kernel_rfl) (of_ (by kernel_rfl) (pu (.bool false) (by kernel_rfl) (pu (.bool false) (by kernel_rfl) (of_ (by kernel_rfl) (of_ (by kernel_rfl) (of_ (by kernel_rfl) (pu (.bool false) (by kernel_rfl) ?_)))))))))
  refine seq_nil (wp_condF rfl (wp_skip (wp_seq (rgn (by kernel_rfl) (pu (iv 41) (by kernel_rfl) (seq_nil (wp_ret ?_)))))))
  replace hF := Option.some.inj hF; subst hF
  exact ⟨iv 41, Ret.r1 rfl rfl, ⟨rfl, hI.below⟩⟩


theorem L62 (w0 : World) (Ap0_0 : Option Addr) (cp0_0 : Nat) (lp0_0 : List Ch) (Ap0_1 : Option Addr) (cp0_1 : Nat) (lp0_1 : List Ce) (hCp0_0 : Cells w0 Ap0_0 (flat eCh lp0_0)) (hMp0_0 : lp0_0.length ≤ 9223372036854775807) (hKp0_0 : lp0_0.length ≤ cp0_0) (hCp0_1 : Cells w0 Ap0_1 (flat eCe lp0_1)) (hMp0_1 : lp0_1.length ≤ 9223372036854775807) (hKp0_1 : lp0_1.length ≤ cp0_1) (N : Nat) (r : (Unit ⊕ (Int → Option Int))) (hF : F62 N lp0_0 lp0_1 = some r) : Does Try.prog 62 [.agg #[.slice Ap0_0 lp0_0.length cp0_0, .slice Ap0_1 lp0_1.length cp0_1]] w0 fun v w => (match r with | .inl ra0 => v = .tuple #[.agg #[.slice none 0 0, .slice none 0 0, .map none], .int .i64 42] ∧ Below w0.heap.size w0 w | .inr rb0 => ∃ (z0 : Nat) (z1 : List En) (z2 : Nat), v = .tuple #[.agg #[.slice Ap0_0 lp0_0.length cp0_0, .slice Ap0_1 lp0_1.length cp0_1, .map (some z0)], .int .i64 0] ∧ Inv [] w0 w [(some z0, mobj z1 z2)] ∧ MOk z1 z2 ∧ (∀ j, mget z1 j = (rb0 j).map (Value.int .i64))) := by
 refine calls_of (n := 79) Try.func62 rfl Try.ntmps62 rfl ?_
 have hI := Inv.start w0
 unfold F62 at hF
 refine wp_seq (rgn (by kernel_rfl) (seq_c (s_boxI hI [.slice Ap0_0 lp0_0.length cp0_0, .slice Ap0_1 lp0_1.length cp0_1] rfl ?_)))
 intro b466 w hI
 refine seq_c (s_allocI hI [.slice none 0 0, .slice none 0 0, .map none] Try.zeroValue115 rfl ?_)
 intro b467 w hI
 refine pu (iv 0) (by kernel_rfl) (seq_nil (wp_seq (wp_seq (rgn (by kernel_rfl) (pu (.pointer (some ⟨b466, 0, none⟩)) (by kernel_rfl) (seq_c (s_load1 hI 1 (.slice Ap0_0 lp0_0.length cp0_0) Try.isAgg22 rfl rfl rfl ?_)))))))
 refine pu (iv ((lp0_0.length : Nat) : Int)) (by kernel_rfl) (bindE hF (fun y480 hy481 hF => ?_))
 refine ifE hF (fun h207 hF => ?_) (fun h207 hF => ?_)
 ·
  refine seq_c (s_callv hI 59 [iv (lp0_0.length : Int), iv 1, iv 6] (.bool true) (by kernel_rfl) (Does.mono (L59 _ (lp0_0.length : Int) 1 6 _ hy481) (fun v' w' h => ⟨h.1.trans (congrArg Value.bool h207), h.2⟩)) ?_)
  intro w hI
  refine pu (.bool false) (by kernel_rfl) (pu (.bool false) (by kernel_rfl) (puo (.pointer (some ⟨b466, 1, none⟩)) ⟨(by kernel_rfl), (by kernel_rfl)⟩ (seq_on (by kernel_rfl) (s_load1 hI 1 (.slice Ap0_1 lp0_1.length cp0_1) Try.isAgg23 rfl rfl rfl ?_))))
  refine puo (iv ((lp0_1.length : Nat) : Int)) ⟨(by kernel_rfl), (by kernel_rfl)⟩ (bindE hF (fun y482 hy483 hF => ?_))
  refine ifE hF (fun h208 hF => ?_) (fun h208 hF => ?_)
  ·
   refine seq_on (by kernel_rfl) (s_callv hI 59 [iv (lp0_1.length : Int), iv 1, iv 24] (.bool true) (by kernel_rfl) (Does.mono (L59 _ (lp0_1.length : Int) 1 24 _ hy483) (fun v' w' h => ⟨h.1.trans (congrArg Value.bool h208), h.2⟩)) ?_)
   intro w hI
   refine puo (.bool false) ⟨(by kernel_rfl), (by kernel_rfl)⟩ (pu (.bool false) (by kernel_rfl) (seq_nil (wp_condF rfl (wp_skip (wp_seq (rgn (by kernel_rfl) (seq_c (s_loadK hI 1 2 [.slice Ap0_0 lp0_0.length cp0_0, .slice Ap0_1 lp0_1.length cp0_1] Try.isAgg25 Try.sizeOf25 rfl rfl rfl rfl ?_))))))))
   refine seq_c (s_makeMap hI ?_)
   intro b484 w hI
   refine pu (.agg #[.slice Ap0_0 lp0_0.length cp0_0, .slice Ap0_1 lp0_1.length cp0_1, .map (some b484)]) (by kernel_rfl) (seq_c (s_allocI hI [.slice none 0 0, .slice none 0 0, .map none] Try.zeroValue115 rfl ?_))
   intro b485 w hI
   refine seq_c (s_store hI 0 3 [.slice Ap0_0 lp0_0.length cp0_0, .slice Ap0_1 lp0_1.length cp0_1, .map (some b484)] Try.sizeOf115 rfl rfl rfl rfl rfl (Nat.le_of_ble_eq_true rfl) ?_)
   intro w hI
   refine seq_nil (wp_seq (rgn (by kernel_rfl) (pu (iv 0) (by kernel_rfl) (seq_nil (wp_cutO (fun ρ w => ∃ (es627 : List En) (ck628 : Nat) (u626 : Int → Option Int), Agree ρ [(1, .pointer (some ⟨b466, 0, none⟩)), (2, .pointer (some ⟨b467, 0, none⟩)), (4, .pointer (some ⟨b485, 0, none⟩))] ∧ Inv [] w0 w [(some b466, blk [.slice Ap0_0 lp0_0.length cp0_0, .slice Ap0_1 lp0_1.length cp0_1] 25), (some b467, blk [.slice none 0 0, .slice none 0 0, .map none] 115), (some b485, blk [.slice Ap0_0 lp0_0.length cp0_0, .slice Ap0_1 lp0_1.length cp0_1, .map (some b484)] 115), (some b484, mobj es627 ck628)] ∧ (MOk es627 ck628) ∧ (∀ j, mget es627 j = (u626 j).map (Value.int .i64)) ∧ F62j1 lp0_1 N u626 = some r) ?_ ?_)))))
   ·
    refine wp_seq (rgn (by kernel_rfl) (pu (.pointer (some ⟨b466, 0, none⟩)) (by kernel_rfl) (seq_c (s_load1 hI 3 (.slice Ap0_0 lp0_0.length cp0_0) Try.isAgg22 rfl rfl rfl ?_))))
    refine pu (iv ((lp0_0.length : Nat) : Int)) (by kernel_rfl) (pu (iv 0) (by kernel_rfl) (seq_nil (wp_block ?_)))
    refine wp_loop (fun m ρ w => ∃ (es883 : List En) (ck884 : Nat) (u882 : Int → Option Int) (v887 : Int) (v888 : Int) (mm : Nat), Agree ρ [(1, .pointer (some ⟨b466, 0, none⟩)), (2, .pointer (some ⟨b467, 0, none⟩)), (4, .pointer (some ⟨b485, 0, none⟩)), (5, iv v887), (29, .slice Ap0_0 lp0_0.length cp0_0), (30, iv (lp0_0.length : Int)), (31, iv v888)] ∧ Inv [] w0 w [(some b466, blk [.slice Ap0_0 lp0_0.length cp0_0, .slice Ap0_1 lp0_1.length cp0_1] 25), (some b467, blk [.slice none 0 0, .slice none 0 0, .map none] 115), (some b485, blk [.slice Ap0_0 lp0_0.length cp0_0, .slice Ap0_1 lp0_1.length cp0_1, .map (some b484)] 115), (some b484, mobj es883 ck884)] ∧ (MOk es883 ck884) ∧ (∀ j, mget es883 j = (u882 j).map (Value.int .i64)) ∧ F62l4 lp0_0 lp0_1 N mm u882 v887 v888 = some r ∧ mm = m) (m := N) ⟨[], 0, noM, 0, 0, N, ⟨rfl, rfl, rfl, rfl, rfl, rfl, rfl, trivial⟩, hI.pickL [3, 2, 0, 1] (by decide) rfl, MOk.nil, noM_ok, hF, rfl⟩ ?_
    rintro m ρ w ⟨es883, ck884, u882, v887, v888, mm, hag, hI, ho885, hM886, hF, hm⟩
    subst hm; obtain ⟨ρ, rfl⟩ := hag.form; clear hag
    obtain _ | m4 := mm
    ·cases (show (none : Option (Unit ⊕ (Int → Option Int))) = some r from hF)
    replace hF : F62b4 lp0_0 lp0_1 N (F62l4 lp0_0 lp0_1 N m4) u882 v887 v888 = some r := hF; unfold F62b4 at hF
    refine wp_seq (rgn (by kernel_rfl) (ifE hF (fun h381 hF => ?_) (fun h381 hF => ?_)))
    ·
     refine seq_c (s_lss rfl rfl (fun _ => ?_) (fun h => absurd (a := v888 < (lp0_0.length : Int)) h381 h))
     refine seq_nil (wp_seq (wp_condT rfl (wp_skip (wp_seq (wp_block ?_)))))
     refine wp_seq (rgn (by kernel_rfl) (pu (iv v888) (by kernel_rfl) (gdE hF (fun h391 hF => ?_))))
     refine bindE hF (fun x910 hx911 hF => ?_)
     obtain ⟨b912, o913, hA914, hb915, he916⟩ := hCp0_0.at_ eCh_len (by decide) hx911
     refine seq_c (s_indexA (v888).toNat Try.underlying22 Try.sizeOf30 rfl hA914 rfl (Int.toNat_of_nonneg h391).symm (lt_n hx911 rfl) ?_)
     refine seq_c (s_loadBK hI [iv x910.id, iv x910.lo, iv x910.hi] Try.isAgg30 Try.sizeOf30 rfl rfl hb915 (by simp) he916 ?_)
     refine seq_c (s_allocI hI [iv 0, iv 0, iv 0] Try.zeroValue30 rfl ?_)
     intro b917 w hI
     refine pu (iv v888) (by kernel_rfl) (seq_c (s_store hI 0 3 [iv x910.id, iv x910.lo, iv x910.hi] Try.sizeOf30 rfl rfl rfl rfl rfl (Nat.le_of_ble_eq_true rfl) ?_))
     intro w hI
     refine seq_nil (wp_seq (wp_seq (rgn (by kernel_rfl) (seq_c (s_loadK hI 0 3 [iv x910.id, iv x910.lo, iv x910.hi] Try.isAgg30 Try.sizeOf30 rfl rfl rfl rfl ?_)))))
     refine bindE hF (fun y924 hy925 hF => ?_)
     refine seq_c (s_callv hI 19 [.agg #[iv x910.id, iv x910.lo, iv x910.hi]] (iv y924) (by kernel_rfl) (L19 _ x910 _ hy925) ?_)
     intro w hI
     refine ifE hF (fun h398 hF => ?_) (fun h398 hF => ?_)
     ·
      refine seq_c (s_neq rfl rfl (fun h => absurd (a := y924 = 0) h398 h) (fun _ => ?_))
      refine pu (.bool false) (by kernel_rfl) (puo (.pointer (some ⟨b917, 0, none⟩)) ⟨(by kernel_rfl), (by kernel_rfl)⟩ (seq_on (by kernel_rfl) (s_load1 hI 0 (iv x910.id) Try.isAgg3 rfl rfl rfl ?_)))
      refine puo (iv v887) ⟨(by kernel_rfl), (by kernel_rfl)⟩ (ifE hF (fun h399 hF => ?_) (fun h399 hF => ?_))
      ·
       refine seq_on (by kernel_rfl) (s_leq rfl rfl (fun _ => ?_) (fun h => absurd (a := x910.id ≤ v887) h399 h))
       refine pu (.bool true) (by kernel_rfl) (seq_nil (wp_condT rfl (wp_seq (rgn (by kernel_rfl) (pu (.agg #[.slice none 0 0, .slice none 0 0, .map none]) (by kernel_rfl) (seq_c (s_store hI 2 3 [.slice none 0 0, .slice none 0 0, .map none] Try.sizeOf115 rfl rfl rfl rfl rfl (Nat.le_of_ble_eq_true rfl) ?_)))))))
       intro w hI
       refine pu (iv 42) (by kernel_rfl) (seq_nil (wp_ret ?_))
       replace hF := Option.some.inj hF; subst hF
       exact ⟨.tuple #[.agg #[.slice none 0 0, .slice none 0 0, .map none], iv 42], Ret.ct rfl rfl (run_loadK hI 2 3 [.slice none 0 0, .slice none 0 0, .map none] Try.isAgg115 Try.sizeOf115 rfl rfl rfl) rfl, ⟨rfl, hI.below⟩⟩
      ·
       refine seq_on (by kernel_rfl) (s_leq rfl rfl (fun h => absurd (a := x910.id ≤ v887) h h399) (fun _ => ?_))
       refine pu (.bool false) (by kernel_rfl) (seq_nil (wp_condF rfl (wp_skip (wp_seq (rgn (by kernel_rfl) (pu (.pointer (some ⟨b485, 2, none⟩)) (by kernel_rfl) (seq_c (s_load1 hI 3 (.map (some b484)) Try.isAgg113 rfl rfl rfl ?_))))))))
       refine pu (.pointer (some ⟨b917, 0, none⟩)) (by kernel_rfl) (seq_c (s_load1 hI 0 (iv x910.id) Try.isAgg3 rfl rfl rfl ?_))
       refine pu (iv v888) (by kernel_rfl) (seq_c (s_mapUpdate hI Try.underlying113 Try.underlying3 4 rfl rfl rfl rfl ho885 ?_))
       intro es926 ck927 w hI ho928 hg929
       have hM930 : ∀ j, mget es926 j = ((updM u882 x910.id v888) j).map (Value.int .i64) := updM_ok hM886 hg929
       refine seq_nil (rgn (by kernel_rfl) (pu (.pointer (some ⟨b917, 0, none⟩)) (by kernel_rfl) (seq_c (s_load1 hI 0 (iv x910.id) Try.isAgg3 rfl rfl rfl ?_))))
       refine pu (iv x910.id) (by kernel_rfl) (seq_nil (rgn (by kernel_rfl) (ckE hF (fun h400 hF => ?_))))
       refine seq_c (s_add rfl rfl h400 ?_)
       refine pu (iv (v888 + 1)) (by kernel_rfl) (seq_nil ?_)
       exact ⟨rfl, m4, Nat.lt_succ_self _, ⟨es926, ck927, updM u882 x910.id v888, x910.id, v888 + 1, m4, ⟨rfl, rfl, rfl, rfl, rfl, rfl, rfl, trivial⟩, hI.pickL [1, 2, 3, 4] (by decide) rfl, ho928, hM930, hF, rfl⟩⟩
     ·
      refine seq_c (s_neq rfl rfl (fun _ => ?_) (fun h => absurd (a := y924 = 0) h h398))
      refine pu (.bool true) (by kernel_rfl) (of_ (by kernel_rfl) (of_ (by kernel_rfl) (of_ (by kernel_rfl) (of_ (by kernel_rfl) (pu (.bool true) (by kernel_rfl) (seq_nil (wp_condT rfl (wp_seq (rgn (by kernel_rfl) ?_)))))))))
      refine pu (.agg #[.slice none 0 0, .slice none 0 0, .map none]) (by kernel_rfl) (seq_c (s_store hI 2 3 [.slice none 0 0, .slice none 0 0, .map none] Try.sizeOf115 rfl rfl rfl rfl rfl (Nat.le_of_ble_eq_true rfl) ?_))
      intro w hI
      refine pu (iv 42) (by kernel_rfl) (seq_nil (wp_ret ?_))
      replace hF := Option.some.inj hF; subst hF
      exact ⟨.tuple #[.agg #[.slice none 0 0, .slice none 0 0, .map none], iv 42], Ret.ct rfl rfl (run_loadK hI 2 3 [.slice none 0 0, .slice none 0 0, .map none] Try.isAgg115 Try.sizeOf115 rfl rfl rfl) rfl, ⟨rfl, hI.below⟩⟩
    ·
     refine seq_c (s_lss rfl rfl (fun h => absurd (a := v888 < (lp0_0.length : Int)) h h381) (fun _ => ?_))
     refine seq_nil (wp_seq (wp_condF rfl (wp_exit ?_)))
     exact .inl ⟨rfl, ⟨es883, ck884, u882, ⟨rfl, rfl, rfl, trivial⟩, hI.pickL [0, 1, 2, 3] (by decide) rfl, ho885, hM886, hF⟩⟩
   ·intro ρ w hJ
    obtain ⟨es627, ck628, u626, hag, hI, ho629, hM630, hF⟩ := hJ
    obtain ⟨ρ, rfl⟩ := hag.form; clear hag
    unfold F62j1 at hF
    refine wp_seq (wp_seq (rgn (by kernel_rfl) (pu (.pointer (some ⟨b466, 1, none⟩)) (by kernel_rfl) (seq_c (s_load1 hI 0 (.slice Ap0_1 lp0_1.length cp0_1) Try.isAgg23 rfl rfl rfl ?_)))))
    refine pu (iv ((lp0_1.length : Nat) : Int)) (by kernel_rfl) (pu (iv 0) (by kernel_rfl) (seq_nil (wp_block ?_)))
    refine wp_loop (fun m ρ w => ∃ (v764 : Int) (mm : Nat), Agree ρ [(2, .pointer (some ⟨b467, 0, none⟩)), (4, .pointer (some ⟨b485, 0, none⟩)), (55, .slice Ap0_1 lp0_1.length cp0_1), (56, iv (lp0_1.length : Int)), (57, iv v764)] ∧ Inv [] w0 w [(some b467, blk [.slice none 0 0, .slice none 0 0, .map none] 115), (some b485, blk [.slice Ap0_0 lp0_0.length cp0_0, .slice Ap0_1 lp0_1.length cp0_1, .map (some b484)] 115), (some b484, mobj es627 ck628)] ∧ F62l2 lp0_1 u626 mm v764 = some r ∧ mm = m) (m := N) ⟨0, N, ⟨rfl, rfl, rfl, rfl, rfl, trivial⟩, hI.pickL [1, 2, 3] (by decide) rfl, hF, rfl⟩ ?_
    rintro m ρ w ⟨v764, mm, hag, hI, hF, hm⟩
    subst hm; obtain ⟨ρ, rfl⟩ := hag.form; clear hag
    obtain _ | m2 := mm
    ·cases (show (none : Option (Unit ⊕ (Int → Option Int))) = some r from hF)
    replace hF : F62b2 lp0_1 u626 (F62l2 lp0_1 u626 m2) v764 = some r := hF; unfold F62b2 at hF
    refine wp_seq (rgn (by kernel_rfl) (ifE hF (fun h329 hF => ?_) (fun h329 hF => ?_)))
    ·
     refine seq_c (s_lss rfl rfl (fun _ => ?_) (fun h => absurd (a := v764 < (lp0_1.length : Int)) h329 h))
     refine seq_nil (wp_seq (wp_condT rfl (wp_skip (wp_seq (wp_block ?_)))))
     refine wp_seq (rgn (by kernel_rfl) (gdE hF (fun h335 hF => ?_)))
     refine bindE hF (fun x778 hx779 hF => ?_)
     obtain ⟨b780, o781, hA782, hb783, he784⟩ := hCp0_1.at_ eCe_len (by decide) hx779
     refine seq_c (s_indexA (v764).toNat Try.underlying23 Try.sizeOf32 rfl hA782 rfl (Int.toNat_of_nonneg h335).symm (lt_n hx779 rfl) ?_)
     refine seq_c (s_loadBK hI [iv x778.ch, iv x778.ln, iv x778.wo] Try.isAgg32 Try.sizeOf32 rfl rfl hb783 (by simp) he784 ?_)
     refine seq_c (s_allocI hI [iv 0, iv 0, iv 0] Try.zeroValue32 rfl ?_)
     intro b785 w hI
     refine seq_c (s_store hI 0 3 [iv x778.ch, iv x778.ln, iv x778.wo] Try.sizeOf32 rfl rfl rfl rfl rfl (Nat.le_of_ble_eq_true rfl) ?_)
     intro w hI
     refine seq_nil (wp_cutO (fun ρ w => ∃ (v786 : Bool), Agree ρ [(2, .pointer (some ⟨b467, 0, none⟩)), (4, .pointer (some ⟨b485, 0, none⟩)), (9, .pointer (some ⟨b785, 0, none⟩)), (11, .bool v786), (55, .slice Ap0_1 lp0_1.length cp0_1), (56, iv (lp0_1.length : Int)), (57, iv v764)] ∧ Inv [] w0 w [(some b467, blk [.slice none 0 0, .slice none 0 0, .map none] 115), (some b485, blk [.slice Ap0_0 lp0_0.length cp0_0, .slice Ap0_1 lp0_1.length cp0_1, .map (some b484)] 115), (some b484, mobj es627 ck628), (some b785, blk [iv x778.ch, iv x778.ln, iv x778.wo] 32)] ∧ F62j3 (F62l2 lp0_1 u626 m2) v764 x778 v786 = some r) ?_ ?_)
     ·
      refine rgn (by kernel_rfl) (pu (.pointer (some ⟨b485, 2, none⟩)) (by kernel_rfl) (seq_c (s_load1 hI 2 (.map (some b484)) Try.isAgg113 rfl rfl rfl ?_)))
      refine pu (.pointer (some ⟨b785, 0, none⟩)) (by kernel_rfl) (seq_c (s_load1 hI 0 (iv x778.ch) Try.isAgg3 rfl rfl rfl ?_))
      refine ifE hF (fun h340 hF => ?_) (fun h340 hF => ?_)
      ·
       refine seq_c (s_lookupOk hI Try.underlying113 Try.underlying3 Try.zeroValue3 3 rfl rfl rfl (getM_ok hM630 _) ((isM_ok hM630 _).trans h340) ?_)
       refine pu (.tuple #[iv ((u626 x778.ch).getD 0), .bool true]) (by kernel_rfl) (pu (iv ((u626 x778.ch).getD 0)) (by kernel_rfl) (pu (.bool true) (by kernel_rfl) (pu (iv ((u626 x778.ch).getD 0)) (by kernel_rfl) (pu (.bool true) (by kernel_rfl) (seq_nil ?_)))))
       exact .inl ⟨rfl, ⟨true, ⟨rfl, rfl, rfl, rfl, rfl, rfl, rfl, trivial⟩, hI.pickL [1, 2, 3, 0] (by decide) rfl, hF⟩⟩
      ·
       refine seq_c (s_lookupOk hI Try.underlying113 Try.underlying3 Try.zeroValue3 3 rfl rfl rfl (getM_ok hM630 _) ((isM_ok hM630 _).trans (Bool.eq_false_iff.2 h340)) ?_)
       refine pu (.tuple #[iv ((u626 x778.ch).getD 0), .bool false]) (by kernel_rfl) (pu (iv ((u626 x778.ch).getD 0)) (by kernel_rfl) (pu (.bool false) (by kernel_rfl) (pu (iv ((u626 x778.ch).getD 0)) (by kernel_rfl) (pu (.bool false) (by kernel_rfl) (seq_nil ?_)))))
       exact .inl ⟨rfl, ⟨false, ⟨rfl, rfl, rfl, rfl, rfl, rfl, rfl, trivial⟩, hI.pickL [1, 2, 3, 0] (by decide) rfl, hF⟩⟩
     ·intro ρ w hJ
      obtain ⟨v786, hag, hI, hF⟩ := hJ
      obtain ⟨ρ, rfl⟩ := hag.form; clear hag
      unfold F62j3 at hF
      refine wp_seq ?_
      have hG := hF; rcases Bool.eq_false_or_eq_true v786 with rfl | rfl
      ·
       have hF := hG; clear hG
       refine ifE hF (fun _ hF => ?_) (fun h => absurd rfl h)
       refine rgn (by kernel_rfl) (pu (.bool true) (by kernel_rfl) (pu (.bool false) (by kernel_rfl) (pu (.bool false) (by kernel_rfl) (seq_on (by kernel_rfl) (s_loadK hI 3 3 [iv x778.ch, iv x778.ln, iv x778.wo] Try.isAgg32 Try.sizeOf32 rfl rfl rfl rfl ?_)))))
       refine bindE hF (fun y789 hy790 hF => ?_)
       refine seq_on (by kernel_rfl) (s_callv hI 21 [.agg #[iv x778.ch, iv x778.ln, iv x778.wo]] (iv y789) (by kernel_rfl) (L21 _ x778 _ hy790) ?_)
       intro w hI
       refine ifE hF (fun h338 hF => ?_) (fun h338 hF => ?_)
       ·
        refine seq_on (by kernel_rfl) (s_neq rfl rfl (fun h => absurd (a := y789 = 0) h338 h) (fun _ => ?_))
        refine pu (.bool false) (by kernel_rfl) (seq_nil (wp_condF rfl (wp_skip (rgn (by kernel_rfl) (ckE hF (fun h339 hF => ?_))))))
        refine seq_c (s_add rfl rfl h339 ?_)
        refine pu (iv (v764 + 1)) (by kernel_rfl) (seq_nil ?_)
        exact ⟨rfl, m2, Nat.lt_succ_self _, ⟨v764 + 1, m2, ⟨rfl, rfl, rfl, rfl, rfl, trivial⟩, hI.pickL [0, 1, 2] (by decide) rfl, hF, rfl⟩⟩
       ·
        refine seq_on (by kernel_rfl) (s_neq rfl rfl (fun _ => ?_) (fun h => absurd (a := y789 = 0) h h338))
        refine pu (.bool true) (by kernel_rfl) (seq_nil (wp_condT rfl (wp_seq (rgn (by kernel_rfl) (pu (.agg #[.slice none 0 0, .slice none 0 0, .map none]) (by kernel_rfl) (seq_c (s_store hI 0 3 [.slice none 0 0, .slice none 0 0, .map none] Try.sizeOf115 rfl rfl rfl rfl rfl (Nat.le_of_ble_eq_true rfl) ?_)))))))
        intro w hI
        refine pu (iv 42) (by kernel_rfl) (seq_nil (wp_ret ?_))
        replace hF := Option.some.inj hF; subst hF
        exact ⟨.tuple #[.agg #[.slice none 0 0, .slice none 0 0, .map none], iv 42], Ret.ct rfl rfl (run_loadK hI 0 3 [.slice none 0 0, .slice none 0 0, .map none] Try.isAgg115 Try.sizeOf115 rfl rfl rfl) rfl, ⟨rfl, hI.below⟩⟩
      ·
       have hF := hG; clear hG
       refine ifE hF (fun h => absurd h (by decide)) (fun _ hF => ?_)
       refine rgn (by kernel_rfl) (pu (.bool false) (by kernel_rfl) (pu (.bool true) (by kernel_rfl) (pu (.bool true) (by kernel_rfl) (of_ (by kernel_rfl) (of_ (by kernel_rfl) (of_ (by kernel_rfl) (pu (.bool true) (by kernel_rfl) (seq_nil (wp_condT rfl ?_)))))))))
       refine wp_seq (rgn (by kernel_rfl) (pu (.agg #[.slice none 0 0, .slice none 0 0, .map none]) (by kernel_rfl) (seq_c (s_store hI 0 3 [.slice none 0 0, .slice none 0 0, .map none] Try.sizeOf115 rfl rfl rfl rfl rfl (Nat.le_of_ble_eq_true rfl) ?_))))
       intro w hI
       refine pu (iv 42) (by kernel_rfl) (seq_nil (wp_ret ?_))
       replace hF := Option.some.inj hF; subst hF
       exact ⟨.tuple #[.agg #[.slice none 0 0, .slice none 0 0, .map none], iv 42], Ret.ct rfl rfl (run_loadK hI 0 3 [.slice none 0 0, .slice none 0 0, .map none] Try.isAgg115 Try.sizeOf115 rfl rfl rfl) rfl, ⟨rfl, hI.below⟩⟩
    ·
     refine seq_c (s_lss rfl rfl (fun h => absurd (a := v764 < (lp0_1.length : Int)) h h329) (fun _ => ?_))
     refine seq_nil (wp_seq (wp_condF rfl (wp_exit ?_)))
     refine wp_seq (rgn (by kernel_rfl) (seq_c (s_loadK hI 1 3 [.slice Ap0_0 lp0_0.length cp0_0, .slice Ap0_1 lp0_1.length cp0_1, .map (some b484)] Try.isAgg115 Try.sizeOf115 rfl rfl rfl rfl ?_)))
     refine seq_c (s_store hI 0 3 [.slice Ap0_0 lp0_0.length cp0_0, .slice Ap0_1 lp0_1.length cp0_1, .map (some b484)] Try.sizeOf115 rfl rfl rfl rfl rfl (Nat.le_of_ble_eq_true rfl) ?_)
     intro w hI
     refine pu (iv 0) (by kernel_rfl) (seq_nil (wp_ret ?_))
     replace hF := Option.some.inj hF; subst hF
     exact ⟨.tuple #[.agg #[.slice Ap0_0 lp0_0.length cp0_0, .slice Ap0_1 lp0_1.length cp0_1, .map (some b484)], iv 0], Ret.ct rfl rfl (run_loadK hI 0 3 [.slice Ap0_0 lp0_0.length cp0_0, .slice Ap0_1 lp0_1.length cp0_1, .map (some b484)] Try.isAgg115 Try.sizeOf115 rfl rfl rfl) rfl, ⟨b484, es627, ck628, rfl, hI.pickL [2] (by decide) rfl, ho629, hM630⟩⟩
  ·
   refine seq_on (by kernel_rfl) (s_callv hI 59 [iv (lp0_1.length : Int), iv 1, iv 24] (.bool false) (by kernel_rfl) (Does.mono (L59 _ (lp0_1.length : Int) 1 24 _ hy483) (fun v' w' h => ⟨h.1.trans (congrArg Value.bool (Bool.eq_false_iff.2 h208)), h.2⟩)) ?_)
   intro w hI
   refine puo (.bool true) ⟨(by kernel_rfl), (by kernel_rfl)⟩ (pu (.bool true) (by kernel_rfl) (seq_nil (wp_condT rfl (wp_seq (rgn (by kernel_rfl) (pu (.agg #[.slice none 0 0, .slice none 0 0, .map none]) (by kernel_rfl) (seq_c (s_store hI 0 3 [.slice none 0 0, .slice none 0 0, .map none] Try.sizeOf115 rfl rfl rfl rfl rfl (Nat.le_of_ble_eq_true rfl) ?_))))))))
   intro w hI
   refine pu (iv 42) (by kernel_rfl) (seq_nil (wp_ret ?_))
   replace hF := Option.some.inj hF; subst hF
   exact ⟨.tuple #[.agg #[.slice none 0 0, .slice none 0 0, .map none], iv 42], Ret.ct rfl rfl (run_loadK hI 0 3 [.slice none 0 0, .slice none 0 0, .map none] Try.isAgg115 Try.sizeOf115 rfl rfl rfl) rfl, ⟨rfl, hI.below⟩⟩
 ·
  refine seq_c (s_callv hI 59 [iv (lp0_0.length : Int), iv 1, iv 6] (.bool false) (by kernel_rfl) (Does.mono (L59 _ (lp0_0.length : Int) 1 6 _ hy481) (fun v' w' h => ⟨h.1.trans (congrArg Value.bool (Bool.eq_false_iff.2 h207)), h.2⟩)) ?_)
  intro w hI
  refine pu (.bool true) (by kernel_rfl) (pu (.bool true) (by kernel_rfl) (of_ (by kernel_rfl) (of_ (by kernel_rfl) (of_ (by kernel_rfl) (of_ (by kernel_rfl) (of_ (by kernel_rfl) (pu (.bool true) (by kernel_rfl) (seq_nil (wp_condT rfl ?_)))))))))
  refine wp_seq (rgn (by kernel_rfl) (pu (.agg #[.slice none 0 0, .slice none 0 0, .map none]) (by kernel_rfl) (seq_c (s_store hI 0 3 [.slice none 0 0, .slice none 0 0, .map none] Try.sizeOf115 rfl rfl rfl rfl rfl (Nat.le_of_ble_eq_true rfl) ?_))))
  intro w hI
  refine pu (iv 42) (by kernel_rfl) (seq_nil (wp_ret ?_))
  replace hF := Option.some.inj hF; subst hF
  exact ⟨.tuple #[.agg #[.slice none 0 0, .slice none 0 0, .map none], iv 42], Ret.ct rfl rfl (run_loadK hI 0 3 [.slice none 0 0, .slice none 0 0, .map none] Try.isAgg115 Try.sizeOf115 rfl rfl rfl) rfl, ⟨rfl, hI.below⟩⟩


theorem L64 (w0 : World) (Ap0_0 : Option Addr) (cp0_0 : Nat) (lp0_0 : List Ch) (Ap0_1 : Option Addr) (cp0_1 : Nat) (lp0_1 : List Ce) (Ap1 : Option Addr) (cp1 : Nat) (lp1 : List Cl) (hCp0_0 : Cells w0 Ap0_0 (flat eCh lp0_0)) (hMp0_0 : lp0_0.length ≤ 9223372036854775807) (hKp0_0 : lp0_0.length ≤ cp0_0) (hCp0_1 : Cells w0 Ap0_1 (flat eCe lp0_1)) (hMp0_1 : lp0_1.length ≤ 9223372036854775807) (hKp0_1 : lp0_1.length ≤ cp0_1) (hCp1 : Cells w0 Ap1 (flat eCl lp1)) (hMp1 : lp1.length ≤ 9223372036854775807) (hKp1 : lp1.length ≤ cp1) (N : Nat) (r : (Unit ⊕ (Unit ⊕ (Int → Option Int)))) (hF : F64 N lp0_0 lp0_1 lp1 = some r) : Does Try.prog 64 [.agg #[.slice Ap0_0 lp0_0.length cp0_0, .slice Ap0_1 lp0_1.length cp0_1], .slice Ap1 lp1.length cp1] w0 fun v w => (match r with | .inl ra0 => v = .tuple #[.agg #[.slice none 0 0, .slice none 0 0, .map none, .slice none 0 0], .int .i64 42] ∧ Below w0.heap.size w0 w | .inr rb0 => (match rb0 with | .inl ra1 => v = .tuple #[.agg #[.slice none 0 0, .slice none 0 0, .map none, .slice none 0 0], .int .i64 44] ∧ Below w0.heap.size w0 w | .inr rb1 => ∃ (z0 : Nat) (z1 : List En) (z2 : Nat), v = .tuple #[.agg #[.slice Ap0_0 lp0_0.length cp0_0, .slice Ap0_1 lp0_1.length cp0_1, .map (some z0), .slice Ap1 lp1.length cp1], .int .i64 0] ∧ Inv [] w0 w [(some z0, mobj z1 z2)] ∧ MOk z1 z2 ∧ (∀ j, mget z1 j = (rb1 j).map (Value.int .i64)))) := by
 refine calls_of (n := 57) Try.func64 rfl Try.ntmps64 rfl ?_
 have hI := Inv.start w0
 unfold F64 at hF
 refine wp_seq (rgn (by kernel_rfl) (seq_c (s_boxI hI [.slice Ap0_0 lp0_0.length cp0_0, .slice Ap0_1 lp0_1.length cp0_1] rfl ?_)))
 intro b311 w hI
 refine seq_c (s_allocI hI [.slice none 0 0, .slice none 0 0, .map none, .slice none 0 0] Try.zeroValue120 rfl ?_)
 intro b312 w hI
 refine pu (iv 0) (by kernel_rfl) (seq_nil (wp_seq (rgn (by kernel_rfl) (seq_c (s_loadK hI 1 2 [.slice Ap0_0 lp0_0.length cp0_0, .slice Ap0_1 lp0_1.length cp0_1] Try.isAgg25 Try.sizeOf25 rfl rfl rfl rfl ?_)))))
 refine bindSE hF (fun y325 hy326 hF => ?_) (fun y327 hy328 hF => ?_)
 ·
  refine seq_c (s_callv hI 62 [.agg #[.slice Ap0_0 lp0_0.length cp0_0, .slice Ap0_1 lp0_1.length cp0_1]] (.tuple #[.agg #[.slice none 0 0, .slice none 0 0, .map none], iv 42]) (by kernel_rfl) (L62 _ Ap0_0 cp0_0 lp0_0 Ap0_1 cp0_1 lp0_1 (hCp0_0.inv0 hI) hMp0_0 hKp0_0 (hCp0_1.inv0 hI) hMp0_1 hKp0_1 N _ hy326) ?_)
  intro w hI
  refine pu (.tuple #[.agg #[.slice none 0 0, .slice none 0 0, .map none], iv 42]) (by kernel_rfl) (pu (.agg #[.slice none 0 0, .slice none 0 0, .map none]) (by kernel_rfl) (pu (iv 42) (by kernel_rfl) (seq_c (s_allocI hI [.slice none 0 0, .slice none 0 0, .map none] Try.zeroValue115 rfl ?_))))
  intro b329 w hI
  refine seq_c (s_store hI 0 3 [.slice none 0 0, .slice none 0 0, .map none] Try.sizeOf115 rfl rfl rfl rfl rfl (Nat.le_of_ble_eq_true rfl) ?_)
  intro w hI
  refine pu (iv 42) (by kernel_rfl) (seq_nil (wp_seq (wp_seq (rgn (by kernel_rfl) (pu (iv 42) (by kernel_rfl) (seq_c (s_neq rfl rfl (fun _ => ?_) (fun h => absurd (a := 42 = 0) h (by decide)))))))))
  refine seq_nil (wp_condT rfl (wp_seq (rgn (by kernel_rfl) (pu (.agg #[.slice none 0 0, .slice none 0 0, .map none, .slice none 0 0]) (by kernel_rfl) (pu (iv 42) (by kernel_rfl) (seq_c (s_store hI 1 4 [.slice none 0 0, .slice none 0 0, .map none, .slice none 0 0] Try.sizeOf120 rfl rfl rfl rfl rfl (Nat.le_of_ble_eq_true rfl) ?_)))))))
  intro w hI
  refine pu (iv 42) (by kernel_rfl) (seq_nil (wp_ret ?_))
  replace hF := Option.some.inj hF; subst hF
  exact ⟨.tuple #[.agg #[.slice none 0 0, .slice none 0 0, .map none, .slice none 0 0], iv 42], Ret.ct rfl rfl (run_loadK hI 1 4 [.slice none 0 0, .slice none 0 0, .map none, .slice none 0 0] Try.isAgg120 Try.sizeOf120 rfl rfl rfl) rfl, ⟨rfl, hI.below⟩⟩
 ·
  refine seq_c (s_call 62 [.agg #[.slice Ap0_0 lp0_0.length cp0_0, .slice Ap0_1 lp0_1.length cp0_1]] (by kernel_rfl) (L62 _ Ap0_0 cp0_0 lp0_0 Ap0_1 cp0_1 lp0_1 (hCp0_0.inv0 hI) hMp0_0 hKp0_0 (hCp0_1.inv0 hI) hMp0_1 hKp0_1 N _ hy328) ?_)
  rintro v w ⟨b330, es331, ck332, rfl, hN, ho333, hM334⟩
  have hI := hI.join hN; clear hN
  refine pu (.tuple #[.agg #[.slice Ap0_0 lp0_0.length cp0_0, .slice Ap0_1 lp0_1.length cp0_1, .map (some b330)], iv 0]) (by kernel_rfl) (pu (.agg #[.slice Ap0_0 lp0_0.length cp0_0, .slice Ap0_1 lp0_1.length cp0_1, .map (some b330)]) (by kernel_rfl) (pu (iv 0) (by kernel_rfl) (seq_c (s_allocI hI [.slice none 0 0, .slice none 0 0, .map none] Try.zeroValue115 rfl ?_))))
  intro b335 w hI
  refine seq_c (s_store hI 0 3 [.slice Ap0_0 lp0_0.length cp0_0, .slice Ap0_1 lp0_1.length cp0_1, .map (some b330)] Try.sizeOf115 rfl rfl rfl rfl rfl (Nat.le_of_ble_eq_true rfl) ?_)
  intro w hI
  refine pu (iv 0) (by kernel_rfl) (seq_nil (wp_seq (wp_seq (rgn (by kernel_rfl) (pu (iv 0) (by kernel_rfl) (seq_c (s_neq rfl rfl (fun h => absurd (a := 0 = 0) (by decide) h) (fun _ => ?_))))))))
  refine seq_nil (wp_condF rfl (wp_skip (wp_seq (wp_seq (rgn (by kernel_rfl) (pu (.slice Ap1 lp1.length cp1) (by kernel_rfl) (pu (iv ((lp1.length : Nat) : Int)) (by kernel_rfl) (bindE hF (fun y342 hy343 hF => ?_)))))))))
  refine ifE hF (fun h176 hF => ?_) (fun h176 hF => ?_)
  ·
   refine seq_c (s_callv hI 59 [iv (lp1.length : Int), iv 1, iv 12] (.bool true) (by kernel_rfl) (Does.mono (L59 _ (lp1.length : Int) 1 12 _ hy343) (fun v' w' h => ⟨h.1.trans (congrArg Value.bool h176), h.2⟩)) ?_)
   intro w hI
   refine pu (.bool false) (by kernel_rfl) (seq_nil (wp_condF rfl (wp_skip (wp_seq (rgn (by kernel_rfl) (seq_c (s_makeMap hI ?_)))))))
   intro b344 w hI
   refine pu (.map (some b344)) (by kernel_rfl) (seq_nil (wp_seq (wp_seq (rgn (by kernel_rfl) (pu (.slice Ap1 lp1.length cp1) (by kernel_rfl) (pu (iv ((lp1.length : Nat) : Int)) (by kernel_rfl) (pu (iv 0) (by kernel_rfl) (seq_nil (wp_block ?_)))))))))
   refine wp_loop (fun m ρ w => ∃ (es574 : List En) (ck575 : Nat) (seen_573 : Int → Option Bool) (v578 : Int) (mm : Nat), Agree ρ [(1, .slice Ap1 lp1.length cp1), (2, .pointer (some ⟨b311, 0, none⟩)), (4, .pointer (some ⟨b312, 0, none⟩)), (6, .pointer (some ⟨b335, 0, none⟩)), (8, .map (some b344)), (26, .slice Ap1 lp1.length cp1), (27, iv (lp1.length : Int)), (28, iv v578)] ∧ Inv [] w0 w [(some b311, blk [.slice Ap0_0 lp0_0.length cp0_0, .slice Ap0_1 lp0_1.length cp0_1] 25), (some b312, blk [.slice none 0 0, .slice none 0 0, .map none, .slice none 0 0] 120), (some b335, blk [.slice Ap0_0 lp0_0.length cp0_0, .slice Ap0_1 lp0_1.length cp0_1, .map (some b330)] 115), (some b330, mobj es331 ck332), (some b344, mobj es574 ck575)] ∧ (MOk es574 ck575) ∧ (∀ j, mget es574 j = (seen_573 j).map (Value.bool)) ∧ F64l1 lp0_1 lp1 y327 mm seen_573 v578 = some r ∧ mm = m) (m := N) ⟨[], 0, noM, 0, N, ⟨rfl, rfl, rfl, rfl, rfl, rfl, rfl, rfl, trivial⟩, hI.pickL [4, 3, 1, 2, 0] (by decide) rfl, MOk.nil, noM_ok, hF, rfl⟩ ?_
   rintro m ρ w ⟨es574, ck575, seen_573, v578, mm, hag, hI, ho576, hM577, hF, hm⟩
   subst hm; obtain ⟨ρ, rfl⟩ := hag.form; clear hag
   obtain _ | m1 := mm
   ·cases (show (none : Option (Unit ⊕ (Unit ⊕ (Int → Option Int)))) = some r from hF)
   replace hF : F64b1 lp0_1 lp1 y327 (F64l1 lp0_1 lp1 y327 m1) seen_573 v578 = some r := hF; unfold F64b1 at hF
   refine wp_seq (rgn (by kernel_rfl) (ifE hF (fun h317 hF => ?_) (fun h317 hF => ?_)))
   ·
    refine seq_c (s_lss rfl rfl (fun _ => ?_) (fun h => absurd (a := v578 < (lp1.length : Int)) h317 h))
    refine seq_nil (wp_seq (wp_condT rfl (wp_skip (wp_seq (wp_block ?_)))))
    refine wp_seq (rgn (by kernel_rfl) (gdE hF (fun h331 hF => ?_)))
    refine bindE hF (fun x600 hx601 hF => ?_)
    obtain ⟨b602, o603, hA604, hb605, he606⟩ := hCp1.at_ eCl_len (by decide) hx601
    refine seq_c (s_indexA (v578).toNat Try.underlying26 Try.sizeOf34 rfl hA604 rfl (Int.toNat_of_nonneg h331).symm (lt_n hx601 rfl) ?_)
    refine seq_c (s_loadBK hI [iv x600.fam, iv x600.hd, iv x600.fr, iv x600.to] Try.isAgg34 Try.sizeOf34 rfl rfl hb605 (by simp) he606 ?_)
    refine seq_c (s_allocI hI [iv 0, iv 0, iv 0, iv 0] Try.zeroValue34 rfl ?_)
    intro b607 w hI
    refine seq_c (s_store hI 0 4 [iv x600.fam, iv x600.hd, iv x600.fr, iv x600.to] Try.sizeOf34 rfl rfl rfl rfl rfl (Nat.le_of_ble_eq_true rfl) ?_)
    intro w hI
    refine seq_nil (wp_seq (wp_seq (rgn (by kernel_rfl) (seq_c (s_loadK hI 0 4 [iv x600.fam, iv x600.hd, iv x600.fr, iv x600.to] Try.isAgg34 Try.sizeOf34 rfl rfl rfl rfl ?_)))))
    refine bindE hF (fun y614 hy615 hF => ?_)
    refine seq_c (s_callv hI 23 [.agg #[iv x600.fam, iv x600.hd, iv x600.fr, iv x600.to]] (iv y614) (by kernel_rfl) (L23 _ x600 _ hy615) ?_)
    intro w hI
    refine ifE hF (fun h341 hF => ?_) (fun h341 hF => ?_)
    ·
     refine seq_c (s_neq rfl rfl (fun h => absurd (a := y614 = 0) h341 h) (fun _ => ?_))
     refine pu (.bool false) (by kernel_rfl) (puo (.pointer (some ⟨b607, 3, none⟩)) ⟨(by kernel_rfl), (by kernel_rfl)⟩ (seq_on (by kernel_rfl) (s_load1 hI 0 (iv x600.to) Try.isAgg3 rfl rfl rfl ?_)))
     refine puo (.pointer (some ⟨b311, 1, none⟩)) ⟨(by kernel_rfl), (by kernel_rfl)⟩ (seq_on (by kernel_rfl) (s_load1 hI 1 (.slice Ap0_1 lp0_1.length cp0_1) Try.isAgg23 rfl rfl rfl ?_))
     refine puo (iv ((lp0_1.length : Nat) : Int)) ⟨(by kernel_rfl), (by kernel_rfl)⟩ (ifE hF (fun h342 hF => ?_) (fun h342 hF => ?_))
     ·
      refine seq_on (by kernel_rfl) (s_geq rfl rfl (fun _ => ?_) (fun h => absurd (a := (lp0_1.length : Int) ≤ x600.to) h342 h))
      refine pu (.bool true) (by kernel_rfl) (pu (.bool true) (by kernel_rfl) (of_ (by kernel_rfl) (of_ (by kernel_rfl) (of_ (by kernel_rfl) (of_ (by kernel_rfl) (pu (.bool true) (by kernel_rfl) (seq_nil (wp_condT rfl (wp_seq ?_)))))))))
      refine rgn (by kernel_rfl) (pu (.agg #[.slice none 0 0, .slice none 0 0, .map none, .slice none 0 0]) (by kernel_rfl) (seq_c (s_store hI 2 4 [.slice none 0 0, .slice none 0 0, .map none, .slice none 0 0] Try.sizeOf120 rfl rfl rfl rfl rfl (Nat.le_of_ble_eq_true rfl) ?_)))
      intro w hI
      refine pu (iv 44) (by kernel_rfl) (seq_nil (wp_ret ?_))
      replace hF := Option.some.inj hF; subst hF
      exact ⟨.tuple #[.agg #[.slice none 0 0, .slice none 0 0, .map none, .slice none 0 0], iv 44], Ret.ct rfl rfl (run_loadK hI 2 4 [.slice none 0 0, .slice none 0 0, .map none, .slice none 0 0] Try.isAgg120 Try.sizeOf120 rfl rfl rfl) rfl, ⟨rfl, hI.below⟩⟩
     ·
      refine seq_on (by kernel_rfl) (s_geq rfl rfl (fun h => absurd (a := (lp0_1.length : Int) ≤ x600.to) h h342) (fun _ => ?_))
      refine pu (.bool false) (by kernel_rfl) (pu (.bool false) (by kernel_rfl) (puo (.map (some b344)) ⟨(by kernel_rfl), (by kernel_rfl)⟩ (puo (.pointer (some ⟨b607, 0, none⟩)) ⟨(by kernel_rfl), (by kernel_rfl)⟩ (seq_on (by kernel_rfl) (s_load1 hI 0 (iv x600.fam) Try.isAgg3 rfl rfl rfl ?_)))))
      refine ifE hF (fun h343 hF => ?_) (fun h343 hF => ?_)
      ·
       refine seq_on (by kernel_rfl) (s_lookup hI (.bool true) Try.underlying159 Try.underlying3 Try.zeroValue4 5 rfl rfl rfl ((getM_ok hM577 _).trans (congrArg Value.bool h343)) ?_)
       refine pu (.bool true) (by kernel_rfl) (seq_nil (wp_condT rfl (wp_seq (rgn (by kernel_rfl) (pu (.agg #[.slice none 0 0, .slice none 0 0, .map none, .slice none 0 0]) (by kernel_rfl) (seq_c (s_store hI 2 4 [.slice none 0 0, .slice none 0 0, .map none, .slice none 0 0] Try.sizeOf120 rfl rfl rfl rfl rfl (Nat.le_of_ble_eq_true rfl) ?_)))))))
       intro w hI
       refine pu (iv 44) (by kernel_rfl) (seq_nil (wp_ret ?_))
       replace hF := Option.some.inj hF; subst hF
       exact ⟨.tuple #[.agg #[.slice none 0 0, .slice none 0 0, .map none, .slice none 0 0], iv 44], Ret.ct rfl rfl (run_loadK hI 2 4 [.slice none 0 0, .slice none 0 0, .map none, .slice none 0 0] Try.isAgg120 Try.sizeOf120 rfl rfl rfl) rfl, ⟨rfl, hI.below⟩⟩
      ·
       refine seq_on (by kernel_rfl) (s_lookup hI (.bool false) Try.underlying159 Try.underlying3 Try.zeroValue4 5 rfl rfl rfl ((getM_ok hM577 _).trans (congrArg Value.bool (Bool.eq_false_iff.2 h343))) ?_)
       refine pu (.bool false) (by kernel_rfl) (seq_nil (wp_condF rfl (wp_skip (rgn (by kernel_rfl) (pu (.map (some b344)) (by kernel_rfl) (pu (.pointer (some ⟨b607, 0, none⟩)) (by kernel_rfl) (seq_c (s_load1 hI 0 (iv x600.fam) Try.isAgg3 rfl rfl rfl ?_))))))))
       refine seq_c (s_mapUpdate hI Try.underlying159 Try.underlying3 5 rfl rfl rfl rfl ho576 ?_)
       intro es616 ck617 w hI ho618 hg619
       have hM620 : ∀ j, mget es616 j = ((updM seen_573 x600.fam true) j).map (Value.bool) := updM_ok hM577 hg619
       refine seq_nil (rgn (by kernel_rfl) (ckE hF (fun h344 hF => ?_)))
       refine seq_c (s_add rfl rfl h344 ?_)
       refine pu (iv (v578 + 1)) (by kernel_rfl) (seq_nil ?_)
       exact ⟨rfl, m1, Nat.lt_succ_self _, ⟨es616, ck617, updM seen_573 x600.fam true, v578 + 1, m1, ⟨rfl, rfl, rfl, rfl, rfl, rfl, rfl, rfl, trivial⟩, hI.pickL [1, 2, 3, 4, 5] (by decide) rfl, ho618, hM620, hF, rfl⟩⟩
    ·
     refine seq_c (s_neq rfl rfl (fun _ => ?_) (fun h => absurd (a := y614 = 0) h h341))
     refine pu (.bool true) (by kernel_rfl) (of_ (by kernel_rfl) (of_ (by kernel_rfl) (of_ (by kernel_rfl) (of_ (by kernel_rfl) (of_ (by kernel_rfl) (of_ (by kernel_rfl) (pu (.bool true) (by kernel_rfl) (pu (.bool true) (by kernel_rfl) (of_ (by kernel_rfl) ?_)))))))))
     refine of_ (by kernel_rfl) (of_ (by kernel_rfl) (of_ (by kernel_rfl) (pu (.bool true) (by kernel_rfl) (seq_nil (wp_condT rfl (wp_seq (rgn (by kernel_rfl) (pu (.agg #[.slice none 0 0, .slice none 0 0, .map none, .slice none 0 0]) (by kernel_rfl) (seq_c (s_store hI 2 4 [.slice none 0 0, .slice none 0 0, .map none, .slice none 0 0] Try.sizeOf120 rfl rfl rfl rfl rfl (Nat.le_of_ble_eq_true rfl) ?_))))))))))
     intro w hI
     refine pu (iv 44) (by kernel_rfl) (seq_nil (wp_ret ?_))
     replace hF := Option.some.inj hF; subst hF
     exact ⟨.tuple #[.agg #[.slice none 0 0, .slice none 0 0, .map none, .slice none 0 0], iv 44], Ret.ct rfl rfl (run_loadK hI 2 4 [.slice none 0 0, .slice none 0 0, .map none, .slice none 0 0] Try.isAgg120 Try.sizeOf120 rfl rfl rfl) rfl, ⟨rfl, hI.below⟩⟩
   ·
    refine seq_c (s_lss rfl rfl (fun h => absurd (a := v578 < (lp1.length : Int)) h h317) (fun _ => ?_))
    refine seq_nil (wp_seq (wp_condF rfl (wp_exit ?_)))
    refine wp_seq (rgn (by kernel_rfl) (seq_c (s_loadK hI 2 3 [.slice Ap0_0 lp0_0.length cp0_0, .slice Ap0_1 lp0_1.length cp0_1, .map (some b330)] Try.isAgg115 Try.sizeOf115 rfl rfl rfl rfl ?_)))
    refine pu (.slice Ap1 lp1.length cp1) (by kernel_rfl) (pu (.agg #[.slice Ap0_0 lp0_0.length cp0_0, .slice Ap0_1 lp0_1.length cp0_1, .map (some b330), .slice Ap1 lp1.length cp1]) (by kernel_rfl) (seq_c (s_store hI 1 4 [.slice Ap0_0 lp0_0.length cp0_0, .slice Ap0_1 lp0_1.length cp0_1, .map (some b330), .slice Ap1 lp1.length cp1] Try.sizeOf120 rfl rfl rfl rfl rfl (Nat.le_of_ble_eq_true rfl) ?_)))
    intro w hI
    refine pu (iv 0) (by kernel_rfl) (seq_nil (wp_ret ?_))
    replace hF := Option.some.inj hF; subst hF
    exact ⟨.tuple #[.agg #[.slice Ap0_0 lp0_0.length cp0_0, .slice Ap0_1 lp0_1.length cp0_1, .map (some b330), .slice Ap1 lp1.length cp1], iv 0], Ret.ct rfl rfl (run_loadK hI 1 4 [.slice Ap0_0 lp0_0.length cp0_0, .slice Ap0_1 lp0_1.length cp0_1, .map (some b330), .slice Ap1 lp1.length cp1] Try.isAgg120 Try.sizeOf120 rfl rfl rfl) rfl, ⟨b330, es331, ck332, rfl, hI.pickL [3] (by decide) rfl, ho333, hM334⟩⟩
  ·
   refine seq_c (s_callv hI 59 [iv (lp1.length : Int), iv 1, iv 12] (.bool false) (by kernel_rfl) (Does.mono (L59 _ (lp1.length : Int) 1 12 _ hy343) (fun v' w' h => ⟨h.1.trans (congrArg Value.bool (Bool.eq_false_iff.2 h176)), h.2⟩)) ?_)
   intro w hI
   refine pu (.bool true) (by kernel_rfl) (seq_nil (wp_condT rfl (wp_seq (rgn (by kernel_rfl) (pu (.agg #[.slice none 0 0, .slice none 0 0, .map none, .slice none 0 0]) (by kernel_rfl) (seq_c (s_store hI 2 4 [.slice none 0 0, .slice none 0 0, .map none, .slice none 0 0] Try.sizeOf120 rfl rfl rfl rfl rfl (Nat.le_of_ble_eq_true rfl) ?_)))))))
   intro w hI
   refine pu (iv 44) (by kernel_rfl) (seq_nil (wp_ret ?_))
   replace hF := Option.some.inj hF; subst hF
   exact ⟨.tuple #[.agg #[.slice none 0 0, .slice none 0 0, .map none, .slice none 0 0], iv 44], Ret.ct rfl rfl (run_loadK hI 2 4 [.slice none 0 0, .slice none 0 0, .map none, .slice none 0 0] Try.isAgg120 Try.sizeOf120 rfl rfl rfl) rfl, ⟨rfl, hI.below⟩⟩


theorem L17 (w0 : World) (Ap0_0 : Option Addr) (cp0_0 : Nat) (lp0_0 : List Ch) (Ap0_1 : Option Addr) (cp0_1 : Nat) (lp0_1 : List Ce) (Ap1 : Option Addr) (cp1 : Nat) (lp1 : List Cl) (hCp0_0 : Cells w0 Ap0_0 (flat eCh lp0_0)) (hMp0_0 : lp0_0.length ≤ 9223372036854775807) (hKp0_0 : lp0_0.length ≤ cp0_0) (hCp0_1 : Cells w0 Ap0_1 (flat eCe lp0_1)) (hMp0_1 : lp0_1.length ≤ 9223372036854775807) (hKp0_1 : lp0_1.length ≤ cp0_1) (hCp1 : Cells w0 Ap1 (flat eCl lp1)) (hMp1 : lp1.length ≤ 9223372036854775807) (hKp1 : lp1.length ≤ cp1) (N : Nat) (r : Int) (hF : F17 N lp0_0 lp0_1 lp1 = some r) : Does Try.prog 17 [.agg #[.slice Ap0_0 lp0_0.length cp0_0, .slice Ap0_1 lp0_1.length cp0_1], .slice Ap1 lp1.length cp1] w0 fun v w => v = .int .i64 r ∧ Below w0.heap.size w0 w := by
 refine calls_of (n := 14) Try.func17 rfl Try.ntmps17 rfl ?_
 have hI := Inv.start w0
 unfold F17 at hF
 refine wp_seq (rgn (by kernel_rfl) (seq_c (s_boxI hI [.slice Ap0_0 lp0_0.length cp0_0, .slice Ap0_1 lp0_1.length cp0_1] rfl ?_)))
 intro b31 w hI
 refine pu (iv 0) (by kernel_rfl) (seq_nil (wp_seq (rgn (by kernel_rfl) (seq_c (s_loadK hI 0 2 [.slice Ap0_0 lp0_0.length cp0_0, .slice Ap0_1 lp0_1.length cp0_1] Try.isAgg25 Try.sizeOf25 rfl rfl rfl rfl ?_)))))
 refine pu (.slice Ap1 lp1.length cp1) (by kernel_rfl) (bindS3E hF (fun y47 hy48 hF => ?_) (fun y49 hy50 hF => ?_) (fun y51 hy52 hF => ?_))
 ·
  refine seq_c (s_callv hI 64 [.agg #[.slice Ap0_0 lp0_0.length cp0_0, .slice Ap0_1 lp0_1.length cp0_1], .slice Ap1 lp1.length cp1] (.tuple #[.agg #[.slice none 0 0, .slice none 0 0, .map none, .slice none 0 0], iv 42]) (by kernel_rfl) (L64 _ Ap0_0 cp0_0 lp0_0 Ap0_1 cp0_1 lp0_1 Ap1 cp1 lp1 (hCp0_0.inv0 hI) hMp0_0 hKp0_0 (hCp0_1.inv0 hI) hMp0_1 hKp0_1 (hCp1.inv0 hI) hMp1 hKp1 N _ hy48) ?_)
  intro w hI
  refine pu (.tuple #[.agg #[.slice none 0 0, .slice none 0 0, .map none, .slice none 0 0], iv 42]) (by kernel_rfl) (pu (.agg #[.slice none 0 0, .slice none 0 0, .map none, .slice none 0 0]) (by kernel_rfl) (pu (iv 42) (by kernel_rfl) (seq_c (s_allocI hI [.slice none 0 0, .slice none 0 0, .map none, .slice none 0 0] Try.zeroValue120 rfl ?_))))
  intro b53 w hI
  refine seq_c (s_store hI 0 4 [.slice none 0 0, .slice none 0 0, .map none, .slice none 0 0] Try.sizeOf120 rfl rfl rfl rfl rfl (Nat.le_of_ble_eq_true rfl) ?_)
  intro w hI
  refine pu (iv 42) (by kernel_rfl) (seq_nil (wp_seq (rgn (by kernel_rfl) (pu (iv 42) (by kernel_rfl) (pu (iv 42) (by kernel_rfl) (seq_nil (wp_ret ?_)))))))
  replace hF := Option.some.inj hF; subst hF
  exact ⟨iv 42, Ret.r1 rfl rfl, ⟨rfl, hI.below⟩⟩
 ·
  refine seq_c (s_callv hI 64 [.agg #[.slice Ap0_0 lp0_0.length cp0_0, .slice Ap0_1 lp0_1.length cp0_1], .slice Ap1 lp1.length cp1] (.tuple #[.agg #[.slice none 0 0, .slice none 0 0, .map none, .slice none 0 0], iv 44]) (by kernel_rfl) (L64 _ Ap0_0 cp0_0 lp0_0 Ap0_1 cp0_1 lp0_1 Ap1 cp1 lp1 (hCp0_0.inv0 hI) hMp0_0 hKp0_0 (hCp0_1.inv0 hI) hMp0_1 hKp0_1 (hCp1.inv0 hI) hMp1 hKp1 N _ hy50) ?_)
  intro w hI
  refine pu (.tuple #[.agg #[.slice none 0 0, .slice none 0 0, .map none, .slice none 0 0], iv 44]) (by kernel_rfl) (pu (.agg #[.slice none 0 0, .slice none 0 0, .map none, .slice none 0 0]) (by kernel_rfl) (pu (iv 44) (by kernel_rfl) (seq_c (s_allocI hI [.slice none 0 0, .slice none 0 0, .map none, .slice none 0 0] Try.zeroValue120 rfl ?_))))
  intro b54 w hI
  refine seq_c (s_store hI 0 4 [.slice none 0 0, .slice none 0 0, .map none, .slice none 0 0] Try.sizeOf120 rfl rfl rfl rfl rfl (Nat.le_of_ble_eq_true rfl) ?_)
  intro w hI
  refine pu (iv 44) (by kernel_rfl) (seq_nil (wp_seq (rgn (by kernel_rfl) (pu (iv 44) (by kernel_rfl) (pu (iv 44) (by kernel_rfl) (seq_nil (wp_ret ?_)))))))
  replace hF := Option.some.inj hF; subst hF
  exact ⟨iv 44, Ret.r1 rfl rfl, ⟨rfl, hI.below⟩⟩
 ·
  refine seq_c (s_call 64 [.agg #[.slice Ap0_0 lp0_0.length cp0_0, .slice Ap0_1 lp0_1.length cp0_1], .slice Ap1 lp1.length cp1] (by kernel_rfl) (L64 _ Ap0_0 cp0_0 lp0_0 Ap0_1 cp0_1 lp0_1 Ap1 cp1 lp1 (hCp0_0.inv0 hI) hMp0_0 hKp0_0 (hCp0_1.inv0 hI) hMp0_1 hKp0_1 (hCp1.inv0 hI) hMp1 hKp1 N _ hy52) ?_)
  rintro v w ⟨b55, es56, ck57, rfl, hN, ho58, hM59⟩
  have hI := hI.join hN; clear hN
  refine pu (.tuple #[.agg #[.slice Ap0_0 lp0_0.length cp0_0, .slice Ap0_1 lp0_1.length cp0_1, .map (some b55), .slice Ap1 lp1.length cp1], iv 0]) (by kernel_rfl) (pu (.agg #[.slice Ap0_0 lp0_0.length cp0_0, .slice Ap0_1 lp0_1.length cp0_1, .map (some b55), .slice Ap1 lp1.length cp1]) (by kernel_rfl) (pu (iv 0) (by kernel_rfl) (seq_c (s_allocI hI [.slice none 0 0, .slice none 0 0, .map none, .slice none 0 0] Try.zeroValue120 rfl ?_))))
  intro b60 w hI
  refine seq_c (s_store hI 0 4 [.slice Ap0_0 lp0_0.length cp0_0, .slice Ap0_1 lp0_1.length cp0_1, .map (some b55), .slice Ap1 lp1.length cp1] Try.sizeOf120 rfl rfl rfl rfl rfl (Nat.le_of_ble_eq_true rfl) ?_)
  intro w hI
  refine pu (iv 0) (by kernel_rfl) (seq_nil (wp_seq (rgn (by kernel_rfl) (pu (iv 0) (by kernel_rfl) (pu (iv 0) (by kernel_rfl) (seq_nil (wp_ret ?_)))))))
  replace hF := Option.some.inj hF; subst hF
  exact ⟨iv 0, Ret.r1 rfl rfl, ⟨rfl, hI.below⟩⟩


theorem L60 (w0 : World) (Ap0 : Option Addr) (cp0 : Nat) (lp0 : List (List Cl)) (dp0 : List D26) (hCp0 : Cells w0 Ap0 (flat eD26 dp0)) (hDp0 : dp0.map D26.p = lp0) (hOp0 : ∀ d ∈ dp0, okD26 w0 d) (hMp0 : lp0.length ≤ 9223372036854775807) (hKp0 : lp0.length ≤ cp0) (N : Nat) (r : List Cl) (hF : F60 N lp0 = some r) : Does Try.prog 60 [.slice Ap0 lp0.length cp0] w0 fun v w => ∃ (z0 : Option Nat) (z1 : Nat) (z2 : List Value), v = slv z0 r.length z1 ∧ Inv [] w0 w [(z0, blk z2 34)] ∧ Row 4 z0 r.length z1 z2 (flat eCl r) := by
 refine calls_of (n := 36) Try.func60 rfl Try.ntmps60 rfl ?_
 have hI := Inv.start w0
 unfold F60 at hF
 refine wp_seq (rgn (by kernel_rfl) (pu (.slice none 0 0) (by kernel_rfl) (seq_nil (wp_seq (rgn (by kernel_rfl) (pu (iv 0) (by kernel_rfl) (seq_nil (wp_cutO (fun ρ w => ∃ (size_415 : Int), Agree ρ [(0, .slice Ap0 lp0.length cp0), (3, iv size_415)] ∧ Inv [] w0 w [] ∧ F60j1 lp0 N size_415 = some r) ?_ ?_))))))))
 ·
  refine wp_seq (rgn (by kernel_rfl) (pu (.slice Ap0 lp0.length cp0) (by kernel_rfl) (pu (iv ((lp0.length : Nat) : Int)) (by kernel_rfl) (pu (iv 0) (by kernel_rfl) (seq_nil (wp_block ?_))))))
  refine wp_loop (fun m ρ w => ∃ (size_679 : Int) (v680 : Int) (mm : Nat), Agree ρ [(0, .slice Ap0 lp0.length cp0), (3, iv size_679), (9, .slice Ap0 lp0.length cp0), (10, iv (lp0.length : Int)), (11, iv v680)] ∧ Inv [] w0 w [] ∧ F60l4 lp0 N mm size_679 v680 = some r ∧ mm = m) (m := N) ⟨0, 0, N, ⟨rfl, rfl, rfl, rfl, rfl, trivial⟩, hI.pickL [] (by decide) rfl, hF, rfl⟩ ?_
  rintro m ρ w ⟨size_679, v680, mm, hag, hI, hF, hm⟩
  subst hm; obtain ⟨ρ, rfl⟩ := hag.form; clear hag
  obtain _ | m4 := mm
  ·cases (show (none : Option (List Cl)) = some r from hF)
  replace hF : F60b4 lp0 N (F60l4 lp0 N m4) size_679 v680 = some r := hF; unfold F60b4 at hF
  refine wp_seq (rgn (by kernel_rfl) (ifE hF (fun h261 hF => ?_) (fun h261 hF => ?_)))
  ·
   refine seq_c (s_lss rfl rfl (fun _ => ?_) (fun h => absurd (a := v680 < (lp0.length : Int)) h261 h))
   refine seq_nil (wp_seq (wp_condT rfl (wp_skip (wp_seq (wp_block ?_)))))
   refine wp_seq (rgn (by kernel_rfl) (gdE hF (fun h267 hF => ?_)))
   refine bindE hF (fun x691 hx692 hF => ?_)
   obtain ⟨A693, c694, hd695⟩ := getD26 hDp0 hx692
   obtain ⟨b696, o697, hA698, hb699, he700⟩ := hCp0.at_ eD26_len (by decide) hd695
   refine seq_c (s_indexA (v680).toNat Try.underlying156 Try.sizeOf26 rfl hA698 rfl (Int.toNat_of_nonneg h267).symm (lt_n hx692 rfl) ?_)
   refine seq_c (s_loadB1 hI (.slice A693 x691.length c694) Try.isAgg26 rfl hb699 (by simp) (he700 0 _ rfl) ?_)
   refine pu (.slice A693 x691.length c694) (by kernel_rfl) (seq_nil (wp_seq (rgn (by kernel_rfl) (pu (iv size_679) (by kernel_rfl) (pu (.slice A693 x691.length c694) (by kernel_rfl) (pu (iv ((x691.length : Nat) : Int)) (by kernel_rfl) (ckE hF (fun h269 hF => ?_))))))))
   refine seq_c (s_add rfl rfl h269 ?_)
   refine pu (iv (size_679 + (x691.length : Int))) (by kernel_rfl) (seq_nil (wp_seq (rgn (by kernel_rfl) (pu (iv (size_679 + (x691.length : Int))) (by kernel_rfl) (ifE hF (fun h271 hF => ?_) (fun h271 hF => ?_))))))
   ·
    refine seq_c (s_lss rfl rfl (fun _ => ?_) (fun h => absurd (a := (size_679 + (x691.length : Int)) < 0) h271 h))
    refine seq_nil (wp_condT rfl (rgn (by kernel_rfl) ?_))
    cases hF
   ·
    refine seq_c (s_lss rfl rfl (fun h => absurd (a := (size_679 + (x691.length : Int)) < 0) h h271) (fun _ => ?_))
    refine seq_nil (wp_condF rfl (wp_skip (rgn (by kernel_rfl) (ckE hF (fun h272 hF => ?_)))))
    refine seq_c (s_add rfl rfl h272 ?_)
    refine pu (iv (v680 + 1)) (by kernel_rfl) (seq_nil ?_)
    exact ⟨rfl, m4, Nat.lt_succ_self _, ⟨size_679 + (x691.length : Int), v680 + 1, m4, ⟨rfl, rfl, rfl, rfl, rfl, trivial⟩, hI.pickL [] (by decide) rfl, hF, rfl⟩⟩
  ·
   refine seq_c (s_lss rfl rfl (fun h => absurd (a := v680 < (lp0.length : Int)) h h261) (fun _ => ?_))
   refine seq_nil (wp_seq (wp_condF rfl (wp_exit ?_)))
   exact .inl ⟨rfl, ⟨size_679, ⟨rfl, rfl, trivial⟩, hI.pickL [] (by decide) rfl, hF⟩⟩
 ·intro ρ w hJ
  obtain ⟨size_415, hag, hI, hF⟩ := hJ
  obtain ⟨ρ, rfl⟩ := hag.form; clear hag
  unfold F60j1 at hF
  refine wp_seq (rgn (by kernel_rfl) (pu (iv size_415) (by kernel_rfl) (seq_c (s_callI 92 [.slice none 0 0, iv size_415] (by kernel_rfl) ?_))))
  refine calls_of (n := 27) Try.func92 rfl Try.ntmps92 rfl ?_
  refine wp_seq (rgn (by kernel_rfl) (pu (.slice none 0 0) (by kernel_rfl) (seq_nil (wp_seq (wp_seq (rgn (by kernel_rfl) (pu (iv size_415) (by kernel_rfl) (ifE hF (fun h190 hF => ?_) (fun h190 hF => ?_)))))))))
  ·
   refine seq_c (s_lss rfl rfl (fun _ => ?_) (fun h => absurd (a := size_415 < 0) h190 h))
   refine seq_nil (wp_condT rfl (rgn (by kernel_rfl) ?_))
   cases hF
  ·
   refine seq_c (s_lss rfl rfl (fun h => absurd (a := size_415 < 0) h h190) (fun _ => ?_))
   refine seq_nil (wp_condF rfl (wp_skip (wp_cutO (fun ρ w => ∃ (g432 : Option Nat) (c433 : Nat) (cl434 : List Value), Agree ρ [(0, slv g432 (([] : List Cl).length) c433)] ∧ Inv [] w0 w [(g432, blk cl434 34)] ∧ (Row 4 g432 (([] : List Cl).length) c433 cl434 (flat eCl ([] : List Cl))) ∧ F60j2 lp0 N = some r) ?_ ?_)))
   ·
    refine wp_seq (rgn (by kernel_rfl) (pu (iv size_415) (by kernel_rfl) (pu (.slice none 0 0) (by kernel_rfl) (pu (iv 0) (by kernel_rfl) (pu (.slice none 0 0) (by kernel_rfl) (pu (iv ((0 : Nat) : Int)) (by kernel_rfl) (seq_c (s_sub rfl rfl (by decide) ?_))))))))
    refine ckE hF (fun h233 hF => ?_)
    refine seq_c (s_sub rfl rfl h233 ?_)
    refine pu (iv (size_415 - (0 - 0))) (by kernel_rfl) (seq_nil (wp_seq (rgn (by kernel_rfl) (pu (iv (size_415 - (0 - 0))) (by kernel_rfl) (ifE hF (fun h235 hF => ?_) (fun h235 hF => ?_))))))
    ·
     refine seq_c (s_gtr rfl rfl (fun _ => ?_) (fun h => absurd (a := 0 < (size_415 - (0 - 0))) h235 h))
     refine seq_nil (wp_condT rfl (rgn (by kernel_rfl) (pu (.slice none 0 0) (by kernel_rfl) (pu (.slice none 0 0) (by kernel_rfl) (pu (iv 0) (by kernel_rfl) (pu (.slice none 0 0) (by kernel_rfl) (pu (iv (size_415 - (0 - 0))) (by kernel_rfl) (gdE hF (fun h236 hF => ?_)))))))))
     refine seq_c (s_appMakeNil hI (z := .agg #[iv 0, iv 0, iv 0, iv 0]) (k := 4) (bytes := 32) Try.underlying26 Try.underlying3 (by kernel_rfl) rfl rfl rfl rfl h235 h236 (by decide) ?_)
     intro b633 c634 cl635 w hI r636
     refine pu (.slice none 0 0) (by kernel_rfl) (pu (iv ((0 : Nat) : Int)) (by kernel_rfl) (seq_c (s_sliceHi 0 Try.underlying26 Try.sizeOf34 rfl rfl (Nat.zero_le _) ?_)))
     refine pu (slv (some b633) 0 c634) (by kernel_rfl) (seq_nil ?_)
     exact .inl ⟨rfl, ⟨some b633, c634, cl635, ⟨rfl, trivial⟩, hI.pickL [0] (by decide) rfl, (r636.to rfl rfl), hF⟩⟩
    ·
     refine seq_c (s_gtr rfl rfl (fun h => absurd (a := 0 < (size_415 - (0 - 0))) h h235) (fun _ => ?_))
     refine seq_nil (wp_condF rfl (wp_skip ?_))
     have hI := hI.nilRow 34
     exact .inl ⟨rfl, ⟨none, 0, [], ⟨rfl, trivial⟩, hI.pickL [0] (by decide) rfl, (Row.nil_ 4), hF⟩⟩
   ·intro ρ w hJ
    obtain ⟨g432, c433, cl434, hag, hI, r435, hF⟩ := hJ
    obtain ⟨ρ, rfl⟩ := hag.form; clear hag
    unfold F60j2 at hF
    refine wp_seq (rgn (by kernel_rfl) (pu (slv g432 (([] : List Cl).length) c433) (by kernel_rfl) (pu (slv g432 (([] : List Cl).length) c433) (by kernel_rfl) (seq_nil (wp_ret (⟨slv g432 (([] : List Cl).length) c433, Ret.r1 rfl rfl, ?_⟩))))))
    refine pu (slv g432 (([] : List Cl).length) c433) (by kernel_rfl) (seq_nil (wp_seq (wp_seq (rgn (by kernel_rfl) (pu (.slice Ap0 lp0.length cp0) (by kernel_rfl) (pu (iv ((lp0.length : Nat) : Int)) (by kernel_rfl) (pu (iv 0) (by kernel_rfl) (seq_nil (wp_block ?_)))))))))
    refine wp_loop (fun m ρ w => ∃ (g600 : Option Nat) (c601 : Nat) (cl602 : List Value) (newslice_599 : List Cl) (v604 : Int) (mm : Nat), Agree ρ [(6, slv g600 newslice_599.length c601), (25, .slice Ap0 lp0.length cp0), (26, iv (lp0.length : Int)), (27, iv v604)] ∧ Inv [] w0 w [(g600, blk cl602 34)] ∧ (Row 4 g600 (newslice_599.length) c601 cl602 (flat eCl newslice_599)) ∧ F60l3 lp0 mm newslice_599 v604 = some r ∧ mm = m) (m := N) ⟨g432, c433, cl434, ([] : List Cl), 0, N, ⟨rfl, rfl, rfl, rfl, trivial⟩, hI.pickL [0] (by decide) rfl, (r435.to rfl rfl), hF, rfl⟩ ?_
    rintro m ρ w ⟨g600, c601, cl602, newslice_599, v604, mm, hag, hI, r603, hF, hm⟩
    subst hm; obtain ⟨ρ, rfl⟩ := hag.form; clear hag
    obtain _ | m3 := mm
    ·cases (show (none : Option (List Cl)) = some r from hF)
    replace hF : F60b3 lp0 (F60l3 lp0 m3) newslice_599 v604 = some r := hF; unfold F60b3 at hF
    refine wp_seq (rgn (by kernel_rfl) (ifE hF (fun h226 hF => ?_) (fun h226 hF => ?_)))
    ·
     refine seq_c (s_lss rfl rfl (fun _ => ?_) (fun h => absurd (a := v604 < (lp0.length : Int)) h226 h))
     refine seq_nil (wp_seq (wp_condT rfl (wp_skip (wp_seq (wp_block ?_)))))
     refine wp_seq (rgn (by kernel_rfl) (gdE hF (fun h229 hF => ?_)))
     refine bindE hF (fun x619 hx620 hF => ?_)
     obtain ⟨A621, c622, hd623⟩ := getD26 hDp0 hx620
     obtain ⟨b624, o625, hA626, hb627, he628⟩ := hCp0.at_ eD26_len (by decide) hd623
     refine seq_c (s_indexA (v604).toNat Try.underlying156 Try.sizeOf26 rfl hA626 rfl (Int.toNat_of_nonneg h229).symm (lt_n hx620 rfl) ?_)
     refine seq_c (s_loadB1 hI (.slice A621 x619.length c622) Try.isAgg26 rfl hb627 (by simp) (he628 0 _ rfl) ?_)
     refine pu (.slice A621 x619.length c622) (by kernel_rfl) (seq_nil (rgn (by kernel_rfl) (pu (slv g600 newslice_599.length c601) (by kernel_rfl) (pu (.slice A621 x619.length c622) (by kernel_rfl) (gdE hF (fun h230 hF => ?_))))))
     refine seq_c (s_appN hI Try.underlying26 (z := .agg #[iv 0, iv 0, iv 0, iv 0]) (k := 4) (bytes := 32) (by kernel_rfl) rfl rfl 0 rfl rfl r603 (flat eCl x619) rfl (flat_len eCl_len _) (((hOp0 _ (mem_of_get hd623))).1.inv0 hI) (flat_cell eCl_cell _) (by omega) (by omega) (n2 := (newslice_599 ++ x619).length) (app_len rfl rfl) ?_)
     intro g629 c630 cl631 w hI r632
     have r632 : Row 4 g629 ((newslice_599 ++ x619).length) c630 cl631 (flat eCl (newslice_599 ++ x619)) := r632.more
     refine pu (slv g629 ((newslice_599 ++ x619).length) c630) (by kernel_rfl) (seq_nil (rgn (by kernel_rfl) (ckE hF (fun h231 hF => ?_))))
     refine seq_c (s_add rfl rfl h231 ?_)
     refine pu (iv (v604 + 1)) (by kernel_rfl) (seq_nil ?_)
     exact ⟨rfl, m3, Nat.lt_succ_self _, ⟨g629, c630, cl631, newslice_599 ++ x619, v604 + 1, m3, ⟨rfl, rfl, rfl, rfl, trivial⟩, hI.pickL [0] (by decide) rfl, (r632.to rfl rfl), hF, rfl⟩⟩
    ·
     refine seq_c (s_lss rfl rfl (fun h => absurd (a := v604 < (lp0.length : Int)) h h226) (fun _ => ?_))
     refine seq_nil (wp_seq (wp_condF rfl (wp_exit ?_)))
     refine wp_seq (rgn (by kernel_rfl) (pu (slv g600 newslice_599.length c601) (by kernel_rfl) (pu (slv g600 newslice_599.length c601) (by kernel_rfl) (seq_nil (wp_ret ?_)))))
     replace hF := Option.some.inj hF; subst hF
     exact ⟨slv g600 newslice_599.length c601, Ret.r1 rfl rfl, ⟨g600, c601, cl602, rfl, hI.pickL [0] (by decide) rfl, r603.to rfl rfl⟩⟩


theorem L12 (w0 : World) (Ap0_0 : Option Addr) (cp0_0 : Nat) (lp0_0 : List Ch) (Ap0_1 : Option Addr) (cp0_1 : Nat) (lp0_1 : List Ce) (Ap1 : Option Addr) (cp1 : Nat) (lp1 : List Cl) (p2 : Int) (hCp0_0 : Cells w0 Ap0_0 (flat eCh lp0_0)) (hMp0_0 : lp0_0.length ≤ 9223372036854775807) (hKp0_0 : lp0_0.length ≤ cp0_0) (hCp0_1 : Cells w0 Ap0_1 (flat eCe lp0_1)) (hMp0_1 : lp0_1.length ≤ 9223372036854775807) (hKp0_1 : lp0_1.length ≤ cp0_1) (hCp1 : Cells w0 Ap1 (flat eCl lp1)) (hMp1 : lp1.length ≤ 9223372036854775807) (hKp1 : lp1.length ≤ cp1) (N : Nat) (r : (List Cl × Int)) (hF : F12 N lp0_0 lp0_1 lp1 p2 = some r) : Does Try.prog 12 [.agg #[.slice Ap0_0 lp0_0.length cp0_0, .slice Ap0_1 lp0_1.length cp0_1], .slice Ap1 lp1.length cp1, .int .i64 p2] w0 fun v w => ∃ (z0 : Option Nat) (z1 : Nat) (z2 : List Value), v = .tuple #[slv z0 r.1.length z1, .int .i64 r.2] ∧ Inv [] w0 w [(z0, blk z2 34)] ∧ Row 4 z0 r.1.length z1 z2 (flat eCl r.1) := by
 refine calls_of (n := 31) Try.func12 rfl Try.ntmps12 rfl ?_
 have hI := Inv.start w0
 unfold F12 at hF
 refine wp_seq (rgn (by kernel_rfl) (seq_c (s_boxI hI [.slice Ap0_0 lp0_0.length cp0_0, .slice Ap0_1 lp0_1.length cp0_1] rfl ?_)))
 intro b58 w hI
 refine pu (.slice none 0 0) (by kernel_rfl) (pu (iv 0) (by kernel_rfl) (seq_nil (wp_seq (wp_seq (rgn (by kernel_rfl) (seq_c (s_loadK hI 0 2 [.slice Ap0_0 lp0_0.length cp0_0, .slice Ap0_1 lp0_1.length cp0_1] Try.isAgg25 Try.sizeOf25 rfl rfl rfl rfl ?_)))))))
 refine pu (.slice Ap1 lp1.length cp1) (by kernel_rfl) (bindE hF (fun y65 hy66 hF => ?_))
 refine seq_c (s_callv hI 17 [.agg #[.slice Ap0_0 lp0_0.length cp0_0, .slice Ap0_1 lp0_1.length cp0_1], .slice Ap1 lp1.length cp1] (iv y65) (by kernel_rfl) (L17 _ Ap0_0 cp0_0 lp0_0 Ap0_1 cp0_1 lp0_1 Ap1 cp1 lp1 (hCp0_0.inv0 hI) hMp0_0 hKp0_0 (hCp0_1.inv0 hI) hMp0_1 hKp0_1 (hCp1.inv0 hI) hMp1 hKp1 N _ hy66) ?_)
 intro w hI
 refine pu (iv y65) (by kernel_rfl) (seq_nil (wp_seq (rgn (by kernel_rfl) (pu (iv y65) (by kernel_rfl) (ifE hF (fun h20 hF => ?_) (fun h20 hF => ?_))))))
 ·
  refine seq_c (s_neq rfl rfl (fun h => absurd (a := y65 = 0) h20 h) (fun _ => ?_))
  refine seq_nil (wp_condF rfl (wp_skip (wp_seq (wp_seq (rgn (by kernel_rfl) (pu (iv p2) (by kernel_rfl) (bindE hF (fun y73 hy74 hF => ?_))))))))
  refine ifE hF (fun h24 hF => ?_) (fun h24 hF => ?_)
  ·
   refine seq_c (s_callv hI 59 [iv p2, iv 0, iv 4166] (.bool true) (by kernel_rfl) (Does.mono (L59 _ p2 0 4166 _ hy74) (fun v' w' h => ⟨h.1.trans (congrArg Value.bool h24), h.2⟩)) ?_)
   intro w hI
   refine pu (.bool false) (by kernel_rfl) (seq_nil (wp_condF rfl (wp_skip (wp_seq (rgn (by kernel_rfl) (pu (iv p2) (by kernel_rfl) (pu (.slice Ap1 lp1.length cp1) (by kernel_rfl) (pu (iv ((lp1.length : Nat) : Int)) (by kernel_rfl) (gdE hF (fun h26 hF => ?_))))))))))
   refine seq_c (s_rem rfl rfl h26 ?_)
   refine pu (iv (p2.tmod (lp1.length : Int))) (by kernel_rfl) (seq_nil (wp_seq (gdE hF (fun h30 hF => ?_))))
   refine gdE hF (fun h31 hF => ?_)
   refine gdE hF (fun h32 hF => ?_)
   refine bindE hF (fun y100 hy101 hF => ?_)
   refine wp_drawn2 hI [0] (by decide) rfl (by kernel_rfl) (by kernel_rfl) ?_
   intro hsub
   refine alp 0 (.slice Ap1 lp1.length cp1) hsub rfl (by kernel_rfl) (fun _ => (by kernel_rfl)) ?_
   refine alp 1 (iv (p2.tmod (lp1.length : Int))) hsub rfl (by kernel_rfl) (fun _ => (by kernel_rfl)) ?_
   obtain ⟨A106, hC107, hA106⟩ := cutA (enc := eCl) (l := lp1) (lo := (p2.tmod (lp1.length : Int)).toNat) (hi := lp1.length) (c := cp1) (k := 4) eCl_len hCp1 h31 hKp1
   refine al_light 2 (.slice A106 (((lp1.drop ((p2.tmod (lp1.length : Int)).toNat)).take (lp1.length - ((p2.tmod (lp1.length : Int)).toNat))).length) (cp1 - ((p2.tmod (lp1.length : Int)).toNat))) hsub rfl (by kernel_rfl) (fun w hI => hA106 Try.underlying26 Try.sizeOf34 rfl (.inl (congrArg (fun z => some (Value.int .i64 z)) (Int.toNat_of_nonneg h30).symm)) (.inr ⟨rfl, rfl⟩) ⟨rfl, Below.refl _ _⟩) ?_
   refine alp 3 (.slice Ap1 lp1.length cp1) hsub rfl (by kernel_rfl) (fun _ => (by kernel_rfl)) ?_
   refine alp 4 (iv (p2.tmod (lp1.length : Int))) hsub rfl (by kernel_rfl) (fun _ => (by kernel_rfl)) ?_
   obtain ⟨A108, hC109, hA108⟩ := cutA (enc := eCl) (l := lp1) (lo := 0) (hi := (p2.tmod (lp1.length : Int)).toNat) (c := cp1) (k := 4) eCl_len hCp1 h32 hKp1
   refine al_light 5 (.slice A108 (((lp1.drop 0).take ((p2.tmod (lp1.length : Int)).toNat - 0)).length) (cp1 - 0)) hsub rfl (by kernel_rfl) (fun w hI => hA108 Try.underlying26 Try.sizeOf34 rfl (.inr ⟨rfl, rfl⟩) (.inl (congrArg (fun z => some (Value.int .i64 z)) (Int.toNat_of_nonneg h30).symm)) ⟨rfl, Below.refl _ _⟩) ?_
   refine any_heavy [6] (by kernel_rfl) rfl (each1 ?_)
   intro w hI
   refine ol_c rfl (s_new hI [.slice A106 (((lp1.drop ((p2.tmod (lp1.length : Int)).toNat)).take (lp1.length - ((p2.tmod (lp1.length : Int)).toNat))).length) (cp1 - ((p2.tmod (lp1.length : Int)).toNat)), .slice A108 (((lp1.drop 0).take ((p2.tmod (lp1.length : Int)).toNat - 0)).length) (cp1 - 0)] 26 (fun b => slv (some b) 2 2) (by kernel_rfl) ?_)
   intro b110 w hI
   refine ⟨_, hI, subk (fun _ h => h.pickL [1] (by decide) rfl) ?_⟩
   intro hsub
   refine any_heavy [7] (by kernel_rfl) rfl (each1 ?_)
   intro w hI
   refine ol_c rfl (s_call 60 [.slice (some ⟨b110, 0, none⟩) 2 2] (by kernel_rfl) (L60 _ (some ⟨b110, 0, none⟩) 2 [(lp1.drop ((p2.tmod (lp1.length : Int)).toNat)).take (lp1.length - ((p2.tmod (lp1.length : Int)).toNat)), (lp1.drop 0).take ((p2.tmod (lp1.length : Int)).toNat - 0)] [(⟨(lp1.drop ((p2.tmod (lp1.length : Int)).toNat)).take (lp1.length - ((p2.tmod (lp1.length : Int)).toNat)), A106, cp1 - ((p2.tmod (lp1.length : Int)).toNat)⟩ : D26), (⟨(lp1.drop 0).take ((p2.tmod (lp1.length : Int)).toNat - 0), A108, cp1 - 0⟩ : D26)] (hI.cells 0 (off := 0) rfl (fun j u h => by rw [Nat.zero_add]; exact h)) rfl (fa_cons ⟨(hC107.inv0 hI), (cut_big h31 hMp1), (cut_cap h31 hKp1)⟩ (fa_cons ⟨(hC109.inv0 hI), (cut_big h32 hMp1), (cut_cap h32 hKp1)⟩ fa_nil)) (Nat.le_of_ble_eq_true rfl) (Nat.le_refl _) N _ hy101) ?_)
   rintro v w ⟨g111, c112, cl113, rfl, hN, r114⟩
   have hI := hI.join hN; clear hN
   refine ⟨_, hI, subk (fun _ h => h.pickL [2] (by decide) rfl) ?_⟩
   intro hsub
   refine alp 8 (slv g111 y100.length c112) hsub rfl (by kernel_rfl) (fun _ => (by kernel_rfl)) ?_
   refine alp 9 (iv 0) hsub rfl (by kernel_rfl) (fun _ => (by kernel_rfl)) ?_
   refine any_end (by kernel_rfl) (fun w hI => ?_)
   refine wp_ret ?_
   replace hF := Option.some.inj hF; subst hF
   exact ⟨.tuple #[slv g111 y100.length c112, iv 0], Ret.r2 rfl rfl rfl, ⟨g111, c112, cl113, rfl, hI.pickL [0] (by decide) rfl, r114.to rfl rfl⟩⟩
  ·
   refine seq_c (s_callv hI 59 [iv p2, iv 0, iv 4166] (.bool false) (by kernel_rfl) (Does.mono (L59 _ p2 0 4166 _ hy74) (fun v' w' h => ⟨h.1.trans (congrArg Value.bool (Bool.eq_false_iff.2 h24)), h.2⟩)) ?_)
   intro w hI
   refine pu (.bool true) (by kernel_rfl) (seq_nil (wp_condT rfl (wp_seq (rgn (by kernel_rfl) (pu (.slice none 0 0) (by kernel_rfl) (pu (iv 6) (by kernel_rfl) (seq_nil (wp_ret ?_))))))))
   have hI := hI.nilRow 34
   replace hF := Option.some.inj hF; subst hF
   exact ⟨.tuple #[.slice none 0 0, iv 6], Ret.r2 rfl rfl rfl, ⟨none, 0, [], rfl, hI.pickL [0] (by decide) rfl, Row.nil_ 4⟩⟩
 ·
  refine seq_c (s_neq rfl rfl (fun _ => ?_) (fun h => absurd (a := y65 = 0) h h20))
  refine seq_nil (wp_condT rfl (wp_seq (rgn (by kernel_rfl) (pu (iv y65) (by kernel_rfl) (pu (.slice none 0 0) (by kernel_rfl) (pu (iv y65) (by kernel_rfl) (seq_nil (wp_ret ?_))))))))
  have hI := hI.nilRow 34
  replace hF := Option.some.inj hF; subst hF
  exact ⟨.tuple #[.slice none 0 0, iv y65], Ret.r2 rfl rfl rfl, ⟨none, 0, [], rfl, hI.pickL [0] (by decide) rfl, Row.nil_ 4⟩⟩


theorem L73 (w0 : World) (Ap0_0 : Option Addr) (cp0_0 : Nat) (lp0_0 : List Ch) (Ap0_1 : Option Addr) (cp0_1 : Nat) (lp0_1 : List Ce) (bp0_2 : Nat) (esp0_2 : List En) (ckp0_2 : Nat) (Mp0_2 : Int → Option Int) (p1 : Dr) (hCp0_0 : Cells w0 Ap0_0 (flat eCh lp0_0)) (hMp0_0 : lp0_0.length ≤ 9223372036854775807) (hKp0_0 : lp0_0.length ≤ cp0_0) (hCp0_1 : Cells w0 Ap0_1 (flat eCe lp0_1)) (hMp0_1 : lp0_1.length ≤ 9223372036854775807) (hKp0_1 : lp0_1.length ≤ cp0_1) (hbp0_2 : w0.heap[bp0_2]? = some (mobj esp0_2 ckp0_2)) (hop0_2 : MOk esp0_2 ckp0_2) (hMp0_2 : ∀ j, mget esp0_2 j = (Mp0_2 j).map (Value.int .i64)) (r : Bool) (hF : F73 lp0_0 lp0_1 Mp0_2 p1 = some r) : Does Try.prog 73 [.agg #[.slice Ap0_0 lp0_0.length cp0_0, .slice Ap0_1 lp0_1.length cp0_1, .map (some bp0_2)], .agg #[.int .i64 p1.fr, .int .i64 p1.to]] w0 fun v w => v = .bool r ∧ Below w0.heap.size w0 w := by
 refine calls_of (n := 24) Try.func73 rfl Try.ntmps73 rfl ?_
 have hI := Inv.start w0
 unfold F73 at hF
 refine wp_seq (rgn (by kernel_rfl) (seq_c (s_boxI hI [.slice Ap0_0 lp0_0.length cp0_0, .slice Ap0_1 lp0_1.length cp0_1, .map (some bp0_2)] rfl ?_)))
 intro b4 w hI
 refine seq_c (s_boxI hI [iv p1.fr, iv p1.to] rfl ?_)
 intro b5 w hI
 refine pu (.bool false) (by kernel_rfl) (seq_nil (wp_seq (rgn (by kernel_rfl) (pu (.pointer (some ⟨b5, 0, none⟩)) (by kernel_rfl) (seq_c (s_load1 hI 0 (iv p1.fr) Try.isAgg3 rfl rfl rfl ?_))))))
 refine ifE hF (fun h10 hF => ?_) (fun h10 hF => ?_)
 ·
  refine seq_c (s_geq rfl rfl (fun _ => ?_) (fun h => absurd (a := 0 ≤ p1.fr) h10 h))
  refine pu (.bool true) (by kernel_rfl) (puo (.pointer (some ⟨b5, 0, none⟩)) ⟨(by kernel_rfl), (by kernel_rfl)⟩ (seq_on (by kernel_rfl) (s_load1 hI 0 (iv p1.fr) Try.isAgg3 rfl rfl rfl ?_)))
  refine puo (.pointer (some ⟨b5, 1, none⟩)) ⟨(by kernel_rfl), (by kernel_rfl)⟩ (seq_on (by kernel_rfl) (s_load1 hI 0 (iv p1.to) Try.isAgg3 rfl rfl rfl ?_))
  refine ifE hF (fun h11 hF => ?_) (fun h11 hF => ?_)
  ·
   refine seq_on (by kernel_rfl) (s_leq rfl rfl (fun _ => ?_) (fun h => absurd (a := p1.fr ≤ p1.to) h11 h))
   refine pu (.bool true) (by kernel_rfl) (pu (.bool true) (by kernel_rfl) (puo (.pointer (some ⟨b5, 1, none⟩)) ⟨(by kernel_rfl), (by kernel_rfl)⟩ (seq_on (by kernel_rfl) (s_load1 hI 0 (iv p1.to) Try.isAgg3 rfl rfl rfl ?_))))
   refine puo (.pointer (some ⟨b4, 0, none⟩)) ⟨(by kernel_rfl), (by kernel_rfl)⟩ (puo (.pointer (some ⟨b4, 1, none⟩)) ⟨(by kernel_rfl), (by kernel_rfl)⟩ (seq_on (by kernel_rfl) (s_load1 hI 1 (.slice Ap0_1 lp0_1.length cp0_1) Try.isAgg23 rfl rfl rfl ?_)))
   refine puo (iv ((lp0_1.length : Nat) : Int)) ⟨(by kernel_rfl), (by kernel_rfl)⟩ (ifE hF (fun h12 hF => ?_) (fun h12 hF => ?_))
   ·
    refine seq_on (by kernel_rfl) (s_lss rfl rfl (fun _ => ?_) (fun h => absurd (a := p1.to < (lp0_1.length : Int)) h12 h))
    refine pu (.bool true) (by kernel_rfl) (pu (.bool true) (by kernel_rfl) (seq_nil (wp_ret ?_)))
    replace hF := Option.some.inj hF; subst hF
    exact ⟨.bool true, Ret.r1 rfl rfl, ⟨rfl, hI.below⟩⟩
   ·
    refine seq_on (by kernel_rfl) (s_lss rfl rfl (fun h => absurd (a := p1.to < (lp0_1.length : Int)) h h12) (fun _ => ?_))
    refine pu (.bool false) (by kernel_rfl) (pu (.bool false) (by kernel_rfl) (seq_nil (wp_ret ?_)))
    replace hF := Option.some.inj hF; subst hF
    exact ⟨.bool false, Ret.r1 rfl rfl, ⟨rfl, hI.below⟩⟩
  ·
   refine seq_on (by kernel_rfl) (s_leq rfl rfl (fun h => absurd (a := p1.fr ≤ p1.to) h h11) (fun _ => ?_))
   refine pu (.bool false) (by kernel_rfl) (pu (.bool false) (by kernel_rfl) (of_ (by kernel_rfl) (of_ (by kernel_rfl) (of_ (by kernel_rfl) (of_ (by kernel_rfl) (of_ (by kernel_rfl) (of_ (by kernel_rfl) (of_ (by kernel_rfl) (pu (.bool false) (by kernel_rfl) ?_)))))))))
   refine pu (.bool false) (by kernel_rfl) (seq_nil (wp_ret ?_))
   replace hF := Option.some.inj hF; subst hF
   exact ⟨.bool false, Ret.r1 rfl rfl, ⟨rfl, hI.below⟩⟩
 ·
  refine seq_c (s_geq rfl rfl (fun h => absurd (a := 0 ≤ p1.fr) h h10) (fun _ => ?_))
  refine pu (.bool false) (by kernel_rfl) (of_ (by kernel_rfl) (of_ (by kernel_rfl) (of_ (by kernel_rfl) (of_ (by kernel_rfl) (of_ (by kernel_rfl) (pu (.bool false) (by kernel_rfl) (pu (.bool false) (by kernel_rfl) (of_ (by kernel_rfl) (of_ (by kernel_rfl) ?_)))))))))
  refine of_ (by kernel_rfl) (of_ (by kernel_rfl) (of_ (by kernel_rfl) (of_ (by kernel_rfl) (of_ (by kernel_rfl) (pu (.bool false) (by kernel_rfl) (pu (.bool false) (by kernel_rfl) (seq_nil (wp_ret ?_))))))))
  replace hF := Option.some.inj hF; subst hF
  exact ⟨.bool false, Ret.r1 rfl rfl, ⟨rfl, hI.below⟩⟩


theorem L66 (w0 : World) (Ap0_0 : Option Addr) (cp0_0 : Nat) (lp0_0 : List Ch) (Ap0_1 : Option Addr) (cp0_1 : Nat) (lp0_1 : List Ce) (Ap1 : Option Addr) (cp1 : Nat) (lp1 : List Dr) (hCp0_0 : Cells w0 Ap0_0 (flat eCh lp0_0)) (hMp0_0 : lp0_0.length ≤ 9223372036854775807) (hKp0_0 : lp0_0.length ≤ cp0_0) (hCp0_1 : Cells w0 Ap0_1 (flat eCe lp0_1)) (hMp0_1 : lp0_1.length ≤ 9223372036854775807) (hKp0_1 : lp0_1.length ≤ cp0_1) (hCp1 : Cells w0 Ap1 (flat eDr lp1)) (hMp1 : lp1.length ≤ 9223372036854775807) (hKp1 : lp1.length ≤ cp1) (N : Nat) (r : (Unit ⊕ (Unit ⊕ (Int → Option Int)))) (hF : F66 N lp0_0 lp0_1 lp1 = some r) : Does Try.prog 66 [.agg #[.slice Ap0_0 lp0_0.length cp0_0, .slice Ap0_1 lp0_1.length cp0_1], .slice Ap1 lp1.length cp1] w0 fun v w => (match r with | .inl ra0 => v = .tuple #[.agg #[.slice none 0 0, .slice none 0 0, .map none], .int .i64 42] ∧ Below w0.heap.size w0 w | .inr rb0 => (match rb0 with | .inl ra1 => v = .tuple #[.agg #[.slice none 0 0, .slice none 0 0, .map none], .int .i64 45] ∧ Below w0.heap.size w0 w | .inr rb1 => ∃ (z0 : Nat) (z1 : List En) (z2 : Nat), v = .tuple #[.agg #[.slice Ap0_0 lp0_0.length cp0_0, .slice Ap0_1 lp0_1.length cp0_1, .map (some z0)], .int .i64 0] ∧ Inv [] w0 w [(some z0, mobj z1 z2)] ∧ MOk z1 z2 ∧ (∀ j, mget z1 j = (rb1 j).map (Value.int .i64)))) := by
 refine calls_of (n := 32) Try.func66 rfl Try.ntmps66 rfl ?_
 have hI := Inv.start w0
 unfold F66 at hF
 refine wp_seq (rgn (by kernel_rfl) (seq_c (s_boxI hI [.slice Ap0_0 lp0_0.length cp0_0, .slice Ap0_1 lp0_1.length cp0_1] rfl ?_)))
 intro b174 w hI
 refine seq_c (s_allocI hI [.slice none 0 0, .slice none 0 0, .map none] Try.zeroValue115 rfl ?_)
 intro b175 w hI
 refine pu (iv 0) (by kernel_rfl) (seq_nil (wp_seq (rgn (by kernel_rfl) (seq_c (s_loadK hI 1 2 [.slice Ap0_0 lp0_0.length cp0_0, .slice Ap0_1 lp0_1.length cp0_1] Try.isAgg25 Try.sizeOf25 rfl rfl rfl rfl ?_)))))
 refine bindSE hF (fun y188 hy189 hF => ?_) (fun y190 hy191 hF => ?_)
 ·
  refine seq_c (s_callv hI 62 [.agg #[.slice Ap0_0 lp0_0.length cp0_0, .slice Ap0_1 lp0_1.length cp0_1]] (.tuple #[.agg #[.slice none 0 0, .slice none 0 0, .map none], iv 42]) (by kernel_rfl) (L62 _ Ap0_0 cp0_0 lp0_0 Ap0_1 cp0_1 lp0_1 (hCp0_0.inv0 hI) hMp0_0 hKp0_0 (hCp0_1.inv0 hI) hMp0_1 hKp0_1 N _ hy189) ?_)
  intro w hI
  refine pu (.tuple #[.agg #[.slice none 0 0, .slice none 0 0, .map none], iv 42]) (by kernel_rfl) (pu (.agg #[.slice none 0 0, .slice none 0 0, .map none]) (by kernel_rfl) (pu (iv 42) (by kernel_rfl) (seq_c (s_allocI hI [.slice none 0 0, .slice none 0 0, .map none] Try.zeroValue115 rfl ?_))))
  intro b192 w hI
  refine seq_c (s_store hI 0 3 [.slice none 0 0, .slice none 0 0, .map none] Try.sizeOf115 rfl rfl rfl rfl rfl (Nat.le_of_ble_eq_true rfl) ?_)
  intro w hI
  refine pu (iv 42) (by kernel_rfl) (seq_nil (wp_seq (wp_seq (rgn (by kernel_rfl) (pu (iv 42) (by kernel_rfl) (seq_c (s_neq rfl rfl (fun _ => ?_) (fun h => absurd (a := 42 = 0) h (by decide)))))))))
  refine seq_nil (wp_condT rfl (wp_seq (rgn (by kernel_rfl) (pu (.agg #[.slice none 0 0, .slice none 0 0, .map none]) (by kernel_rfl) (pu (iv 42) (by kernel_rfl) (seq_c (s_store hI 1 3 [.slice none 0 0, .slice none 0 0, .map none] Try.sizeOf115 rfl rfl rfl rfl rfl (Nat.le_of_ble_eq_true rfl) ?_)))))))
  intro w hI
  refine pu (iv 42) (by kernel_rfl) (seq_nil (wp_ret ?_))
  replace hF := Option.some.inj hF; subst hF
  exact ⟨.tuple #[.agg #[.slice none 0 0, .slice none 0 0, .map none], iv 42], Ret.ct rfl rfl (run_loadK hI 1 3 [.slice none 0 0, .slice none 0 0, .map none] Try.isAgg115 Try.sizeOf115 rfl rfl rfl) rfl, ⟨rfl, hI.below⟩⟩
 ·
  refine seq_c (s_call 62 [.agg #[.slice Ap0_0 lp0_0.length cp0_0, .slice Ap0_1 lp0_1.length cp0_1]] (by kernel_rfl) (L62 _ Ap0_0 cp0_0 lp0_0 Ap0_1 cp0_1 lp0_1 (hCp0_0.inv0 hI) hMp0_0 hKp0_0 (hCp0_1.inv0 hI) hMp0_1 hKp0_1 N _ hy191) ?_)
  rintro v w ⟨b193, es194, ck195, rfl, hN, ho196, hM197⟩
  have hI := hI.join hN; clear hN
  refine pu (.tuple #[.agg #[.slice Ap0_0 lp0_0.length cp0_0, .slice Ap0_1 lp0_1.length cp0_1, .map (some b193)], iv 0]) (by kernel_rfl) (pu (.agg #[.slice Ap0_0 lp0_0.length cp0_0, .slice Ap0_1 lp0_1.length cp0_1, .map (some b193)]) (by kernel_rfl) (pu (iv 0) (by kernel_rfl) (seq_c (s_allocI hI [.slice none 0 0, .slice none 0 0, .map none] Try.zeroValue115 rfl ?_))))
  intro b198 w hI
  refine seq_c (s_store hI 0 3 [.slice Ap0_0 lp0_0.length cp0_0, .slice Ap0_1 lp0_1.length cp0_1, .map (some b193)] Try.sizeOf115 rfl rfl rfl rfl rfl (Nat.le_of_ble_eq_true rfl) ?_)
  intro w hI
  refine pu (iv 0) (by kernel_rfl) (seq_nil (wp_seq (wp_seq (rgn (by kernel_rfl) (pu (iv 0) (by kernel_rfl) (seq_c (s_neq rfl rfl (fun h => absurd (a := 0 = 0) (by decide) h) (fun _ => ?_))))))))
  refine seq_nil (wp_condF rfl (wp_skip (wp_seq (wp_seq (rgn (by kernel_rfl) (pu (.slice Ap1 lp1.length cp1) (by kernel_rfl) (pu (iv ((lp1.length : Nat) : Int)) (by kernel_rfl) (pu (iv 0) (by kernel_rfl) (seq_nil ?_)))))))))
  refine wp_block ?_
  refine wp_loop (fun m ρ w => ∃ (v322 : Int) (mm : Nat), Agree ρ [(4, .pointer (some ⟨b175, 0, none⟩)), (6, .pointer (some ⟨b198, 0, none⟩)), (19, .slice Ap1 lp1.length cp1), (20, iv (lp1.length : Int)), (21, iv v322)] ∧ Inv [] w0 w [(some b175, blk [.slice none 0 0, .slice none 0 0, .map none] 115), (some b198, blk [.slice Ap0_0 lp0_0.length cp0_0, .slice Ap0_1 lp0_1.length cp0_1, .map (some b193)] 115), (some b193, mobj es194 ck195)] ∧ F66l1 lp0_0 lp0_1 lp1 y190 mm v322 = some r ∧ mm = m) (m := N) ⟨0, N, ⟨rfl, rfl, rfl, rfl, rfl, trivial⟩, hI.pickL [2, 0, 1] (by decide) rfl, hF, rfl⟩ ?_
  rintro m ρ w ⟨v322, mm, hag, hI, hF, hm⟩
  subst hm; obtain ⟨ρ, rfl⟩ := hag.form; clear hag
  obtain _ | m1 := mm
  ·cases (show (none : Option (Unit ⊕ (Unit ⊕ (Int → Option Int)))) = some r from hF)
  replace hF : F66b1 lp0_0 lp0_1 lp1 y190 (F66l1 lp0_0 lp0_1 lp1 y190 m1) v322 = some r := hF; unfold F66b1 at hF
  refine wp_seq (rgn (by kernel_rfl) (ifE hF (fun h89 hF => ?_) (fun h89 hF => ?_)))
  ·
   refine seq_c (s_lss rfl rfl (fun _ => ?_) (fun h => absurd (a := v322 < (lp1.length : Int)) h89 h))
   refine seq_nil (wp_seq (wp_condT rfl (wp_skip (wp_seq (wp_block ?_)))))
   refine wp_seq (rgn (by kernel_rfl) (gdE hF (fun h93 hF => ?_)))
   refine bindE hF (fun x335 hx336 hF => ?_)
   obtain ⟨b337, o338, hA339, hb340, he341⟩ := hCp1.at_ eDr_len (by decide) hx336
   refine seq_c (s_indexA (v322).toNat Try.underlying63 Try.sizeOf49 rfl hA339 rfl (Int.toNat_of_nonneg h93).symm (lt_n hx336 rfl) ?_)
   refine seq_c (s_loadBK hI [iv x335.fr, iv x335.to] Try.isAgg49 Try.sizeOf49 rfl rfl hb340 (by simp) he341 ?_)
   refine seq_c (s_allocI hI [iv 0, iv 0] Try.zeroValue49 rfl ?_)
   intro b342 w hI
   refine seq_c (s_store hI 0 2 [iv x335.fr, iv x335.to] Try.sizeOf49 rfl rfl rfl rfl rfl (Nat.le_of_ble_eq_true rfl) ?_)
   intro w hI
   refine seq_nil (wp_seq (rgn (by kernel_rfl) (seq_c (s_loadK hI 2 3 [.slice Ap0_0 lp0_0.length cp0_0, .slice Ap0_1 lp0_1.length cp0_1, .map (some b193)] Try.isAgg115 Try.sizeOf115 rfl rfl rfl rfl ?_))))
   refine seq_c (s_loadK hI 0 2 [iv x335.fr, iv x335.to] Try.isAgg49 Try.sizeOf49 rfl rfl rfl rfl ?_)
   refine bindE hF (fun y345 hy346 hF => ?_)
   refine ifE hF (fun h95 hF => ?_) (fun h95 hF => ?_)
   ·
    refine seq_c (s_callv hI 73 [.agg #[.slice Ap0_0 lp0_0.length cp0_0, .slice Ap0_1 lp0_1.length cp0_1, .map (some b193)], .agg #[iv x335.fr, iv x335.to]] (.bool true) (by kernel_rfl) (Does.mono (L73 _ Ap0_0 cp0_0 lp0_0 Ap0_1 cp0_1 lp0_1 b193 es194 ck195 y190 x335 (hCp0_0.inv0 hI) hMp0_0 hKp0_0 (hCp0_1.inv0 hI) hMp0_1 hKp0_1 (hI.has 3 _ _ rfl).1 ho196 hM197 _ hy346) (fun v' w' h => ⟨h.1.trans (congrArg Value.bool h95), h.2⟩)) ?_)
    intro w hI
    refine pu (.bool false) (by kernel_rfl) (seq_nil (wp_condF rfl (wp_skip (rgn (by kernel_rfl) (ckE hF (fun h96 hF => ?_))))))
    refine seq_c (s_add rfl rfl h96 ?_)
    refine pu (iv (v322 + 1)) (by kernel_rfl) (seq_nil ?_)
    exact ⟨rfl, m1, Nat.lt_succ_self _, ⟨v322 + 1, m1, ⟨rfl, rfl, rfl, rfl, rfl, trivial⟩, hI.pickL [1, 2, 3] (by decide) rfl, hF, rfl⟩⟩
   ·
    refine seq_c (s_callv hI 73 [.agg #[.slice Ap0_0 lp0_0.length cp0_0, .slice Ap0_1 lp0_1.length cp0_1, .map (some b193)], .agg #[iv x335.fr, iv x335.to]] (.bool false) (by kernel_rfl) (Does.mono (L73 _ Ap0_0 cp0_0 lp0_0 Ap0_1 cp0_1 lp0_1 b193 es194 ck195 y190 x335 (hCp0_0.inv0 hI) hMp0_0 hKp0_0 (hCp0_1.inv0 hI) hMp0_1 hKp0_1 (hI.has 3 _ _ rfl).1 ho196 hM197 _ hy346) (fun v' w' h => ⟨h.1.trans (congrArg Value.bool (Bool.eq_false_iff.2 h95)), h.2⟩)) ?_)
    intro w hI
    refine pu (.bool true) (by kernel_rfl) (seq_nil (wp_condT rfl (wp_seq (rgn (by kernel_rfl) (pu (.agg #[.slice none 0 0, .slice none 0 0, .map none]) (by kernel_rfl) (seq_c (s_store hI 1 3 [.slice none 0 0, .slice none 0 0, .map none] Try.sizeOf115 rfl rfl rfl rfl rfl (Nat.le_of_ble_eq_true rfl) ?_)))))))
    intro w hI
    refine pu (iv 45) (by kernel_rfl) (seq_nil (wp_ret ?_))
    replace hF := Option.some.inj hF; subst hF
    exact ⟨.tuple #[.agg #[.slice none 0 0, .slice none 0 0, .map none], iv 45], Ret.ct rfl rfl (run_loadK hI 1 3 [.slice none 0 0, .slice none 0 0, .map none] Try.isAgg115 Try.sizeOf115 rfl rfl rfl) rfl, ⟨rfl, hI.below⟩⟩
  ·
   refine seq_c (s_lss rfl rfl (fun h => absurd (a := v322 < (lp1.length : Int)) h h89) (fun _ => ?_))
   refine seq_nil (wp_seq (wp_condF rfl (wp_exit ?_)))
   refine wp_seq (rgn (by kernel_rfl) (seq_c (s_loadK hI 1 3 [.slice Ap0_0 lp0_0.length cp0_0, .slice Ap0_1 lp0_1.length cp0_1, .map (some b193)] Try.isAgg115 Try.sizeOf115 rfl rfl rfl rfl ?_)))
   refine seq_c (s_store hI 0 3 [.slice Ap0_0 lp0_0.length cp0_0, .slice Ap0_1 lp0_1.length cp0_1, .map (some b193)] Try.sizeOf115 rfl rfl rfl rfl rfl (Nat.le_of_ble_eq_true rfl) ?_)
   intro w hI
   refine pu (iv 0) (by kernel_rfl) (seq_nil (wp_ret ?_))
   replace hF := Option.some.inj hF; subst hF
   exact ⟨.tuple #[.agg #[.slice Ap0_0 lp0_0.length cp0_0, .slice Ap0_1 lp0_1.length cp0_1, .map (some b193)], iv 0], Ret.ct rfl rfl (run_loadK hI 0 3 [.slice Ap0_0 lp0_0.length cp0_0, .slice Ap0_1 lp0_1.length cp0_1, .map (some b193)] Try.isAgg115 Try.sizeOf115 rfl rfl rfl) rfl, ⟨b193, es194, ck195, rfl, hI.pickL [2] (by decide) rfl, ho196, hM197⟩⟩


theorem L74 (w0 : World) (Ap0 : Option Addr) (cp0 : Nat) (lp0 : List Int) (hCp0 : Cells w0 Ap0 (flat eInt lp0)) (hMp0 : lp0.length ≤ 9223372036854775807) (hKp0 : lp0.length ≤ cp0) (N : Nat) (r : Int) (hF : F74 N lp0 = some r) : Does Try.prog 74 [.slice Ap0 lp0.length cp0] w0 fun v w => v = .int .i64 r ∧ Below w0.heap.size w0 w := by
 refine calls_of (n := 17) Try.func74 rfl Try.ntmps74 rfl ?_
 have hI := Inv.start w0
 unfold F74 at hF
 refine wp_seq (rgn (by kernel_rfl) (pu (iv 0) (by kernel_rfl) (seq_nil (wp_seq (rgn (by kernel_rfl) (pu (iv 0) (by kernel_rfl) (seq_nil (wp_seq (wp_seq ?_)))))))))
 refine rgn (by kernel_rfl) (pu (.slice Ap0 lp0.length cp0) (by kernel_rfl) (pu (iv ((lp0.length : Nat) : Int)) (by kernel_rfl) (pu (iv 0) (by kernel_rfl) (seq_nil (wp_block ?_)))))
 refine wp_loop (fun m ρ w => ∃ (total_171 : Int) (v172 : Int) (mm : Nat), Agree ρ [(3, iv total_171), (6, .slice Ap0 lp0.length cp0), (7, iv (lp0.length : Int)), (8, iv v172)] ∧ Inv [] w0 w [] ∧ F74l1 lp0 mm total_171 v172 = some r ∧ mm = m) (m := N) ⟨0, 0, N, ⟨rfl, rfl, rfl, rfl, trivial⟩, hI.pickL [] (by decide) rfl, hF, rfl⟩ ?_
 rintro m ρ w ⟨total_171, v172, mm, hag, hI, hF, hm⟩
 subst hm; obtain ⟨ρ, rfl⟩ := hag.form; clear hag
 obtain _ | m1 := mm
 ·cases (show (none : Option Int) = some r from hF)
 replace hF : F74b1 lp0 (F74l1 lp0 m1) total_171 v172 = some r := hF; unfold F74b1 at hF
 refine wp_seq (rgn (by kernel_rfl) (ifE hF (fun h67 hF => ?_) (fun h67 hF => ?_)))
 ·
  refine seq_c (s_lss rfl rfl (fun _ => ?_) (fun h => absurd (a := v172 < (lp0.length : Int)) h67 h))
  refine seq_nil (wp_seq (wp_condT rfl (wp_skip (wp_seq (wp_block ?_)))))
  refine wp_seq (rgn (by kernel_rfl) (gdE hF (fun h70 hF => ?_)))
  refine bindE hF (fun x180 hx181 hF => ?_)
  obtain ⟨b182, o183, hA184, hb185, he186⟩ := hCp0.at_ eInt_len (by decide) hx181
  refine seq_c (s_indexA (v172).toNat Try.underlying52 Try.sizeOf3 rfl hA184 rfl (Int.toNat_of_nonneg h70).symm (lt_n hx181 rfl) ?_)
  refine seq_c (s_loadB1 hI (iv x180) Try.isAgg3 rfl hb185 (by simp) (he186 0 _ rfl) ?_)
  refine pu (iv x180) (by kernel_rfl) (seq_nil (rgn (by kernel_rfl) (pu (iv total_171) (by kernel_rfl) (pu (iv x180) (by kernel_rfl) (ckE hF (fun h71 hF => ?_))))))
  refine seq_c (s_add rfl rfl h71 ?_)
  refine pu (iv (total_171 + x180)) (by kernel_rfl) (seq_nil (rgn (by kernel_rfl) (ckE hF (fun h72 hF => ?_))))
  refine seq_c (s_add rfl rfl h72 ?_)
  refine pu (iv (v172 + 1)) (by kernel_rfl) (seq_nil ?_)
  exact ⟨rfl, m1, Nat.lt_succ_self _, ⟨total_171 + x180, v172 + 1, m1, ⟨rfl, rfl, rfl, rfl, trivial⟩, hI.pickL [] (by decide) rfl, hF, rfl⟩⟩
 ·
  refine seq_c (s_lss rfl rfl (fun h => absurd (a := v172 < (lp0.length : Int)) h h67) (fun _ => ?_))
  refine seq_nil (wp_seq (wp_condF rfl (wp_exit ?_)))
  refine wp_seq (rgn (by kernel_rfl) (pu (iv total_171) (by kernel_rfl) (pu (iv total_171) (by kernel_rfl) (seq_nil (wp_ret ?_)))))
  replace hF := Option.some.inj hF; subst hF
  exact ⟨iv total_171, Ret.r1 rfl rfl, ⟨rfl, hI.below⟩⟩


theorem L67 (w0 : World) (Ap0_0 : Option Addr) (cp0_0 : Nat) (lp0_0 : List Ch) (Ap0_1 : Option Addr) (cp0_1 : Nat) (lp0_1 : List Ce) (bp0_2 : Nat) (esp0_2 : List En) (ckp0_2 : Nat) (Mp0_2 : Int → Option Int) (Ap1 : Option Addr) (cp1 : Nat) (lp1 : List Int) (hCp0_0 : Cells w0 Ap0_0 (flat eCh lp0_0)) (hMp0_0 : lp0_0.length ≤ 9223372036854775807) (hKp0_0 : lp0_0.length ≤ cp0_0) (hCp0_1 : Cells w0 Ap0_1 (flat eCe lp0_1)) (hMp0_1 : lp0_1.length ≤ 9223372036854775807) (hKp0_1 : lp0_1.length ≤ cp0_1) (hbp0_2 : w0.heap[bp0_2]? = some (mobj esp0_2 ckp0_2)) (hop0_2 : MOk esp0_2 ckp0_2) (hMp0_2 : ∀ j, mget esp0_2 j = (Mp0_2 j).map (Value.int .i64)) (hCp1 : Cells w0 Ap1 (flat eInt lp1)) (hMp1 : lp1.length ≤ 9223372036854775807) (hKp1 : lp1.length ≤ cp1) (N : Nat) (r : (Int × Int)) (hF : F67 N lp0_0 lp0_1 Mp0_2 lp1 = some r) : Does Try.prog 67 [.agg #[.slice Ap0_0 lp0_0.length cp0_0, .slice Ap0_1 lp0_1.length cp0_1, .map (some bp0_2)], .slice Ap1 lp1.length cp1] w0 fun v w => v = .agg #[.int .i64 r.1, .int .i64 r.2] ∧ Below w0.heap.size w0 w := by
 refine calls_of (n := 54) Try.func67 rfl Try.ntmps67 rfl ?_
 have hI := Inv.start w0
 unfold F67 at hF
 refine wp_seq (rgn (by kernel_rfl) (seq_c (s_boxI hI [.slice Ap0_0 lp0_0.length cp0_0, .slice Ap0_1 lp0_1.length cp0_1, .map (some bp0_2)] rfl ?_)))
 intro b629 w hI
 refine seq_c (s_allocI hI [iv 0, iv 0] Try.zeroValue28 rfl ?_)
 intro b630 w hI
 refine seq_nil (wp_seq (rgn (by kernel_rfl) (pu (.slice none 0 0) (by kernel_rfl) (pu (.slice none 0 0) (by kernel_rfl) (seq_nil (wp_cutO (fun ρ w => ∃ (g936 : Option Nat) (c937 : Nat) (cl938 : List Value) (g941 : Option Nat) (c942 : Nat) (cl943 : List Value) (least_935 : List Int) (most_940 : List Int), Agree ρ [(4, .pointer (some ⟨b630, 0, none⟩)), (5, slv g936 least_935.length c937), (6, slv g941 most_940.length c942)] ∧ Inv [] w0 w [(some b630, blk [iv 0, iv 0] 28), (g936, blk cl938 3), (g941, blk cl943 3)] ∧ (Row 1 g936 (least_935.length) c937 cl938 (flat eInt least_935)) ∧ (Row 1 g941 (most_940.length) c942 cl943 (flat eInt most_940)) ∧ F67j1 N least_935 most_940 = some r) ?_ ?_))))))
 ·
  refine wp_seq (rgn (by kernel_rfl) (pu (.pointer (some ⟨b629, 0, none⟩)) (by kernel_rfl) (pu (.pointer (some ⟨b629, 0, none⟩)) (by kernel_rfl) (seq_c (s_load1 hI 1 (.slice Ap0_0 lp0_0.length cp0_0) Try.isAgg22 rfl rfl rfl ?_)))))
  refine pu (iv ((lp0_0.length : Nat) : Int)) (by kernel_rfl) (pu (iv 0) (by kernel_rfl) (seq_nil (wp_block ?_)))
  have hI := hI.nilRow 3
  have hI := hI.nilRow 3
  refine wp_loop (fun m ρ w => ∃ (g1153 : Option Nat) (c1154 : Nat) (cl1155 : List Value) (g1158 : Option Nat) (c1159 : Nat) (cl1160 : List Value) (least_1152 : List Int) (most_1157 : List Int) (v1162 : Int) (mm : Nat), Agree ρ [(1, .slice Ap1 lp1.length cp1), (4, .pointer (some ⟨b630, 0, none⟩)), (5, slv g1153 least_1152.length c1154), (6, slv g1158 most_1157.length c1159), (13, .slice Ap0_0 lp0_0.length cp0_0), (14, iv (lp0_0.length : Int)), (15, iv v1162)] ∧ Inv [] w0 w [(some b630, blk [iv 0, iv 0] 28), (g1153, blk cl1155 3), (g1158, blk cl1160 3)] ∧ (Row 1 g1153 (least_1152.length) c1154 cl1155 (flat eInt least_1152)) ∧ (Row 1 g1158 (most_1157.length) c1159 cl1160 (flat eInt most_1157)) ∧ F67l2 lp0_0 lp1 N mm least_1152 most_1157 v1162 = some r ∧ mm = m) (m := N) ⟨none, 0, [], none, 0, [], [], [], 0, N, ⟨rfl, rfl, rfl, rfl, rfl, rfl, rfl, trivial⟩, hI.pickL [2, 0, 1] (by decide) rfl, (Row.nil_ 1), (Row.nil_ 1), hF, rfl⟩ ?_
  rintro m ρ w ⟨g1153, c1154, cl1155, g1158, c1159, cl1160, least_1152, most_1157, v1162, mm, hag, hI, r1156, r1161, hF, hm⟩
  subst hm; obtain ⟨ρ, rfl⟩ := hag.form; clear hag
  obtain _ | m2 := mm
  ·cases (show (none : Option (Int × Int)) = some r from hF)
  replace hF : F67b2 lp0_0 lp1 N (F67l2 lp0_0 lp1 N m2) least_1152 most_1157 v1162 = some r := hF; unfold F67b2 at hF
  refine wp_seq (rgn (by kernel_rfl) (ifE hF (fun h191 hF => ?_) (fun h191 hF => ?_)))
  ·
   refine seq_c (s_lss rfl rfl (fun _ => ?_) (fun h => absurd (a := v1162 < (lp0_0.length : Int)) h191 h))
   refine seq_nil (wp_seq (wp_condT rfl (wp_skip (wp_seq (wp_block ?_)))))
   refine wp_seq (rgn (by kernel_rfl) (pu (iv v1162) (by kernel_rfl) (gdE hF (fun h200 hF => ?_))))
   refine bindE hF (fun x1210 hx1211 hF => ?_)
   obtain ⟨b1212, o1213, hA1214, hb1215, he1216⟩ := hCp0_0.at_ eCh_len (by decide) hx1211
   refine seq_c (s_indexA (v1162).toNat Try.underlying22 Try.sizeOf30 rfl hA1214 rfl (Int.toNat_of_nonneg h200).symm (lt_n hx1211 rfl) ?_)
   refine seq_c (s_loadBK hI [iv x1210.id, iv x1210.lo, iv x1210.hi] Try.isAgg30 Try.sizeOf30 rfl rfl hb1215 (by simp) he1216 ?_)
   refine seq_c (s_allocI hI [iv 0, iv 0, iv 0] Try.zeroValue30 rfl ?_)
   intro b1217 w hI
   refine pu (iv v1162) (by kernel_rfl) (seq_c (s_store hI 0 3 [iv x1210.id, iv x1210.lo, iv x1210.hi] Try.sizeOf30 rfl rfl rfl rfl rfl (Nat.le_of_ble_eq_true rfl) ?_))
   intro w hI
   refine seq_nil (wp_seq (bindE hF (fun x1230 hx1231 hF => ?_)))
   refine ckE hF (fun h203 hF => ?_)
   refine ckE hF (fun h204 hF => ?_)
   refine wp_drawn2 hI [0, 1, 2, 3] (by decide) rfl (by kernel_rfl) (by kernel_rfl) ?_
   intro hsub
   refine alp 0 (.slice Ap1 lp1.length cp1) hsub rfl (by kernel_rfl) (fun _ => (by kernel_rfl)) ?_
   refine alp 1 (iv v1162) hsub rfl (by kernel_rfl) (fun _ => (by kernel_rfl)) ?_
   obtain ⟨b1237, o1238, hA1239, hb1240, he1241⟩ := hCp1.at_ eInt_len (by decide) hx1231
   refine al_light 2 (.pointer (some ⟨b1237, o1238 + (v1162).toNat * 1, none⟩)) hsub rfl (by kernel_rfl) (fun w hI => s_indexA (v1162).toNat Try.underlying52 Try.sizeOf3 rfl hA1239 rfl (Int.toNat_of_nonneg h200).symm (lt_n hx1231 rfl) ⟨rfl, Below.refl _ _⟩) ?_
   refine al_light 3 (iv x1230) hsub rfl (by kernel_rfl) (fun w hI => s_loadB1 hI (iv x1230) Try.isAgg3 rfl hb1240 (by simp) (he1241 0 _ rfl) ⟨rfl, Below.refl _ _⟩) ?_
   refine alp 4 (.pointer (some ⟨b1217, 1, none⟩)) hsub rfl (by kernel_rfl) (fun _ => (by kernel_rfl)) ?_
   refine alp 5 (.pointer (some ⟨b1217, 1, none⟩)) hsub rfl (by kernel_rfl) (fun _ => (by kernel_rfl)) ?_
   refine al_light 6 (iv x1210.lo) hsub rfl (by kernel_rfl) (fun w hI => s_load1 hI 0 (iv x1210.lo) Try.isAgg3 rfl rfl rfl ⟨rfl, Below.refl _ _⟩) ?_
   refine al_light 7 (iv (x1230 * x1210.lo)) hsub rfl (by kernel_rfl) (fun w hI => s_mul rfl rfl h203 ⟨rfl, Below.refl _ _⟩) ?_
   refine alp 8 (.slice Ap1 lp1.length cp1) hsub rfl (by kernel_rfl) (fun _ => (by kernel_rfl)) ?_
   refine alp 9 (iv v1162) hsub rfl (by kernel_rfl) (fun _ => (by kernel_rfl)) ?_
   refine al_light 10 (.pointer (some ⟨b1237, o1238 + (v1162).toNat * 1, none⟩)) hsub rfl (by kernel_rfl) (fun w hI => s_indexA (v1162).toNat Try.underlying52 Try.sizeOf3 rfl hA1239 rfl (Int.toNat_of_nonneg h200).symm (lt_n hx1231 rfl) ⟨rfl, Below.refl _ _⟩) ?_
   refine al_light 11 (iv x1230) hsub rfl (by kernel_rfl) (fun w hI => s_loadB1 hI (iv x1230) Try.isAgg3 rfl hb1240 (by simp) (he1241 0 _ rfl) ⟨rfl, Below.refl _ _⟩) ?_
   refine alp 12 (.pointer (some ⟨b1217, 1, none⟩)) hsub rfl (by kernel_rfl) (fun _ => (by kernel_rfl)) ?_
   refine alp 13 (.pointer (some ⟨b1217, 2, none⟩)) hsub rfl (by kernel_rfl) (fun _ => (by kernel_rfl)) ?_
   refine al_light 14 (iv x1210.hi) hsub rfl (by kernel_rfl) (fun w hI => s_load1 hI 0 (iv x1210.hi) Try.isAgg3 rfl rfl rfl ⟨rfl, Below.refl _ _⟩) ?_
   refine al_light 15 (iv (x1230 * x1210.hi)) hsub rfl (by kernel_rfl) (fun w hI => s_mul rfl rfl h204 ⟨rfl, Below.refl _ _⟩) ?_
   refine alp 16 (iv (x1230 * x1210.lo)) hsub rfl (by kernel_rfl) (fun _ => (by kernel_rfl)) ?_
   refine alp 17 (iv (x1230 * x1210.hi)) hsub rfl (by kernel_rfl) (fun _ => (by kernel_rfl)) ?_
   refine any_end (by kernel_rfl) (fun w hI => ?_)
   refine wp_seq (rgn (by kernel_rfl) (pu (slv g1153 least_1152.length c1154) (by kernel_rfl) (pu (iv (x1230 * x1210.lo)) (by kernel_rfl) (pu (iv (x1230 * x1210.hi)) (by kernel_rfl) (pu (iv (if (x1230 * x1210.hi) < (x1230 * x1210.lo) then (x1230 * x1210.hi) else (x1230 * x1210.lo))) (by kernel_rfl) (seq_c (s_new hI [iv (if (x1230 * x1210.hi) < (x1230 * x1210.lo) then (x1230 * x1210.hi) else (x1230 * x1210.lo))] 3 (fun b => slv (some b) 1 1) (by kernel_rfl) ?_)))))))
   intro b1247 w hI
   refine gdE hF (fun h206 hF => ?_)
   refine seq_c (s_appN hI Try.underlying52 (z := iv 0) (k := 1) (bytes := 8) (by kernel_rfl) rfl rfl 3 rfl rfl r1156 [iv (if (x1230 * x1210.hi) < (x1230 * x1210.lo) then (x1230 * x1210.hi) else (x1230 * x1210.lo))] rfl rfl (hI.cells 0 (off := 0) rfl (fun j u h => by rw [Nat.zero_add]; exact h)) (by simp [Value.oneCell']) (by omega) (by omega) (n2 := (least_1152 ++ [if (x1230 * x1210.hi) < (x1230 * x1210.lo) then (x1230 * x1210.hi) else (x1230 * x1210.lo)]).length) (app_len rfl rfl) ?_)
   intro g1248 c1249 cl1250 w hI r1251
   have r1251 : Row 1 g1248 ((least_1152 ++ [if (x1230 * x1210.hi) < (x1230 * x1210.lo) then (x1230 * x1210.hi) else (x1230 * x1210.lo)]).length) c1249 cl1250 (flat eInt (least_1152 ++ [if (x1230 * x1210.hi) < (x1230 * x1210.lo) then (x1230 * x1210.hi) else (x1230 * x1210.lo)])) := r1251.snoc _ rfl
   refine pu (slv g1248 ((least_1152 ++ [if (x1230 * x1210.hi) < (x1230 * x1210.lo) then (x1230 * x1210.hi) else (x1230 * x1210.lo)]).length) c1249) (by kernel_rfl) (seq_nil (rgn (by kernel_rfl) (pu (slv g1158 most_1157.length c1159) (by kernel_rfl) (pu (iv (x1230 * x1210.lo)) (by kernel_rfl) (pu (iv (x1230 * x1210.hi)) (by kernel_rfl) (pu (iv (if (x1230 * x1210.hi) > (x1230 * x1210.lo) then (x1230 * x1210.hi) else (x1230 * x1210.lo))) (by kernel_rfl) (seq_c (s_new hI [iv (if (x1230 * x1210.hi) > (x1230 * x1210.lo) then (x1230 * x1210.hi) else (x1230 * x1210.lo))] 3 (fun b => slv (some b) 1 1) (by kernel_rfl) ?_))))))))
   intro b1252 w hI
   refine gdE hF (fun h207 hF => ?_)
   refine seq_c (s_appN hI Try.underlying52 (z := iv 0) (k := 1) (bytes := 8) (by kernel_rfl) rfl rfl 5 rfl rfl r1161 [iv (if (x1230 * x1210.hi) > (x1230 * x1210.lo) then (x1230 * x1210.hi) else (x1230 * x1210.lo))] rfl rfl (hI.cells 0 (off := 0) rfl (fun j u h => by rw [Nat.zero_add]; exact h)) (by simp [Value.oneCell']) (by omega) (by omega) (n2 := (most_1157 ++ [if (x1230 * x1210.hi) > (x1230 * x1210.lo) then (x1230 * x1210.hi) else (x1230 * x1210.lo)]).length) (app_len rfl rfl) ?_)
   intro g1253 c1254 cl1255 w hI r1256
   have r1256 : Row 1 g1253 ((most_1157 ++ [if (x1230 * x1210.hi) > (x1230 * x1210.lo) then (x1230 * x1210.hi) else (x1230 * x1210.lo)]).length) c1254 cl1255 (flat eInt (most_1157 ++ [if (x1230 * x1210.hi) > (x1230 * x1210.lo) then (x1230 * x1210.hi) else (x1230 * x1210.lo)])) := r1256.snoc _ rfl
   refine pu (slv g1253 ((most_1157 ++ [if (x1230 * x1210.hi) > (x1230 * x1210.lo) then (x1230 * x1210.hi) else (x1230 * x1210.lo)]).length) c1254) (by kernel_rfl) (seq_nil (rgn (by kernel_rfl) (ckE hF (fun h208 hF => ?_))))
   refine seq_c (s_add rfl rfl h208 ?_)
   refine pu (iv (v1162 + 1)) (by kernel_rfl) (seq_nil ?_)
   exact ⟨rfl, m2, Nat.lt_succ_self _, ⟨g1248, c1249, cl1250, g1253, c1254, cl1255, least_1152 ++ [if (x1230 * x1210.hi) < (x1230 * x1210.lo) then (x1230 * x1210.hi) else (x1230 * x1210.lo)], most_1157 ++ [if (x1230 * x1210.hi) > (x1230 * x1210.lo) then (x1230 * x1210.hi) else (x1230 * x1210.lo)], v1162 + 1, m2, ⟨rfl, rfl, rfl, rfl, rfl, rfl, rfl, trivial⟩, hI.pickL [3, 4, 5] (by decide) rfl, (r1251.to rfl rfl), (r1256.to rfl rfl), hF, rfl⟩⟩
  ·
   refine seq_c (s_lss rfl rfl (fun h => absurd (a := v1162 < (lp0_0.length : Int)) h h191) (fun _ => ?_))
   refine seq_nil (wp_seq (wp_condF rfl (wp_exit ?_)))
   exact .inl ⟨rfl, ⟨g1153, c1154, cl1155, g1158, c1159, cl1160, least_1152, most_1157, ⟨rfl, rfl, rfl, trivial⟩, hI.pickL [0, 1, 2] (by decide) rfl, (r1156.to rfl rfl), (r1161.to rfl rfl), hF⟩⟩
 ·intro ρ w hJ
  obtain ⟨g936, c937, cl938, g941, c942, cl943, least_935, most_940, hag, hI, r939, r944, hF⟩ := hJ
  obtain ⟨ρ, rfl⟩ := hag.form; clear hag
  unfold F67j1 at hF
  refine wp_seq (rgn (by kernel_rfl) (pu (slv g936 least_935.length c937) (by kernel_rfl) (bindE hF (fun y949 hy950 hF => ?_))))
  refine seq_c (s_callv hI 74 [slv g936 least_935.length c937] (iv y949) (by kernel_rfl) (L74 _ (g936.map fun b => ⟨b, 0, none⟩) c937 least_935 (hI.rowCells 1 rfl r939) (len_le rfl r939.big) (len_le rfl r939.cap) N _ hy950) ?_)
  intro w hI
  refine pu (slv g941 most_940.length c942) (by kernel_rfl) (bindE hF (fun y951 hy952 hF => ?_))
  refine seq_c (s_callv hI 74 [slv g941 most_940.length c942] (iv y951) (by kernel_rfl) (L74 _ (g941.map fun b => ⟨b, 0, none⟩) c942 most_940 (hI.rowCells 2 rfl r944) (len_le rfl r944.big) (len_le rfl r944.cap) N _ hy952) ?_)
  intro w hI
  refine pu (.agg #[iv y949, iv y951]) (by kernel_rfl) (seq_c (s_store hI 0 2 [iv y949, iv y951] Try.sizeOf28 rfl rfl rfl rfl rfl (Nat.le_of_ble_eq_true rfl) ?_))
  intro w hI
  refine seq_nil (wp_ret ?_)
  replace hF := Option.some.inj hF; subst hF
  exact ⟨.agg #[iv y949, iv y951], Ret.c rfl rfl (run_loadK hI 0 2 [iv y949, iv y951] Try.isAgg28 Try.sizeOf28 rfl rfl rfl), ⟨rfl, hI.below⟩⟩


theorem L68 (w0 : World) (Ap0_0 : Option Addr) (cp0_0 : Nat) (lp0_0 : List Ch) (Ap0_1 : Option Addr) (cp0_1 : Nat) (lp0_1 : List Ce) (bp0_2 : Nat) (esp0_2 : List En) (ckp0_2 : Nat) (Mp0_2 : Int → Option Int) (p1 : Dr) (hCp0_0 : Cells w0 Ap0_0 (flat eCh lp0_0)) (hMp0_0 : lp0_0.length ≤ 9223372036854775807) (hKp0_0 : lp0_0.length ≤ cp0_0) (hCp0_1 : Cells w0 Ap0_1 (flat eCe lp0_1)) (hMp0_1 : lp0_1.length ≤ 9223372036854775807) (hKp0_1 : lp0_1.length ≤ cp0_1) (hbp0_2 : w0.heap[bp0_2]? = some (mobj esp0_2 ckp0_2)) (hop0_2 : MOk esp0_2 ckp0_2) (hMp0_2 : ∀ j, mget esp0_2 j = (Mp0_2 j).map (Value.int .i64)) (N : Nat) (r : List Int) (hF : F68 N lp0_0 lp0_1 Mp0_2 p1 = some r) : Does Try.prog 68 [.agg #[.slice Ap0_0 lp0_0.length cp0_0, .slice Ap0_1 lp0_1.length cp0_1, .map (some bp0_2)], .agg #[.int .i64 p1.fr, .int .i64 p1.to]] w0 fun v w => ∃ (z0 : Option Nat) (z1 : Nat) (z2 : List Value), v = slv z0 r.length z1 ∧ Inv [] w0 w [(z0, blk z2 3)] ∧ Row 1 z0 r.length z1 z2 (flat eInt r) := by
 refine calls_of (n := 41) Try.func68 rfl Try.ntmps68 rfl ?_
 have hI := Inv.start w0
 unfold F68 at hF
 refine wp_seq (rgn (by kernel_rfl) (seq_c (s_boxI hI [.slice Ap0_0 lp0_0.length cp0_0, .slice Ap0_1 lp0_1.length cp0_1, .map (some bp0_2)] rfl ?_)))
 intro b254 w hI
 refine seq_c (s_boxI hI [iv p1.fr, iv p1.to] rfl ?_)
 intro b255 w hI
 refine pu (.slice none 0 0) (by kernel_rfl) (seq_nil (wp_seq (rgn (by kernel_rfl) (pu (.pointer (some ⟨b254, 0, none⟩)) (by kernel_rfl) (pu (.pointer (some ⟨b254, 0, none⟩)) (by kernel_rfl) (seq_c (s_load1 hI 1 (.slice Ap0_0 lp0_0.length cp0_0) Try.isAgg22 rfl rfl rfl ?_)))))))
 refine pu (iv ((lp0_0.length : Nat) : Int)) (by kernel_rfl) (gdE hF (fun h71 hF => ?_))
 refine gdE hF (fun h72 hF => ?_)
 refine seq_c (s_makeRowN hI (enc := eInt) eInt_len (by decide) ((0 : Int)) Try.underlying52 (z := iv 0) (k := 1) (bytes := 8) (by kernel_rfl) rfl ((lp0_0.length : Int)).toNat (congrArg (Value.int .i64) (Int.toNat_of_nonneg h71).symm) (congrArg (Value.int .i64) (Int.toNat_of_nonneg h71).symm) (by omega) (by decide) ?_)
 intro b259 cl260 w hI r261
 refine pu (slv (some b259) ((List.replicate ((lp0_0.length : Int)).toNat (0 : Int)).length) (((lp0_0.length : Int)).toNat)) (by kernel_rfl) (seq_nil (wp_seq (wp_seq (rgn (by kernel_rfl) (pu (.pointer (some ⟨b254, 0, none⟩)) (by kernel_rfl) (pu (.pointer (some ⟨b254, 1, none⟩)) (by kernel_rfl) (seq_c (s_load1 hI 2 (.slice Ap0_1 lp0_1.length cp0_1) Try.isAgg23 rfl rfl rfl ?_))))))))
 refine pu (.pointer (some ⟨b255, 0, none⟩)) (by kernel_rfl) (seq_c (s_load1 hI 1 (iv p1.fr) Try.isAgg3 rfl rfl rfl ?_))
 refine pu (.pointer (some ⟨b255, 1, none⟩)) (by kernel_rfl) (seq_c (s_load1 hI 1 (iv p1.to) Try.isAgg3 rfl rfl rfl ?_))
 refine ckE hF (fun h109 hF => ?_)
 refine seq_c (s_add rfl rfl h109 ?_)
 refine gdE hF (fun h110 hF => ?_)
 refine gdE hF (fun h111 hF => ?_)
 refine gdE hF (fun h112 hF => ?_)
 obtain ⟨A389, hC390, hA389⟩ := cutA (enc := eCe) (l := lp0_1) (lo := (p1.fr).toNat) (hi := (p1.to + 1).toNat) (c := cp0_1) (k := 3) eCe_len hCp0_1 h112 hKp0_1
 refine seq_c (hA389 Try.underlying23 Try.sizeOf32 rfl (.inl (congrArg (fun z => some (Value.int .i64 z)) (Int.toNat_of_nonneg h110).symm)) (.inl (congrArg (fun z => some (Value.int .i64 z)) (Int.toNat_of_nonneg h111).symm)) ?_)
 refine pu (iv ((((lp0_1.drop ((p1.fr).toNat)).take ((p1.to + 1).toNat - ((p1.fr).toNat))).length : Nat) : Int)) (by kernel_rfl) (pu (iv 0) (by kernel_rfl) (seq_nil (wp_block ?_)))
 refine wp_loop (fun m ρ w => ∃ (g466 : Option Nat) (c467 : Nat) (cl468 : List Value) (links_465 : List Int) (v470 : Int) (mm : Nat), Agree ρ [(2, .pointer (some ⟨b254, 0, none⟩)), (5, slv g466 links_465.length c467), (21, .slice A389 (((lp0_1.drop ((p1.fr).toNat)).take ((p1.to + 1).toNat - ((p1.fr).toNat))).length) (cp0_1 - ((p1.fr).toNat))), (22, iv (((lp0_1.drop ((p1.fr).toNat)).take ((p1.to + 1).toNat - ((p1.fr).toNat))).length : Int)), (23, iv v470)] ∧ Inv [] w0 w [(some b254, blk [.slice Ap0_0 lp0_0.length cp0_0, .slice Ap0_1 lp0_1.length cp0_1, .map (some bp0_2)] 115), (g466, blk cl468 3)] ∧ (Row 1 g466 (links_465.length) c467 cl468 (flat eInt links_465)) ∧ F68l1 lp0_1 Mp0_2 p1 mm links_465 v470 = some r ∧ mm = m) (m := N) ⟨some b259, ((lp0_0.length : Int)).toNat, cl260, List.replicate ((lp0_0.length : Int)).toNat (0 : Int), 0, N, ⟨rfl, rfl, rfl, rfl, rfl, trivial⟩, hI.pickL [2, 0] (by decide) rfl, (r261.to rfl rfl), hF, rfl⟩ ?_
 rintro m ρ w ⟨g466, c467, cl468, links_465, v470, mm, hag, hI, r469, hF, hm⟩
 subst hm; obtain ⟨ρ, rfl⟩ := hag.form; clear hag
 obtain _ | m1 := mm
 ·cases (show (none : Option (List Int)) = some r from hF)
 replace hF : F68b1 lp0_1 Mp0_2 p1 (F68l1 lp0_1 Mp0_2 p1 m1) links_465 v470 = some r := hF; unfold F68b1 at hF
 refine wp_seq (rgn (by kernel_rfl) (ifE hF (fun h129 hF => ?_) (fun h129 hF => ?_)))
 ·
  refine seq_c (s_lss rfl rfl (fun _ => ?_) (fun h => absurd (a := v470 < (((lp0_1.drop ((p1.fr).toNat)).take ((p1.to + 1).toNat - ((p1.fr).toNat))).length : Int)) h129 h))
  refine seq_nil (wp_seq (wp_condT rfl (wp_skip (wp_seq (wp_block ?_)))))
  refine wp_seq (rgn (by kernel_rfl) (gdE hF (fun h133 hF => ?_)))
  refine bindE hF (fun x489 hx490 hF => ?_)
  obtain ⟨b491, o492, hA493, hb494, he495⟩ := hC390.at_ eCe_len (by decide) hx490
  refine seq_c (s_indexA (v470).toNat Try.underlying23 Try.sizeOf32 rfl hA493 rfl (Int.toNat_of_nonneg h133).symm (lt_n hx490 rfl) ?_)
  refine seq_c (s_loadBK hI [iv x489.ch, iv x489.ln, iv x489.wo] Try.isAgg32 Try.sizeOf32 rfl rfl hb494 (by simp) he495 ?_)
  refine seq_c (s_allocI hI [iv 0, iv 0, iv 0] Try.zeroValue32 rfl ?_)
  intro b496 w hI
  refine seq_c (s_store hI 0 3 [iv x489.ch, iv x489.ln, iv x489.wo] Try.sizeOf32 rfl rfl rfl rfl rfl (Nat.le_of_ble_eq_true rfl) ?_)
  intro w hI
  refine seq_nil (gdE hF (fun h134 hF => ?_))
  refine bindE hF (fun x497 hx498 hF => ?_)
  refine ckE hF (fun h135 hF => ?_)
  replace hI := hI.pickL [0, 1, 2] (by decide) rfl
  refine wp_drawn2 hI [0, 1] (by decide) rfl (by kernel_rfl) (by kernel_rfl) ?_
  intro hsub
  refine alp 0 (slv g466 links_465.length c467) hsub rfl (by kernel_rfl) (fun _ => (by kernel_rfl)) ?_
  refine alp 1 (.pointer (some ⟨b254, 2, none⟩)) hsub rfl (by kernel_rfl) (fun _ => (by kernel_rfl)) ?_
  refine al_light 2 (.map (some bp0_2)) hsub rfl (by kernel_rfl) (fun w hI => s_load1 hI 1 (.map (some bp0_2)) Try.isAgg113 rfl rfl rfl ⟨rfl, Below.refl _ _⟩) ?_
  refine alp 3 (.pointer (some ⟨b496, 0, none⟩)) hsub rfl (by kernel_rfl) (fun _ => (by kernel_rfl)) ?_
  refine al_light 4 (iv x489.ch) hsub rfl (by kernel_rfl) (fun w hI => s_load1 hI 0 (iv x489.ch) Try.isAgg3 rfl rfl rfl ⟨rfl, Below.refl _ _⟩) ?_
  refine al_light 5 (iv ((Mp0_2 x489.ch).getD 0)) hsub rfl (by kernel_rfl) (fun w hI => s_lookupB hI (iv ((Mp0_2 x489.ch).getD 0)) Try.underlying113 Try.underlying3 Try.zeroValue3 hbp0_2 (by simp) rfl rfl (getM_ok hMp0_2 _) ⟨rfl, Below.refl _ _⟩) ?_
  obtain ⟨b503, rfl, he504⟩ := r469.at_ eInt_len (by decide) hx498
  refine al_light 6 (.pointer (some ⟨b503, (((Mp0_2 x489.ch).getD 0).toNat) * 1, none⟩)) hsub rfl (by kernel_rfl) (fun w hI => s_indexR (((Mp0_2 x489.ch).getD 0).toNat) Try.underlying52 Try.sizeOf3 rfl rfl (Int.toNat_of_nonneg h134).symm (lt_n hx498 rfl) ⟨rfl, Below.refl _ _⟩) ?_
  refine alp 8 (.pointer (some ⟨b496, 1, none⟩)) hsub rfl (by kernel_rfl) (fun _ => (by kernel_rfl)) ?_
  refine al_light 9 (iv x489.ln) hsub rfl (by kernel_rfl) (fun w hI => s_load1 hI 0 (iv x489.ln) Try.isAgg3 rfl rfl rfl ⟨rfl, Below.refl _ _⟩) ?_
  refine any_heavy [7] (by kernel_rfl) rfl (each1 ?_)
  intro w hI
  refine ol_c rfl (s_loadR1 hI 2 (iv x497) Try.isAgg3 rfl rfl (he504 0 _ rfl) ?_)
  refine ⟨_, hI, subk (fun _ h => h.pickL [0, 1] (by decide) rfl) ?_⟩
  intro hsub
  refine al_light 10 (iv (x497 + x489.ln)) hsub rfl (by kernel_rfl) (fun w hI => s_add rfl rfl h135 ⟨rfl, Below.refl _ _⟩) ?_
  refine al_light 11 (.pointer (some ⟨b503, (((Mp0_2 x489.ch).getD 0).toNat) * 1, none⟩)) hsub rfl (by kernel_rfl) (fun w hI => s_indexR (((Mp0_2 x489.ch).getD 0).toNat) Try.underlying52 Try.sizeOf3 rfl rfl (Int.toNat_of_nonneg h134).symm (lt_n hx498 rfl) ⟨rfl, Below.refl _ _⟩) ?_
  refine any_heavy [12] (by kernel_rfl) rfl (each1 ?_)
  intro w hI
  have := lt_n hx498 rfl
  refine ol_c rfl (s_store hI 2 1 [iv (x497 + x489.ln)] Try.sizeOf3 rfl rfl rfl rfl rfl (r469.room (by omega)) ?_)
  intro w hI
  refine ⟨_, hI, subk (fun _ h => h.pickL [0, 1] (by decide) rfl) ?_⟩
  intro hsub
  have r505 := r469.put eInt_len (by decide) (((Mp0_2 x489.ch).getD 0).toNat) (x497 + x489.ln) (by omega)
  refine any_end (by kernel_rfl) (fun w hI => ?_)
  refine rgn (by kernel_rfl) (ckE hF (fun h136 hF => ?_))
  refine seq_c (s_add rfl rfl h136 ?_)
  refine pu (iv (v470 + 1)) (by kernel_rfl) (seq_nil ?_)
  exact ⟨rfl, m1, Nat.lt_succ_self _, ⟨some b503, c467, putCells cl468 ((((Mp0_2 x489.ch).getD 0).toNat) * 1) (eInt (x497 + x489.ln)), (links_465).set (((Mp0_2 x489.ch).getD 0).toNat) (x497 + x489.ln), v470 + 1, m1, ⟨rfl, (slv_n (set_len rfl)), rfl, rfl, rfl, trivial⟩, hI.pickL [1, 2] (by decide) rfl, (r505.to rfl (set_len rfl)), hF, rfl⟩⟩
 ·
  refine seq_c (s_lss rfl rfl (fun h => absurd (a := v470 < (((lp0_1.drop ((p1.fr).toNat)).take ((p1.to + 1).toNat - ((p1.fr).toNat))).length : Int)) h h129) (fun _ => ?_))
  refine seq_nil (wp_seq (wp_condF rfl (wp_exit ?_)))
  refine wp_seq (rgn (by kernel_rfl) (pu (slv g466 links_465.length c467) (by kernel_rfl) (pu (slv g466 links_465.length c467) (by kernel_rfl) (seq_nil (wp_ret ?_)))))
  replace hF := Option.some.inj hF; subst hF
  exact ⟨slv g466 links_465.length c467, Ret.r1 rfl rfl, ⟨g466, c467, cl468, rfl, hI.pickL [1] (by decide) rfl, r469.to rfl rfl⟩⟩


theorem L25 (w0 : World) (Ap0_0 : Option Addr) (cp0_0 : Nat) (lp0_0 : List Ch) (Ap0_1 : Option Addr) (cp0_1 : Nat) (lp0_1 : List Ce) (p1 : Dr) (hCp0_0 : Cells w0 Ap0_0 (flat eCh lp0_0)) (hMp0_0 : lp0_0.length ≤ 9223372036854775807) (hKp0_0 : lp0_0.length ≤ cp0_0) (hCp0_1 : Cells w0 Ap0_1 (flat eCe lp0_1)) (hMp0_1 : lp0_1.length ≤ 9223372036854775807) (hKp0_1 : lp0_1.length ≤ cp0_1) (N : Nat) (r : (Int × Int × Int)) (hF : F25 N lp0_0 lp0_1 p1 = some r) : Does Try.prog 25 [.agg #[.slice Ap0_0 lp0_0.length cp0_0, .slice Ap0_1 lp0_1.length cp0_1], .agg #[.int .i64 p1.fr, .int .i64 p1.to]] w0 fun v w => v = .tuple #[.agg #[.int .i64 r.1, .int .i64 r.2.1], .int .i64 r.2.2] ∧ Below w0.heap.size w0 w := by
 refine calls_of (n := 24) Try.func25 rfl Try.ntmps25 rfl ?_
 have hI := Inv.start w0
 unfold F25 at hF
 refine wp_seq (rgn (by kernel_rfl) (seq_c (s_boxI hI [.slice Ap0_0 lp0_0.length cp0_0, .slice Ap0_1 lp0_1.length cp0_1] rfl ?_)))
 intro b59 w hI
 refine seq_c (s_boxI hI [iv p1.fr, iv p1.to] rfl ?_)
 intro b60 w hI
 refine seq_c (s_allocI hI [iv 0, iv 0] Try.zeroValue28 rfl ?_)
 intro b61 w hI
 refine pu (iv 0) (by kernel_rfl) (seq_nil (wp_seq (rgn (by kernel_rfl) (seq_c (s_loadK hI 2 2 [.slice Ap0_0 lp0_0.length cp0_0, .slice Ap0_1 lp0_1.length cp0_1] Try.isAgg25 Try.sizeOf25 rfl rfl rfl rfl ?_)))))
 refine seq_c (s_loadK hI 1 2 [iv p1.fr, iv p1.to] Try.isAgg49 Try.sizeOf49 rfl rfl rfl rfl ?_)
 refine seq_c (s_new hI [iv p1.fr, iv p1.to] 49 (fun b => slv (some b) 1 1) (by kernel_rfl) ?_)
 intro b78 w hI
 refine bindS3E hF (fun y79 hy80 hF => ?_) (fun y81 hy82 hF => ?_) (fun y83 hy84 hF => ?_)
 ·
  refine seq_c (s_callv hI 66 [.agg #[.slice Ap0_0 lp0_0.length cp0_0, .slice Ap0_1 lp0_1.length cp0_1], .slice (some ⟨b78, 0, none⟩) 1 1] (.tuple #[.agg #[.slice none 0 0, .slice none 0 0, .map none], iv 42]) (by kernel_rfl) (L66 _ Ap0_0 cp0_0 lp0_0 Ap0_1 cp0_1 lp0_1 (some ⟨b78, 0, none⟩) 1 [(⟨p1.fr, p1.to⟩ : Dr)] (hCp0_0.inv0 hI) hMp0_0 hKp0_0 (hCp0_1.inv0 hI) hMp0_1 hKp0_1 (hI.cells 0 (off := 0) rfl (fun j u h => by rw [Nat.zero_add]; exact h)) (Nat.le_of_ble_eq_true rfl) (Nat.le_refl _) N _ hy80) ?_)
  intro w hI
  refine pu (.tuple #[.agg #[.slice none 0 0, .slice none 0 0, .map none], iv 42]) (by kernel_rfl) (pu (.agg #[.slice none 0 0, .slice none 0 0, .map none]) (by kernel_rfl) (pu (iv 42) (by kernel_rfl) (seq_c (s_allocI hI [.slice none 0 0, .slice none 0 0, .map none] Try.zeroValue115 rfl ?_))))
  intro b85 w hI
  refine seq_c (s_store hI 0 3 [.slice none 0 0, .slice none 0 0, .map none] Try.sizeOf115 rfl rfl rfl rfl rfl (Nat.le_of_ble_eq_true rfl) ?_)
  intro w hI
  refine pu (iv 42) (by kernel_rfl) (seq_nil (wp_seq (wp_seq (rgn (by kernel_rfl) (pu (iv 42) (by kernel_rfl) (seq_c (s_neq rfl rfl (fun _ => ?_) (fun h => absurd (a := 42 = 0) h (by decide)))))))))
  refine seq_nil (wp_condT rfl (wp_seq (rgn (by kernel_rfl) (pu (.agg #[iv 0, iv 0]) (by kernel_rfl) (pu (iv 42) (by kernel_rfl) (seq_c (s_store hI 2 2 [iv 0, iv 0] Try.sizeOf28 rfl rfl rfl rfl rfl (Nat.le_of_ble_eq_true rfl) ?_)))))))
  intro w hI
  refine pu (iv 42) (by kernel_rfl) (seq_nil (wp_ret ?_))
  replace hF := Option.some.inj hF; subst hF
  exact ⟨.tuple #[.agg #[iv 0, iv 0], iv 42], Ret.ct rfl rfl (run_loadK hI 2 2 [iv 0, iv 0] Try.isAgg28 Try.sizeOf28 rfl rfl rfl) rfl, ⟨rfl, hI.below⟩⟩
 ·
  refine seq_c (s_callv hI 66 [.agg #[.slice Ap0_0 lp0_0.length cp0_0, .slice Ap0_1 lp0_1.length cp0_1], .slice (some ⟨b78, 0, none⟩) 1 1] (.tuple #[.agg #[.slice none 0 0, .slice none 0 0, .map none], iv 45]) (by kernel_rfl) (L66 _ Ap0_0 cp0_0 lp0_0 Ap0_1 cp0_1 lp0_1 (some ⟨b78, 0, none⟩) 1 [(⟨p1.fr, p1.to⟩ : Dr)] (hCp0_0.inv0 hI) hMp0_0 hKp0_0 (hCp0_1.inv0 hI) hMp0_1 hKp0_1 (hI.cells 0 (off := 0) rfl (fun j u h => by rw [Nat.zero_add]; exact h)) (Nat.le_of_ble_eq_true rfl) (Nat.le_refl _) N _ hy82) ?_)
  intro w hI
  refine pu (.tuple #[.agg #[.slice none 0 0, .slice none 0 0, .map none], iv 45]) (by kernel_rfl) (pu (.agg #[.slice none 0 0, .slice none 0 0, .map none]) (by kernel_rfl) (pu (iv 45) (by kernel_rfl) (seq_c (s_allocI hI [.slice none 0 0, .slice none 0 0, .map none] Try.zeroValue115 rfl ?_))))
  intro b86 w hI
  refine seq_c (s_store hI 0 3 [.slice none 0 0, .slice none 0 0, .map none] Try.sizeOf115 rfl rfl rfl rfl rfl (Nat.le_of_ble_eq_true rfl) ?_)
  intro w hI
  refine pu (iv 45) (by kernel_rfl) (seq_nil (wp_seq (wp_seq (rgn (by kernel_rfl) (pu (iv 45) (by kernel_rfl) (seq_c (s_neq rfl rfl (fun _ => ?_) (fun h => absurd (a := 45 = 0) h (by decide)))))))))
  refine seq_nil (wp_condT rfl (wp_seq (rgn (by kernel_rfl) (pu (.agg #[iv 0, iv 0]) (by kernel_rfl) (pu (iv 45) (by kernel_rfl) (seq_c (s_store hI 2 2 [iv 0, iv 0] Try.sizeOf28 rfl rfl rfl rfl rfl (Nat.le_of_ble_eq_true rfl) ?_)))))))
  intro w hI
  refine pu (iv 45) (by kernel_rfl) (seq_nil (wp_ret ?_))
  replace hF := Option.some.inj hF; subst hF
  exact ⟨.tuple #[.agg #[iv 0, iv 0], iv 45], Ret.ct rfl rfl (run_loadK hI 2 2 [iv 0, iv 0] Try.isAgg28 Try.sizeOf28 rfl rfl rfl) rfl, ⟨rfl, hI.below⟩⟩
 ·
  refine seq_c (s_call 66 [.agg #[.slice Ap0_0 lp0_0.length cp0_0, .slice Ap0_1 lp0_1.length cp0_1], .slice (some ⟨b78, 0, none⟩) 1 1] (by kernel_rfl) (L66 _ Ap0_0 cp0_0 lp0_0 Ap0_1 cp0_1 lp0_1 (some ⟨b78, 0, none⟩) 1 [(⟨p1.fr, p1.to⟩ : Dr)] (hCp0_0.inv0 hI) hMp0_0 hKp0_0 (hCp0_1.inv0 hI) hMp0_1 hKp0_1 (hI.cells 0 (off := 0) rfl (fun j u h => by rw [Nat.zero_add]; exact h)) (Nat.le_of_ble_eq_true rfl) (Nat.le_refl _) N _ hy84) ?_)
  rintro v w ⟨b87, es88, ck89, rfl, hN, ho90, hM91⟩
  have hI := hI.join hN; clear hN
  refine pu (.tuple #[.agg #[.slice Ap0_0 lp0_0.length cp0_0, .slice Ap0_1 lp0_1.length cp0_1, .map (some b87)], iv 0]) (by kernel_rfl) (pu (.agg #[.slice Ap0_0 lp0_0.length cp0_0, .slice Ap0_1 lp0_1.length cp0_1, .map (some b87)]) (by kernel_rfl) (pu (iv 0) (by kernel_rfl) (seq_c (s_allocI hI [.slice none 0 0, .slice none 0 0, .map none] Try.zeroValue115 rfl ?_))))
  intro b92 w hI
  refine seq_c (s_store hI 0 3 [.slice Ap0_0 lp0_0.length cp0_0, .slice Ap0_1 lp0_1.length cp0_1, .map (some b87)] Try.sizeOf115 rfl rfl rfl rfl rfl (Nat.le_of_ble_eq_true rfl) ?_)
  intro w hI
  refine pu (iv 0) (by kernel_rfl) (seq_nil (wp_seq (wp_seq (rgn (by kernel_rfl) (pu (iv 0) (by kernel_rfl) (seq_c (s_neq rfl rfl (fun h => absurd (a := 0 = 0) (by decide) h) (fun _ => ?_))))))))
  refine seq_nil (wp_condF rfl (wp_skip (wp_seq (bindE hF (fun y105 hy106 hF => ?_)))))
  refine bindE hF (fun y111 hy112 hF => ?_)
  replace hI := hI.pickL [0, 1, 2, 4, 5, 3] (by decide) rfl
  refine wp_drawn2 hI [0, 1, 2, 3, 4] (by decide) rfl (by kernel_rfl) (by kernel_rfl) ?_
  intro hsub
  refine al_light 0 (.agg #[.slice Ap0_0 lp0_0.length cp0_0, .slice Ap0_1 lp0_1.length cp0_1, .map (some b87)]) hsub rfl (by kernel_rfl) (fun w hI => s_loadK hI 0 3 [.slice Ap0_0 lp0_0.length cp0_0, .slice Ap0_1 lp0_1.length cp0_1, .map (some b87)] Try.isAgg115 Try.sizeOf115 rfl rfl rfl rfl ⟨rfl, Below.refl _ _⟩) ?_
  refine al_light 1 (.agg #[.slice Ap0_0 lp0_0.length cp0_0, .slice Ap0_1 lp0_1.length cp0_1, .map (some b87)]) hsub rfl (by kernel_rfl) (fun w hI => s_loadK hI 0 3 [.slice Ap0_0 lp0_0.length cp0_0, .slice Ap0_1 lp0_1.length cp0_1, .map (some b87)] Try.isAgg115 Try.sizeOf115 rfl rfl rfl rfl ⟨rfl, Below.refl _ _⟩) ?_
  refine al_light 2 (.agg #[iv p1.fr, iv p1.to]) hsub rfl (by kernel_rfl) (fun w hI => s_loadK hI 3 2 [iv p1.fr, iv p1.to] Try.isAgg49 Try.sizeOf49 rfl rfl rfl rfl ⟨rfl, Below.refl _ _⟩) ?_
  refine any_heavy [3] (by kernel_rfl) rfl (each1 ?_)
  intro w hI
  refine ol_c rfl (s_call 68 [.agg #[.slice Ap0_0 lp0_0.length cp0_0, .slice Ap0_1 lp0_1.length cp0_1, .map (some b87)], .agg #[iv p1.fr, iv p1.to]] (by kernel_rfl) (L68 _ Ap0_0 cp0_0 lp0_0 Ap0_1 cp0_1 lp0_1 b87 es88 ck89 y83 p1 (hCp0_0.inv0 hI) hMp0_0 hKp0_0 (hCp0_1.inv0 hI) hMp0_1 hKp0_1 (hI.has 1 _ _ rfl).1 ho90 hM91 N _ hy106) ?_)
  rintro v w ⟨g113, c114, cl115, rfl, hN, r116⟩
  have hI := hI.join hN; clear hN
  refine ⟨_, hI, subk (fun _ h => h.pickL [1, 2, 3, 4, 5] (by decide) rfl) ?_⟩
  intro hsub
  refine any_heavy [4] (by kernel_rfl) rfl (each1 ?_)
  intro w hI
  refine ol_c rfl (s_callv hI 67 [.agg #[.slice Ap0_0 lp0_0.length cp0_0, .slice Ap0_1 lp0_1.length cp0_1, .map (some b87)], slv g113 y105.length c114] (.agg #[iv y111.1, iv y111.2]) (by kernel_rfl) (L67 _ Ap0_0 cp0_0 lp0_0 Ap0_1 cp0_1 lp0_1 b87 es88 ck89 y83 (g113.map fun b => ⟨b, 0, none⟩) c114 y105 (hCp0_0.inv0 hI) hMp0_0 hKp0_0 (hCp0_1.inv0 hI) hMp0_1 hKp0_1 (hI.has 2 _ _ rfl).1 ho90 hM91 (hI.rowCells 0 rfl r116) (len_le rfl r116.big) (len_le rfl r116.cap) N _ hy112) ?_)
  intro w hI
  refine ⟨_, hI, subk (fun _ h => h.pickL [1, 2, 3, 4, 5] (by decide) rfl) ?_⟩
  intro hsub
  refine any_heavy [5] (by kernel_rfl) rfl (each1 ?_)
  intro w hI
  refine ol_c rfl (s_store hI 6 2 [iv y111.1, iv y111.2] Try.sizeOf28 rfl rfl rfl rfl rfl (Nat.le_of_ble_eq_true rfl) ?_)
  intro w hI
  refine ⟨_, hI, subk (fun _ h => h.pickL [1, 2, 3, 4, 5] (by decide) rfl) ?_⟩
  intro hsub
  refine alp 6 (iv 0) hsub rfl (by kernel_rfl) (fun _ => (by kernel_rfl)) ?_
  refine any_end (by kernel_rfl) (fun w hI => ?_)
  refine wp_ret ?_
  replace hF := Option.some.inj hF; subst hF
  exact ⟨.tuple #[.agg #[iv y111.1, iv y111.2], iv 0], Ret.ct rfl rfl (run_loadK hI 6 2 [iv y111.1, iv y111.2] Try.isAgg28 Try.sizeOf28 rfl rfl rfl) rfl, ⟨rfl, hI.below⟩⟩


theorem L27 (w0 : World) (Ap0_0 : Option Addr) (cp0_0 : Nat) (lp0_0 : List Ch) (Ap0_1 : Option Addr) (cp0_1 : Nat) (lp0_1 : List Ce) (p1 : Dr) (p2 : Dr) (hCp0_0 : Cells w0 Ap0_0 (flat eCh lp0_0)) (hMp0_0 : lp0_0.length ≤ 9223372036854775807) (hKp0_0 : lp0_0.length ≤ cp0_0) (hCp0_1 : Cells w0 Ap0_1 (flat eCe lp0_1)) (hMp0_1 : lp0_1.length ≤ 9223372036854775807) (hKp0_1 : lp0_1.length ≤ cp0_1) (N : Nat) (r : (Int × Int)) (hF : F27 N lp0_0 lp0_1 p1 p2 = some r) : Does Try.prog 27 [.agg #[.slice Ap0_0 lp0_0.length cp0_0, .slice Ap0_1 lp0_1.length cp0_1], .agg #[.int .i64 p1.fr, .int .i64 p1.to], .agg #[.int .i64 p2.fr, .int .i64 p2.to]] w0 fun v w => v = .tuple #[.int .i64 r.1, .int .i64 r.2] ∧ Below w0.heap.size w0 w := by
 refine calls_of (n := 56) Try.func27 rfl Try.ntmps27 rfl ?_
 have hI := Inv.start w0
 unfold F27 at hF
 refine wp_seq (rgn (by kernel_rfl) (seq_c (s_boxI hI [.slice Ap0_0 lp0_0.length cp0_0, .slice Ap0_1 lp0_1.length cp0_1] rfl ?_)))
 intro b242 w hI
 refine seq_c (s_boxI hI [iv p1.fr, iv p1.to] rfl ?_)
 intro b243 w hI
 refine seq_c (s_boxI hI [iv p2.fr, iv p2.to] rfl ?_)
 intro b244 w hI
 refine pu (iv 0) (by kernel_rfl) (pu (iv 0) (by kernel_rfl) (seq_nil (wp_seq (rgn (by kernel_rfl) (seq_c (s_loadK hI 2 2 [.slice Ap0_0 lp0_0.length cp0_0, .slice Ap0_1 lp0_1.length cp0_1] Try.isAgg25 Try.sizeOf25 rfl rfl rfl rfl ?_))))))
 refine seq_c (s_loadK hI 1 2 [iv p1.fr, iv p1.to] Try.isAgg49 Try.sizeOf49 rfl rfl rfl rfl ?_)
 refine seq_c (s_loadK hI 0 2 [iv p2.fr, iv p2.to] Try.isAgg49 Try.sizeOf49 rfl rfl rfl rfl ?_)
 refine seq_c (s_new hI [iv p1.fr, iv p1.to, iv p2.fr, iv p2.to] 49 (fun b => slv (some b) 2 2) (by kernel_rfl) ?_)
 intro b261 w hI
 refine bindS3E hF (fun y262 hy263 hF => ?_) (fun y264 hy265 hF => ?_) (fun y266 hy267 hF => ?_)
 ·
  refine seq_c (s_callv hI 66 [.agg #[.slice Ap0_0 lp0_0.length cp0_0, .slice Ap0_1 lp0_1.length cp0_1], .slice (some ⟨b261, 0, none⟩) 2 2] (.tuple #[.agg #[.slice none 0 0, .slice none 0 0, .map none], iv 42]) (by kernel_rfl) (L66 _ Ap0_0 cp0_0 lp0_0 Ap0_1 cp0_1 lp0_1 (some ⟨b261, 0, none⟩) 2 [(⟨p1.fr, p1.to⟩ : Dr), (⟨p2.fr, p2.to⟩ : Dr)] (hCp0_0.inv0 hI) hMp0_0 hKp0_0 (hCp0_1.inv0 hI) hMp0_1 hKp0_1 (hI.cells 0 (off := 0) rfl (fun j u h => by rw [Nat.zero_add]; exact h)) (Nat.le_of_ble_eq_true rfl) (Nat.le_refl _) N _ hy263) ?_)
  intro w hI
  refine pu (.tuple #[.agg #[.slice none 0 0, .slice none 0 0, .map none], iv 42]) (by kernel_rfl) (pu (.agg #[.slice none 0 0, .slice none 0 0, .map none]) (by kernel_rfl) (pu (iv 42) (by kernel_rfl) (seq_c (s_allocI hI [.slice none 0 0, .slice none 0 0, .map none] Try.zeroValue115 rfl ?_))))
  intro b268 w hI
  refine seq_c (s_store hI 0 3 [.slice none 0 0, .slice none 0 0, .map none] Try.sizeOf115 rfl rfl rfl rfl rfl (Nat.le_of_ble_eq_true rfl) ?_)
  intro w hI
  refine pu (iv 42) (by kernel_rfl) (seq_nil (wp_seq (wp_seq (rgn (by kernel_rfl) (pu (iv 42) (by kernel_rfl) (seq_c (s_neq rfl rfl (fun _ => ?_) (fun h => absurd (a := 42 = 0) h (by decide)))))))))
  refine seq_nil (wp_condT rfl (wp_seq (rgn (by kernel_rfl) (pu (iv 42) (by kernel_rfl) (pu (iv 0) (by kernel_rfl) (pu (iv 42) (by kernel_rfl) (seq_nil (wp_ret ?_))))))))
  replace hF := Option.some.inj hF; subst hF
  exact ⟨.tuple #[iv 0, iv 42], Ret.r2 rfl rfl rfl, ⟨rfl, hI.below⟩⟩
 ·
  refine seq_c (s_callv hI 66 [.agg #[.slice Ap0_0 lp0_0.length cp0_0, .slice Ap0_1 lp0_1.length cp0_1], .slice (some ⟨b261, 0, none⟩) 2 2] (.tuple #[.agg #[.slice none 0 0, .slice none 0 0, .map none], iv 45]) (by kernel_rfl) (L66 _ Ap0_0 cp0_0 lp0_0 Ap0_1 cp0_1 lp0_1 (some ⟨b261, 0, none⟩) 2 [(⟨p1.fr, p1.to⟩ : Dr), (⟨p2.fr, p2.to⟩ : Dr)] (hCp0_0.inv0 hI) hMp0_0 hKp0_0 (hCp0_1.inv0 hI) hMp0_1 hKp0_1 (hI.cells 0 (off := 0) rfl (fun j u h => by rw [Nat.zero_add]; exact h)) (Nat.le_of_ble_eq_true rfl) (Nat.le_refl _) N _ hy265) ?_)
  intro w hI
  refine pu (.tuple #[.agg #[.slice none 0 0, .slice none 0 0, .map none], iv 45]) (by kernel_rfl) (pu (.agg #[.slice none 0 0, .slice none 0 0, .map none]) (by kernel_rfl) (pu (iv 45) (by kernel_rfl) (seq_c (s_allocI hI [.slice none 0 0, .slice none 0 0, .map none] Try.zeroValue115 rfl ?_))))
  intro b269 w hI
  refine seq_c (s_store hI 0 3 [.slice none 0 0, .slice none 0 0, .map none] Try.sizeOf115 rfl rfl rfl rfl rfl (Nat.le_of_ble_eq_true rfl) ?_)
  intro w hI
  refine pu (iv 45) (by kernel_rfl) (seq_nil (wp_seq (wp_seq (rgn (by kernel_rfl) (pu (iv 45) (by kernel_rfl) (seq_c (s_neq rfl rfl (fun _ => ?_) (fun h => absurd (a := 45 = 0) h (by decide)))))))))
  refine seq_nil (wp_condT rfl (wp_seq (rgn (by kernel_rfl) (pu (iv 45) (by kernel_rfl) (pu (iv 0) (by kernel_rfl) (pu (iv 45) (by kernel_rfl) (seq_nil (wp_ret ?_))))))))
  replace hF := Option.some.inj hF; subst hF
  exact ⟨.tuple #[iv 0, iv 45], Ret.r2 rfl rfl rfl, ⟨rfl, hI.below⟩⟩
 ·
  refine seq_c (s_call 66 [.agg #[.slice Ap0_0 lp0_0.length cp0_0, .slice Ap0_1 lp0_1.length cp0_1], .slice (some ⟨b261, 0, none⟩) 2 2] (by kernel_rfl) (L66 _ Ap0_0 cp0_0 lp0_0 Ap0_1 cp0_1 lp0_1 (some ⟨b261, 0, none⟩) 2 [(⟨p1.fr, p1.to⟩ : Dr), (⟨p2.fr, p2.to⟩ : Dr)] (hCp0_0.inv0 hI) hMp0_0 hKp0_0 (hCp0_1.inv0 hI) hMp0_1 hKp0_1 (hI.cells 0 (off := 0) rfl (fun j u h => by rw [Nat.zero_add]; exact h)) (Nat.le_of_ble_eq_true rfl) (Nat.le_refl _) N _ hy267) ?_)
  rintro v w ⟨b270, es271, ck272, rfl, hN, ho273, hM274⟩
  have hI := hI.join hN; clear hN
  refine pu (.tuple #[.agg #[.slice Ap0_0 lp0_0.length cp0_0, .slice Ap0_1 lp0_1.length cp0_1, .map (some b270)], iv 0]) (by kernel_rfl) (pu (.agg #[.slice Ap0_0 lp0_0.length cp0_0, .slice Ap0_1 lp0_1.length cp0_1, .map (some b270)]) (by kernel_rfl) (pu (iv 0) (by kernel_rfl) (seq_c (s_allocI hI [.slice none 0 0, .slice none 0 0, .map none] Try.zeroValue115 rfl ?_))))
  intro b275 w hI
  refine seq_c (s_store hI 0 3 [.slice Ap0_0 lp0_0.length cp0_0, .slice Ap0_1 lp0_1.length cp0_1, .map (some b270)] Try.sizeOf115 rfl rfl rfl rfl rfl (Nat.le_of_ble_eq_true rfl) ?_)
  intro w hI
  refine pu (iv 0) (by kernel_rfl) (seq_nil (wp_seq (wp_seq (rgn (by kernel_rfl) (pu (iv 0) (by kernel_rfl) (seq_c (s_neq rfl rfl (fun h => absurd (a := 0 = 0) (by decide) h) (fun _ => ?_))))))))
  refine seq_nil (wp_condF rfl (wp_skip (wp_seq (rgn (by kernel_rfl) (seq_c (s_loadK hI 0 3 [.slice Ap0_0 lp0_0.length cp0_0, .slice Ap0_1 lp0_1.length cp0_1, .map (some b270)] Try.isAgg115 Try.sizeOf115 rfl rfl rfl rfl ?_))))))
  refine seq_c (s_loadK hI 4 2 [iv p1.fr, iv p1.to] Try.isAgg49 Try.sizeOf49 rfl rfl rfl rfl ?_)
  refine bindE hF (fun y282 hy283 hF => ?_)
  refine seq_c (s_call 68 [.agg #[.slice Ap0_0 lp0_0.length cp0_0, .slice Ap0_1 lp0_1.length cp0_1, .map (some b270)], .agg #[iv p1.fr, iv p1.to]] (by kernel_rfl) (L68 _ Ap0_0 cp0_0 lp0_0 Ap0_1 cp0_1 lp0_1 b270 es271 ck272 y266 p1 (hCp0_0.inv0 hI) hMp0_0 hKp0_0 (hCp0_1.inv0 hI) hMp0_1 hKp0_1 (hI.has 1 _ _ rfl).1 ho273 hM274 N _ hy283) ?_)
  rintro v w ⟨g284, c285, cl286, rfl, hN, r287⟩
  have hI := hI.join hN; clear hN
  refine pu (slv g284 y282.length c285) (by kernel_rfl) (seq_nil (wp_cutO (fun ρ w => ∃ (g381 : Option Nat) (c382 : Nat) (cl383 : List Value) (more_380 : List Int), Agree ρ [(8, .pointer (some ⟨b275, 0, none⟩)), (10, slv g381 more_380.length c382)] ∧ Inv [] w0 w [(some b275, blk [.slice Ap0_0 lp0_0.length cp0_0, .slice Ap0_1 lp0_1.length cp0_1, .map (some b270)] 115), (some b270, mobj es271 ck272), (g381, blk cl383 3)] ∧ (Row 1 g381 (more_380.length) c382 cl383 (flat eInt more_380)) ∧ F27j1 lp0_0 lp0_1 N y266 more_380 = some r) ?_ ?_))
  ·
   refine wp_seq (rgn (by kernel_rfl) (seq_c (s_loadK hI 1 3 [.slice Ap0_0 lp0_0.length cp0_0, .slice Ap0_1 lp0_1.length cp0_1, .map (some b270)] Try.isAgg115 Try.sizeOf115 rfl rfl rfl rfl ?_)))
   refine seq_c (s_loadK hI 4 2 [iv p2.fr, iv p2.to] Try.isAgg49 Try.sizeOf49 rfl rfl rfl rfl ?_)
   refine bindE hF (fun y397 hy398 hF => ?_)
   refine seq_c (s_call 68 [.agg #[.slice Ap0_0 lp0_0.length cp0_0, .slice Ap0_1 lp0_1.length cp0_1, .map (some b270)], .agg #[iv p2.fr, iv p2.to]] (by kernel_rfl) (L68 _ Ap0_0 cp0_0 lp0_0 Ap0_1 cp0_1 lp0_1 b270 es271 ck272 y266 p2 (hCp0_0.inv0 hI) hMp0_0 hKp0_0 (hCp0_1.inv0 hI) hMp0_1 hKp0_1 (hI.has 2 _ _ rfl).1 ho273 hM274 N _ hy398) ?_)
   rintro v w ⟨g399, c400, cl401, rfl, hN, r402⟩
   have hI := hI.join hN; clear hN
   refine pu (iv ((y397.length : Nat) : Int)) (by kernel_rfl) (pu (iv 0) (by kernel_rfl) (seq_nil (wp_block ?_)))
   refine wp_loop (fun m ρ w => ∃ (g454 : Option Nat) (c455 : Nat) (cl456 : List Value) (g458 : Option Nat) (c459 : Nat) (cl460 : List Value) (more_453 : List Int) (v462 : Int) (mm : Nat), Agree ρ [(8, .pointer (some ⟨b275, 0, none⟩)), (10, slv g454 more_453.length c455), (30, slv g458 y397.length c459), (31, iv (y397.length : Int)), (32, iv v462)] ∧ Inv [] w0 w [(some b275, blk [.slice Ap0_0 lp0_0.length cp0_0, .slice Ap0_1 lp0_1.length cp0_1, .map (some b270)] 115), (some b270, mobj es271 ck272), (g454, blk cl456 3), (g458, blk cl460 3)] ∧ (Row 1 g454 (more_453.length) c455 cl456 (flat eInt more_453)) ∧ (Row 1 g458 (y397.length) c459 cl460 (flat eInt y397)) ∧ F27l2 lp0_0 lp0_1 N y266 y397 mm more_453 v462 = some r ∧ mm = m) (m := N) ⟨g284, c285, cl286, g399, c400, cl401, y282, 0, N, ⟨rfl, rfl, rfl, rfl, rfl, trivial⟩, hI.pickL [2, 3, 1, 0] (by decide) rfl, (r287.to rfl rfl), (r402.to rfl rfl), hF, rfl⟩ ?_
   rintro m ρ w ⟨g454, c455, cl456, g458, c459, cl460, more_453, v462, mm, hag, hI, r457, r461, hF, hm⟩
   subst hm; obtain ⟨ρ, rfl⟩ := hag.form; clear hag
   obtain _ | m2 := mm
   ·cases (show (none : Option (Int × Int)) = some r from hF)
   replace hF : F27b2 lp0_0 lp0_1 N y266 y397 (F27l2 lp0_0 lp0_1 N y266 y397 m2) more_453 v462 = some r := hF; unfold F27b2 at hF
   refine wp_seq (rgn (by kernel_rfl) (ifE hF (fun h83 hF => ?_) (fun h83 hF => ?_)))
   ·
    refine seq_c (s_lss rfl rfl (fun _ => ?_) (fun h => absurd (a := v462 < (y397.length : Int)) h83 h))
    refine seq_nil (wp_seq (wp_condT rfl (wp_skip (wp_seq (wp_block ?_)))))
    refine wp_seq (rgn (by kernel_rfl) (pu (iv v462) (by kernel_rfl) (gdE hF (fun h86 hF => ?_))))
    refine bindE hF (fun x473 hx474 hF => ?_)
    obtain ⟨b475, rfl, he476⟩ := r461.at_ eInt_len (by decide) hx474
    refine seq_c (s_indexR (v462).toNat Try.underlying52 Try.sizeOf3 rfl rfl (Int.toNat_of_nonneg h86).symm (lt_n hx474 rfl) ?_)
    refine seq_c (s_loadR1 hI 3 (iv x473) Try.isAgg3 rfl rfl (he476 0 _ rfl) ?_)
    refine pu (iv v462) (by kernel_rfl) (pu (iv x473) (by kernel_rfl) (seq_nil (rgn (by kernel_rfl) (pu (slv g454 more_453.length c455) (by kernel_rfl) (pu (iv v462) (by kernel_rfl) (bindE hF (fun x477 hx478 hF => ?_)))))))
    obtain ⟨b479, rfl, he480⟩ := r457.at_ eInt_len (by decide) hx478
    refine seq_c (s_indexR (v462).toNat Try.underlying52 Try.sizeOf3 rfl rfl (Int.toNat_of_nonneg h86).symm (lt_n hx478 rfl) ?_)
    refine seq_c (s_loadR1 hI 2 (iv x477) Try.isAgg3 rfl rfl (he480 0 _ rfl) ?_)
    refine pu (iv x473) (by kernel_rfl) (ckE hF (fun h87 hF => ?_))
    refine seq_c (s_sub rfl rfl h87 ?_)
    refine seq_c (s_indexR (v462).toNat Try.underlying52 Try.sizeOf3 rfl rfl (Int.toNat_of_nonneg h86).symm (lt_n hx478 rfl) ?_)
    have := lt_n hx478 rfl
    refine seq_c (s_store hI 2 1 [iv (x477 - x473)] Try.sizeOf3 rfl rfl rfl rfl rfl (r457.room (by omega)) ?_)
    intro w hI
    have r481 := r457.put eInt_len (by decide) (v462).toNat (x477 - x473) (by omega)
    obtain ⟨cl482, hcl⟩ : ∃ z, z = putCells cl456 ((v462).toNat * 1) (eInt (x477 - x473)) := ⟨_, rfl⟩
    rw [← hcl] at r481
    have hI : Inv [] w0 w [(some b275, blk [.slice Ap0_0 lp0_0.length cp0_0, .slice Ap0_1 lp0_1.length cp0_1, .map (some b270)] 115), (some b270, mobj es271 ck272), (some b479, blk cl482 3), (some b475, blk cl460 3)] := by rw [hcl]; exact hI
    clear hcl
    refine seq_nil (rgn (by kernel_rfl) (ckE hF (fun h88 hF => ?_)))
    refine seq_c (s_add rfl rfl h88 ?_)
    refine pu (iv (v462 + 1)) (by kernel_rfl) (seq_nil ?_)
    exact ⟨rfl, m2, Nat.lt_succ_self _, ⟨some b479, c455, cl482, some b475, c459, cl460, (more_453).set (v462).toNat (x477 - x473), v462 + 1, m2, ⟨rfl, (slv_n (set_len rfl)), rfl, rfl, rfl, trivial⟩, hI.pickL [0, 1, 2, 3] (by decide) rfl, (r481.to rfl (set_len rfl)), (r461.to rfl rfl), hF, rfl⟩⟩
   ·
    refine seq_c (s_lss rfl rfl (fun h => absurd (a := v462 < (y397.length : Int)) h h83) (fun _ => ?_))
    refine seq_nil (wp_seq (wp_condF rfl (wp_exit ?_)))
    exact .inl ⟨rfl, ⟨g454, c455, cl456, more_453, ⟨rfl, rfl, trivial⟩, hI.pickL [0, 1, 2] (by decide) rfl, (r457.to rfl rfl), hF⟩⟩
  ·intro ρ w hJ
   obtain ⟨g381, c382, cl383, more_380, hag, hI, r384, hF⟩ := hJ
   obtain ⟨ρ, rfl⟩ := hag.form; clear hag
   unfold F27j1 at hF
   refine wp_seq (rgn (by kernel_rfl) (seq_c (s_loadK hI 0 3 [.slice Ap0_0 lp0_0.length cp0_0, .slice Ap0_1 lp0_1.length cp0_1, .map (some b270)] Try.isAgg115 Try.sizeOf115 rfl rfl rfl rfl ?_)))
   refine pu (slv g381 more_380.length c382) (by kernel_rfl) (bindE hF (fun y388 hy389 hF => ?_))
   refine seq_c (s_callv hI 67 [.agg #[.slice Ap0_0 lp0_0.length cp0_0, .slice Ap0_1 lp0_1.length cp0_1, .map (some b270)], slv g381 more_380.length c382] (.agg #[iv y388.1, iv y388.2]) (by kernel_rfl) (L67 _ Ap0_0 cp0_0 lp0_0 Ap0_1 cp0_1 lp0_1 b270 es271 ck272 y266 (g381.map fun b => ⟨b, 0, none⟩) c382 more_380 (hCp0_0.inv0 hI) hMp0_0 hKp0_0 (hCp0_1.inv0 hI) hMp0_1 hKp0_1 (hI.has 1 _ _ rfl).1 ho273 hM274 (hI.rowCells 2 rfl r384) (len_le rfl r384.big) (len_le rfl r384.cap) N _ hy389) ?_)
   intro w hI
   refine seq_c (s_allocI hI [iv 0, iv 0] Try.zeroValue28 rfl ?_)
   intro b390 w hI
   refine seq_c (s_store hI 0 2 [iv y388.1, iv y388.2] Try.sizeOf28 rfl rfl rfl rfl rfl (Nat.le_of_ble_eq_true rfl) ?_)
   intro w hI
   refine seq_nil (wp_seq (wp_block ?_))
   refine wp_seq (rgn (by kernel_rfl) (pu (.pointer (some ⟨b390, 0, none⟩)) (by kernel_rfl) (seq_c (s_load1 hI 0 (iv y388.1) Try.isAgg3 rfl rfl rfl ?_))))
   refine ifE hF (fun h68 hF => ?_) (fun h68 hF => ?_)
   ·
    refine seq_c (s_gtr rfl rfl (fun _ => ?_) (fun h => absurd (a := 0 < y388.1) h68 h))
    refine pu (.bool true) (by kernel_rfl) (seq_nil (wp_condT rfl (wp_seq (rgn (by kernel_rfl) (pu (iv 1) (by kernel_rfl) (pu (iv 0) (by kernel_rfl) (seq_nil (wp_ret ?_))))))))
    replace hF := Option.some.inj hF; subst hF
    exact ⟨.tuple #[iv 1, iv 0], Ret.r2 rfl rfl rfl, ⟨rfl, hI.below⟩⟩
   ·
    refine seq_c (s_gtr rfl rfl (fun h => absurd (a := 0 < y388.1) h h68) (fun _ => ?_))
    refine pu (.bool false) (by kernel_rfl) (seq_nil (wp_condF rfl (wp_seq (rgn (by kernel_rfl) (pu (.pointer (some ⟨b390, 1, none⟩)) (by kernel_rfl) (seq_c (s_load1 hI 0 (iv y388.2) Try.isAgg3 rfl rfl rfl ?_)))))))
    refine ifE hF (fun h70 hF => ?_) (fun h70 hF => ?_)
    ·
     refine seq_c (s_leq rfl rfl (fun _ => ?_) (fun h => absurd (a := y388.2 ≤ 0) h70 h))
     refine pu (.bool true) (by kernel_rfl) (seq_nil (wp_condT rfl (wp_seq (rgn (by kernel_rfl) (pu (iv 0) (by kernel_rfl) (pu (iv 0) (by kernel_rfl) (seq_nil (wp_ret ?_))))))))
     replace hF := Option.some.inj hF; subst hF
     exact ⟨.tuple #[iv 0, iv 0], Ret.r2 rfl rfl rfl, ⟨rfl, hI.below⟩⟩
    ·
     refine seq_c (s_leq rfl rfl (fun h => absurd (a := y388.2 ≤ 0) h h70) (fun _ => ?_))
     refine pu (.bool false) (by kernel_rfl) (seq_nil (wp_condF rfl (wp_skip (wp_seq (rgn (by kernel_rfl) (pu (iv 2) (by kernel_rfl) (pu (iv 0) (by kernel_rfl) (seq_nil (wp_ret ?_)))))))))
     replace hF := Option.some.inj hF; subst hF
     exact ⟨.tuple #[iv 2, iv 0], Ret.r2 rfl rfl rfl, ⟨rfl, hI.below⟩⟩


theorem L100 (w0 : World) (p0 : Int) (r : Bool) (hF : F100 p0 = some r) : Does Try.prog 100 [.int .i64 p0] w0 fun v w => v = .bool r ∧ Below w0.heap.size w0 w := by
 refine calls_of (n := 6) Try.func100 rfl Try.ntmps100 rfl ?_
 have hI := Inv.start w0
 unfold F100 at hF
 refine wp_seq (rgn (by kernel_rfl) (pu (.bool false) (by kernel_rfl) (seq_nil (wp_seq (rgn (by kernel_rfl) (pu (iv p0) (by kernel_rfl) (pu (iv p0) (by kernel_rfl) (seq_c (s_neq rfl rfl (fun h => absurd (a := p0 = p0) rfl h) (fun _ => ?_))))))))))
 refine pu (.bool false) (by kernel_rfl) (seq_nil (wp_ret ?_))
 replace hF := Option.some.inj hF; subst hF
 exact ⟨.bool false, Ret.r1 rfl rfl, ⟨rfl, hI.below⟩⟩


theorem L93 (w0 : World) (p0 : Int) (p1 : Int) (r : Int) (hF : F93 p0 p1 = some r) : Does Try.prog 93 [.int .i64 p0, .int .i64 p1] w0 fun v w => v = .int .i64 r ∧ Below w0.heap.size w0 w := by
 refine calls_of (n := 20) Try.func93 rfl Try.ntmps93 rfl ?_
 have hI := Inv.start w0
 unfold F93 at hF
 refine wp_seq (rgn (by kernel_rfl) (pu (iv 0) (by kernel_rfl) (seq_nil (wp_cutO (fun ρ w => ∃ (xNaN_13 : Bool), Agree ρ [(0, iv p0), (1, iv p1), (5, .bool xNaN_13)] ∧ Inv [] w0 w [] ∧ F93j1 p0 p1 xNaN_13 = some r) ?_ ?_))))
 ·
  refine rgn (by kernel_rfl) (pu (iv p0) (by kernel_rfl) (bindE hF (fun y19 hy20 hF => ?_)))
  refine ifE hF (fun h24 hF => ?_) (fun h24 hF => ?_)
  ·
   refine seq_c (s_callv hI 100 [iv p0] (.bool true) (by kernel_rfl) (Does.mono (L100 _ p0 _ hy20) (fun v' w' h => ⟨h.1.trans (congrArg Value.bool h24), h.2⟩)) ?_)
   intro w hI
   refine pu (.bool true) (by kernel_rfl) (seq_nil ?_)
   exact .inl ⟨rfl, ⟨true, ⟨rfl, rfl, rfl, trivial⟩, hI.pickL [] (by decide) rfl, hF⟩⟩
  ·
   refine seq_c (s_callv hI 100 [iv p0] (.bool false) (by kernel_rfl) (Does.mono (L100 _ p0 _ hy20) (fun v' w' h => ⟨h.1.trans (congrArg Value.bool (Bool.eq_false_iff.2 h24)), h.2⟩)) ?_)
   intro w hI
   refine pu (.bool false) (by kernel_rfl) (seq_nil ?_)
   exact .inl ⟨rfl, ⟨false, ⟨rfl, rfl, rfl, trivial⟩, hI.pickL [] (by decide) rfl, hF⟩⟩
 ·intro ρ w hJ
  obtain ⟨xNaN_13, hag, hI, hF⟩ := hJ
  obtain ⟨ρ, rfl⟩ := hag.form; clear hag
  unfold F93j1 at hF
  refine wp_cutO (fun ρ w => ∃ (yNaN_16 : Bool), Agree ρ [(0, iv p0), (1, iv p1), (5, .bool xNaN_13), (6, .bool yNaN_16)] ∧ Inv [] w0 w [] ∧ F93j2 p0 p1 xNaN_13 yNaN_16 = some r) ?_ ?_
  ·
   refine rgn (by kernel_rfl) (pu (iv p1) (by kernel_rfl) (bindE hF (fun y17 hy18 hF => ?_)))
   refine ifE hF (fun h23 hF => ?_) (fun h23 hF => ?_)
   ·
    refine seq_c (s_callv hI 100 [iv p1] (.bool true) (by kernel_rfl) (Does.mono (L100 _ p1 _ hy18) (fun v' w' h => ⟨h.1.trans (congrArg Value.bool h23), h.2⟩)) ?_)
    intro w hI
    refine pu (.bool true) (by kernel_rfl) (seq_nil ?_)
    exact .inl ⟨rfl, ⟨true, ⟨rfl, rfl, rfl, rfl, trivial⟩, hI.pickL [] (by decide) rfl, hF⟩⟩
   ·
    refine seq_c (s_callv hI 100 [iv p1] (.bool false) (by kernel_rfl) (Does.mono (L100 _ p1 _ hy18) (fun v' w' h => ⟨h.1.trans (congrArg Value.bool (Bool.eq_false_iff.2 h23)), h.2⟩)) ?_)
    intro w hI
    refine pu (.bool false) (by kernel_rfl) (seq_nil ?_)
    exact .inl ⟨rfl, ⟨false, ⟨rfl, rfl, rfl, rfl, trivial⟩, hI.pickL [] (by decide) rfl, hF⟩⟩
  ·intro ρ w hJ
   obtain ⟨yNaN_16, hag, hI, hF⟩ := hJ
   obtain ⟨ρ, rfl⟩ := hag.form; clear hag
   unfold F93j2 at hF
   refine wp_seq (wp_seq ?_)
   have hG := hF; rcases Bool.eq_false_or_eq_true xNaN_13 with rfl | rfl
   ·
    have hF := hG; clear hG
    refine ifE hF (fun _ hF => ?_) (fun h => absurd rfl h)
    refine rgn (by kernel_rfl) (pu (.bool true) (by kernel_rfl) (seq_nil (wp_condT rfl (wp_seq (wp_seq ?_)))))
    have hG := hF; rcases Bool.eq_false_or_eq_true yNaN_16 with rfl | rfl
    ·
     have hF := hG; clear hG
     refine ifE hF (fun _ hF => ?_) (fun h => absurd rfl h)
     refine rgn (by kernel_rfl) (pu (.bool true) (by kernel_rfl) (seq_nil (wp_condT rfl (wp_seq (rgn (by kernel_rfl) (pu (iv 0) (by kernel_rfl) (seq_nil (wp_ret ?_))))))))
     replace hF := Option.some.inj hF; subst hF
     exact ⟨iv 0, Ret.r1 rfl rfl, ⟨rfl, hI.below⟩⟩
    ·
     have hF := hG; clear hG
     refine ifE hF (fun h => absurd h (by decide)) (fun _ hF => ?_)
     refine rgn (by kernel_rfl) (pu (.bool false) (by kernel_rfl) (seq_nil (wp_condF rfl (wp_skip (wp_seq (rgn (by kernel_rfl) (pu (iv (-1)) (by kernel_rfl) (seq_nil (wp_ret ?_)))))))))
     replace hF := Option.some.inj hF; subst hF
     exact ⟨iv (-1), Ret.r1 rfl rfl, ⟨rfl, hI.below⟩⟩
   ·
    have hF := hG; clear hG
    refine ifE hF (fun h => absurd h (by decide)) (fun _ hF => ?_)
    refine rgn (by kernel_rfl) (pu (.bool false) (by kernel_rfl) (seq_nil (wp_condF rfl (wp_skip (wp_seq (wp_seq ?_))))))
    have hG := hF; rcases Bool.eq_false_or_eq_true yNaN_16 with rfl | rfl
    ·
     have hF := hG; clear hG
     refine ifE hF (fun _ hF => ?_) (fun h => absurd rfl h)
     refine rgn (by kernel_rfl) (pu (.bool true) (by kernel_rfl) (seq_nil (wp_condT rfl (wp_seq (rgn (by kernel_rfl) (pu (iv 1) (by kernel_rfl) (seq_nil (wp_ret ?_))))))))
     replace hF := Option.some.inj hF; subst hF
     exact ⟨iv 1, Ret.r1 rfl rfl, ⟨rfl, hI.below⟩⟩
    ·
     have hF := hG; clear hG
     refine ifE hF (fun h => absurd h (by decide)) (fun _ hF => ?_)
     refine rgn (by kernel_rfl) (pu (.bool false) (by kernel_rfl) (seq_nil (wp_condF rfl (wp_skip (wp_seq (wp_seq (rgn (by kernel_rfl) (pu (iv p0) (by kernel_rfl) (pu (iv p1) (by kernel_rfl) ?_)))))))))
     refine ifE hF (fun h18 hF => ?_) (fun h18 hF => ?_)
     ·
      refine seq_c (s_lss rfl rfl (fun _ => ?_) (fun h => absurd (a := p0 < p1) h18 h))
      refine seq_nil (wp_condT rfl (wp_seq (rgn (by kernel_rfl) (pu (iv (-1)) (by kernel_rfl) (seq_nil (wp_ret ?_))))))
      replace hF := Option.some.inj hF; subst hF
      exact ⟨iv (-1), Ret.r1 rfl rfl, ⟨rfl, hI.below⟩⟩
     ·
      refine seq_c (s_lss rfl rfl (fun h => absurd (a := p0 < p1) h h18) (fun _ => ?_))
      refine seq_nil (wp_condF rfl (wp_skip (wp_seq (wp_seq (rgn (by kernel_rfl) (pu (iv p0) (by kernel_rfl) (pu (iv p1) (by kernel_rfl) (ifE hF (fun h22 hF => ?_) (fun h22 hF => ?_)))))))))
      ·
       refine seq_c (s_gtr rfl rfl (fun _ => ?_) (fun h => absurd (a := p1 < p0) h22 h))
       refine seq_nil (wp_condT rfl (wp_seq (rgn (by kernel_rfl) (pu (iv 1) (by kernel_rfl) (seq_nil (wp_ret ?_))))))
       replace hF := Option.some.inj hF; subst hF
       exact ⟨iv 1, Ret.r1 rfl rfl, ⟨rfl, hI.below⟩⟩
      ·
       refine seq_c (s_gtr rfl rfl (fun h => absurd (a := p1 < p0) h h22) (fun _ => ?_))
       refine seq_nil (wp_condF rfl (wp_skip (wp_seq (rgn (by kernel_rfl) (pu (iv 0) (by kernel_rfl) (seq_nil (wp_ret ?_)))))))
       replace hF := Option.some.inj hF; subst hF
       exact ⟨iv 0, Ret.r1 rfl rfl, ⟨rfl, hI.below⟩⟩


theorem L79 (w0 : World) (p0 : Gn) (p1 : Gn) (r : Int) (hF : F79 p0 p1 = some r) : Does Try.prog 79 [.agg #[.int .i64 p0.num, .int .i64 p0.den], .agg #[.int .i64 p1.num, .int .i64 p1.den]] w0 fun v w => v = .int .i64 r ∧ Below w0.heap.size w0 w := by
 refine calls_of (n := 16) Try.func79 rfl Try.ntmps79 rfl ?_
 have hI := Inv.start w0
 unfold F79 at hF
 refine wp_seq (rgn (by kernel_rfl) (seq_c (s_boxI hI [iv p0.num, iv p0.den] rfl ?_)))
 intro b7 w hI
 refine seq_c (s_boxI hI [iv p1.num, iv p1.den] rfl ?_)
 intro b8 w hI
 refine pu (iv 0) (by kernel_rfl) (seq_nil (wp_seq (rgn (by kernel_rfl) (pu (.pointer (some ⟨b7, 0, none⟩)) (by kernel_rfl) (seq_c (s_load1 hI 1 (iv p0.num) Try.isAgg3 rfl rfl rfl ?_))))))
 refine pu (.pointer (some ⟨b8, 1, none⟩)) (by kernel_rfl) (seq_c (s_load1 hI 0 (iv p1.den) Try.isAgg3 rfl rfl rfl ?_))
 refine ckE hF (fun h7 hF => ?_)
 refine seq_c (s_mul rfl rfl h7 ?_)
 refine pu (.pointer (some ⟨b8, 0, none⟩)) (by kernel_rfl) (seq_c (s_load1 hI 0 (iv p1.num) Try.isAgg3 rfl rfl rfl ?_))
 refine pu (.pointer (some ⟨b7, 1, none⟩)) (by kernel_rfl) (seq_c (s_load1 hI 1 (iv p0.den) Try.isAgg3 rfl rfl rfl ?_))
 refine ckE hF (fun h8 hF => ?_)
 refine seq_c (s_mul rfl rfl h8 ?_)
 refine bindE hF (fun y11 hy12 hF => ?_)
 refine seq_c (s_callv hI 93 [iv (p0.num * p1.den), iv (p1.num * p0.den)] (iv y11) (by kernel_rfl) (L93 _ (p0.num * p1.den) (p1.num * p0.den) _ hy12) ?_)
 intro w hI
 refine pu (iv y11) (by kernel_rfl) (seq_nil (wp_ret ?_))
 replace hF := Option.some.inj hF; subst hF
 exact ⟨iv y11, Ret.r1 rfl rfl, ⟨rfl, hI.below⟩⟩


theorem L76 (w0 : World) (Ap0_0 : Option Addr) (cp0_0 : Nat) (lp0_0 : List Ch) (Ap0_1 : Option Addr) (cp0_1 : Nat) (lp0_1 : List Ce) (bp0_2 : Nat) (esp0_2 : List En) (ckp0_2 : Nat) (Mp0_2 : Int → Option Int) (p1 : Dr) (hCp0_0 : Cells w0 Ap0_0 (flat eCh lp0_0)) (hMp0_0 : lp0_0.length ≤ 9223372036854775807) (hKp0_0 : lp0_0.length ≤ cp0_0) (hCp0_1 : Cells w0 Ap0_1 (flat eCe lp0_1)) (hMp0_1 : lp0_1.length ≤ 9223372036854775807) (hKp0_1 : lp0_1.length ≤ cp0_1) (hbp0_2 : w0.heap[bp0_2]? = some (mobj esp0_2 ckp0_2)) (hop0_2 : MOk esp0_2 ckp0_2) (hMp0_2 : ∀ j, mget esp0_2 j = (Mp0_2 j).map (Value.int .i64)) (N : Nat) (r : Int) (hF : F76 N lp0_0 lp0_1 Mp0_2 p1 = some r) : Does Try.prog 76 [.agg #[.slice Ap0_0 lp0_0.length cp0_0, .slice Ap0_1 lp0_1.length cp0_1, .map (some bp0_2)], .agg #[.int .i64 p1.fr, .int .i64 p1.to]] w0 fun v w => v = .int .i64 r ∧ Below w0.heap.size w0 w := by
 refine calls_of (n := 35) Try.func76 rfl Try.ntmps76 rfl ?_
 have hI := Inv.start w0
 unfold F76 at hF
 refine wp_seq (rgn (by kernel_rfl) (seq_c (s_boxI hI [.slice Ap0_0 lp0_0.length cp0_0, .slice Ap0_1 lp0_1.length cp0_1, .map (some bp0_2)] rfl ?_)))
 intro b180 w hI
 refine seq_c (s_boxI hI [iv p1.fr, iv p1.to] rfl ?_)
 intro b181 w hI
 refine pu (iv 0) (by kernel_rfl) (seq_nil (wp_seq (rgn (by kernel_rfl) (pu (.slice none 0 0) (by kernel_rfl) (seq_nil (wp_cutO (fun ρ w => ∃ (g267 : Option Nat) (c268 : Nat) (cl269 : List Value) (worths_266 : List Int), Agree ρ [(5, slv g267 worths_266.length c268)] ∧ Inv [] w0 w [(g267, blk cl269 3)] ∧ (Row 1 g267 (worths_266.length) c268 cl269 (flat eInt worths_266)) ∧ F76j1 N worths_266 = some r) ?_ ?_))))))
 ·
  refine wp_seq (rgn (by kernel_rfl) (pu (.pointer (some ⟨b181, 0, none⟩)) (by kernel_rfl) (seq_c (s_load1 hI 0 (iv p1.fr) Try.isAgg3 rfl rfl rfl ?_))))
  refine pu (iv p1.fr) (by kernel_rfl) (seq_nil (wp_block ?_))
  have hI := hI.nilRow 3
  refine wp_loop (fun m ρ w => ∃ (g330 : Option Nat) (c331 : Nat) (cl332 : List Value) (worths_329 : List Int) (i_334 : Int) (mm : Nat), Agree ρ [(2, .pointer (some ⟨b180, 0, none⟩)), (3, .pointer (some ⟨b181, 0, none⟩)), (5, slv g330 worths_329.length c331), (6, iv i_334)] ∧ Inv [] w0 w [(some b180, blk [.slice Ap0_0 lp0_0.length cp0_0, .slice Ap0_1 lp0_1.length cp0_1, .map (some bp0_2)] 115), (some b181, blk [iv p1.fr, iv p1.to] 49), (g330, blk cl332 3)] ∧ (Row 1 g330 (worths_329.length) c331 cl332 (flat eInt worths_329)) ∧ F76l2 lp0_1 p1 N mm worths_329 i_334 = some r ∧ mm = m) (m := N) ⟨none, 0, [], [], p1.fr, N, ⟨rfl, rfl, rfl, rfl, trivial⟩, hI.pickL [2, 1, 0] (by decide) rfl, (Row.nil_ 1), hF, rfl⟩ ?_
  rintro m ρ w ⟨g330, c331, cl332, worths_329, i_334, mm, hag, hI, r333, hF, hm⟩
  subst hm; obtain ⟨ρ, rfl⟩ := hag.form; clear hag
  obtain _ | m2 := mm
  ·cases (show (none : Option Int) = some r from hF)
  replace hF : F76b2 lp0_1 p1 N (F76l2 lp0_1 p1 N m2) worths_329 i_334 = some r := hF; unfold F76b2 at hF
  refine wp_seq (wp_cutO (fun ρ w => Agree ρ [(2, .pointer (some ⟨b180, 0, none⟩)), (3, .pointer (some ⟨b181, 0, none⟩)), (5, slv g330 worths_329.length c331), (6, iv i_334), (20, .bool false)] ∧ Inv [] w0 w [(some b180, blk [.slice Ap0_0 lp0_0.length cp0_0, .slice Ap0_1 lp0_1.length cp0_1, .map (some bp0_2)] 115), (some b181, blk [iv p1.fr, iv p1.to] 49), (g330, blk cl332 3)] ∧ F76j3 N worths_329 = some r) ?_ ?_)
  ·
   refine rgn (by kernel_rfl) (pu (iv i_334) (by kernel_rfl) (pu (.pointer (some ⟨b181, 1, none⟩)) (by kernel_rfl) (seq_c (s_load1 hI 1 (iv p1.to) Try.isAgg3 rfl rfl rfl ?_))))
   refine ifE hF (fun h150 hF => ?_) (fun h150 hF => ?_)
   ·
    refine seq_c (s_leq rfl rfl (fun _ => ?_) (fun h => absurd (a := i_334 ≤ p1.to) h150 h))
    refine pu (.bool true) (by kernel_rfl) (puo (iv i_334) ⟨(by kernel_rfl), (by kernel_rfl)⟩ (puo (.pointer (some ⟨b180, 0, none⟩)) ⟨(by kernel_rfl), (by kernel_rfl)⟩ (puo (.pointer (some ⟨b180, 1, none⟩)) ⟨(by kernel_rfl), (by kernel_rfl)⟩ (seq_on (by kernel_rfl) (s_load1 hI 0 (.slice Ap0_1 lp0_1.length cp0_1) Try.isAgg23 rfl rfl rfl ?_)))))
    refine puo (iv ((lp0_1.length : Nat) : Int)) ⟨(by kernel_rfl), (by kernel_rfl)⟩ (ifE hF (fun h151 hF => ?_) (fun h151 hF => ?_))
    ·
     refine seq_on (by kernel_rfl) (s_lss rfl rfl (fun _ => ?_) (fun h => absurd (a := i_334 < (lp0_1.length : Int)) h151 h))
     refine pu (.bool true) (by kernel_rfl) (seq_nil (.inr ?_))
     refine wp_condT rfl (wp_skip (wp_seq (wp_block ?_)))
     refine rgn (by kernel_rfl) (pu (slv g330 worths_329.length c331) (by kernel_rfl) (pu (.pointer (some ⟨b180, 0, none⟩)) (by kernel_rfl) (pu (.pointer (some ⟨b180, 1, none⟩)) (by kernel_rfl) (seq_c (s_load1 hI 0 (.slice Ap0_1 lp0_1.length cp0_1) Try.isAgg23 rfl rfl rfl ?_)))))
     refine pu (iv i_334) (by kernel_rfl) (gdE hF (fun h154 hF => ?_))
     refine bindE hF (fun x347 hx348 hF => ?_)
     obtain ⟨b349, o350, hA351, hb352, he353⟩ := hCp0_1.at_ eCe_len (by decide) hx348
     refine seq_c (s_indexA (i_334).toNat Try.underlying23 Try.sizeOf32 rfl hA351 rfl (Int.toNat_of_nonneg h154).symm (lt_n hx348 rfl) ?_)
     refine pu (.pointer (some ⟨b349, o350 + (i_334).toNat * 3 + 2, none⟩)) (by kernel_rfl) (seq_c (s_loadB1 hI (iv x347.wo) Try.isAgg3 rfl hb352 (by simp) (he353 2 _ rfl) ?_))
     refine seq_c (s_new hI [iv x347.wo] 3 (fun b => slv (some b) 1 1) (by kernel_rfl) ?_)
     intro b354 w hI
     refine gdE hF (fun h155 hF => ?_)
     refine seq_c (s_appN hI Try.underlying52 (z := iv 0) (k := 1) (bytes := 8) (by kernel_rfl) rfl rfl 3 rfl rfl r333 [iv x347.wo] rfl rfl (hI.cells 0 (off := 0) rfl (fun j u h => by rw [Nat.zero_add]; exact h)) (by simp [Value.oneCell']) (by omega) (by omega) (n2 := (worths_329 ++ [x347.wo]).length) (app_len rfl rfl) ?_)
     intro g355 c356 cl357 w hI r358
     have r358 : Row 1 g355 ((worths_329 ++ [x347.wo]).length) c356 cl357 (flat eInt (worths_329 ++ [x347.wo])) := r358.snoc _ rfl
     refine pu (slv g355 ((worths_329 ++ [x347.wo]).length) c356) (by kernel_rfl) (seq_nil (rgn (by kernel_rfl) (pu (iv i_334) (by kernel_rfl) (ckE hF (fun h156 hF => ?_)))))
     refine seq_c (s_add rfl rfl h156 ?_)
     refine pu (iv (i_334 + 1)) (by kernel_rfl) (seq_nil ?_)
     exact ⟨rfl, m2, Nat.lt_succ_self _, ⟨g355, c356, cl357, worths_329 ++ [x347.wo], i_334 + 1, m2, ⟨rfl, rfl, rfl, rfl, trivial⟩, hI.pickL [1, 2, 3] (by decide) rfl, (r358.to rfl rfl), hF, rfl⟩⟩
    ·
     refine seq_on (by kernel_rfl) (s_lss rfl rfl (fun h => absurd (a := i_334 < (lp0_1.length : Int)) h h151) (fun _ => ?_))
     refine pu (.bool false) (by kernel_rfl) (seq_nil ?_)
     exact .inl ⟨rfl, ⟨⟨rfl, rfl, rfl, rfl, rfl, trivial⟩, hI.pickL [0, 1, 2] (by decide) rfl, hF⟩⟩
   ·
    refine seq_c (s_leq rfl rfl (fun h => absurd (a := i_334 ≤ p1.to) h h150) (fun _ => ?_))
    refine pu (.bool false) (by kernel_rfl) (of_ (by kernel_rfl) (of_ (by kernel_rfl) (of_ (by kernel_rfl) (of_ (by kernel_rfl) (of_ (by kernel_rfl) (of_ (by kernel_rfl) (pu (.bool false) (by kernel_rfl) (seq_nil ?_))))))))
    exact .inl ⟨rfl, ⟨⟨rfl, rfl, rfl, rfl, rfl, trivial⟩, hI.pickL [0, 1, 2] (by decide) rfl, hF⟩⟩
  ·intro ρ w hJ
   obtain ⟨hag, hI, hF⟩ := hJ
   obtain ⟨ρ, rfl⟩ := hag.form; clear hag
   unfold F76j3 at hF
   refine wp_condF rfl (wp_exit ?_)
   exact .inl ⟨rfl, ⟨g330, c331, cl332, worths_329, ⟨rfl, trivial⟩, hI.pickL [2] (by decide) rfl, (r333.to rfl rfl), hF⟩⟩
 ·intro ρ w hJ
  obtain ⟨g267, c268, cl269, worths_266, hag, hI, r270, hF⟩ := hJ
  obtain ⟨ρ, rfl⟩ := hag.form; clear hag
  unfold F76j1 at hF
  refine wp_seq (rgn (by kernel_rfl) (pu (slv g267 worths_266.length c268) (by kernel_rfl) (bindE hF (fun y273 hy274 hF => ?_))))
  refine seq_c (s_callv hI 74 [slv g267 worths_266.length c268] (iv y273) (by kernel_rfl) (L74 _ (g267.map fun b => ⟨b, 0, none⟩) c268 worths_266 (hI.rowCells 0 rfl r270) (len_le rfl r270.big) (len_le rfl r270.cap) N _ hy274) ?_)
  intro w hI
  refine pu (iv y273) (by kernel_rfl) (seq_nil (wp_ret ?_))
  replace hF := Option.some.inj hF; subst hF
  exact ⟨iv y273, Ret.r1 rfl rfl, ⟨rfl, hI.below⟩⟩


theorem L105 (w0 : World) (p0 : Int) (p1 : Int) (N : Nat) (r : Int) (hF : F105 N p0 p1 = some r) : Does Try.prog 105 [.int .i64 p0, .int .i64 p1] w0 fun v w => v = .int .i64 r ∧ Below w0.heap.size w0 w := by
 refine calls_of (n := 12) Try.func105 rfl Try.ntmps105 rfl ?_
 have hI := Inv.start w0
 unfold F105 at hF
 refine wp_seq (rgn (by kernel_rfl) (pu (iv 0) (by kernel_rfl) (seq_nil (wp_seq (wp_block ?_)))))
 refine wp_loop (fun m ρ w => ∃ (a_17 : Int) (b_18 : Int) (mm : Nat), Agree ρ [(0, iv a_17), (1, iv b_18)] ∧ Inv [] w0 w [] ∧ F105l1 mm a_17 b_18 = some r ∧ mm = m) (m := N) ⟨p0, p1, N, ⟨rfl, rfl, trivial⟩, hI.pickL [] (by decide) rfl, hF, rfl⟩ ?_
 rintro m ρ w ⟨a_17, b_18, mm, hag, hI, hF, hm⟩
 subst hm; obtain ⟨ρ, rfl⟩ := hag.form; clear hag
 obtain _ | m1 := mm
 ·cases (show (none : Option Int) = some r from hF)
 replace hF : F105b1 (F105l1 m1) a_17 b_18 = some r := hF; unfold F105b1 at hF
 refine wp_seq (wp_seq (rgn (by kernel_rfl) (pu (iv b_18) (by kernel_rfl) (ifE hF (fun h59 hF => ?_) (fun h59 hF => ?_)))))
 ·
  refine seq_c (s_neq rfl rfl (fun h => absurd (a := b_18 = 0) h59 h) (fun _ => ?_))
  refine seq_nil (wp_condF rfl (wp_exit ?_))
  refine wp_seq (rgn (by kernel_rfl) (pu (iv a_17) (by kernel_rfl) (pu (iv a_17) (by kernel_rfl) (seq_nil (wp_ret ?_)))))
  replace hF := Option.some.inj hF; subst hF
  exact ⟨iv a_17, Ret.r1 rfl rfl, ⟨rfl, hI.below⟩⟩
 ·
  refine seq_c (s_neq rfl rfl (fun _ => ?_) (fun h => absurd (a := b_18 = 0) h h59))
  refine seq_nil (wp_condT rfl (wp_skip (wp_block ?_)))
  refine gdE hF (fun h60 hF => ?_)
  refine wp_drawn2 hI [] (by decide) rfl (by kernel_rfl) (by kernel_rfl) ?_
  intro hsub
  refine alp 0 (iv b_18) hsub rfl (by kernel_rfl) (fun _ => (by kernel_rfl)) ?_
  refine alp 1 (iv a_17) hsub rfl (by kernel_rfl) (fun _ => (by kernel_rfl)) ?_
  refine alp 2 (iv b_18) hsub rfl (by kernel_rfl) (fun _ => (by kernel_rfl)) ?_
  refine al_light 3 (iv (a_17.tmod b_18)) hsub rfl (by kernel_rfl) (fun w hI => s_rem rfl rfl h60 ⟨rfl, Below.refl _ _⟩) ?_
  refine alp 4 (iv b_18) hsub rfl (by kernel_rfl) (fun _ => (by kernel_rfl)) ?_
  refine alp 5 (iv (a_17.tmod b_18)) hsub rfl (by kernel_rfl) (fun _ => (by kernel_rfl)) ?_
  refine any_end (by kernel_rfl) (fun w hI => ?_)
  exact ⟨rfl, m1, Nat.lt_succ_self _, ⟨b_18, a_17.tmod b_18, m1, ⟨rfl, rfl, trivial⟩, hI.pickL [] (by decide) rfl, hF, rfl⟩⟩


theorem L101 (w0 : World) (p0 : Int) (p1 : Int) (N : Nat) (r : (Int × Int)) (hF : F101 N p0 p1 = some r) : Does Try.prog 101 [.int .i64 p0, .int .i64 p1] w0 fun v w => v = .agg #[.int .i64 r.1, .int .i64 r.2] ∧ Below w0.heap.size w0 w := by
 refine calls_of (n := 16) Try.func101 rfl Try.ntmps101 rfl ?_
 have hI := Inv.start w0
 unfold F101 at hF
 refine wp_seq (rgn (by kernel_rfl) (seq_c (s_allocI hI [iv 0, iv 0] Try.zeroValue136 rfl ?_)))
 intro b6 w hI
 refine seq_nil (wp_seq (rgn (by kernel_rfl) (pu (iv p0) (by kernel_rfl) (pu (iv p1) (by kernel_rfl) (bindE hF (fun y9 hy10 hF => ?_))))))
 refine seq_c (s_callv hI 105 [iv p0, iv p1] (iv y9) (by kernel_rfl) (L105 _ p0 p1 N _ hy10) ?_)
 intro w hI
 refine pu (iv y9) (by kernel_rfl) (seq_nil (wp_seq (gdE hF (fun h10 hF => ?_))))
 refine ckE hF (fun h11 hF => ?_)
 refine ckE hF (fun h12 hF => ?_)
 replace hI := hI.pickL [0] (by decide) rfl
 refine wp_drawn2 hI [] (by decide) rfl (by kernel_rfl) (by kernel_rfl) ?_
 intro hsub
 refine alp 0 (iv p0) hsub rfl (by kernel_rfl) (fun _ => (by kernel_rfl)) ?_
 refine alp 1 (iv y9) hsub rfl (by kernel_rfl) (fun _ => (by kernel_rfl)) ?_
 refine al_light 2 (iv (p0.tdiv y9)) hsub rfl (by kernel_rfl) (fun w hI => s_quo rfl rfl h10 h11 ⟨rfl, Below.refl _ _⟩) ?_
 refine alp 3 (iv p1) hsub rfl (by kernel_rfl) (fun _ => (by kernel_rfl)) ?_
 refine alp 4 (iv y9) hsub rfl (by kernel_rfl) (fun _ => (by kernel_rfl)) ?_
 refine al_light 5 (iv (p1.tdiv y9)) hsub rfl (by kernel_rfl) (fun w hI => s_quo rfl rfl h10 h12 ⟨rfl, Below.refl _ _⟩) ?_
 refine alp 6 (.agg #[iv (p0.tdiv y9), iv (p1.tdiv y9)]) hsub rfl (by kernel_rfl) (fun _ => (by kernel_rfl)) ?_
 refine any_heavy [7] (by kernel_rfl) rfl (each1 ?_)
 intro w hI
 refine ol_c rfl (s_store hI 0 2 [iv (p0.tdiv y9), iv (p1.tdiv y9)] Try.sizeOf136 rfl rfl rfl rfl rfl (Nat.le_of_ble_eq_true rfl) ?_)
 intro w hI
 refine ⟨_, hI, subk (fun _ h => h.pickL [] (by decide) rfl) ?_⟩
 intro hsub
 refine any_end (by kernel_rfl) (fun w hI => ?_)
 refine wp_ret ?_
 replace hF := Option.some.inj hF; subst hF
 exact ⟨.agg #[iv (p0.tdiv y9), iv (p1.tdiv y9)], Ret.c rfl rfl (run_loadK hI 0 2 [iv (p0.tdiv y9), iv (p1.tdiv y9)] Try.isAgg136 Try.sizeOf136 rfl rfl rfl), ⟨rfl, hI.below⟩⟩


theorem L94 (w0 : World) (Ap0_0 : Option Addr) (cp0_0 : Nat) (lp0_0 : List Ch) (Ap0_1 : Option Addr) (cp0_1 : Nat) (lp0_1 : List Ce) (bp0_2 : Nat) (esp0_2 : List En) (ckp0_2 : Nat) (Mp0_2 : Int → Option Int) (p1 : Cl) (p2 : Dr) (hCp0_0 : Cells w0 Ap0_0 (flat eCh lp0_0)) (hMp0_0 : lp0_0.length ≤ 9223372036854775807) (hKp0_0 : lp0_0.length ≤ cp0_0) (hCp0_1 : Cells w0 Ap0_1 (flat eCe lp0_1)) (hMp0_1 : lp0_1.length ≤ 9223372036854775807) (hKp0_1 : lp0_1.length ≤ cp0_1) (hbp0_2 : w0.heap[bp0_2]? = some (mobj esp0_2 ckp0_2)) (hop0_2 : MOk esp0_2 ckp0_2) (hMp0_2 : ∀ j, mget esp0_2 j = (Mp0_2 j).map (Value.int .i64)) (N : Nat) (r : (Int × Int)) (hF : F94 N lp0_0 lp0_1 Mp0_2 p1 p2 = some r) : Does Try.prog 94 [.agg #[.slice Ap0_0 lp0_0.length cp0_0, .slice Ap0_1 lp0_1.length cp0_1, .map (some bp0_2)], .agg #[.int .i64 p1.fam, .int .i64 p1.hd, .int .i64 p1.fr, .int .i64 p1.to], .agg #[.int .i64 p2.fr, .int .i64 p2.to]] w0 fun v w => v = .agg #[.int .i64 r.1, .int .i64 r.2] ∧ Below w0.heap.size w0 w := by
 refine calls_of (n := 13) Try.func94 rfl Try.ntmps94 rfl ?_
 have hI := Inv.start w0
 unfold F94 at hF
 refine wp_seq (rgn (by kernel_rfl) (seq_c (s_boxI hI [.slice Ap0_0 lp0_0.length cp0_0, .slice Ap0_1 lp0_1.length cp0_1, .map (some bp0_2)] rfl ?_)))
 intro b13 w hI
 refine seq_c (s_boxI hI [iv p1.fam, iv p1.hd, iv p1.fr, iv p1.to] rfl ?_)
 intro b14 w hI
 refine seq_c (s_boxI hI [iv p2.fr, iv p2.to] rfl ?_)
 intro b15 w hI
 refine seq_c (s_allocI hI [iv 0, iv 0] Try.zeroValue136 rfl ?_)
 intro b16 w hI
 refine seq_nil (wp_seq (bindE hF (fun y21 hy22 hF => ?_)))
 refine bindE hF (fun y23 hy24 hF => ?_)
 replace hI := hI.pickL [1, 2, 3, 0] (by decide) rfl
 refine wp_drawn2 hI [0, 1, 2] (by decide) rfl (by kernel_rfl) (by kernel_rfl) ?_
 intro hsub
 refine al_light 0 (.agg #[.slice Ap0_0 lp0_0.length cp0_0, .slice Ap0_1 lp0_1.length cp0_1, .map (some bp0_2)]) hsub rfl (by kernel_rfl) (fun w hI => s_loadK hI 2 3 [.slice Ap0_0 lp0_0.length cp0_0, .slice Ap0_1 lp0_1.length cp0_1, .map (some bp0_2)] Try.isAgg115 Try.sizeOf115 rfl rfl rfl rfl ⟨rfl, Below.refl _ _⟩) ?_
 refine al_light 1 (.agg #[iv p2.fr, iv p2.to]) hsub rfl (by kernel_rfl) (fun w hI => s_loadK hI 0 2 [iv p2.fr, iv p2.to] Try.isAgg49 Try.sizeOf49 rfl rfl rfl rfl ⟨rfl, Below.refl _ _⟩) ?_
 refine al_light 2 (iv y21) hsub rfl (by kernel_rfl) (fun w hI => s_call 76 [.agg #[.slice Ap0_0 lp0_0.length cp0_0, .slice Ap0_1 lp0_1.length cp0_1, .map (some bp0_2)], .agg #[iv p2.fr, iv p2.to]] (by kernel_rfl) (L76 _ Ap0_0 cp0_0 lp0_0 Ap0_1 cp0_1 lp0_1 bp0_2 esp0_2 ckp0_2 Mp0_2 p2 (hCp0_0.inv0 hI) hMp0_0 hKp0_0 (hCp0_1.inv0 hI) hMp0_1 hKp0_1 (hI.at0 (hbp0_2)) hop0_2 hMp0_2 N _ hy22) (fun v' w' h => h)) ?_
 refine alp 3 (.pointer (some ⟨b14, 1, none⟩)) hsub rfl (by kernel_rfl) (fun _ => (by kernel_rfl)) ?_
 refine al_light 4 (iv p1.hd) hsub rfl (by kernel_rfl) (fun w hI => s_load1 hI 1 (iv p1.hd) Try.isAgg3 rfl rfl rfl ⟨rfl, Below.refl _ _⟩) ?_
 refine al_light 5 (.agg #[iv y23.1, iv y23.2]) hsub rfl (by kernel_rfl) (fun w hI => s_call 101 [iv y21, iv p1.hd] (by kernel_rfl) (L101 _ y21 p1.hd N _ hy24) (fun v' w' h => h)) ?_
 refine any_heavy [6] (by kernel_rfl) rfl (each1 ?_)
 intro w hI
 refine ol_c rfl (s_store hI 3 2 [iv y23.1, iv y23.2] Try.sizeOf136 rfl rfl rfl rfl rfl (Nat.le_of_ble_eq_true rfl) ?_)
 intro w hI
 refine ⟨_, hI, subk (fun _ h => h.pickL [0, 1, 2] (by decide) rfl) ?_⟩
 intro hsub
 refine any_end (by kernel_rfl) (fun w hI => ?_)
 refine wp_ret ?_
 replace hF := Option.some.inj hF; subst hF
 exact ⟨.agg #[iv y23.1, iv y23.2], Ret.c rfl rfl (run_loadK hI 3 2 [iv y23.1, iv y23.2] Try.isAgg136 Try.sizeOf136 rfl rfl rfl), ⟨rfl, hI.below⟩⟩


theorem L96 (w0 : World) (Ap0_0 : Option Addr) (cp0_0 : Nat) (lp0_0 : List Ch) (Ap0_1 : Option Addr) (cp0_1 : Nat) (lp0_1 : List Ce) (bp0_2 : Nat) (esp0_2 : List En) (ckp0_2 : Nat) (Mp0_2 : Int → Option Int) (Ap0_3 : Option Addr) (cp0_3 : Nat) (lp0_3 : List Cl) (p1 : Gn) (hCp0_0 : Cells w0 Ap0_0 (flat eCh lp0_0)) (hMp0_0 : lp0_0.length ≤ 9223372036854775807) (hKp0_0 : lp0_0.length ≤ cp0_0) (hCp0_1 : Cells w0 Ap0_1 (flat eCe lp0_1)) (hMp0_1 : lp0_1.length ≤ 9223372036854775807) (hKp0_1 : lp0_1.length ≤ cp0_1) (hbp0_2 : w0.heap[bp0_2]? = some (mobj esp0_2 ckp0_2)) (hop0_2 : MOk esp0_2 ckp0_2) (hMp0_2 : ∀ j, mget esp0_2 j = (Mp0_2 j).map (Value.int .i64)) (hCp0_3 : Cells w0 Ap0_3 (flat eCl lp0_3)) (hMp0_3 : lp0_3.length ≤ 9223372036854775807) (hKp0_3 : lp0_3.length ≤ cp0_3) (N : Nat) (r : (List Dr × List Int × Bool)) (hF : F96 N lp0_0 lp0_1 Mp0_2 lp0_3 p1 = some r) : Does Try.prog 96 [.agg #[.slice Ap0_0 lp0_0.length cp0_0, .slice Ap0_1 lp0_1.length cp0_1, .map (some bp0_2), .slice Ap0_3 lp0_3.length cp0_3], .agg #[.int .i64 p1.num, .int .i64 p1.den]] w0 fun v w => ∃ (z0 : Option Nat) (z1 : Nat) (z2 : List Value) (z3 : Option Nat) (z4 : Nat) (z5 : List Value), v = .agg #[slv z0 r.1.length z1, slv z3 r.2.1.length z4, .bool r.2.2] ∧ Inv [] w0 w [(z0, blk z2 49), (z3, blk z5 3)] ∧ Row 2 z0 r.1.length z1 z2 (flat eDr r.1) ∧ Row 1 z3 r.2.1.length z4 z5 (flat eInt r.2.1) := by
 refine calls_of (n := 32) Try.func96 rfl Try.ntmps96 rfl ?_
 have hI := Inv.start w0
 unfold F96 at hF
 refine wp_seq (rgn (by kernel_rfl) (seq_c (s_boxI hI [.slice Ap0_0 lp0_0.length cp0_0, .slice Ap0_1 lp0_1.length cp0_1, .map (some bp0_2), .slice Ap0_3 lp0_3.length cp0_3] rfl ?_)))
 intro b18211 w hI
 refine seq_c (s_boxI hI [iv p1.num, iv p1.den] rfl ?_)
 intro b18212 w hI
 refine seq_c (s_allocI hI [.slice none 0 0, .slice none 0 0, .bool false] Try.zeroValue164 rfl ?_)
 intro b18213 w hI
 refine seq_nil (wp_seq (rgn (by kernel_rfl) (pu (.pointer (some ⟨b18211, 3, none⟩)) (by kernel_rfl) (seq_c (s_load1 hI 2 (.slice Ap0_3 lp0_3.length cp0_3) Try.isAgg26 rfl rfl rfl ?_)))))
 refine bindE hF (fun x18214 hx18215 hF => ?_)
 obtain ⟨b18216, o18217, hA18218, hb18219, he18220⟩ := hCp0_3.at_ eCl_len (by decide) hx18215
 refine seq_c (s_indexA 0 Try.underlying26 Try.sizeOf34 rfl hA18218 rfl rfl (lt_n hx18215 rfl) ?_)
 refine pu (.pointer (some ⟨b18216, o18217 + 0 * 4 + 2, none⟩)) (by kernel_rfl) (seq_c (s_loadB1 hI (iv x18214.fr) Try.isAgg3 rfl hb18219 (by simp) (he18220 2 _ rfl) ?_))
 refine seq_c (s_new hI [iv x18214.fr] 3 (fun b => slv (some b) 1 1) (by kernel_rfl) ?_)
 intro b18221 w hI
 refine pu (.agg #[.slice none 0 0, .slice (some ⟨b18221, 0, none⟩) 1 1, .bool false]) (by kernel_rfl) (seq_c (s_allocI hI [.slice none 0 0, .slice none 0 0, .bool false] Try.zeroValue164 rfl ?_))
 intro b18222 w hI
 refine seq_c (s_store hI 0 3 [.slice none 0 0, .slice (some ⟨b18221, 0, none⟩) 1 1, .bool false] Try.sizeOf164 rfl rfl rfl rfl rfl (Nat.le_of_ble_eq_true rfl) ?_)
 intro w hI
 refine seq_nil (wp_seq (rgn (by kernel_rfl) (pu (.func (.func 102) #[] #[.pointer (some ⟨b18222, 0, none⟩), .pointer (some ⟨b18211, 0, none⟩), .pointer (some ⟨b18212, 0, none⟩)]) (by kernel_rfl) (pu (.func (.func 102) #[] #[.pointer (some ⟨b18222, 0, none⟩), .pointer (some ⟨b18211, 0, none⟩), .pointer (some ⟨b18212, 0, none⟩)]) (by kernel_rfl) (seq_nil (wp_seq (wp_seq (rgn (by kernel_rfl) (pu (.pointer (some ⟨b18211, 3, none⟩)) (by kernel_rfl) ?_)))))))))
 refine seq_c (s_load1 hI 4 (.slice Ap0_3 lp0_3.length cp0_3) Try.isAgg26 rfl rfl rfl ?_)
 refine pu (iv ((lp0_3.length : Nat) : Int)) (by kernel_rfl) (pu (iv 0) (by kernel_rfl) (seq_nil (wp_block ?_)))
 have r36420 : Row 1 (some b18221) 1 1 [iv x18214.fr] (flat eInt [x18214.fr]) := Row.lit eInt_len (l := [x18214.fr]) rfl (Nat.le_of_ble_eq_true rfl)
 have hI := hI.nilRow 49
 refine wp_loop (fun m ρ w => ∃ (g33384 : Option Nat) (c33385 : Nat) (cl33386 : List Value) (g33389 : Option Nat) (c33390 : Nat) (cl33391 : List Value) (a_33383 : List Dr) (a_33388 : List Int) (v33393 : Int) (mm : Nat), Agree ρ [(4, .pointer (some ⟨b18213, 0, none⟩)), (5, .pointer (some ⟨b18222, 0, none⟩)), (6, .func (.func 102) #[] #[.pointer (some ⟨b18222, 0, none⟩), .pointer (some ⟨b18211, 0, none⟩), .pointer (some ⟨b18212, 0, none⟩)]), (18, .slice Ap0_3 lp0_3.length cp0_3), (19, iv (lp0_3.length : Int)), (20, iv v33393)] ∧ Inv [] w0 w [(some b18213, blk [.slice none 0 0, .slice none 0 0, .bool false] 164), (some b18222, blk [slv g33384 a_33383.length c33385, slv g33389 a_33388.length c33390, .bool false] 164), (g33384, blk cl33386 49), (g33389, blk cl33391 3), (some b18211, blk [.slice Ap0_0 lp0_0.length cp0_0, .slice Ap0_1 lp0_1.length cp0_1, .map (some bp0_2), .slice Ap0_3 lp0_3.length cp0_3] 120), (some b18212, blk [iv p1.num, iv p1.den] 136)] ∧ (Row 2 g33384 (a_33383.length) c33385 cl33386 (flat eDr a_33383)) ∧ (Row 1 g33389 (a_33388.length) c33390 cl33391 (flat eInt a_33388)) ∧ F96l1 lp0_0 lp0_1 Mp0_2 lp0_3 p1 N mm a_33383 a_33388 v33393 = some r ∧ mm = m) (m := N) ⟨none, 0, [], some b18221, 1, [iv x18214.fr], [], [x18214.fr], 0, N, ⟨rfl, rfl, rfl, rfl, rfl, rfl, trivial⟩, hI.pickL [3, 1, 0, 2, 5, 4] (by decide) rfl, (Row.nil_ 2), (r36420.to rfl rfl), hF, rfl⟩ ?_
 rintro m ρ w ⟨g33384, c33385, cl33386, g33389, c33390, cl33391, a_33383, a_33388, v33393, mm, hag, hI, r33387, r33392, hF, hm⟩
 subst hm; obtain ⟨ρ, rfl⟩ := hag.form; clear hag
 obtain _ | m1 := mm
 ·cases (show (none : Option (List Dr × List Int × Bool)) = some r from hF)
 replace hF : F96b1 lp0_0 lp0_1 Mp0_2 lp0_3 p1 N (F96l1 lp0_0 lp0_1 Mp0_2 lp0_3 p1 N m1) a_33383 a_33388 v33393 = some r := hF; unfold F96b1 at hF
 refine wp_seq (rgn (by kernel_rfl) (ifE hF (fun h10517 hF => ?_) (fun h10517 hF => ?_)))
 ·
  refine seq_c (s_lss rfl rfl (fun _ => ?_) (fun h => absurd (a := v33393 < (lp0_3.length : Int)) h10517 h))
  refine seq_nil (wp_seq (wp_condT rfl (wp_skip (wp_seq (wp_block ?_)))))
  refine wp_seq (rgn (by kernel_rfl) (gdE hF (fun h10995 hF => ?_)))
  refine bindE hF (fun x34907 hx34908 hF => ?_)
  obtain ⟨b34909, o34910, hA34911, hb34912, he34913⟩ := hCp0_3.at_ eCl_len (by decide) hx34908
  refine seq_c (s_indexA (v33393).toNat Try.underlying26 Try.sizeOf34 rfl hA34911 rfl (Int.toNat_of_nonneg h10995).symm (lt_n hx34908 rfl) ?_)
  refine seq_c (s_loadBK hI [iv x34907.fam, iv x34907.hd, iv x34907.fr, iv x34907.to] Try.isAgg34 Try.sizeOf34 rfl rfl hb34912 (by simp) he34913 ?_)
  refine seq_c (s_allocI hI [iv 0, iv 0, iv 0, iv 0] Try.zeroValue34 rfl ?_)
  intro b34914 w hI
  refine seq_c (s_store hI 0 4 [iv x34907.fam, iv x34907.hd, iv x34907.fr, iv x34907.to] Try.sizeOf34 rfl rfl rfl rfl rfl (Nat.le_of_ble_eq_true rfl) ?_)
  intro w hI
  refine seq_nil (wp_cutO (fun ρ w => ∃ (g35661 : Option Nat) (c35662 : Nat) (cl35663 : List Value) (g35666 : Option Nat) (c35667 : Nat) (cl35668 : List Value) (a_35660 : List Dr) (a_35665 : List Int), Agree ρ [(4, .pointer (some ⟨b18213, 0, none⟩)), (5, .pointer (some ⟨b18222, 0, none⟩)), (6, .func (.func 102) #[] #[.pointer (some ⟨b18222, 0, none⟩), .pointer (some ⟨b18211, 0, none⟩), .pointer (some ⟨b18212, 0, none⟩)]), (18, .slice Ap0_3 lp0_3.length cp0_3), (19, iv (lp0_3.length : Int)), (20, iv v33393), (27, .bool false)] ∧ Inv [] w0 w [(some b18213, blk [.slice none 0 0, .slice none 0 0, .bool false] 164), (some b18222, blk [slv g35661 a_35660.length c35662, slv g35666 a_35665.length c35667, .bool false] 164), (g35661, blk cl35663 49), (g35666, blk cl35668 3), (some b18211, blk [.slice Ap0_0 lp0_0.length cp0_0, .slice Ap0_1 lp0_1.length cp0_1, .map (some bp0_2), .slice Ap0_3 lp0_3.length cp0_3] 120), (some b18212, blk [iv p1.num, iv p1.den] 136)] ∧ (Row 2 g35661 (a_35660.length) c35662 cl35663 (flat eDr a_35660)) ∧ (Row 1 g35666 (a_35665.length) c35667 cl35668 (flat eInt a_35665)) ∧ F96j2 (F96l1 lp0_0 lp0_1 Mp0_2 lp0_3 p1 N m1) v33393 a_35660 a_35665 = some r) ?_ ?_)
  ·
   refine rgn (by kernel_rfl) (pu (.func (.func 102) #[] #[.pointer (some ⟨b18222, 0, none⟩), .pointer (some ⟨b18211, 0, none⟩), .pointer (some ⟨b18212, 0, none⟩)]) (by kernel_rfl) (seq_c (s_loadK hI 0 4 [iv x34907.fam, iv x34907.hd, iv x34907.fr, iv x34907.to] Try.isAgg34 Try.sizeOf34 rfl rfl rfl rfl ?_)))
   refine seq_c (s_callI 102 [.agg #[iv x34907.fam, iv x34907.hd, iv x34907.fr, iv x34907.to], .pointer (some ⟨b18222, 0, none⟩), .pointer (some ⟨b18211, 0, none⟩), .pointer (some ⟨b18212, 0, none⟩)] (by kernel_rfl) ?_)
   refine calls_of (n := 57) Try.func102 rfl Try.ntmps102 rfl ?_
   refine wp_seq (rgn (by kernel_rfl) (seq_c (s_boxI hI [iv x34907.fam, iv x34907.hd, iv x34907.fr, iv x34907.to] rfl ?_)))
   intro b35675 w hI
   refine seq_c (s_allocI hI [.bool false] Try.zeroValue4 rfl ?_)
   intro b35676 w hI
   refine seq_nil (wp_seq (ckE hF (fun h11237 hF => ?_)))
   refine gdE hF (fun h11238 hF => ?_)
   refine bindE hF (fun x35683 hx35684 hF => ?_)
   refine wp_drawn2 hI [0, 1, 2, 3, 4, 5, 6, 7, 8] (by decide) rfl (by kernel_rfl) (by kernel_rfl) ?_
   intro hsub
   refine alp 0 (.pointer (some ⟨b18222, 1, none⟩)) hsub rfl (by kernel_rfl) (fun _ => (by kernel_rfl)) ?_
   refine al_light 1 (slv g33389 a_33388.length c33390) hsub rfl (by kernel_rfl) (fun w hI => s_load1 hI 4 (slv g33389 a_33388.length c33390) Try.isAgg52 rfl rfl rfl ⟨rfl, Below.refl _ _⟩) ?_
   refine alp 2 (.pointer (some ⟨b18222, 1, none⟩)) hsub rfl (by kernel_rfl) (fun _ => (by kernel_rfl)) ?_
   refine al_light 3 (slv g33389 a_33388.length c33390) hsub rfl (by kernel_rfl) (fun w hI => s_load1 hI 4 (slv g33389 a_33388.length c33390) Try.isAgg52 rfl rfl rfl ⟨rfl, Below.refl _ _⟩) ?_
   refine al_light 4 (iv (a_33388.length : Int)) hsub rfl (by kernel_rfl) (fun w hI => s_pure (iv ((a_33388.length : Nat) : Int)) (by kernel_rfl) ⟨rfl, Below.refl _ _⟩) ?_
   refine al_light 5 (iv ((a_33388.length : Int) - 1)) hsub rfl (by kernel_rfl) (fun w hI => s_sub rfl rfl h11237 ⟨rfl, Below.refl _ _⟩) ?_
   obtain ⟨b35687, rfl, he35688⟩ := r33392.at_ eInt_len (by decide) hx35684
   refine al_light 6 (.pointer (some ⟨b35687, (((a_33388.length : Int) - 1).toNat) * 1, none⟩)) hsub rfl (by kernel_rfl) (fun w hI => s_indexR (((a_33388.length : Int) - 1).toNat) Try.underlying52 Try.sizeOf3 rfl rfl (Int.toNat_of_nonneg h11238).symm (lt_n hx35684 rfl) ⟨rfl, Below.refl _ _⟩) ?_
   refine al_light 7 (iv x35683) hsub rfl (by kernel_rfl) (fun w hI => s_loadR1 hI 6 (iv x35683) Try.isAgg3 rfl rfl (he35688 0 _ rfl) ⟨rfl, Below.refl _ _⟩) ?_
   refine alp 8 (.pointer (some ⟨b35675, 2, none⟩)) hsub rfl (by kernel_rfl) (fun _ => (by kernel_rfl)) ?_
   refine al_light 9 (iv x34907.fr) hsub rfl (by kernel_rfl) (fun w hI => s_load1 hI 1 (iv x34907.fr) Try.isAgg3 rfl rfl rfl ⟨rfl, Below.refl _ _⟩) ?_
   refine alp 10 (iv (if x34907.fr > x35683 then x34907.fr else x35683)) hsub rfl (by kernel_rfl) (fun _ => (by kernel_rfl)) ?_
   refine alp 11 (iv (if x34907.fr > x35683 then x34907.fr else x35683)) hsub rfl (by kernel_rfl) (fun _ => (by kernel_rfl)) ?_
   refine any_end (by kernel_rfl) (fun w hI => ?_)
   refine wp_seq (wp_seq (rgn (by kernel_rfl) (pu (iv (if x34907.fr > x35683 then x34907.fr else x35683)) (by kernel_rfl) (pu (.pointer (some ⟨b35675, 3, none⟩)) (by kernel_rfl) (seq_c (s_load1 hI 1 (iv x34907.to) Try.isAgg3 rfl rfl rfl ?_))))))
   refine seq_c (s_callI 103 [iv (if x34907.fr > x35683 then x34907.fr else x35683), iv x34907.to] (by kernel_rfl) ?_)
   refine calls_of (n := 6) Try.func103 rfl Try.ntmps103 rfl ?_
   refine wp_seq (rgn (by kernel_rfl) (seq_c (s_boxI hI [iv (if x34907.fr > x35683 then x34907.fr else x35683)] rfl ?_)))
   intro b36047 w hI
   refine seq_c (s_boxI hI [iv x34907.to] rfl ?_)
   intro b36048 w hI
   refine pu (.nilFunc) (by kernel_rfl) (seq_nil (wp_seq (rgn (by kernel_rfl) (pu (.func (.func 106) #[] #[.pointer (some ⟨b36047, 0, none⟩), .pointer (some ⟨b36048, 0, none⟩)]) (by kernel_rfl) (pu (.func (.func 106) #[] #[.pointer (some ⟨b36047, 0, none⟩), .pointer (some ⟨b36048, 0, none⟩)]) (by kernel_rfl) (seq_nil (wp_ret (⟨.func (.func 106) #[] #[.pointer (some ⟨b36047, 0, none⟩), .pointer (some ⟨b36048, 0, none⟩)], Ret.r1 rfl rfl, ?_⟩))))))))
   refine seq_nil (wp_block ?_)
   refine wp_rangeFunc hI (first := #[]) (cap := #[.pointer (some ⟨b36047, 0, none⟩), .pointer (some ⟨b36048, 0, none⟩)]) rfl 106 (fun y => [y, .pointer (some ⟨b36047, 0, none⟩), .pointer (some ⟨b36048, 0, none⟩)]) (fun l W => by kernel_rfl) ?_
   intro rcq36049 lqq36049 w hpsq36049 hasq36049 hboq36049 hofq36049 hI
   refine calls_of (n := 17) Try.func106 rfl Try.ntmps106 rfl ?_
   refine wp_seq (rgn (by kernel_rfl) (seq_c (s_load1 hI 3 (iv (if x34907.fr > x35683 then x34907.fr else x35683)) Try.isAgg3 rfl rfl rfl ?_)))
   refine pu (iv (if x34907.fr > x35683 then x34907.fr else x35683)) (by kernel_rfl) (seq_nil (wp_block ?_))
   refine wp_loop (fun m ρ w => ∃ (to_36283 : Int) (mm : Nat), Agree ρ [(0, yfn lqq36049), (1, .pointer (some ⟨b36047, 0, none⟩)), (2, .pointer (some ⟨b36048, 0, none⟩)), (4, iv to_36283)] ∧ Inv [] w0 w [(some lqq36049, rcq36049.at .ready none), (some b36047, blk [iv (if x34907.fr > x35683 then x34907.fr else x35683)] 3), (some b36048, blk [iv x34907.to] 3), (some b18213, blk [.slice none 0 0, .slice none 0 0, .bool false] 164), (some b18222, blk [slv g33384 a_33383.length c33385, slv (some b35687) a_33388.length c33390, .bool false] 164), (g33384, blk cl33386 49), (some b35687, blk cl33391 3), (some b18211, blk [.slice Ap0_0 lp0_0.length cp0_0, .slice Ap0_1 lp0_1.length cp0_1, .map (some bp0_2), .slice Ap0_3 lp0_3.length cp0_3] 120), (some b18212, blk [iv p1.num, iv p1.den] 136), (some b34914, blk [iv x34907.fam, iv x34907.hd, iv x34907.fr, iv x34907.to] 34), (some rcq36049.defers, .deferred (some [])), (some b35675, blk [iv x34907.fam, iv x34907.hd, iv x34907.fr, iv x34907.to] 34), (some b35676, blk [.bool false] 4)] ∧ F96l3 lp0_0 lp0_1 Mp0_2 p1 N (F96l1 lp0_0 lp0_1 Mp0_2 lp0_3 p1 N m1) a_33383 a_33388 v33393 x34907 x35683 mm to_36283 = some r ∧ mm = m) (m := N) ⟨if x34907.fr > x35683 then x34907.fr else x35683, N, ⟨rfl, rfl, rfl, rfl, trivial⟩, hI.pickL [0, 3, 2, 7, 8, 9, 10, 11, 12, 6, 1, 5, 4] (by decide) rfl, hF, rfl⟩ ?_
   rintro m ρ w ⟨to_36283, mm, hag, hI, hF, hm⟩
   subst hm; obtain ⟨ρ, rfl⟩ := hag.form; clear hag
   obtain _ | m3 := mm
   ·cases (show (none : Option (List Dr × List Int × Bool)) = some r from hF)
   replace hF : F96b3 lp0_0 lp0_1 Mp0_2 p1 N (F96l1 lp0_0 lp0_1 Mp0_2 lp0_3 p1 N m1) a_33383 a_33388 v33393 x34907 x35683 (F96l3 lp0_0 lp0_1 Mp0_2 p1 N (F96l1 lp0_0 lp0_1 Mp0_2 lp0_3 p1 N m1) a_33383 a_33388 v33393 x34907 x35683 m3) to_36283 = some r := hF; unfold F96b3 at hF
   refine wp_seq (wp_seq (rgn (by kernel_rfl) (pu (iv to_36283) (by kernel_rfl) (seq_c (s_load1 hI 2 (iv x34907.to) Try.isAgg3 rfl rfl rfl ?_)))))
   refine ifE hF (fun h11433 hF => ?_) (fun h11433 hF => ?_)
   ·
    refine seq_c (s_leq rfl rfl (fun _ => ?_) (fun h => absurd (a := to_36283 ≤ x34907.to) h11433 h))
    refine seq_nil (wp_condT rfl (wp_skip (wp_seq (wp_block ?_))))
    refine wp_seq (rgn (by kernel_rfl) (pu (yfn lqq36049) (by kernel_rfl) (seq_c (s_load1 hI 1 (iv (if x34907.fr > x35683 then x34907.fr else x35683)) Try.isAgg3 rfl rfl rfl ?_))))
    refine pu (iv to_36283) (by kernel_rfl) (pu (.agg #[iv (if x34907.fr > x35683 then x34907.fr else x35683), iv to_36283]) (by kernel_rfl) (seq_c (s_callVI (fv := yfn lqq36049) [.agg #[iv (if x34907.fr > x35683 then x34907.fr else x35683), iv to_36283]] rfl (by kernel_rfl) ?_)))
    have hI := hI.pickL [0, 1, 2, 3, 4, 5, 6, 7, 8, 9, 10, 11, 12] (by decide) rfl
    refine callV_yield hI hofq36049 [23] hpsq36049 rfl (by decide) ?_
    rw [hasq36049]
    refine rgn (by kernel_rfl) (seq_c (s_allocI hI [iv 0, iv 0] Try.zeroValue49 rfl ?_))
    intro b36381 w hI
    refine seq_c (s_store hI 0 2 [iv (if x34907.fr > x35683 then x34907.fr else x35683), iv to_36283] Try.sizeOf49 rfl rfl rfl rfl rfl (Nat.le_of_ble_eq_true rfl) ?_)
    intro w hI
    refine seq_nil (⟨rfl, _, hI.pickL [1, 0, 2, 3, 4, 5, 6, 7, 8, 9, 10, 11, 12, 13] (by decide) rfl, ?_⟩)
    intro w hI
    rw [hboq36049]
    refine wp_block ?_
    refine wp_seq (bindE hF (fun y36386 hy36387 hF => ?_))
    refine bindE hF (fun y36388 hy36389 hF => ?_)
    refine ifE hF (fun h11459 hF => ?_) (fun h11459 hF => ?_)
    ·
     refine wp_drawn2 hI [0, 1, 2, 3, 4, 5, 6, 7, 8, 9, 10, 11, 12, 13] (by decide) rfl (by kernel_rfl) (by kernel_rfl) ?_
     intro hsub
     refine alp 0 (.pointer (some ⟨b18211, 0, none⟩)) hsub rfl (by kernel_rfl) (fun _ => (by kernel_rfl)) ?_
     refine al_light 1 (.agg #[.slice Ap0_0 lp0_0.length cp0_0, .slice Ap0_1 lp0_1.length cp0_1, .map (some bp0_2)]) hsub rfl (by kernel_rfl) (fun w hI => s_loadK hI 8 3 [.slice Ap0_0 lp0_0.length cp0_0, .slice Ap0_1 lp0_1.length cp0_1, .map (some bp0_2)] Try.isAgg115 Try.sizeOf115 rfl rfl rfl rfl ⟨rfl, Below.refl _ _⟩) ?_
     refine al_light 2 (.agg #[iv x34907.fam, iv x34907.hd, iv x34907.fr, iv x34907.to]) hsub rfl (by kernel_rfl) (fun w hI => s_loadK hI 12 4 [iv x34907.fam, iv x34907.hd, iv x34907.fr, iv x34907.to] Try.isAgg34 Try.sizeOf34 rfl rfl rfl rfl ⟨rfl, Below.refl _ _⟩) ?_
     refine al_light 3 (.agg #[iv (if x34907.fr > x35683 then x34907.fr else x35683), iv to_36283]) hsub rfl (by kernel_rfl) (fun w hI => s_loadK hI 1 2 [iv (if x34907.fr > x35683 then x34907.fr else x35683), iv to_36283] Try.isAgg49 Try.sizeOf49 rfl rfl rfl rfl ⟨rfl, Below.refl _ _⟩) ?_
     refine al_light 4 (.agg #[iv y36386.1, iv y36386.2]) hsub rfl (by kernel_rfl) (fun w hI => s_call 94 [.agg #[.slice Ap0_0 lp0_0.length cp0_0, .slice Ap0_1 lp0_1.length cp0_1, .map (some bp0_2)], .agg #[iv x34907.fam, iv x34907.hd, iv x34907.fr, iv x34907.to], .agg #[iv (if x34907.fr > x35683 then x34907.fr else x35683), iv to_36283]] (by kernel_rfl) (L94 _ Ap0_0 cp0_0 lp0_0 Ap0_1 cp0_1 lp0_1 bp0_2 esp0_2 ckp0_2 Mp0_2 x34907 (⟨if x34907.fr > x35683 then x34907.fr else x35683, to_36283⟩ : Dr) (hCp0_0.inv0 hI) hMp0_0 hKp0_0 (hCp0_1.inv0 hI) hMp0_1 hKp0_1 (hI.at0 (hbp0_2)) hop0_2 hMp0_2 N _ hy36387) (fun v' w' h => h)) ?_
     refine al_light 5 (.agg #[iv p1.num, iv p1.den]) hsub rfl (by kernel_rfl) (fun w hI => s_loadK hI 9 2 [iv p1.num, iv p1.den] Try.isAgg136 Try.sizeOf136 rfl rfl rfl rfl ⟨rfl, Below.refl _ _⟩) ?_
     refine al_light 6 (iv y36388) hsub rfl (by kernel_rfl) (fun w hI => s_call 79 [.agg #[iv y36386.1, iv y36386.2], .agg #[iv p1.num, iv p1.den]] (by kernel_rfl) (L79 _ (⟨y36386.1, y36386.2⟩ : Gn) p1 _ hy36389) (fun v' w' h => h)) ?_
     refine al_light 7 (.bool true) hsub rfl (by kernel_rfl) (fun w hI => s_gtr rfl rfl (fun _ => ⟨rfl, Below.refl _ _⟩) (fun h => absurd (a := 0 < y36388) h11459 h)) ?_
     refine any_end (by kernel_rfl) (fun w hI => ?_)
     refine wp_condT rfl (wp_seq (rgn (by kernel_rfl) (pu (.pointer (some ⟨b18222, 0, none⟩)) (by kernel_rfl) (seq_c (s_load1 hI 5 (slv g33384 a_33383.length c33385) Try.isAgg63 rfl rfl rfl ?_)))))
     refine seq_c (s_loadK hI 1 2 [iv (if x34907.fr > x35683 then x34907.fr else x35683), iv to_36283] Try.isAgg49 Try.sizeOf49 rfl rfl rfl rfl ?_)
     refine seq_c (s_new hI [iv (if x34907.fr > x35683 then x34907.fr else x35683), iv to_36283] 49 (fun b => slv (some b) 1 1) (by kernel_rfl) ?_)
     intro b36395 w hI
     refine gdE hF (fun h11461 hF => ?_)
     refine seq_c (s_appN hI Try.underlying63 (z := .agg #[iv 0, iv 0]) (k := 2) (bytes := 16) (by kernel_rfl) rfl rfl 7 rfl rfl r33387 [iv (if x34907.fr > x35683 then x34907.fr else x35683), iv to_36283] rfl rfl (hI.cells 0 (off := 0) rfl (fun j u h => by rw [Nat.zero_add]; exact h)) (by simp [Value.oneCell']) (by omega) (by omega) (n2 := (a_33383 ++ [(⟨if x34907.fr > x35683 then x34907.fr else x35683, to_36283⟩ : Dr)]).length) (app_len rfl rfl) ?_)
     intro g36396 c36397 cl36398 w hI r36399
     have r36399 : Row 2 g36396 ((a_33383 ++ [(⟨if x34907.fr > x35683 then x34907.fr else x35683, to_36283⟩ : Dr)]).length) c36397 cl36398 (flat eDr (a_33383 ++ [(⟨if x34907.fr > x35683 then x34907.fr else x35683, to_36283⟩ : Dr)])) := r36399.snoc _ rfl
     refine pu (.pointer (some ⟨b18222, 0, none⟩)) (by kernel_rfl) (seq_c (s_store hI 6 1 [slv g36396 ((a_33383 ++ [(⟨if x34907.fr > x35683 then x34907.fr else x35683, to_36283⟩ : Dr)]).length) c36397] Try.sizeOf63 rfl rfl rfl rfl rfl (Nat.le_of_ble_eq_true rfl) ?_))
     intro w hI
     refine seq_nil (wp_seq (rgn (by kernel_rfl) (pu (.pointer (some ⟨b18222, 1, none⟩)) (by kernel_rfl) (seq_c (s_load1 hI 6 (slv (some b35687) a_33388.length c33390) Try.isAgg52 rfl rfl rfl ?_)))))
     refine pu (.pointer (some ⟨b36381, 1, none⟩)) (by kernel_rfl) (seq_c (s_load1 hI 2 (iv to_36283) Try.isAgg3 rfl rfl rfl ?_))
     refine ckE hF (fun h11464 hF => ?_)
     refine seq_c (s_add rfl rfl h11464 ?_)
     refine seq_c (s_new hI [iv (to_36283 + 1)] 3 (fun b => slv (some b) 1 1) (by kernel_rfl) ?_)
     intro b36405 w hI
     refine gdE hF (fun h11465 hF => ?_)
     refine seq_c (s_appN hI Try.underlying52 (z := iv 0) (k := 1) (bytes := 8) (by kernel_rfl) rfl rfl 9 rfl rfl r33392 [iv (to_36283 + 1)] rfl rfl (hI.cells 0 (off := 0) rfl (fun j u h => by rw [Nat.zero_add]; exact h)) (by simp [Value.oneCell']) (by omega) (by omega) (n2 := (a_33388 ++ [to_36283 + 1]).length) (app_len rfl rfl) ?_)
     intro g36406 c36407 cl36408 w hI r36409
     have r36409 : Row 1 g36406 ((a_33388 ++ [to_36283 + 1]).length) c36407 cl36408 (flat eInt (a_33388 ++ [to_36283 + 1])) := r36409.snoc _ rfl
     refine pu (.pointer (some ⟨b18222, 1, none⟩)) (by kernel_rfl) (seq_c (s_store hI 7 1 [slv g36406 ((a_33388 ++ [to_36283 + 1]).length) c36407] Try.sizeOf52 rfl rfl rfl rfl rfl (Nat.le_of_ble_eq_true rfl) ?_))
     intro w hI
     refine seq_nil (wp_seq (rgn (by kernel_rfl) (seq_c (s_store hI 15 1 [.bool true] Try.sizeOf4 rfl rfl rfl rfl rfl (Nat.le_of_ble_eq_true rfl) ?_))))
     intro w hI
     refine seq_nil (wp_ret (⟨_, hI.pickL [2, 0, 1, 3, 4, 5, 6, 7, 8, 9, 10, 11, 12, 13, 14, 15] (by decide) rfl, fun w hI => ?_⟩))
     refine pu (.bool true) (by kernel_rfl) (seq_nil (wp_condT rfl (wp_ret (⟨.tuple #[], Ret.r0 rfl, ?_⟩))))
     refine ⟨_, .inr ⟨.ret, hI.pickL [0, 1, 2, 3, 4, 5, 6, 7, 8, 9, 10, 11, 12, 13, 14, 15] (by decide) rfl, fun w hI => ?_⟩⟩
     refine wp_ret (LeaveE.mark (D := rcq36049.defers) (hI.pickL [13, 0, 1, 2, 3, 4, 5, 6, 7, 8, 9, 10, 11, 12, 14, 15] (by decide) rfl) ?_)
     intro w hI
     refine ⟨.bool true, Ret.c rfl rfl (run_load_cell (hI.cell (i := 14) rfl rfl) Try.isAgg4), ?_⟩
     refine pu (.bool false) (by kernel_rfl) (seq_nil ?_)
     exact .inl ⟨rfl, ⟨g36396, c36397, cl36398, g36406, c36407, cl36408, a_33383 ++ [(⟨if x34907.fr > x35683 then x34907.fr else x35683, to_36283⟩ : Dr)], a_33388 ++ [to_36283 + 1], ⟨rfl, rfl, rfl, rfl, rfl, rfl, rfl, trivial⟩, hI.pickL [6, 7, 8, 9, 10, 11] (by decide) rfl, (r36399.to rfl rfl), (r36409.to rfl rfl), hF⟩⟩
    ·
     refine wp_drawn2 hI [0, 1, 2, 3, 4, 5, 6, 7, 8, 9, 10, 11, 12, 13] (by decide) rfl (by kernel_rfl) (by kernel_rfl) ?_
     intro hsub
     refine alp 0 (.pointer (some ⟨b18211, 0, none⟩)) hsub rfl (by kernel_rfl) (fun _ => (by kernel_rfl)) ?_
     refine al_light 1 (.agg #[.slice Ap0_0 lp0_0.length cp0_0, .slice Ap0_1 lp0_1.length cp0_1, .map (some bp0_2)]) hsub rfl (by kernel_rfl) (fun w hI => s_loadK hI 8 3 [.slice Ap0_0 lp0_0.length cp0_0, .slice Ap0_1 lp0_1.length cp0_1, .map (some bp0_2)] Try.isAgg115 Try.sizeOf115 rfl rfl rfl rfl ⟨rfl, Below.refl _ _⟩) ?_
     refine al_light 2 (.agg #[iv x34907.fam, iv x34907.hd, iv x34907.fr, iv x34907.to]) hsub rfl (by kernel_rfl) (fun w hI => s_loadK hI 12 4 [iv x34907.fam, iv x34907.hd, iv x34907.fr, iv x34907.to] Try.isAgg34 Try.sizeOf34 rfl rfl rfl rfl ⟨rfl, Below.refl _ _⟩) ?_
     refine al_light 3 (.agg #[iv (if x34907.fr > x35683 then x34907.fr else x35683), iv to_36283]) hsub rfl (by kernel_rfl) (fun w hI => s_loadK hI 1 2 [iv (if x34907.fr > x35683 then x34907.fr else x35683), iv to_36283] Try.isAgg49 Try.sizeOf49 rfl rfl rfl rfl ⟨rfl, Below.refl _ _⟩) ?_
     refine al_light 4 (.agg #[iv y36386.1, iv y36386.2]) hsub rfl (by kernel_rfl) (fun w hI => s_call 94 [.agg #[.slice Ap0_0 lp0_0.length cp0_0, .slice Ap0_1 lp0_1.length cp0_1, .map (some bp0_2)], .agg #[iv x34907.fam, iv x34907.hd, iv x34907.fr, iv x34907.to], .agg #[iv (if x34907.fr > x35683 then x34907.fr else x35683), iv to_36283]] (by kernel_rfl) (L94 _ Ap0_0 cp0_0 lp0_0 Ap0_1 cp0_1 lp0_1 bp0_2 esp0_2 ckp0_2 Mp0_2 x34907 (⟨if x34907.fr > x35683 then x34907.fr else x35683, to_36283⟩ : Dr) (hCp0_0.inv0 hI) hMp0_0 hKp0_0 (hCp0_1.inv0 hI) hMp0_1 hKp0_1 (hI.at0 (hbp0_2)) hop0_2 hMp0_2 N _ hy36387) (fun v' w' h => h)) ?_
     refine al_light 5 (.agg #[iv p1.num, iv p1.den]) hsub rfl (by kernel_rfl) (fun w hI => s_loadK hI 9 2 [iv p1.num, iv p1.den] Try.isAgg136 Try.sizeOf136 rfl rfl rfl rfl ⟨rfl, Below.refl _ _⟩) ?_
     refine al_light 6 (iv y36388) hsub rfl (by kernel_rfl) (fun w hI => s_call 79 [.agg #[iv y36386.1, iv y36386.2], .agg #[iv p1.num, iv p1.den]] (by kernel_rfl) (L79 _ (⟨y36386.1, y36386.2⟩ : Gn) p1 _ hy36389) (fun v' w' h => h)) ?_
     refine al_light 7 (.bool false) hsub rfl (by kernel_rfl) (fun w hI => s_gtr rfl rfl (fun h => absurd (a := 0 < y36388) h h11459) (fun _ => ⟨rfl, Below.refl _ _⟩)) ?_
     refine any_end (by kernel_rfl) (fun w hI => ?_)
     refine wp_condF rfl (wp_skip (⟨_, hI.pickL [0, 1, 2, 3, 4, 5, 6, 7, 8, 9, 10, 11, 12, 13] (by decide) rfl, fun w hI => ?_⟩))
     refine pu (.bool false) (by kernel_rfl) (seq_nil (wp_condF rfl (wp_skip (rgn (by kernel_rfl) (pu (iv to_36283) (by kernel_rfl) (ckE hF (fun h11466 hF => ?_)))))))
     refine seq_c (s_add rfl rfl h11466 ?_)
     refine pu (iv (to_36283 + 1)) (by kernel_rfl) (seq_nil ?_)
     exact ⟨rfl, m3, Nat.lt_succ_self _, ⟨to_36283 + 1, m3, ⟨rfl, rfl, rfl, rfl, trivial⟩, hI.pickL [0, 2, 3, 4, 5, 6, 7, 8, 9, 10, 11, 12, 13] (by decide) rfl, hF, rfl⟩⟩
   ·
    refine seq_c (s_leq rfl rfl (fun h => absurd (a := to_36283 ≤ x34907.to) h h11433) (fun _ => ?_))
    refine seq_nil (wp_condF rfl (wp_exit ?_))
    refine ⟨.tuple #[], Ret.r0 rfl, ?_⟩
    refine ⟨_, .inl ⟨hI.pickL [0, 1, 2, 3, 4, 5, 6, 7, 8, 9, 10, 11, 12] (by decide) rfl, fun w hI => ?_⟩⟩
    refine wp_seq (rgn (by kernel_rfl) (pu (.pointer (some ⟨b18222, 1, none⟩)) (by kernel_rfl) (seq_c (s_load1 hI 4 (slv (some b35687) a_33388.length c33390) Try.isAgg52 rfl rfl rfl ?_))))
    refine pu (iv (if x34907.fr > x35683 then x34907.fr else x35683)) (by kernel_rfl) (pu (.pointer (some ⟨b35675, 3, none⟩)) (by kernel_rfl) (seq_c (s_load1 hI 11 (iv x34907.to) Try.isAgg3 rfl rfl rfl ?_)))
    refine ckE hF (fun h11470 hF => ?_)
    refine seq_c (s_add rfl rfl h11470 ?_)
    refine pu (iv (if (x34907.to + 1) > (if x34907.fr > x35683 then x34907.fr else x35683) then (x34907.to + 1) else (if x34907.fr > x35683 then x34907.fr else x35683))) (by kernel_rfl) (ckE hF (fun h11471 hF => ?_))
    refine seq_c (s_add rfl rfl h11471 ?_)
    refine seq_c (s_new hI [iv ((if (x34907.to + 1) > (if x34907.fr > x35683 then x34907.fr else x35683) then (x34907.to + 1) else (if x34907.fr > x35683 then x34907.fr else x35683)) + 1)] 3 (fun b => slv (some b) 1 1) (by kernel_rfl) ?_)
    intro b36415 w hI
    refine gdE hF (fun h11472 hF => ?_)
    refine seq_c (s_appN hI Try.underlying52 (z := iv 0) (k := 1) (bytes := 8) (by kernel_rfl) rfl rfl 7 rfl rfl r33392 [iv ((if (x34907.to + 1) > (if x34907.fr > x35683 then x34907.fr else x35683) then (x34907.to + 1) else (if x34907.fr > x35683 then x34907.fr else x35683)) + 1)] rfl rfl (hI.cells 0 (off := 0) rfl (fun j u h => by rw [Nat.zero_add]; exact h)) (by simp [Value.oneCell']) (by omega) (by omega) (n2 := (a_33388 ++ [(if (x34907.to + 1) > (if x34907.fr > x35683 then x34907.fr else x35683) then (x34907.to + 1) else (if x34907.fr > x35683 then x34907.fr else x35683)) + 1]).length) (app_len rfl rfl) ?_)
    intro g36416 c36417 cl36418 w hI r36419
    have r36419 : Row 1 g36416 ((a_33388 ++ [(if (x34907.to + 1) > (if x34907.fr > x35683 then x34907.fr else x35683) then (x34907.to + 1) else (if x34907.fr > x35683 then x34907.fr else x35683)) + 1]).length) c36417 cl36418 (flat eInt (a_33388 ++ [(if (x34907.to + 1) > (if x34907.fr > x35683 then x34907.fr else x35683) then (x34907.to + 1) else (if x34907.fr > x35683 then x34907.fr else x35683)) + 1])) := r36419.snoc _ rfl
    refine pu (.pointer (some ⟨b18222, 1, none⟩)) (by kernel_rfl) (seq_c (s_store hI 5 1 [slv g36416 ((a_33388 ++ [(if (x34907.to + 1) > (if x34907.fr > x35683 then x34907.fr else x35683) then (x34907.to + 1) else (if x34907.fr > x35683 then x34907.fr else x35683)) + 1]).length) c36417] Try.sizeOf52 rfl rfl rfl rfl rfl (Nat.le_of_ble_eq_true rfl) ?_))
    intro w hI
    refine seq_nil (wp_seq (rgn (by kernel_rfl) (seq_c (s_store hI 13 1 [.bool false] Try.sizeOf4 rfl rfl rfl rfl rfl (Nat.le_of_ble_eq_true rfl) ?_))))
    intro w hI
    refine seq_nil (wp_ret (LeaveE.mark (D := rcq36049.defers) (hI.pickL [11, 0, 1, 2, 3, 4, 5, 6, 7, 8, 9, 10, 12, 13] (by decide) rfl) ?_))
    intro w hI
    refine ⟨.bool false, Ret.c rfl rfl (run_load_cell (hI.cell (i := 12) rfl rfl) Try.isAgg4), ?_⟩
    refine pu (.bool true) (by kernel_rfl) (seq_nil (.inr ?_))
    refine wp_condT rfl (wp_seq (rgn (by kernel_rfl) (seq_c (s_loadK hI 5 3 [slv g33384 a_33383.length c33385, slv g36416 ((a_33388 ++ [(if (x34907.to + 1) > (if x34907.fr > x35683 then x34907.fr else x35683) then (x34907.to + 1) else (if x34907.fr > x35683 then x34907.fr else x35683)) + 1]).length) c36417, .bool false] Try.isAgg164 Try.sizeOf164 rfl rfl rfl rfl ?_))))
    refine seq_c (s_store hI 4 3 [slv g33384 a_33383.length c33385, slv g36416 ((a_33388 ++ [(if (x34907.to + 1) > (if x34907.fr > x35683 then x34907.fr else x35683) then (x34907.to + 1) else (if x34907.fr > x35683 then x34907.fr else x35683)) + 1]).length) c36417, .bool false] Try.sizeOf164 rfl rfl rfl rfl rfl (Nat.le_of_ble_eq_true rfl) ?_)
    intro w hI
    refine seq_nil (wp_ret ?_)
    replace hF := Option.some.inj hF; subst hF
    exact ⟨.agg #[slv g33384 a_33383.length c33385, slv g36416 ((a_33388 ++ [(if (x34907.to + 1) > (if x34907.fr > x35683 then x34907.fr else x35683) then (x34907.to + 1) else (if x34907.fr > x35683 then x34907.fr else x35683)) + 1]).length) c36417, .bool false], Ret.c rfl rfl (run_loadK hI 4 3 [slv g33384 a_33383.length c33385, slv g36416 ((a_33388 ++ [(if (x34907.to + 1) > (if x34907.fr > x35683 then x34907.fr else x35683) then (x34907.to + 1) else (if x34907.fr > x35683 then x34907.fr else x35683)) + 1]).length) c36417, .bool false] Try.isAgg164 Try.sizeOf164 rfl rfl rfl), ⟨g33384, c33385, cl33386, g36416, c36417, cl36418, rfl, hI.pickL [6, 7] (by decide) rfl, r33387.to rfl rfl, r36419.to rfl rfl⟩⟩
  ·intro ρ w hJ
   obtain ⟨g35661, c35662, cl35663, g35666, c35667, cl35668, a_35660, a_35665, hag, hI, r35664, r35669, hF⟩ := hJ
   obtain ⟨ρ, rfl⟩ := hag.form; clear hag
   unfold F96j2 at hF
   refine wp_condF rfl (wp_skip (rgn (by kernel_rfl) (ckE hF (fun h11234 hF => ?_))))
   refine seq_c (s_add rfl rfl h11234 ?_)
   refine pu (iv (v33393 + 1)) (by kernel_rfl) (seq_nil ?_)
   exact ⟨rfl, m1, Nat.lt_succ_self _, ⟨g35661, c35662, cl35663, g35666, c35667, cl35668, a_35660, a_35665, v33393 + 1, m1, ⟨rfl, rfl, rfl, rfl, rfl, rfl, trivial⟩, hI.pickL [0, 1, 2, 3, 4, 5] (by decide) rfl, (r35664.to rfl rfl), (r35669.to rfl rfl), hF, rfl⟩⟩
 ·
  refine seq_c (s_lss rfl rfl (fun h => absurd (a := v33393 < (lp0_3.length : Int)) h h10517) (fun _ => ?_))
  refine seq_nil (wp_seq (wp_condF rfl (wp_exit ?_)))
  refine wp_seq (rgn (by kernel_rfl) (pu (.pointer (some ⟨b18222, 2, none⟩)) (by kernel_rfl) (seq_c (s_store hI 1 1 [.bool true] Try.sizeOf4 rfl rfl rfl rfl rfl (Nat.le_of_ble_eq_true rfl) ?_))))
  intro w hI
  refine seq_nil (wp_seq (rgn (by kernel_rfl) (seq_c (s_loadK hI 1 3 [slv g33384 a_33383.length c33385, slv g33389 a_33388.length c33390, .bool true] Try.isAgg164 Try.sizeOf164 rfl rfl rfl rfl ?_))))
  refine seq_c (s_store hI 0 3 [slv g33384 a_33383.length c33385, slv g33389 a_33388.length c33390, .bool true] Try.sizeOf164 rfl rfl rfl rfl rfl (Nat.le_of_ble_eq_true rfl) ?_)
  intro w hI
  refine seq_nil (wp_ret ?_)
  replace hF := Option.some.inj hF; subst hF
  exact ⟨.agg #[slv g33384 a_33383.length c33385, slv g33389 a_33388.length c33390, .bool true], Ret.c rfl rfl (run_loadK hI 0 3 [slv g33384 a_33383.length c33385, slv g33389 a_33388.length c33390, .bool true] Try.isAgg164 Try.sizeOf164 rfl rfl rfl), ⟨g33384, c33385, cl33386, g33389, c33390, cl33391, rfl, hI.pickL [2, 3] (by decide) rfl, r33387.to rfl rfl, r33392.to rfl rfl⟩⟩


theorem L82 (w0 : World) (Ap0_0 : Option Addr) (cp0_0 : Nat) (lp0_0 : List Ch) (Ap0_1 : Option Addr) (cp0_1 : Nat) (lp0_1 : List Ce) (bp0_2 : Nat) (esp0_2 : List En) (ckp0_2 : Nat) (Mp0_2 : Int → Option Int) (Ap0_3 : Option Addr) (cp0_3 : Nat) (lp0_3 : List Cl) (Ap1 : Option Addr) (cp1 : Nat) (lp1 : List Dr) (hCp0_0 : Cells w0 Ap0_0 (flat eCh lp0_0)) (hMp0_0 : lp0_0.length ≤ 9223372036854775807) (hKp0_0 : lp0_0.length ≤ cp0_0) (hCp0_1 : Cells w0 Ap0_1 (flat eCe lp0_1)) (hMp0_1 : lp0_1.length ≤ 9223372036854775807) (hKp0_1 : lp0_1.length ≤ cp0_1) (hbp0_2 : w0.heap[bp0_2]? = some (mobj esp0_2 ckp0_2)) (hop0_2 : MOk esp0_2 ckp0_2) (hMp0_2 : ∀ j, mget esp0_2 j = (Mp0_2 j).map (Value.int .i64)) (hCp0_3 : Cells w0 Ap0_3 (flat eCl lp0_3)) (hMp0_3 : lp0_3.length ≤ 9223372036854775807) (hKp0_3 : lp0_3.length ≤ cp0_3) (hCp1 : Cells w0 Ap1 (flat eDr lp1)) (hMp1 : lp1.length ≤ 9223372036854775807) (hKp1 : lp1.length ≤ cp1) (N : Nat) (r : List Gn) (hF : F82 N lp0_0 lp0_1 Mp0_2 lp0_3 lp1 = some r) : Does Try.prog 82 [.agg #[.slice Ap0_0 lp0_0.length cp0_0, .slice Ap0_1 lp0_1.length cp0_1, .map (some bp0_2), .slice Ap0_3 lp0_3.length cp0_3], .slice Ap1 lp1.length cp1] w0 fun v w => ∃ (z0 : Option Nat) (z1 : Nat) (z2 : List Value), v = slv z0 r.length z1 ∧ Inv [] w0 w [(z0, blk z2 136)] ∧ Row 2 z0 r.length z1 z2 (flat eGn r) := by
 refine calls_of (n := 29) Try.func82 rfl Try.ntmps82 rfl ?_
 have hI := Inv.start w0
 unfold F82 at hF
 refine wp_seq (rgn (by kernel_rfl) (seq_c (s_boxI hI [.slice Ap0_0 lp0_0.length cp0_0, .slice Ap0_1 lp0_1.length cp0_1, .map (some bp0_2), .slice Ap0_3 lp0_3.length cp0_3] rfl ?_)))
 intro b415 w hI
 refine pu (.slice none 0 0) (by kernel_rfl) (seq_nil (wp_seq (rgn (by kernel_rfl) (pu (.slice none 0 0) (by kernel_rfl) (seq_nil (wp_seq (wp_seq (rgn (by kernel_rfl) (pu (.slice Ap1 lp1.length cp1) (by kernel_rfl) ?_)))))))))
 refine pu (iv ((lp1.length : Nat) : Int)) (by kernel_rfl) (pu (iv 0) (by kernel_rfl) (seq_nil (wp_block ?_)))
 have hI := hI.nilRow 136
 refine wp_loop (fun m ρ w => ∃ (g760 : Option Nat) (c761 : Nat) (cl762 : List Value) (gains_759 : List Gn) (v764 : Int) (mm : Nat), Agree ρ [(2, .pointer (some ⟨b415, 0, none⟩)), (5, slv g760 gains_759.length c761), (8, .slice Ap1 lp1.length cp1), (9, iv (lp1.length : Int)), (10, iv v764)] ∧ Inv [] w0 w [(some b415, blk [.slice Ap0_0 lp0_0.length cp0_0, .slice Ap0_1 lp0_1.length cp0_1, .map (some bp0_2), .slice Ap0_3 lp0_3.length cp0_3] 120), (g760, blk cl762 136)] ∧ (Row 2 g760 (gains_759.length) c761 cl762 (flat eGn gains_759)) ∧ F82l1 lp0_0 lp0_1 Mp0_2 lp0_3 lp1 N mm gains_759 v764 = some r ∧ mm = m) (m := N) ⟨none, 0, [], [], 0, N, ⟨rfl, rfl, rfl, rfl, rfl, trivial⟩, hI.pickL [1, 0] (by decide) rfl, (Row.nil_ 2), hF, rfl⟩ ?_
 rintro m ρ w ⟨g760, c761, cl762, gains_759, v764, mm, hag, hI, r763, hF, hm⟩
 subst hm; obtain ⟨ρ, rfl⟩ := hag.form; clear hag
 obtain _ | m1 := mm
 ·cases (show (none : Option (List Gn)) = some r from hF)
 replace hF : F82b1 lp0_0 lp0_1 Mp0_2 lp0_3 lp1 N (F82l1 lp0_0 lp0_1 Mp0_2 lp0_3 lp1 N m1) gains_759 v764 = some r := hF; unfold F82b1 at hF
 refine wp_seq (rgn (by kernel_rfl) (ifE hF (fun h67 hF => ?_) (fun h67 hF => ?_)))
 ·
  refine seq_c (s_lss rfl rfl (fun _ => ?_) (fun h => absurd (a := v764 < (lp1.length : Int)) h67 h))
  refine seq_nil (wp_seq (wp_condT rfl (wp_skip (wp_seq (wp_block ?_)))))
  refine wp_seq (rgn (by kernel_rfl) (pu (iv v764) (by kernel_rfl) (gdE hF (fun h70 hF => ?_))))
  refine bindE hF (fun x797 hx798 hF => ?_)
  obtain ⟨b799, o800, hA801, hb802, he803⟩ := hCp1.at_ eDr_len (by decide) hx798
  refine seq_c (s_indexA (v764).toNat Try.underlying63 Try.sizeOf49 rfl hA801 rfl (Int.toNat_of_nonneg h70).symm (lt_n hx798 rfl) ?_)
  refine seq_c (s_loadBK hI [iv x797.fr, iv x797.to] Try.isAgg49 Try.sizeOf49 rfl rfl hb802 (by simp) he803 ?_)
  refine seq_c (s_allocI hI [iv 0, iv 0] Try.zeroValue49 rfl ?_)
  intro b804 w hI
  refine pu (iv v764) (by kernel_rfl) (seq_c (s_store hI 0 2 [iv x797.fr, iv x797.to] Try.sizeOf49 rfl rfl rfl rfl rfl (Nat.le_of_ble_eq_true rfl) ?_))
  intro w hI
  refine seq_nil (bindE hF (fun x805 hx806 hF => ?_))
  refine bindE hF (fun y812 hy813 hF => ?_)
  refine gdE hF (fun h71 hF => ?_)
  replace hI := hI.pickL [0, 1, 2] (by decide) rfl
  refine wp_drawn2 hI [0, 1] (by decide) rfl (by kernel_rfl) (by kernel_rfl) ?_
  intro hsub
  refine alp 0 (slv g760 gains_759.length c761) hsub rfl (by kernel_rfl) (fun _ => (by kernel_rfl)) ?_
  refine alp 1 (.pointer (some ⟨b415, 0, none⟩)) hsub rfl (by kernel_rfl) (fun _ => (by kernel_rfl)) ?_
  refine al_light 2 (.agg #[.slice Ap0_0 lp0_0.length cp0_0, .slice Ap0_1 lp0_1.length cp0_1, .map (some bp0_2)]) hsub rfl (by kernel_rfl) (fun w hI => s_loadK hI 1 3 [.slice Ap0_0 lp0_0.length cp0_0, .slice Ap0_1 lp0_1.length cp0_1, .map (some bp0_2)] Try.isAgg115 Try.sizeOf115 rfl rfl rfl rfl ⟨rfl, Below.refl _ _⟩) ?_
  refine alp 3 (.pointer (some ⟨b415, 3, none⟩)) hsub rfl (by kernel_rfl) (fun _ => (by kernel_rfl)) ?_
  refine al_light 4 (.slice Ap0_3 lp0_3.length cp0_3) hsub rfl (by kernel_rfl) (fun w hI => s_load1 hI 1 (.slice Ap0_3 lp0_3.length cp0_3) Try.isAgg26 rfl rfl rfl ⟨rfl, Below.refl _ _⟩) ?_
  refine alp 5 (iv v764) hsub rfl (by kernel_rfl) (fun _ => (by kernel_rfl)) ?_
  obtain ⟨b819, o820, hA821, hb822, he823⟩ := hCp0_3.at_ eCl_len (by decide) hx806
  refine al_light 6 (.pointer (some ⟨b819, o820 + (v764).toNat * 4, none⟩)) hsub rfl (by kernel_rfl) (fun w hI => s_indexA (v764).toNat Try.underlying26 Try.sizeOf34 rfl hA821 rfl (Int.toNat_of_nonneg h70).symm (lt_n hx806 rfl) ⟨rfl, Below.refl _ _⟩) ?_
  refine al_light 7 (.agg #[iv x805.fam, iv x805.hd, iv x805.fr, iv x805.to]) hsub rfl (by kernel_rfl) (fun w hI => s_loadBK hI [iv x805.fam, iv x805.hd, iv x805.fr, iv x805.to] Try.isAgg34 Try.sizeOf34 rfl rfl hb822 (by simp) he823 ⟨rfl, Below.refl _ _⟩) ?_
  refine al_light 8 (.agg #[iv x797.fr, iv x797.to]) hsub rfl (by kernel_rfl) (fun w hI => s_loadK hI 0 2 [iv x797.fr, iv x797.to] Try.isAgg49 Try.sizeOf49 rfl rfl rfl rfl ⟨rfl, Below.refl _ _⟩) ?_
  refine al_light 9 (.agg #[iv y812.1, iv y812.2]) hsub rfl (by kernel_rfl) (fun w hI => s_call 94 [.agg #[.slice Ap0_0 lp0_0.length cp0_0, .slice Ap0_1 lp0_1.length cp0_1, .map (some bp0_2)], .agg #[iv x805.fam, iv x805.hd, iv x805.fr, iv x805.to], .agg #[iv x797.fr, iv x797.to]] (by kernel_rfl) (L94 _ Ap0_0 cp0_0 lp0_0 Ap0_1 cp0_1 lp0_1 bp0_2 esp0_2 ckp0_2 Mp0_2 x805 x797 (hCp0_0.inv0 hI) hMp0_0 hKp0_0 (hCp0_1.inv0 hI) hMp0_1 hKp0_1 (hI.at0 (hbp0_2)) hop0_2 hMp0_2 N _ hy813) (fun v' w' h => h)) ?_
  refine any_heavy [10] (by kernel_rfl) rfl (each1 ?_)
  intro w hI
  refine ol_c rfl (s_new hI [iv y812.1, iv y812.2] 136 (fun b => slv (some b) 1 1) (by kernel_rfl) ?_)
  intro b824 w hI
  refine ⟨_, hI, subk (fun _ h => h.pickL [1, 2] (by decide) rfl) ?_⟩
  intro hsub
  refine any_heavy [11] (by kernel_rfl) rfl (each1 ?_)
  intro w hI
  refine ol_c rfl (s_appN hI Try.underlying140 (z := .agg #[iv 0, iv 0]) (k := 2) (bytes := 16) (by kernel_rfl) rfl rfl 3 rfl rfl r763 [iv y812.1, iv y812.2] rfl rfl (hI.cells 0 (off := 0) rfl (fun j u h => by rw [Nat.zero_add]; exact h)) (by simp [Value.oneCell']) (by omega) (by omega) (n2 := (gains_759 ++ [(⟨y812.1, y812.2⟩ : Gn)]).length) (app_len rfl rfl) ?_)
  intro g825 c826 cl827 w hI r828
  refine ⟨_, hI, subk (fun _ h => h.pickL [1, 2] (by decide) rfl) ?_⟩
  intro hsub
  have r828 : Row 2 g825 ((gains_759 ++ [(⟨y812.1, y812.2⟩ : Gn)]).length) c826 cl827 (flat eGn (gains_759 ++ [(⟨y812.1, y812.2⟩ : Gn)])) := r828.snoc _ rfl
  refine alp 12 (slv g825 ((gains_759 ++ [(⟨y812.1, y812.2⟩ : Gn)]).length) c826) hsub rfl (by kernel_rfl) (fun _ => (by kernel_rfl)) ?_
  refine any_end (by kernel_rfl) (fun w hI => ?_)
  refine rgn (by kernel_rfl) (ckE hF (fun h72 hF => ?_))
  refine seq_c (s_add rfl rfl h72 ?_)
  refine pu (iv (v764 + 1)) (by kernel_rfl) (seq_nil ?_)
  exact ⟨rfl, m1, Nat.lt_succ_self _, ⟨g825, c826, cl827, gains_759 ++ [(⟨y812.1, y812.2⟩ : Gn)], v764 + 1, m1, ⟨rfl, rfl, rfl, rfl, rfl, trivial⟩, hI.pickL [2, 3] (by decide) rfl, (r828.to rfl rfl), hF, rfl⟩⟩
 ·
  refine seq_c (s_lss rfl rfl (fun h => absurd (a := v764 < (lp1.length : Int)) h h67) (fun _ => ?_))
  refine seq_nil (wp_seq (wp_condF rfl (wp_exit ?_)))
  refine wp_seq (rgn (by kernel_rfl) (pu (slv g760 gains_759.length c761) (by kernel_rfl) (pu (slv g760 gains_759.length c761) (by kernel_rfl) (seq_nil (wp_ret ?_)))))
  replace hF := Option.some.inj hF; subst hF
  exact ⟨slv g760 gains_759.length c761, Ret.r1 rfl rfl, ⟨g760, c761, cl762, rfl, hI.pickL [1] (by decide) rfl, r763.to rfl rfl⟩⟩


theorem L97 (w0 : World) (Ap0_0 : Option Addr) (cp0_0 : Nat) (lp0_0 : List Ch) (Ap0_1 : Option Addr) (cp0_1 : Nat) (lp0_1 : List Ce) (bp0_2 : Nat) (esp0_2 : List En) (ckp0_2 : Nat) (Mp0_2 : Int → Option Int) (Ap0_3 : Option Addr) (cp0_3 : Nat) (lp0_3 : List Cl) (Ap1 : Option Addr) (cp1 : Nat) (lp1 : List Dr) (hCp0_0 : Cells w0 Ap0_0 (flat eCh lp0_0)) (hMp0_0 : lp0_0.length ≤ 9223372036854775807) (hKp0_0 : lp0_0.length ≤ cp0_0) (hCp0_1 : Cells w0 Ap0_1 (flat eCe lp0_1)) (hMp0_1 : lp0_1.length ≤ 9223372036854775807) (hKp0_1 : lp0_1.length ≤ cp0_1) (hbp0_2 : w0.heap[bp0_2]? = some (mobj esp0_2 ckp0_2)) (hop0_2 : MOk esp0_2 ckp0_2) (hMp0_2 : ∀ j, mget esp0_2 j = (Mp0_2 j).map (Value.int .i64)) (hCp0_3 : Cells w0 Ap0_3 (flat eCl lp0_3)) (hMp0_3 : lp0_3.length ≤ 9223372036854775807) (hKp0_3 : lp0_3.length ≤ cp0_3) (hCp1 : Cells w0 Ap1 (flat eDr lp1)) (hMp1 : lp1.length ≤ 9223372036854775807) (hKp1 : lp1.length ≤ cp1) (N : Nat) (r : (Int × Int)) (hF : F97 N lp0_0 lp0_1 Mp0_2 lp0_3 lp1 = some r) : Does Try.prog 97 [.agg #[.slice Ap0_0 lp0_0.length cp0_0, .slice Ap0_1 lp0_1.length cp0_1, .map (some bp0_2), .slice Ap0_3 lp0_3.length cp0_3], .slice Ap1 lp1.length cp1] w0 fun v w => v = .agg #[.int .i64 r.1, .int .i64 r.2] ∧ Below w0.heap.size w0 w := by
 refine calls_of (n := 9) Try.func97 rfl Try.ntmps97 rfl ?_
 have hI := Inv.start w0
 unfold F97 at hF
 refine wp_seq (rgn (by kernel_rfl) (seq_c (s_boxI hI [.slice Ap0_0 lp0_0.length cp0_0, .slice Ap0_1 lp0_1.length cp0_1, .map (some bp0_2), .slice Ap0_3 lp0_3.length cp0_3] rfl ?_)))
 intro b415 w hI
 refine seq_c (s_allocI hI [iv 0, iv 0] Try.zeroValue136 rfl ?_)
 intro b416 w hI
 refine seq_nil (wp_seq (rgn (by kernel_rfl) (seq_c (s_loadK hI 1 4 [.slice Ap0_0 lp0_0.length cp0_0, .slice Ap0_1 lp0_1.length cp0_1, .map (some bp0_2), .slice Ap0_3 lp0_3.length cp0_3] Try.isAgg120 Try.sizeOf120 rfl rfl rfl rfl ?_))))
 refine pu (.slice Ap1 lp1.length cp1) (by kernel_rfl) (bindE hF (fun y623 hy624 hF => ?_))
 refine seq_c (s_call 82 [.agg #[.slice Ap0_0 lp0_0.length cp0_0, .slice Ap0_1 lp0_1.length cp0_1, .map (some bp0_2), .slice Ap0_3 lp0_3.length cp0_3], .slice Ap1 lp1.length cp1] (by kernel_rfl) (L82 _ Ap0_0 cp0_0 lp0_0 Ap0_1 cp0_1 lp0_1 bp0_2 esp0_2 ckp0_2 Mp0_2 Ap0_3 cp0_3 lp0_3 Ap1 cp1 lp1 (hCp0_0.inv0 hI) hMp0_0 hKp0_0 (hCp0_1.inv0 hI) hMp0_1 hKp0_1 (hI.at0 (hbp0_2)) hop0_2 hMp0_2 (hCp0_3.inv0 hI) hMp0_3 hKp0_3 (hCp1.inv0 hI) hMp1 hKp1 N _ hy624) ?_)
 rintro v w ⟨g625, c626, cl627, rfl, hN, r628⟩
 have hI := hI.join hN; clear hN
 refine seq_c (s_callI 104 [slv g625 y623.length c626, .func (.func 79) #[] #[]] (by kernel_rfl) ?_)
 refine calls_of (n := 33) Try.func104 rfl Try.ntmps104 rfl ?_
 refine wp_seq (rgn (by kernel_rfl) (seq_c (s_allocI hI [iv 0, iv 0] Try.zeroValue136 rfl ?_)))
 intro b629 w hI
 refine seq_nil (wp_seq (wp_seq (rgn (by kernel_rfl) (pu (slv g625 y623.length c626) (by kernel_rfl) (pu (iv ((y623.length : Nat) : Int)) (by kernel_rfl) (ifE hF (fun h220 hF => ?_) (fun h220 hF => ?_)))))))
 ·
  refine seq_c (s_lss rfl rfl (fun _ => ?_) (fun h => absurd (a := (y623.length : Int) < 1) h220 h))
  refine seq_nil (wp_condT rfl (rgn (by kernel_rfl) ?_))
  cases hF
 ·
  refine seq_c (s_lss rfl rfl (fun h => absurd (a := (y623.length : Int) < 1) h h220) (fun _ => ?_))
  refine seq_nil (wp_condF rfl (wp_skip (wp_seq (rgn (by kernel_rfl) (pu (slv g625 y623.length c626) (by kernel_rfl) (bindE hF (fun x630 hx631 hF => ?_)))))))
  obtain ⟨b632, rfl, he633⟩ := r628.at_ eGn_len (by decide) hx631
  refine seq_c (s_indexR 0 Try.underlying140 Try.sizeOf136 rfl rfl rfl (lt_n hx631 rfl) ?_)
  refine seq_c (s_loadRK hI 1 [iv x630.num, iv x630.den] Try.isAgg136 Try.sizeOf136 rfl rfl rfl he633 ?_)
  refine seq_c (s_allocI hI [iv 0, iv 0] Try.zeroValue136 rfl ?_)
  intro b634 w hI
  refine seq_c (s_store hI 0 2 [iv x630.num, iv x630.den] Try.sizeOf136 rfl rfl rfl rfl rfl (Nat.le_of_ble_eq_true rfl) ?_)
  intro w hI
  refine seq_nil (wp_seq (wp_seq (rgn (by kernel_rfl) (pu (iv 1) (by kernel_rfl) (seq_nil (wp_block ?_))))))
  refine wp_loop (fun m ρ w => ∃ (m_796 : Int) (m_797 : Int) (i_798 : Int) (mm : Nat), Agree ρ [(0, slv (some b632) y623.length c626), (1, .func (.func 79) #[] #[]), (4, .pointer (some ⟨b629, 0, none⟩)), (5, .pointer (some ⟨b634, 0, none⟩)), (6, iv i_798)] ∧ Inv [] w0 w [(some b632, blk cl627 136), (some b629, blk [iv 0, iv 0] 136), (some b634, blk [iv m_796, iv m_797] 136), (some b415, blk [.slice Ap0_0 lp0_0.length cp0_0, .slice Ap0_1 lp0_1.length cp0_1, .map (some bp0_2), .slice Ap0_3 lp0_3.length cp0_3] 120), (some b416, blk [iv 0, iv 0] 136)] ∧ F97l1 y623 mm m_796 m_797 i_798 = some r ∧ mm = m) (m := N) ⟨x630.num, x630.den, 1, N, ⟨rfl, rfl, rfl, rfl, rfl, trivial⟩, hI.pickL [2, 1, 0, 4, 3] (by decide) rfl, hF, rfl⟩ ?_
  rintro m ρ w ⟨m_796, m_797, i_798, mm, hag, hI, hF, hm⟩
  subst hm; obtain ⟨ρ, rfl⟩ := hag.form; clear hag
  obtain _ | m1 := mm
  ·cases (show (none : Option (Int × Int)) = some r from hF)
  replace hF : F97b1 y623 (F97l1 y623 m1) m_796 m_797 i_798 = some r := hF; unfold F97b1 at hF
  refine wp_seq (wp_seq (rgn (by kernel_rfl) (pu (iv i_798) (by kernel_rfl) (pu (slv (some b632) y623.length c626) (by kernel_rfl) (pu (iv ((y623.length : Nat) : Int)) (by kernel_rfl) (ifE hF (fun h279 hF => ?_) (fun h279 hF => ?_)))))))
  ·
   refine seq_c (s_lss rfl rfl (fun _ => ?_) (fun h => absurd (a := i_798 < (y623.length : Int)) h279 h))
   refine seq_nil (wp_condT rfl (wp_skip (wp_cutO (fun ρ w => ∃ (m_813 : Int) (m_814 : Int), Agree ρ [(0, slv (some b632) y623.length c626), (1, .func (.func 79) #[] #[]), (4, .pointer (some ⟨b629, 0, none⟩)), (5, .pointer (some ⟨b634, 0, none⟩)), (6, iv i_798)] ∧ Inv [] w0 w [(some b632, blk cl627 136), (some b629, blk [iv 0, iv 0] 136), (some b634, blk [iv m_813, iv m_814] 136), (some b415, blk [.slice Ap0_0 lp0_0.length cp0_0, .slice Ap0_1 lp0_1.length cp0_1, .map (some bp0_2), .slice Ap0_3 lp0_3.length cp0_3] 120), (some b416, blk [iv 0, iv 0] 136)] ∧ F97j2 (F97l1 y623 m1) i_798 m_813 m_814 = some r) ?_ ?_)))
   ·
    refine wp_block ?_
    refine wp_seq (gdE hF (fun h287 hF => ?_))
    refine bindE hF (fun x822 hx823 hF => ?_)
    refine bindE hF (fun y825 hy826 hF => ?_)
    refine ifE hF (fun h288 hF => ?_) (fun h288 hF => ?_)
    ·
     refine wp_drawn2 hI [0, 1, 2, 3, 4] (by decide) rfl (by kernel_rfl) (by kernel_rfl) ?_
     intro hsub
     refine alp 0 (.func (.func 79) #[] #[]) hsub rfl (by kernel_rfl) (fun _ => (by kernel_rfl)) ?_
     refine alp 1 (slv (some b632) y623.length c626) hsub rfl (by kernel_rfl) (fun _ => (by kernel_rfl)) ?_
     refine alp 2 (iv i_798) hsub rfl (by kernel_rfl) (fun _ => (by kernel_rfl)) ?_
     have he827 := r628.atS eGn_len (by decide) hx823
     refine al_light 3 (.pointer (some ⟨b632, (i_798).toNat * 2, none⟩)) hsub rfl (by kernel_rfl) (fun w hI => s_indexR (i_798).toNat Try.underlying140 Try.sizeOf136 rfl rfl (Int.toNat_of_nonneg h287).symm (lt_n hx823 rfl) ⟨rfl, Below.refl _ _⟩) ?_
     refine al_light 4 (.agg #[iv x822.num, iv x822.den]) hsub rfl (by kernel_rfl) (fun w hI => s_loadRK hI 0 [iv x822.num, iv x822.den] Try.isAgg136 Try.sizeOf136 rfl rfl rfl he827 ⟨rfl, Below.refl _ _⟩) ?_
     refine al_light 5 (.agg #[iv m_796, iv m_797]) hsub rfl (by kernel_rfl) (fun w hI => s_loadK hI 2 2 [iv m_796, iv m_797] Try.isAgg136 Try.sizeOf136 rfl rfl rfl rfl ⟨rfl, Below.refl _ _⟩) ?_
     refine al_light 6 (iv y825) hsub rfl (by kernel_rfl) (fun w hI => s_call 79 [.agg #[iv x822.num, iv x822.den], .agg #[iv m_796, iv m_797]] (by kernel_rfl) (L79 _ x822 (⟨m_796, m_797⟩ : Gn) _ hy826) (fun v' w' h => h)) ?_
     refine al_light 7 (.bool true) hsub rfl (by kernel_rfl) (fun w hI => s_lss rfl rfl (fun _ => ⟨rfl, Below.refl _ _⟩) (fun h => absurd (a := y825 < 0) h288 h)) ?_
     refine any_end (by kernel_rfl) (fun w hI => ?_)
     refine wp_condT rfl (rgn (by kernel_rfl) (pu (slv (some b632) y623.length c626) (by kernel_rfl) (pu (iv i_798) (by kernel_rfl) (seq_c (s_indexR (i_798).toNat Try.underlying140 Try.sizeOf136 rfl rfl (Int.toNat_of_nonneg h287).symm (lt_n hx823 rfl) ?_)))))
     refine seq_c (s_loadRK hI 0 [iv x822.num, iv x822.den] Try.isAgg136 Try.sizeOf136 rfl rfl rfl he827 ?_)
     refine seq_c (s_store hI 2 2 [iv x822.num, iv x822.den] Try.sizeOf136 rfl rfl rfl rfl rfl (Nat.le_of_ble_eq_true rfl) ?_)
     intro w hI
     refine seq_nil ?_
     exact .inl ⟨rfl, ⟨x822.num, x822.den, ⟨rfl, rfl, rfl, rfl, rfl, trivial⟩, hI.pickL [0, 1, 2, 3, 4] (by decide) rfl, hF⟩⟩
    ·
     refine wp_drawn2 hI [0, 1, 2, 3, 4] (by decide) rfl (by kernel_rfl) (by kernel_rfl) ?_
     intro hsub
     refine alp 0 (.func (.func 79) #[] #[]) hsub rfl (by kernel_rfl) (fun _ => (by kernel_rfl)) ?_
     refine alp 1 (slv (some b632) y623.length c626) hsub rfl (by kernel_rfl) (fun _ => (by kernel_rfl)) ?_
     refine alp 2 (iv i_798) hsub rfl (by kernel_rfl) (fun _ => (by kernel_rfl)) ?_
     have he828 := r628.atS eGn_len (by decide) hx823
     refine al_light 3 (.pointer (some ⟨b632, (i_798).toNat * 2, none⟩)) hsub rfl (by kernel_rfl) (fun w hI => s_indexR (i_798).toNat Try.underlying140 Try.sizeOf136 rfl rfl (Int.toNat_of_nonneg h287).symm (lt_n hx823 rfl) ⟨rfl, Below.refl _ _⟩) ?_
     refine al_light 4 (.agg #[iv x822.num, iv x822.den]) hsub rfl (by kernel_rfl) (fun w hI => s_loadRK hI 0 [iv x822.num, iv x822.den] Try.isAgg136 Try.sizeOf136 rfl rfl rfl he828 ⟨rfl, Below.refl _ _⟩) ?_
     refine al_light 5 (.agg #[iv m_796, iv m_797]) hsub rfl (by kernel_rfl) (fun w hI => s_loadK hI 2 2 [iv m_796, iv m_797] Try.isAgg136 Try.sizeOf136 rfl rfl rfl rfl ⟨rfl, Below.refl _ _⟩) ?_
     refine al_light 6 (iv y825) hsub rfl (by kernel_rfl) (fun w hI => s_call 79 [.agg #[iv x822.num, iv x822.den], .agg #[iv m_796, iv m_797]] (by kernel_rfl) (L79 _ x822 (⟨m_796, m_797⟩ : Gn) _ hy826) (fun v' w' h => h)) ?_
     refine al_light 7 (.bool false) hsub rfl (by kernel_rfl) (fun w hI => s_lss rfl rfl (fun h => absurd (a := y825 < 0) h h288) (fun _ => ⟨rfl, Below.refl _ _⟩)) ?_
     refine any_end (by kernel_rfl) (fun w hI => ?_)
     refine wp_condF rfl (wp_skip ?_)
     exact .inl ⟨rfl, ⟨m_796, m_797, ⟨rfl, rfl, rfl, rfl, rfl, trivial⟩, hI.pickL [0, 1, 2, 3, 4] (by decide) rfl, hF⟩⟩
   ·intro ρ w hJ
    obtain ⟨m_813, m_814, hag, hI, hF⟩ := hJ
    obtain ⟨ρ, rfl⟩ := hag.form; clear hag
    unfold F97j2 at hF
    refine rgn (by kernel_rfl) (pu (iv i_798) (by kernel_rfl) (ckE hF (fun h284 hF => ?_)))
    refine seq_c (s_add rfl rfl h284 ?_)
    refine pu (iv (i_798 + 1)) (by kernel_rfl) (seq_nil ?_)
    exact ⟨rfl, m1, Nat.lt_succ_self _, ⟨m_813, m_814, i_798 + 1, m1, ⟨rfl, rfl, rfl, rfl, rfl, trivial⟩, hI.pickL [0, 1, 2, 3, 4] (by decide) rfl, hF, rfl⟩⟩
  ·
   refine seq_c (s_lss rfl rfl (fun h => absurd (a := i_798 < (y623.length : Int)) h h279) (fun _ => ?_))
   refine seq_nil (wp_condF rfl (wp_exit ?_))
   refine wp_seq (rgn (by kernel_rfl) (seq_c (s_loadK hI 2 2 [iv m_796, iv m_797] Try.isAgg136 Try.sizeOf136 rfl rfl rfl rfl ?_)))
   refine seq_c (s_store hI 1 2 [iv m_796, iv m_797] Try.sizeOf136 rfl rfl rfl rfl rfl (Nat.le_of_ble_eq_true rfl) ?_)
   intro w hI
   refine seq_nil (wp_ret (⟨.agg #[iv m_796, iv m_797], Ret.c rfl rfl (run_loadK hI 1 2 [iv m_796, iv m_797] Try.isAgg136 Try.sizeOf136 rfl rfl rfl), ?_⟩))
   refine seq_c (s_store hI 4 2 [iv m_796, iv m_797] Try.sizeOf136 rfl rfl rfl rfl rfl (Nat.le_of_ble_eq_true rfl) ?_)
   intro w hI
   refine seq_nil (wp_ret ?_)
   replace hF := Option.some.inj hF; subst hF
   exact ⟨.agg #[iv m_796, iv m_797], Ret.c rfl rfl (run_loadK hI 4 2 [iv m_796, iv m_797] Try.isAgg136 Try.sizeOf136 rfl rfl rfl), ⟨rfl, hI.below⟩⟩


end Go.K
