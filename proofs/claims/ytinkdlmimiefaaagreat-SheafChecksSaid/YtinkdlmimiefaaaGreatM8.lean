/- The reference's Stands. -/
import Derived.Test.YtinkdlmimiefaaaGreatProg
import Derived.Test.YtinkdlmimiefaaaGreatM7
namespace Go.K
open Go.Proofs Go.RowKit
set_option linter.unusedVariables false
set_option linter.unusedSimpArgs false
set_option maxRecDepth 100000
attribute [local irreducible] Seq Step CallV AnyE opX

theorem Cells.cutTo {α : Type} {enc : α → List Value} {w : World} {A : Option Addr} {l : List α} (h : Cells w A (flat enc l)) (m : Nat) : Cells w A (flat enc (l.take m)) := fun hx => by
  have e : flat enc l = flat enc (l.take m) ++ flat enc (l.drop m) := by rw [← flat_append, List.take_append_drop]
  rw [e] at h
  obtain ⟨b, off, h1, h2, h3⟩ := h (by rw [List.length_append]; omega)
  exact ⟨b, off, h1, h2, fun j u hj => h3 j u (by rw [List.getElem?_append_left (by rcases Nat.lt_or_ge j (flat enc (l.take m)).length with hl | hl; exact hl; rw [List.getElem?_eq_none hl] at hj; cases hj)]; exact hj)⟩
theorem Cells.cutFrom {α : Type} {enc : α → List Value} {k : Nat} (hk : ∀ x, (enc x).length = k) {w : World} {A : Option Addr} {l : List α} (h : Cells w A (flat enc l)) (m c : Nat) (hm : m ≤ l.length) (hc : l.length ≤ c) : Cells w (K.sub A c m k) (flat enc (l.drop m)) := by
  have hd := flat_drop hk l m
  have hl := flat_len hk l
  have hl2 := flat_len hk (l.drop m)
  have := Cells.sub (len := (flat enc (l.drop m)).length) (l := m) (k := k) (c := c) h (by rw [hl2, hl, List.length_drop, ← Nat.add_mul]; exact Nat.mul_le_mul_right _ (by omega)) (by rw [hl2, List.length_drop]; exact Nat.mul_le_mul_right _ (by omega))
  rw [hd, List.take_length] at this
  exact this
def insAt (x : Ld) (l : List Ld) : List Ld := l.takeWhile (fun y => decide (y.src < x.src)) ++ [x] ++ l.dropWhile (fun y => decide (y.src < x.src))
theorem insAt_at {x : Ld} : ∀ (l : List Ld) (k : Nat), (∀ i y, i < k → l[i]? = some y → y.src < x.src) → (∀ y, l[k]? = some y → ¬ y.src < x.src) → k ≤ l.length → insAt x l = l.take k ++ [x] ++ l.drop k
  | [], k, _, _, hk => by have : k = 0 := by simpa using hk
                          subst this; rfl
  | a :: l, 0, _, h2, _ => by
    have := h2 a rfl
    simp [insAt, this]
  | a :: l, k + 1, h1, h2, hk => by
    have ha := h1 0 a (by omega) rfl
    have ih := insAt_at (x := x) l k (fun i y hi hy => h1 (i + 1) y (by omega) (by simpa using hy)) (fun y hy => h2 y (by simpa using hy)) (by simpa using hk)
    simp only [insAt] at ih ⊢
    rw [List.takeWhile_cons, List.dropWhile_cons]
    simp only [ha, decide_true, if_true, List.take_succ_cons, List.drop_succ_cons, List.cons_append]
    rw [ih]
def standsF (p : Pl) (x : Ld) : Pl × Int := if plotB p then if okL 11 x = 0 ∧ hasB p x.src = false then if p.stands.length = 60 then (zeroPl, 2) else ({ p with stands := insAt x p.stands }, 0) else (zeroPl, 11) else (zeroPl, 13)
theorem keepP_all {p : Pl} (h : RefOk p) : keepP (fun y => decide (y.s ≠ 0)) p = p := by
  have f1 : p.loads.filter (fun x => decide ((ntL x).s ≠ 0)) = p.loads := List.filter_eq_self.2 fun x hx => by have := okL_pos (by decide) (h.o1 x hx); exact decide_eq_true (by show x.src ≠ 0; omega)
  have f2 : p.stands.filter (fun x => decide ((ntL x).s ≠ 0)) = p.stands := List.filter_eq_self.2 fun x hx => by have := okL_pos (by decide) (h.o2 x hx); exact decide_eq_true (by show x.src ≠ 0; omega)
  have f3 : p.spells.filter (fun x => decide ((ntS x).s ≠ 0)) = p.spells := List.filter_eq_self.2 fun x hx => by have := okS_pos (h.o3 x hx); exact decide_eq_true (by show x.src ≠ 0; omega)
  unfold keepP
  rw [f1, f2, f3]

set_option maxHeartbeats 1600000 in
theorem RefStands_c (w0 : World) (pl : Pl) (pA1 : Option Addr) (pn1 pc1 : Nat) (pA2 : Option Addr) (pn2 pc2 : Nat) (pA3 : Option Addr) (pn3 pc3 : Nat) (hP : PlotIn w0 pl pA1 pn1 pA2 pn2 pA3 pn3) (hcap2 : pn2 ≤ pc2) (xx : Ld) : Does Tryz.prog 15 [.agg #[.int .i64 pl.lo, .int .i64 pl.hi, .slice pA1 pn1 pc1, .slice pA2 pn2 pc2, .slice pA3 pn3 pc3, .int .i64 pl.geese], .agg #[.int .i64 xx.src, .int .i64 xx.hr, .int .i64 xx.lo, .int .i64 xx.hi, .int .i64 xx.kn, .int .i64 xx.un]] w0 fun v w => ∃ v1, v = .tuple #[v1, .int .i64 (standsF pl xx).2] ∧ GivesPlot (standsF pl xx).1 w0 v1 w := by
 have hm1 := hP.m1; have hm2 := hP.m2; have hm3 := hP.m3
 refine calls_of (n := 68) Tryz.func15 rfl Tryz.ntmps15 rfl ?_
 have hI := Inv.start w0
 refine wp_seq (rgn (by kernel_rfl) (seq_c (s_boxI hI [iv pl.lo, iv pl.hi, .slice pA1 pn1 pc1, .slice pA2 pn2 pc2, .slice pA3 pn3 pc3, iv pl.geese] rfl ?_)))
 intro b1 w hI
 refine seq_c (s_boxI hI [iv xx.src, iv xx.hr, iv xx.lo, iv xx.hi, iv xx.kn, iv xx.un] rfl ?_)
 intro b2 w hI
 refine seq_c (s_allocI hI [iv 0, iv 0, .slice none 0 0, .slice none 0 0, .slice none 0 0, iv 0] Tryz.zeroValue28 rfl ?_)
 intro b3 w hI
 refine pu (iv 0) (by kernel_rfl) (seq_nil (wp_seq (wp_seq (rgn (by kernel_rfl) (seq_c (s_loadK hI 2 6 [iv pl.lo, iv pl.hi, .slice pA1 pn1 pc1, .slice pA2 pn2 pc2, .slice pA3 pn3 pc3, iv pl.geese] Tryz.isAgg28 Tryz.sizeOf28 rfl rfl rfl rfl ?_))))))
 refine seq_c (s_callv hI 23 [.agg #[iv pl.lo, iv pl.hi, .slice pA1 pn1 pc1, .slice pA2 pn2 pc2, .slice pA3 pn3 pc3, iv pl.geese]] (iv (codeI (plotB pl) 13)) (by kernel_rfl) (RefCheck_c _ pl pA1 pn1 pc1 pA2 pn2 pc2 pA3 pn3 pc3 (hP.inv0 hI)) ?_)
 intro w hI
 refine seq_c (s_neq rfl rfl ?_ ?_)
 ·intro h1
  refine seq_nil (wp_condT rfl (wp_seq (rgn (by kernel_rfl) (pu (.agg #[iv 0, iv 0, .slice none 0 0, .slice none 0 0, .slice none 0 0, iv 0]) (by kernel_rfl) (seq_c (s_store hI 0 6 [iv 0, iv 0, .slice none 0 0, .slice none 0 0, .slice none 0 0, iv 0] Tryz.sizeOf28 rfl rfl rfl rfl rfl (Nat.le_of_ble_eq_true rfl) ?_))))))
  intro w hI
  refine pu (iv 13) (by kernel_rfl) (seq_nil (wp_ret ?_))
  have hI := hI.nilRow 33
  have hI := hI.nilRow 31
  have hI := hI.nilRow 30
  have e : standsF pl xx = (zeroPl, 13) := by rw [standsF, if_neg (by rw [codeI_no h1]; simp)]
  exact ⟨.tuple #[.agg #[iv 0, iv 0, .slice none 0 0, .slice none 0 0, .slice none 0 0, iv 0], iv 13], Ret.ct rfl rfl (run_loadK hI 3 6 [iv 0, iv 0, .slice none 0 0, .slice none 0 0, .slice none 0 0, iv 0] Tryz.isAgg28 Tryz.sizeOf28 rfl rfl rfl) rfl, (by rw [e]; exact ⟨.agg #[iv 0, iv 0, .slice none 0 0, .slice none 0 0, .slice none 0 0, iv 0], rfl, ⟨none, 0, [], none, 0, [], none, 0, [], rfl, hI.pickL [0, 1, 2] (by decide) rfl, Row.nil_ 6, Row.nil_ 6, Row.nil_ 6⟩⟩)⟩
 ·intro h2
  refine seq_nil (wp_condF rfl (wp_skip (wp_seq (wp_seq (wp_drawn2 hI [0, 1, 2] (by decide) rfl (by kernel_rfl) (by kernel_rfl) ?_)))))
  intro hsub
  refine al_light 0 (.agg #[iv xx.src, iv xx.hr, iv xx.lo, iv xx.hi, iv xx.kn, iv xx.un]) hsub rfl (by kernel_rfl) (fun w hI => s_loadK hI 1 6 [iv xx.src, iv xx.hr, iv xx.lo, iv xx.hi, iv xx.kn, iv xx.un] Tryz.isAgg31 Tryz.sizeOf31 rfl rfl rfl rfl ⟨rfl, Below.refl _ _⟩) ?_
  have hsm := plotB_small (codeI_ok h2 (by decide)); have hs1 := hsm.s1; have hs2 := hsm.s2; have hs3 := hsm.s3; have hsl := srcs_len hsm
  refine al_light 1 (iv (codeI (loadB xx.src xx.hr xx.lo xx.hi xx.kn xx.un) 11)) hsub rfl (by kernel_rfl) (fun w hI => s_call 27 [.agg #[iv xx.src, iv xx.hr, iv xx.lo, iv xx.hi, iv xx.kn, iv xx.un]] (by kernel_rfl) (refCheckStand_c xx.src xx.hr xx.lo xx.hi xx.kn xx.un _) (fun v' w' h => h)) ?_
  by_cases h3 : (codeI (loadB xx.src xx.hr xx.lo xx.hi xx.kn xx.un) 11) = 0
  ·refine al_light 2 (.bool false) hsub rfl (by kernel_rfl) (fun w hI => s_neq rfl rfl (fun h => absurd h3 h) (fun _ => ⟨rfl, Below.refl _ _⟩)) ?_
   refine alp 3 (.bool false) hsub rfl (by kernel_rfl) (fun _ => (by kernel_rfl)) ?_
   refine al_on 4 (.agg #[iv pl.lo, iv pl.hi, .slice pA1 pn1 pc1, .slice pA2 pn2 pc2, .slice pA3 pn3 pc3, iv pl.geese]) hsub rfl (by kernel_rfl) (by kernel_rfl) (fun w hI => s_loadK hI 2 6 [iv pl.lo, iv pl.hi, .slice pA1 pn1 pc1, .slice pA2 pn2 pc2, .slice pA3 pn3 pc3, iv pl.geese] Tryz.isAgg28 Tryz.sizeOf28 rfl rfl rfl rfl ⟨rfl, Below.refl _ _⟩) ?_
   refine al_on 6 (.pointer (some ⟨b2, 0, none⟩)) hsub rfl (by kernel_rfl) (by kernel_rfl) (fun w hI => s_pure (.pointer (some ⟨b2, 0, none⟩)) (by kernel_rfl) ⟨rfl, Below.refl _ _⟩) ?_
   refine al_on 7 (iv xx.src) hsub rfl (by kernel_rfl) (by kernel_rfl) (fun w hI => s_load1 hI 1 (iv xx.src) Tryz.isAgg3 rfl rfl rfl ⟨rfl, Below.refl _ _⟩) ?_
   refine any_heavy [5] (by kernel_rfl) rfl (each1 ?_)
   intro w hI
   refine ol_on rfl (by kernel_rfl) (s_callNew hI 64 [.agg #[iv pl.lo, iv pl.hi, .slice pA1 pn1 pc1, .slice pA2 pn2 pc2, .slice pA3 pn3 pc3, iv pl.geese]] (by kernel_rfl) (sources_c _ pl pA1 pn1 pc1 pA2 pn2 pc2 pA3 pn3 pc3 (hP.inv0 hI) (plotB_small (codeI_ok h2 (by decide)))) ?_)
   intro g4 c5 cl6 w hI r7
   refine ⟨_, hI, subk (fun _ h => h.pickL [1, 2, 3] (by decide) rfl) ?_⟩
   intro hsub
   have r7 : Row 1 g4 (srcsOf pl).length c5 cl6 (flat eInt (srcsOf pl)) := r7
   refine any_heavy [8] (by kernel_rfl) rfl (each1 ?_)
   intro w hI
   rcases Bool.eq_false_or_eq_true (decide (xx.src ∈ (srcsOf pl))) with h4 | h4
   ·
    refine ol_on rfl (by kernel_rfl) (s_callv hI 59 [slv g4 (srcsOf pl).length c5, iv xx.src] (.bool true) (by kernel_rfl) (Does.mono (Has_c _ (srcsOf pl) (g4.map fun b => ⟨b, 0, none⟩) (srcsOf pl).length c5 xx.src (r7.n_eq eInt_len (by decide)) (by omega) (hI.rowCells 0 rfl r7)) (fun v' w' h => ⟨h.1.trans (congrArg Value.bool h4), h.2⟩)) ?_)
    intro w hI
    refine ⟨_, hI, subk (fun _ h => h.pickL [1, 2, 3] (by decide) rfl) ?_⟩
    intro hsub
    refine alp 9 (.bool true) hsub rfl (by kernel_rfl) (fun _ => (by kernel_rfl)) ?_
    refine any_end (by kernel_rfl) (fun w hI => ?_)
    refine wp_condT rfl (wp_seq (rgn (by kernel_rfl) (pu (.agg #[iv 0, iv 0, .slice none 0 0, .slice none 0 0, .slice none 0 0, iv 0]) (by kernel_rfl) (seq_c (s_store hI 1 6 [iv 0, iv 0, .slice none 0 0, .slice none 0 0, .slice none 0 0, iv 0] Tryz.sizeOf28 rfl rfl rfl rfl rfl (Nat.le_of_ble_eq_true rfl) ?_)))))
    intro w hI
    refine pu (iv 11) (by kernel_rfl) (seq_nil (wp_ret ?_))
    have hI := hI.nilRow 33
    have hI := hI.nilRow 31
    have hI := hI.nilRow 30
    have e : standsF pl xx = (zeroPl, 11) := by rw [standsF, if_pos (codeI_ok h2 (by decide)), if_neg (by first | exact (fun h => absurd h.1 (by assumption)) | exact (fun h => absurd (h.2.symm.trans ((hasB_eq _ _).trans (by assumption))) (by decide)))]
    exact ⟨.tuple #[.agg #[iv 0, iv 0, .slice none 0 0, .slice none 0 0, .slice none 0 0, iv 0], iv 11], Ret.ct rfl rfl (run_loadK hI 4 6 [iv 0, iv 0, .slice none 0 0, .slice none 0 0, .slice none 0 0, iv 0] Tryz.isAgg28 Tryz.sizeOf28 rfl rfl rfl) rfl, (by rw [e]; exact ⟨.agg #[iv 0, iv 0, .slice none 0 0, .slice none 0 0, .slice none 0 0, iv 0], rfl, ⟨none, 0, [], none, 0, [], none, 0, [], rfl, hI.pickL [0, 1, 2] (by decide) rfl, Row.nil_ 6, Row.nil_ 6, Row.nil_ 6⟩⟩)⟩
   ·
    refine ol_on rfl (by kernel_rfl) (s_callv hI 59 [slv g4 (srcsOf pl).length c5, iv xx.src] (.bool false) (by kernel_rfl) (Does.mono (Has_c _ (srcsOf pl) (g4.map fun b => ⟨b, 0, none⟩) (srcsOf pl).length c5 xx.src (r7.n_eq eInt_len (by decide)) (by omega) (hI.rowCells 0 rfl r7)) (fun v' w' h => ⟨h.1.trans (congrArg Value.bool h4), h.2⟩)) ?_)
    intro w hI
    refine ⟨_, hI, subk (fun _ h => h.pickL [1, 2, 3] (by decide) rfl) ?_⟩
    intro hsub
    refine alp 9 (.bool false) hsub rfl (by kernel_rfl) (fun _ => (by kernel_rfl)) ?_
    refine any_end (by kernel_rfl) (fun w hI => ?_)
    refine wp_condF rfl (wp_skip (wp_seq (wp_seq (rgn (by kernel_rfl) (pu (.pointer (some ⟨b1, 3, none⟩)) (by kernel_rfl) (seq_c (s_load1 hI 3 (.slice pA2 pn2 pc2) Tryz.isAgg25 rfl rfl rfl ?_)))))))
    refine pu (iv ((pn2 : Nat) : Int)) (by kernel_rfl) (seq_c (s_eql rfl rfl ?_ ?_))
    ·intro h5
     refine seq_nil (wp_condT rfl (wp_seq (rgn (by kernel_rfl) (pu (.agg #[iv 0, iv 0, .slice none 0 0, .slice none 0 0, .slice none 0 0, iv 0]) (by kernel_rfl) (seq_c (s_store hI 1 6 [iv 0, iv 0, .slice none 0 0, .slice none 0 0, .slice none 0 0, iv 0] Tryz.sizeOf28 rfl rfl rfl rfl rfl (Nat.le_of_ble_eq_true rfl) ?_))))))
     intro w hI
     refine pu (iv 2) (by kernel_rfl) (seq_nil (wp_ret ?_))
     have hI := hI.nilRow 33
     have hI := hI.nilRow 31
     have hI := hI.nilRow 30
     have e : standsF pl xx = (zeroPl, 2) := by rw [standsF, if_pos (codeI_ok h2 (by decide)), if_pos ⟨by assumption, (hasB_eq _ _).trans (by assumption)⟩, if_pos (by omega)]
     exact ⟨.tuple #[.agg #[iv 0, iv 0, .slice none 0 0, .slice none 0 0, .slice none 0 0, iv 0], iv 2], Ret.ct rfl rfl (run_loadK hI 4 6 [iv 0, iv 0, .slice none 0 0, .slice none 0 0, .slice none 0 0, iv 0] Tryz.isAgg28 Tryz.sizeOf28 rfl rfl rfl) rfl, (by rw [e]; exact ⟨.agg #[iv 0, iv 0, .slice none 0 0, .slice none 0 0, .slice none 0 0, iv 0], rfl, ⟨none, 0, [], none, 0, [], none, 0, [], rfl, hI.pickL [0, 1, 2] (by decide) rfl, Row.nil_ 6, Row.nil_ 6, Row.nil_ 6⟩⟩)⟩
    ·intro h6
     refine seq_nil (wp_condF rfl (wp_skip (wp_seq (rgn (by kernel_rfl) (seq_c (s_loadK hI 3 6 [iv pl.lo, iv pl.hi, .slice pA1 pn1 pc1, .slice pA2 pn2 pc2, .slice pA3 pn3 pc3, iv pl.geese] Tryz.isAgg28 Tryz.sizeOf28 rfl rfl rfl rfl ?_))))))
     refine seq_c (s_callPlotT hI (q := keepP (fun y => decide (y.s ≠ 0)) pl) 65 [.agg #[iv pl.lo, iv pl.hi, .slice pA1 pn1 pc1, .slice pA2 pn2 pc2, .slice pA3 pn3 pc3, iv pl.geese], iv 0] (by kernel_rfl) (without_c _ pl pA1 pn1 pc1 pA2 pn2 pc2 pA3 pn3 pc3 (hP.inv0 hI) (plotB_small (codeI_ok h2 (by decide))) 0) ?_)
     intro g8 c9 cl10 g12 c13 cl14 g16 c17 cl18 w hI r11 r15 r19
     refine pu (.tuple #[.agg #[iv ((keepP (fun y => decide (y.s ≠ 0)) pl).lo), iv ((keepP (fun y => decide (y.s ≠ 0)) pl).hi), slv g8 ((keepP (fun y => decide (y.s ≠ 0)) pl).loads.length) c9, slv g12 ((keepP (fun y => decide (y.s ≠ 0)) pl).stands.length) c13, slv g16 ((keepP (fun y => decide (y.s ≠ 0)) pl).spells.length) c17, iv ((keepP (fun y => decide (y.s ≠ 0)) pl).geese)], .bool (decide (0 ∈ srcsOf pl))]) (by kernel_rfl) (pu (.agg #[iv ((keepP (fun y => decide (y.s ≠ 0)) pl).lo), iv ((keepP (fun y => decide (y.s ≠ 0)) pl).hi), slv g8 ((keepP (fun y => decide (y.s ≠ 0)) pl).loads.length) c9, slv g12 ((keepP (fun y => decide (y.s ≠ 0)) pl).stands.length) c13, slv g16 ((keepP (fun y => decide (y.s ≠ 0)) pl).spells.length) c17, iv ((keepP (fun y => decide (y.s ≠ 0)) pl).geese)]) (by kernel_rfl) (pu (.bool (decide (0 ∈ srcsOf pl))) (by kernel_rfl) (seq_c (s_allocI hI [iv 0, iv 0, .slice none 0 0, .slice none 0 0, .slice none 0 0, iv 0] Tryz.zeroValue28 rfl ?_))))
     intro b20 w hI
     refine seq_c (s_store hI 0 6 [iv ((keepP (fun y => decide (y.s ≠ 0)) pl).lo), iv ((keepP (fun y => decide (y.s ≠ 0)) pl).hi), slv g8 ((keepP (fun y => decide (y.s ≠ 0)) pl).loads.length) c9, slv g12 ((keepP (fun y => decide (y.s ≠ 0)) pl).stands.length) c13, slv g16 ((keepP (fun y => decide (y.s ≠ 0)) pl).spells.length) c17, iv ((keepP (fun y => decide (y.s ≠ 0)) pl).geese)] Tryz.sizeOf28 rfl rfl rfl rfl rfl (Nat.le_of_ble_eq_true rfl) ?_)
     intro w hI
     refine pu (.bool (decide (0 ∈ srcsOf pl))) (by kernel_rfl) (seq_nil (wp_seq (rgn (by kernel_rfl) (pu (iv 0) (by kernel_rfl) (seq_nil (wp_seq (wp_block ?_)))))))
     refine wp_loop (fun m ρ w => ∃ (k : Nat), Agree ρ [(2, .pointer (some ⟨b1, 0, none⟩)), (3, .pointer (some ⟨b2, 0, none⟩)), (4, .pointer (some ⟨b3, 0, none⟩)), (6, .pointer (some ⟨b20, 0, none⟩)), (8, iv (k : Int))] ∧ Inv none w0 w [(some b20, blk [iv ((keepP (fun y => decide (y.s ≠ 0)) pl).lo), iv ((keepP (fun y => decide (y.s ≠ 0)) pl).hi), slv g8 ((keepP (fun y => decide (y.s ≠ 0)) pl).loads.length) c9, slv g12 ((keepP (fun y => decide (y.s ≠ 0)) pl).stands.length) c13, slv g16 ((keepP (fun y => decide (y.s ≠ 0)) pl).spells.length) c17, iv ((keepP (fun y => decide (y.s ≠ 0)) pl).geese)] 28), (g8, blk cl10 30), (g12, blk cl14 31), (g16, blk cl18 33), (g4, blk cl6 3), (some b3, blk [iv 0, iv 0, .slice none 0 0, .slice none 0 0, .slice none 0 0, iv 0] 28), (some b2, blk [iv xx.src, iv xx.hr, iv xx.lo, iv xx.hi, iv xx.kn, iv xx.un] 31), (some b1, blk [iv pl.lo, iv pl.hi, .slice pA1 pn1 pc1, .slice pA2 pn2 pc2, .slice pA3 pn3 pc3, iv pl.geese] 28)] ∧ (k ≤ pn2) ∧ (∀ i y, i < k → pl.stands[i]? = some y → y.src < xx.src) ∧ m = pn2 - k) (m := pn2 - 0) ⟨0, ⟨rfl, rfl, rfl, rfl, rfl, trivial⟩, hI.pickL [0, 1, 2, 3, 4, 5, 6, 7] (by decide) rfl, (by omega), (fun i y h => absurd h (by omega)), rfl⟩ ?_
     rintro m ρ w ⟨k, hag, hI, hk, hin, hm⟩
     obtain ⟨ρ, rfl⟩ := hag.form; clear hag
     refine wp_seq (wp_seq (wp_drawn2 hI [0, 1, 2, 3, 4, 5, 6, 7] (by decide) rfl (by kernel_rfl) (by kernel_rfl) ?_))
     intro hsub
     refine alp 0 (iv (k : Int)) hsub rfl (by kernel_rfl) (fun _ => (by kernel_rfl)) ?_
     refine alp 1 (.pointer (some ⟨b1, 3, none⟩)) hsub rfl (by kernel_rfl) (fun _ => (by kernel_rfl)) ?_
     refine al_light 2 (.slice pA2 pn2 pc2) hsub rfl (by kernel_rfl) (fun w hI => s_load1 hI 7 (.slice pA2 pn2 pc2) Tryz.isAgg25 rfl rfl rfl ⟨rfl, Below.refl _ _⟩) ?_
     refine al_light 3 (iv (pn2 : Int)) hsub rfl (by kernel_rfl) (fun w hI => s_pure (iv ((pn2 : Nat) : Int)) (by kernel_rfl) ⟨rfl, Below.refl _ _⟩) ?_
     by_cases h7 : (k : Int) < (pn2 : Int)
     ·refine al_light 4 (.bool true) hsub rfl (by kernel_rfl) (fun w hI => s_lss rfl rfl (fun _ => ⟨rfl, Below.refl _ _⟩) (fun h => absurd h7 h)) ?_
      refine alp 5 (.bool true) hsub rfl (by kernel_rfl) (fun _ => (by kernel_rfl)) ?_
      refine al_on 6 (.pointer (some ⟨b1, 3, none⟩)) hsub rfl (by kernel_rfl) (by kernel_rfl) (fun w hI => s_pure (.pointer (some ⟨b1, 3, none⟩)) (by kernel_rfl) ⟨rfl, Below.refl _ _⟩) ?_
      refine al_on 7 (.slice pA2 pn2 pc2) hsub rfl (by kernel_rfl) (by kernel_rfl) (fun w hI => s_load1 hI 7 (.slice pA2 pn2 pc2) Tryz.isAgg25 rfl rfl rfl ⟨rfl, Below.refl _ _⟩) ?_
      refine al_on 8 (iv (k : Int)) hsub rfl (by kernel_rfl) (by kernel_rfl) (fun w hI => s_pure (iv (k : Int)) (by kernel_rfl) ⟨rfl, Below.refl _ _⟩) ?_
      obtain ⟨x21, hx22⟩ := get_lt (l := pl.stands) (i := k) (by omega)
      obtain ⟨b23, o24, hA25, hb26, he27⟩ := hP.c2.at_ eLd_len (by decide) hx22
      refine al_on 9 (.pointer (some ⟨b23, o24 + k * 6, none⟩)) hsub rfl (by kernel_rfl) (by kernel_rfl) (fun w hI => s_indexA k Tryz.underlying25 Tryz.sizeOf31 rfl hA25 rfl rfl (by omega) ⟨rfl, Below.refl _ _⟩) ?_
      refine al_on 10 (.pointer (some ⟨b23, o24 + k * 6, none⟩)) hsub rfl (by kernel_rfl) (by kernel_rfl) (fun w hI => s_pure (.pointer (some ⟨b23, o24 + k * 6, none⟩)) (by kernel_rfl) ⟨rfl, Below.refl _ _⟩) ?_
      refine al_on 11 (iv x21.src) hsub rfl (by kernel_rfl) (by kernel_rfl) (fun w hI => s_loadB1 hI (iv x21.src) Tryz.isAgg3 rfl hb26 (by simp) (he27 0 _ rfl) ⟨rfl, Below.refl _ _⟩) ?_
      refine al_on 12 (.pointer (some ⟨b2, 0, none⟩)) hsub rfl (by kernel_rfl) (by kernel_rfl) (fun w hI => s_pure (.pointer (some ⟨b2, 0, none⟩)) (by kernel_rfl) ⟨rfl, Below.refl _ _⟩) ?_
      refine al_on 13 (iv xx.src) hsub rfl (by kernel_rfl) (by kernel_rfl) (fun w hI => s_load1 hI 6 (iv xx.src) Tryz.isAgg3 rfl rfl rfl ⟨rfl, Below.refl _ _⟩) ?_
      by_cases h8 : x21.src < xx.src
      ·refine al_on 14 (.bool true) hsub rfl (by kernel_rfl) (by kernel_rfl) (fun w hI => s_lss rfl rfl (fun _ => ⟨rfl, Below.refl _ _⟩) (fun h => absurd h8 h)) ?_
       refine alp 15 (.bool true) hsub rfl (by kernel_rfl) (fun _ => (by kernel_rfl)) ?_
       refine any_end (by kernel_rfl) (fun w hI => ?_)
       refine wp_condT rfl (wp_skip (wp_block ?_))
       refine rgn (by kernel_rfl) (pu (iv (k : Int)) (by kernel_rfl) (seq_c (s_add rfl rfl (by omega) ?_)))
       refine pu (iv ((k : Int) + 1)) (by kernel_rfl) (seq_nil ?_)
       exact ⟨rfl, _, (by omega), ⟨k + 1, ⟨rfl, rfl, rfl, rfl, rfl, trivial⟩, hI.pickL [0, 1, 2, 3, 4, 5, 6, 7] (by decide) rfl, (by omega), (all_step (Q := fun _ y => y.src < xx.src) hin hx22 (by assumption)), rfl⟩⟩
      ·refine al_on 14 (.bool false) hsub rfl (by kernel_rfl) (by kernel_rfl) (fun w hI => s_lss rfl rfl (fun h => absurd h h8) (fun _ => ⟨rfl, Below.refl _ _⟩)) ?_
       refine alp 15 (.bool false) hsub rfl (by kernel_rfl) (fun _ => (by kernel_rfl)) ?_
       refine any_end (by kernel_rfl) (fun w hI => ?_)
       refine wp_condF rfl (wp_exit ?_)
       refine wp_seq ?_
       replace hI := hI.pickL [1, 3, 4, 5, 6, 7, 0, 2] (by decide) rfl
       refine wp_drawn2 hI [0, 1, 2, 3, 4, 5] (by decide) rfl (by kernel_rfl) (by kernel_rfl) ?_
       intro hsub
       refine alp 1 (.pointer (some ⟨b1, 3, none⟩)) hsub rfl (by kernel_rfl) (fun _ => (by kernel_rfl)) ?_
       refine al_light 2 (.slice pA2 pn2 pc2) hsub rfl (by kernel_rfl) (fun w hI => s_load1 hI 5 (.slice pA2 pn2 pc2) Tryz.isAgg25 rfl rfl rfl ⟨rfl, Below.refl _ _⟩) ?_
       refine alp 3 (iv (k : Int)) hsub rfl (by kernel_rfl) (fun _ => (by kernel_rfl)) ?_
       refine al_light 4 (.slice (pA2) k pc2) hsub rfl (by kernel_rfl) (fun w hI => s_sliceHi k Tryz.underlying25 Tryz.sizeOf31 rfl rfl (by omega) ⟨rfl, Below.refl _ _⟩) ?_
       refine al_light 6 (.agg #[iv xx.src, iv xx.hr, iv xx.lo, iv xx.hi, iv xx.kn, iv xx.un]) hsub rfl (by kernel_rfl) (fun w hI => s_loadK hI 4 6 [iv xx.src, iv xx.hr, iv xx.lo, iv xx.hi, iv xx.kn, iv xx.un] Tryz.isAgg31 Tryz.sizeOf31 rfl rfl rfl rfl ⟨rfl, Below.refl _ _⟩) ?_
       refine alp 9 (.pointer (some ⟨b1, 3, none⟩)) hsub rfl (by kernel_rfl) (fun _ => (by kernel_rfl)) ?_
       refine al_light 10 (.slice pA2 pn2 pc2) hsub rfl (by kernel_rfl) (fun w hI => s_load1 hI 5 (.slice pA2 pn2 pc2) Tryz.isAgg25 rfl rfl rfl ⟨rfl, Below.refl _ _⟩) ?_
       refine alp 11 (iv (k : Int)) hsub rfl (by kernel_rfl) (fun _ => (by kernel_rfl)) ?_
       refine al_light 12 (.slice (sub pA2 pc2 k 6) (pn2 - k) (pc2 - k)) hsub rfl (by kernel_rfl) (fun w hI => s_sliceLo k Tryz.underlying25 Tryz.sizeOf31 rfl rfl (by omega) (by omega) ⟨rfl, Below.refl _ _⟩) ?_
       refine any_heavy [0, 7] (by kernel_rfl) rfl (each2 ?_ ?_)
       ·intro w hI
        refine ol_c rfl (s_new hI [] 31 (fun b => slv (some b) 0 0) (by kernel_rfl) ?_)
        intro b28 w hI
        refine ⟨_, hI, subk (fun _ h => h.pickL [1, 2, 3, 4, 5, 6] (by decide) rfl) ?_⟩
        intro hsub
        refine any_heavy [5, 7] (by kernel_rfl) rfl (each2 ?_ ?_)
        ·intro w hI
         refine ol_c rfl (s_app hI Tryz.underlying25 (z := .agg #[iv 0, iv 0, iv 0, iv 0, iv 0, iv 0]) (k := 6) (bytes := 48) (by kernel_rfl) rfl rfl 0 rfl rfl (Row.zero_ 6 b28) (flat eLd (pl.stands.take k)) rfl (by rw [flat_len eLd_len, List.length_take, Nat.min_eq_left (by omega)]) (Cells.cutTo (hP.c2.inv0 hI) k) (flat_cell eLd_cell _) (by omega) (by omega) ?_)
         intro g29 c30 cl31 w hI r32
         refine ⟨_, hI, subk (fun _ h => h.pickL [1, 2, 3, 4, 5, 6] (by decide) rfl) ?_⟩
         intro hsub
         have r32 : Row 6 g29 (0 + k) c30 cl31 (flat eLd (pl.stands.take k)) := r32
         refine any_heavy [7] (by kernel_rfl) rfl (each1 ?_)
         intro w hI
         refine ol_c rfl (s_new hI [iv xx.src, iv xx.hr, iv xx.lo, iv xx.hi, iv xx.kn, iv xx.un] 31 (fun b => slv (some b) 1 1) (by kernel_rfl) ?_)
         intro b33 w hI
         refine ⟨_, hI, subk (fun _ h => h.pickL [2, 3, 4, 5, 6, 7] (by decide) rfl) ?_⟩
         intro hsub
         refine any_heavy [8] (by kernel_rfl) rfl (each1 ?_)
         intro w hI
         refine ol_c rfl (s_app hI Tryz.underlying25 (z := .agg #[iv 0, iv 0, iv 0, iv 0, iv 0, iv 0]) (k := 6) (bytes := 48) (by kernel_rfl) rfl rfl 1 rfl rfl r32 [iv xx.src, iv xx.hr, iv xx.lo, iv xx.hi, iv xx.kn, iv xx.un] rfl rfl (hI.cells 0 (off := 0) rfl (fun j u h => by rw [Nat.zero_add]; exact h)) (by simp [Value.oneCell']) (by omega) (by omega) ?_)
         intro g34 c35 cl36 w hI r37
         refine ⟨_, hI, subk (fun _ h => h.pickL [2, 3, 4, 5, 6, 7] (by decide) rfl) ?_⟩
         intro hsub
         have r37 : Row 6 g34 (0 + k + 1) c35 cl36 (flat eLd ((pl.stands.take k) ++ [xx])) := r37.snoc _ rfl
         refine any_heavy [13] (by kernel_rfl) rfl (each1 ?_)
         intro w hI
         refine ol_c rfl (s_app hI Tryz.underlying25 (z := .agg #[iv 0, iv 0, iv 0, iv 0, iv 0, iv 0]) (k := 6) (bytes := 48) (by kernel_rfl) rfl rfl 1 rfl rfl r37 (flat eLd (pl.stands.drop k)) rfl (by rw [flat_len eLd_len, List.length_drop, ← hm2]) (Cells.cutFrom eLd_len (hP.c2.inv0 hI) k _ (by omega) (by omega)) (flat_cell eLd_cell _) (by omega) (by omega) ?_)
         intro g38 c39 cl40 w hI r41
         refine ⟨_, hI, subk (fun _ h => h.pickL [2, 3, 4, 5, 6, 7] (by decide) rfl) ?_⟩
         intro hsub
         have r41 : Row 6 g38 (0 + k + 1 + (pn2 - k)) c39 cl40 (flat eLd (((pl.stands.take k) ++ [xx]) ++ (pl.stands.drop k))) := r41.more
         refine alp 14 (.pointer (some ⟨b20, 3, none⟩)) hsub rfl (by kernel_rfl) (fun _ => (by kernel_rfl)) ?_
         refine any_heavy [15] (by kernel_rfl) rfl (each1 ?_)
         intro w hI
         refine ol_c rfl (s_store hI 8 1 [slv g38 (0 + k + 1 + (pn2 - k)) c39] Tryz.sizeOf25 rfl rfl rfl rfl rfl (Nat.le_of_ble_eq_true rfl) ?_)
         intro w hI
         refine ⟨_, hI, subk (fun _ h => h.pickL [2, 3, 4, 5, 6, 7] (by decide) rfl) ?_⟩
         intro hsub
         refine any_end (by kernel_rfl) (fun w hI => ?_)
         refine wp_seq (rgn (by kernel_rfl) (seq_c (s_loadK hI 8 6 [iv ((keepP (fun y => decide (y.s ≠ 0)) pl).lo), iv ((keepP (fun y => decide (y.s ≠ 0)) pl).hi), slv g8 ((keepP (fun y => decide (y.s ≠ 0)) pl).loads.length) c9, slv g38 (0 + k + 1 + (pn2 - k)) c39, slv g16 ((keepP (fun y => decide (y.s ≠ 0)) pl).spells.length) c17, iv ((keepP (fun y => decide (y.s ≠ 0)) pl).geese)] Tryz.isAgg28 Tryz.sizeOf28 rfl rfl rfl rfl ?_)))
         refine seq_c (s_store hI 5 6 [iv ((keepP (fun y => decide (y.s ≠ 0)) pl).lo), iv ((keepP (fun y => decide (y.s ≠ 0)) pl).hi), slv g8 ((keepP (fun y => decide (y.s ≠ 0)) pl).loads.length) c9, slv g38 (0 + k + 1 + (pn2 - k)) c39, slv g16 ((keepP (fun y => decide (y.s ≠ 0)) pl).spells.length) c17, iv ((keepP (fun y => decide (y.s ≠ 0)) pl).geese)] Tryz.sizeOf28 rfl rfl rfl rfl rfl (Nat.le_of_ble_eq_true rfl) ?_)
         intro w hI
         refine pu (iv 0) (by kernel_rfl) (seq_nil (wp_ret ?_))
         have hka := keepP_all ((plotB_iff pl).1 (codeI_ok h2 (by decide)))
         have hins : insAt xx pl.stands = pl.stands.take k ++ [xx] ++ pl.stands.drop k := insAt_at _ _ hin (fun y hy => by have e := Option.some.inj (hy.symm.trans hx22); rw [e]; assumption) (by omega)
         have hln : 0 + k + 1 + (pn2 - k) = (insAt xx pl.stands).length := by rw [hins]; simp; omega
         have e : standsF pl xx = ({ pl with stands := insAt xx pl.stands }, 0) := by rw [standsF, if_pos (codeI_ok h2 (by decide)), if_pos ⟨by assumption, (hasB_eq _ _).trans (by assumption)⟩, if_neg (by omega)]
         exact ⟨.tuple #[.agg #[iv ((keepP (fun y => decide (y.s ≠ 0)) pl).lo), iv ((keepP (fun y => decide (y.s ≠ 0)) pl).hi), slv g8 ((keepP (fun y => decide (y.s ≠ 0)) pl).loads.length) c9, slv g38 (0 + k + 1 + (pn2 - k)) c39, slv g16 ((keepP (fun y => decide (y.s ≠ 0)) pl).spells.length) c17, iv ((keepP (fun y => decide (y.s ≠ 0)) pl).geese)], iv 0], Ret.ct rfl rfl (run_loadK hI 5 6 [iv ((keepP (fun y => decide (y.s ≠ 0)) pl).lo), iv ((keepP (fun y => decide (y.s ≠ 0)) pl).hi), slv g8 ((keepP (fun y => decide (y.s ≠ 0)) pl).loads.length) c9, slv g38 (0 + k + 1 + (pn2 - k)) c39, slv g16 ((keepP (fun y => decide (y.s ≠ 0)) pl).spells.length) c17, iv ((keepP (fun y => decide (y.s ≠ 0)) pl).geese)] Tryz.isAgg28 Tryz.sizeOf28 rfl rfl rfl) rfl, (by rw [e]; exact ⟨.agg #[iv ((keepP (fun y => decide (y.s ≠ 0)) pl).lo), iv ((keepP (fun y => decide (y.s ≠ 0)) pl).hi), slv g8 ((keepP (fun y => decide (y.s ≠ 0)) pl).loads.length) c9, slv g38 (0 + k + 1 + (pn2 - k)) c39, slv g16 ((keepP (fun y => decide (y.s ≠ 0)) pl).spells.length) c17, iv ((keepP (fun y => decide (y.s ≠ 0)) pl).geese)], rfl, g8, c9, cl10, g38, c39, cl40, g16, c17, cl18, (by rw [hka, hln]; rfl), hI.pickL [2, 1, 3] (by decide) rfl, (r11.to (by rw [hka]) (by rw [hka])), (r41.to (by simp [hins]) hln), (r19.to (by rw [hka]) (by rw [hka]))⟩)⟩
        ·intro w hI
         refine ol_c rfl (s_new hI [iv xx.src, iv xx.hr, iv xx.lo, iv xx.hi, iv xx.kn, iv xx.un] 31 (fun b => slv (some b) 1 1) (by kernel_rfl) ?_)
         intro b42 w hI
         refine ⟨_, hI, subk (fun _ h => h.pickL [2, 3, 4, 5, 6, 7] (by decide) rfl) ?_⟩
         intro hsub
         refine any_heavy [5] (by kernel_rfl) rfl (each1 ?_)
         intro w hI
         refine ol_c rfl (s_app hI Tryz.underlying25 (z := .agg #[iv 0, iv 0, iv 0, iv 0, iv 0, iv 0]) (k := 6) (bytes := 48) (by kernel_rfl) rfl rfl 1 rfl rfl (Row.zero_ 6 b28) (flat eLd (pl.stands.take k)) rfl (by rw [flat_len eLd_len, List.length_take, Nat.min_eq_left (by omega)]) (Cells.cutTo (hP.c2.inv0 hI) k) (flat_cell eLd_cell _) (by omega) (by omega) ?_)
         intro g43 c44 cl45 w hI r46
         refine ⟨_, hI, subk (fun _ h => h.pickL [2, 3, 4, 5, 6, 7] (by decide) rfl) ?_⟩
         intro hsub
         have r46 : Row 6 g43 (0 + k) c44 cl45 (flat eLd (pl.stands.take k)) := r46
         refine any_heavy [8] (by kernel_rfl) rfl (each1 ?_)
         intro w hI
         refine ol_c rfl (s_app hI Tryz.underlying25 (z := .agg #[iv 0, iv 0, iv 0, iv 0, iv 0, iv 0]) (k := 6) (bytes := 48) (by kernel_rfl) rfl rfl 1 rfl rfl r46 [iv xx.src, iv xx.hr, iv xx.lo, iv xx.hi, iv xx.kn, iv xx.un] rfl rfl (hI.cells 0 (off := 0) rfl (fun j u h => by rw [Nat.zero_add]; exact h)) (by simp [Value.oneCell']) (by omega) (by omega) ?_)
         intro g47 c48 cl49 w hI r50
         refine ⟨_, hI, subk (fun _ h => h.pickL [2, 3, 4, 5, 6, 7] (by decide) rfl) ?_⟩
         intro hsub
         have r50 : Row 6 g47 (0 + k + 1) c48 cl49 (flat eLd ((pl.stands.take k) ++ [xx])) := r50.snoc _ rfl
         refine any_heavy [13] (by kernel_rfl) rfl (each1 ?_)
         intro w hI
         refine ol_c rfl (s_app hI Tryz.underlying25 (z := .agg #[iv 0, iv 0, iv 0, iv 0, iv 0, iv 0]) (k := 6) (bytes := 48) (by kernel_rfl) rfl rfl 1 rfl rfl r50 (flat eLd (pl.stands.drop k)) rfl (by rw [flat_len eLd_len, List.length_drop, ← hm2]) (Cells.cutFrom eLd_len (hP.c2.inv0 hI) k _ (by omega) (by omega)) (flat_cell eLd_cell _) (by omega) (by omega) ?_)
         intro g51 c52 cl53 w hI r54
         refine ⟨_, hI, subk (fun _ h => h.pickL [2, 3, 4, 5, 6, 7] (by decide) rfl) ?_⟩
         intro hsub
         have r54 : Row 6 g51 (0 + k + 1 + (pn2 - k)) c52 cl53 (flat eLd (((pl.stands.take k) ++ [xx]) ++ (pl.stands.drop k))) := r54.more
         refine alp 14 (.pointer (some ⟨b20, 3, none⟩)) hsub rfl (by kernel_rfl) (fun _ => (by kernel_rfl)) ?_
         refine any_heavy [15] (by kernel_rfl) rfl (each1 ?_)
         intro w hI
         refine ol_c rfl (s_store hI 8 1 [slv g51 (0 + k + 1 + (pn2 - k)) c52] Tryz.sizeOf25 rfl rfl rfl rfl rfl (Nat.le_of_ble_eq_true rfl) ?_)
         intro w hI
         refine ⟨_, hI, subk (fun _ h => h.pickL [2, 3, 4, 5, 6, 7] (by decide) rfl) ?_⟩
         intro hsub
         refine any_end (by kernel_rfl) (fun w hI => ?_)
         refine wp_seq (rgn (by kernel_rfl) (seq_c (s_loadK hI 8 6 [iv ((keepP (fun y => decide (y.s ≠ 0)) pl).lo), iv ((keepP (fun y => decide (y.s ≠ 0)) pl).hi), slv g8 ((keepP (fun y => decide (y.s ≠ 0)) pl).loads.length) c9, slv g51 (0 + k + 1 + (pn2 - k)) c52, slv g16 ((keepP (fun y => decide (y.s ≠ 0)) pl).spells.length) c17, iv ((keepP (fun y => decide (y.s ≠ 0)) pl).geese)] Tryz.isAgg28 Tryz.sizeOf28 rfl rfl rfl rfl ?_)))
         refine seq_c (s_store hI 5 6 [iv ((keepP (fun y => decide (y.s ≠ 0)) pl).lo), iv ((keepP (fun y => decide (y.s ≠ 0)) pl).hi), slv g8 ((keepP (fun y => decide (y.s ≠ 0)) pl).loads.length) c9, slv g51 (0 + k + 1 + (pn2 - k)) c52, slv g16 ((keepP (fun y => decide (y.s ≠ 0)) pl).spells.length) c17, iv ((keepP (fun y => decide (y.s ≠ 0)) pl).geese)] Tryz.sizeOf28 rfl rfl rfl rfl rfl (Nat.le_of_ble_eq_true rfl) ?_)
         intro w hI
         refine pu (iv 0) (by kernel_rfl) (seq_nil (wp_ret ?_))
         have hka := keepP_all ((plotB_iff pl).1 (codeI_ok h2 (by decide)))
         have hins : insAt xx pl.stands = pl.stands.take k ++ [xx] ++ pl.stands.drop k := insAt_at _ _ hin (fun y hy => by have e := Option.some.inj (hy.symm.trans hx22); rw [e]; assumption) (by omega)
         have hln : 0 + k + 1 + (pn2 - k) = (insAt xx pl.stands).length := by rw [hins]; simp; omega
         have e : standsF pl xx = ({ pl with stands := insAt xx pl.stands }, 0) := by rw [standsF, if_pos (codeI_ok h2 (by decide)), if_pos ⟨by assumption, (hasB_eq _ _).trans (by assumption)⟩, if_neg (by omega)]
         exact ⟨.tuple #[.agg #[iv ((keepP (fun y => decide (y.s ≠ 0)) pl).lo), iv ((keepP (fun y => decide (y.s ≠ 0)) pl).hi), slv g8 ((keepP (fun y => decide (y.s ≠ 0)) pl).loads.length) c9, slv g51 (0 + k + 1 + (pn2 - k)) c52, slv g16 ((keepP (fun y => decide (y.s ≠ 0)) pl).spells.length) c17, iv ((keepP (fun y => decide (y.s ≠ 0)) pl).geese)], iv 0], Ret.ct rfl rfl (run_loadK hI 5 6 [iv ((keepP (fun y => decide (y.s ≠ 0)) pl).lo), iv ((keepP (fun y => decide (y.s ≠ 0)) pl).hi), slv g8 ((keepP (fun y => decide (y.s ≠ 0)) pl).loads.length) c9, slv g51 (0 + k + 1 + (pn2 - k)) c52, slv g16 ((keepP (fun y => decide (y.s ≠ 0)) pl).spells.length) c17, iv ((keepP (fun y => decide (y.s ≠ 0)) pl).geese)] Tryz.isAgg28 Tryz.sizeOf28 rfl rfl rfl) rfl, (by rw [e]; exact ⟨.agg #[iv ((keepP (fun y => decide (y.s ≠ 0)) pl).lo), iv ((keepP (fun y => decide (y.s ≠ 0)) pl).hi), slv g8 ((keepP (fun y => decide (y.s ≠ 0)) pl).loads.length) c9, slv g51 (0 + k + 1 + (pn2 - k)) c52, slv g16 ((keepP (fun y => decide (y.s ≠ 0)) pl).spells.length) c17, iv ((keepP (fun y => decide (y.s ≠ 0)) pl).geese)], rfl, g8, c9, cl10, g51, c52, cl53, g16, c17, cl18, (by rw [hka, hln]; rfl), hI.pickL [2, 1, 3] (by decide) rfl, (r11.to (by rw [hka]) (by rw [hka])), (r54.to (by simp [hins]) hln), (r19.to (by rw [hka]) (by rw [hka]))⟩)⟩
       ·intro w hI
        refine ol_c rfl (s_new hI [iv xx.src, iv xx.hr, iv xx.lo, iv xx.hi, iv xx.kn, iv xx.un] 31 (fun b => slv (some b) 1 1) (by kernel_rfl) ?_)
        intro b55 w hI
        refine ⟨_, hI, subk (fun _ h => h.pickL [1, 2, 3, 4, 5, 6] (by decide) rfl) ?_⟩
        intro hsub
        refine any_heavy [0] (by kernel_rfl) rfl (each1 ?_)
        intro w hI
        refine ol_c rfl (s_new hI [] 31 (fun b => slv (some b) 0 0) (by kernel_rfl) ?_)
        intro b56 w hI
        refine ⟨_, hI, subk (fun _ h => h.pickL [2, 3, 4, 5, 6, 7] (by decide) rfl) ?_⟩
        intro hsub
        refine any_heavy [5] (by kernel_rfl) rfl (each1 ?_)
        intro w hI
        refine ol_c rfl (s_app hI Tryz.underlying25 (z := .agg #[iv 0, iv 0, iv 0, iv 0, iv 0, iv 0]) (k := 6) (bytes := 48) (by kernel_rfl) rfl rfl 0 rfl rfl (Row.zero_ 6 b56) (flat eLd (pl.stands.take k)) rfl (by rw [flat_len eLd_len, List.length_take, Nat.min_eq_left (by omega)]) (Cells.cutTo (hP.c2.inv0 hI) k) (flat_cell eLd_cell _) (by omega) (by omega) ?_)
        intro g57 c58 cl59 w hI r60
        refine ⟨_, hI, subk (fun _ h => h.pickL [2, 3, 4, 5, 6, 7] (by decide) rfl) ?_⟩
        intro hsub
        have r60 : Row 6 g57 (0 + k) c58 cl59 (flat eLd (pl.stands.take k)) := r60
        refine any_heavy [8] (by kernel_rfl) rfl (each1 ?_)
        intro w hI
        refine ol_c rfl (s_app hI Tryz.underlying25 (z := .agg #[iv 0, iv 0, iv 0, iv 0, iv 0, iv 0]) (k := 6) (bytes := 48) (by kernel_rfl) rfl rfl 0 rfl rfl r60 [iv xx.src, iv xx.hr, iv xx.lo, iv xx.hi, iv xx.kn, iv xx.un] rfl rfl (hI.cells 1 (off := 0) rfl (fun j u h => by rw [Nat.zero_add]; exact h)) (by simp [Value.oneCell']) (by omega) (by omega) ?_)
        intro g61 c62 cl63 w hI r64
        refine ⟨_, hI, subk (fun _ h => h.pickL [2, 3, 4, 5, 6, 7] (by decide) rfl) ?_⟩
        intro hsub
        have r64 : Row 6 g61 (0 + k + 1) c62 cl63 (flat eLd ((pl.stands.take k) ++ [xx])) := r64.snoc _ rfl
        refine any_heavy [13] (by kernel_rfl) rfl (each1 ?_)
        intro w hI
        refine ol_c rfl (s_app hI Tryz.underlying25 (z := .agg #[iv 0, iv 0, iv 0, iv 0, iv 0, iv 0]) (k := 6) (bytes := 48) (by kernel_rfl) rfl rfl 0 rfl rfl r64 (flat eLd (pl.stands.drop k)) rfl (by rw [flat_len eLd_len, List.length_drop, ← hm2]) (Cells.cutFrom eLd_len (hP.c2.inv0 hI) k _ (by omega) (by omega)) (flat_cell eLd_cell _) (by omega) (by omega) ?_)
        intro g65 c66 cl67 w hI r68
        refine ⟨_, hI, subk (fun _ h => h.pickL [2, 3, 4, 5, 6, 7] (by decide) rfl) ?_⟩
        intro hsub
        have r68 : Row 6 g65 (0 + k + 1 + (pn2 - k)) c66 cl67 (flat eLd (((pl.stands.take k) ++ [xx]) ++ (pl.stands.drop k))) := r68.more
        refine alp 14 (.pointer (some ⟨b20, 3, none⟩)) hsub rfl (by kernel_rfl) (fun _ => (by kernel_rfl)) ?_
        refine any_heavy [15] (by kernel_rfl) rfl (each1 ?_)
        intro w hI
        refine ol_c rfl (s_store hI 8 1 [slv g65 (0 + k + 1 + (pn2 - k)) c66] Tryz.sizeOf25 rfl rfl rfl rfl rfl (Nat.le_of_ble_eq_true rfl) ?_)
        intro w hI
        refine ⟨_, hI, subk (fun _ h => h.pickL [2, 3, 4, 5, 6, 7] (by decide) rfl) ?_⟩
        intro hsub
        refine any_end (by kernel_rfl) (fun w hI => ?_)
        refine wp_seq (rgn (by kernel_rfl) (seq_c (s_loadK hI 8 6 [iv ((keepP (fun y => decide (y.s ≠ 0)) pl).lo), iv ((keepP (fun y => decide (y.s ≠ 0)) pl).hi), slv g8 ((keepP (fun y => decide (y.s ≠ 0)) pl).loads.length) c9, slv g65 (0 + k + 1 + (pn2 - k)) c66, slv g16 ((keepP (fun y => decide (y.s ≠ 0)) pl).spells.length) c17, iv ((keepP (fun y => decide (y.s ≠ 0)) pl).geese)] Tryz.isAgg28 Tryz.sizeOf28 rfl rfl rfl rfl ?_)))
        refine seq_c (s_store hI 5 6 [iv ((keepP (fun y => decide (y.s ≠ 0)) pl).lo), iv ((keepP (fun y => decide (y.s ≠ 0)) pl).hi), slv g8 ((keepP (fun y => decide (y.s ≠ 0)) pl).loads.length) c9, slv g65 (0 + k + 1 + (pn2 - k)) c66, slv g16 ((keepP (fun y => decide (y.s ≠ 0)) pl).spells.length) c17, iv ((keepP (fun y => decide (y.s ≠ 0)) pl).geese)] Tryz.sizeOf28 rfl rfl rfl rfl rfl (Nat.le_of_ble_eq_true rfl) ?_)
        intro w hI
        refine pu (iv 0) (by kernel_rfl) (seq_nil (wp_ret ?_))
        have hka := keepP_all ((plotB_iff pl).1 (codeI_ok h2 (by decide)))
        have hins : insAt xx pl.stands = pl.stands.take k ++ [xx] ++ pl.stands.drop k := insAt_at _ _ hin (fun y hy => by have e := Option.some.inj (hy.symm.trans hx22); rw [e]; assumption) (by omega)
        have hln : 0 + k + 1 + (pn2 - k) = (insAt xx pl.stands).length := by rw [hins]; simp; omega
        have e : standsF pl xx = ({ pl with stands := insAt xx pl.stands }, 0) := by rw [standsF, if_pos (codeI_ok h2 (by decide)), if_pos ⟨by assumption, (hasB_eq _ _).trans (by assumption)⟩, if_neg (by omega)]
        exact ⟨.tuple #[.agg #[iv ((keepP (fun y => decide (y.s ≠ 0)) pl).lo), iv ((keepP (fun y => decide (y.s ≠ 0)) pl).hi), slv g8 ((keepP (fun y => decide (y.s ≠ 0)) pl).loads.length) c9, slv g65 (0 + k + 1 + (pn2 - k)) c66, slv g16 ((keepP (fun y => decide (y.s ≠ 0)) pl).spells.length) c17, iv ((keepP (fun y => decide (y.s ≠ 0)) pl).geese)], iv 0], Ret.ct rfl rfl (run_loadK hI 5 6 [iv ((keepP (fun y => decide (y.s ≠ 0)) pl).lo), iv ((keepP (fun y => decide (y.s ≠ 0)) pl).hi), slv g8 ((keepP (fun y => decide (y.s ≠ 0)) pl).loads.length) c9, slv g65 (0 + k + 1 + (pn2 - k)) c66, slv g16 ((keepP (fun y => decide (y.s ≠ 0)) pl).spells.length) c17, iv ((keepP (fun y => decide (y.s ≠ 0)) pl).geese)] Tryz.isAgg28 Tryz.sizeOf28 rfl rfl rfl) rfl, (by rw [e]; exact ⟨.agg #[iv ((keepP (fun y => decide (y.s ≠ 0)) pl).lo), iv ((keepP (fun y => decide (y.s ≠ 0)) pl).hi), slv g8 ((keepP (fun y => decide (y.s ≠ 0)) pl).loads.length) c9, slv g65 (0 + k + 1 + (pn2 - k)) c66, slv g16 ((keepP (fun y => decide (y.s ≠ 0)) pl).spells.length) c17, iv ((keepP (fun y => decide (y.s ≠ 0)) pl).geese)], rfl, g8, c9, cl10, g65, c66, cl67, g16, c17, cl18, (by rw [hka, hln]; rfl), hI.pickL [2, 0, 3] (by decide) rfl, (r11.to (by rw [hka]) (by rw [hka])), (r68.to (by simp [hins]) hln), (r19.to (by rw [hka]) (by rw [hka]))⟩)⟩
     ·refine al_light 4 (.bool false) hsub rfl (by kernel_rfl) (fun w hI => s_lss rfl rfl (fun h => absurd h h7) (fun _ => ⟨rfl, Below.refl _ _⟩)) ?_
      refine alp 5 (.bool false) hsub rfl (by kernel_rfl) (fun _ => (by kernel_rfl)) ?_
      refine al_off 6 hsub rfl (by kernel_rfl) (by kernel_rfl) ?_
      refine al_off 7 hsub rfl (by kernel_rfl) (by kernel_rfl) ?_
      refine al_off 8 hsub rfl (by kernel_rfl) (by kernel_rfl) ?_
      refine al_off 9 hsub rfl (by kernel_rfl) (by kernel_rfl) ?_
      refine al_off 10 hsub rfl (by kernel_rfl) (by kernel_rfl) ?_
      refine al_off 11 hsub rfl (by kernel_rfl) (by kernel_rfl) ?_
      refine al_off 12 hsub rfl (by kernel_rfl) (by kernel_rfl) ?_
      refine al_off 13 hsub rfl (by kernel_rfl) (by kernel_rfl) ?_
      refine al_off 14 hsub rfl (by kernel_rfl) (by kernel_rfl) ?_
      refine alp 15 (.bool false) hsub rfl (by kernel_rfl) (fun _ => (by kernel_rfl)) ?_
      refine any_end (by kernel_rfl) (fun w hI => ?_)
      refine wp_condF rfl (wp_exit ?_)
      refine wp_seq ?_
      replace hI := hI.pickL [1, 3, 4, 5, 6, 7, 0, 2] (by decide) rfl
      refine wp_drawn2 hI [0, 1, 2, 3, 4, 5] (by decide) rfl (by kernel_rfl) (by kernel_rfl) ?_
      intro hsub
      refine alp 1 (.pointer (some ⟨b1, 3, none⟩)) hsub rfl (by kernel_rfl) (fun _ => (by kernel_rfl)) ?_
      refine al_light 2 (.slice pA2 pn2 pc2) hsub rfl (by kernel_rfl) (fun w hI => s_load1 hI 5 (.slice pA2 pn2 pc2) Tryz.isAgg25 rfl rfl rfl ⟨rfl, Below.refl _ _⟩) ?_
      refine alp 3 (iv (k : Int)) hsub rfl (by kernel_rfl) (fun _ => (by kernel_rfl)) ?_
      refine al_light 4 (.slice (pA2) k pc2) hsub rfl (by kernel_rfl) (fun w hI => s_sliceHi k Tryz.underlying25 Tryz.sizeOf31 rfl rfl (by omega) ⟨rfl, Below.refl _ _⟩) ?_
      refine al_light 6 (.agg #[iv xx.src, iv xx.hr, iv xx.lo, iv xx.hi, iv xx.kn, iv xx.un]) hsub rfl (by kernel_rfl) (fun w hI => s_loadK hI 4 6 [iv xx.src, iv xx.hr, iv xx.lo, iv xx.hi, iv xx.kn, iv xx.un] Tryz.isAgg31 Tryz.sizeOf31 rfl rfl rfl rfl ⟨rfl, Below.refl _ _⟩) ?_
      refine alp 9 (.pointer (some ⟨b1, 3, none⟩)) hsub rfl (by kernel_rfl) (fun _ => (by kernel_rfl)) ?_
      refine al_light 10 (.slice pA2 pn2 pc2) hsub rfl (by kernel_rfl) (fun w hI => s_load1 hI 5 (.slice pA2 pn2 pc2) Tryz.isAgg25 rfl rfl rfl ⟨rfl, Below.refl _ _⟩) ?_
      refine alp 11 (iv (k : Int)) hsub rfl (by kernel_rfl) (fun _ => (by kernel_rfl)) ?_
      refine al_light 12 (.slice (sub pA2 pc2 k 6) (pn2 - k) (pc2 - k)) hsub rfl (by kernel_rfl) (fun w hI => s_sliceLo k Tryz.underlying25 Tryz.sizeOf31 rfl rfl (by omega) (by omega) ⟨rfl, Below.refl _ _⟩) ?_
      refine any_heavy [0, 7] (by kernel_rfl) rfl (each2 ?_ ?_)
      ·intro w hI
       refine ol_c rfl (s_new hI [] 31 (fun b => slv (some b) 0 0) (by kernel_rfl) ?_)
       intro b69 w hI
       refine ⟨_, hI, subk (fun _ h => h.pickL [1, 2, 3, 4, 5, 6] (by decide) rfl) ?_⟩
       intro hsub
       refine any_heavy [5, 7] (by kernel_rfl) rfl (each2 ?_ ?_)
       ·intro w hI
        refine ol_c rfl (s_app hI Tryz.underlying25 (z := .agg #[iv 0, iv 0, iv 0, iv 0, iv 0, iv 0]) (k := 6) (bytes := 48) (by kernel_rfl) rfl rfl 0 rfl rfl (Row.zero_ 6 b69) (flat eLd (pl.stands.take k)) rfl (by rw [flat_len eLd_len, List.length_take, Nat.min_eq_left (by omega)]) (Cells.cutTo (hP.c2.inv0 hI) k) (flat_cell eLd_cell _) (by omega) (by omega) ?_)
        intro g70 c71 cl72 w hI r73
        refine ⟨_, hI, subk (fun _ h => h.pickL [1, 2, 3, 4, 5, 6] (by decide) rfl) ?_⟩
        intro hsub
        have r73 : Row 6 g70 (0 + k) c71 cl72 (flat eLd (pl.stands.take k)) := r73
        refine any_heavy [7] (by kernel_rfl) rfl (each1 ?_)
        intro w hI
        refine ol_c rfl (s_new hI [iv xx.src, iv xx.hr, iv xx.lo, iv xx.hi, iv xx.kn, iv xx.un] 31 (fun b => slv (some b) 1 1) (by kernel_rfl) ?_)
        intro b74 w hI
        refine ⟨_, hI, subk (fun _ h => h.pickL [2, 3, 4, 5, 6, 7] (by decide) rfl) ?_⟩
        intro hsub
        refine any_heavy [8] (by kernel_rfl) rfl (each1 ?_)
        intro w hI
        refine ol_c rfl (s_app hI Tryz.underlying25 (z := .agg #[iv 0, iv 0, iv 0, iv 0, iv 0, iv 0]) (k := 6) (bytes := 48) (by kernel_rfl) rfl rfl 1 rfl rfl r73 [iv xx.src, iv xx.hr, iv xx.lo, iv xx.hi, iv xx.kn, iv xx.un] rfl rfl (hI.cells 0 (off := 0) rfl (fun j u h => by rw [Nat.zero_add]; exact h)) (by simp [Value.oneCell']) (by omega) (by omega) ?_)
        intro g75 c76 cl77 w hI r78
        refine ⟨_, hI, subk (fun _ h => h.pickL [2, 3, 4, 5, 6, 7] (by decide) rfl) ?_⟩
        intro hsub
        have r78 : Row 6 g75 (0 + k + 1) c76 cl77 (flat eLd ((pl.stands.take k) ++ [xx])) := r78.snoc _ rfl
        refine any_heavy [13] (by kernel_rfl) rfl (each1 ?_)
        intro w hI
        refine ol_c rfl (s_app hI Tryz.underlying25 (z := .agg #[iv 0, iv 0, iv 0, iv 0, iv 0, iv 0]) (k := 6) (bytes := 48) (by kernel_rfl) rfl rfl 1 rfl rfl r78 (flat eLd (pl.stands.drop k)) rfl (by rw [flat_len eLd_len, List.length_drop, ← hm2]) (Cells.cutFrom eLd_len (hP.c2.inv0 hI) k _ (by omega) (by omega)) (flat_cell eLd_cell _) (by omega) (by omega) ?_)
        intro g79 c80 cl81 w hI r82
        refine ⟨_, hI, subk (fun _ h => h.pickL [2, 3, 4, 5, 6, 7] (by decide) rfl) ?_⟩
        intro hsub
        have r82 : Row 6 g79 (0 + k + 1 + (pn2 - k)) c80 cl81 (flat eLd (((pl.stands.take k) ++ [xx]) ++ (pl.stands.drop k))) := r82.more
        refine alp 14 (.pointer (some ⟨b20, 3, none⟩)) hsub rfl (by kernel_rfl) (fun _ => (by kernel_rfl)) ?_
        refine any_heavy [15] (by kernel_rfl) rfl (each1 ?_)
        intro w hI
        refine ol_c rfl (s_store hI 8 1 [slv g79 (0 + k + 1 + (pn2 - k)) c80] Tryz.sizeOf25 rfl rfl rfl rfl rfl (Nat.le_of_ble_eq_true rfl) ?_)
        intro w hI
        refine ⟨_, hI, subk (fun _ h => h.pickL [2, 3, 4, 5, 6, 7] (by decide) rfl) ?_⟩
        intro hsub
        refine any_end (by kernel_rfl) (fun w hI => ?_)
        refine wp_seq (rgn (by kernel_rfl) (seq_c (s_loadK hI 8 6 [iv ((keepP (fun y => decide (y.s ≠ 0)) pl).lo), iv ((keepP (fun y => decide (y.s ≠ 0)) pl).hi), slv g8 ((keepP (fun y => decide (y.s ≠ 0)) pl).loads.length) c9, slv g79 (0 + k + 1 + (pn2 - k)) c80, slv g16 ((keepP (fun y => decide (y.s ≠ 0)) pl).spells.length) c17, iv ((keepP (fun y => decide (y.s ≠ 0)) pl).geese)] Tryz.isAgg28 Tryz.sizeOf28 rfl rfl rfl rfl ?_)))
        refine seq_c (s_store hI 5 6 [iv ((keepP (fun y => decide (y.s ≠ 0)) pl).lo), iv ((keepP (fun y => decide (y.s ≠ 0)) pl).hi), slv g8 ((keepP (fun y => decide (y.s ≠ 0)) pl).loads.length) c9, slv g79 (0 + k + 1 + (pn2 - k)) c80, slv g16 ((keepP (fun y => decide (y.s ≠ 0)) pl).spells.length) c17, iv ((keepP (fun y => decide (y.s ≠ 0)) pl).geese)] Tryz.sizeOf28 rfl rfl rfl rfl rfl (Nat.le_of_ble_eq_true rfl) ?_)
        intro w hI
        refine pu (iv 0) (by kernel_rfl) (seq_nil (wp_ret ?_))
        have hka := keepP_all ((plotB_iff pl).1 (codeI_ok h2 (by decide)))
        have hins : insAt xx pl.stands = pl.stands.take k ++ [xx] ++ pl.stands.drop k := insAt_at _ _ hin (fun y hy => by have := lt_of_get hy; omega) (by omega)
        have hln : 0 + k + 1 + (pn2 - k) = (insAt xx pl.stands).length := by rw [hins]; simp; omega
        have e : standsF pl xx = ({ pl with stands := insAt xx pl.stands }, 0) := by rw [standsF, if_pos (codeI_ok h2 (by decide)), if_pos ⟨by assumption, (hasB_eq _ _).trans (by assumption)⟩, if_neg (by omega)]
        exact ⟨.tuple #[.agg #[iv ((keepP (fun y => decide (y.s ≠ 0)) pl).lo), iv ((keepP (fun y => decide (y.s ≠ 0)) pl).hi), slv g8 ((keepP (fun y => decide (y.s ≠ 0)) pl).loads.length) c9, slv g79 (0 + k + 1 + (pn2 - k)) c80, slv g16 ((keepP (fun y => decide (y.s ≠ 0)) pl).spells.length) c17, iv ((keepP (fun y => decide (y.s ≠ 0)) pl).geese)], iv 0], Ret.ct rfl rfl (run_loadK hI 5 6 [iv ((keepP (fun y => decide (y.s ≠ 0)) pl).lo), iv ((keepP (fun y => decide (y.s ≠ 0)) pl).hi), slv g8 ((keepP (fun y => decide (y.s ≠ 0)) pl).loads.length) c9, slv g79 (0 + k + 1 + (pn2 - k)) c80, slv g16 ((keepP (fun y => decide (y.s ≠ 0)) pl).spells.length) c17, iv ((keepP (fun y => decide (y.s ≠ 0)) pl).geese)] Tryz.isAgg28 Tryz.sizeOf28 rfl rfl rfl) rfl, (by rw [e]; exact ⟨.agg #[iv ((keepP (fun y => decide (y.s ≠ 0)) pl).lo), iv ((keepP (fun y => decide (y.s ≠ 0)) pl).hi), slv g8 ((keepP (fun y => decide (y.s ≠ 0)) pl).loads.length) c9, slv g79 (0 + k + 1 + (pn2 - k)) c80, slv g16 ((keepP (fun y => decide (y.s ≠ 0)) pl).spells.length) c17, iv ((keepP (fun y => decide (y.s ≠ 0)) pl).geese)], rfl, g8, c9, cl10, g79, c80, cl81, g16, c17, cl18, (by rw [hka, hln]; rfl), hI.pickL [2, 1, 3] (by decide) rfl, (r11.to (by rw [hka]) (by rw [hka])), (r82.to (by simp [hins]) hln), (r19.to (by rw [hka]) (by rw [hka]))⟩)⟩
       ·intro w hI
        refine ol_c rfl (s_new hI [iv xx.src, iv xx.hr, iv xx.lo, iv xx.hi, iv xx.kn, iv xx.un] 31 (fun b => slv (some b) 1 1) (by kernel_rfl) ?_)
        intro b83 w hI
        refine ⟨_, hI, subk (fun _ h => h.pickL [2, 3, 4, 5, 6, 7] (by decide) rfl) ?_⟩
        intro hsub
        refine any_heavy [5] (by kernel_rfl) rfl (each1 ?_)
        intro w hI
        refine ol_c rfl (s_app hI Tryz.underlying25 (z := .agg #[iv 0, iv 0, iv 0, iv 0, iv 0, iv 0]) (k := 6) (bytes := 48) (by kernel_rfl) rfl rfl 1 rfl rfl (Row.zero_ 6 b69) (flat eLd (pl.stands.take k)) rfl (by rw [flat_len eLd_len, List.length_take, Nat.min_eq_left (by omega)]) (Cells.cutTo (hP.c2.inv0 hI) k) (flat_cell eLd_cell _) (by omega) (by omega) ?_)
        intro g84 c85 cl86 w hI r87
        refine ⟨_, hI, subk (fun _ h => h.pickL [2, 3, 4, 5, 6, 7] (by decide) rfl) ?_⟩
        intro hsub
        have r87 : Row 6 g84 (0 + k) c85 cl86 (flat eLd (pl.stands.take k)) := r87
        refine any_heavy [8] (by kernel_rfl) rfl (each1 ?_)
        intro w hI
        refine ol_c rfl (s_app hI Tryz.underlying25 (z := .agg #[iv 0, iv 0, iv 0, iv 0, iv 0, iv 0]) (k := 6) (bytes := 48) (by kernel_rfl) rfl rfl 1 rfl rfl r87 [iv xx.src, iv xx.hr, iv xx.lo, iv xx.hi, iv xx.kn, iv xx.un] rfl rfl (hI.cells 0 (off := 0) rfl (fun j u h => by rw [Nat.zero_add]; exact h)) (by simp [Value.oneCell']) (by omega) (by omega) ?_)
        intro g88 c89 cl90 w hI r91
        refine ⟨_, hI, subk (fun _ h => h.pickL [2, 3, 4, 5, 6, 7] (by decide) rfl) ?_⟩
        intro hsub
        have r91 : Row 6 g88 (0 + k + 1) c89 cl90 (flat eLd ((pl.stands.take k) ++ [xx])) := r91.snoc _ rfl
        refine any_heavy [13] (by kernel_rfl) rfl (each1 ?_)
        intro w hI
        refine ol_c rfl (s_app hI Tryz.underlying25 (z := .agg #[iv 0, iv 0, iv 0, iv 0, iv 0, iv 0]) (k := 6) (bytes := 48) (by kernel_rfl) rfl rfl 1 rfl rfl r91 (flat eLd (pl.stands.drop k)) rfl (by rw [flat_len eLd_len, List.length_drop, ← hm2]) (Cells.cutFrom eLd_len (hP.c2.inv0 hI) k _ (by omega) (by omega)) (flat_cell eLd_cell _) (by omega) (by omega) ?_)
        intro g92 c93 cl94 w hI r95
        refine ⟨_, hI, subk (fun _ h => h.pickL [2, 3, 4, 5, 6, 7] (by decide) rfl) ?_⟩
        intro hsub
        have r95 : Row 6 g92 (0 + k + 1 + (pn2 - k)) c93 cl94 (flat eLd (((pl.stands.take k) ++ [xx]) ++ (pl.stands.drop k))) := r95.more
        refine alp 14 (.pointer (some ⟨b20, 3, none⟩)) hsub rfl (by kernel_rfl) (fun _ => (by kernel_rfl)) ?_
        refine any_heavy [15] (by kernel_rfl) rfl (each1 ?_)
        intro w hI
        refine ol_c rfl (s_store hI 8 1 [slv g92 (0 + k + 1 + (pn2 - k)) c93] Tryz.sizeOf25 rfl rfl rfl rfl rfl (Nat.le_of_ble_eq_true rfl) ?_)
        intro w hI
        refine ⟨_, hI, subk (fun _ h => h.pickL [2, 3, 4, 5, 6, 7] (by decide) rfl) ?_⟩
        intro hsub
        refine any_end (by kernel_rfl) (fun w hI => ?_)
        refine wp_seq (rgn (by kernel_rfl) (seq_c (s_loadK hI 8 6 [iv ((keepP (fun y => decide (y.s ≠ 0)) pl).lo), iv ((keepP (fun y => decide (y.s ≠ 0)) pl).hi), slv g8 ((keepP (fun y => decide (y.s ≠ 0)) pl).loads.length) c9, slv g92 (0 + k + 1 + (pn2 - k)) c93, slv g16 ((keepP (fun y => decide (y.s ≠ 0)) pl).spells.length) c17, iv ((keepP (fun y => decide (y.s ≠ 0)) pl).geese)] Tryz.isAgg28 Tryz.sizeOf28 rfl rfl rfl rfl ?_)))
        refine seq_c (s_store hI 5 6 [iv ((keepP (fun y => decide (y.s ≠ 0)) pl).lo), iv ((keepP (fun y => decide (y.s ≠ 0)) pl).hi), slv g8 ((keepP (fun y => decide (y.s ≠ 0)) pl).loads.length) c9, slv g92 (0 + k + 1 + (pn2 - k)) c93, slv g16 ((keepP (fun y => decide (y.s ≠ 0)) pl).spells.length) c17, iv ((keepP (fun y => decide (y.s ≠ 0)) pl).geese)] Tryz.sizeOf28 rfl rfl rfl rfl rfl (Nat.le_of_ble_eq_true rfl) ?_)
        intro w hI
        refine pu (iv 0) (by kernel_rfl) (seq_nil (wp_ret ?_))
        have hka := keepP_all ((plotB_iff pl).1 (codeI_ok h2 (by decide)))
        have hins : insAt xx pl.stands = pl.stands.take k ++ [xx] ++ pl.stands.drop k := insAt_at _ _ hin (fun y hy => by have := lt_of_get hy; omega) (by omega)
        have hln : 0 + k + 1 + (pn2 - k) = (insAt xx pl.stands).length := by rw [hins]; simp; omega
        have e : standsF pl xx = ({ pl with stands := insAt xx pl.stands }, 0) := by rw [standsF, if_pos (codeI_ok h2 (by decide)), if_pos ⟨by assumption, (hasB_eq _ _).trans (by assumption)⟩, if_neg (by omega)]
        exact ⟨.tuple #[.agg #[iv ((keepP (fun y => decide (y.s ≠ 0)) pl).lo), iv ((keepP (fun y => decide (y.s ≠ 0)) pl).hi), slv g8 ((keepP (fun y => decide (y.s ≠ 0)) pl).loads.length) c9, slv g92 (0 + k + 1 + (pn2 - k)) c93, slv g16 ((keepP (fun y => decide (y.s ≠ 0)) pl).spells.length) c17, iv ((keepP (fun y => decide (y.s ≠ 0)) pl).geese)], iv 0], Ret.ct rfl rfl (run_loadK hI 5 6 [iv ((keepP (fun y => decide (y.s ≠ 0)) pl).lo), iv ((keepP (fun y => decide (y.s ≠ 0)) pl).hi), slv g8 ((keepP (fun y => decide (y.s ≠ 0)) pl).loads.length) c9, slv g92 (0 + k + 1 + (pn2 - k)) c93, slv g16 ((keepP (fun y => decide (y.s ≠ 0)) pl).spells.length) c17, iv ((keepP (fun y => decide (y.s ≠ 0)) pl).geese)] Tryz.isAgg28 Tryz.sizeOf28 rfl rfl rfl) rfl, (by rw [e]; exact ⟨.agg #[iv ((keepP (fun y => decide (y.s ≠ 0)) pl).lo), iv ((keepP (fun y => decide (y.s ≠ 0)) pl).hi), slv g8 ((keepP (fun y => decide (y.s ≠ 0)) pl).loads.length) c9, slv g92 (0 + k + 1 + (pn2 - k)) c93, slv g16 ((keepP (fun y => decide (y.s ≠ 0)) pl).spells.length) c17, iv ((keepP (fun y => decide (y.s ≠ 0)) pl).geese)], rfl, g8, c9, cl10, g92, c93, cl94, g16, c17, cl18, (by rw [hka, hln]; rfl), hI.pickL [2, 1, 3] (by decide) rfl, (r11.to (by rw [hka]) (by rw [hka])), (r95.to (by simp [hins]) hln), (r19.to (by rw [hka]) (by rw [hka]))⟩)⟩
      ·intro w hI
       refine ol_c rfl (s_new hI [iv xx.src, iv xx.hr, iv xx.lo, iv xx.hi, iv xx.kn, iv xx.un] 31 (fun b => slv (some b) 1 1) (by kernel_rfl) ?_)
       intro b96 w hI
       refine ⟨_, hI, subk (fun _ h => h.pickL [1, 2, 3, 4, 5, 6] (by decide) rfl) ?_⟩
       intro hsub
       refine any_heavy [0] (by kernel_rfl) rfl (each1 ?_)
       intro w hI
       refine ol_c rfl (s_new hI [] 31 (fun b => slv (some b) 0 0) (by kernel_rfl) ?_)
       intro b97 w hI
       refine ⟨_, hI, subk (fun _ h => h.pickL [2, 3, 4, 5, 6, 7] (by decide) rfl) ?_⟩
       intro hsub
       refine any_heavy [5] (by kernel_rfl) rfl (each1 ?_)
       intro w hI
       refine ol_c rfl (s_app hI Tryz.underlying25 (z := .agg #[iv 0, iv 0, iv 0, iv 0, iv 0, iv 0]) (k := 6) (bytes := 48) (by kernel_rfl) rfl rfl 0 rfl rfl (Row.zero_ 6 b97) (flat eLd (pl.stands.take k)) rfl (by rw [flat_len eLd_len, List.length_take, Nat.min_eq_left (by omega)]) (Cells.cutTo (hP.c2.inv0 hI) k) (flat_cell eLd_cell _) (by omega) (by omega) ?_)
       intro g98 c99 cl100 w hI r101
       refine ⟨_, hI, subk (fun _ h => h.pickL [2, 3, 4, 5, 6, 7] (by decide) rfl) ?_⟩
       intro hsub
       have r101 : Row 6 g98 (0 + k) c99 cl100 (flat eLd (pl.stands.take k)) := r101
       refine any_heavy [8] (by kernel_rfl) rfl (each1 ?_)
       intro w hI
       refine ol_c rfl (s_app hI Tryz.underlying25 (z := .agg #[iv 0, iv 0, iv 0, iv 0, iv 0, iv 0]) (k := 6) (bytes := 48) (by kernel_rfl) rfl rfl 0 rfl rfl r101 [iv xx.src, iv xx.hr, iv xx.lo, iv xx.hi, iv xx.kn, iv xx.un] rfl rfl (hI.cells 1 (off := 0) rfl (fun j u h => by rw [Nat.zero_add]; exact h)) (by simp [Value.oneCell']) (by omega) (by omega) ?_)
       intro g102 c103 cl104 w hI r105
       refine ⟨_, hI, subk (fun _ h => h.pickL [2, 3, 4, 5, 6, 7] (by decide) rfl) ?_⟩
       intro hsub
       have r105 : Row 6 g102 (0 + k + 1) c103 cl104 (flat eLd ((pl.stands.take k) ++ [xx])) := r105.snoc _ rfl
       refine any_heavy [13] (by kernel_rfl) rfl (each1 ?_)
       intro w hI
       refine ol_c rfl (s_app hI Tryz.underlying25 (z := .agg #[iv 0, iv 0, iv 0, iv 0, iv 0, iv 0]) (k := 6) (bytes := 48) (by kernel_rfl) rfl rfl 0 rfl rfl r105 (flat eLd (pl.stands.drop k)) rfl (by rw [flat_len eLd_len, List.length_drop, ← hm2]) (Cells.cutFrom eLd_len (hP.c2.inv0 hI) k _ (by omega) (by omega)) (flat_cell eLd_cell _) (by omega) (by omega) ?_)
       intro g106 c107 cl108 w hI r109
       refine ⟨_, hI, subk (fun _ h => h.pickL [2, 3, 4, 5, 6, 7] (by decide) rfl) ?_⟩
       intro hsub
       have r109 : Row 6 g106 (0 + k + 1 + (pn2 - k)) c107 cl108 (flat eLd (((pl.stands.take k) ++ [xx]) ++ (pl.stands.drop k))) := r109.more
       refine alp 14 (.pointer (some ⟨b20, 3, none⟩)) hsub rfl (by kernel_rfl) (fun _ => (by kernel_rfl)) ?_
       refine any_heavy [15] (by kernel_rfl) rfl (each1 ?_)
       intro w hI
       refine ol_c rfl (s_store hI 8 1 [slv g106 (0 + k + 1 + (pn2 - k)) c107] Tryz.sizeOf25 rfl rfl rfl rfl rfl (Nat.le_of_ble_eq_true rfl) ?_)
       intro w hI
       refine ⟨_, hI, subk (fun _ h => h.pickL [2, 3, 4, 5, 6, 7] (by decide) rfl) ?_⟩
       intro hsub
       refine any_end (by kernel_rfl) (fun w hI => ?_)
       refine wp_seq (rgn (by kernel_rfl) (seq_c (s_loadK hI 8 6 [iv ((keepP (fun y => decide (y.s ≠ 0)) pl).lo), iv ((keepP (fun y => decide (y.s ≠ 0)) pl).hi), slv g8 ((keepP (fun y => decide (y.s ≠ 0)) pl).loads.length) c9, slv g106 (0 + k + 1 + (pn2 - k)) c107, slv g16 ((keepP (fun y => decide (y.s ≠ 0)) pl).spells.length) c17, iv ((keepP (fun y => decide (y.s ≠ 0)) pl).geese)] Tryz.isAgg28 Tryz.sizeOf28 rfl rfl rfl rfl ?_)))
       refine seq_c (s_store hI 5 6 [iv ((keepP (fun y => decide (y.s ≠ 0)) pl).lo), iv ((keepP (fun y => decide (y.s ≠ 0)) pl).hi), slv g8 ((keepP (fun y => decide (y.s ≠ 0)) pl).loads.length) c9, slv g106 (0 + k + 1 + (pn2 - k)) c107, slv g16 ((keepP (fun y => decide (y.s ≠ 0)) pl).spells.length) c17, iv ((keepP (fun y => decide (y.s ≠ 0)) pl).geese)] Tryz.sizeOf28 rfl rfl rfl rfl rfl (Nat.le_of_ble_eq_true rfl) ?_)
       intro w hI
       refine pu (iv 0) (by kernel_rfl) (seq_nil (wp_ret ?_))
       have hka := keepP_all ((plotB_iff pl).1 (codeI_ok h2 (by decide)))
       have hins : insAt xx pl.stands = pl.stands.take k ++ [xx] ++ pl.stands.drop k := insAt_at _ _ hin (fun y hy => by have := lt_of_get hy; omega) (by omega)
       have hln : 0 + k + 1 + (pn2 - k) = (insAt xx pl.stands).length := by rw [hins]; simp; omega
       have e : standsF pl xx = ({ pl with stands := insAt xx pl.stands }, 0) := by rw [standsF, if_pos (codeI_ok h2 (by decide)), if_pos ⟨by assumption, (hasB_eq _ _).trans (by assumption)⟩, if_neg (by omega)]
       exact ⟨.tuple #[.agg #[iv ((keepP (fun y => decide (y.s ≠ 0)) pl).lo), iv ((keepP (fun y => decide (y.s ≠ 0)) pl).hi), slv g8 ((keepP (fun y => decide (y.s ≠ 0)) pl).loads.length) c9, slv g106 (0 + k + 1 + (pn2 - k)) c107, slv g16 ((keepP (fun y => decide (y.s ≠ 0)) pl).spells.length) c17, iv ((keepP (fun y => decide (y.s ≠ 0)) pl).geese)], iv 0], Ret.ct rfl rfl (run_loadK hI 5 6 [iv ((keepP (fun y => decide (y.s ≠ 0)) pl).lo), iv ((keepP (fun y => decide (y.s ≠ 0)) pl).hi), slv g8 ((keepP (fun y => decide (y.s ≠ 0)) pl).loads.length) c9, slv g106 (0 + k + 1 + (pn2 - k)) c107, slv g16 ((keepP (fun y => decide (y.s ≠ 0)) pl).spells.length) c17, iv ((keepP (fun y => decide (y.s ≠ 0)) pl).geese)] Tryz.isAgg28 Tryz.sizeOf28 rfl rfl rfl) rfl, (by rw [e]; exact ⟨.agg #[iv ((keepP (fun y => decide (y.s ≠ 0)) pl).lo), iv ((keepP (fun y => decide (y.s ≠ 0)) pl).hi), slv g8 ((keepP (fun y => decide (y.s ≠ 0)) pl).loads.length) c9, slv g106 (0 + k + 1 + (pn2 - k)) c107, slv g16 ((keepP (fun y => decide (y.s ≠ 0)) pl).spells.length) c17, iv ((keepP (fun y => decide (y.s ≠ 0)) pl).geese)], rfl, g8, c9, cl10, g106, c107, cl108, g16, c17, cl18, (by rw [hka, hln]; rfl), hI.pickL [2, 0, 3] (by decide) rfl, (r11.to (by rw [hka]) (by rw [hka])), (r109.to (by simp [hins]) hln), (r19.to (by rw [hka]) (by rw [hka]))⟩)⟩
  ·refine al_light 2 (.bool true) hsub rfl (by kernel_rfl) (fun w hI => s_neq rfl rfl (fun _ => ⟨rfl, Below.refl _ _⟩) (fun h => absurd h h3)) ?_
   refine alp 3 (.bool true) hsub rfl (by kernel_rfl) (fun _ => (by kernel_rfl)) ?_
   refine al_off 4 hsub rfl (by kernel_rfl) (by kernel_rfl) ?_
   refine al_off 5 hsub rfl (by kernel_rfl) (by kernel_rfl) ?_
   refine al_off 6 hsub rfl (by kernel_rfl) (by kernel_rfl) ?_
   refine al_off 7 hsub rfl (by kernel_rfl) (by kernel_rfl) ?_
   refine al_off 8 hsub rfl (by kernel_rfl) (by kernel_rfl) ?_
   refine alp 9 (.bool true) hsub rfl (by kernel_rfl) (fun _ => (by kernel_rfl)) ?_
   refine any_end (by kernel_rfl) (fun w hI => ?_)
   refine wp_condT rfl (wp_seq (rgn (by kernel_rfl) (pu (.agg #[iv 0, iv 0, .slice none 0 0, .slice none 0 0, .slice none 0 0, iv 0]) (by kernel_rfl) (seq_c (s_store hI 0 6 [iv 0, iv 0, .slice none 0 0, .slice none 0 0, .slice none 0 0, iv 0] Tryz.sizeOf28 rfl rfl rfl rfl rfl (Nat.le_of_ble_eq_true rfl) ?_)))))
   intro w hI
   refine pu (iv 11) (by kernel_rfl) (seq_nil (wp_ret ?_))
   have hI := hI.nilRow 33
   have hI := hI.nilRow 31
   have hI := hI.nilRow 30
   have e : standsF pl xx = (zeroPl, 11) := by rw [standsF, if_pos (codeI_ok h2 (by decide)), if_neg (by first | exact (fun h => absurd h.1 (by assumption)) | exact (fun h => absurd (h.2.symm.trans ((hasB_eq _ _).trans (by assumption))) (by decide)))]
   exact ⟨.tuple #[.agg #[iv 0, iv 0, .slice none 0 0, .slice none 0 0, .slice none 0 0, iv 0], iv 11], Ret.ct rfl rfl (run_loadK hI 3 6 [iv 0, iv 0, .slice none 0 0, .slice none 0 0, .slice none 0 0, iv 0] Tryz.isAgg28 Tryz.sizeOf28 rfl rfl rfl) rfl, (by rw [e]; exact ⟨.agg #[iv 0, iv 0, .slice none 0 0, .slice none 0 0, .slice none 0 0, iv 0], rfl, ⟨none, 0, [], none, 0, [], none, 0, [], rfl, hI.pickL [0, 1, 2] (by decide) rfl, Row.nil_ 6, Row.nil_ 6, Row.nil_ 6⟩⟩)⟩

end Go.K
