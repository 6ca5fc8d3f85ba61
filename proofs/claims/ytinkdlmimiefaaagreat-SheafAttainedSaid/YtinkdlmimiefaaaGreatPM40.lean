/- The law of attained ends: the walk. -/
import Derived.Test.YtinkdlmimiefaaaGreatProg
import Derived.Test.YtinkdlmimiefaaaGreatPG11
import Derived.Test.YtinkdlmimiefaaaGreatPM38
import Derived.Test.YtinkdlmimiefaaaGreatPXS
namespace Go.K
open Go.Proofs Go.RowKit
set_option linter.unusedVariables false
set_option linter.unusedSimpArgs false
set_option maxRecDepth 100000
attribute [local irreducible] Seq Step CallV AnyE opX

section steps
variable {P : Program} {ρ : Env} {w : World} {R : Value → World → Prop} {d : Option Nat} {ty : TypeId} {pos : String} {af : Array Edge} {gd : Option (Nat × Bool)}
theorem s_neqS4 {T Ty : TypeId} {x y : Operand} {a : Int} (ha : ev ρ x = .int .i64 a) (hb : ev ρ y = .int .i64 a) (k : R (.bool false) w) : Step P ⟨d, .binOp .neq T x y Ty, ty, pos, af, gd⟩ ρ w R :=
  s_neq ha hb (fun h => absurd rfl h) (fun _ => k)
end steps
theorem Row.big_4 {k : Nat} {g : Option Nat} {n c : Nat} {cl xs : List Value} (h : Row k g n c cl xs) : n ≤ 9223372036854775807 := Nat.le_trans h.cap (by have := h.capmax; unfold maxLen at this; omega)

theorem s_gtrB {P : Program} {ρ : Env} {w : World} {R : Value → World → Prop} {d : Option Nat} {ty : TypeId} {pos : String} {af : Array Edge} {gd : Option (Nat × Bool)} {T Ty : TypeId} {x y : Operand} {a b : Int} (ha : ev ρ x = .int .i64 a) (hb : ev ρ y = .int .i64 b) (k : R (.bool (decide (b < a))) w) : Step P ⟨d, .binOp .gtr T x y Ty, ty, pos, af, gd⟩ ρ w R :=
  s_gtr ha hb (fun h => by rw [decide_eq_true h] at k; exact k) (fun h => by rw [decide_eq_false h] at k; exact k)

set_option maxHeartbeats 3200000 in
theorem SheafAttained_c (w0 : World) (q0 q1 : Int) (hq0 : -9223372036854775808 ≤ q0 ∧ q0 ≤ 9223372036854775807) (rA1 : Option Addr) (rn1 rc1 : Nat) (rA2 : Option Addr) (rn2 rc2 : Nat) (rA3 : Option Addr) (rn3 rc3 : Nat) (ls ss ps : List A4) (hC1 : Cells w0 rA1 (flat eA4 ls)) (hn1 : rn1 = ls.length) (hx1_ : rn1 ≤ 9223372036854775807) (hC2 : Cells w0 rA2 (flat eA4 ss)) (hn2 : rn2 = ss.length) (hx2_ : rn2 ≤ 9223372036854775807) (hC3 : Cells w0 rA3 (flat eA4 ps)) (hn3 : rn3 = ps.length) (hx3_ : rn3 ≤ 9223372036854775807) (hok_ls : ∀ r ∈ ls, A4Ok r) (hok_ss : ∀ r ∈ ss, A4Ok r) (n0 n1 : Int) : Does Tryz.prog 8 [.agg #[.int .i64 q0, .int .i64 q1, .slice rA1 rn1 rc1, .slice rA2 rn2 rc2, .slice rA3 rn3 rc3], .agg #[.int .i64 n0, .int .i64 n1]] w0 fun v w => v = .bool true ∧ Below w0.heap.size w0 w := by
 obtain ⟨pm, hpm⟩ : ∃ z, z = madeB q0 q1 ls ss ps (decide (0 < n1 % 3)) := ⟨_, rfl⟩
 obtain ⟨tk, htk⟩ : ∃ z, z = ((mLoads 0 20 (q0 % 200) (ls.take 6)).map Prod.snd) := ⟨_, rfl⟩
 have hv : plotB pm = true := by rw [hpm]; exact madeB_valid q0 q1 ls ss ps _
 have hn19 : pm.loads.length < 20 := by rw [hpm]; exact madeB_few q0 q1 ls ss ps _
 have hhb : isHourB (15 + (n0 % 130)) = true := by simp [isHourB]; omega
 have hdb : isDayB (n1 % 24) = true := by simp [isDayB]; omega
 have hA : Att pm (15 + (n0 % 130)) (n1 % 24) := att_of hv hhb hdb (by rw [hpm]; exact madeB_crt q0 q1 ls ss ps _ _)
 have hhour : hourI pm (15 + (n0 % 130)) (n1 % 24) = 0 := by simp only [hourI, hv, hhb, hdb, if_true]
 refine calls_of (n := 178) Tryz.func8 rfl Tryz.ntmps8 rfl ?_
 have hI := Inv.start w0
 refine wp_seq (rgn (by kernel_rfl) (seq_c (s_boxI hI [iv q0, iv q1, .slice rA1 rn1 rc1, .slice rA2 rn2 rc2, .slice rA3 rn3 rc3] rfl ?_)))
 intro b1 w hI
 refine seq_c (s_boxI hI [iv n0, iv n1] rfl ?_)
 intro b2 w hI
 refine pu (.bool false) (by kernel_rfl) (seq_nil (wp_seq (rgn (by kernel_rfl) (seq_c (s_callv hI 13 [] (.bool true) (by kernel_rfl) (sane_c _) ?_)))))
 intro w hI
 refine pu (.bool true) (by kernel_rfl) (seq_nil (wp_cut (fun ρ w => ∃ (b19 : Nat) (g3 : Option Nat) (c4 : Nat) (cl5 : List Value) (g7 : Option Nat) (c8 : Nat) (cl9 : List Value) (g11 : Option Nat) (c12 : Nat) (cl13 : List Value), Agree ρ [(3, .pointer (some ⟨b2, 0, none⟩)), (5, .bool true), (6, .pointer (some ⟨b19, 0, none⟩))] ∧ Inv none w0 w [(some b19, blk [iv pm.lo, iv pm.hi, slv g3 pm.loads.length c4, slv g7 pm.stands.length c8, slv g11 pm.spells.length c12, iv pm.geese] 28), (g3, blk cl5 30), (g7, blk cl9 31), (g11, blk cl13 33), (some b2, blk [iv n0, iv n1] 65), (some b1, blk [iv q0, iv q1, .slice rA1 rn1 rc1, .slice rA2 rn2 rc2, .slice rA3 rn3 rc3] 78)] ∧ (Row 6 g3 (pm.loads.length) c4 cl5 (flat eLd (pm.loads))) ∧ (Row 6 g7 (pm.stands.length) c8 cl9 (flat eLd (pm.stands))) ∧ (Row 6 g11 (pm.spells.length) c12 cl13 (flat eSp (pm.spells)))) ?_ ?_))
 ·
  refine wp_drawn2 hI [0, 1] (by decide) rfl (by kernel_rfl) (by kernel_rfl) ?_
  intro hsub
  refine al_light 0 (.agg #[iv q0, iv q1, .slice rA1 rn1 rc1, .slice rA2 rn2 rc2, .slice rA3 rn3 rc3]) hsub rfl (by kernel_rfl) (fun w hI => s_loadK hI 1 5 [iv q0, iv q1, .slice rA1 rn1 rc1, .slice rA2 rn2 rc2, .slice rA3 rn3 rc3] Tryz.isAgg78 Tryz.sizeOf78 rfl rfl rfl rfl ⟨rfl, Below.refl _ _⟩) ?_
  refine alp 1 (.pointer (some ⟨b2, 1, none⟩)) hsub rfl (by kernel_rfl) (fun _ => (by kernel_rfl)) ?_
  refine al_light 2 (iv n1) hsub rfl (by kernel_rfl) (fun w hI => s_load1 hI 0 (iv n1) Tryz.isAgg3 rfl rfl rfl ⟨rfl, Below.refl _ _⟩) ?_
  refine al_light 3 (iv (n1 % 3)) hsub rfl (by kernel_rfl) (fun w hI => s_call 58 [iv n1, iv 3] (by kernel_rfl) (ModC n1 3  (by omega) _) (fun v' w' h => h)) ?_
  refine al_light 4 (.bool (decide (0 < n1 % 3))) hsub rfl (by kernel_rfl) (fun w hI => s_gtrB rfl rfl ⟨rfl, Below.refl _ _⟩) ?_
  refine any_heavy [5, 9, 10] (by kernel_rfl) rfl (each3 ?_ ?_ ?_)
  ·intro w hI
   refine ol_c rfl (s_callMade hI (q := pm) (t := q0 % 200) (l := tk) 57 [.agg #[iv q0, iv q1, .slice rA1 rn1 rc1, .slice rA2 rn2 rc2, .slice rA3 rn3 rc3], .bool (decide (0 < n1 % 3))] (by kernel_rfl) (by rw [hpm, htk]; exact MadeB_c _ q0 q1 hq0 rA1 rn1 rc1 rA2 rn2 rc2 rA3 rn3 rc3 ls ss ps (hC1.inv0 hI) hn1 hx1_ (hC2.inv0 hI) hn2 hx2_ (hC3.inv0 hI) hn3 hx3_ hok_ls hok_ss (decide (0 < n1 % 3))) ?_)
   intro g3 c4 cl5 g7 c8 cl9 g11 c12 cl13 g15 c16 cl17 w hI r6 r10 r14 r18
   refine ⟨_, hI, subk (fun _ h => h.pickL [4, 5] (by decide) rfl) ?_⟩
   intro hsub
   refine alp 6 (.tuple #[.agg #[iv pm.lo, iv pm.hi, slv g3 pm.loads.length c4, slv g7 pm.stands.length c8, slv g11 pm.spells.length c12, iv pm.geese], .agg #[iv (q0 % 200), slv g15 tk.length c16]]) hsub rfl (by kernel_rfl) (fun _ => (by kernel_rfl)) ?_
   refine alp 7 (.agg #[iv pm.lo, iv pm.hi, slv g3 pm.loads.length c4, slv g7 pm.stands.length c8, slv g11 pm.spells.length c12, iv pm.geese]) hsub rfl (by kernel_rfl) (fun _ => (by kernel_rfl)) ?_
   refine alp 8 (.agg #[iv (q0 % 200), slv g15 tk.length c16]) hsub rfl (by kernel_rfl) (fun _ => (by kernel_rfl)) ?_
   refine any_heavy [9, 10] (by kernel_rfl) rfl (each2 ?_ ?_)
   ·intro w hI
    refine ol_c rfl (s_allocI hI [iv 0, iv 0, .slice none 0 0, .slice none 0 0, .slice none 0 0, iv 0] Tryz.zeroValue28 rfl ?_)
    intro b19 w hI
    refine ⟨_, hI, subk (fun _ h => h.pickL [5, 6] (by decide) rfl) ?_⟩
    intro hsub
    refine any_heavy [10] (by kernel_rfl) rfl (each1 ?_)
    intro w hI
    refine ol_c rfl (s_allocI hI [iv 0, .slice none 0 0] Tryz.zeroValue57 rfl ?_)
    intro b20 w hI
    refine ⟨_, hI, subk (fun _ h => h.pickL [6, 7] (by decide) rfl) ?_⟩
    intro hsub
    refine any_heavy [11] (by kernel_rfl) rfl (each1 ?_)
    intro w hI
    refine ol_c rfl (s_store hI 1 6 [iv pm.lo, iv pm.hi, slv g3 pm.loads.length c4, slv g7 pm.stands.length c8, slv g11 pm.spells.length c12, iv pm.geese] Tryz.sizeOf28 rfl rfl rfl rfl rfl (Nat.le_of_ble_eq_true rfl) ?_)
    intro w hI
    refine ⟨_, hI, subk (fun _ h => h.pickL [6, 7] (by decide) rfl) ?_⟩
    intro hsub
    refine any_heavy [12] (by kernel_rfl) rfl (each1 ?_)
    intro w hI
    refine ol_c rfl (s_store hI 0 2 [iv (q0 % 200), slv g15 tk.length c16] Tryz.sizeOf57 rfl rfl rfl rfl rfl (Nat.le_of_ble_eq_true rfl) ?_)
    intro w hI
    refine ⟨_, hI, subk (fun _ h => h.pickL [6, 7] (by decide) rfl) ?_⟩
    intro hsub
    refine any_end (by kernel_rfl) (fun w hI => ?_)
    exact ⟨rfl, b19, g3, c4, cl5, g7, c8, cl9, g11, c12, cl13, ⟨rfl, rfl, rfl, trivial⟩, hI.pickL [1, 2, 3, 4, 6, 7] (by decide) rfl, r6, r10, r14⟩
   ·intro w hI
    refine ol_c rfl (s_allocI hI [iv 0, .slice none 0 0] Tryz.zeroValue57 rfl ?_)
    intro b21 w hI
    refine ⟨_, hI, subk (fun _ h => h.pickL [5, 6] (by decide) rfl) ?_⟩
    intro hsub
    refine any_heavy [9] (by kernel_rfl) rfl (each1 ?_)
    intro w hI
    refine ol_c rfl (s_allocI hI [iv 0, iv 0, .slice none 0 0, .slice none 0 0, .slice none 0 0, iv 0] Tryz.zeroValue28 rfl ?_)
    intro b22 w hI
    refine ⟨_, hI, subk (fun _ h => h.pickL [6, 7] (by decide) rfl) ?_⟩
    intro hsub
    refine any_heavy [11] (by kernel_rfl) rfl (each1 ?_)
    intro w hI
    refine ol_c rfl (s_store hI 0 6 [iv pm.lo, iv pm.hi, slv g3 pm.loads.length c4, slv g7 pm.stands.length c8, slv g11 pm.spells.length c12, iv pm.geese] Tryz.sizeOf28 rfl rfl rfl rfl rfl (Nat.le_of_ble_eq_true rfl) ?_)
    intro w hI
    refine ⟨_, hI, subk (fun _ h => h.pickL [6, 7] (by decide) rfl) ?_⟩
    intro hsub
    refine any_heavy [12] (by kernel_rfl) rfl (each1 ?_)
    intro w hI
    refine ol_c rfl (s_store hI 1 2 [iv (q0 % 200), slv g15 tk.length c16] Tryz.sizeOf57 rfl rfl rfl rfl rfl (Nat.le_of_ble_eq_true rfl) ?_)
    intro w hI
    refine ⟨_, hI, subk (fun _ h => h.pickL [6, 7] (by decide) rfl) ?_⟩
    intro hsub
    refine any_end (by kernel_rfl) (fun w hI => ?_)
    exact ⟨rfl, b22, g3, c4, cl5, g7, c8, cl9, g11, c12, cl13, ⟨rfl, rfl, rfl, trivial⟩, hI.pickL [0, 2, 3, 4, 6, 7] (by decide) rfl, r6, r10, r14⟩
  ·intro w hI
   refine ol_c rfl (s_allocI hI [iv 0, iv 0, .slice none 0 0, .slice none 0 0, .slice none 0 0, iv 0] Tryz.zeroValue28 rfl ?_)
   intro b23 w hI
   refine ⟨_, hI, subk (fun _ h => h.pickL [1, 2] (by decide) rfl) ?_⟩
   intro hsub
   refine any_heavy [5, 10] (by kernel_rfl) rfl (each2 ?_ ?_)
   ·intro w hI
    refine ol_c rfl (s_callMade hI (q := pm) (t := q0 % 200) (l := tk) 57 [.agg #[iv q0, iv q1, .slice rA1 rn1 rc1, .slice rA2 rn2 rc2, .slice rA3 rn3 rc3], .bool (decide (0 < n1 % 3))] (by kernel_rfl) (by rw [hpm, htk]; exact MadeB_c _ q0 q1 hq0 rA1 rn1 rc1 rA2 rn2 rc2 rA3 rn3 rc3 ls ss ps (hC1.inv0 hI) hn1 hx1_ (hC2.inv0 hI) hn2 hx2_ (hC3.inv0 hI) hn3 hx3_ hok_ls hok_ss (decide (0 < n1 % 3))) ?_)
    intro g24 c25 cl26 g28 c29 cl30 g32 c33 cl34 g36 c37 cl38 w hI r27 r31 r35 r39
    refine ⟨_, hI, subk (fun _ h => h.pickL [5, 6] (by decide) rfl) ?_⟩
    intro hsub
    refine alp 6 (.tuple #[.agg #[iv pm.lo, iv pm.hi, slv g24 pm.loads.length c25, slv g28 pm.stands.length c29, slv g32 pm.spells.length c33, iv pm.geese], .agg #[iv (q0 % 200), slv g36 tk.length c37]]) hsub rfl (by kernel_rfl) (fun _ => (by kernel_rfl)) ?_
    refine alp 7 (.agg #[iv pm.lo, iv pm.hi, slv g24 pm.loads.length c25, slv g28 pm.stands.length c29, slv g32 pm.spells.length c33, iv pm.geese]) hsub rfl (by kernel_rfl) (fun _ => (by kernel_rfl)) ?_
    refine alp 8 (.agg #[iv (q0 % 200), slv g36 tk.length c37]) hsub rfl (by kernel_rfl) (fun _ => (by kernel_rfl)) ?_
    refine any_heavy [10] (by kernel_rfl) rfl (each1 ?_)
    intro w hI
    refine ol_c rfl (s_allocI hI [iv 0, .slice none 0 0] Tryz.zeroValue57 rfl ?_)
    intro b40 w hI
    refine ⟨_, hI, subk (fun _ h => h.pickL [6, 7] (by decide) rfl) ?_⟩
    intro hsub
    refine any_heavy [11] (by kernel_rfl) rfl (each1 ?_)
    intro w hI
    refine ol_c rfl (s_store hI 5 6 [iv pm.lo, iv pm.hi, slv g24 pm.loads.length c25, slv g28 pm.stands.length c29, slv g32 pm.spells.length c33, iv pm.geese] Tryz.sizeOf28 rfl rfl rfl rfl rfl (Nat.le_of_ble_eq_true rfl) ?_)
    intro w hI
    refine ⟨_, hI, subk (fun _ h => h.pickL [6, 7] (by decide) rfl) ?_⟩
    intro hsub
    refine any_heavy [12] (by kernel_rfl) rfl (each1 ?_)
    intro w hI
    refine ol_c rfl (s_store hI 0 2 [iv (q0 % 200), slv g36 tk.length c37] Tryz.sizeOf57 rfl rfl rfl rfl rfl (Nat.le_of_ble_eq_true rfl) ?_)
    intro w hI
    refine ⟨_, hI, subk (fun _ h => h.pickL [6, 7] (by decide) rfl) ?_⟩
    intro hsub
    refine any_end (by kernel_rfl) (fun w hI => ?_)
    exact ⟨rfl, b23, g24, c25, cl26, g28, c29, cl30, g32, c33, cl34, ⟨rfl, rfl, rfl, trivial⟩, hI.pickL [5, 1, 2, 3, 6, 7] (by decide) rfl, r27, r31, r35⟩
   ·intro w hI
    refine ol_c rfl (s_allocI hI [iv 0, .slice none 0 0] Tryz.zeroValue57 rfl ?_)
    intro b41 w hI
    refine ⟨_, hI, subk (fun _ h => h.pickL [2, 3] (by decide) rfl) ?_⟩
    intro hsub
    refine any_heavy [5] (by kernel_rfl) rfl (each1 ?_)
    intro w hI
    refine ol_c rfl (s_callMade hI (q := pm) (t := q0 % 200) (l := tk) 57 [.agg #[iv q0, iv q1, .slice rA1 rn1 rc1, .slice rA2 rn2 rc2, .slice rA3 rn3 rc3], .bool (decide (0 < n1 % 3))] (by kernel_rfl) (by rw [hpm, htk]; exact MadeB_c _ q0 q1 hq0 rA1 rn1 rc1 rA2 rn2 rc2 rA3 rn3 rc3 ls ss ps (hC1.inv0 hI) hn1 hx1_ (hC2.inv0 hI) hn2 hx2_ (hC3.inv0 hI) hn3 hx3_ hok_ls hok_ss (decide (0 < n1 % 3))) ?_)
    intro g42 c43 cl44 g46 c47 cl48 g50 c51 cl52 g54 c55 cl56 w hI r45 r49 r53 r57
    refine ⟨_, hI, subk (fun _ h => h.pickL [6, 7] (by decide) rfl) ?_⟩
    intro hsub
    refine alp 6 (.tuple #[.agg #[iv pm.lo, iv pm.hi, slv g42 pm.loads.length c43, slv g46 pm.stands.length c47, slv g50 pm.spells.length c51, iv pm.geese], .agg #[iv (q0 % 200), slv g54 tk.length c55]]) hsub rfl (by kernel_rfl) (fun _ => (by kernel_rfl)) ?_
    refine alp 7 (.agg #[iv pm.lo, iv pm.hi, slv g42 pm.loads.length c43, slv g46 pm.stands.length c47, slv g50 pm.spells.length c51, iv pm.geese]) hsub rfl (by kernel_rfl) (fun _ => (by kernel_rfl)) ?_
    refine alp 8 (.agg #[iv (q0 % 200), slv g54 tk.length c55]) hsub rfl (by kernel_rfl) (fun _ => (by kernel_rfl)) ?_
    refine any_heavy [11] (by kernel_rfl) rfl (each1 ?_)
    intro w hI
    refine ol_c rfl (s_store hI 5 6 [iv pm.lo, iv pm.hi, slv g42 pm.loads.length c43, slv g46 pm.stands.length c47, slv g50 pm.spells.length c51, iv pm.geese] Tryz.sizeOf28 rfl rfl rfl rfl rfl (Nat.le_of_ble_eq_true rfl) ?_)
    intro w hI
    refine ⟨_, hI, subk (fun _ h => h.pickL [6, 7] (by decide) rfl) ?_⟩
    intro hsub
    refine any_heavy [12] (by kernel_rfl) rfl (each1 ?_)
    intro w hI
    refine ol_c rfl (s_store hI 4 2 [iv (q0 % 200), slv g54 tk.length c55] Tryz.sizeOf57 rfl rfl rfl rfl rfl (Nat.le_of_ble_eq_true rfl) ?_)
    intro w hI
    refine ⟨_, hI, subk (fun _ h => h.pickL [6, 7] (by decide) rfl) ?_⟩
    intro hsub
    refine any_end (by kernel_rfl) (fun w hI => ?_)
    exact ⟨rfl, b23, g42, c43, cl44, g46, c47, cl48, g50, c51, cl52, ⟨rfl, rfl, rfl, trivial⟩, hI.pickL [5, 0, 1, 2, 6, 7] (by decide) rfl, r45, r49, r53⟩
  ·intro w hI
   refine ol_c rfl (s_allocI hI [iv 0, .slice none 0 0] Tryz.zeroValue57 rfl ?_)
   intro b58 w hI
   refine ⟨_, hI, subk (fun _ h => h.pickL [1, 2] (by decide) rfl) ?_⟩
   intro hsub
   refine any_heavy [5, 9] (by kernel_rfl) rfl (each2 ?_ ?_)
   ·intro w hI
    refine ol_c rfl (s_callMade hI (q := pm) (t := q0 % 200) (l := tk) 57 [.agg #[iv q0, iv q1, .slice rA1 rn1 rc1, .slice rA2 rn2 rc2, .slice rA3 rn3 rc3], .bool (decide (0 < n1 % 3))] (by kernel_rfl) (by rw [hpm, htk]; exact MadeB_c _ q0 q1 hq0 rA1 rn1 rc1 rA2 rn2 rc2 rA3 rn3 rc3 ls ss ps (hC1.inv0 hI) hn1 hx1_ (hC2.inv0 hI) hn2 hx2_ (hC3.inv0 hI) hn3 hx3_ hok_ls hok_ss (decide (0 < n1 % 3))) ?_)
    intro g59 c60 cl61 g63 c64 cl65 g67 c68 cl69 g71 c72 cl73 w hI r62 r66 r70 r74
    refine ⟨_, hI, subk (fun _ h => h.pickL [5, 6] (by decide) rfl) ?_⟩
    intro hsub
    refine alp 6 (.tuple #[.agg #[iv pm.lo, iv pm.hi, slv g59 pm.loads.length c60, slv g63 pm.stands.length c64, slv g67 pm.spells.length c68, iv pm.geese], .agg #[iv (q0 % 200), slv g71 tk.length c72]]) hsub rfl (by kernel_rfl) (fun _ => (by kernel_rfl)) ?_
    refine alp 7 (.agg #[iv pm.lo, iv pm.hi, slv g59 pm.loads.length c60, slv g63 pm.stands.length c64, slv g67 pm.spells.length c68, iv pm.geese]) hsub rfl (by kernel_rfl) (fun _ => (by kernel_rfl)) ?_
    refine alp 8 (.agg #[iv (q0 % 200), slv g71 tk.length c72]) hsub rfl (by kernel_rfl) (fun _ => (by kernel_rfl)) ?_
    refine any_heavy [9] (by kernel_rfl) rfl (each1 ?_)
    intro w hI
    refine ol_c rfl (s_allocI hI [iv 0, iv 0, .slice none 0 0, .slice none 0 0, .slice none 0 0, iv 0] Tryz.zeroValue28 rfl ?_)
    intro b75 w hI
    refine ⟨_, hI, subk (fun _ h => h.pickL [6, 7] (by decide) rfl) ?_⟩
    intro hsub
    refine any_heavy [11] (by kernel_rfl) rfl (each1 ?_)
    intro w hI
    refine ol_c rfl (s_store hI 0 6 [iv pm.lo, iv pm.hi, slv g59 pm.loads.length c60, slv g63 pm.stands.length c64, slv g67 pm.spells.length c68, iv pm.geese] Tryz.sizeOf28 rfl rfl rfl rfl rfl (Nat.le_of_ble_eq_true rfl) ?_)
    intro w hI
    refine ⟨_, hI, subk (fun _ h => h.pickL [6, 7] (by decide) rfl) ?_⟩
    intro hsub
    refine any_heavy [12] (by kernel_rfl) rfl (each1 ?_)
    intro w hI
    refine ol_c rfl (s_store hI 5 2 [iv (q0 % 200), slv g71 tk.length c72] Tryz.sizeOf57 rfl rfl rfl rfl rfl (Nat.le_of_ble_eq_true rfl) ?_)
    intro w hI
    refine ⟨_, hI, subk (fun _ h => h.pickL [6, 7] (by decide) rfl) ?_⟩
    intro hsub
    refine any_end (by kernel_rfl) (fun w hI => ?_)
    exact ⟨rfl, b75, g59, c60, cl61, g63, c64, cl65, g67, c68, cl69, ⟨rfl, rfl, rfl, trivial⟩, hI.pickL [0, 1, 2, 3, 6, 7] (by decide) rfl, r62, r66, r70⟩
   ·intro w hI
    refine ol_c rfl (s_allocI hI [iv 0, iv 0, .slice none 0 0, .slice none 0 0, .slice none 0 0, iv 0] Tryz.zeroValue28 rfl ?_)
    intro b76 w hI
    refine ⟨_, hI, subk (fun _ h => h.pickL [2, 3] (by decide) rfl) ?_⟩
    intro hsub
    refine any_heavy [5] (by kernel_rfl) rfl (each1 ?_)
    intro w hI
    refine ol_c rfl (s_callMade hI (q := pm) (t := q0 % 200) (l := tk) 57 [.agg #[iv q0, iv q1, .slice rA1 rn1 rc1, .slice rA2 rn2 rc2, .slice rA3 rn3 rc3], .bool (decide (0 < n1 % 3))] (by kernel_rfl) (by rw [hpm, htk]; exact MadeB_c _ q0 q1 hq0 rA1 rn1 rc1 rA2 rn2 rc2 rA3 rn3 rc3 ls ss ps (hC1.inv0 hI) hn1 hx1_ (hC2.inv0 hI) hn2 hx2_ (hC3.inv0 hI) hn3 hx3_ hok_ls hok_ss (decide (0 < n1 % 3))) ?_)
    intro g77 c78 cl79 g81 c82 cl83 g85 c86 cl87 g89 c90 cl91 w hI r80 r84 r88 r92
    refine ⟨_, hI, subk (fun _ h => h.pickL [6, 7] (by decide) rfl) ?_⟩
    intro hsub
    refine alp 6 (.tuple #[.agg #[iv pm.lo, iv pm.hi, slv g77 pm.loads.length c78, slv g81 pm.stands.length c82, slv g85 pm.spells.length c86, iv pm.geese], .agg #[iv (q0 % 200), slv g89 tk.length c90]]) hsub rfl (by kernel_rfl) (fun _ => (by kernel_rfl)) ?_
    refine alp 7 (.agg #[iv pm.lo, iv pm.hi, slv g77 pm.loads.length c78, slv g81 pm.stands.length c82, slv g85 pm.spells.length c86, iv pm.geese]) hsub rfl (by kernel_rfl) (fun _ => (by kernel_rfl)) ?_
    refine alp 8 (.agg #[iv (q0 % 200), slv g89 tk.length c90]) hsub rfl (by kernel_rfl) (fun _ => (by kernel_rfl)) ?_
    refine any_heavy [11] (by kernel_rfl) rfl (each1 ?_)
    intro w hI
    refine ol_c rfl (s_store hI 4 6 [iv pm.lo, iv pm.hi, slv g77 pm.loads.length c78, slv g81 pm.stands.length c82, slv g85 pm.spells.length c86, iv pm.geese] Tryz.sizeOf28 rfl rfl rfl rfl rfl (Nat.le_of_ble_eq_true rfl) ?_)
    intro w hI
    refine ⟨_, hI, subk (fun _ h => h.pickL [6, 7] (by decide) rfl) ?_⟩
    intro hsub
    refine any_heavy [12] (by kernel_rfl) rfl (each1 ?_)
    intro w hI
    refine ol_c rfl (s_store hI 5 2 [iv (q0 % 200), slv g89 tk.length c90] Tryz.sizeOf57 rfl rfl rfl rfl rfl (Nat.le_of_ble_eq_true rfl) ?_)
    intro w hI
    refine ⟨_, hI, subk (fun _ h => h.pickL [6, 7] (by decide) rfl) ?_⟩
    intro hsub
    refine any_end (by kernel_rfl) (fun w hI => ?_)
    exact ⟨rfl, b76, g77, c78, cl79, g81, c82, cl83, g85, c86, cl87, ⟨rfl, rfl, rfl, trivial⟩, hI.pickL [4, 0, 1, 2, 6, 7] (by decide) rfl, r80, r84, r88⟩
 ·rintro ρ w ⟨b19, g3, c4, cl5, g7, c8, cl9, g11, c12, cl13, hag, hI, r6, r10, r14⟩
  obtain ⟨ρ, rfl⟩ := hag.form; clear hag
  refine wp_seq (rgn (by kernel_rfl) (pu (.pointer (some ⟨b2, 0, none⟩)) (by kernel_rfl) (seq_c (s_load1 hI 4 (iv n0) Tryz.isAgg3 rfl rfl rfl ?_))))
  refine seq_c (s_callv hI 58 [iv n0, iv 130] (iv (n0 % 130)) (by kernel_rfl) (ModC n0 130  (by omega) _) ?_)
  intro w hI
  refine seq_c (s_add rfl rfl (by omega) ?_)
  refine pu (iv (15 + (n0 % 130))) (by kernel_rfl) (seq_nil (wp_seq (rgn (by kernel_rfl) (pu (.pointer (some ⟨b2, 1, none⟩)) (by kernel_rfl) (seq_c (s_load1 hI 4 (iv n1) Tryz.isAgg3 rfl rfl rfl ?_))))))
  refine seq_c (s_callv hI 58 [iv n1, iv 24] (iv (n1 % 24)) (by kernel_rfl) (ModC n1 24  (by omega) _) ?_)
  intro w hI
  refine pu (iv (n1 % 24)) (by kernel_rfl) (seq_nil (wp_seq (rgn (by kernel_rfl) (seq_c (s_loadK hI 0 6 [iv pm.lo, iv pm.hi, slv g3 pm.loads.length c4, slv g7 pm.stands.length c8, slv g11 pm.spells.length c12, iv pm.geese] Tryz.isAgg28 Tryz.sizeOf28 rfl rfl rfl rfl ?_)))))
  refine pu (iv (n1 % 24)) (by kernel_rfl) ?_
  rcases Bool.eq_false_or_eq_true (soundC pm (n1 % 24)).1 with hsn | hsn
  ·
   have hso : (stoodF (scnF pm (n1 % 24)) (crtF pm (n1 % 24))).2 = true := hA.se.symm.trans hsn
   obtain ⟨Nlo, hNlo, hTlo, hLlo⟩ := hA.low hsn false
   obtain ⟨Nhi, hNhi, hThi, hLhi⟩ := hA.low hsn true
   simp only [if_true] at hLhi; rw [if_neg (by decide)] at hLlo
   refine seq_c (s_callv hI 30 [.agg #[iv pm.lo, iv pm.hi, slv g3 pm.loads.length c4, slv g7 pm.stands.length c8, slv g11 pm.spells.length c12, iv pm.geese], iv (n1 % 24)] (.tuple #[.bool true, iv 0]) (by kernel_rfl) (Does.mono (Sound_c _ pm (g3.map fun b => ⟨b, 0, none⟩) pm.loads.length c4 (g7.map fun b => ⟨b, 0, none⟩) pm.stands.length c8 (g11.map fun b => ⟨b, 0, none⟩) pm.spells.length c12 ⟨(hI.rowCells 1 rfl r6), rfl, (hI.rowCells 2 rfl r10), rfl, (hI.rowCells 3 rfl r14), rfl, r6.big_4, r10.big_4, r14.big_4⟩ (n1 % 24) hn19) fun v w' h => ⟨h.1.trans (by rw [hsn, hA.e0]), h.2⟩) ?_)
   intro w hI
   refine pu (.tuple #[.bool true, iv 0]) (by kernel_rfl) (pu (.bool true) (by kernel_rfl) (pu (iv 0) (by kernel_rfl) (pu (.bool true) (by kernel_rfl) (pu (iv 0) (by kernel_rfl) (seq_nil (wp_seq (rgn (by kernel_rfl) (seq_c (s_loadK hI 0 6 [iv pm.lo, iv pm.hi, slv g3 pm.loads.length c4, slv g7 pm.stands.length c8, slv g11 pm.spells.length c12, iv pm.geese] Tryz.isAgg28 Tryz.sizeOf28 rfl rfl rfl rfl ?_)))))))))
   refine pu (iv (15 + (n0 % 130))) (by kernel_rfl) (pu (iv (n1 % 24)) (by kernel_rfl) (seq_c (s_callv hI 36 [.agg #[iv pm.lo, iv pm.hi, slv g3 pm.loads.length c4, slv g7 pm.stands.length c8, slv g11 pm.spells.length c12, iv pm.geese], iv (15 + (n0 % 130)), iv (n1 % 24)] (.tuple #[.agg #[iv ((stoodC pm (15 + (n0 % 130)) (n1 % 24)).1.lo), iv ((stoodC pm (15 + (n0 % 130)) (n1 % 24)).1.hi)], iv ((stoodC pm (15 + (n0 % 130)) (n1 % 24)).2)]) (by kernel_rfl) (Stood_c _ pm (g3.map fun b => ⟨b, 0, none⟩) pm.loads.length c4 (g7.map fun b => ⟨b, 0, none⟩) pm.stands.length c8 (g11.map fun b => ⟨b, 0, none⟩) pm.spells.length c12 ⟨(hI.rowCells 1 rfl r6), rfl, (hI.rowCells 2 rfl r10), rfl, (hI.rowCells 3 rfl r14), rfl, r6.big_4, r10.big_4, r14.big_4⟩ (15 + (n0 % 130)) (n1 % 24) (by omega)) ?_)))
   intro w hI
   refine pu (.tuple #[.agg #[iv ((stoodC pm (15 + (n0 % 130)) (n1 % 24)).1.lo), iv ((stoodC pm (15 + (n0 % 130)) (n1 % 24)).1.hi)], iv ((stoodC pm (15 + (n0 % 130)) (n1 % 24)).2)]) (by kernel_rfl) (pu (.agg #[iv ((stoodC pm (15 + (n0 % 130)) (n1 % 24)).1.lo), iv ((stoodC pm (15 + (n0 % 130)) (n1 % 24)).1.hi)]) (by kernel_rfl) (pu (iv ((stoodC pm (15 + (n0 % 130)) (n1 % 24)).2)) (by kernel_rfl) (seq_c (s_allocI hI [iv 0, iv 0] Tryz.zeroValue23 rfl ?_))))
   intro b93 w hI
   refine seq_c (s_store hI 0 2 [iv ((stoodC pm (15 + (n0 % 130)) (n1 % 24)).1.lo), iv ((stoodC pm (15 + (n0 % 130)) (n1 % 24)).1.hi)] Tryz.sizeOf23 rfl rfl rfl rfl rfl (Nat.le_of_ble_eq_true rfl) ?_)
   intro w hI
   refine pu (iv ((stoodC pm (15 + (n0 % 130)) (n1 % 24)).2)) (by kernel_rfl) (seq_nil (wp_seq (rgn (by kernel_rfl) (seq_c (s_loadK hI 1 6 [iv pm.lo, iv pm.hi, slv g3 pm.loads.length c4, slv g7 pm.stands.length c8, slv g11 pm.spells.length c12, iv pm.geese] Tryz.isAgg28 Tryz.sizeOf28 rfl rfl rfl rfl ?_)))))
   refine pu (iv (15 + (n0 % 130))) (by kernel_rfl) (pu (iv (n1 % 24)) (by kernel_rfl) (seq_c (s_callv hI 45 [.agg #[iv pm.lo, iv pm.hi, slv g3 pm.loads.length c4, slv g7 pm.stands.length c8, slv g11 pm.spells.length c12, iv pm.geese], iv (15 + (n0 % 130)), iv (n1 % 24)] (.tuple #[iv ((clearC pm (15 + (n0 % 130)) (n1 % 24)).1), iv ((clearC pm (15 + (n0 % 130)) (n1 % 24)).2)]) (by kernel_rfl) (Clear_c _ pm (g3.map fun b => ⟨b, 0, none⟩) pm.loads.length c4 (g7.map fun b => ⟨b, 0, none⟩) pm.stands.length c8 (g11.map fun b => ⟨b, 0, none⟩) pm.spells.length c12 ⟨(hI.rowCells 2 rfl r6), rfl, (hI.rowCells 3 rfl r10), rfl, (hI.rowCells 4 rfl r14), rfl, r6.big_4, r10.big_4, r14.big_4⟩ (15 + (n0 % 130)) (n1 % 24) (by omega)) ?_)))
   intro w hI
   refine pu (.tuple #[iv ((clearC pm (15 + (n0 % 130)) (n1 % 24)).1), iv ((clearC pm (15 + (n0 % 130)) (n1 % 24)).2)]) (by kernel_rfl) (pu (iv ((clearC pm (15 + (n0 % 130)) (n1 % 24)).1)) (by kernel_rfl) (pu (iv ((clearC pm (15 + (n0 % 130)) (n1 % 24)).2)) (by kernel_rfl) (pu (iv ((clearC pm (15 + (n0 % 130)) (n1 % 24)).1)) (by kernel_rfl) (pu (iv ((clearC pm (15 + (n0 % 130)) (n1 % 24)).2)) (by kernel_rfl) (seq_nil (wp_seq (rgn (by kernel_rfl) (seq_c (s_loadK hI 1 6 [iv pm.lo, iv pm.hi, slv g3 pm.loads.length c4, slv g7 pm.stands.length c8, slv g11 pm.spells.length c12, iv pm.geese] Tryz.isAgg28 Tryz.sizeOf28 rfl rfl rfl rfl ?_)))))))))
   refine pu (iv (15 + (n0 % 130))) (by kernel_rfl) (pu (iv (n1 % 24)) (by kernel_rfl) (seq_c (s_callCart hI (e0 := (endsF false (stoodF (scnF pm (n1 % 24)) (crtF pm (n1 % 24))).1).getD 0 0) (l := (scnF pm (n1 % 24)).loads.map (fun x : Ld => Nlo x.src)) 44 [.agg #[iv pm.lo, iv pm.hi, slv g3 pm.loads.length c4, slv g7 pm.stands.length c8, slv g11 pm.spells.length c12, iv pm.geese], iv (15 + (n0 % 130)), iv (n1 % 24), .bool false] (fun v1 => .tuple #[v1, iv 0]) (by kernel_rfl) (Does.mono (Attain_c _ pm (g3.map fun b => ⟨b, 0, none⟩) pm.loads.length c4 (g7.map fun b => ⟨b, 0, none⟩) pm.stands.length c8 (g11.map fun b => ⟨b, 0, none⟩) pm.spells.length c12 ⟨(hI.rowCells 2 rfl r6), rfl, (hI.rowCells 3 rfl r10), rfl, (hI.rowCells 4 rfl r14), rfl, r6.big_4, r10.big_4, r14.big_4⟩ (15 + (n0 % 130)) (n1 % 24) false hn19 hhour Nlo (fun _ => hNlo)) fun v w h => h.elim (fun h => h.2) (fun h => absurd (hso.symm.trans h.1) (by decide))) ?_)))
   intro g94 c95 cl96 w hI r97
   have r97 : Row 1 g94 (((scnF pm (n1 % 24)).loads.map (fun x : Ld => Nlo x.src)).length) c95 cl96 (flat eInt ((scnF pm (n1 % 24)).loads.map (fun x : Ld => Nlo x.src))) := r97
   refine pu (.tuple #[.agg #[iv ((endsF false (stoodF (scnF pm (n1 % 24)) (crtF pm (n1 % 24))).1).getD 0 0), slv g94 (((scnF pm (n1 % 24)).loads.map (fun x : Ld => Nlo x.src)).length) c95], iv 0]) (by kernel_rfl) (pu (.agg #[iv ((endsF false (stoodF (scnF pm (n1 % 24)) (crtF pm (n1 % 24))).1).getD 0 0), slv g94 (((scnF pm (n1 % 24)).loads.map (fun x : Ld => Nlo x.src)).length) c95]) (by kernel_rfl) (pu (iv 0) (by kernel_rfl) (seq_c (s_allocI hI [iv 0, .slice none 0 0] Tryz.zeroValue57 rfl ?_))))
   intro b98 w hI
   refine seq_c (s_store hI 0 2 [iv ((endsF false (stoodF (scnF pm (n1 % 24)) (crtF pm (n1 % 24))).1).getD 0 0), slv g94 (((scnF pm (n1 % 24)).loads.map (fun x : Ld => Nlo x.src)).length) c95] Tryz.sizeOf57 rfl rfl rfl rfl rfl (Nat.le_of_ble_eq_true rfl) ?_)
   intro w hI
   refine pu (iv 0) (by kernel_rfl) (seq_nil (wp_seq (rgn (by kernel_rfl) (seq_c (s_loadK hI 3 6 [iv pm.lo, iv pm.hi, slv g3 pm.loads.length c4, slv g7 pm.stands.length c8, slv g11 pm.spells.length c12, iv pm.geese] Tryz.isAgg28 Tryz.sizeOf28 rfl rfl rfl rfl ?_)))))
   refine pu (iv (15 + (n0 % 130))) (by kernel_rfl) (pu (iv (n1 % 24)) (by kernel_rfl) (seq_c (s_callCart hI (e0 := (endsF true (stoodF (scnF pm (n1 % 24)) (crtF pm (n1 % 24))).1).getD 0 0) (l := (scnF pm (n1 % 24)).loads.map (fun x : Ld => Nhi x.src)) 44 [.agg #[iv pm.lo, iv pm.hi, slv g3 pm.loads.length c4, slv g7 pm.stands.length c8, slv g11 pm.spells.length c12, iv pm.geese], iv (15 + (n0 % 130)), iv (n1 % 24), .bool true] (fun v1 => .tuple #[v1, iv 0]) (by kernel_rfl) (Does.mono (Attain_c _ pm (g3.map fun b => ⟨b, 0, none⟩) pm.loads.length c4 (g7.map fun b => ⟨b, 0, none⟩) pm.stands.length c8 (g11.map fun b => ⟨b, 0, none⟩) pm.spells.length c12 ⟨(hI.rowCells 4 rfl r6), rfl, (hI.rowCells 5 rfl r10), rfl, (hI.rowCells 6 rfl r14), rfl, r6.big_4, r10.big_4, r14.big_4⟩ (15 + (n0 % 130)) (n1 % 24) true hn19 hhour Nhi (fun _ => hNhi)) fun v w h => h.elim (fun h => h.2) (fun h => absurd (hso.symm.trans h.1) (by decide))) ?_)))
   intro g99 c100 cl101 w hI r102
   have r102 : Row 1 g99 (((scnF pm (n1 % 24)).loads.map (fun x : Ld => Nhi x.src)).length) c100 cl101 (flat eInt ((scnF pm (n1 % 24)).loads.map (fun x : Ld => Nhi x.src))) := r102
   refine pu (.tuple #[.agg #[iv ((endsF true (stoodF (scnF pm (n1 % 24)) (crtF pm (n1 % 24))).1).getD 0 0), slv g99 (((scnF pm (n1 % 24)).loads.map (fun x : Ld => Nhi x.src)).length) c100], iv 0]) (by kernel_rfl) (pu (.agg #[iv ((endsF true (stoodF (scnF pm (n1 % 24)) (crtF pm (n1 % 24))).1).getD 0 0), slv g99 (((scnF pm (n1 % 24)).loads.map (fun x : Ld => Nhi x.src)).length) c100]) (by kernel_rfl) (pu (iv 0) (by kernel_rfl) (seq_c (s_allocI hI [iv 0, .slice none 0 0] Tryz.zeroValue57 rfl ?_))))
   intro b103 w hI
   refine seq_c (s_store hI 0 2 [iv ((endsF true (stoodF (scnF pm (n1 % 24)) (crtF pm (n1 % 24))).1).getD 0 0), slv g99 (((scnF pm (n1 % 24)).loads.map (fun x : Ld => Nhi x.src)).length) c100] Tryz.sizeOf57 rfl rfl rfl rfl rfl (Nat.le_of_ble_eq_true rfl) ?_)
   intro w hI
   refine pu (iv 0) (by kernel_rfl) (seq_nil (wp_seq (wp_seq (rgn (by kernel_rfl) (pu (.bool true) (by kernel_rfl) (pu (.bool false) (by kernel_rfl) (pu (.bool false) (by kernel_rfl) (puo (iv 0) ⟨(by kernel_rfl), (by kernel_rfl)⟩ (seq_on (by kernel_rfl) (s_neqS4 rfl rfl ?_))))))))))
   refine pu (.bool false) (by kernel_rfl) (seq_nil (wp_condF rfl (wp_skip (wp_seq (wp_seq (rgn (by kernel_rfl) (pu (.bool true) (by kernel_rfl) (pu (.bool false) (by kernel_rfl) (seq_nil ?_)))))))))
   refine wp_condF rfl (wp_skip (wp_seq (rgn (by kernel_rfl) (seq_c (s_loadK hI 5 6 [iv pm.lo, iv pm.hi, slv g3 pm.loads.length c4, slv g7 pm.stands.length c8, slv g11 pm.spells.length c12, iv pm.geese] Tryz.isAgg28 Tryz.sizeOf28 rfl rfl rfl rfl ?_)))))
   refine seq_c (s_loadK hI 2 2 [iv ((endsF false (stoodF (scnF pm (n1 % 24)) (crtF pm (n1 % 24))).1).getD 0 0), slv g94 (((scnF pm (n1 % 24)).loads.map (fun x : Ld => Nlo x.src)).length) c95] Tryz.isAgg57 Tryz.sizeOf57 rfl rfl rfl rfl ?_)
   refine pu (iv (15 + (n0 % 130))) (by kernel_rfl) (pu (iv (n1 % 24)) (by kernel_rfl) (seq_c (s_callv hI 40 [.agg #[iv pm.lo, iv pm.hi, slv g3 pm.loads.length c4, slv g7 pm.stands.length c8, slv g11 pm.spells.length c12, iv pm.geese], .agg #[iv ((endsF false (stoodF (scnF pm (n1 % 24)) (crtF pm (n1 % 24))).1).getD 0 0), slv g94 (((scnF pm (n1 % 24)).loads.map (fun x : Ld => Nlo x.src)).length) c95], iv (15 + (n0 % 130)), iv (n1 % 24)] (.tuple #[iv ((stoodC pm (15 + (n0 % 130)) (n1 % 24)).1.lo), iv 0]) (by kernel_rfl) (by rw [← hLlo]; exact Left_c _ pm (g3.map fun b => ⟨b, 0, none⟩) pm.loads.length c4 (g7.map fun b => ⟨b, 0, none⟩) pm.stands.length c8 (g11.map fun b => ⟨b, 0, none⟩) pm.spells.length c12 ⟨(hI.rowCells 6 rfl r6), rfl, (hI.rowCells 7 rfl r10), rfl, (hI.rowCells 8 rfl r14), rfl, r6.big_4, r10.big_4, r14.big_4⟩ (15 + (n0 % 130)) (n1 % 24) hn19 hhour ((endsF false (stoodF (scnF pm (n1 % 24)) (crtF pm (n1 % 24))).1).getD 0 0) (g94.map fun b => ⟨b, 0, none⟩) (((scnF pm (n1 % 24)).loads.map (fun x : Ld => Nlo x.src)).length) c95 ((scnF pm (n1 % 24)).loads.map (fun x : Ld => Nlo x.src)) (hI.rowCells 3 rfl r97) rfl Nlo hTlo) ?_)))
   intro w hI
   refine pu (.tuple #[iv ((stoodC pm (15 + (n0 % 130)) (n1 % 24)).1.lo), iv 0]) (by kernel_rfl) (pu (iv ((stoodC pm (15 + (n0 % 130)) (n1 % 24)).1.lo)) (by kernel_rfl) (pu (iv 0) (by kernel_rfl) (pu (iv ((stoodC pm (15 + (n0 % 130)) (n1 % 24)).1.lo)) (by kernel_rfl) (pu (iv 0) (by kernel_rfl) (seq_nil (wp_seq (rgn (by kernel_rfl) (seq_c (s_loadK hI 5 6 [iv pm.lo, iv pm.hi, slv g3 pm.loads.length c4, slv g7 pm.stands.length c8, slv g11 pm.spells.length c12, iv pm.geese] Tryz.isAgg28 Tryz.sizeOf28 rfl rfl rfl rfl ?_)))))))))
   refine seq_c (s_loadK hI 0 2 [iv ((endsF true (stoodF (scnF pm (n1 % 24)) (crtF pm (n1 % 24))).1).getD 0 0), slv g99 (((scnF pm (n1 % 24)).loads.map (fun x : Ld => Nhi x.src)).length) c100] Tryz.isAgg57 Tryz.sizeOf57 rfl rfl rfl rfl ?_)
   refine pu (iv (15 + (n0 % 130))) (by kernel_rfl) (pu (iv (n1 % 24)) (by kernel_rfl) (seq_c (s_callv hI 40 [.agg #[iv pm.lo, iv pm.hi, slv g3 pm.loads.length c4, slv g7 pm.stands.length c8, slv g11 pm.spells.length c12, iv pm.geese], .agg #[iv ((endsF true (stoodF (scnF pm (n1 % 24)) (crtF pm (n1 % 24))).1).getD 0 0), slv g99 (((scnF pm (n1 % 24)).loads.map (fun x : Ld => Nhi x.src)).length) c100], iv (15 + (n0 % 130)), iv (n1 % 24)] (.tuple #[iv ((stoodC pm (15 + (n0 % 130)) (n1 % 24)).1.hi), iv 0]) (by kernel_rfl) (by rw [← hLhi]; exact Left_c _ pm (g3.map fun b => ⟨b, 0, none⟩) pm.loads.length c4 (g7.map fun b => ⟨b, 0, none⟩) pm.stands.length c8 (g11.map fun b => ⟨b, 0, none⟩) pm.spells.length c12 ⟨(hI.rowCells 6 rfl r6), rfl, (hI.rowCells 7 rfl r10), rfl, (hI.rowCells 8 rfl r14), rfl, r6.big_4, r10.big_4, r14.big_4⟩ (15 + (n0 % 130)) (n1 % 24) hn19 hhour ((endsF true (stoodF (scnF pm (n1 % 24)) (crtF pm (n1 % 24))).1).getD 0 0) (g99.map fun b => ⟨b, 0, none⟩) (((scnF pm (n1 % 24)).loads.map (fun x : Ld => Nhi x.src)).length) c100 ((scnF pm (n1 % 24)).loads.map (fun x : Ld => Nhi x.src)) (hI.rowCells 1 rfl r102) rfl Nhi hThi) ?_)))
   intro w hI
   refine pu (.tuple #[iv ((stoodC pm (15 + (n0 % 130)) (n1 % 24)).1.hi), iv 0]) (by kernel_rfl) (pu (iv ((stoodC pm (15 + (n0 % 130)) (n1 % 24)).1.hi)) (by kernel_rfl) (pu (iv 0) (by kernel_rfl) (pu (iv ((stoodC pm (15 + (n0 % 130)) (n1 % 24)).1.hi)) (by kernel_rfl) (pu (iv 0) (by kernel_rfl) (seq_nil (wp_seq (wp_cut (fun ρ w => Agree ρ [(14, iv ((clearC pm (15 + (n0 % 130)) (n1 % 24)).1)), (20, iv ((stoodC pm (15 + (n0 % 130)) (n1 % 24)).1.lo)), (22, iv ((stoodC pm (15 + (n0 % 130)) (n1 % 24)).1.hi)), (154, .bool false)] ∧ Inv none w0 w [(some b103, blk [iv ((endsF true (stoodF (scnF pm (n1 % 24)) (crtF pm (n1 % 24))).1).getD 0 0), slv g99 (((scnF pm (n1 % 24)).loads.map (fun x : Ld => Nhi x.src)).length) c100] 57), (g99, blk cl101 3), (some b98, blk [iv ((endsF false (stoodF (scnF pm (n1 % 24)) (crtF pm (n1 % 24))).1).getD 0 0), slv g94 (((scnF pm (n1 % 24)).loads.map (fun x : Ld => Nlo x.src)).length) c95] 57), (g94, blk cl96 3), (some b93, blk [iv ((stoodC pm (15 + (n0 % 130)) (n1 % 24)).1.lo), iv ((stoodC pm (15 + (n0 % 130)) (n1 % 24)).1.hi)] 23), (some b19, blk [iv pm.lo, iv pm.hi, slv g3 pm.loads.length c4, slv g7 pm.stands.length c8, slv g11 pm.spells.length c12, iv pm.geese] 28), (g3, blk cl5 30), (g7, blk cl9 31), (g11, blk cl13 33), (some b2, blk [iv n0, iv n1] 65), (some b1, blk [iv q0, iv q1, .slice rA1 rn1 rc1, .slice rA2 rn2 rc2, .slice rA3 rn3 rc3] 78)]) ?_ ?_)))))))
   ·
    refine rgn (by kernel_rfl) (pu (iv ((stoodC pm (15 + (n0 % 130)) (n1 % 24)).2)) (by kernel_rfl) (seq_c (s_neq rfl rfl ?_ ?_)))
    ·intro h1
     exact absurd h1 (not_not_intro (hA.y1 hsn))
    ·intro h2
     refine pu (.bool false) (by kernel_rfl) (puo (iv ((clearC pm (15 + (n0 % 130)) (n1 % 24)).2)) ⟨(by kernel_rfl), (by kernel_rfl)⟩ (seq_on (by kernel_rfl) (s_neq rfl rfl ?_ ?_)))
     ·intro h3
      exact absurd h3 (not_not_intro (hA.y2 hsn))
     ·intro h4
      refine pu (.bool false) (by kernel_rfl) (pu (.bool false) (by kernel_rfl) (puo (iv 0) ⟨(by kernel_rfl), (by kernel_rfl)⟩ (seq_on (by kernel_rfl) (s_neqS4 rfl rfl ?_))))
      refine pu (.bool false) (by kernel_rfl) (pu (.bool false) (by kernel_rfl) (puo (iv 0) ⟨(by kernel_rfl), (by kernel_rfl)⟩ (seq_on (by kernel_rfl) (s_neqS4 rfl rfl ?_))))
      refine pu (.bool false) (by kernel_rfl) (pu (.bool false) (by kernel_rfl) (puo (iv 0) ⟨(by kernel_rfl), (by kernel_rfl)⟩ (seq_on (by kernel_rfl) (s_neqS4 rfl rfl ?_))))
      refine pu (.bool false) (by kernel_rfl) (pu (.bool false) (by kernel_rfl) (puo (iv 0) ⟨(by kernel_rfl), (by kernel_rfl)⟩ (seq_on (by kernel_rfl) (s_neqS4 rfl rfl ?_))))
      refine pu (.bool false) (by kernel_rfl) (pu (.bool false) (by kernel_rfl) (puo (iv ((stoodC pm (15 + (n0 % 130)) (n1 % 24)).1.lo)) ⟨(by kernel_rfl), (by kernel_rfl)⟩ (puo (.pointer (some ⟨b93, 0, none⟩)) ⟨(by kernel_rfl), (by kernel_rfl)⟩ (seq_on (by kernel_rfl) (s_load1 hI 4 (iv ((stoodC pm (15 + (n0 % 130)) (n1 % 24)).1.lo)) Tryz.isAgg3 rfl rfl rfl ?_)))))
      refine seq_on (by kernel_rfl) (s_neqS4 rfl rfl ?_)
      refine pu (.bool false) (by kernel_rfl) (pu (.bool false) (by kernel_rfl) (puo (iv ((stoodC pm (15 + (n0 % 130)) (n1 % 24)).1.hi)) ⟨(by kernel_rfl), (by kernel_rfl)⟩ (puo (.pointer (some ⟨b93, 1, none⟩)) ⟨(by kernel_rfl), (by kernel_rfl)⟩ (seq_on (by kernel_rfl) (s_load1 hI 4 (iv ((stoodC pm (15 + (n0 % 130)) (n1 % 24)).1.hi)) Tryz.isAgg3 rfl rfl rfl ?_)))))
      refine seq_on (by kernel_rfl) (s_neqS4 rfl rfl ?_)
      refine pu (.bool false) (by kernel_rfl) (pu (.bool false) (by kernel_rfl) (puo (iv ((stoodC pm (15 + (n0 % 130)) (n1 % 24)).1.lo)) ⟨(by kernel_rfl), (by kernel_rfl)⟩ (puo (iv ((stoodC pm (15 + (n0 % 130)) (n1 % 24)).1.hi)) ⟨(by kernel_rfl), (by kernel_rfl)⟩ (seq_on (by kernel_rfl) (s_gtr rfl rfl ?_ ?_)))))
      ·intro h5
       exact absurd h5 (Int.not_lt.2 (hA.le hsn))
      ·intro h6
       refine pu (.bool false) (by kernel_rfl) (seq_nil ?_)
       exact ⟨rfl, ⟨rfl, rfl, rfl, rfl, trivial⟩, hI.pickL [0, 1, 2, 3, 4, 5, 6, 7, 8, 9, 10] (by decide) rfl⟩
   ·rintro ρ w ⟨hag, hI⟩
    obtain ⟨ρ, rfl⟩ := hag.form; clear hag
    refine wp_condF rfl (wp_skip (wp_seq (rgn (by kernel_rfl) (pu (iv ((clearC pm (15 + (n0 % 130)) (n1 % 24)).1)) (by kernel_rfl) (seq_c (s_eql rfl rfl ?_ ?_))))))
    ·intro h7
     refine pu (iv ((stoodC pm (15 + (n0 % 130)) (n1 % 24)).1.lo)) (by kernel_rfl) (seq_c (s_eql rfl rfl ?_ ?_))
     ·intro h8
      refine pu (.bool true) (by kernel_rfl) (puo (iv ((stoodC pm (15 + (n0 % 130)) (n1 % 24)).1.hi)) ⟨(by kernel_rfl), (by kernel_rfl)⟩ (seq_on (by kernel_rfl) (s_gtr rfl rfl ?_ ?_)))
      ·intro h9
       refine pu (.bool true) (by kernel_rfl) (pu (.bool true) (by kernel_rfl) (pu (.bool true) (by kernel_rfl) (puo (iv ((clearC pm (15 + (n0 % 130)) (n1 % 24)).1)) ⟨(by kernel_rfl), (by kernel_rfl)⟩ (seq_on (by kernel_rfl) (s_eql rfl rfl ?_ ?_)))))
       ·intro h10
        exact absurd h10 (by omega)
       ·intro h11
        refine puo (iv ((stoodC pm (15 + (n0 % 130)) (n1 % 24)).1.hi)) ⟨(by kernel_rfl), (by kernel_rfl)⟩ (seq_on (by kernel_rfl) (s_eql rfl rfl ?_ ?_))
        ·intro h12
         exact absurd h12 (fun hh => h11 ((hA.yes hsn).2 hh))
        ·intro h13
         refine puo (.bool true) ⟨(by kernel_rfl), (by kernel_rfl)⟩ (pu (.bool true) (by kernel_rfl) (pu (.bool true) (by kernel_rfl) (puo (iv ((clearC pm (15 + (n0 % 130)) (n1 % 24)).1)) ⟨(by kernel_rfl), (by kernel_rfl)⟩ (seq_on (by kernel_rfl) (s_eql rfl rfl ?_ ?_)))))
         ·intro h14
          exact absurd h14 (by omega)
         ·intro h15
          refine puo (iv ((stoodC pm (15 + (n0 % 130)) (n1 % 24)).1.lo)) ⟨(by kernel_rfl), (by kernel_rfl)⟩ (seq_on (by kernel_rfl) (s_gtr rfl rfl ?_ ?_))
          ·intro h16
           exact absurd h16 (fun hh => h15 ((hA.no hsn).2 hh))
          ·intro h17
           refine puo (.bool true) ⟨(by kernel_rfl), (by kernel_rfl)⟩ (pu (.bool true) (by kernel_rfl) (pu (.bool true) (by kernel_rfl) (seq_nil (wp_ret ?_))))
           exact ⟨.bool true, Ret.r1 rfl rfl, ⟨rfl, hI.below⟩⟩
      ·intro h18
       exact absurd h18 (not_not_intro ((hA.may hsn).1 h7).2)
     ·intro h19
      exact absurd h19 (not_not_intro ((hA.may hsn).1 h7).1)
    ·intro h20
     refine pu (iv ((stoodC pm (15 + (n0 % 130)) (n1 % 24)).1.lo)) (by kernel_rfl) (seq_c (s_eql rfl rfl ?_ ?_))
     ·intro h21
      refine pu (.bool true) (by kernel_rfl) (puo (iv ((stoodC pm (15 + (n0 % 130)) (n1 % 24)).1.hi)) ⟨(by kernel_rfl), (by kernel_rfl)⟩ (seq_on (by kernel_rfl) (s_gtr rfl rfl ?_ ?_)))
      ·intro h22
       exact absurd h22 (fun hh => h20 ((hA.may hsn).2 ⟨h21, hh⟩))
      ·intro h23
       refine pu (.bool false) (by kernel_rfl) (pu (.bool true) (by kernel_rfl) (pu (.bool true) (by kernel_rfl) (puo (iv ((clearC pm (15 + (n0 % 130)) (n1 % 24)).1)) ⟨(by kernel_rfl), (by kernel_rfl)⟩ (seq_on (by kernel_rfl) (s_eql rfl rfl ?_ ?_)))))
       ·intro h24
        refine puo (iv ((stoodC pm (15 + (n0 % 130)) (n1 % 24)).1.hi)) ⟨(by kernel_rfl), (by kernel_rfl)⟩ (seq_on (by kernel_rfl) (s_eql rfl rfl ?_ ?_))
        ·intro h25
         refine puo (.bool true) ⟨(by kernel_rfl), (by kernel_rfl)⟩ (pu (.bool true) (by kernel_rfl) (pu (.bool true) (by kernel_rfl) (puo (iv ((clearC pm (15 + (n0 % 130)) (n1 % 24)).1)) ⟨(by kernel_rfl), (by kernel_rfl)⟩ (seq_on (by kernel_rfl) (s_eql rfl rfl ?_ ?_)))))
         ·intro h26
          exact absurd h26 (by omega)
         ·intro h27
          refine puo (iv ((stoodC pm (15 + (n0 % 130)) (n1 % 24)).1.lo)) ⟨(by kernel_rfl), (by kernel_rfl)⟩ (seq_on (by kernel_rfl) (s_gtr rfl rfl ?_ ?_))
          ·intro h28
           exact absurd h28 (fun hh => h27 ((hA.no hsn).2 hh))
          ·intro h29
           refine puo (.bool true) ⟨(by kernel_rfl), (by kernel_rfl)⟩ (pu (.bool true) (by kernel_rfl) (pu (.bool true) (by kernel_rfl) (seq_nil (wp_ret ?_))))
           exact ⟨.bool true, Ret.r1 rfl rfl, ⟨rfl, hI.below⟩⟩
        ·intro h30
         exact absurd h30 (not_not_intro ((hA.yes hsn).1 h24))
       ·intro h31
        refine puo (iv ((stoodC pm (15 + (n0 % 130)) (n1 % 24)).1.hi)) ⟨(by kernel_rfl), (by kernel_rfl)⟩ (seq_on (by kernel_rfl) (s_eql rfl rfl ?_ ?_))
        ·intro h32
         exact absurd h32 (fun hh => h31 ((hA.yes hsn).2 hh))
        ·intro h33
         refine puo (.bool true) ⟨(by kernel_rfl), (by kernel_rfl)⟩ (pu (.bool true) (by kernel_rfl) (pu (.bool true) (by kernel_rfl) (puo (iv ((clearC pm (15 + (n0 % 130)) (n1 % 24)).1)) ⟨(by kernel_rfl), (by kernel_rfl)⟩ (seq_on (by kernel_rfl) (s_eql rfl rfl ?_ ?_)))))
         ·intro h34
          refine puo (iv ((stoodC pm (15 + (n0 % 130)) (n1 % 24)).1.lo)) ⟨(by kernel_rfl), (by kernel_rfl)⟩ (seq_on (by kernel_rfl) (s_gtr rfl rfl ?_ ?_))
          ·intro h35
           refine puo (.bool true) ⟨(by kernel_rfl), (by kernel_rfl)⟩ (pu (.bool true) (by kernel_rfl) (pu (.bool true) (by kernel_rfl) (seq_nil (wp_ret ?_))))
           exact ⟨.bool true, Ret.r1 rfl rfl, ⟨rfl, hI.below⟩⟩
          ·intro h36
           exact absurd h36 (not_not_intro ((hA.no hsn).1 h34))
         ·intro h37
          refine puo (iv ((stoodC pm (15 + (n0 % 130)) (n1 % 24)).1.lo)) ⟨(by kernel_rfl), (by kernel_rfl)⟩ (seq_on (by kernel_rfl) (s_gtr rfl rfl ?_ ?_))
          ·intro h38
           exact absurd h38 (fun hh => h37 ((hA.no hsn).2 hh))
          ·intro h39
           refine puo (.bool true) ⟨(by kernel_rfl), (by kernel_rfl)⟩ (pu (.bool true) (by kernel_rfl) (pu (.bool true) (by kernel_rfl) (seq_nil (wp_ret ?_))))
           exact ⟨.bool true, Ret.r1 rfl rfl, ⟨rfl, hI.below⟩⟩
     ·intro h40
      refine pu (.bool false) (by kernel_rfl) (of_ (by kernel_rfl) (of_ (by kernel_rfl) (pu (.bool false) (by kernel_rfl) (pu (.bool true) (by kernel_rfl) (pu (.bool true) (by kernel_rfl) (puo (iv ((clearC pm (15 + (n0 % 130)) (n1 % 24)).1)) ⟨(by kernel_rfl), (by kernel_rfl)⟩ (seq_on (by kernel_rfl) (s_eql rfl rfl ?_ ?_))))))))
      ·intro h41
       refine puo (iv ((stoodC pm (15 + (n0 % 130)) (n1 % 24)).1.hi)) ⟨(by kernel_rfl), (by kernel_rfl)⟩ (seq_on (by kernel_rfl) (s_eql rfl rfl ?_ ?_))
       ·intro h42
        refine puo (.bool true) ⟨(by kernel_rfl), (by kernel_rfl)⟩ (pu (.bool true) (by kernel_rfl) (pu (.bool true) (by kernel_rfl) (puo (iv ((clearC pm (15 + (n0 % 130)) (n1 % 24)).1)) ⟨(by kernel_rfl), (by kernel_rfl)⟩ (seq_on (by kernel_rfl) (s_eql rfl rfl ?_ ?_)))))
        ·intro h43
         exact absurd h43 (by omega)
        ·intro h44
         refine puo (iv ((stoodC pm (15 + (n0 % 130)) (n1 % 24)).1.lo)) ⟨(by kernel_rfl), (by kernel_rfl)⟩ (seq_on (by kernel_rfl) (s_gtr rfl rfl ?_ ?_))
         ·intro h45
          exact absurd h45 (fun hh => h44 ((hA.no hsn).2 hh))
         ·intro h46
          refine puo (.bool true) ⟨(by kernel_rfl), (by kernel_rfl)⟩ (pu (.bool true) (by kernel_rfl) (pu (.bool true) (by kernel_rfl) (seq_nil (wp_ret ?_))))
          exact ⟨.bool true, Ret.r1 rfl rfl, ⟨rfl, hI.below⟩⟩
       ·intro h47
        exact absurd h47 (not_not_intro ((hA.yes hsn).1 h41))
      ·intro h48
       refine puo (iv ((stoodC pm (15 + (n0 % 130)) (n1 % 24)).1.hi)) ⟨(by kernel_rfl), (by kernel_rfl)⟩ (seq_on (by kernel_rfl) (s_eql rfl rfl ?_ ?_))
       ·intro h49
        exact absurd h49 (fun hh => h48 ((hA.yes hsn).2 hh))
       ·intro h50
        refine puo (.bool true) ⟨(by kernel_rfl), (by kernel_rfl)⟩ (pu (.bool true) (by kernel_rfl) (pu (.bool true) (by kernel_rfl) (puo (iv ((clearC pm (15 + (n0 % 130)) (n1 % 24)).1)) ⟨(by kernel_rfl), (by kernel_rfl)⟩ (seq_on (by kernel_rfl) (s_eql rfl rfl ?_ ?_)))))
        ·intro h51
         refine puo (iv ((stoodC pm (15 + (n0 % 130)) (n1 % 24)).1.lo)) ⟨(by kernel_rfl), (by kernel_rfl)⟩ (seq_on (by kernel_rfl) (s_gtr rfl rfl ?_ ?_))
         ·intro h52
          refine puo (.bool true) ⟨(by kernel_rfl), (by kernel_rfl)⟩ (pu (.bool true) (by kernel_rfl) (pu (.bool true) (by kernel_rfl) (seq_nil (wp_ret ?_))))
          exact ⟨.bool true, Ret.r1 rfl rfl, ⟨rfl, hI.below⟩⟩
         ·intro h53
          exact absurd h53 (not_not_intro ((hA.no hsn).1 h51))
        ·intro h54
         refine puo (iv ((stoodC pm (15 + (n0 % 130)) (n1 % 24)).1.lo)) ⟨(by kernel_rfl), (by kernel_rfl)⟩ (seq_on (by kernel_rfl) (s_gtr rfl rfl ?_ ?_))
         ·intro h55
          exact absurd h55 (fun hh => h54 ((hA.no hsn).2 hh))
         ·intro h56
          refine puo (.bool true) ⟨(by kernel_rfl), (by kernel_rfl)⟩ (pu (.bool true) (by kernel_rfl) (pu (.bool true) (by kernel_rfl) (seq_nil (wp_ret ?_))))
          exact ⟨.bool true, Ret.r1 rfl rfl, ⟨rfl, hI.below⟩⟩
  ·
   have hso : (stoodF (scnF pm (n1 % 24)) (crtF pm (n1 % 24))).2 = false := hA.se.symm.trans hsn
   refine seq_c (s_callv hI 30 [.agg #[iv pm.lo, iv pm.hi, slv g3 pm.loads.length c4, slv g7 pm.stands.length c8, slv g11 pm.spells.length c12, iv pm.geese], iv (n1 % 24)] (.tuple #[.bool false, iv 0]) (by kernel_rfl) (Does.mono (Sound_c _ pm (g3.map fun b => ⟨b, 0, none⟩) pm.loads.length c4 (g7.map fun b => ⟨b, 0, none⟩) pm.stands.length c8 (g11.map fun b => ⟨b, 0, none⟩) pm.spells.length c12 ⟨(hI.rowCells 1 rfl r6), rfl, (hI.rowCells 2 rfl r10), rfl, (hI.rowCells 3 rfl r14), rfl, r6.big_4, r10.big_4, r14.big_4⟩ (n1 % 24) hn19) fun v w' h => ⟨h.1.trans (by rw [hsn, hA.e0]), h.2⟩) ?_)
   intro w hI
   refine pu (.tuple #[.bool false, iv 0]) (by kernel_rfl) (pu (.bool false) (by kernel_rfl) (pu (iv 0) (by kernel_rfl) (pu (.bool false) (by kernel_rfl) (pu (iv 0) (by kernel_rfl) (seq_nil (wp_seq (rgn (by kernel_rfl) (seq_c (s_loadK hI 0 6 [iv pm.lo, iv pm.hi, slv g3 pm.loads.length c4, slv g7 pm.stands.length c8, slv g11 pm.spells.length c12, iv pm.geese] Tryz.isAgg28 Tryz.sizeOf28 rfl rfl rfl rfl ?_)))))))))
   refine pu (iv (15 + (n0 % 130))) (by kernel_rfl) (pu (iv (n1 % 24)) (by kernel_rfl) (seq_c (s_callv hI 36 [.agg #[iv pm.lo, iv pm.hi, slv g3 pm.loads.length c4, slv g7 pm.stands.length c8, slv g11 pm.spells.length c12, iv pm.geese], iv (15 + (n0 % 130)), iv (n1 % 24)] (.tuple #[.agg #[iv ((stoodC pm (15 + (n0 % 130)) (n1 % 24)).1.lo), iv ((stoodC pm (15 + (n0 % 130)) (n1 % 24)).1.hi)], iv ((stoodC pm (15 + (n0 % 130)) (n1 % 24)).2)]) (by kernel_rfl) (Stood_c _ pm (g3.map fun b => ⟨b, 0, none⟩) pm.loads.length c4 (g7.map fun b => ⟨b, 0, none⟩) pm.stands.length c8 (g11.map fun b => ⟨b, 0, none⟩) pm.spells.length c12 ⟨(hI.rowCells 1 rfl r6), rfl, (hI.rowCells 2 rfl r10), rfl, (hI.rowCells 3 rfl r14), rfl, r6.big_4, r10.big_4, r14.big_4⟩ (15 + (n0 % 130)) (n1 % 24) (by omega)) ?_)))
   intro w hI
   refine pu (.tuple #[.agg #[iv ((stoodC pm (15 + (n0 % 130)) (n1 % 24)).1.lo), iv ((stoodC pm (15 + (n0 % 130)) (n1 % 24)).1.hi)], iv ((stoodC pm (15 + (n0 % 130)) (n1 % 24)).2)]) (by kernel_rfl) (pu (.agg #[iv ((stoodC pm (15 + (n0 % 130)) (n1 % 24)).1.lo), iv ((stoodC pm (15 + (n0 % 130)) (n1 % 24)).1.hi)]) (by kernel_rfl) (pu (iv ((stoodC pm (15 + (n0 % 130)) (n1 % 24)).2)) (by kernel_rfl) (seq_c (s_allocI hI [iv 0, iv 0] Tryz.zeroValue23 rfl ?_))))
   intro b104 w hI
   refine seq_c (s_store hI 0 2 [iv ((stoodC pm (15 + (n0 % 130)) (n1 % 24)).1.lo), iv ((stoodC pm (15 + (n0 % 130)) (n1 % 24)).1.hi)] Tryz.sizeOf23 rfl rfl rfl rfl rfl (Nat.le_of_ble_eq_true rfl) ?_)
   intro w hI
   refine pu (iv ((stoodC pm (15 + (n0 % 130)) (n1 % 24)).2)) (by kernel_rfl) (seq_nil (wp_seq (rgn (by kernel_rfl) (seq_c (s_loadK hI 1 6 [iv pm.lo, iv pm.hi, slv g3 pm.loads.length c4, slv g7 pm.stands.length c8, slv g11 pm.spells.length c12, iv pm.geese] Tryz.isAgg28 Tryz.sizeOf28 rfl rfl rfl rfl ?_)))))
   refine pu (iv (15 + (n0 % 130))) (by kernel_rfl) (pu (iv (n1 % 24)) (by kernel_rfl) (seq_c (s_callv hI 45 [.agg #[iv pm.lo, iv pm.hi, slv g3 pm.loads.length c4, slv g7 pm.stands.length c8, slv g11 pm.spells.length c12, iv pm.geese], iv (15 + (n0 % 130)), iv (n1 % 24)] (.tuple #[iv ((clearC pm (15 + (n0 % 130)) (n1 % 24)).1), iv ((clearC pm (15 + (n0 % 130)) (n1 % 24)).2)]) (by kernel_rfl) (Clear_c _ pm (g3.map fun b => ⟨b, 0, none⟩) pm.loads.length c4 (g7.map fun b => ⟨b, 0, none⟩) pm.stands.length c8 (g11.map fun b => ⟨b, 0, none⟩) pm.spells.length c12 ⟨(hI.rowCells 2 rfl r6), rfl, (hI.rowCells 3 rfl r10), rfl, (hI.rowCells 4 rfl r14), rfl, r6.big_4, r10.big_4, r14.big_4⟩ (15 + (n0 % 130)) (n1 % 24) (by omega)) ?_)))
   intro w hI
   refine pu (.tuple #[iv ((clearC pm (15 + (n0 % 130)) (n1 % 24)).1), iv ((clearC pm (15 + (n0 % 130)) (n1 % 24)).2)]) (by kernel_rfl) (pu (iv ((clearC pm (15 + (n0 % 130)) (n1 % 24)).1)) (by kernel_rfl) (pu (iv ((clearC pm (15 + (n0 % 130)) (n1 % 24)).2)) (by kernel_rfl) (pu (iv ((clearC pm (15 + (n0 % 130)) (n1 % 24)).1)) (by kernel_rfl) (pu (iv ((clearC pm (15 + (n0 % 130)) (n1 % 24)).2)) (by kernel_rfl) (seq_nil (wp_seq (rgn (by kernel_rfl) (seq_c (s_loadK hI 1 6 [iv pm.lo, iv pm.hi, slv g3 pm.loads.length c4, slv g7 pm.stands.length c8, slv g11 pm.spells.length c12, iv pm.geese] Tryz.isAgg28 Tryz.sizeOf28 rfl rfl rfl rfl ?_)))))))))
   refine pu (iv (15 + (n0 % 130))) (by kernel_rfl) (pu (iv (n1 % 24)) (by kernel_rfl) (seq_c (s_callv hI 44 [.agg #[iv pm.lo, iv pm.hi, slv g3 pm.loads.length c4, slv g7 pm.stands.length c8, slv g11 pm.spells.length c12, iv pm.geese], iv (15 + (n0 % 130)), iv (n1 % 24), .bool false] (.tuple #[.agg #[iv 0, .slice none 0 0], iv 14]) (by kernel_rfl) (Does.mono (Attain_c _ pm (g3.map fun b => ⟨b, 0, none⟩) pm.loads.length c4 (g7.map fun b => ⟨b, 0, none⟩) pm.stands.length c8 (g11.map fun b => ⟨b, 0, none⟩) pm.spells.length c12 ⟨(hI.rowCells 2 rfl r6), rfl, (hI.rowCells 3 rfl r10), rfl, (hI.rowCells 4 rfl r14), rfl, r6.big_4, r10.big_4, r14.big_4⟩ (15 + (n0 % 130)) (n1 % 24) false hn19 hhour (fun _ => 0) (fun h => absurd (h.symm.trans hso) (by decide))) fun v w' h => h.elim (fun h => absurd (h.1.symm.trans hso) (by decide)) (fun h => h.2)) ?_)))
   intro w hI
   refine pu (.tuple #[.agg #[iv 0, .slice none 0 0], iv 14]) (by kernel_rfl) (pu (.agg #[iv 0, .slice none 0 0]) (by kernel_rfl) (pu (iv 14) (by kernel_rfl) (seq_c (s_allocI hI [iv 0, .slice none 0 0] Tryz.zeroValue57 rfl ?_))))
   intro b105 w hI
   refine seq_c (s_store hI 0 2 [iv 0, .slice none 0 0] Tryz.sizeOf57 rfl rfl rfl rfl rfl (Nat.le_of_ble_eq_true rfl) ?_)
   intro w hI
   refine pu (iv 14) (by kernel_rfl) (seq_nil (wp_seq (rgn (by kernel_rfl) (seq_c (s_loadK hI 2 6 [iv pm.lo, iv pm.hi, slv g3 pm.loads.length c4, slv g7 pm.stands.length c8, slv g11 pm.spells.length c12, iv pm.geese] Tryz.isAgg28 Tryz.sizeOf28 rfl rfl rfl rfl ?_)))))
   refine pu (iv (15 + (n0 % 130))) (by kernel_rfl) (pu (iv (n1 % 24)) (by kernel_rfl) (seq_c (s_callv hI 44 [.agg #[iv pm.lo, iv pm.hi, slv g3 pm.loads.length c4, slv g7 pm.stands.length c8, slv g11 pm.spells.length c12, iv pm.geese], iv (15 + (n0 % 130)), iv (n1 % 24), .bool true] (.tuple #[.agg #[iv 0, .slice none 0 0], iv 14]) (by kernel_rfl) (Does.mono (Attain_c _ pm (g3.map fun b => ⟨b, 0, none⟩) pm.loads.length c4 (g7.map fun b => ⟨b, 0, none⟩) pm.stands.length c8 (g11.map fun b => ⟨b, 0, none⟩) pm.spells.length c12 ⟨(hI.rowCells 3 rfl r6), rfl, (hI.rowCells 4 rfl r10), rfl, (hI.rowCells 5 rfl r14), rfl, r6.big_4, r10.big_4, r14.big_4⟩ (15 + (n0 % 130)) (n1 % 24) true hn19 hhour (fun _ => 0) (fun h => absurd (h.symm.trans hso) (by decide))) fun v w' h => h.elim (fun h => absurd (h.1.symm.trans hso) (by decide)) (fun h => h.2)) ?_)))
   intro w hI
   refine pu (.tuple #[.agg #[iv 0, .slice none 0 0], iv 14]) (by kernel_rfl) (pu (.agg #[iv 0, .slice none 0 0]) (by kernel_rfl) (pu (iv 14) (by kernel_rfl) (seq_c (s_allocI hI [iv 0, .slice none 0 0] Tryz.zeroValue57 rfl ?_))))
   intro b106 w hI
   refine seq_c (s_store hI 0 2 [iv 0, .slice none 0 0] Tryz.sizeOf57 rfl rfl rfl rfl rfl (Nat.le_of_ble_eq_true rfl) ?_)
   intro w hI
   refine pu (iv 14) (by kernel_rfl) (seq_nil (wp_seq (wp_seq (rgn (by kernel_rfl) (pu (.bool true) (by kernel_rfl) (pu (.bool false) (by kernel_rfl) (pu (.bool false) (by kernel_rfl) (puo (iv 0) ⟨(by kernel_rfl), (by kernel_rfl)⟩ (seq_on (by kernel_rfl) (s_neqS4 rfl rfl ?_))))))))))
   refine pu (.bool false) (by kernel_rfl) (seq_nil (wp_condF rfl (wp_skip (wp_seq (wp_seq (rgn (by kernel_rfl) (pu (.bool false) (by kernel_rfl) (pu (.bool true) (by kernel_rfl) (seq_nil ?_)))))))))
   refine wp_condT rfl (wp_seq (rgn (by kernel_rfl) (pu (iv ((stoodC pm (15 + (n0 % 130)) (n1 % 24)).2)) (by kernel_rfl) (seq_c (s_eql rfl rfl ?_ ?_)))))
   ·intro h57
    refine pu (.bool true) (by kernel_rfl) (puo (iv ((clearC pm (15 + (n0 % 130)) (n1 % 24)).2)) ⟨(by kernel_rfl), (by kernel_rfl)⟩ (puo (iv ((stoodC pm (15 + (n0 % 130)) (n1 % 24)).2)) ⟨(by kernel_rfl), (by kernel_rfl)⟩ (seq_on (by kernel_rfl) (s_eql rfl rfl ?_ ?_))))
    ·intro h58
     refine pu (.bool true) (by kernel_rfl) (pu (.bool true) (by kernel_rfl) (puo (iv 14) ⟨(by kernel_rfl), (by kernel_rfl)⟩ (puo (iv ((stoodC pm (15 + (n0 % 130)) (n1 % 24)).2)) ⟨(by kernel_rfl), (by kernel_rfl)⟩ (seq_on (by kernel_rfl) (s_eql rfl rfl ?_ ?_)))))
     ·intro h59
      refine pu (.bool true) (by kernel_rfl) (pu (.bool true) (by kernel_rfl) (puo (iv 14) ⟨(by kernel_rfl), (by kernel_rfl)⟩ (puo (iv ((stoodC pm (15 + (n0 % 130)) (n1 % 24)).2)) ⟨(by kernel_rfl), (by kernel_rfl)⟩ (seq_on (by kernel_rfl) (s_eql rfl rfl ?_ ?_)))))
      ·intro h60
       refine pu (.bool true) (by kernel_rfl) (pu (.bool true) (by kernel_rfl) (seq_nil (wp_ret ?_)))
       exact ⟨.bool true, Ret.r1 rfl rfl, ⟨rfl, hI.below⟩⟩
      ·intro h61
       exact absurd h61 (not_not_intro (hA.n1 hsn).symm)
     ·intro h62
      exact absurd h62 (not_not_intro (hA.n1 hsn).symm)
    ·intro h63
     exact absurd h63 (not_not_intro ((hA.n2 hsn).trans (hA.n1 hsn).symm))
   ·intro h64
    exact absurd h64 (not_not_intro (hA.n1 hsn))

end Go.K
