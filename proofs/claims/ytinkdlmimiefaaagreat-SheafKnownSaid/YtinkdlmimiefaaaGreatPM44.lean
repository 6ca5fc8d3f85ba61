/- The law of what is known: the walk. -/
import Derived.Test.YtinkdlmimiefaaaGreatProg
import Derived.Test.YtinkdlmimiefaaaGreatPG13
import Derived.Test.YtinkdlmimiefaaaGreatPM38
import Derived.Test.YtinkdlmimiefaaaGreatPXS
namespace Go.K
open Go.Proofs Go.RowKit
set_option linter.unusedVariables false
set_option linter.unusedSimpArgs false
set_option maxRecDepth 100000
attribute [local irreducible] Seq Step CallV AnyE opX

section steps
variable {P : Program} {ρ : Env} {w : World} {R : Value → World → Prop} {d : Option Nat} {ty : TypeId} {pos : String} {af : Array Edge} {gd : Option (Nat × Bool)}
theorem s_neqS6 {T Ty : TypeId} {x y : Operand} {a : Int} (ha : ev ρ x = .int .i64 a) (hb : ev ρ y = .int .i64 a) (k : R (.bool false) w) : Step P ⟨d, .binOp .neq T x y Ty, ty, pos, af, gd⟩ ρ w R :=
  s_neq ha hb (fun h => absurd rfl h) (fun _ => k)
theorem s_eqlS6 {T Ty : TypeId} {x y : Operand} {a : Int} (ha : ev ρ x = .int .i64 a) (hb : ev ρ y = .int .i64 a) (k : R (.bool true) w) : Step P ⟨d, .binOp .eql T x y Ty, ty, pos, af, gd⟩ ρ w R :=
  s_eql ha hb (fun _ => k) (fun h => absurd rfl h)
end steps
theorem Row.big_6 {k : Nat} {g : Option Nat} {n c : Nat} {cl xs : List Value} (h : Row k g n c cl xs) : n ≤ 9223372036854775807 := Nat.le_trans h.cap (by have := h.capmax; unfold maxLen at this; omega)

set_option maxHeartbeats 6400000 in
theorem SheafKnown_c (w0 : World) (q0 q1 : Int) (hq0 : -9223372036854775808 ≤ q0 ∧ q0 ≤ 9223372036854775807) (rA1 : Option Addr) (rn1 rc1 : Nat) (rA2 : Option Addr) (rn2 rc2 : Nat) (rA3 : Option Addr) (rn3 rc3 : Nat) (ls ss ps : List A4) (hC1 : Cells w0 rA1 (flat eA4 ls)) (hn1 : rn1 = ls.length) (hx1_ : rn1 ≤ 9223372036854775807) (hC2 : Cells w0 rA2 (flat eA4 ss)) (hn2 : rn2 = ss.length) (hx2_ : rn2 ≤ 9223372036854775807) (hC3 : Cells w0 rA3 (flat eA4 ps)) (hn3 : rn3 = ps.length) (hx3_ : rn3 ≤ 9223372036854775807) (hok_ls : ∀ r ∈ ls, A4Ok r) (hok_ss : ∀ r ∈ ss, A4Ok r) (n0 n1 n2 : Int) : Does Tryz.prog 12 [.agg #[.int .i64 q0, .int .i64 q1, .slice rA1 rn1 rc1, .slice rA2 rn2 rc2, .slice rA3 rn3 rc3], .agg #[.int .i64 n0, .int .i64 n1, .int .i64 n2]] w0 fun v w => v = .bool true ∧ Below w0.heap.size w0 w := by
 obtain ⟨pm, hpm⟩ : ∃ z, z = madeB q0 q1 ls ss ps false := ⟨_, rfl⟩
 obtain ⟨tk, htk⟩ : ∃ z, z = ((mLoads 0 20 (q0 % 200) (ls.take 6)).map Prod.snd) := ⟨_, rfl⟩
 have hv : plotB pm = true := by rw [hpm]; exact madeB_valid q0 q1 ls ss ps _
 have hn19 : pm.loads.length < 20 := by rw [hpm]; exact madeB_few q0 q1 ls ss ps _
 have hu : Un0 pm := by rw [hpm]; exact madeB_un q0 q1 ls ss ps _
 have hdb : isDayB (n1 % 24) = true := by simp [isDayB]; omega
 have hday : dayI pm (n1 % 24) = 0 := by simp only [dayI, hv, hdb, if_true]
 have hsm := plotB_small hv; have hs1 := hsm.s1; have hs2 := hsm.s2; have hs3 := hsm.s3
 have hd0 : (datesC pm).2 = 0 := by unfold datesC; rw [if_pos hv]
 have hnw : (scnF pm (n1 % 24)).loads.length < 20 := Nat.lt_of_le_of_lt (scn_len pm (n1 % 24)).1 hn19
 have hw19 : (withoutF pm (1 + (n2 % 30))).1.loads.length < 20 := Nat.lt_of_le_of_lt (without_len pm (1 + (n2 % 30))) hn19
 refine calls_of (n := 271) Tryz.func12 rfl Tryz.ntmps12 rfl ?_
 have hI := Inv.start w0
 refine wp_seq (rgn (by kernel_rfl) (seq_c (s_boxI hI [iv q0, iv q1, .slice rA1 rn1 rc1, .slice rA2 rn2 rc2, .slice rA3 rn3 rc3] rfl ?_)))
 intro b1 w hI
 refine seq_c (s_boxI hI [iv n0, iv n1, iv n2] rfl ?_)
 intro b2 w hI
 refine pu (.bool false) (by kernel_rfl) (seq_nil (wp_seq (rgn (by kernel_rfl) (seq_c (s_callv hI 13 [] (.bool true) (by kernel_rfl) (sane_c _) ?_)))))
 intro w hI
 refine pu (.bool true) (by kernel_rfl) (seq_nil (wp_seq (rgn (by kernel_rfl) (seq_c (s_loadK hI 1 5 [iv q0, iv q1, .slice rA1 rn1 rc1, .slice rA2 rn2 rc2, .slice rA3 rn3 rc3] Tryz.isAgg78 Tryz.sizeOf78 rfl rfl rfl rfl ?_)))))
 refine seq_c (s_callMade hI (q := pm) (t := q0 % 200) (l := tk) 57 [.agg #[iv q0, iv q1, .slice rA1 rn1 rc1, .slice rA2 rn2 rc2, .slice rA3 rn3 rc3], .bool false] (by kernel_rfl) (by rw [hpm, htk]; exact MadeB_c _ q0 q1 hq0 rA1 rn1 rc1 rA2 rn2 rc2 rA3 rn3 rc3 ls ss ps (hC1.inv0 hI) hn1 hx1_ (hC2.inv0 hI) hn2 hx2_ (hC3.inv0 hI) hn3 hx3_ hok_ls hok_ss false) ?_)
 intro g3 c4 cl5 g7 c8 cl9 g11 c12 cl13 g15 c16 cl17 w hI r6 r10 r14 r18
 refine pu (.tuple #[.agg #[iv pm.lo, iv pm.hi, slv g3 pm.loads.length c4, slv g7 pm.stands.length c8, slv g11 pm.spells.length c12, iv pm.geese], .agg #[iv (q0 % 200), slv g15 tk.length c16]]) (by kernel_rfl) (pu (.agg #[iv pm.lo, iv pm.hi, slv g3 pm.loads.length c4, slv g7 pm.stands.length c8, slv g11 pm.spells.length c12, iv pm.geese]) (by kernel_rfl) (pu (.agg #[iv (q0 % 200), slv g15 tk.length c16]) (by kernel_rfl) (seq_c (s_allocI hI [iv 0, iv 0, .slice none 0 0, .slice none 0 0, .slice none 0 0, iv 0] Tryz.zeroValue28 rfl ?_))))
 intro b19 w hI
 refine seq_c (s_allocI hI [iv 0, .slice none 0 0] Tryz.zeroValue57 rfl ?_)
 intro b20 w hI
 refine seq_c (s_store hI 1 6 [iv pm.lo, iv pm.hi, slv g3 pm.loads.length c4, slv g7 pm.stands.length c8, slv g11 pm.spells.length c12, iv pm.geese] Tryz.sizeOf28 rfl rfl rfl rfl rfl (Nat.le_of_ble_eq_true rfl) ?_)
 intro w hI
 refine seq_c (s_store hI 0 2 [iv (q0 % 200), slv g15 tk.length c16] Tryz.sizeOf57 rfl rfl rfl rfl rfl (Nat.le_of_ble_eq_true rfl) ?_)
 intro w hI
 refine seq_nil (wp_seq (rgn (by kernel_rfl) (pu (.pointer (some ⟨b2, 0, none⟩)) (by kernel_rfl) (seq_c (s_load1 hI 6 (iv n0) Tryz.isAgg3 rfl rfl rfl ?_)))))
 refine seq_c (s_callv hI 58 [iv n0, iv 130] (iv (n0 % 130)) (by kernel_rfl) (ModC n0 130  (by omega) _) ?_)
 intro w hI
 refine seq_c (s_add rfl rfl (by omega) ?_)
 refine pu (iv (15 + (n0 % 130))) (by kernel_rfl) (seq_nil (wp_seq (rgn (by kernel_rfl) (pu (.pointer (some ⟨b2, 1, none⟩)) (by kernel_rfl) (seq_c (s_load1 hI 6 (iv n1) Tryz.isAgg3 rfl rfl rfl ?_))))))
 refine seq_c (s_callv hI 58 [iv n1, iv 24] (iv (n1 % 24)) (by kernel_rfl) (ModC n1 24  (by omega) _) ?_)
 intro w hI
 refine pu (iv (n1 % 24)) (by kernel_rfl) (seq_nil (wp_seq (rgn (by kernel_rfl) (pu (.pointer (some ⟨b19, 0, none⟩)) (by kernel_rfl) (seq_c (s_loadK hI 1 2 [iv pm.lo, iv pm.hi] Tryz.isAgg23 Tryz.sizeOf23 rfl rfl rfl rfl ?_))))))
 refine pu (.pointer (some ⟨b19, 5, none⟩)) (by kernel_rfl) (seq_c (s_load1 hI 1 (iv pm.geese) Tryz.isAgg3 rfl rfl rfl ?_))
 refine pu (.agg #[iv pm.lo, iv pm.hi, .slice none 0 0, .slice none 0 0, .slice none 0 0, iv pm.geese]) (by kernel_rfl) (seq_c (s_allocI hI [iv 0, iv 0, .slice none 0 0, .slice none 0 0, .slice none 0 0, iv 0] Tryz.zeroValue28 rfl ?_))
 intro b21 w hI
 refine seq_c (s_store hI 0 6 [iv pm.lo, iv pm.hi, .slice none 0 0, .slice none 0 0, .slice none 0 0, iv pm.geese] Tryz.sizeOf28 rfl rfl rfl rfl rfl (Nat.le_of_ble_eq_true rfl) ?_)
 intro w hI
 refine seq_nil (wp_cut (fun ρ w => ∃ (m1 : Nat) (gg0 : Option Nat) (cc0 : Nat) (ccl0 : List Value), Agree ρ [(3, .pointer (some ⟨b2, 0, none⟩)), (5, .bool true), (6, .pointer (some ⟨b19, 0, none⟩)), (8, iv (15 + (n0 % 130))), (9, iv (n1 % 24)), (10, .pointer (some ⟨b21, 0, none⟩))] ∧ Inv none w0 w [(gg0, blk ccl0 30), (some b21, blk [iv pm.lo, iv pm.hi, slv gg0 m1 cc0, .slice none 0 0, .slice none 0 0, iv pm.geese] 28), (some b20, blk [iv (q0 % 200), slv g15 tk.length c16] 57), (some b19, blk [iv pm.lo, iv pm.hi, slv g3 pm.loads.length c4, slv g7 pm.stands.length c8, slv g11 pm.spells.length c12, iv pm.geese] 28), (g3, blk cl5 30), (g7, blk cl9 31), (g11, blk cl13 33), (g15, blk cl17 3), (some b2, blk [iv n0, iv n1, iv n2] 84), (some b1, blk [iv q0, iv q1, .slice rA1 rn1 rc1, .slice rA2 rn2 rc2, .slice rA3 rn3 rc3] 78)] ∧ (m1 = (scnF pm (n1 % 24)).loads.length) ∧ (Row 6 gg0 (m1) cc0 ccl0 (flat eLd ((scnF pm (n1 % 24)).loads)))) ?_ ?_)
 ·
  refine wp_seq (rgn (by kernel_rfl) (pu (iv 0) (by kernel_rfl) (seq_nil (wp_block ?_))))
  have hI := hI.nilRow 30
  refine wp_loop (fun m ρ w => ∃ (k : Nat) (nn : Nat) (gg0 : Option Nat) (cc0 : Nat) (ccl0 : List Value), Agree ρ [(3, .pointer (some ⟨b2, 0, none⟩)), (5, .bool true), (6, .pointer (some ⟨b19, 0, none⟩)), (8, iv (15 + (n0 % 130))), (9, iv (n1 % 24)), (10, .pointer (some ⟨b21, 0, none⟩)), (11, iv (k : Int))] ∧ Inv none w0 w [(gg0, blk ccl0 30), (some b21, blk [iv pm.lo, iv pm.hi, slv gg0 nn cc0, .slice none 0 0, .slice none 0 0, iv pm.geese] 28), (some b20, blk [iv (q0 % 200), slv g15 tk.length c16] 57), (some b19, blk [iv pm.lo, iv pm.hi, slv g3 pm.loads.length c4, slv g7 pm.stands.length c8, slv g11 pm.spells.length c12, iv pm.geese] 28), (g3, blk cl5 30), (g7, blk cl9 31), (g11, blk cl13 33), (g15, blk cl17 3), (some b2, blk [iv n0, iv n1, iv n2] 84), (some b1, blk [iv q0, iv q1, .slice rA1 rn1 rc1, .slice rA2 rn2 rc2, .slice rA3 rn3 rc3] 78)] ∧ (k ≤ pm.loads.length) ∧ (nn = ((pm.loads.take k).filter (fun x : Ld => decide (x.kn ≤ n1 % 24))).length) ∧ (Row 6 gg0 (nn) cc0 ccl0 (flat eLd ((pm.loads.take k).filter (fun x : Ld => decide (x.kn ≤ n1 % 24))))) ∧ m = pm.loads.length - k) (m := pm.loads.length - 0) ⟨0, 0, none, 0, [], ⟨rfl, rfl, rfl, rfl, rfl, rfl, rfl, trivial⟩, hI.pickL [0, 1, 2, 3, 4, 5, 6, 7, 8, 9] (by decide) rfl, (by omega), rfl, (Row.nil_ 6), rfl⟩ ?_
  rintro m ρ w ⟨k, nn, gg0, cc0, ccl0, hag, hI, hk, hnn, hrr0, hm⟩
  obtain ⟨ρ, rfl⟩ := hag.form; clear hag
  have hlen := Nat.le_trans (List.length_filter_le (fun x : Ld => decide (x.kn ≤ n1 % 24)) (pm.loads.take k)) (List.length_take_le k _)
  refine wp_seq (wp_seq (rgn (by kernel_rfl) (pu (iv (k : Int)) (by kernel_rfl) (pu (.pointer (some ⟨b19, 2, none⟩)) (by kernel_rfl) (seq_c (s_load1 hI 3 (slv g3 pm.loads.length c4) Tryz.isAgg24 rfl rfl rfl ?_))))))
  refine pu (iv ((pm.loads.length : Nat) : Int)) (by kernel_rfl) (seq_c (s_lss rfl rfl ?_ ?_))
  ·intro h1
   refine seq_nil (wp_condT rfl (wp_skip (wp_seq (wp_block ?_))))
   refine wp_seq (rgn (by kernel_rfl) (pu (.pointer (some ⟨b19, 2, none⟩)) (by kernel_rfl) (seq_c (s_load1 hI 3 (slv g3 pm.loads.length c4) Tryz.isAgg24 rfl rfl rfl ?_))))
   refine pu (iv (k : Int)) (by kernel_rfl) ?_
   obtain ⟨x22, hx23⟩ := get_lt (l := pm.loads) (i := k) (by omega)
   obtain ⟨b24, rfl, he25⟩ := r6.at_ eLd_len (by decide) hx23
   refine seq_c (s_indexR k Tryz.underlying24 Tryz.sizeOf30 rfl rfl rfl (by omega) ?_)
   refine pu (.pointer (some ⟨b24, k * 6 + 4, none⟩)) (by kernel_rfl) (seq_c (s_loadR1 hI 4 (iv x22.kn) Tryz.isAgg3 rfl rfl (he25 4 _ rfl) ?_))
   refine pu (iv (n1 % 24)) (by kernel_rfl) (seq_c (s_leq rfl rfl ?_ ?_))
   ·intro h2
    refine seq_nil (wp_condT rfl ?_)
    replace hI := hI.pickL [2, 3, 4, 5, 6, 7, 8, 9, 0, 1] (by decide) rfl
    refine wp_drawn2 hI [0, 1, 2, 3, 4, 5, 6, 7] (by decide) rfl (by kernel_rfl) (by kernel_rfl) ?_
    intro hsub
    refine alp 0 (.pointer (some ⟨b21, 2, none⟩)) hsub rfl (by kernel_rfl) (fun _ => (by kernel_rfl)) ?_
    refine alp 2 (.pointer (some ⟨b19, 2, none⟩)) hsub rfl (by kernel_rfl) (fun _ => (by kernel_rfl)) ?_
    refine al_light 3 (slv (some b24) pm.loads.length c4) hsub rfl (by kernel_rfl) (fun w hI => s_load1 hI 1 (slv (some b24) pm.loads.length c4) Tryz.isAgg24 rfl rfl rfl ⟨rfl, Below.refl _ _⟩) ?_
    refine alp 4 (iv (k : Int)) hsub rfl (by kernel_rfl) (fun _ => (by kernel_rfl)) ?_
    refine al_light 5 (.pointer (some ⟨b24, k * 6, none⟩)) hsub rfl (by kernel_rfl) (fun w hI => s_indexR k Tryz.underlying24 Tryz.sizeOf30 rfl rfl rfl (by omega) ⟨rfl, Below.refl _ _⟩) ?_
    refine al_light 6 (.agg #[iv x22.src, iv x22.hr, iv x22.lo, iv x22.hi, iv x22.kn, iv x22.un]) hsub rfl (by kernel_rfl) (fun w hI => s_loadRK hI 2 [iv x22.src, iv x22.hr, iv x22.lo, iv x22.hi, iv x22.kn, iv x22.un] Tryz.isAgg30 Tryz.sizeOf30 rfl rfl rfl he25 ⟨rfl, Below.refl _ _⟩) ?_
    refine any_heavy [1, 7] (by kernel_rfl) rfl (each2 ?_ ?_)
    ·intro w hI
     refine ol_c rfl (s_load1 hI 9 (slv gg0 nn cc0) Tryz.isAgg24 rfl rfl rfl ?_)
     refine ⟨_, hI, subk (fun _ h => h.pickL [0, 1, 2, 3, 4, 5, 6, 7] (by decide) rfl) ?_⟩
     intro hsub
     refine any_heavy [7] (by kernel_rfl) rfl (each1 ?_)
     intro w hI
     refine ol_c rfl (s_new hI [iv x22.src, iv x22.hr, iv x22.lo, iv x22.hi, iv x22.kn, iv x22.un] 30 (fun b => slv (some b) 1 1) (by kernel_rfl) ?_)
     intro b26 w hI
     refine ⟨_, hI, subk (fun _ h => h.pickL [1, 2, 3, 4, 5, 6, 7, 8] (by decide) rfl) ?_⟩
     intro hsub
     refine any_heavy [8] (by kernel_rfl) rfl (each1 ?_)
     intro w hI
     refine ol_c rfl (s_app hI Tryz.underlying24 (z := .agg #[iv 0, iv 0, iv 0, iv 0, iv 0, iv 0]) (k := 6) (bytes := 48) (by kernel_rfl) rfl rfl 9 rfl rfl hrr0 [iv x22.src, iv x22.hr, iv x22.lo, iv x22.hi, iv x22.kn, iv x22.un] rfl rfl (hI.cells 0 (off := 0) rfl (fun j u h => by rw [Nat.zero_add]; exact h)) (by simp [Value.oneCell']) (by omega) (by omega) ?_)
     intro g27 c28 cl29 w hI r30
     refine ⟨_, hI, subk (fun _ h => h.pickL [1, 2, 3, 4, 5, 6, 7, 8] (by decide) rfl) ?_⟩
     intro hsub
     have r30 : Row 6 g27 (nn + 1) c28 cl29 (flat eLd (((pm.loads.take k).filter (fun x : Ld => decide (x.kn ≤ n1 % 24))) ++ [(⟨x22.src, x22.hr, x22.lo, x22.hi, x22.kn, x22.un⟩ : Ld)])) := r30.snoc _ rfl
     refine alp 9 (.pointer (some ⟨b21, 2, none⟩)) hsub rfl (by kernel_rfl) (fun _ => (by kernel_rfl)) ?_
     refine any_heavy [10] (by kernel_rfl) rfl (each1 ?_)
     intro w hI
     refine ol_c rfl (s_store hI 10 1 [slv g27 (nn + 1) c28] Tryz.sizeOf24 rfl rfl rfl rfl rfl (Nat.le_of_ble_eq_true rfl) ?_)
     intro w hI
     refine ⟨_, hI, subk (fun _ h => h.pickL [1, 2, 3, 4, 5, 6, 7, 8] (by decide) rfl) ?_⟩
     intro hsub
     refine any_end (by kernel_rfl) (fun w hI => ?_)
     refine rgn (by kernel_rfl) (pu (iv (k : Int)) (by kernel_rfl) (seq_c (s_add rfl rfl (by omega) ?_)))
     refine pu (iv ((k : Int) + 1)) (by kernel_rfl) (seq_nil ?_)
     exact ⟨rfl, _, (by omega), ⟨k + 1, nn + 1, g27, c28, cl29, ⟨rfl, rfl, rfl, rfl, rfl, rfl, rfl, trivial⟩, hI.pickL [9, 10, 1, 2, 3, 4, 5, 6, 7, 8] (by decide) rfl, (by omega), (by rw [take_get hx23, List.filter_append, List.length_append, ← hnn]; simp [h2]), (r30.to (by rw [take_get hx23, List.filter_append]; simp [h2]) rfl), rfl⟩⟩
    ·intro w hI
     refine ol_c rfl (s_new hI [iv x22.src, iv x22.hr, iv x22.lo, iv x22.hi, iv x22.kn, iv x22.un] 30 (fun b => slv (some b) 1 1) (by kernel_rfl) ?_)
     intro b31 w hI
     refine ⟨_, hI, subk (fun _ h => h.pickL [1, 2, 3, 4, 5, 6, 7, 8] (by decide) rfl) ?_⟩
     intro hsub
     refine any_heavy [1] (by kernel_rfl) rfl (each1 ?_)
     intro w hI
     refine ol_c rfl (s_load1 hI 10 (slv gg0 nn cc0) Tryz.isAgg24 rfl rfl rfl ?_)
     refine ⟨_, hI, subk (fun _ h => h.pickL [1, 2, 3, 4, 5, 6, 7, 8] (by decide) rfl) ?_⟩
     intro hsub
     refine any_heavy [8] (by kernel_rfl) rfl (each1 ?_)
     intro w hI
     refine ol_c rfl (s_app hI Tryz.underlying24 (z := .agg #[iv 0, iv 0, iv 0, iv 0, iv 0, iv 0]) (k := 6) (bytes := 48) (by kernel_rfl) rfl rfl 9 rfl rfl hrr0 [iv x22.src, iv x22.hr, iv x22.lo, iv x22.hi, iv x22.kn, iv x22.un] rfl rfl (hI.cells 0 (off := 0) rfl (fun j u h => by rw [Nat.zero_add]; exact h)) (by simp [Value.oneCell']) (by omega) (by omega) ?_)
     intro g32 c33 cl34 w hI r35
     refine ⟨_, hI, subk (fun _ h => h.pickL [1, 2, 3, 4, 5, 6, 7, 8] (by decide) rfl) ?_⟩
     intro hsub
     have r35 : Row 6 g32 (nn + 1) c33 cl34 (flat eLd (((pm.loads.take k).filter (fun x : Ld => decide (x.kn ≤ n1 % 24))) ++ [(⟨x22.src, x22.hr, x22.lo, x22.hi, x22.kn, x22.un⟩ : Ld)])) := r35.snoc _ rfl
     refine alp 9 (.pointer (some ⟨b21, 2, none⟩)) hsub rfl (by kernel_rfl) (fun _ => (by kernel_rfl)) ?_
     refine any_heavy [10] (by kernel_rfl) rfl (each1 ?_)
     intro w hI
     refine ol_c rfl (s_store hI 10 1 [slv g32 (nn + 1) c33] Tryz.sizeOf24 rfl rfl rfl rfl rfl (Nat.le_of_ble_eq_true rfl) ?_)
     intro w hI
     refine ⟨_, hI, subk (fun _ h => h.pickL [1, 2, 3, 4, 5, 6, 7, 8] (by decide) rfl) ?_⟩
     intro hsub
     refine any_end (by kernel_rfl) (fun w hI => ?_)
     refine rgn (by kernel_rfl) (pu (iv (k : Int)) (by kernel_rfl) (seq_c (s_add rfl rfl (by omega) ?_)))
     refine pu (iv ((k : Int) + 1)) (by kernel_rfl) (seq_nil ?_)
     exact ⟨rfl, _, (by omega), ⟨k + 1, nn + 1, g32, c33, cl34, ⟨rfl, rfl, rfl, rfl, rfl, rfl, rfl, trivial⟩, hI.pickL [9, 10, 1, 2, 3, 4, 5, 6, 7, 8] (by decide) rfl, (by omega), (by rw [take_get hx23, List.filter_append, List.length_append, ← hnn]; simp [h2]), (r35.to (by rw [take_get hx23, List.filter_append]; simp [h2]) rfl), rfl⟩⟩
   ·intro h3
    refine seq_nil (wp_condF rfl (wp_skip (rgn (by kernel_rfl) (pu (iv (k : Int)) (by kernel_rfl) (seq_c (s_add rfl rfl (by omega) ?_))))))
    refine pu (iv ((k : Int) + 1)) (by kernel_rfl) (seq_nil ?_)
    exact ⟨rfl, _, (by omega), ⟨k + 1, nn, gg0, cc0, ccl0, ⟨rfl, rfl, rfl, rfl, rfl, rfl, rfl, trivial⟩, hI.pickL [0, 1, 2, 3, 4, 5, 6, 7, 8, 9] (by decide) rfl, (by omega), (by rw [take_get hx23, List.filter_append, List.length_append, ← hnn]; simp [h3]), (hrr0.to (by rw [take_get hx23, List.filter_append]; simp [h3]) rfl), rfl⟩⟩
  ·intro h4
   refine seq_nil (wp_condF rfl (wp_exit ?_))
   have hta : pm.loads.take k = pm.loads := List.take_of_length_le (by omega)
   exact ⟨rfl, nn, gg0, cc0, ccl0, ⟨rfl, rfl, rfl, rfl, rfl, rfl, trivial⟩, hI.pickL [0, 1, 2, 3, 4, 5, 6, 7, 8, 9] (by decide) rfl, (by rw [hnn, hta, scn_l hu]), (hrr0.to (by rw [hta, scn_l hu]) rfl)⟩
 ·rintro ρ w ⟨m1, gg0, cc0, ccl0, hag, hI, hm1, hrr0⟩
  obtain ⟨ρ, rfl⟩ := hag.form; clear hag
  refine wp_cut (fun ρ w => ∃ (m2 : Nat) (gg1 : Option Nat) (cc1 : Nat) (ccl1 : List Value), Agree ρ [(3, .pointer (some ⟨b2, 0, none⟩)), (5, .bool true), (6, .pointer (some ⟨b19, 0, none⟩)), (8, iv (15 + (n0 % 130))), (9, iv (n1 % 24)), (10, .pointer (some ⟨b21, 0, none⟩))] ∧ Inv none w0 w [(gg1, blk ccl1 31), (gg0, blk ccl0 30), (some b21, blk [iv pm.lo, iv pm.hi, slv gg0 m1 cc0, slv gg1 m2 cc1, .slice none 0 0, iv pm.geese] 28), (some b20, blk [iv (q0 % 200), slv g15 tk.length c16] 57), (some b19, blk [iv pm.lo, iv pm.hi, slv g3 pm.loads.length c4, slv g7 pm.stands.length c8, slv g11 pm.spells.length c12, iv pm.geese] 28), (g3, blk cl5 30), (g7, blk cl9 31), (g11, blk cl13 33), (g15, blk cl17 3), (some b2, blk [iv n0, iv n1, iv n2] 84), (some b1, blk [iv q0, iv q1, .slice rA1 rn1 rc1, .slice rA2 rn2 rc2, .slice rA3 rn3 rc3] 78)] ∧ (m2 = (scnF pm (n1 % 24)).stands.length) ∧ (Row 6 gg1 (m2) cc1 ccl1 (flat eLd ((scnF pm (n1 % 24)).stands)))) ?_ ?_
  ·
   refine wp_seq (rgn (by kernel_rfl) (pu (iv 0) (by kernel_rfl) (seq_nil (wp_block ?_))))
   have hI := hI.nilRow 31
   refine wp_loop (fun m ρ w => ∃ (k : Nat) (nn : Nat) (gg1 : Option Nat) (cc1 : Nat) (ccl1 : List Value), Agree ρ [(3, .pointer (some ⟨b2, 0, none⟩)), (5, .bool true), (6, .pointer (some ⟨b19, 0, none⟩)), (8, iv (15 + (n0 % 130))), (9, iv (n1 % 24)), (10, .pointer (some ⟨b21, 0, none⟩)), (12, iv (k : Int))] ∧ Inv none w0 w [(gg1, blk ccl1 31), (gg0, blk ccl0 30), (some b21, blk [iv pm.lo, iv pm.hi, slv gg0 m1 cc0, slv gg1 nn cc1, .slice none 0 0, iv pm.geese] 28), (some b20, blk [iv (q0 % 200), slv g15 tk.length c16] 57), (some b19, blk [iv pm.lo, iv pm.hi, slv g3 pm.loads.length c4, slv g7 pm.stands.length c8, slv g11 pm.spells.length c12, iv pm.geese] 28), (g3, blk cl5 30), (g7, blk cl9 31), (g11, blk cl13 33), (g15, blk cl17 3), (some b2, blk [iv n0, iv n1, iv n2] 84), (some b1, blk [iv q0, iv q1, .slice rA1 rn1 rc1, .slice rA2 rn2 rc2, .slice rA3 rn3 rc3] 78)] ∧ (k ≤ pm.stands.length) ∧ (nn = ((pm.stands.take k).filter (fun x : Ld => decide (x.kn ≤ n1 % 24))).length) ∧ (Row 6 gg1 (nn) cc1 ccl1 (flat eLd ((pm.stands.take k).filter (fun x : Ld => decide (x.kn ≤ n1 % 24))))) ∧ m = pm.stands.length - k) (m := pm.stands.length - 0) ⟨0, 0, none, 0, [], ⟨rfl, rfl, rfl, rfl, rfl, rfl, rfl, trivial⟩, hI.pickL [0, 1, 2, 3, 4, 5, 6, 7, 8, 9, 10] (by decide) rfl, (by omega), rfl, (Row.nil_ 6), rfl⟩ ?_
   rintro m ρ w ⟨k, nn, gg1, cc1, ccl1, hag, hI, hk, hnn, hrr1, hm⟩
   obtain ⟨ρ, rfl⟩ := hag.form; clear hag
   have hlen := Nat.le_trans (List.length_filter_le (fun x : Ld => decide (x.kn ≤ n1 % 24)) (pm.stands.take k)) (List.length_take_le k _)
   refine wp_seq (wp_seq (rgn (by kernel_rfl) (pu (iv (k : Int)) (by kernel_rfl) (pu (.pointer (some ⟨b19, 3, none⟩)) (by kernel_rfl) (seq_c (s_load1 hI 4 (slv g7 pm.stands.length c8) Tryz.isAgg25 rfl rfl rfl ?_))))))
   refine pu (iv ((pm.stands.length : Nat) : Int)) (by kernel_rfl) (seq_c (s_lss rfl rfl ?_ ?_))
   ·intro h5
    refine seq_nil (wp_condT rfl (wp_skip (wp_seq (wp_block ?_))))
    refine wp_seq (rgn (by kernel_rfl) (pu (.pointer (some ⟨b19, 3, none⟩)) (by kernel_rfl) (seq_c (s_load1 hI 4 (slv g7 pm.stands.length c8) Tryz.isAgg25 rfl rfl rfl ?_))))
    refine pu (iv (k : Int)) (by kernel_rfl) ?_
    obtain ⟨x36, hx37⟩ := get_lt (l := pm.stands) (i := k) (by omega)
    obtain ⟨b38, rfl, he39⟩ := r10.at_ eLd_len (by decide) hx37
    refine seq_c (s_indexR k Tryz.underlying25 Tryz.sizeOf31 rfl rfl rfl (by omega) ?_)
    refine pu (.pointer (some ⟨b38, k * 6 + 4, none⟩)) (by kernel_rfl) (seq_c (s_loadR1 hI 6 (iv x36.kn) Tryz.isAgg3 rfl rfl (he39 4 _ rfl) ?_))
    refine pu (iv (n1 % 24)) (by kernel_rfl) (seq_c (s_leq rfl rfl ?_ ?_))
    ·intro h6
     refine seq_nil (wp_condT rfl ?_)
     replace hI := hI.pickL [1, 3, 4, 5, 6, 7, 8, 9, 10, 0, 2] (by decide) rfl
     refine wp_drawn2 hI [0, 1, 2, 3, 4, 5, 6, 7, 8] (by decide) rfl (by kernel_rfl) (by kernel_rfl) ?_
     intro hsub
     refine alp 0 (.pointer (some ⟨b21, 3, none⟩)) hsub rfl (by kernel_rfl) (fun _ => (by kernel_rfl)) ?_
     refine alp 2 (.pointer (some ⟨b19, 3, none⟩)) hsub rfl (by kernel_rfl) (fun _ => (by kernel_rfl)) ?_
     refine al_light 3 (slv (some b38) pm.stands.length c8) hsub rfl (by kernel_rfl) (fun w hI => s_load1 hI 2 (slv (some b38) pm.stands.length c8) Tryz.isAgg25 rfl rfl rfl ⟨rfl, Below.refl _ _⟩) ?_
     refine alp 4 (iv (k : Int)) hsub rfl (by kernel_rfl) (fun _ => (by kernel_rfl)) ?_
     refine al_light 5 (.pointer (some ⟨b38, k * 6, none⟩)) hsub rfl (by kernel_rfl) (fun w hI => s_indexR k Tryz.underlying25 Tryz.sizeOf31 rfl rfl rfl (by omega) ⟨rfl, Below.refl _ _⟩) ?_
     refine al_light 6 (.agg #[iv x36.src, iv x36.hr, iv x36.lo, iv x36.hi, iv x36.kn, iv x36.un]) hsub rfl (by kernel_rfl) (fun w hI => s_loadRK hI 4 [iv x36.src, iv x36.hr, iv x36.lo, iv x36.hi, iv x36.kn, iv x36.un] Tryz.isAgg31 Tryz.sizeOf31 rfl rfl rfl he39 ⟨rfl, Below.refl _ _⟩) ?_
     refine any_heavy [1, 7] (by kernel_rfl) rfl (each2 ?_ ?_)
     ·intro w hI
      refine ol_c rfl (s_load1 hI 10 (slv gg1 nn cc1) Tryz.isAgg25 rfl rfl rfl ?_)
      refine ⟨_, hI, subk (fun _ h => h.pickL [0, 1, 2, 3, 4, 5, 6, 7, 8] (by decide) rfl) ?_⟩
      intro hsub
      refine any_heavy [7] (by kernel_rfl) rfl (each1 ?_)
      intro w hI
      refine ol_c rfl (s_new hI [iv x36.src, iv x36.hr, iv x36.lo, iv x36.hi, iv x36.kn, iv x36.un] 31 (fun b => slv (some b) 1 1) (by kernel_rfl) ?_)
      intro b40 w hI
      refine ⟨_, hI, subk (fun _ h => h.pickL [1, 2, 3, 4, 5, 6, 7, 8, 9] (by decide) rfl) ?_⟩
      intro hsub
      refine any_heavy [8] (by kernel_rfl) rfl (each1 ?_)
      intro w hI
      refine ol_c rfl (s_app hI Tryz.underlying25 (z := .agg #[iv 0, iv 0, iv 0, iv 0, iv 0, iv 0]) (k := 6) (bytes := 48) (by kernel_rfl) rfl rfl 10 rfl rfl hrr1 [iv x36.src, iv x36.hr, iv x36.lo, iv x36.hi, iv x36.kn, iv x36.un] rfl rfl (hI.cells 0 (off := 0) rfl (fun j u h => by rw [Nat.zero_add]; exact h)) (by simp [Value.oneCell']) (by omega) (by omega) ?_)
      intro g41 c42 cl43 w hI r44
      refine ⟨_, hI, subk (fun _ h => h.pickL [1, 2, 3, 4, 5, 6, 7, 8, 9] (by decide) rfl) ?_⟩
      intro hsub
      have r44 : Row 6 g41 (nn + 1) c42 cl43 (flat eLd (((pm.stands.take k).filter (fun x : Ld => decide (x.kn ≤ n1 % 24))) ++ [(⟨x36.src, x36.hr, x36.lo, x36.hi, x36.kn, x36.un⟩ : Ld)])) := r44.snoc _ rfl
      refine alp 9 (.pointer (some ⟨b21, 3, none⟩)) hsub rfl (by kernel_rfl) (fun _ => (by kernel_rfl)) ?_
      refine any_heavy [10] (by kernel_rfl) rfl (each1 ?_)
      intro w hI
      refine ol_c rfl (s_store hI 11 1 [slv g41 (nn + 1) c42] Tryz.sizeOf25 rfl rfl rfl rfl rfl (Nat.le_of_ble_eq_true rfl) ?_)
      intro w hI
      refine ⟨_, hI, subk (fun _ h => h.pickL [1, 2, 3, 4, 5, 6, 7, 8, 9] (by decide) rfl) ?_⟩
      intro hsub
      refine any_end (by kernel_rfl) (fun w hI => ?_)
      refine rgn (by kernel_rfl) (pu (iv (k : Int)) (by kernel_rfl) (seq_c (s_add rfl rfl (by omega) ?_)))
      refine pu (iv ((k : Int) + 1)) (by kernel_rfl) (seq_nil ?_)
      exact ⟨rfl, _, (by omega), ⟨k + 1, nn + 1, g41, c42, cl43, ⟨rfl, rfl, rfl, rfl, rfl, rfl, rfl, trivial⟩, hI.pickL [10, 1, 11, 2, 3, 4, 5, 6, 7, 8, 9] (by decide) rfl, (by omega), (by rw [take_get hx37, List.filter_append, List.length_append, ← hnn]; simp [h6]), (r44.to (by rw [take_get hx37, List.filter_append]; simp [h6]) rfl), rfl⟩⟩
     ·intro w hI
      refine ol_c rfl (s_new hI [iv x36.src, iv x36.hr, iv x36.lo, iv x36.hi, iv x36.kn, iv x36.un] 31 (fun b => slv (some b) 1 1) (by kernel_rfl) ?_)
      intro b45 w hI
      refine ⟨_, hI, subk (fun _ h => h.pickL [1, 2, 3, 4, 5, 6, 7, 8, 9] (by decide) rfl) ?_⟩
      intro hsub
      refine any_heavy [1] (by kernel_rfl) rfl (each1 ?_)
      intro w hI
      refine ol_c rfl (s_load1 hI 11 (slv gg1 nn cc1) Tryz.isAgg25 rfl rfl rfl ?_)
      refine ⟨_, hI, subk (fun _ h => h.pickL [1, 2, 3, 4, 5, 6, 7, 8, 9] (by decide) rfl) ?_⟩
      intro hsub
      refine any_heavy [8] (by kernel_rfl) rfl (each1 ?_)
      intro w hI
      refine ol_c rfl (s_app hI Tryz.underlying25 (z := .agg #[iv 0, iv 0, iv 0, iv 0, iv 0, iv 0]) (k := 6) (bytes := 48) (by kernel_rfl) rfl rfl 10 rfl rfl hrr1 [iv x36.src, iv x36.hr, iv x36.lo, iv x36.hi, iv x36.kn, iv x36.un] rfl rfl (hI.cells 0 (off := 0) rfl (fun j u h => by rw [Nat.zero_add]; exact h)) (by simp [Value.oneCell']) (by omega) (by omega) ?_)
      intro g46 c47 cl48 w hI r49
      refine ⟨_, hI, subk (fun _ h => h.pickL [1, 2, 3, 4, 5, 6, 7, 8, 9] (by decide) rfl) ?_⟩
      intro hsub
      have r49 : Row 6 g46 (nn + 1) c47 cl48 (flat eLd (((pm.stands.take k).filter (fun x : Ld => decide (x.kn ≤ n1 % 24))) ++ [(⟨x36.src, x36.hr, x36.lo, x36.hi, x36.kn, x36.un⟩ : Ld)])) := r49.snoc _ rfl
      refine alp 9 (.pointer (some ⟨b21, 3, none⟩)) hsub rfl (by kernel_rfl) (fun _ => (by kernel_rfl)) ?_
      refine any_heavy [10] (by kernel_rfl) rfl (each1 ?_)
      intro w hI
      refine ol_c rfl (s_store hI 11 1 [slv g46 (nn + 1) c47] Tryz.sizeOf25 rfl rfl rfl rfl rfl (Nat.le_of_ble_eq_true rfl) ?_)
      intro w hI
      refine ⟨_, hI, subk (fun _ h => h.pickL [1, 2, 3, 4, 5, 6, 7, 8, 9] (by decide) rfl) ?_⟩
      intro hsub
      refine any_end (by kernel_rfl) (fun w hI => ?_)
      refine rgn (by kernel_rfl) (pu (iv (k : Int)) (by kernel_rfl) (seq_c (s_add rfl rfl (by omega) ?_)))
      refine pu (iv ((k : Int) + 1)) (by kernel_rfl) (seq_nil ?_)
      exact ⟨rfl, _, (by omega), ⟨k + 1, nn + 1, g46, c47, cl48, ⟨rfl, rfl, rfl, rfl, rfl, rfl, rfl, trivial⟩, hI.pickL [10, 1, 11, 2, 3, 4, 5, 6, 7, 8, 9] (by decide) rfl, (by omega), (by rw [take_get hx37, List.filter_append, List.length_append, ← hnn]; simp [h6]), (r49.to (by rw [take_get hx37, List.filter_append]; simp [h6]) rfl), rfl⟩⟩
    ·intro h7
     refine seq_nil (wp_condF rfl (wp_skip (rgn (by kernel_rfl) (pu (iv (k : Int)) (by kernel_rfl) (seq_c (s_add rfl rfl (by omega) ?_))))))
     refine pu (iv ((k : Int) + 1)) (by kernel_rfl) (seq_nil ?_)
     exact ⟨rfl, _, (by omega), ⟨k + 1, nn, gg1, cc1, ccl1, ⟨rfl, rfl, rfl, rfl, rfl, rfl, rfl, trivial⟩, hI.pickL [0, 1, 2, 3, 4, 5, 6, 7, 8, 9, 10] (by decide) rfl, (by omega), (by rw [take_get hx37, List.filter_append, List.length_append, ← hnn]; simp [h7]), (hrr1.to (by rw [take_get hx37, List.filter_append]; simp [h7]) rfl), rfl⟩⟩
   ·intro h8
    refine seq_nil (wp_condF rfl (wp_exit ?_))
    have hta : pm.stands.take k = pm.stands := List.take_of_length_le (by omega)
    exact ⟨rfl, nn, gg1, cc1, ccl1, ⟨rfl, rfl, rfl, rfl, rfl, rfl, trivial⟩, hI.pickL [0, 1, 2, 3, 4, 5, 6, 7, 8, 9, 10] (by decide) rfl, (by rw [hnn, hta, scn_s hu]), (hrr1.to (by rw [hta, scn_s hu]) rfl)⟩
  ·rintro ρ w ⟨m2, gg1, cc1, ccl1, hag, hI, hm2, hrr1⟩
   obtain ⟨ρ, rfl⟩ := hag.form; clear hag
   refine wp_cut (fun ρ w => ∃ (m3 : Nat) (gg2 : Option Nat) (cc2 : Nat) (ccl2 : List Value), Agree ρ [(3, .pointer (some ⟨b2, 0, none⟩)), (5, .bool true), (6, .pointer (some ⟨b19, 0, none⟩)), (8, iv (15 + (n0 % 130))), (9, iv (n1 % 24)), (10, .pointer (some ⟨b21, 0, none⟩))] ∧ Inv none w0 w [(gg2, blk ccl2 33), (gg1, blk ccl1 31), (gg0, blk ccl0 30), (some b21, blk [iv pm.lo, iv pm.hi, slv gg0 m1 cc0, slv gg1 m2 cc1, slv gg2 m3 cc2, iv pm.geese] 28), (some b20, blk [iv (q0 % 200), slv g15 tk.length c16] 57), (some b19, blk [iv pm.lo, iv pm.hi, slv g3 pm.loads.length c4, slv g7 pm.stands.length c8, slv g11 pm.spells.length c12, iv pm.geese] 28), (g3, blk cl5 30), (g7, blk cl9 31), (g11, blk cl13 33), (g15, blk cl17 3), (some b2, blk [iv n0, iv n1, iv n2] 84), (some b1, blk [iv q0, iv q1, .slice rA1 rn1 rc1, .slice rA2 rn2 rc2, .slice rA3 rn3 rc3] 78)] ∧ (m3 = (scnF pm (n1 % 24)).spells.length) ∧ (Row 6 gg2 (m3) cc2 ccl2 (flat eSp ((scnF pm (n1 % 24)).spells)))) ?_ ?_
   ·
    refine wp_seq (rgn (by kernel_rfl) (pu (iv 0) (by kernel_rfl) (seq_nil (wp_block ?_))))
    have hI := hI.nilRow 33
    refine wp_loop (fun m ρ w => ∃ (k : Nat) (nn : Nat) (gg2 : Option Nat) (cc2 : Nat) (ccl2 : List Value), Agree ρ [(3, .pointer (some ⟨b2, 0, none⟩)), (5, .bool true), (6, .pointer (some ⟨b19, 0, none⟩)), (8, iv (15 + (n0 % 130))), (9, iv (n1 % 24)), (10, .pointer (some ⟨b21, 0, none⟩)), (13, iv (k : Int))] ∧ Inv none w0 w [(gg2, blk ccl2 33), (gg1, blk ccl1 31), (gg0, blk ccl0 30), (some b21, blk [iv pm.lo, iv pm.hi, slv gg0 m1 cc0, slv gg1 m2 cc1, slv gg2 nn cc2, iv pm.geese] 28), (some b20, blk [iv (q0 % 200), slv g15 tk.length c16] 57), (some b19, blk [iv pm.lo, iv pm.hi, slv g3 pm.loads.length c4, slv g7 pm.stands.length c8, slv g11 pm.spells.length c12, iv pm.geese] 28), (g3, blk cl5 30), (g7, blk cl9 31), (g11, blk cl13 33), (g15, blk cl17 3), (some b2, blk [iv n0, iv n1, iv n2] 84), (some b1, blk [iv q0, iv q1, .slice rA1 rn1 rc1, .slice rA2 rn2 rc2, .slice rA3 rn3 rc3] 78)] ∧ (k ≤ pm.spells.length) ∧ (nn = ((pm.spells.take k).filter (fun x : Sp => decide (x.kn ≤ n1 % 24))).length) ∧ (Row 6 gg2 (nn) cc2 ccl2 (flat eSp ((pm.spells.take k).filter (fun x : Sp => decide (x.kn ≤ n1 % 24))))) ∧ m = pm.spells.length - k) (m := pm.spells.length - 0) ⟨0, 0, none, 0, [], ⟨rfl, rfl, rfl, rfl, rfl, rfl, rfl, trivial⟩, hI.pickL [0, 1, 2, 3, 4, 5, 6, 7, 8, 9, 10, 11] (by decide) rfl, (by omega), rfl, (Row.nil_ 6), rfl⟩ ?_
    rintro m ρ w ⟨k, nn, gg2, cc2, ccl2, hag, hI, hk, hnn, hrr2, hm⟩
    obtain ⟨ρ, rfl⟩ := hag.form; clear hag
    have hlen := Nat.le_trans (List.length_filter_le (fun x : Sp => decide (x.kn ≤ n1 % 24)) (pm.spells.take k)) (List.length_take_le k _)
    refine wp_seq (wp_seq (rgn (by kernel_rfl) (pu (iv (k : Int)) (by kernel_rfl) (pu (.pointer (some ⟨b19, 4, none⟩)) (by kernel_rfl) (seq_c (s_load1 hI 5 (slv g11 pm.spells.length c12) Tryz.isAgg26 rfl rfl rfl ?_))))))
    refine pu (iv ((pm.spells.length : Nat) : Int)) (by kernel_rfl) (seq_c (s_lss rfl rfl ?_ ?_))
    ·intro h9
     refine seq_nil (wp_condT rfl (wp_skip (wp_seq (wp_block ?_))))
     refine wp_seq (rgn (by kernel_rfl) (pu (.pointer (some ⟨b19, 4, none⟩)) (by kernel_rfl) (seq_c (s_load1 hI 5 (slv g11 pm.spells.length c12) Tryz.isAgg26 rfl rfl rfl ?_))))
     refine pu (iv (k : Int)) (by kernel_rfl) ?_
     obtain ⟨x50, hx51⟩ := get_lt (l := pm.spells) (i := k) (by omega)
     obtain ⟨b52, rfl, he53⟩ := r14.at_ eSp_len (by decide) hx51
     refine seq_c (s_indexR k Tryz.underlying26 Tryz.sizeOf33 rfl rfl rfl (by omega) ?_)
     refine pu (.pointer (some ⟨b52, k * 6 + 4, none⟩)) (by kernel_rfl) (seq_c (s_loadR1 hI 8 (iv x50.kn) Tryz.isAgg3 rfl rfl (he53 4 _ rfl) ?_))
     refine pu (iv (n1 % 24)) (by kernel_rfl) (seq_c (s_leq rfl rfl ?_ ?_))
     ·intro h10
      refine seq_nil (wp_condT rfl ?_)
      replace hI := hI.pickL [1, 2, 4, 5, 6, 7, 8, 9, 10, 11, 0, 3] (by decide) rfl
      refine wp_drawn2 hI [0, 1, 2, 3, 4, 5, 6, 7, 8, 9] (by decide) rfl (by kernel_rfl) (by kernel_rfl) ?_
      intro hsub
      refine alp 0 (.pointer (some ⟨b21, 4, none⟩)) hsub rfl (by kernel_rfl) (fun _ => (by kernel_rfl)) ?_
      refine alp 2 (.pointer (some ⟨b19, 4, none⟩)) hsub rfl (by kernel_rfl) (fun _ => (by kernel_rfl)) ?_
      refine al_light 3 (slv (some b52) pm.spells.length c12) hsub rfl (by kernel_rfl) (fun w hI => s_load1 hI 3 (slv (some b52) pm.spells.length c12) Tryz.isAgg26 rfl rfl rfl ⟨rfl, Below.refl _ _⟩) ?_
      refine alp 4 (iv (k : Int)) hsub rfl (by kernel_rfl) (fun _ => (by kernel_rfl)) ?_
      refine al_light 5 (.pointer (some ⟨b52, k * 6, none⟩)) hsub rfl (by kernel_rfl) (fun w hI => s_indexR k Tryz.underlying26 Tryz.sizeOf33 rfl rfl rfl (by omega) ⟨rfl, Below.refl _ _⟩) ?_
      refine al_light 6 (.agg #[iv x50.src, iv x50.kd, iv x50.fr, iv x50.to, iv x50.kn, iv x50.un]) hsub rfl (by kernel_rfl) (fun w hI => s_loadRK hI 6 [iv x50.src, iv x50.kd, iv x50.fr, iv x50.to, iv x50.kn, iv x50.un] Tryz.isAgg33 Tryz.sizeOf33 rfl rfl rfl he53 ⟨rfl, Below.refl _ _⟩) ?_
      refine any_heavy [1, 7] (by kernel_rfl) rfl (each2 ?_ ?_)
      ·intro w hI
       refine ol_c rfl (s_load1 hI 11 (slv gg2 nn cc2) Tryz.isAgg26 rfl rfl rfl ?_)
       refine ⟨_, hI, subk (fun _ h => h.pickL [0, 1, 2, 3, 4, 5, 6, 7, 8, 9] (by decide) rfl) ?_⟩
       intro hsub
       refine any_heavy [7] (by kernel_rfl) rfl (each1 ?_)
       intro w hI
       refine ol_c rfl (s_new hI [iv x50.src, iv x50.kd, iv x50.fr, iv x50.to, iv x50.kn, iv x50.un] 33 (fun b => slv (some b) 1 1) (by kernel_rfl) ?_)
       intro b54 w hI
       refine ⟨_, hI, subk (fun _ h => h.pickL [1, 2, 3, 4, 5, 6, 7, 8, 9, 10] (by decide) rfl) ?_⟩
       intro hsub
       refine any_heavy [8] (by kernel_rfl) rfl (each1 ?_)
       intro w hI
       refine ol_c rfl (s_app hI Tryz.underlying26 (z := .agg #[iv 0, iv 0, iv 0, iv 0, iv 0, iv 0]) (k := 6) (bytes := 48) (by kernel_rfl) rfl rfl 11 rfl rfl hrr2 [iv x50.src, iv x50.kd, iv x50.fr, iv x50.to, iv x50.kn, iv x50.un] rfl rfl (hI.cells 0 (off := 0) rfl (fun j u h => by rw [Nat.zero_add]; exact h)) (by simp [Value.oneCell']) (by omega) (by omega) ?_)
       intro g55 c56 cl57 w hI r58
       refine ⟨_, hI, subk (fun _ h => h.pickL [1, 2, 3, 4, 5, 6, 7, 8, 9, 10] (by decide) rfl) ?_⟩
       intro hsub
       have r58 : Row 6 g55 (nn + 1) c56 cl57 (flat eSp (((pm.spells.take k).filter (fun x : Sp => decide (x.kn ≤ n1 % 24))) ++ [(⟨x50.src, x50.kd, x50.fr, x50.to, x50.kn, x50.un⟩ : Sp)])) := r58.snoc _ rfl
       refine alp 9 (.pointer (some ⟨b21, 4, none⟩)) hsub rfl (by kernel_rfl) (fun _ => (by kernel_rfl)) ?_
       refine any_heavy [10] (by kernel_rfl) rfl (each1 ?_)
       intro w hI
       refine ol_c rfl (s_store hI 12 1 [slv g55 (nn + 1) c56] Tryz.sizeOf26 rfl rfl rfl rfl rfl (Nat.le_of_ble_eq_true rfl) ?_)
       intro w hI
       refine ⟨_, hI, subk (fun _ h => h.pickL [1, 2, 3, 4, 5, 6, 7, 8, 9, 10] (by decide) rfl) ?_⟩
       intro hsub
       refine any_end (by kernel_rfl) (fun w hI => ?_)
       refine rgn (by kernel_rfl) (pu (iv (k : Int)) (by kernel_rfl) (seq_c (s_add rfl rfl (by omega) ?_)))
       refine pu (iv ((k : Int) + 1)) (by kernel_rfl) (seq_nil ?_)
       exact ⟨rfl, _, (by omega), ⟨k + 1, nn + 1, g55, c56, cl57, ⟨rfl, rfl, rfl, rfl, rfl, rfl, rfl, trivial⟩, hI.pickL [11, 1, 2, 12, 3, 4, 5, 6, 7, 8, 9, 10] (by decide) rfl, (by omega), (by rw [take_get hx51, List.filter_append, List.length_append, ← hnn]; simp [h10]), (r58.to (by rw [take_get hx51, List.filter_append]; simp [h10]) rfl), rfl⟩⟩
      ·intro w hI
       refine ol_c rfl (s_new hI [iv x50.src, iv x50.kd, iv x50.fr, iv x50.to, iv x50.kn, iv x50.un] 33 (fun b => slv (some b) 1 1) (by kernel_rfl) ?_)
       intro b59 w hI
       refine ⟨_, hI, subk (fun _ h => h.pickL [1, 2, 3, 4, 5, 6, 7, 8, 9, 10] (by decide) rfl) ?_⟩
       intro hsub
       refine any_heavy [1] (by kernel_rfl) rfl (each1 ?_)
       intro w hI
       refine ol_c rfl (s_load1 hI 12 (slv gg2 nn cc2) Tryz.isAgg26 rfl rfl rfl ?_)
       refine ⟨_, hI, subk (fun _ h => h.pickL [1, 2, 3, 4, 5, 6, 7, 8, 9, 10] (by decide) rfl) ?_⟩
       intro hsub
       refine any_heavy [8] (by kernel_rfl) rfl (each1 ?_)
       intro w hI
       refine ol_c rfl (s_app hI Tryz.underlying26 (z := .agg #[iv 0, iv 0, iv 0, iv 0, iv 0, iv 0]) (k := 6) (bytes := 48) (by kernel_rfl) rfl rfl 11 rfl rfl hrr2 [iv x50.src, iv x50.kd, iv x50.fr, iv x50.to, iv x50.kn, iv x50.un] rfl rfl (hI.cells 0 (off := 0) rfl (fun j u h => by rw [Nat.zero_add]; exact h)) (by simp [Value.oneCell']) (by omega) (by omega) ?_)
       intro g60 c61 cl62 w hI r63
       refine ⟨_, hI, subk (fun _ h => h.pickL [1, 2, 3, 4, 5, 6, 7, 8, 9, 10] (by decide) rfl) ?_⟩
       intro hsub
       have r63 : Row 6 g60 (nn + 1) c61 cl62 (flat eSp (((pm.spells.take k).filter (fun x : Sp => decide (x.kn ≤ n1 % 24))) ++ [(⟨x50.src, x50.kd, x50.fr, x50.to, x50.kn, x50.un⟩ : Sp)])) := r63.snoc _ rfl
       refine alp 9 (.pointer (some ⟨b21, 4, none⟩)) hsub rfl (by kernel_rfl) (fun _ => (by kernel_rfl)) ?_
       refine any_heavy [10] (by kernel_rfl) rfl (each1 ?_)
       intro w hI
       refine ol_c rfl (s_store hI 12 1 [slv g60 (nn + 1) c61] Tryz.sizeOf26 rfl rfl rfl rfl rfl (Nat.le_of_ble_eq_true rfl) ?_)
       intro w hI
       refine ⟨_, hI, subk (fun _ h => h.pickL [1, 2, 3, 4, 5, 6, 7, 8, 9, 10] (by decide) rfl) ?_⟩
       intro hsub
       refine any_end (by kernel_rfl) (fun w hI => ?_)
       refine rgn (by kernel_rfl) (pu (iv (k : Int)) (by kernel_rfl) (seq_c (s_add rfl rfl (by omega) ?_)))
       refine pu (iv ((k : Int) + 1)) (by kernel_rfl) (seq_nil ?_)
       exact ⟨rfl, _, (by omega), ⟨k + 1, nn + 1, g60, c61, cl62, ⟨rfl, rfl, rfl, rfl, rfl, rfl, rfl, trivial⟩, hI.pickL [11, 1, 2, 12, 3, 4, 5, 6, 7, 8, 9, 10] (by decide) rfl, (by omega), (by rw [take_get hx51, List.filter_append, List.length_append, ← hnn]; simp [h10]), (r63.to (by rw [take_get hx51, List.filter_append]; simp [h10]) rfl), rfl⟩⟩
     ·intro h11
      refine seq_nil (wp_condF rfl (wp_skip (rgn (by kernel_rfl) (pu (iv (k : Int)) (by kernel_rfl) (seq_c (s_add rfl rfl (by omega) ?_))))))
      refine pu (iv ((k : Int) + 1)) (by kernel_rfl) (seq_nil ?_)
      exact ⟨rfl, _, (by omega), ⟨k + 1, nn, gg2, cc2, ccl2, ⟨rfl, rfl, rfl, rfl, rfl, rfl, rfl, trivial⟩, hI.pickL [0, 1, 2, 3, 4, 5, 6, 7, 8, 9, 10, 11] (by decide) rfl, (by omega), (by rw [take_get hx51, List.filter_append, List.length_append, ← hnn]; simp [h11]), (hrr2.to (by rw [take_get hx51, List.filter_append]; simp [h11]) rfl), rfl⟩⟩
    ·intro h12
     refine seq_nil (wp_condF rfl (wp_exit ?_))
     have hta : pm.spells.take k = pm.spells := List.take_of_length_le (by omega)
     exact ⟨rfl, nn, gg2, cc2, ccl2, ⟨rfl, rfl, rfl, rfl, rfl, rfl, trivial⟩, hI.pickL [0, 1, 2, 3, 4, 5, 6, 7, 8, 9, 10, 11] (by decide) rfl, (by rw [hnn, hta, scn_p hu]), (hrr2.to (by rw [hta, scn_p hu]) rfl)⟩
   ·rintro ρ w ⟨m3, gg2, cc2, ccl2, hag, hI, hm3, hrr2⟩
    obtain ⟨ρ, rfl⟩ := hag.form; clear hag
    refine wp_seq (rgn (by kernel_rfl) (seq_c (s_loadK hI 5 6 [iv pm.lo, iv pm.hi, slv g3 pm.loads.length c4, slv g7 pm.stands.length c8, slv g11 pm.spells.length c12, iv pm.geese] Tryz.isAgg28 Tryz.sizeOf28 rfl rfl rfl rfl ?_)))
    refine seq_c (s_callNewF hI 18 [.agg #[iv pm.lo, iv pm.hi, slv g3 pm.loads.length c4, slv g7 pm.stands.length c8, slv g11 pm.spells.length c12, iv pm.geese]] (fun v1 => .tuple #[v1, iv 0]) (by kernel_rfl) (Does.mono (Dates_c _ pm (g3.map fun b => ⟨b, 0, none⟩) pm.loads.length c4 (g7.map fun b => ⟨b, 0, none⟩) pm.stands.length c8 (g11.map fun b => ⟨b, 0, none⟩) pm.spells.length c12 ⟨(hI.rowCells 6 rfl r6), rfl, (hI.rowCells 7 rfl r10), rfl, (hI.rowCells 8 rfl r14), rfl, r6.big_6, r10.big_6, r14.big_6⟩) (fun v w' ⟨v1, e1, e2⟩ => ⟨v1, by rw [e1, hd0], e2⟩)) ?_)
    intro g64 c65 cl66 w hI r67
    have r67 : Row 1 g64 (datesC pm).1.length c65 cl66 (flat eInt (datesC pm).1) := r67
    have hdl := r67.big_6
    refine pu (.tuple #[slv g64 (datesC pm).1.length c65, iv 0]) (by kernel_rfl) (pu (slv g64 (datesC pm).1.length c65) (by kernel_rfl) (pu (iv 0) (by kernel_rfl) (pu (slv g64 (datesC pm).1.length c65) (by kernel_rfl) (pu (iv 0) (by kernel_rfl) (seq_nil (wp_seq (rgn (by kernel_rfl) (pu (iv (-1)) (by kernel_rfl) (seq_nil ?_)))))))))
    refine wp_cut (fun ρ w => ∃ (lst : Int), Agree ρ [(3, .pointer (some ⟨b2, 0, none⟩)), (5, .bool true), (6, .pointer (some ⟨b19, 0, none⟩)), (8, iv (15 + (n0 % 130))), (9, iv (n1 % 24)), (10, .pointer (some ⟨b21, 0, none⟩)), (15, iv 0), (16, iv lst)] ∧ Inv none w0 w [(g64, blk cl66 3), (gg2, blk ccl2 33), (gg1, blk ccl1 31), (gg0, blk ccl0 30), (some b21, blk [iv pm.lo, iv pm.hi, slv gg0 m1 cc0, slv gg1 m2 cc1, slv gg2 m3 cc2, iv pm.geese] 28), (some b20, blk [iv (q0 % 200), slv g15 tk.length c16] 57), (some b19, blk [iv pm.lo, iv pm.hi, slv g3 pm.loads.length c4, slv g7 pm.stands.length c8, slv g11 pm.spells.length c12, iv pm.geese] 28), (g3, blk cl5 30), (g7, blk cl9 31), (g11, blk cl13 33), (g15, blk cl17 3), (some b2, blk [iv n0, iv n1, iv n2] 84), (some b1, blk [iv q0, iv q1, .slice rA1 rn1 rc1, .slice rA2 rn2 rc2, .slice rA3 rn3 rc3] 78)] ∧ (lst ≤ n1 % 24) ∧ (∀ d ∈ (datesC pm).1, d ≤ n1 % 24 → d ≤ lst)) ?_ ?_
    ·
     refine wp_seq (rgn (by kernel_rfl) (pu (iv 0) (by kernel_rfl) (seq_nil (wp_block ?_))))
     refine wp_loop (fun m ρ w => ∃ (k : Nat) (lst : Int), Agree ρ [(3, .pointer (some ⟨b2, 0, none⟩)), (5, .bool true), (6, .pointer (some ⟨b19, 0, none⟩)), (8, iv (15 + (n0 % 130))), (9, iv (n1 % 24)), (10, .pointer (some ⟨b21, 0, none⟩)), (14, slv g64 (datesC pm).1.length c65), (15, iv 0), (16, iv lst), (17, iv (k : Int))] ∧ Inv none w0 w [(g64, blk cl66 3), (gg2, blk ccl2 33), (gg1, blk ccl1 31), (gg0, blk ccl0 30), (some b21, blk [iv pm.lo, iv pm.hi, slv gg0 m1 cc0, slv gg1 m2 cc1, slv gg2 m3 cc2, iv pm.geese] 28), (some b20, blk [iv (q0 % 200), slv g15 tk.length c16] 57), (some b19, blk [iv pm.lo, iv pm.hi, slv g3 pm.loads.length c4, slv g7 pm.stands.length c8, slv g11 pm.spells.length c12, iv pm.geese] 28), (g3, blk cl5 30), (g7, blk cl9 31), (g11, blk cl13 33), (g15, blk cl17 3), (some b2, blk [iv n0, iv n1, iv n2] 84), (some b1, blk [iv q0, iv q1, .slice rA1 rn1 rc1, .slice rA2 rn2 rc2, .slice rA3 rn3 rc3] 78)] ∧ (k ≤ (datesC pm).1.length) ∧ (lst ≤ n1 % 24) ∧ (∀ i e, i < k → (datesC pm).1[i]? = some e → e ≤ n1 % 24 → e ≤ lst) ∧ m = (datesC pm).1.length - k) (m := (datesC pm).1.length - 0) ⟨0, -1, ⟨rfl, rfl, rfl, rfl, rfl, rfl, rfl, rfl, rfl, rfl, trivial⟩, hI.pickL [0, 1, 2, 3, 4, 5, 6, 7, 8, 9, 10, 11, 12] (by decide) rfl, (by omega), (by omega), (fun i e h => absurd h (by omega)), rfl⟩ ?_
     rintro m ρ w ⟨k, lst, hag, hI, hk, hl1, hl2, hm⟩
     obtain ⟨ρ, rfl⟩ := hag.form; clear hag
     refine wp_seq (wp_seq (rgn (by kernel_rfl) (pu (iv (k : Int)) (by kernel_rfl) (pu (slv g64 (datesC pm).1.length c65) (by kernel_rfl) (pu (iv (((datesC pm).1.length : Nat) : Int)) (by kernel_rfl) (seq_c (s_lss rfl rfl ?_ ?_)))))))
     ·intro h13
      refine seq_nil (wp_condT rfl (wp_skip (wp_seq (wp_block ?_))))
      refine wp_seq (rgn (by kernel_rfl) (pu (slv g64 (datesC pm).1.length c65) (by kernel_rfl) (pu (iv (k : Int)) (by kernel_rfl) ?_)))
      obtain ⟨x68, hx69⟩ := get_lt (l := (datesC pm).1) (i := k) (by omega)
      obtain ⟨b70, rfl, he71⟩ := r67.at_ eInt_len (by decide) hx69
      refine seq_c (s_indexR k Tryz.underlying41 Tryz.sizeOf3 rfl rfl rfl (by omega) ?_)
      refine seq_c (s_loadR1 hI 0 (iv x68) Tryz.isAgg3 rfl rfl (he71 0 _ rfl) ?_)
      refine pu (iv (n1 % 24)) (by kernel_rfl) (seq_c (s_leq rfl rfl ?_ ?_))
      ·intro h14
       refine seq_nil (wp_condT rfl (rgn (by kernel_rfl) (pu (slv (some b70) (datesC pm).1.length c65) (by kernel_rfl) (pu (iv (k : Int)) (by kernel_rfl) (seq_c (s_indexR k Tryz.underlying41 Tryz.sizeOf3 rfl rfl rfl (by omega) ?_))))))
       refine seq_c (s_loadR1 hI 0 (iv x68) Tryz.isAgg3 rfl rfl (he71 0 _ rfl) ?_)
       refine pu (iv x68) (by kernel_rfl) (seq_nil (rgn (by kernel_rfl) (pu (iv (k : Int)) (by kernel_rfl) (seq_c (s_add rfl rfl (by omega) ?_)))))
       refine pu (iv ((k : Int) + 1)) (by kernel_rfl) (seq_nil ?_)
       have hz := last_step (dates_sort pm) hx69 hl2
       simp only [if_pos h14] at hz
       exact ⟨rfl, _, (by omega), ⟨k + 1, x68, ⟨rfl, rfl, rfl, rfl, rfl, rfl, rfl, rfl, rfl, rfl, trivial⟩, hI.pickL [0, 1, 2, 3, 4, 5, 6, 7, 8, 9, 10, 11, 12] (by decide) rfl, (by omega), (by omega), hz, rfl⟩⟩
      ·intro h15
       refine seq_nil (wp_condF rfl (wp_skip (rgn (by kernel_rfl) (pu (iv (k : Int)) (by kernel_rfl) (seq_c (s_add rfl rfl (by omega) ?_))))))
       refine pu (iv ((k : Int) + 1)) (by kernel_rfl) (seq_nil ?_)
       have hz := last_step (dates_sort pm) hx69 hl2
       simp only [if_neg h15] at hz
       exact ⟨rfl, _, (by omega), ⟨k + 1, lst, ⟨rfl, rfl, rfl, rfl, rfl, rfl, rfl, rfl, rfl, rfl, trivial⟩, hI.pickL [0, 1, 2, 3, 4, 5, 6, 7, 8, 9, 10, 11, 12] (by decide) rfl, (by omega), (by omega), hz, rfl⟩⟩
     ·intro h16
      refine seq_nil (wp_condF rfl (wp_exit ?_))
      exact ⟨rfl, lst, ⟨rfl, rfl, rfl, rfl, rfl, rfl, rfl, rfl, trivial⟩, hI.pickL [0, 1, 2, 3, 4, 5, 6, 7, 8, 9, 10, 11, 12] (by decide) rfl, hl1, (fun d hd hle => by obtain ⟨i, hi, e⟩ := List.getElem_of_mem hd; exact hl2 i d (by omega) (by rw [List.getElem?_eq_getElem hi, e]) hle)⟩
    ·rintro ρ w ⟨lst, hag, hI, hl1, hDl⟩
     obtain ⟨ρ, rfl⟩ := hag.form; clear hag
     refine wp_seq (rgn (by kernel_rfl) (seq_c (s_loadK hI 6 6 [iv pm.lo, iv pm.hi, slv g3 pm.loads.length c4, slv g7 pm.stands.length c8, slv g11 pm.spells.length c12, iv pm.geese] Tryz.isAgg28 Tryz.sizeOf28 rfl rfl rfl rfl ?_)))
     refine pu (iv (15 + (n0 % 130))) (by kernel_rfl) (pu (iv (n1 % 24)) (by kernel_rfl) (seq_c (s_callv hI 51 [.agg #[iv pm.lo, iv pm.hi, slv g3 pm.loads.length c4, slv g7 pm.stands.length c8, slv g11 pm.spells.length c12, iv pm.geese], iv (15 + (n0 % 130)), iv (n1 % 24)] (.tuple #[iv ((openC pm (15 + (n0 % 130)) (n1 % 24)).1), iv ((openC pm (15 + (n0 % 130)) (n1 % 24)).2)]) (by kernel_rfl) (Open_c _ pm (g3.map fun b => ⟨b, 0, none⟩) pm.loads.length c4 (g7.map fun b => ⟨b, 0, none⟩) pm.stands.length c8 (g11.map fun b => ⟨b, 0, none⟩) pm.spells.length c12 ⟨(hI.rowCells 7 rfl r6), rfl, (hI.rowCells 8 rfl r10), rfl, (hI.rowCells 9 rfl r14), rfl, r6.big_6, r10.big_6, r14.big_6⟩ (15 + (n0 % 130)) (n1 % 24) hn19) ?_)))
     intro w hI
     refine pu (.tuple #[iv ((openC pm (15 + (n0 % 130)) (n1 % 24)).1), iv ((openC pm (15 + (n0 % 130)) (n1 % 24)).2)]) (by kernel_rfl) (pu (iv ((openC pm (15 + (n0 % 130)) (n1 % 24)).1)) (by kernel_rfl) (pu (iv ((openC pm (15 + (n0 % 130)) (n1 % 24)).2)) (by kernel_rfl) (pu (iv ((openC pm (15 + (n0 % 130)) (n1 % 24)).1)) (by kernel_rfl) (pu (iv ((openC pm (15 + (n0 % 130)) (n1 % 24)).2)) (by kernel_rfl) (seq_nil (wp_seq (rgn (by kernel_rfl) (seq_c (s_loadK hI 4 6 [iv pm.lo, iv pm.hi, slv gg0 m1 cc0, slv gg1 m2 cc1, slv gg2 m3 cc2, iv pm.geese] Tryz.isAgg28 Tryz.sizeOf28 rfl rfl rfl rfl ?_)))))))))
     refine pu (iv (15 + (n0 % 130))) (by kernel_rfl) (pu (iv (n1 % 24)) (by kernel_rfl) (seq_c (s_callv hI 51 [.agg #[iv pm.lo, iv pm.hi, slv gg0 m1 cc0, slv gg1 m2 cc1, slv gg2 m3 cc2, iv pm.geese], iv (15 + (n0 % 130)), iv (n1 % 24)] (.tuple #[iv ((openC pm (15 + (n0 % 130)) (n1 % 24)).1), iv ((openC pm (15 + (n0 % 130)) (n1 % 24)).2)]) (by kernel_rfl) (by rw [← open_now (h := 15 + (n0 % 130)) (dy := n1 % 24) hv]; exact Open_c _ (scnF pm (n1 % 24)) (gg0.map fun b => ⟨b, 0, none⟩) m1 cc0 (gg1.map fun b => ⟨b, 0, none⟩) m2 cc1 (gg2.map fun b => ⟨b, 0, none⟩) m3 cc2 ⟨(hI.rowCells 3 rfl hrr0), hm1, (hI.rowCells 2 rfl hrr1), hm2, (hI.rowCells 1 rfl hrr2), hm3, hrr0.big_6, hrr1.big_6, hrr2.big_6⟩ (15 + (n0 % 130)) (n1 % 24) hnw) ?_)))
     intro w hI
     refine pu (.tuple #[iv ((openC pm (15 + (n0 % 130)) (n1 % 24)).1), iv ((openC pm (15 + (n0 % 130)) (n1 % 24)).2)]) (by kernel_rfl) (pu (iv ((openC pm (15 + (n0 % 130)) (n1 % 24)).1)) (by kernel_rfl) (pu (iv ((openC pm (15 + (n0 % 130)) (n1 % 24)).2)) (by kernel_rfl) (pu (iv ((openC pm (15 + (n0 % 130)) (n1 % 24)).1)) (by kernel_rfl) (pu (iv ((openC pm (15 + (n0 % 130)) (n1 % 24)).2)) (by kernel_rfl) (seq_nil (wp_seq (wp_seq (rgn (by kernel_rfl) (pu (.bool true) (by kernel_rfl) ?_)))))))))
     refine pu (.bool false) (by kernel_rfl) (pu (.bool false) (by kernel_rfl) (puo (iv 0) ⟨(by kernel_rfl), (by kernel_rfl)⟩ (seq_on (by kernel_rfl) (s_neqS6 rfl rfl ?_))))
     refine pu (.bool false) (by kernel_rfl) (pu (.bool false) (by kernel_rfl) (puo (iv ((openC pm (15 + (n0 % 130)) (n1 % 24)).1)) ⟨(by kernel_rfl), (by kernel_rfl)⟩ (puo (iv ((openC pm (15 + (n0 % 130)) (n1 % 24)).1)) ⟨(by kernel_rfl), (by kernel_rfl)⟩ (seq_on (by kernel_rfl) (s_neqS6 rfl rfl ?_)))))
     refine pu (.bool false) (by kernel_rfl) (pu (.bool false) (by kernel_rfl) (puo (iv ((openC pm (15 + (n0 % 130)) (n1 % 24)).2)) ⟨(by kernel_rfl), (by kernel_rfl)⟩ (puo (iv ((openC pm (15 + (n0 % 130)) (n1 % 24)).2)) ⟨(by kernel_rfl), (by kernel_rfl)⟩ (seq_on (by kernel_rfl) (s_neqS6 rfl rfl ?_)))))
     refine pu (.bool false) (by kernel_rfl) (seq_nil (wp_condF rfl (wp_skip (wp_cut (fun ρ w => Agree ρ [(3, .pointer (some ⟨b2, 0, none⟩)), (6, .pointer (some ⟨b19, 0, none⟩)), (9, iv (n1 % 24))] ∧ Inv none w0 w [(g64, blk cl66 3), (gg2, blk ccl2 33), (gg1, blk ccl1 31), (gg0, blk ccl0 30), (some b21, blk [iv pm.lo, iv pm.hi, slv gg0 m1 cc0, slv gg1 m2 cc1, slv gg2 m3 cc2, iv pm.geese] 28), (some b20, blk [iv (q0 % 200), slv g15 tk.length c16] 57), (some b19, blk [iv pm.lo, iv pm.hi, slv g3 pm.loads.length c4, slv g7 pm.stands.length c8, slv g11 pm.spells.length c12, iv pm.geese] 28), (g3, blk cl5 30), (g7, blk cl9 31), (g11, blk cl13 33), (g15, blk cl17 3), (some b2, blk [iv n0, iv n1, iv n2] 84), (some b1, blk [iv q0, iv q1, .slice rA1 rn1 rc1, .slice rA2 rn2 rc2, .slice rA3 rn3 rc3] 78)]) ?_ ?_))))
     ·
      refine wp_seq (rgn (by kernel_rfl) (pu (iv lst) (by kernel_rfl) (seq_c (s_geq rfl rfl ?_ ?_))))
      ·intro h17
       refine seq_nil (wp_condT rfl (wp_seq (rgn (by kernel_rfl) (seq_c (s_loadK hI 6 6 [iv pm.lo, iv pm.hi, slv g3 pm.loads.length c4, slv g7 pm.stands.length c8, slv g11 pm.spells.length c12, iv pm.geese] Tryz.isAgg28 Tryz.sizeOf28 rfl rfl rfl rfl ?_)))))
       refine pu (iv (15 + (n0 % 130))) (by kernel_rfl) (pu (iv lst) (by kernel_rfl) (seq_c (s_callv hI 51 [.agg #[iv pm.lo, iv pm.hi, slv g3 pm.loads.length c4, slv g7 pm.stands.length c8, slv g11 pm.spells.length c12, iv pm.geese], iv (15 + (n0 % 130)), iv lst] (.tuple #[iv ((openC pm (15 + (n0 % 130)) (n1 % 24)).1), iv ((openC pm (15 + (n0 % 130)) (n1 % 24)).2)]) (by kernel_rfl) (by rw [← open_last (h := 15 + (n0 % 130)) hv hu hdb (by omega) hl1 hDl]; exact Open_c _ pm (g3.map fun b => ⟨b, 0, none⟩) pm.loads.length c4 (g7.map fun b => ⟨b, 0, none⟩) pm.stands.length c8 (g11.map fun b => ⟨b, 0, none⟩) pm.spells.length c12 ⟨(hI.rowCells 7 rfl r6), rfl, (hI.rowCells 8 rfl r10), rfl, (hI.rowCells 9 rfl r14), rfl, r6.big_6, r10.big_6, r14.big_6⟩ (15 + (n0 % 130)) lst hn19) ?_)))
       intro w hI
       refine pu (.tuple #[iv ((openC pm (15 + (n0 % 130)) (n1 % 24)).1), iv ((openC pm (15 + (n0 % 130)) (n1 % 24)).2)]) (by kernel_rfl) (pu (iv ((openC pm (15 + (n0 % 130)) (n1 % 24)).1)) (by kernel_rfl) (pu (iv ((openC pm (15 + (n0 % 130)) (n1 % 24)).2)) (by kernel_rfl) (pu (iv ((openC pm (15 + (n0 % 130)) (n1 % 24)).1)) (by kernel_rfl) (pu (iv ((openC pm (15 + (n0 % 130)) (n1 % 24)).2)) (by kernel_rfl) (seq_nil (wp_seq (rgn (by kernel_rfl) (pu (iv ((openC pm (15 + (n0 % 130)) (n1 % 24)).1)) (by kernel_rfl) (pu (iv ((openC pm (15 + (n0 % 130)) (n1 % 24)).1)) (by kernel_rfl) ?_)))))))))
       refine seq_c (s_neqS6 rfl rfl ?_)
       refine pu (.bool false) (by kernel_rfl) (puo (iv ((openC pm (15 + (n0 % 130)) (n1 % 24)).2)) ⟨(by kernel_rfl), (by kernel_rfl)⟩ (puo (iv ((openC pm (15 + (n0 % 130)) (n1 % 24)).2)) ⟨(by kernel_rfl), (by kernel_rfl)⟩ (seq_on (by kernel_rfl) (s_neqS6 rfl rfl ?_))))
       refine pu (.bool false) (by kernel_rfl) (seq_nil (wp_condF rfl (wp_skip ?_)))
       exact ⟨rfl, ⟨rfl, rfl, rfl, trivial⟩, hI.pickL [0, 1, 2, 3, 4, 5, 6, 7, 8, 9, 10, 11, 12] (by decide) rfl⟩
      ·intro h18
       refine seq_nil (wp_condF rfl (wp_skip ?_))
       exact ⟨rfl, ⟨rfl, rfl, rfl, trivial⟩, hI.pickL [0, 1, 2, 3, 4, 5, 6, 7, 8, 9, 10, 11, 12] (by decide) rfl⟩
     ·rintro ρ w ⟨hag, hI⟩
      obtain ⟨ρ, rfl⟩ := hag.form; clear hag
      refine wp_seq (rgn (by kernel_rfl) (pu (.pointer (some ⟨b2, 2, none⟩)) (by kernel_rfl) (seq_c (s_load1 hI 11 (iv n2) Tryz.isAgg3 rfl rfl rfl ?_))))
      refine seq_c (s_callv hI 58 [iv n2, iv 30] (iv (n2 % 30)) (by kernel_rfl) (ModC n2 30  (by omega) _) ?_)
      intro w hI
      refine seq_c (s_add rfl rfl (by omega) ?_)
      refine pu (iv (1 + (n2 % 30))) (by kernel_rfl) (seq_nil (wp_seq (rgn (by kernel_rfl) (seq_c (s_loadK hI 6 6 [iv pm.lo, iv pm.hi, slv g3 pm.loads.length c4, slv g7 pm.stands.length c8, slv g11 pm.spells.length c12, iv pm.geese] Tryz.isAgg28 Tryz.sizeOf28 rfl rfl rfl rfl ?_)))))
      refine pu (iv (1 + (n2 % 30))) (by kernel_rfl) (pu (iv (n1 % 24)) (by kernel_rfl) (seq_c (s_callNewF hI 55 [.agg #[iv pm.lo, iv pm.hi, slv g3 pm.loads.length c4, slv g7 pm.stands.length c8, slv g11 pm.spells.length c12, iv pm.geese], iv (1 + (n2 % 30)), iv (n1 % 24)] (fun v1 => .tuple #[v1, iv (withoutF pm (1 + (n2 % 30))).2]) (by kernel_rfl) (Does.mono (Moved_c _ pm (g3.map fun b => ⟨b, 0, none⟩) pm.loads.length c4 (g7.map fun b => ⟨b, 0, none⟩) pm.stands.length c8 (g11.map fun b => ⟨b, 0, none⟩) pm.spells.length c12 ⟨(hI.rowCells 7 rfl r6), rfl, (hI.rowCells 8 rfl r10), rfl, (hI.rowCells 9 rfl r14), rfl, r6.big_6, r10.big_6, r14.big_6⟩ (1 + (n2 % 30)) (n1 % 24) hn19) (fun v w' ⟨v1, e1, e2⟩ => ⟨v1, by rw [e1, moved_code hday], e2⟩)) ?_)))
      intro g72 c73 cl74 w hI r75
      have r75 : Row 1 g72 ((movedC pm (1 + (n2 % 30)) (n1 % 24)).1.length) c73 cl74 (flat eInt ((movedC pm (1 + (n2 % 30)) (n1 % 24)).1)) := r75
      refine pu (.tuple #[slv g72 ((movedC pm (1 + (n2 % 30)) (n1 % 24)).1.length) c73, iv ((withoutF pm (1 + (n2 % 30))).2)]) (by kernel_rfl) (pu (slv g72 ((movedC pm (1 + (n2 % 30)) (n1 % 24)).1.length) c73) (by kernel_rfl) (pu (iv ((withoutF pm (1 + (n2 % 30))).2)) (by kernel_rfl) (pu (slv g72 ((movedC pm (1 + (n2 % 30)) (n1 % 24)).1.length) c73) (by kernel_rfl) (pu (iv ((withoutF pm (1 + (n2 % 30))).2)) (by kernel_rfl) (seq_nil (wp_seq (rgn (by kernel_rfl) (seq_c (s_loadK hI 7 6 [iv pm.lo, iv pm.hi, slv g3 pm.loads.length c4, slv g7 pm.stands.length c8, slv g11 pm.spells.length c12, iv pm.geese] Tryz.isAgg28 Tryz.sizeOf28 rfl rfl rfl rfl ?_)))))))))
      refine pu (iv (1 + (n2 % 30))) (by kernel_rfl) (seq_c (s_callPlotT hI (q := (withoutF pm (1 + (n2 % 30))).1) 16 [.agg #[iv pm.lo, iv pm.hi, slv g3 pm.loads.length c4, slv g7 pm.stands.length c8, slv g11 pm.spells.length c12, iv pm.geese], iv (1 + (n2 % 30))] (by kernel_rfl) (Without_c _ pm (g3.map fun b => ⟨b, 0, none⟩) pm.loads.length c4 (g7.map fun b => ⟨b, 0, none⟩) pm.stands.length c8 (g11.map fun b => ⟨b, 0, none⟩) pm.spells.length c12 ⟨(hI.rowCells 8 rfl r6), rfl, (hI.rowCells 9 rfl r10), rfl, (hI.rowCells 10 rfl r14), rfl, r6.big_6, r10.big_6, r14.big_6⟩ (1 + (n2 % 30))) ?_))
      intro g76 c77 cl78 g80 c81 cl82 g84 c85 cl86 w hI r79 r83 r87
      refine pu (.tuple #[.agg #[iv (((withoutF pm (1 + (n2 % 30))).1).lo), iv (((withoutF pm (1 + (n2 % 30))).1).hi), slv g76 (((withoutF pm (1 + (n2 % 30))).1).loads.length) c77, slv g80 (((withoutF pm (1 + (n2 % 30))).1).stands.length) c81, slv g84 (((withoutF pm (1 + (n2 % 30))).1).spells.length) c85, iv (((withoutF pm (1 + (n2 % 30))).1).geese)], iv ((withoutF pm (1 + (n2 % 30))).2)]) (by kernel_rfl) (pu (.agg #[iv (((withoutF pm (1 + (n2 % 30))).1).lo), iv (((withoutF pm (1 + (n2 % 30))).1).hi), slv g76 (((withoutF pm (1 + (n2 % 30))).1).loads.length) c77, slv g80 (((withoutF pm (1 + (n2 % 30))).1).stands.length) c81, slv g84 (((withoutF pm (1 + (n2 % 30))).1).spells.length) c85, iv (((withoutF pm (1 + (n2 % 30))).1).geese)]) (by kernel_rfl) (pu (iv ((withoutF pm (1 + (n2 % 30))).2)) (by kernel_rfl) (seq_c (s_allocI hI [iv 0, iv 0, .slice none 0 0, .slice none 0 0, .slice none 0 0, iv 0] Tryz.zeroValue28 rfl ?_))))
      intro b88 w hI
      refine seq_c (s_store hI 0 6 [iv (((withoutF pm (1 + (n2 % 30))).1).lo), iv (((withoutF pm (1 + (n2 % 30))).1).hi), slv g76 (((withoutF pm (1 + (n2 % 30))).1).loads.length) c77, slv g80 (((withoutF pm (1 + (n2 % 30))).1).stands.length) c81, slv g84 (((withoutF pm (1 + (n2 % 30))).1).spells.length) c85, iv (((withoutF pm (1 + (n2 % 30))).1).geese)] Tryz.sizeOf28 rfl rfl rfl rfl rfl (Nat.le_of_ble_eq_true rfl) ?_)
      intro w hI
      refine pu (iv ((withoutF pm (1 + (n2 % 30))).2)) (by kernel_rfl) (seq_nil (wp_seq (wp_seq (rgn (by kernel_rfl) (pu (iv ((withoutF pm (1 + (n2 % 30))).2)) (by kernel_rfl) (seq_c (s_neq rfl rfl ?_ ?_)))))))
      ·intro h19
       refine seq_nil (wp_condT rfl (wp_seq (rgn (by kernel_rfl) (pu (iv ((withoutF pm (1 + (n2 % 30))).2)) (by kernel_rfl) (seq_c (s_eql rfl rfl ?_ ?_))))))
       ·intro h20
        refine pu (.bool true) (by kernel_rfl) (puo (iv ((withoutF pm (1 + (n2 % 30))).2)) ⟨(by kernel_rfl), (by kernel_rfl)⟩ (puo (iv ((withoutF pm (1 + (n2 % 30))).2)) ⟨(by kernel_rfl), (by kernel_rfl)⟩ (seq_on (by kernel_rfl) (s_eqlS6 rfl rfl ?_))))
        refine pu (.bool true) (by kernel_rfl) (pu (.bool true) (by kernel_rfl) (seq_nil (wp_ret ?_)))
        exact ⟨.bool true, Ret.r1 rfl rfl, ⟨rfl, hI.below⟩⟩
       ·intro h21
        exact absurd h21 (not_not_intro (without_3 hv h19))
      ·intro h22
       refine seq_nil (wp_condF rfl (wp_skip (wp_seq (wp_seq (rgn (by kernel_rfl) (pu (iv 0) (by kernel_rfl) (seq_nil (wp_block ?_))))))))
       refine wp_loop (fun m ρ w => ∃ (k : Nat), Agree ρ [(6, .pointer (some ⟨b19, 0, none⟩)), (9, iv (n1 % 24)), (25, slv g72 ((movedC pm (1 + (n2 % 30)) (n1 % 24)).1.length) c73), (27, .pointer (some ⟨b88, 0, none⟩)), (28, iv ((withoutF pm (1 + (n2 % 30))).2)), (29, iv (k : Int))] ∧ Inv none w0 w [(some b88, blk [iv (((withoutF pm (1 + (n2 % 30))).1).lo), iv (((withoutF pm (1 + (n2 % 30))).1).hi), slv g76 (((withoutF pm (1 + (n2 % 30))).1).loads.length) c77, slv g80 (((withoutF pm (1 + (n2 % 30))).1).stands.length) c81, slv g84 (((withoutF pm (1 + (n2 % 30))).1).spells.length) c85, iv (((withoutF pm (1 + (n2 % 30))).1).geese)] 28), (g76, blk cl78 30), (g80, blk cl82 31), (g84, blk cl86 33), (g72, blk cl74 3), (g64, blk cl66 3), (gg2, blk ccl2 33), (gg1, blk ccl1 31), (gg0, blk ccl0 30), (some b21, blk [iv pm.lo, iv pm.hi, slv gg0 m1 cc0, slv gg1 m2 cc1, slv gg2 m3 cc2, iv pm.geese] 28), (some b20, blk [iv (q0 % 200), slv g15 tk.length c16] 57), (some b19, blk [iv pm.lo, iv pm.hi, slv g3 pm.loads.length c4, slv g7 pm.stands.length c8, slv g11 pm.spells.length c12, iv pm.geese] 28), (g3, blk cl5 30), (g7, blk cl9 31), (g11, blk cl13 33), (g15, blk cl17 3), (some b2, blk [iv n0, iv n1, iv n2] 84), (some b1, blk [iv q0, iv q1, .slice rA1 rn1 rc1, .slice rA2 rn2 rc2, .slice rA3 rn3 rc3] 78)] ∧ (k ≤ pm.loads.length) ∧ m = pm.loads.length - k) (m := pm.loads.length - 0) ⟨0, ⟨rfl, rfl, rfl, rfl, rfl, rfl, trivial⟩, hI.pickL [0, 1, 2, 3, 4, 5, 6, 7, 8, 9, 10, 11, 12, 13, 14, 15, 16, 17] (by decide) rfl, (by omega), rfl⟩ ?_
       rintro m ρ w ⟨k, hag, hI, hk, hm⟩
       obtain ⟨ρ, rfl⟩ := hag.form; clear hag
       refine wp_seq (wp_seq (rgn (by kernel_rfl) (pu (iv (k : Int)) (by kernel_rfl) (pu (.pointer (some ⟨b19, 2, none⟩)) (by kernel_rfl) (seq_c (s_load1 hI 11 (slv g3 pm.loads.length c4) Tryz.isAgg24 rfl rfl rfl ?_))))))
       refine pu (iv ((pm.loads.length : Nat) : Int)) (by kernel_rfl) (seq_c (s_lss rfl rfl ?_ ?_))
       ·intro h23
        refine seq_nil (wp_condT rfl (wp_skip (wp_seq (wp_block ?_))))
        refine wp_seq ?_
        obtain ⟨x89, hx90⟩ := get_lt (l := pm.loads) (i := k) (by omega)
        obtain ⟨b91, rfl, he92⟩ := r6.at_ eLd_len (by decide) hx90
        refine wp_drawn2 hI [0, 1, 2, 3, 4, 5, 6, 7, 8, 9, 10, 11, 12, 13, 14, 15, 16, 17] (by decide) rfl (by kernel_rfl) (by kernel_rfl) ?_
        intro hsub
        refine al_light 0 (.agg #[iv pm.lo, iv pm.hi, slv (some b91) pm.loads.length c4, slv g7 pm.stands.length c8, slv g11 pm.spells.length c12, iv pm.geese]) hsub rfl (by kernel_rfl) (fun w hI => s_loadK hI 11 6 [iv pm.lo, iv pm.hi, slv (some b91) pm.loads.length c4, slv g7 pm.stands.length c8, slv g11 pm.spells.length c12, iv pm.geese] Tryz.isAgg28 Tryz.sizeOf28 rfl rfl rfl rfl ⟨rfl, Below.refl _ _⟩) ?_
        refine alp 1 (.pointer (some ⟨b19, 2, none⟩)) hsub rfl (by kernel_rfl) (fun _ => (by kernel_rfl)) ?_
        refine al_light 2 (slv (some b91) pm.loads.length c4) hsub rfl (by kernel_rfl) (fun w hI => s_load1 hI 11 (slv (some b91) pm.loads.length c4) Tryz.isAgg24 rfl rfl rfl ⟨rfl, Below.refl _ _⟩) ?_
        refine alp 3 (iv (k : Int)) hsub rfl (by kernel_rfl) (fun _ => (by kernel_rfl)) ?_
        refine al_light 4 (.pointer (some ⟨b91, k * 6, none⟩)) hsub rfl (by kernel_rfl) (fun w hI => s_indexR k Tryz.underlying24 Tryz.sizeOf30 rfl rfl rfl (by omega) ⟨rfl, Below.refl _ _⟩) ?_
        refine alp 5 (.pointer (some ⟨b91, k * 6 + 1, none⟩)) hsub rfl (by kernel_rfl) (fun _ => (by kernel_rfl)) ?_
        refine al_light 6 (iv x89.hr) hsub rfl (by kernel_rfl) (fun w hI => s_loadR1 hI 12 (iv x89.hr) Tryz.isAgg3 rfl rfl (he92 1 _ rfl) ⟨rfl, Below.refl _ _⟩) ?_
        refine alp 7 (iv (n1 % 24)) hsub rfl (by kernel_rfl) (fun _ => (by kernel_rfl)) ?_
        refine al_light 8 (.tuple #[.agg #[iv ((stoodC pm x89.hr (n1 % 24)).1.lo), iv ((stoodC pm x89.hr (n1 % 24)).1.hi)], iv ((stoodC pm x89.hr (n1 % 24)).2)]) hsub rfl (by kernel_rfl) (fun w hI => s_call 36 [.agg #[iv pm.lo, iv pm.hi, slv (some b91) pm.loads.length c4, slv g7 pm.stands.length c8, slv g11 pm.spells.length c12, iv pm.geese], iv x89.hr, iv (n1 % 24)] (by kernel_rfl) (Stood_c _ pm ((some b91).map fun b => ⟨b, 0, none⟩) pm.loads.length c4 (g7.map fun b => ⟨b, 0, none⟩) pm.stands.length c8 (g11.map fun b => ⟨b, 0, none⟩) pm.spells.length c12 ⟨(hI.rowCells 12 rfl r6), rfl, (hI.rowCells 13 rfl r10), rfl, (hI.rowCells 14 rfl r14), rfl, r6.big_6, r10.big_6, r14.big_6⟩ x89.hr (n1 % 24) hn19) (fun v' w' h => h)) ?_
        refine alp 9 (.tuple #[.agg #[iv ((stoodC pm x89.hr (n1 % 24)).1.lo), iv ((stoodC pm x89.hr (n1 % 24)).1.hi)], iv ((stoodC pm x89.hr (n1 % 24)).2)]) hsub rfl (by kernel_rfl) (fun _ => (by kernel_rfl)) ?_
        refine alp 10 (.agg #[iv ((stoodC pm x89.hr (n1 % 24)).1.lo), iv ((stoodC pm x89.hr (n1 % 24)).1.hi)]) hsub rfl (by kernel_rfl) (fun _ => (by kernel_rfl)) ?_
        refine alp 11 (iv ((stoodC pm x89.hr (n1 % 24)).2)) hsub rfl (by kernel_rfl) (fun _ => (by kernel_rfl)) ?_
        refine any_heavy [12] (by kernel_rfl) rfl (each1 ?_)
        intro w hI
        refine ol_c rfl (s_allocI hI [iv 0, iv 0] Tryz.zeroValue23 rfl ?_)
        intro b93 w hI
        refine ⟨_, hI, subk (fun _ h => h.pickL [1, 2, 3, 4, 5, 6, 7, 8, 9, 10, 11, 12, 13, 14, 15, 16, 17, 18] (by decide) rfl) ?_⟩
        intro hsub
        refine any_heavy [13] (by kernel_rfl) rfl (each1 ?_)
        intro w hI
        refine ol_c rfl (s_store hI 0 2 [iv ((stoodC pm x89.hr (n1 % 24)).1.lo), iv ((stoodC pm x89.hr (n1 % 24)).1.hi)] Tryz.sizeOf23 rfl rfl rfl rfl rfl (Nat.le_of_ble_eq_true rfl) ?_)
        intro w hI
        refine ⟨_, hI, subk (fun _ h => h.pickL [1, 2, 3, 4, 5, 6, 7, 8, 9, 10, 11, 12, 13, 14, 15, 16, 17, 18] (by decide) rfl) ?_⟩
        intro hsub
        refine alp 14 (iv ((stoodC pm x89.hr (n1 % 24)).2)) hsub rfl (by kernel_rfl) (fun _ => (by kernel_rfl)) ?_
        refine any_end (by kernel_rfl) (fun w hI => ?_)
        refine wp_seq (wp_drawn2 hI [0, 1, 2, 3, 4, 5, 6, 7, 8, 9, 10, 11, 12, 13, 14, 15, 16, 17, 18] (by decide) rfl (by kernel_rfl) (by kernel_rfl) ?_)
        intro hsub
        refine al_light 0 (.agg #[iv (((withoutF pm (1 + (n2 % 30))).1).lo), iv (((withoutF pm (1 + (n2 % 30))).1).hi), slv g76 (((withoutF pm (1 + (n2 % 30))).1).loads.length) c77, slv g80 (((withoutF pm (1 + (n2 % 30))).1).stands.length) c81, slv g84 (((withoutF pm (1 + (n2 % 30))).1).spells.length) c85, iv (((withoutF pm (1 + (n2 % 30))).1).geese)]) hsub rfl (by kernel_rfl) (fun w hI => s_loadK hI 1 6 [iv (((withoutF pm (1 + (n2 % 30))).1).lo), iv (((withoutF pm (1 + (n2 % 30))).1).hi), slv g76 (((withoutF pm (1 + (n2 % 30))).1).loads.length) c77, slv g80 (((withoutF pm (1 + (n2 % 30))).1).stands.length) c81, slv g84 (((withoutF pm (1 + (n2 % 30))).1).spells.length) c85, iv (((withoutF pm (1 + (n2 % 30))).1).geese)] Tryz.isAgg28 Tryz.sizeOf28 rfl rfl rfl rfl ⟨rfl, Below.refl _ _⟩) ?_
        refine alp 1 (.pointer (some ⟨b19, 2, none⟩)) hsub rfl (by kernel_rfl) (fun _ => (by kernel_rfl)) ?_
        refine al_light 2 (slv (some b91) pm.loads.length c4) hsub rfl (by kernel_rfl) (fun w hI => s_load1 hI 12 (slv (some b91) pm.loads.length c4) Tryz.isAgg24 rfl rfl rfl ⟨rfl, Below.refl _ _⟩) ?_
        refine alp 3 (iv (k : Int)) hsub rfl (by kernel_rfl) (fun _ => (by kernel_rfl)) ?_
        refine al_light 4 (.pointer (some ⟨b91, k * 6, none⟩)) hsub rfl (by kernel_rfl) (fun w hI => s_indexR k Tryz.underlying24 Tryz.sizeOf30 rfl rfl rfl (by omega) ⟨rfl, Below.refl _ _⟩) ?_
        refine alp 5 (.pointer (some ⟨b91, k * 6 + 1, none⟩)) hsub rfl (by kernel_rfl) (fun _ => (by kernel_rfl)) ?_
        refine al_light 6 (iv x89.hr) hsub rfl (by kernel_rfl) (fun w hI => s_loadR1 hI 13 (iv x89.hr) Tryz.isAgg3 rfl rfl (he92 1 _ rfl) ⟨rfl, Below.refl _ _⟩) ?_
        refine alp 7 (iv (n1 % 24)) hsub rfl (by kernel_rfl) (fun _ => (by kernel_rfl)) ?_
        refine al_light 8 (.tuple #[.agg #[iv ((stoodC ((withoutF pm (1 + (n2 % 30))).1) x89.hr (n1 % 24)).1.lo), iv ((stoodC ((withoutF pm (1 + (n2 % 30))).1) x89.hr (n1 % 24)).1.hi)], iv ((stoodC ((withoutF pm (1 + (n2 % 30))).1) x89.hr (n1 % 24)).2)]) hsub rfl (by kernel_rfl) (fun w hI => s_call 36 [.agg #[iv (((withoutF pm (1 + (n2 % 30))).1).lo), iv (((withoutF pm (1 + (n2 % 30))).1).hi), slv g76 (((withoutF pm (1 + (n2 % 30))).1).loads.length) c77, slv g80 (((withoutF pm (1 + (n2 % 30))).1).stands.length) c81, slv g84 (((withoutF pm (1 + (n2 % 30))).1).spells.length) c85, iv (((withoutF pm (1 + (n2 % 30))).1).geese)], iv x89.hr, iv (n1 % 24)] (by kernel_rfl) (Stood_c _ (withoutF pm (1 + (n2 % 30))).1 (g76.map fun b => ⟨b, 0, none⟩) (((withoutF pm (1 + (n2 % 30))).1).loads.length) c77 (g80.map fun b => ⟨b, 0, none⟩) (((withoutF pm (1 + (n2 % 30))).1).stands.length) c81 (g84.map fun b => ⟨b, 0, none⟩) (((withoutF pm (1 + (n2 % 30))).1).spells.length) c85 ⟨(hI.rowCells 2 rfl r79), rfl, (hI.rowCells 3 rfl r83), rfl, (hI.rowCells 4 rfl r87), rfl, r79.big_6, r83.big_6, r87.big_6⟩ x89.hr (n1 % 24) hw19) (fun v' w' h => h)) ?_
        refine alp 9 (.tuple #[.agg #[iv ((stoodC ((withoutF pm (1 + (n2 % 30))).1) x89.hr (n1 % 24)).1.lo), iv ((stoodC ((withoutF pm (1 + (n2 % 30))).1) x89.hr (n1 % 24)).1.hi)], iv ((stoodC ((withoutF pm (1 + (n2 % 30))).1) x89.hr (n1 % 24)).2)]) hsub rfl (by kernel_rfl) (fun _ => (by kernel_rfl)) ?_
        refine alp 10 (.agg #[iv ((stoodC ((withoutF pm (1 + (n2 % 30))).1) x89.hr (n1 % 24)).1.lo), iv ((stoodC ((withoutF pm (1 + (n2 % 30))).1) x89.hr (n1 % 24)).1.hi)]) hsub rfl (by kernel_rfl) (fun _ => (by kernel_rfl)) ?_
        refine alp 11 (iv ((stoodC ((withoutF pm (1 + (n2 % 30))).1) x89.hr (n1 % 24)).2)) hsub rfl (by kernel_rfl) (fun _ => (by kernel_rfl)) ?_
        refine any_heavy [12] (by kernel_rfl) rfl (each1 ?_)
        intro w hI
        refine ol_c rfl (s_allocI hI [iv 0, iv 0] Tryz.zeroValue23 rfl ?_)
        intro b94 w hI
        refine ⟨_, hI, subk (fun _ h => h.pickL [1, 2, 3, 4, 5, 6, 7, 8, 9, 10, 11, 12, 13, 14, 15, 16, 17, 18, 19] (by decide) rfl) ?_⟩
        intro hsub
        refine any_heavy [13] (by kernel_rfl) rfl (each1 ?_)
        intro w hI
        refine ol_c rfl (s_store hI 0 2 [iv ((stoodC ((withoutF pm (1 + (n2 % 30))).1) x89.hr (n1 % 24)).1.lo), iv ((stoodC ((withoutF pm (1 + (n2 % 30))).1) x89.hr (n1 % 24)).1.hi)] Tryz.sizeOf23 rfl rfl rfl rfl rfl (Nat.le_of_ble_eq_true rfl) ?_)
        intro w hI
        refine ⟨_, hI, subk (fun _ h => h.pickL [1, 2, 3, 4, 5, 6, 7, 8, 9, 10, 11, 12, 13, 14, 15, 16, 17, 18, 19] (by decide) rfl) ?_⟩
        intro hsub
        refine alp 14 (iv ((stoodC ((withoutF pm (1 + (n2 % 30))).1) x89.hr (n1 % 24)).2)) hsub rfl (by kernel_rfl) (fun _ => (by kernel_rfl)) ?_
        refine any_end (by kernel_rfl) (fun w hI => ?_)
        refine wp_seq ?_
        have hmv := moved_at hv hdb h22 (mem_of_get hx90)
        have hmf : decide (x89.hr ∈ (movedC pm (1 + (n2 % 30)) (n1 % 24)).1) = false → (decide ((stoodC pm x89.hr (n1 % 24)).1.lo = (stoodC (withoutF pm (1 + (n2 % 30))).1 x89.hr (n1 % 24)).1.lo) && decide ((stoodC pm x89.hr (n1 % 24)).1.hi = (stoodC (withoutF pm (1 + (n2 % 30))).1 x89.hr (n1 % 24)).1.hi)) = true ∧ (stoodC pm x89.hr (n1 % 24)).2 = (stoodC (withoutF pm (1 + (n2 % 30))).1 x89.hr (n1 % 24)).2 := fun h => by have h9 := hmv.symm.trans h; simpa using h9
        have hmt : decide (x89.hr ∈ (movedC pm (1 + (n2 % 30)) (n1 % 24)).1) = true → (decide ((stoodC pm x89.hr (n1 % 24)).1.lo = (stoodC (withoutF pm (1 + (n2 % 30))).1 x89.hr (n1 % 24)).1.lo) && decide ((stoodC pm x89.hr (n1 % 24)).1.hi = (stoodC (withoutF pm (1 + (n2 % 30))).1 x89.hr (n1 % 24)).1.hi)) = true → ¬ (stoodC pm x89.hr (n1 % 24)).2 = (stoodC (withoutF pm (1 + (n2 % 30))).1 x89.hr (n1 % 24)).2 := fun h hB hC => by rw [h, hB, decide_eq_true hC] at hmv; cases hmv
        refine wp_drawn2 hI [0, 1, 2, 3, 4, 5, 6, 7, 8, 9, 10, 11, 12, 13, 14, 15, 16, 17, 18, 19] (by decide) rfl (by kernel_rfl) (by kernel_rfl) ?_
        intro hsub
        refine alp 0 (slv g72 ((movedC pm (1 + (n2 % 30)) (n1 % 24)).1.length) c73) hsub rfl (by kernel_rfl) (fun _ => (by kernel_rfl)) ?_
        refine alp 1 (.pointer (some ⟨b19, 2, none⟩)) hsub rfl (by kernel_rfl) (fun _ => (by kernel_rfl)) ?_
        refine al_light 2 (slv (some b91) pm.loads.length c4) hsub rfl (by kernel_rfl) (fun w hI => s_load1 hI 13 (slv (some b91) pm.loads.length c4) Tryz.isAgg24 rfl rfl rfl ⟨rfl, Below.refl _ _⟩) ?_
        refine alp 3 (iv (k : Int)) hsub rfl (by kernel_rfl) (fun _ => (by kernel_rfl)) ?_
        refine al_light 4 (.pointer (some ⟨b91, k * 6, none⟩)) hsub rfl (by kernel_rfl) (fun w hI => s_indexR k Tryz.underlying24 Tryz.sizeOf30 rfl rfl rfl (by omega) ⟨rfl, Below.refl _ _⟩) ?_
        refine alp 5 (.pointer (some ⟨b91, k * 6 + 1, none⟩)) hsub rfl (by kernel_rfl) (fun _ => (by kernel_rfl)) ?_
        refine al_light 6 (iv x89.hr) hsub rfl (by kernel_rfl) (fun w hI => s_loadR1 hI 14 (iv x89.hr) Tryz.isAgg3 rfl rfl (he92 1 _ rfl) ⟨rfl, Below.refl _ _⟩) ?_
        rcases Bool.eq_false_or_eq_true (decide (x89.hr ∈ ((movedC pm (1 + (n2 % 30)) (n1 % 24)).1))) with h24 | h24
        ·refine al_light 7 (.bool true) hsub rfl (by kernel_rfl) (fun w hI => s_call 59 [slv g72 ((movedC pm (1 + (n2 % 30)) (n1 % 24)).1.length) c73, iv x89.hr] (by kernel_rfl) (Has_c _ ((movedC pm (1 + (n2 % 30)) (n1 % 24)).1) (g72.map fun b => ⟨b, 0, none⟩) ((movedC pm (1 + (n2 % 30)) (n1 % 24)).1.length) c73 x89.hr (r75.n_eq eInt_len (by decide)) r75.big_6 (hI.rowCells 6 rfl r75)) (fun v' w' h => ⟨h.1.trans (congrArg Value.bool h24), h.2⟩)) ?_
         refine al_light 8 (.agg #[iv ((stoodC pm x89.hr (n1 % 24)).1.lo), iv ((stoodC pm x89.hr (n1 % 24)).1.hi)]) hsub rfl (by kernel_rfl) (fun w hI => s_loadK hI 1 2 [iv ((stoodC pm x89.hr (n1 % 24)).1.lo), iv ((stoodC pm x89.hr (n1 % 24)).1.hi)] Tryz.isAgg23 Tryz.sizeOf23 rfl rfl rfl rfl ⟨rfl, Below.refl _ _⟩) ?_
         refine al_light 9 (.agg #[iv ((stoodC ((withoutF pm (1 + (n2 % 30))).1) x89.hr (n1 % 24)).1.lo), iv ((stoodC ((withoutF pm (1 + (n2 % 30))).1) x89.hr (n1 % 24)).1.hi)]) hsub rfl (by kernel_rfl) (fun w hI => s_loadK hI 0 2 [iv ((stoodC ((withoutF pm (1 + (n2 % 30))).1) x89.hr (n1 % 24)).1.lo), iv ((stoodC ((withoutF pm (1 + (n2 % 30))).1) x89.hr (n1 % 24)).1.hi)] Tryz.isAgg23 Tryz.sizeOf23 rfl rfl rfl rfl ⟨rfl, Below.refl _ _⟩) ?_
         by_cases h25 : (decide ((stoodC pm x89.hr (n1 % 24)).1.lo = (stoodC ((withoutF pm (1 + (n2 % 30))).1) x89.hr (n1 % 24)).1.lo) && decide ((stoodC pm x89.hr (n1 % 24)).1.hi = (stoodC ((withoutF pm (1 + (n2 % 30))).1) x89.hr (n1 % 24)).1.hi)) = true
         ·refine al_light 10 (.bool false) hsub rfl (by kernel_rfl) (fun w hI => s_neqA (b := decide ((stoodC pm x89.hr (n1 % 24)).1.lo = (stoodC ((withoutF pm (1 + (n2 % 30))).1) x89.hr (n1 % 24)).1.lo) && decide ((stoodC pm x89.hr (n1 % 24)).1.hi = (stoodC ((withoutF pm (1 + (n2 % 30))).1) x89.hr (n1 % 24)).1.hi)) rfl rfl (by kernel_rfl) (fun w => eq23 _ ((stoodC pm x89.hr (n1 % 24)).1.lo) ((stoodC pm x89.hr (n1 % 24)).1.hi) ((stoodC ((withoutF pm (1 + (n2 % 30))).1) x89.hr (n1 % 24)).1.lo) ((stoodC ((withoutF pm (1 + (n2 % 30))).1) x89.hr (n1 % 24)).1.hi) w) (fun h => absurd h25 h) (fun _ => ⟨rfl, Below.refl _ _⟩)) ?_
          refine alp 11 (.bool false) hsub rfl (by kernel_rfl) (fun _ => (by kernel_rfl)) ?_
          refine al_on 12 (iv ((stoodC pm x89.hr (n1 % 24)).2)) hsub rfl (by kernel_rfl) (by kernel_rfl) (fun w hI => s_pure (iv ((stoodC pm x89.hr (n1 % 24)).2)) (by kernel_rfl) ⟨rfl, Below.refl _ _⟩) ?_
          refine al_on 13 (iv ((stoodC ((withoutF pm (1 + (n2 % 30))).1) x89.hr (n1 % 24)).2)) hsub rfl (by kernel_rfl) (by kernel_rfl) (fun w hI => s_pure (iv ((stoodC ((withoutF pm (1 + (n2 % 30))).1) x89.hr (n1 % 24)).2)) (by kernel_rfl) ⟨rfl, Below.refl _ _⟩) ?_
          have h26 : ¬ ((stoodC pm x89.hr (n1 % 24)).2) = ((stoodC ((withoutF pm (1 + (n2 % 30))).1) x89.hr (n1 % 24)).2) := (hmt h24 h25)
          refine al_on 14 (.bool true) hsub rfl (by kernel_rfl) (by kernel_rfl) (fun w hI => s_neq rfl rfl (fun _ => ⟨rfl, Below.refl _ _⟩) (fun h => absurd h h26)) ?_
          refine alp 15 (.bool true) hsub rfl (by kernel_rfl) (fun _ => (by kernel_rfl)) ?_
          refine alp 16 (.bool false) hsub rfl (by kernel_rfl) (fun _ => (by kernel_rfl)) ?_
          refine any_end (by kernel_rfl) (fun w hI => ?_)
          refine wp_condF rfl (wp_skip (rgn (by kernel_rfl) (pu (iv (k : Int)) (by kernel_rfl) (seq_c (s_add rfl rfl (by omega) ?_)))))
          refine pu (iv ((k : Int) + 1)) (by kernel_rfl) (seq_nil ?_)
          exact ⟨rfl, _, (by omega), ⟨k + 1, ⟨rfl, rfl, rfl, rfl, rfl, rfl, trivial⟩, hI.pickL [2, 3, 4, 5, 6, 7, 8, 9, 10, 11, 12, 13, 14, 15, 16, 17, 18, 19] (by decide) rfl, (by omega), rfl⟩⟩
         ·refine al_light 10 (.bool true) hsub rfl (by kernel_rfl) (fun w hI => s_neqA (b := decide ((stoodC pm x89.hr (n1 % 24)).1.lo = (stoodC ((withoutF pm (1 + (n2 % 30))).1) x89.hr (n1 % 24)).1.lo) && decide ((stoodC pm x89.hr (n1 % 24)).1.hi = (stoodC ((withoutF pm (1 + (n2 % 30))).1) x89.hr (n1 % 24)).1.hi)) rfl rfl (by kernel_rfl) (fun w => eq23 _ ((stoodC pm x89.hr (n1 % 24)).1.lo) ((stoodC pm x89.hr (n1 % 24)).1.hi) ((stoodC ((withoutF pm (1 + (n2 % 30))).1) x89.hr (n1 % 24)).1.lo) ((stoodC ((withoutF pm (1 + (n2 % 30))).1) x89.hr (n1 % 24)).1.hi) w) (fun _ => ⟨rfl, Below.refl _ _⟩) (fun h => absurd h h25)) ?_
          refine alp 11 (.bool true) hsub rfl (by kernel_rfl) (fun _ => (by kernel_rfl)) ?_
          refine al_off 12 hsub rfl (by kernel_rfl) (by kernel_rfl) ?_
          refine al_off 13 hsub rfl (by kernel_rfl) (by kernel_rfl) ?_
          refine al_off 14 hsub rfl (by kernel_rfl) (by kernel_rfl) ?_
          refine alp 15 (.bool true) hsub rfl (by kernel_rfl) (fun _ => (by kernel_rfl)) ?_
          refine alp 16 (.bool false) hsub rfl (by kernel_rfl) (fun _ => (by kernel_rfl)) ?_
          refine any_end (by kernel_rfl) (fun w hI => ?_)
          refine wp_condF rfl (wp_skip (rgn (by kernel_rfl) (pu (iv (k : Int)) (by kernel_rfl) (seq_c (s_add rfl rfl (by omega) ?_)))))
          refine pu (iv ((k : Int) + 1)) (by kernel_rfl) (seq_nil ?_)
          exact ⟨rfl, _, (by omega), ⟨k + 1, ⟨rfl, rfl, rfl, rfl, rfl, rfl, trivial⟩, hI.pickL [2, 3, 4, 5, 6, 7, 8, 9, 10, 11, 12, 13, 14, 15, 16, 17, 18, 19] (by decide) rfl, (by omega), rfl⟩⟩
        ·refine al_light 7 (.bool false) hsub rfl (by kernel_rfl) (fun w hI => s_call 59 [slv g72 ((movedC pm (1 + (n2 % 30)) (n1 % 24)).1.length) c73, iv x89.hr] (by kernel_rfl) (Has_c _ ((movedC pm (1 + (n2 % 30)) (n1 % 24)).1) (g72.map fun b => ⟨b, 0, none⟩) ((movedC pm (1 + (n2 % 30)) (n1 % 24)).1.length) c73 x89.hr (r75.n_eq eInt_len (by decide)) r75.big_6 (hI.rowCells 6 rfl r75)) (fun v' w' h => ⟨h.1.trans (congrArg Value.bool h24), h.2⟩)) ?_
         refine al_light 8 (.agg #[iv ((stoodC pm x89.hr (n1 % 24)).1.lo), iv ((stoodC pm x89.hr (n1 % 24)).1.hi)]) hsub rfl (by kernel_rfl) (fun w hI => s_loadK hI 1 2 [iv ((stoodC pm x89.hr (n1 % 24)).1.lo), iv ((stoodC pm x89.hr (n1 % 24)).1.hi)] Tryz.isAgg23 Tryz.sizeOf23 rfl rfl rfl rfl ⟨rfl, Below.refl _ _⟩) ?_
         refine al_light 9 (.agg #[iv ((stoodC ((withoutF pm (1 + (n2 % 30))).1) x89.hr (n1 % 24)).1.lo), iv ((stoodC ((withoutF pm (1 + (n2 % 30))).1) x89.hr (n1 % 24)).1.hi)]) hsub rfl (by kernel_rfl) (fun w hI => s_loadK hI 0 2 [iv ((stoodC ((withoutF pm (1 + (n2 % 30))).1) x89.hr (n1 % 24)).1.lo), iv ((stoodC ((withoutF pm (1 + (n2 % 30))).1) x89.hr (n1 % 24)).1.hi)] Tryz.isAgg23 Tryz.sizeOf23 rfl rfl rfl rfl ⟨rfl, Below.refl _ _⟩) ?_
         have h27 : (decide ((stoodC pm x89.hr (n1 % 24)).1.lo = (stoodC ((withoutF pm (1 + (n2 % 30))).1) x89.hr (n1 % 24)).1.lo) && decide ((stoodC pm x89.hr (n1 % 24)).1.hi = (stoodC ((withoutF pm (1 + (n2 % 30))).1) x89.hr (n1 % 24)).1.hi)) = true := Classical.not_not.1 (not_not_intro (hmf h24).1)
         refine al_light 10 (.bool false) hsub rfl (by kernel_rfl) (fun w hI => s_neqA (b := decide ((stoodC pm x89.hr (n1 % 24)).1.lo = (stoodC ((withoutF pm (1 + (n2 % 30))).1) x89.hr (n1 % 24)).1.lo) && decide ((stoodC pm x89.hr (n1 % 24)).1.hi = (stoodC ((withoutF pm (1 + (n2 % 30))).1) x89.hr (n1 % 24)).1.hi)) rfl rfl (by kernel_rfl) (fun w => eq23 _ ((stoodC pm x89.hr (n1 % 24)).1.lo) ((stoodC pm x89.hr (n1 % 24)).1.hi) ((stoodC ((withoutF pm (1 + (n2 % 30))).1) x89.hr (n1 % 24)).1.lo) ((stoodC ((withoutF pm (1 + (n2 % 30))).1) x89.hr (n1 % 24)).1.hi) w) (fun h => absurd h27 h) (fun _ => ⟨rfl, Below.refl _ _⟩)) ?_
         refine alp 11 (.bool false) hsub rfl (by kernel_rfl) (fun _ => (by kernel_rfl)) ?_
         refine al_on 12 (iv ((stoodC pm x89.hr (n1 % 24)).2)) hsub rfl (by kernel_rfl) (by kernel_rfl) (fun w hI => s_pure (iv ((stoodC pm x89.hr (n1 % 24)).2)) (by kernel_rfl) ⟨rfl, Below.refl _ _⟩) ?_
         refine al_on 13 (iv ((stoodC ((withoutF pm (1 + (n2 % 30))).1) x89.hr (n1 % 24)).2)) hsub rfl (by kernel_rfl) (by kernel_rfl) (fun w hI => s_pure (iv ((stoodC ((withoutF pm (1 + (n2 % 30))).1) x89.hr (n1 % 24)).2)) (by kernel_rfl) ⟨rfl, Below.refl _ _⟩) ?_
         have h28 : ((stoodC pm x89.hr (n1 % 24)).2) = ((stoodC ((withoutF pm (1 + (n2 % 30))).1) x89.hr (n1 % 24)).2) := Classical.not_not.1 (not_not_intro (hmf h24).2)
         refine al_on 14 (.bool false) hsub rfl (by kernel_rfl) (by kernel_rfl) (fun w hI => s_neq rfl rfl (fun h => absurd h28 h) (fun _ => ⟨rfl, Below.refl _ _⟩)) ?_
         refine alp 15 (.bool false) hsub rfl (by kernel_rfl) (fun _ => (by kernel_rfl)) ?_
         refine alp 16 (.bool false) hsub rfl (by kernel_rfl) (fun _ => (by kernel_rfl)) ?_
         refine any_end (by kernel_rfl) (fun w hI => ?_)
         refine wp_condF rfl (wp_skip (rgn (by kernel_rfl) (pu (iv (k : Int)) (by kernel_rfl) (seq_c (s_add rfl rfl (by omega) ?_)))))
         refine pu (iv ((k : Int) + 1)) (by kernel_rfl) (seq_nil ?_)
         exact ⟨rfl, _, (by omega), ⟨k + 1, ⟨rfl, rfl, rfl, rfl, rfl, rfl, trivial⟩, hI.pickL [2, 3, 4, 5, 6, 7, 8, 9, 10, 11, 12, 13, 14, 15, 16, 17, 18, 19] (by decide) rfl, (by omega), rfl⟩⟩
       ·intro h29
        refine seq_nil (wp_condF rfl (wp_exit ?_))
        refine wp_seq (rgn (by kernel_rfl) (pu (iv ((withoutF pm (1 + (n2 % 30))).2)) (by kernel_rfl) (seq_c (s_eql rfl rfl ?_ ?_))))
        ·intro h30
         refine pu (.bool true) (by kernel_rfl) (seq_nil (wp_ret ?_))
         exact ⟨.bool true, Ret.r1 rfl rfl, ⟨rfl, hI.below⟩⟩
        ·intro h31
         exact absurd h31 (not_not_intro h22)

end Go.K
