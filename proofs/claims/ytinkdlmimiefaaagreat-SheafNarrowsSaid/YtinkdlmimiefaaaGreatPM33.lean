/- The plot that numbers make. -/
import Derived.Test.YtinkdlmimiefaaaGreatProg
import Derived.Test.YtinkdlmimiefaaaGreatPGG
namespace Go.K
open Go.Proofs Go.RowKit
set_option linter.unusedVariables false
set_option linter.unusedSimpArgs false
set_option maxRecDepth 100000
attribute [local irreducible] Seq Step CallV AnyE opX

def eA4 (x : A4) : List Value := [.int .i64 x.a, .int .i64 x.b, .int .i64 x.c, .int .i64 x.d]
theorem eA4_len (x : A4) : (eA4 x).length = 4 := rfl
def A4Ok (x : A4) : Prop := -9223372036854775808 ≤ x.c ∧ x.c ≤ 9223372036854775807
theorem ModC (x m : Int) (h : 0 < m ∧ m ≤ 1000000000) (w0 : World) : Does Tryz.prog 58 [.int .i64 x, .int .i64 m] w0 fun v w => v = .int .i64 (x % m) ∧ Below w0.heap.size w0 w := Mod_c w0 x m h
theorem max0 (a : Int) : (if a > 0 then a else 0) = max 0 a := by
  rw [Int.max_def]
  split <;> split <;> omega
theorem take_stop {α : Type} {l : List α} {k m : Nat} (h1 : k ≤ l.length) (h2 : k ≤ m) (h3 : l.length ≤ k ∨ m ≤ k) : l.take k = l.take m ∧ k = (l.take m).length := by
  rw [List.length_take]
  refine ⟨?_, by omega⟩
  rcases h3 with h3 | h3
  · rw [List.take_of_length_le h3, List.take_of_length_le (by omega)]
  · rw [show k = m by omega]
theorem take_len {α : Type} {l : List α} {k : Nat} {x : α} (hx : l[k]? = some x) : (l.take k).length = k := by
  have := lt_of_get hx
  rw [List.length_take]
  omega
theorem made1 {ls : List A4} {k : Nat} {r : A4} {l0 hv lv t : Int} (hx : ls[k]? = some r) (hh : hv = hEnd 20 (ls.take k)) (hl : lv = lEnd l0 (ls.take k)) (ht : t = mTook lv r) :
    mLoads 0 20 l0 (ls.take (k + 1)) = mLoads 0 20 l0 (ls.take k) ++ [(⟨1 + (k : Int), hv + r.a % 9, if t - r.c % 12 > 0 then t - r.c % 12 else 0, t + r.c.tdiv 12 % 12, r.d % 20, 0⟩, t)] := by
  rw [take_get hx, mLoads_snoc, mOne, take_len hx, ← hh, ← hl, ← ht, max0, toldF, Int.zero_add]
theorem made2 {ss : List A4} {j : Nat} {r : A4} {xs : List (Ld × Int)} {l0 sv : Int} (hx : ss[j]? = some r) (hs : sv = thereF xs (18 + r.a % 50) l0) :
    mStands xs l0 0 (ss.take j) ++ [⟨21 + (j : Int), 18 + r.a % 50, if sv - r.c % 12 > 0 then sv - r.c % 12 else 0, sv + r.c.tdiv 12 % 12, r.d % 20, 0⟩] = mStands xs l0 0 (ss.take (j + 1)) := by
  rw [take_get hx, mStands_snoc, sOne, take_len hx, ← hs, max0, toldF, Int.zero_add]
theorem made3 {ps : List A4} {j : Nat} {r : A4} (hx : ps[j]? = some r) :
    mSpells 0 (ps.take j) ++ [⟨41 + (j : Int), 1 + r.a % 2, 20 + r.b % 90, 20 + r.b % 90 + r.c % 12, r.d % 20, 0⟩] = mSpells 0 (ps.take (j + 1)) := by
  rw [take_get hx, mSpells_snoc, pOne, take_len hx, Int.zero_add]
theorem both_get {xs : List (Ld × Int)} {i : Nat} {x : Ld} {y : Int} (hx : (xs.map Prod.fst)[i]? = some x) (hy : (xs.map Prod.snd)[i]? = some y) : xs[i]? = some (x, y) := by
  rw [List.getElem?_map] at hx hy
  cases h : xs[i]? with
  | none => rw [h] at hx; cases hx
  | some z => rw [h] at hx hy; simp at hx hy; rw [← hx, ← hy]
theorem there_on {xs : List (Ld × Int)} {i : Nat} {x : Ld} {y g l : Int} (hx : (xs.map Prod.fst)[i]? = some x) (hy : (xs.map Prod.snd)[i]? = some y) (h : x.hr ≤ g) : thereF (xs.take (i + 1)) g l = thereF (xs.take i) g l - y := by
  rw [there_step (both_get hx hy), if_pos h]
theorem there_off {xs : List (Ld × Int)} {i : Nat} {x : Ld} {g l : Int} (hx : (xs.map Prod.fst)[i]? = some x) (h : ¬ x.hr ≤ g) : thereF (xs.take (i + 1)) g l = thereF (xs.take i) g l := by
  obtain ⟨y, hy⟩ := get_lt (l := xs) (i := i) (by have := lt_of_get hx; rw [List.length_map] at this; exact this)
  rw [List.getElem?_map, hy] at hx
  simp at hx
  rw [there_step hy, if_neg (by rw [hx]; exact h)]
theorem LOk.tk : ∀ {xs : List (Ld × Int)} {k h l : Int}, LOk k h l xs → ∀ t ∈ xs.map Prod.snd, 0 ≤ t ∧ t ≤ l
  | [], _, _, _, _, t, ht => by simp at ht
  | (y, u) :: xs, k, h, l, ⟨h1, h2, h3, h4, h5, h6⟩, t, ht => by
    rw [List.map_cons, List.mem_cons] at ht
    rcases ht with rfl | ht
    · exact h3
    · have := LOk.tk h6 t ht
      omega
/-- What Made returns: the plot, and how many were taken truly. -/
def GivesMade (q : Pl) (t : Int) (l : List Int) (w0 : World) (v : Value) (w : World) : Prop :=
  ∃ g1 c1 cl1 g2 c2 cl2 g3 c3 cl3 g4 c4 cl4, v = .tuple #[plv q g1 c1 g2 c2 g3 c3, .agg #[.int .i64 t, slv g4 l.length c4]] ∧ Inv none w0 w [(g1, blk cl1 30), (g2, blk cl2 31), (g3, blk cl3 33), (g4, blk cl4 3)]
    ∧ Row 6 g1 q.loads.length c1 cl1 (flat eLd q.loads) ∧ Row 6 g2 q.stands.length c2 cl2 (flat eLd q.stands) ∧ Row 6 g3 q.spells.length c3 cl3 (flat eSp q.spells) ∧ Row 1 g4 l.length c4 cl4 (flat eInt l)
theorem s_callMade {P : Program} {ρ : Env} {B : Option Nat} {w w0 : World} {L : List (Option Nat × Obj)} {R : Value → World → Prop} (hI : Inv B w0 w L) {o : Oper} (f : FuncId) (args : List Value) {q : Pl} {t : Int} {l : List Int} (h : (execOp (ev ρ) o).run P w = .ok (.enter f args.toArray) w)
    (hc : Does P f args w fun v w' => GivesMade q t l w v w') (kk : ∀ g1 c1 cl1 g2 c2 cl2 g3 c3 cl3 g4 c4 cl4 w', Inv B w0 w' ((g1, blk cl1 30) :: (g2, blk cl2 31) :: (g3, blk cl3 33) :: (g4, blk cl4 3) :: L) → Row 6 g1 q.loads.length c1 cl1 (flat eLd q.loads) → Row 6 g2 q.stands.length c2 cl2 (flat eLd q.stands) → Row 6 g3 q.spells.length c3 cl3 (flat eSp q.spells) → Row 1 g4 l.length c4 cl4 (flat eInt l) → R (.tuple #[plv q g1 c1 g2 c2 g3 c3, .agg #[.int .i64 t, slv g4 l.length c4]]) w') : Step P o ρ w R :=
  s_call f args h hc fun v w' ⟨g1, c1, cl1, g2, c2, cl2, g3, c3, cl3, g4, c4, cl4, hv, hN, r1, r2, r3, r4⟩ => by
    subst hv
    exact kk g1 c1 cl1 g2 c2 cl2 g3 c3 cl3 g4 c4 cl4 w' (hI.join hN) r1 r2 r3 r4

set_option maxHeartbeats 3200000 in
theorem Made_c (w0 : World) (q0 q1 : Int) (hq0 : -9223372036854775808 ≤ q0 ∧ q0 ≤ 9223372036854775807) (rA1 : Option Addr) (rn1 rc1 : Nat) (rA2 : Option Addr) (rn2 rc2 : Nat) (rA3 : Option Addr) (rn3 rc3 : Nat) (ls ss ps : List A4) (hC1 : Cells w0 rA1 (flat eA4 ls)) (hn1 : rn1 = ls.length) (hx1_ : rn1 ≤ 9223372036854775807) (hC2 : Cells w0 rA2 (flat eA4 ss)) (hn2 : rn2 = ss.length) (hx2_ : rn2 ≤ 9223372036854775807) (hC3 : Cells w0 rA3 (flat eA4 ps)) (hn3 : rn3 = ps.length) (hx3_ : rn3 ≤ 9223372036854775807) (hok_ls : ∀ r ∈ ls, A4Ok r) (hok_ss : ∀ r ∈ ss, A4Ok r) : Does Tryz.prog 57 [.agg #[.int .i64 q0, .int .i64 q1, .slice rA1 rn1 rc1, .slice rA2 rn2 rc2, .slice rA3 rn3 rc3], .bool true] w0 fun v w => GivesMade (madeF q0 q1 ls ss ps) (q0 % 200) ((mLoads 0 20 (q0 % 200) (ls.take 6)).map Prod.snd) w0 v w := by
 obtain ⟨xs, hxs⟩ : ∃ z, z = mLoads 0 20 (q0 % 200) (ls.take 6) := ⟨_, rfl⟩
 have hlok := made_lok q0 ls
 rw [← hxs] at hlok
 have htk := hlok.tk
 refine calls_of (n := 231) Tryz.func57 rfl Tryz.ntmps57 rfl ?_
 have hI := Inv.start w0
 refine wp_seq (rgn (by kernel_rfl) (seq_c (s_boxI hI [iv q0, iv q1, .slice rA1 rn1 rc1, .slice rA2 rn2 rc2, .slice rA3 rn3 rc3] rfl ?_)))
 intro b1 w hI
 refine seq_c (s_allocI hI [iv 0, iv 0, .slice none 0 0, .slice none 0 0, .slice none 0 0, iv 0] Tryz.zeroValue28 rfl ?_)
 intro b2 w hI
 refine seq_c (s_allocI hI [iv 0, .slice none 0 0] Tryz.zeroValue57 rfl ?_)
 intro b3 w hI
 refine seq_nil (wp_seq (rgn (by kernel_rfl) (pu (.pointer (some ⟨b1, 1, none⟩)) (by kernel_rfl) (seq_c (s_load1 hI 2 (iv q1) Tryz.isAgg3 rfl rfl rfl ?_)))))
 refine seq_c (s_callv hI 58 [iv q1, iv 4] (iv (q1 % 4)) (by kernel_rfl) (ModC q1 4  (by omega) _) ?_)
 intro w hI
 refine pu (.agg #[iv 0, iv 0, .slice none 0 0, .slice none 0 0, .slice none 0 0, iv (q1 % 4)]) (by kernel_rfl) (seq_c (s_allocI hI [iv 0, iv 0, .slice none 0 0, .slice none 0 0, .slice none 0 0, iv 0] Tryz.zeroValue28 rfl ?_))
 intro b4 w hI
 refine seq_c (s_store hI 0 6 [iv 0, iv 0, .slice none 0 0, .slice none 0 0, .slice none 0 0, iv (q1 % 4)] Tryz.sizeOf28 rfl rfl rfl rfl rfl (Nat.le_of_ble_eq_true rfl) ?_)
 intro w hI
 refine seq_nil (wp_seq (rgn (by kernel_rfl) (pu (.pointer (some ⟨b1, 0, none⟩)) (by kernel_rfl) (seq_c (s_load1 hI 3 (iv q0) Tryz.isAgg3 rfl rfl rfl ?_)))))
 refine seq_c (s_callv hI 58 [iv q0, iv 200] (iv (q0 % 200)) (by kernel_rfl) (ModC q0 200  (by omega) _) ?_)
 intro w hI
 refine pu (iv (q0 % 200)) (by kernel_rfl) (seq_nil (wp_seq (rgn (by kernel_rfl) (pu (iv (q0 % 200)) (by kernel_rfl) (pu (.agg #[iv (q0 % 200), .slice none 0 0]) (by kernel_rfl) (seq_c (s_allocI hI [iv 0, .slice none 0 0] Tryz.zeroValue57 rfl ?_)))))))
 intro b5 w hI
 refine seq_c (s_store hI 0 2 [iv (q0 % 200), .slice none 0 0] Tryz.sizeOf57 rfl rfl rfl rfl rfl (Nat.le_of_ble_eq_true rfl) ?_)
 intro w hI
 refine seq_nil (wp_seq ?_)
 replace hI := hI.pickL [0, 2, 3, 4, 1] (by decide) rfl
 refine wp_drawn2 hI [0, 1, 2, 3] (by decide) rfl (by kernel_rfl) (by kernel_rfl) ?_
 intro hsub
 refine alp 0 (iv (q0 % 200)) hsub rfl (by kernel_rfl) (fun _ => (by kernel_rfl)) ?_
 refine alp 1 (.pointer (some ⟨b1, 0, none⟩)) hsub rfl (by kernel_rfl) (fun _ => (by kernel_rfl)) ?_
 refine al_light 2 (iv q0) hsub rfl (by kernel_rfl) (fun w hI => s_load1 hI 3 (iv q0) Tryz.isAgg3 rfl rfl rfl ⟨rfl, Below.refl _ _⟩) ?_
 refine al_light 3 (iv (q0.tdiv 200)) hsub rfl (by kernel_rfl) (fun w hI => s_quo rfl rfl (by decide) hq0 ⟨rfl, Below.refl _ _⟩) ?_
 refine al_light 4 (iv ((q0.tdiv 200) % 9)) hsub rfl (by kernel_rfl) (fun w hI => s_call 58 [iv (q0.tdiv 200), iv 9] (by kernel_rfl) (ModC (q0.tdiv 200) 9  (by omega) _) (fun v' w' h => h)) ?_
 refine al_light 5 (iv ((q0 % 200) - ((q0.tdiv 200) % 9))) hsub rfl (by kernel_rfl) (fun w hI => s_sub rfl rfl (by omega) ⟨rfl, Below.refl _ _⟩) ?_
 refine alp 6 (iv (if ((q0 % 200) - ((q0.tdiv 200) % 9)) > 0 then ((q0 % 200) - ((q0.tdiv 200) % 9)) else 0)) hsub rfl (by kernel_rfl) (fun _ => (by kernel_rfl)) ?_
 refine alp 7 (iv (q0 % 200)) hsub rfl (by kernel_rfl) (fun _ => (by kernel_rfl)) ?_
 refine alp 8 (.pointer (some ⟨b1, 0, none⟩)) hsub rfl (by kernel_rfl) (fun _ => (by kernel_rfl)) ?_
 refine al_light 9 (iv q0) hsub rfl (by kernel_rfl) (fun w hI => s_load1 hI 3 (iv q0) Tryz.isAgg3 rfl rfl rfl ⟨rfl, Below.refl _ _⟩) ?_
 refine al_light 10 (iv (q0.tdiv 1800)) hsub rfl (by kernel_rfl) (fun w hI => s_quo rfl rfl (by decide) hq0 ⟨rfl, Below.refl _ _⟩) ?_
 refine al_light 11 (iv ((q0.tdiv 1800) % 9)) hsub rfl (by kernel_rfl) (fun w hI => s_call 58 [iv (q0.tdiv 1800), iv 9] (by kernel_rfl) (ModC (q0.tdiv 1800) 9  (by omega) _) (fun v' w' h => h)) ?_
 refine al_light 12 (iv ((q0 % 200) + ((q0.tdiv 1800) % 9))) hsub rfl (by kernel_rfl) (fun w hI => s_add rfl rfl (by omega) ⟨rfl, Below.refl _ _⟩) ?_
 refine alp 13 (.agg #[iv (if ((q0 % 200) - ((q0.tdiv 200) % 9)) > 0 then ((q0 % 200) - ((q0.tdiv 200) % 9)) else 0), iv ((q0 % 200) + ((q0.tdiv 1800) % 9))]) hsub rfl (by kernel_rfl) (fun _ => (by kernel_rfl)) ?_
 refine alp 14 (.pointer (some ⟨b4, 0, none⟩)) hsub rfl (by kernel_rfl) (fun _ => (by kernel_rfl)) ?_
 refine any_heavy [15] (by kernel_rfl) rfl (each1 ?_)
 intro w hI
 refine ol_c rfl (s_store hI 4 2 [iv (if ((q0 % 200) - ((q0.tdiv 200) % 9)) > 0 then ((q0 % 200) - ((q0.tdiv 200) % 9)) else 0), iv ((q0 % 200) + ((q0.tdiv 1800) % 9))] Tryz.sizeOf23 rfl rfl rfl rfl rfl (Nat.le_of_ble_eq_true rfl) ?_)
 intro w hI
 refine ⟨_, hI, subk (fun _ h => h.pickL [0, 1, 2, 3] (by decide) rfl) ?_⟩
 intro hsub
 refine any_end (by kernel_rfl) (fun w hI => ?_)
 refine wp_seq (rgn (by kernel_rfl) (pu (iv 20) (by kernel_rfl) (seq_nil (wp_cut (fun ρ w => ∃ (m1 : Nat) (gg0 : Option Nat) (cc0 : Nat) (ccl0 : List Value) (gg1 : Option Nat) (cc1 : Nat) (ccl1 : List Value), Agree ρ [(1, .bool true), (2, .pointer (some ⟨b1, 0, none⟩)), (4, .pointer (some ⟨b2, 0, none⟩)), (5, .pointer (some ⟨b3, 0, none⟩)), (6, .pointer (some ⟨b4, 0, none⟩)), (8, .pointer (some ⟨b5, 0, none⟩))] ∧ Inv none w0 w [(gg1, blk ccl1 3), (gg0, blk ccl0 30), (some b5, blk [iv (q0 % 200), slv gg1 m1 cc1] 57), (some b3, blk [iv 0, .slice none 0 0] 57), (some b2, blk [iv 0, iv 0, .slice none 0 0, .slice none 0 0, .slice none 0 0, iv 0] 28), (some b1, blk [iv q0, iv q1, .slice rA1 rn1 rc1, .slice rA2 rn2 rc2, .slice rA3 rn3 rc3] 78), (some b4, blk [iv (if ((q0 % 200) - ((q0.tdiv 200) % 9)) > 0 then ((q0 % 200) - ((q0.tdiv 200) % 9)) else 0), iv ((q0 % 200) + ((q0.tdiv 1800) % 9)), slv gg0 m1 cc0, .slice none 0 0, .slice none 0 0, iv (q1 % 4)] 28)] ∧ (m1 = (ls.take 6).length) ∧ (Row 6 gg0 (m1) cc0 ccl0 (flat eLd (xs.map Prod.fst))) ∧ (Row 1 gg1 (m1) cc1 ccl1 (flat eInt (xs.map Prod.snd)))) ?_ ?_))))
 ·
  refine wp_seq (rgn (by kernel_rfl) (pu (iv 0) (by kernel_rfl) (seq_nil (wp_block ?_))))
  have hI := hI.nilRow 30
  have hI := hI.nilRow 3
  refine wp_loop (fun m ρ w => ∃ (k : Nat) (hv : Int) (lv : Int) (gg0 : Option Nat) (cc0 : Nat) (ccl0 : List Value) (gg1 : Option Nat) (cc1 : Nat) (ccl1 : List Value), Agree ρ [(1, .bool true), (2, .pointer (some ⟨b1, 0, none⟩)), (4, .pointer (some ⟨b2, 0, none⟩)), (5, .pointer (some ⟨b3, 0, none⟩)), (6, .pointer (some ⟨b4, 0, none⟩)), (7, iv lv), (8, .pointer (some ⟨b5, 0, none⟩)), (9, iv hv), (10, iv (k : Int))] ∧ Inv none w0 w [(gg1, blk ccl1 3), (gg0, blk ccl0 30), (some b5, blk [iv (q0 % 200), slv gg1 k cc1] 57), (some b3, blk [iv 0, .slice none 0 0] 57), (some b2, blk [iv 0, iv 0, .slice none 0 0, .slice none 0 0, .slice none 0 0, iv 0] 28), (some b1, blk [iv q0, iv q1, .slice rA1 rn1 rc1, .slice rA2 rn2 rc2, .slice rA3 rn3 rc3] 78), (some b4, blk [iv (if ((q0 % 200) - ((q0.tdiv 200) % 9)) > 0 then ((q0 % 200) - ((q0.tdiv 200) % 9)) else 0), iv ((q0 % 200) + ((q0.tdiv 1800) % 9)), slv gg0 k cc0, .slice none 0 0, .slice none 0 0, iv (q1 % 4)] 28)] ∧ (k ≤ rn1) ∧ (k ≤ 6) ∧ (hv = hEnd 20 (ls.take k)) ∧ (lv = lEnd (q0 % 200) (ls.take k)) ∧ (Row 6 gg0 (k) cc0 ccl0 (flat eLd ((mLoads 0 20 (q0 % 200) (ls.take k)).map Prod.fst))) ∧ (Row 1 gg1 (k) cc1 ccl1 (flat eInt ((mLoads 0 20 (q0 % 200) (ls.take k)).map Prod.snd))) ∧ m = rn1 - k) (m := rn1 - 0) ⟨0, 20, q0 % 200, none, 0, [], none, 0, [], ⟨rfl, rfl, rfl, rfl, rfl, rfl, rfl, rfl, rfl, trivial⟩, hI.pickL [0, 1, 2, 3, 4, 5, 6] (by decide) rfl, (by omega), (by omega), rfl, rfl, (Row.nil_ 6), (Row.nil_ 1), rfl⟩ ?_
  rintro m ρ w ⟨k, hv, lv, gg0, cc0, ccl0, gg1, cc1, ccl1, hag, hI, hk, hk6, hhv, hlv, hrr0, hrr1, hm⟩
  obtain ⟨ρ, rfl⟩ := hag.form; clear hag
  have hb1 := hEnd_bd (ls.take k) 20; have hb2 := lEnd_bd (ls.take k) (l := q0 % 200) (by omega); have hb3 : (ls.take k).length = k := by rw [List.length_take]; omega
  have hmod : ∀ z : Int, 0 ≤ z % (lv + 1) ∧ z % (lv + 1) ≤ lv := fun z => ⟨Int.emod_nonneg z (by omega), by have := Int.emod_lt_of_pos z (show (0 : Int) < lv + 1 by omega); omega⟩
  refine wp_seq (wp_seq (rgn (by kernel_rfl) (pu (iv (k : Int)) (by kernel_rfl) (pu (.pointer (some ⟨b1, 2, none⟩)) (by kernel_rfl) (seq_c (s_load1 hI 5 (.slice rA1 rn1 rc1) Tryz.isAgg76 rfl rfl rfl ?_))))))
  refine pu (iv ((rn1 : Nat) : Int)) (by kernel_rfl) (seq_c (s_lss rfl rfl ?_ ?_))
  ·intro h1
   refine pu (.bool true) (by kernel_rfl) (puo (iv (k : Int)) ⟨(by kernel_rfl), (by kernel_rfl)⟩ (seq_on (by kernel_rfl) (s_lss rfl rfl ?_ ?_)))
   ·intro h2
    refine pu (.bool true) (by kernel_rfl) (seq_nil (wp_condT rfl (wp_skip (wp_seq (wp_block ?_)))))
    refine wp_seq (rgn (by kernel_rfl) (pu (.pointer (some ⟨b1, 2, none⟩)) (by kernel_rfl) (seq_c (s_load1 hI 5 (.slice rA1 rn1 rc1) Tryz.isAgg76 rfl rfl rfl ?_))))
    refine pu (iv (k : Int)) (by kernel_rfl) ?_
    obtain ⟨x6, hx7⟩ := get_lt (l := ls) (i := k) (by omega)
    obtain ⟨b8, o9, hA10, hb11, he12⟩ := hC1.at_ eA4_len (by decide) hx7
    refine seq_c (s_indexA k Tryz.underlying76 Tryz.sizeOf160 rfl hA10 rfl rfl (by omega) ?_)
    refine seq_c (s_loadBK hI [iv x6.a, iv x6.b, iv x6.c, iv x6.d] Tryz.isAgg160 Tryz.sizeOf160 rfl rfl hb11 (by simp) he12 ?_)
    refine seq_c (s_allocI hI [iv 0, iv 0, iv 0, iv 0] Tryz.zeroValue160 rfl ?_)
    intro b13 w hI
    refine seq_c (s_store hI 0 4 [iv x6.a, iv x6.b, iv x6.c, iv x6.d] Tryz.sizeOf160 rfl rfl rfl rfl rfl (Nat.le_of_ble_eq_true rfl) ?_)
    intro w hI
    refine seq_nil (wp_seq (rgn (by kernel_rfl) (pu (iv hv) (by kernel_rfl) (pu (.pointer (some ⟨b13, 0, none⟩)) (by kernel_rfl) (seq_c (s_load1 hI 0 (iv x6.a) Tryz.isAgg3 rfl rfl rfl ?_))))))
    refine seq_c (s_callv hI 58 [iv x6.a, iv 9] (iv (x6.a % 9)) (by kernel_rfl) (ModC x6.a 9  (by omega) _) ?_)
    intro w hI
    refine seq_c (s_add rfl rfl (by omega) ?_)
    refine pu (iv (hv + (x6.a % 9))) (by kernel_rfl) (seq_nil (wp_seq (rgn (by kernel_rfl) (pu (.pointer (some ⟨b13, 1, none⟩)) (by kernel_rfl) (seq_c (s_load1 hI 0 (iv x6.b) Tryz.isAgg3 rfl rfl rfl ?_))))))
    refine pu (iv lv) (by kernel_rfl) (seq_c (s_add rfl rfl (by omega) ?_))
    refine seq_c (s_callv hI 58 [iv x6.b, iv (lv + 1)] (iv (x6.b % (lv + 1))) (by kernel_rfl) (ModC x6.b (lv + 1)  (by omega) _) ?_)
    intro w hI
    refine pu (iv (x6.b % (lv + 1))) (by kernel_rfl) (seq_nil (wp_seq (wp_seq (rgn (by kernel_rfl) (pu (.pointer (some ⟨b13, 1, none⟩)) (by kernel_rfl) (seq_c (s_load1 hI 0 (iv x6.b) Tryz.isAgg3 rfl rfl rfl ?_)))))))
    refine seq_c (s_callv hI 58 [iv x6.b, iv 5] (iv (x6.b % 5)) (by kernel_rfl) (ModC x6.b 5  (by omega) _) ?_)
    intro w hI
    refine seq_c (s_eql rfl rfl ?_ ?_)
    ·intro h3
     refine seq_nil (wp_condT rfl (rgn (by kernel_rfl) (pu (iv lv) (by kernel_rfl) (pu (iv lv) (by kernel_rfl) (seq_nil (wp_seq (rgn (by kernel_rfl) (pu (iv lv) (by kernel_rfl) (pu (iv lv) (by kernel_rfl) ?_)))))))))
     refine seq_c (s_sub rfl rfl (by omega) ?_)
     refine pu (iv (lv - lv)) (by kernel_rfl) (seq_nil (wp_seq (rgn (by kernel_rfl) (pu (.pointer (some ⟨b5, 1, none⟩)) (by kernel_rfl) (seq_c (s_load1 hI 3 (slv gg1 k cc1) Tryz.isAgg41 rfl rfl rfl ?_))))))
     refine pu (iv lv) (by kernel_rfl) (seq_c (s_new hI [iv lv] 3 (fun b => slv (some b) 1 1) (by kernel_rfl) ?_))
     intro b14 w hI
     refine seq_c (s_app hI Tryz.underlying41 (z := iv 0) (k := 1) (bytes := 8) (by kernel_rfl) rfl rfl 2 rfl rfl hrr1 [iv lv] rfl rfl (hI.cells 0 (off := 0) rfl (fun j u h => by rw [Nat.zero_add]; exact h)) (by simp [Value.oneCell']) (by omega) (by omega) ?_)
     intro g15 c16 cl17 w hI r18
     have r18 : Row 1 g15 (k + 1) c16 cl17 (flat eInt (((mLoads 0 20 (q0 % 200) (ls.take k)).map Prod.snd) ++ [lv])) := r18.snoc _ rfl
     refine pu (.pointer (some ⟨b5, 1, none⟩)) (by kernel_rfl) (seq_c (s_store hI 4 1 [slv g15 (k + 1) c16] Tryz.sizeOf41 rfl rfl rfl rfl rfl (Nat.le_of_ble_eq_true rfl) ?_))
     intro w hI
     refine seq_nil ?_
     replace hI := hI.pickL [0, 1, 2, 4, 5, 6, 7, 3, 8] (by decide) rfl
     refine wp_drawn2 hI [0, 1, 2, 3, 4, 5, 6] (by decide) rfl (by kernel_rfl) (by kernel_rfl) ?_
     intro hsub
     refine alp 0 (.pointer (some ⟨b4, 2, none⟩)) hsub rfl (by kernel_rfl) (fun _ => (by kernel_rfl)) ?_
     refine alp 2 (iv (k : Int)) hsub rfl (by kernel_rfl) (fun _ => (by kernel_rfl)) ?_
     refine al_light 3 (iv (1 + (k : Int))) hsub rfl (by kernel_rfl) (fun w hI => s_add rfl rfl (by omega) ⟨rfl, Below.refl _ _⟩) ?_
     refine alp 4 (iv (hv + (x6.a % 9))) hsub rfl (by kernel_rfl) (fun _ => (by kernel_rfl)) ?_
     refine alp 5 (iv lv) hsub rfl (by kernel_rfl) (fun _ => (by kernel_rfl)) ?_
     refine alp 6 (.pointer (some ⟨b13, 2, none⟩)) hsub rfl (by kernel_rfl) (fun _ => (by kernel_rfl)) ?_
     refine al_light 7 (iv x6.c) hsub rfl (by kernel_rfl) (fun w hI => s_load1 hI 1 (iv x6.c) Tryz.isAgg3 rfl rfl rfl ⟨rfl, Below.refl _ _⟩) ?_
     refine al_light 8 (iv (x6.c % 12)) hsub rfl (by kernel_rfl) (fun w hI => s_call 58 [iv x6.c, iv 12] (by kernel_rfl) (ModC x6.c 12  (by omega) _) (fun v' w' h => h)) ?_
     refine al_light 9 (iv (lv - (x6.c % 12))) hsub rfl (by kernel_rfl) (fun w hI => s_sub rfl rfl (by omega) ⟨rfl, Below.refl _ _⟩) ?_
     refine alp 10 (iv (if (lv - (x6.c % 12)) > 0 then (lv - (x6.c % 12)) else 0)) hsub rfl (by kernel_rfl) (fun _ => (by kernel_rfl)) ?_
     refine alp 11 (iv lv) hsub rfl (by kernel_rfl) (fun _ => (by kernel_rfl)) ?_
     refine alp 12 (.pointer (some ⟨b13, 2, none⟩)) hsub rfl (by kernel_rfl) (fun _ => (by kernel_rfl)) ?_
     refine al_light 13 (iv x6.c) hsub rfl (by kernel_rfl) (fun w hI => s_load1 hI 1 (iv x6.c) Tryz.isAgg3 rfl rfl rfl ⟨rfl, Below.refl _ _⟩) ?_
     refine al_light 14 (iv (x6.c.tdiv 12)) hsub rfl (by kernel_rfl) (fun w hI => s_quo rfl rfl (by decide) (hok_ls _ (mem_of_get hx7)) ⟨rfl, Below.refl _ _⟩) ?_
     refine al_light 15 (iv ((x6.c.tdiv 12) % 12)) hsub rfl (by kernel_rfl) (fun w hI => s_call 58 [iv (x6.c.tdiv 12), iv 12] (by kernel_rfl) (ModC (x6.c.tdiv 12) 12  (by omega) _) (fun v' w' h => h)) ?_
     refine al_light 16 (iv (lv + ((x6.c.tdiv 12) % 12))) hsub rfl (by kernel_rfl) (fun w hI => s_add rfl rfl (by omega) ⟨rfl, Below.refl _ _⟩) ?_
     refine alp 17 (.agg #[iv (if (lv - (x6.c % 12)) > 0 then (lv - (x6.c % 12)) else 0), iv (lv + ((x6.c.tdiv 12) % 12))]) hsub rfl (by kernel_rfl) (fun _ => (by kernel_rfl)) ?_
     refine alp 18 (.pointer (some ⟨b13, 3, none⟩)) hsub rfl (by kernel_rfl) (fun _ => (by kernel_rfl)) ?_
     refine al_light 19 (iv x6.d) hsub rfl (by kernel_rfl) (fun w hI => s_load1 hI 1 (iv x6.d) Tryz.isAgg3 rfl rfl rfl ⟨rfl, Below.refl _ _⟩) ?_
     refine al_light 20 (iv (x6.d % 20)) hsub rfl (by kernel_rfl) (fun w hI => s_call 58 [iv x6.d, iv 20] (by kernel_rfl) (ModC x6.d 20  (by omega) _) (fun v' w' h => h)) ?_
     refine alp 21 (.agg #[iv (1 + (k : Int)), iv (hv + (x6.a % 9)), iv (if (lv - (x6.c % 12)) > 0 then (lv - (x6.c % 12)) else 0), iv (lv + ((x6.c.tdiv 12) % 12)), iv (x6.d % 20), iv 0]) hsub rfl (by kernel_rfl) (fun _ => (by kernel_rfl)) ?_
     refine any_heavy [1, 22] (by kernel_rfl) rfl (each2 ?_ ?_)
     ·intro w hI
      refine ol_c rfl (s_load1 hI 8 (slv gg0 k cc0) Tryz.isAgg24 rfl rfl rfl ?_)
      refine ⟨_, hI, subk (fun _ h => h.pickL [0, 1, 2, 3, 4, 5, 6] (by decide) rfl) ?_⟩
      intro hsub
      refine any_heavy [22] (by kernel_rfl) rfl (each1 ?_)
      intro w hI
      refine ol_c rfl (s_new hI [iv (1 + (k : Int)), iv (hv + (x6.a % 9)), iv (if (lv - (x6.c % 12)) > 0 then (lv - (x6.c % 12)) else 0), iv (lv + ((x6.c.tdiv 12) % 12)), iv (x6.d % 20), iv 0] 30 (fun b => slv (some b) 1 1) (by kernel_rfl) ?_)
      intro b19 w hI
      refine ⟨_, hI, subk (fun _ h => h.pickL [1, 2, 3, 4, 5, 6, 7] (by decide) rfl) ?_⟩
      intro hsub
      refine any_heavy [23] (by kernel_rfl) rfl (each1 ?_)
      intro w hI
      refine ol_c rfl (s_app hI Tryz.underlying24 (z := .agg #[iv 0, iv 0, iv 0, iv 0, iv 0, iv 0]) (k := 6) (bytes := 48) (by kernel_rfl) rfl rfl 8 rfl rfl hrr0 [iv (1 + (k : Int)), iv (hv + (x6.a % 9)), iv (if (lv - (x6.c % 12)) > 0 then (lv - (x6.c % 12)) else 0), iv (lv + ((x6.c.tdiv 12) % 12)), iv (x6.d % 20), iv 0] rfl rfl (hI.cells 0 (off := 0) rfl (fun j u h => by rw [Nat.zero_add]; exact h)) (by simp [Value.oneCell']) (by omega) (by omega) ?_)
      intro g20 c21 cl22 w hI r23
      refine ⟨_, hI, subk (fun _ h => h.pickL [1, 2, 3, 4, 5, 6, 7] (by decide) rfl) ?_⟩
      intro hsub
      have r23 : Row 6 g20 (k + 1) c21 cl22 (flat eLd (((mLoads 0 20 (q0 % 200) (ls.take k)).map Prod.fst) ++ [(⟨1 + (k : Int), hv + (x6.a % 9), if (lv - (x6.c % 12)) > 0 then (lv - (x6.c % 12)) else 0, lv + ((x6.c.tdiv 12) % 12), x6.d % 20, 0⟩ : Ld)])) := r23.snoc _ rfl
      refine alp 24 (.pointer (some ⟨b4, 2, none⟩)) hsub rfl (by kernel_rfl) (fun _ => (by kernel_rfl)) ?_
      refine any_heavy [25] (by kernel_rfl) rfl (each1 ?_)
      intro w hI
      refine ol_c rfl (s_store hI 9 1 [slv g20 (k + 1) c21] Tryz.sizeOf24 rfl rfl rfl rfl rfl (Nat.le_of_ble_eq_true rfl) ?_)
      intro w hI
      refine ⟨_, hI, subk (fun _ h => h.pickL [1, 2, 3, 4, 5, 6, 7] (by decide) rfl) ?_⟩
      intro hsub
      refine any_end (by kernel_rfl) (fun w hI => ?_)
      refine rgn (by kernel_rfl) (pu (iv (k : Int)) (by kernel_rfl) (seq_c (s_add rfl rfl (by omega) ?_)))
      refine pu (iv ((k : Int) + 1)) (by kernel_rfl) (seq_nil ?_)
      have ht : lv = mTook lv x6 := by unfold mTook; rw [if_pos h3]
      have hm := made1 hx7 hhv hlv ht
      exact ⟨rfl, _, (by omega), ⟨k + 1, hv + (x6.a % 9), lv - lv, g20, c21, cl22, g15, c16, cl17, ⟨rfl, rfl, rfl, rfl, rfl, rfl, rfl, rfl, rfl, trivial⟩, hI.pickL [3, 8, 4, 5, 6, 7, 9] (by decide) rfl, (by omega), (by omega), (by rw [take_get hx7, hEnd_snoc, ← hhv]), (by rw [take_get hx7, lEnd_snoc, ← hlv, ← ht]), (r23.to (by rw [hm, List.map_append]; rfl) rfl), (r18.to (by rw [hm, List.map_append]; rfl) rfl), rfl⟩⟩
     ·intro w hI
      refine ol_c rfl (s_new hI [iv (1 + (k : Int)), iv (hv + (x6.a % 9)), iv (if (lv - (x6.c % 12)) > 0 then (lv - (x6.c % 12)) else 0), iv (lv + ((x6.c.tdiv 12) % 12)), iv (x6.d % 20), iv 0] 30 (fun b => slv (some b) 1 1) (by kernel_rfl) ?_)
      intro b24 w hI
      refine ⟨_, hI, subk (fun _ h => h.pickL [1, 2, 3, 4, 5, 6, 7] (by decide) rfl) ?_⟩
      intro hsub
      refine any_heavy [1] (by kernel_rfl) rfl (each1 ?_)
      intro w hI
      refine ol_c rfl (s_load1 hI 9 (slv gg0 k cc0) Tryz.isAgg24 rfl rfl rfl ?_)
      refine ⟨_, hI, subk (fun _ h => h.pickL [1, 2, 3, 4, 5, 6, 7] (by decide) rfl) ?_⟩
      intro hsub
      refine any_heavy [23] (by kernel_rfl) rfl (each1 ?_)
      intro w hI
      refine ol_c rfl (s_app hI Tryz.underlying24 (z := .agg #[iv 0, iv 0, iv 0, iv 0, iv 0, iv 0]) (k := 6) (bytes := 48) (by kernel_rfl) rfl rfl 8 rfl rfl hrr0 [iv (1 + (k : Int)), iv (hv + (x6.a % 9)), iv (if (lv - (x6.c % 12)) > 0 then (lv - (x6.c % 12)) else 0), iv (lv + ((x6.c.tdiv 12) % 12)), iv (x6.d % 20), iv 0] rfl rfl (hI.cells 0 (off := 0) rfl (fun j u h => by rw [Nat.zero_add]; exact h)) (by simp [Value.oneCell']) (by omega) (by omega) ?_)
      intro g25 c26 cl27 w hI r28
      refine ⟨_, hI, subk (fun _ h => h.pickL [1, 2, 3, 4, 5, 6, 7] (by decide) rfl) ?_⟩
      intro hsub
      have r28 : Row 6 g25 (k + 1) c26 cl27 (flat eLd (((mLoads 0 20 (q0 % 200) (ls.take k)).map Prod.fst) ++ [(⟨1 + (k : Int), hv + (x6.a % 9), if (lv - (x6.c % 12)) > 0 then (lv - (x6.c % 12)) else 0, lv + ((x6.c.tdiv 12) % 12), x6.d % 20, 0⟩ : Ld)])) := r28.snoc _ rfl
      refine alp 24 (.pointer (some ⟨b4, 2, none⟩)) hsub rfl (by kernel_rfl) (fun _ => (by kernel_rfl)) ?_
      refine any_heavy [25] (by kernel_rfl) rfl (each1 ?_)
      intro w hI
      refine ol_c rfl (s_store hI 9 1 [slv g25 (k + 1) c26] Tryz.sizeOf24 rfl rfl rfl rfl rfl (Nat.le_of_ble_eq_true rfl) ?_)
      intro w hI
      refine ⟨_, hI, subk (fun _ h => h.pickL [1, 2, 3, 4, 5, 6, 7] (by decide) rfl) ?_⟩
      intro hsub
      refine any_end (by kernel_rfl) (fun w hI => ?_)
      refine rgn (by kernel_rfl) (pu (iv (k : Int)) (by kernel_rfl) (seq_c (s_add rfl rfl (by omega) ?_)))
      refine pu (iv ((k : Int) + 1)) (by kernel_rfl) (seq_nil ?_)
      have ht : lv = mTook lv x6 := by unfold mTook; rw [if_pos h3]
      have hm := made1 hx7 hhv hlv ht
      exact ⟨rfl, _, (by omega), ⟨k + 1, hv + (x6.a % 9), lv - lv, g25, c26, cl27, g15, c16, cl17, ⟨rfl, rfl, rfl, rfl, rfl, rfl, rfl, rfl, rfl, trivial⟩, hI.pickL [3, 8, 4, 5, 6, 7, 9] (by decide) rfl, (by omega), (by omega), (by rw [take_get hx7, hEnd_snoc, ← hhv]), (by rw [take_get hx7, lEnd_snoc, ← hlv, ← ht]), (r28.to (by rw [hm, List.map_append]; rfl) rfl), (r18.to (by rw [hm, List.map_append]; rfl) rfl), rfl⟩⟩
    ·intro h4
     refine seq_nil (wp_condF rfl (wp_skip (wp_seq (rgn (by kernel_rfl) (pu (iv lv) (by kernel_rfl) (pu (iv (x6.b % (lv + 1))) (by kernel_rfl) (seq_c (s_sub rfl rfl (by have hz := hmod x6.b; omega) ?_))))))))
     refine pu (iv (lv - (x6.b % (lv + 1)))) (by kernel_rfl) (seq_nil (wp_seq (rgn (by kernel_rfl) (pu (.pointer (some ⟨b5, 1, none⟩)) (by kernel_rfl) (seq_c (s_load1 hI 3 (slv gg1 k cc1) Tryz.isAgg41 rfl rfl rfl ?_))))))
     refine pu (iv (x6.b % (lv + 1))) (by kernel_rfl) (seq_c (s_new hI [iv (x6.b % (lv + 1))] 3 (fun b => slv (some b) 1 1) (by kernel_rfl) ?_))
     intro b29 w hI
     refine seq_c (s_app hI Tryz.underlying41 (z := iv 0) (k := 1) (bytes := 8) (by kernel_rfl) rfl rfl 2 rfl rfl hrr1 [iv (x6.b % (lv + 1))] rfl rfl (hI.cells 0 (off := 0) rfl (fun j u h => by rw [Nat.zero_add]; exact h)) (by simp [Value.oneCell']) (by omega) (by omega) ?_)
     intro g30 c31 cl32 w hI r33
     have r33 : Row 1 g30 (k + 1) c31 cl32 (flat eInt (((mLoads 0 20 (q0 % 200) (ls.take k)).map Prod.snd) ++ [x6.b % (lv + 1)])) := r33.snoc _ rfl
     refine pu (.pointer (some ⟨b5, 1, none⟩)) (by kernel_rfl) (seq_c (s_store hI 4 1 [slv g30 (k + 1) c31] Tryz.sizeOf41 rfl rfl rfl rfl rfl (Nat.le_of_ble_eq_true rfl) ?_))
     intro w hI
     refine seq_nil ?_
     replace hI := hI.pickL [0, 1, 2, 4, 5, 6, 7, 3, 8] (by decide) rfl
     refine wp_drawn2 hI [0, 1, 2, 3, 4, 5, 6] (by decide) rfl (by kernel_rfl) (by kernel_rfl) ?_
     intro hsub
     refine alp 0 (.pointer (some ⟨b4, 2, none⟩)) hsub rfl (by kernel_rfl) (fun _ => (by kernel_rfl)) ?_
     refine alp 2 (iv (k : Int)) hsub rfl (by kernel_rfl) (fun _ => (by kernel_rfl)) ?_
     refine al_light 3 (iv (1 + (k : Int))) hsub rfl (by kernel_rfl) (fun w hI => s_add rfl rfl (by omega) ⟨rfl, Below.refl _ _⟩) ?_
     refine alp 4 (iv (hv + (x6.a % 9))) hsub rfl (by kernel_rfl) (fun _ => (by kernel_rfl)) ?_
     refine alp 5 (iv (x6.b % (lv + 1))) hsub rfl (by kernel_rfl) (fun _ => (by kernel_rfl)) ?_
     refine alp 6 (.pointer (some ⟨b13, 2, none⟩)) hsub rfl (by kernel_rfl) (fun _ => (by kernel_rfl)) ?_
     refine al_light 7 (iv x6.c) hsub rfl (by kernel_rfl) (fun w hI => s_load1 hI 1 (iv x6.c) Tryz.isAgg3 rfl rfl rfl ⟨rfl, Below.refl _ _⟩) ?_
     refine al_light 8 (iv (x6.c % 12)) hsub rfl (by kernel_rfl) (fun w hI => s_call 58 [iv x6.c, iv 12] (by kernel_rfl) (ModC x6.c 12  (by omega) _) (fun v' w' h => h)) ?_
     refine al_light 9 (iv ((x6.b % (lv + 1)) - (x6.c % 12))) hsub rfl (by kernel_rfl) (fun w hI => s_sub rfl rfl (by have hz := hmod x6.b; omega) ⟨rfl, Below.refl _ _⟩) ?_
     refine alp 10 (iv (if ((x6.b % (lv + 1)) - (x6.c % 12)) > 0 then ((x6.b % (lv + 1)) - (x6.c % 12)) else 0)) hsub rfl (by kernel_rfl) (fun _ => (by kernel_rfl)) ?_
     refine alp 11 (iv (x6.b % (lv + 1))) hsub rfl (by kernel_rfl) (fun _ => (by kernel_rfl)) ?_
     refine alp 12 (.pointer (some ⟨b13, 2, none⟩)) hsub rfl (by kernel_rfl) (fun _ => (by kernel_rfl)) ?_
     refine al_light 13 (iv x6.c) hsub rfl (by kernel_rfl) (fun w hI => s_load1 hI 1 (iv x6.c) Tryz.isAgg3 rfl rfl rfl ⟨rfl, Below.refl _ _⟩) ?_
     refine al_light 14 (iv (x6.c.tdiv 12)) hsub rfl (by kernel_rfl) (fun w hI => s_quo rfl rfl (by decide) (hok_ls _ (mem_of_get hx7)) ⟨rfl, Below.refl _ _⟩) ?_
     refine al_light 15 (iv ((x6.c.tdiv 12) % 12)) hsub rfl (by kernel_rfl) (fun w hI => s_call 58 [iv (x6.c.tdiv 12), iv 12] (by kernel_rfl) (ModC (x6.c.tdiv 12) 12  (by omega) _) (fun v' w' h => h)) ?_
     refine al_light 16 (iv ((x6.b % (lv + 1)) + ((x6.c.tdiv 12) % 12))) hsub rfl (by kernel_rfl) (fun w hI => s_add rfl rfl (by have hz := hmod x6.b; omega) ⟨rfl, Below.refl _ _⟩) ?_
     refine alp 17 (.agg #[iv (if ((x6.b % (lv + 1)) - (x6.c % 12)) > 0 then ((x6.b % (lv + 1)) - (x6.c % 12)) else 0), iv ((x6.b % (lv + 1)) + ((x6.c.tdiv 12) % 12))]) hsub rfl (by kernel_rfl) (fun _ => (by kernel_rfl)) ?_
     refine alp 18 (.pointer (some ⟨b13, 3, none⟩)) hsub rfl (by kernel_rfl) (fun _ => (by kernel_rfl)) ?_
     refine al_light 19 (iv x6.d) hsub rfl (by kernel_rfl) (fun w hI => s_load1 hI 1 (iv x6.d) Tryz.isAgg3 rfl rfl rfl ⟨rfl, Below.refl _ _⟩) ?_
     refine al_light 20 (iv (x6.d % 20)) hsub rfl (by kernel_rfl) (fun w hI => s_call 58 [iv x6.d, iv 20] (by kernel_rfl) (ModC x6.d 20  (by omega) _) (fun v' w' h => h)) ?_
     refine alp 21 (.agg #[iv (1 + (k : Int)), iv (hv + (x6.a % 9)), iv (if ((x6.b % (lv + 1)) - (x6.c % 12)) > 0 then ((x6.b % (lv + 1)) - (x6.c % 12)) else 0), iv ((x6.b % (lv + 1)) + ((x6.c.tdiv 12) % 12)), iv (x6.d % 20), iv 0]) hsub rfl (by kernel_rfl) (fun _ => (by kernel_rfl)) ?_
     refine any_heavy [1, 22] (by kernel_rfl) rfl (each2 ?_ ?_)
     ·intro w hI
      refine ol_c rfl (s_load1 hI 8 (slv gg0 k cc0) Tryz.isAgg24 rfl rfl rfl ?_)
      refine ⟨_, hI, subk (fun _ h => h.pickL [0, 1, 2, 3, 4, 5, 6] (by decide) rfl) ?_⟩
      intro hsub
      refine any_heavy [22] (by kernel_rfl) rfl (each1 ?_)
      intro w hI
      refine ol_c rfl (s_new hI [iv (1 + (k : Int)), iv (hv + (x6.a % 9)), iv (if ((x6.b % (lv + 1)) - (x6.c % 12)) > 0 then ((x6.b % (lv + 1)) - (x6.c % 12)) else 0), iv ((x6.b % (lv + 1)) + ((x6.c.tdiv 12) % 12)), iv (x6.d % 20), iv 0] 30 (fun b => slv (some b) 1 1) (by kernel_rfl) ?_)
      intro b34 w hI
      refine ⟨_, hI, subk (fun _ h => h.pickL [1, 2, 3, 4, 5, 6, 7] (by decide) rfl) ?_⟩
      intro hsub
      refine any_heavy [23] (by kernel_rfl) rfl (each1 ?_)
      intro w hI
      refine ol_c rfl (s_app hI Tryz.underlying24 (z := .agg #[iv 0, iv 0, iv 0, iv 0, iv 0, iv 0]) (k := 6) (bytes := 48) (by kernel_rfl) rfl rfl 8 rfl rfl hrr0 [iv (1 + (k : Int)), iv (hv + (x6.a % 9)), iv (if ((x6.b % (lv + 1)) - (x6.c % 12)) > 0 then ((x6.b % (lv + 1)) - (x6.c % 12)) else 0), iv ((x6.b % (lv + 1)) + ((x6.c.tdiv 12) % 12)), iv (x6.d % 20), iv 0] rfl rfl (hI.cells 0 (off := 0) rfl (fun j u h => by rw [Nat.zero_add]; exact h)) (by simp [Value.oneCell']) (by omega) (by omega) ?_)
      intro g35 c36 cl37 w hI r38
      refine ⟨_, hI, subk (fun _ h => h.pickL [1, 2, 3, 4, 5, 6, 7] (by decide) rfl) ?_⟩
      intro hsub
      have r38 : Row 6 g35 (k + 1) c36 cl37 (flat eLd (((mLoads 0 20 (q0 % 200) (ls.take k)).map Prod.fst) ++ [(⟨1 + (k : Int), hv + (x6.a % 9), if ((x6.b % (lv + 1)) - (x6.c % 12)) > 0 then ((x6.b % (lv + 1)) - (x6.c % 12)) else 0, (x6.b % (lv + 1)) + ((x6.c.tdiv 12) % 12), x6.d % 20, 0⟩ : Ld)])) := r38.snoc _ rfl
      refine alp 24 (.pointer (some ⟨b4, 2, none⟩)) hsub rfl (by kernel_rfl) (fun _ => (by kernel_rfl)) ?_
      refine any_heavy [25] (by kernel_rfl) rfl (each1 ?_)
      intro w hI
      refine ol_c rfl (s_store hI 9 1 [slv g35 (k + 1) c36] Tryz.sizeOf24 rfl rfl rfl rfl rfl (Nat.le_of_ble_eq_true rfl) ?_)
      intro w hI
      refine ⟨_, hI, subk (fun _ h => h.pickL [1, 2, 3, 4, 5, 6, 7] (by decide) rfl) ?_⟩
      intro hsub
      refine any_end (by kernel_rfl) (fun w hI => ?_)
      refine rgn (by kernel_rfl) (pu (iv (k : Int)) (by kernel_rfl) (seq_c (s_add rfl rfl (by omega) ?_)))
      refine pu (iv ((k : Int) + 1)) (by kernel_rfl) (seq_nil ?_)
      have ht : x6.b % (lv + 1) = mTook lv x6 := by unfold mTook; rw [if_neg h4]
      have hm := made1 hx7 hhv hlv ht
      exact ⟨rfl, _, (by omega), ⟨k + 1, hv + (x6.a % 9), lv - (x6.b % (lv + 1)), g35, c36, cl37, g30, c31, cl32, ⟨rfl, rfl, rfl, rfl, rfl, rfl, rfl, rfl, rfl, trivial⟩, hI.pickL [3, 8, 4, 5, 6, 7, 9] (by decide) rfl, (by omega), (by omega), (by rw [take_get hx7, hEnd_snoc, ← hhv]), (by rw [take_get hx7, lEnd_snoc, ← hlv, ← ht]), (r38.to (by rw [hm, List.map_append]; rfl) rfl), (r33.to (by rw [hm, List.map_append]; rfl) rfl), rfl⟩⟩
     ·intro w hI
      refine ol_c rfl (s_new hI [iv (1 + (k : Int)), iv (hv + (x6.a % 9)), iv (if ((x6.b % (lv + 1)) - (x6.c % 12)) > 0 then ((x6.b % (lv + 1)) - (x6.c % 12)) else 0), iv ((x6.b % (lv + 1)) + ((x6.c.tdiv 12) % 12)), iv (x6.d % 20), iv 0] 30 (fun b => slv (some b) 1 1) (by kernel_rfl) ?_)
      intro b39 w hI
      refine ⟨_, hI, subk (fun _ h => h.pickL [1, 2, 3, 4, 5, 6, 7] (by decide) rfl) ?_⟩
      intro hsub
      refine any_heavy [1] (by kernel_rfl) rfl (each1 ?_)
      intro w hI
      refine ol_c rfl (s_load1 hI 9 (slv gg0 k cc0) Tryz.isAgg24 rfl rfl rfl ?_)
      refine ⟨_, hI, subk (fun _ h => h.pickL [1, 2, 3, 4, 5, 6, 7] (by decide) rfl) ?_⟩
      intro hsub
      refine any_heavy [23] (by kernel_rfl) rfl (each1 ?_)
      intro w hI
      refine ol_c rfl (s_app hI Tryz.underlying24 (z := .agg #[iv 0, iv 0, iv 0, iv 0, iv 0, iv 0]) (k := 6) (bytes := 48) (by kernel_rfl) rfl rfl 8 rfl rfl hrr0 [iv (1 + (k : Int)), iv (hv + (x6.a % 9)), iv (if ((x6.b % (lv + 1)) - (x6.c % 12)) > 0 then ((x6.b % (lv + 1)) - (x6.c % 12)) else 0), iv ((x6.b % (lv + 1)) + ((x6.c.tdiv 12) % 12)), iv (x6.d % 20), iv 0] rfl rfl (hI.cells 0 (off := 0) rfl (fun j u h => by rw [Nat.zero_add]; exact h)) (by simp [Value.oneCell']) (by omega) (by omega) ?_)
      intro g40 c41 cl42 w hI r43
      refine ⟨_, hI, subk (fun _ h => h.pickL [1, 2, 3, 4, 5, 6, 7] (by decide) rfl) ?_⟩
      intro hsub
      have r43 : Row 6 g40 (k + 1) c41 cl42 (flat eLd (((mLoads 0 20 (q0 % 200) (ls.take k)).map Prod.fst) ++ [(⟨1 + (k : Int), hv + (x6.a % 9), if ((x6.b % (lv + 1)) - (x6.c % 12)) > 0 then ((x6.b % (lv + 1)) - (x6.c % 12)) else 0, (x6.b % (lv + 1)) + ((x6.c.tdiv 12) % 12), x6.d % 20, 0⟩ : Ld)])) := r43.snoc _ rfl
      refine alp 24 (.pointer (some ⟨b4, 2, none⟩)) hsub rfl (by kernel_rfl) (fun _ => (by kernel_rfl)) ?_
      refine any_heavy [25] (by kernel_rfl) rfl (each1 ?_)
      intro w hI
      refine ol_c rfl (s_store hI 9 1 [slv g40 (k + 1) c41] Tryz.sizeOf24 rfl rfl rfl rfl rfl (Nat.le_of_ble_eq_true rfl) ?_)
      intro w hI
      refine ⟨_, hI, subk (fun _ h => h.pickL [1, 2, 3, 4, 5, 6, 7] (by decide) rfl) ?_⟩
      intro hsub
      refine any_end (by kernel_rfl) (fun w hI => ?_)
      refine rgn (by kernel_rfl) (pu (iv (k : Int)) (by kernel_rfl) (seq_c (s_add rfl rfl (by omega) ?_)))
      refine pu (iv ((k : Int) + 1)) (by kernel_rfl) (seq_nil ?_)
      have ht : x6.b % (lv + 1) = mTook lv x6 := by unfold mTook; rw [if_neg h4]
      have hm := made1 hx7 hhv hlv ht
      exact ⟨rfl, _, (by omega), ⟨k + 1, hv + (x6.a % 9), lv - (x6.b % (lv + 1)), g40, c41, cl42, g30, c31, cl32, ⟨rfl, rfl, rfl, rfl, rfl, rfl, rfl, rfl, rfl, trivial⟩, hI.pickL [3, 8, 4, 5, 6, 7, 9] (by decide) rfl, (by omega), (by omega), (by rw [take_get hx7, hEnd_snoc, ← hhv]), (by rw [take_get hx7, lEnd_snoc, ← hlv, ← ht]), (r43.to (by rw [hm, List.map_append]; rfl) rfl), (r33.to (by rw [hm, List.map_append]; rfl) rfl), rfl⟩⟩
   ·intro h5
    refine pu (.bool false) (by kernel_rfl) (seq_nil (wp_condF rfl (wp_exit ?_)))
    have hst := take_stop (l := ls) (k := k) (m := 6) (by omega) (by omega) (by omega)
    exact ⟨rfl, k, gg0, cc0, ccl0, gg1, cc1, ccl1, ⟨rfl, rfl, rfl, rfl, rfl, rfl, trivial⟩, hI.pickL [0, 1, 2, 3, 4, 5, 6] (by decide) rfl, hst.2, (hrr0.to (by rw [hst.1, hxs]) rfl), (hrr1.to (by rw [hst.1, hxs]) rfl)⟩
  ·intro h6
   refine pu (.bool false) (by kernel_rfl) (of_ (by kernel_rfl) (of_ (by kernel_rfl) (pu (.bool false) (by kernel_rfl) (seq_nil (wp_condF rfl (wp_exit ?_))))))
   have hst := take_stop (l := ls) (k := k) (m := 6) (by omega) (by omega) (by omega)
   exact ⟨rfl, k, gg0, cc0, ccl0, gg1, cc1, ccl1, ⟨rfl, rfl, rfl, rfl, rfl, rfl, trivial⟩, hI.pickL [0, 1, 2, 3, 4, 5, 6] (by decide) rfl, hst.2, (hrr0.to (by rw [hst.1, hxs]) rfl), (hrr1.to (by rw [hst.1, hxs]) rfl)⟩
 ·rintro ρ w ⟨m1, gg0, cc0, ccl0, gg1, cc1, ccl1, hag, hI, hm1, hrr0, hrr1⟩
  obtain ⟨ρ, rfl⟩ := hag.form; clear hag
  have hlx : xs.length = m1 := by rw [hxs, mLoads_len, hm1]
  have hlf : (xs.map Prod.fst).length = m1 := by rw [List.length_map, hlx]
  have hls : (xs.map Prod.snd).length = m1 := by rw [List.length_map, hlx]
  have hm6 : m1 ≤ 6 := by rw [hm1, List.length_take]; omega
  refine wp_cut (fun ρ w => ∃ (m2 : Nat) (gg2 : Option Nat) (cc2 : Nat) (ccl2 : List Value), Agree ρ [(2, .pointer (some ⟨b1, 0, none⟩)), (4, .pointer (some ⟨b2, 0, none⟩)), (5, .pointer (some ⟨b3, 0, none⟩)), (6, .pointer (some ⟨b4, 0, none⟩)), (8, .pointer (some ⟨b5, 0, none⟩))] ∧ Inv none w0 w [(gg2, blk ccl2 31), (gg1, blk ccl1 3), (gg0, blk ccl0 30), (some b5, blk [iv (q0 % 200), slv gg1 m1 cc1] 57), (some b3, blk [iv 0, .slice none 0 0] 57), (some b2, blk [iv 0, iv 0, .slice none 0 0, .slice none 0 0, .slice none 0 0, iv 0] 28), (some b1, blk [iv q0, iv q1, .slice rA1 rn1 rc1, .slice rA2 rn2 rc2, .slice rA3 rn3 rc3] 78), (some b4, blk [iv (if ((q0 % 200) - ((q0.tdiv 200) % 9)) > 0 then ((q0 % 200) - ((q0.tdiv 200) % 9)) else 0), iv ((q0 % 200) + ((q0.tdiv 1800) % 9)), slv gg0 m1 cc0, slv gg2 m2 cc2, .slice none 0 0, iv (q1 % 4)] 28)] ∧ (m2 = (ss.take 6).length) ∧ (Row 6 gg2 (m2) cc2 ccl2 (flat eLd (mStands xs (q0 % 200) 0 (ss.take 6))))) ?_ ?_
  ·
   refine wp_seq (rgn (by kernel_rfl) (pu (iv 0) (by kernel_rfl) (seq_nil (wp_block ?_))))
   have hI := hI.nilRow 31
   refine wp_loop (fun m ρ w => ∃ (j : Nat) (gg2 : Option Nat) (cc2 : Nat) (ccl2 : List Value), Agree ρ [(1, .bool true), (2, .pointer (some ⟨b1, 0, none⟩)), (4, .pointer (some ⟨b2, 0, none⟩)), (5, .pointer (some ⟨b3, 0, none⟩)), (6, .pointer (some ⟨b4, 0, none⟩)), (8, .pointer (some ⟨b5, 0, none⟩)), (13, iv (j : Int))] ∧ Inv none w0 w [(gg2, blk ccl2 31), (gg1, blk ccl1 3), (gg0, blk ccl0 30), (some b5, blk [iv (q0 % 200), slv gg1 m1 cc1] 57), (some b3, blk [iv 0, .slice none 0 0] 57), (some b2, blk [iv 0, iv 0, .slice none 0 0, .slice none 0 0, .slice none 0 0, iv 0] 28), (some b1, blk [iv q0, iv q1, .slice rA1 rn1 rc1, .slice rA2 rn2 rc2, .slice rA3 rn3 rc3] 78), (some b4, blk [iv (if ((q0 % 200) - ((q0.tdiv 200) % 9)) > 0 then ((q0 % 200) - ((q0.tdiv 200) % 9)) else 0), iv ((q0 % 200) + ((q0.tdiv 1800) % 9)), slv gg0 m1 cc0, slv gg2 j cc2, .slice none 0 0, iv (q1 % 4)] 28)] ∧ (j ≤ rn2) ∧ (j ≤ 6) ∧ (Row 6 gg2 (j) cc2 ccl2 (flat eLd (mStands xs (q0 % 200) 0 (ss.take j)))) ∧ m = rn2 - j) (m := rn2 - 0) ⟨0, none, 0, [], ⟨rfl, rfl, rfl, rfl, rfl, rfl, rfl, trivial⟩, hI.pickL [0, 1, 2, 3, 4, 5, 6, 7] (by decide) rfl, (by omega), (by omega), (Row.nil_ 6), rfl⟩ ?_
   rintro m ρ w ⟨j, gg2, cc2, ccl2, hag, hI, hj, hj6, hrr2, hm⟩
   obtain ⟨ρ, rfl⟩ := hag.form; clear hag
   refine wp_seq (wp_seq (rgn (by kernel_rfl) (pu (iv (j : Int)) (by kernel_rfl) (pu (.pointer (some ⟨b1, 3, none⟩)) (by kernel_rfl) (seq_c (s_load1 hI 6 (.slice rA2 rn2 rc2) Tryz.isAgg76 rfl rfl rfl ?_))))))
   refine pu (iv ((rn2 : Nat) : Int)) (by kernel_rfl) (seq_c (s_lss rfl rfl ?_ ?_))
   ·intro h7
    refine pu (.bool true) (by kernel_rfl) (puo (iv (j : Int)) ⟨(by kernel_rfl), (by kernel_rfl)⟩ (seq_on (by kernel_rfl) (s_lss rfl rfl ?_ ?_)))
    ·intro h8
     refine pu (.bool true) (by kernel_rfl) (seq_nil (wp_condT rfl (wp_skip (wp_seq (wp_block ?_)))))
     refine wp_seq (rgn (by kernel_rfl) (pu (.pointer (some ⟨b1, 3, none⟩)) (by kernel_rfl) (seq_c (s_load1 hI 6 (.slice rA2 rn2 rc2) Tryz.isAgg76 rfl rfl rfl ?_))))
     refine pu (iv (j : Int)) (by kernel_rfl) ?_
     obtain ⟨x44, hx45⟩ := get_lt (l := ss) (i := j) (by omega)
     obtain ⟨b46, o47, hA48, hb49, he50⟩ := hC2.at_ eA4_len (by decide) hx45
     refine seq_c (s_indexA j Tryz.underlying76 Tryz.sizeOf160 rfl hA48 rfl rfl (by omega) ?_)
     refine seq_c (s_loadBK hI [iv x44.a, iv x44.b, iv x44.c, iv x44.d] Tryz.isAgg160 Tryz.sizeOf160 rfl rfl hb49 (by simp) he50 ?_)
     refine seq_c (s_allocI hI [iv 0, iv 0, iv 0, iv 0] Tryz.zeroValue160 rfl ?_)
     intro b51 w hI
     refine seq_c (s_store hI 0 4 [iv x44.a, iv x44.b, iv x44.c, iv x44.d] Tryz.sizeOf160 rfl rfl rfl rfl rfl (Nat.le_of_ble_eq_true rfl) ?_)
     intro w hI
     refine seq_nil (wp_seq (wp_drawn2 hI [0, 1, 2, 3, 4, 5, 6, 7, 8] (by decide) rfl (by kernel_rfl) (by kernel_rfl) ?_))
     intro hsub
     refine alp 0 (iv (j : Int)) hsub rfl (by kernel_rfl) (fun _ => (by kernel_rfl)) ?_
     refine al_light 1 (iv (21 + (j : Int))) hsub rfl (by kernel_rfl) (fun w hI => s_add rfl rfl (by omega) ⟨rfl, Below.refl _ _⟩) ?_
     refine alp 2 (.pointer (some ⟨b51, 0, none⟩)) hsub rfl (by kernel_rfl) (fun _ => (by kernel_rfl)) ?_
     refine al_light 3 (iv x44.a) hsub rfl (by kernel_rfl) (fun w hI => s_load1 hI 0 (iv x44.a) Tryz.isAgg3 rfl rfl rfl ⟨rfl, Below.refl _ _⟩) ?_
     refine al_light 4 (iv (x44.a % 50)) hsub rfl (by kernel_rfl) (fun w hI => s_call 58 [iv x44.a, iv 50] (by kernel_rfl) (ModC x44.a 50  (by omega) _) (fun v' w' h => h)) ?_
     refine al_light 5 (iv (18 + (x44.a % 50))) hsub rfl (by kernel_rfl) (fun w hI => s_add rfl rfl (by omega) ⟨rfl, Below.refl _ _⟩) ?_
     refine alp 6 (.pointer (some ⟨b51, 3, none⟩)) hsub rfl (by kernel_rfl) (fun _ => (by kernel_rfl)) ?_
     refine al_light 7 (iv x44.d) hsub rfl (by kernel_rfl) (fun w hI => s_load1 hI 0 (iv x44.d) Tryz.isAgg3 rfl rfl rfl ⟨rfl, Below.refl _ _⟩) ?_
     refine al_light 8 (iv (x44.d % 20)) hsub rfl (by kernel_rfl) (fun w hI => s_call 58 [iv x44.d, iv 20] (by kernel_rfl) (ModC x44.d 20  (by omega) _) (fun v' w' h => h)) ?_
     refine alp 9 (.agg #[iv (21 + (j : Int)), iv (18 + (x44.a % 50)), iv 0, iv 0, iv (x44.d % 20), iv 0]) hsub rfl (by kernel_rfl) (fun _ => (by kernel_rfl)) ?_
     refine any_heavy [10] (by kernel_rfl) rfl (each1 ?_)
     intro w hI
     refine ol_c rfl (s_allocI hI [iv 0, iv 0, iv 0, iv 0, iv 0, iv 0] Tryz.zeroValue31 rfl ?_)
     intro b52 w hI
     refine ⟨_, hI, subk (fun _ h => h.pickL [1, 2, 3, 4, 5, 6, 7, 8, 9] (by decide) rfl) ?_⟩
     intro hsub
     refine any_heavy [11] (by kernel_rfl) rfl (each1 ?_)
     intro w hI
     refine ol_c rfl (s_store hI 0 6 [iv (21 + (j : Int)), iv (18 + (x44.a % 50)), iv 0, iv 0, iv (x44.d % 20), iv 0] Tryz.sizeOf31 rfl rfl rfl rfl rfl (Nat.le_of_ble_eq_true rfl) ?_)
     intro w hI
     refine ⟨_, hI, subk (fun _ h => h.pickL [1, 2, 3, 4, 5, 6, 7, 8, 9] (by decide) rfl) ?_⟩
     intro hsub
     refine any_end (by kernel_rfl) (fun w hI => ?_)
     refine wp_seq (rgn (by kernel_rfl) (pu (.pointer (some ⟨b5, 0, none⟩)) (by kernel_rfl) (seq_c (s_load1 hI 5 (iv (q0 % 200)) Tryz.isAgg3 rfl rfl rfl ?_))))
     refine pu (iv (q0 % 200)) (by kernel_rfl) (seq_nil (wp_seq (wp_seq (rgn (by kernel_rfl) (pu (iv 0) (by kernel_rfl) (seq_nil (wp_block ?_)))))))
     refine wp_loop (fun m ρ w => ∃ (i : Nat) (sv : Int), Agree ρ [(1, .bool true), (2, .pointer (some ⟨b1, 0, none⟩)), (4, .pointer (some ⟨b2, 0, none⟩)), (5, .pointer (some ⟨b3, 0, none⟩)), (6, .pointer (some ⟨b4, 0, none⟩)), (8, .pointer (some ⟨b5, 0, none⟩)), (13, iv (j : Int)), (14, .pointer (some ⟨b51, 0, none⟩)), (15, .pointer (some ⟨b52, 0, none⟩)), (16, iv sv), (17, iv (i : Int))] ∧ Inv none w0 w [(some b52, blk [iv (21 + (j : Int)), iv (18 + (x44.a % 50)), iv 0, iv 0, iv (x44.d % 20), iv 0] 31), (some b51, blk [iv x44.a, iv x44.b, iv x44.c, iv x44.d] 160), (gg2, blk ccl2 31), (gg1, blk ccl1 3), (gg0, blk ccl0 30), (some b5, blk [iv (q0 % 200), slv gg1 m1 cc1] 57), (some b3, blk [iv 0, .slice none 0 0] 57), (some b2, blk [iv 0, iv 0, .slice none 0 0, .slice none 0 0, .slice none 0 0, iv 0] 28), (some b1, blk [iv q0, iv q1, .slice rA1 rn1 rc1, .slice rA2 rn2 rc2, .slice rA3 rn3 rc3] 78), (some b4, blk [iv (if ((q0 % 200) - ((q0.tdiv 200) % 9)) > 0 then ((q0 % 200) - ((q0.tdiv 200) % 9)) else 0), iv ((q0 % 200) + ((q0.tdiv 1800) % 9)), slv gg0 m1 cc0, slv gg2 j cc2, .slice none 0 0, iv (q1 % 4)] 28)] ∧ (i ≤ m1) ∧ (sv = thereF (xs.take i) (18 + (x44.a % 50)) (q0 % 200)) ∧ (-(200 * (i : Int)) ≤ sv ∧ sv ≤ 200) ∧ m = m1 - i) (m := m1 - 0) ⟨0, q0 % 200, ⟨rfl, rfl, rfl, rfl, rfl, rfl, rfl, rfl, rfl, rfl, rfl, trivial⟩, hI.pickL [0, 1, 2, 3, 4, 5, 6, 7, 8, 9] (by decide) rfl, (by omega), rfl, (by omega), rfl⟩ ?_
     rintro m ρ w ⟨i, sv, hag, hI, hi, hsv, hsb, hm⟩
     obtain ⟨ρ, rfl⟩ := hag.form; clear hag
     refine wp_seq (wp_seq (rgn (by kernel_rfl) (pu (iv (i : Int)) (by kernel_rfl) (pu (.pointer (some ⟨b4, 2, none⟩)) (by kernel_rfl) (seq_c (s_load1 hI 9 (slv gg0 m1 cc0) Tryz.isAgg24 rfl rfl rfl ?_))))))
     refine pu (iv ((m1 : Nat) : Int)) (by kernel_rfl) (seq_c (s_lss rfl rfl ?_ ?_))
     ·intro h9
      refine seq_nil (wp_condT rfl (wp_skip (wp_seq (wp_block ?_))))
      refine wp_seq (wp_drawn2 hI [0, 1, 2, 3, 4, 5, 6, 7, 8, 9] (by decide) rfl (by kernel_rfl) (by kernel_rfl) ?_)
      intro hsub
      refine alp 0 (.pointer (some ⟨b4, 2, none⟩)) hsub rfl (by kernel_rfl) (fun _ => (by kernel_rfl)) ?_
      refine al_light 1 (slv gg0 m1 cc0) hsub rfl (by kernel_rfl) (fun w hI => s_load1 hI 9 (slv gg0 m1 cc0) Tryz.isAgg24 rfl rfl rfl ⟨rfl, Below.refl _ _⟩) ?_
      refine alp 2 (iv (i : Int)) hsub rfl (by kernel_rfl) (fun _ => (by kernel_rfl)) ?_
      obtain ⟨x53, hx54⟩ := get_lt (l := xs.map Prod.fst) (i := i) (by omega)
      obtain ⟨b55, rfl, he56⟩ := hrr0.at_ eLd_len (by decide) hx54
      refine al_light 3 (.pointer (some ⟨b55, i * 6, none⟩)) hsub rfl (by kernel_rfl) (fun w hI => s_indexR i Tryz.underlying24 Tryz.sizeOf30 rfl rfl rfl (by omega) ⟨rfl, Below.refl _ _⟩) ?_
      refine alp 4 (.pointer (some ⟨b55, i * 6 + 1, none⟩)) hsub rfl (by kernel_rfl) (fun _ => (by kernel_rfl)) ?_
      refine al_light 5 (iv x53.hr) hsub rfl (by kernel_rfl) (fun w hI => s_loadR1 hI 4 (iv x53.hr) Tryz.isAgg3 rfl rfl (he56 1 _ rfl) ⟨rfl, Below.refl _ _⟩) ?_
      refine alp 6 (.pointer (some ⟨b52, 1, none⟩)) hsub rfl (by kernel_rfl) (fun _ => (by kernel_rfl)) ?_
      refine al_light 7 (iv (18 + (x44.a % 50))) hsub rfl (by kernel_rfl) (fun w hI => s_load1 hI 0 (iv (18 + (x44.a % 50))) Tryz.isAgg3 rfl rfl rfl ⟨rfl, Below.refl _ _⟩) ?_
      by_cases h10 : x53.hr ≤ (18 + (x44.a % 50))
      ·refine al_light 8 (.bool true) hsub rfl (by kernel_rfl) (fun w hI => s_leq rfl rfl (fun _ => ⟨rfl, Below.refl _ _⟩) (fun h => absurd h10 h)) ?_
       refine any_end (by kernel_rfl) (fun w hI => ?_)
       refine wp_condT rfl (rgn (by kernel_rfl) (pu (iv sv) (by kernel_rfl) (pu (.pointer (some ⟨b5, 1, none⟩)) (by kernel_rfl) (seq_c (s_load1 hI 5 (slv gg1 m1 cc1) Tryz.isAgg41 rfl rfl rfl ?_)))))
       refine pu (iv (i : Int)) (by kernel_rfl) ?_
       obtain ⟨x57, hx58⟩ := get_lt (l := xs.map Prod.snd) (i := i) (by omega)
       obtain ⟨b59, rfl, he60⟩ := hrr1.at_ eInt_len (by decide) hx58
       refine seq_c (s_indexR i Tryz.underlying41 Tryz.sizeOf3 rfl rfl rfl (by omega) ?_)
       refine seq_c (s_loadR1 hI 3 (iv x57) Tryz.isAgg3 rfl rfl (he60 0 _ rfl) ?_)
       refine seq_c (s_sub rfl rfl (by have hz := htk _ (mem_of_get hx58); omega) ?_)
       refine pu (iv (sv - x57)) (by kernel_rfl) (seq_nil (rgn (by kernel_rfl) (pu (iv (i : Int)) (by kernel_rfl) (seq_c (s_add rfl rfl (by omega) ?_)))))
       refine pu (iv ((i : Int) + 1)) (by kernel_rfl) (seq_nil ?_)
       have hz := htk _ (mem_of_get hx58)
       exact ⟨rfl, _, (by omega), ⟨i + 1, sv - x57, ⟨rfl, rfl, rfl, rfl, rfl, rfl, rfl, rfl, rfl, rfl, rfl, trivial⟩, hI.pickL [0, 1, 2, 3, 4, 5, 6, 7, 8, 9] (by decide) rfl, (by omega), (by rw [there_on hx54 hx58 (by assumption), ← hsv]), (by omega), rfl⟩⟩
      ·refine al_light 8 (.bool false) hsub rfl (by kernel_rfl) (fun w hI => s_leq rfl rfl (fun h => absurd h h10) (fun _ => ⟨rfl, Below.refl _ _⟩)) ?_
       refine any_end (by kernel_rfl) (fun w hI => ?_)
       refine wp_condF rfl (wp_skip (rgn (by kernel_rfl) (pu (iv (i : Int)) (by kernel_rfl) (seq_c (s_add rfl rfl (by omega) ?_)))))
       refine pu (iv ((i : Int) + 1)) (by kernel_rfl) (seq_nil ?_)
       exact ⟨rfl, _, (by omega), ⟨i + 1, sv, ⟨rfl, rfl, rfl, rfl, rfl, rfl, rfl, rfl, rfl, rfl, rfl, trivial⟩, hI.pickL [0, 1, 2, 3, 4, 5, 6, 7, 8, 9] (by decide) rfl, (by omega), (by rw [there_off hx54 (by assumption)]; exact hsv), (by omega), rfl⟩⟩
     ·intro h11
      refine seq_nil (wp_condF rfl (wp_exit ?_))
      refine wp_seq (wp_seq (rgn (by kernel_rfl) (pu (.bool true) (by kernel_rfl) (pu (.bool false) (by kernel_rfl) (seq_nil (wp_condF rfl (wp_skip (wp_seq ?_))))))))
      replace hI := hI.pickL [1, 2, 3, 4, 5, 6, 7, 8, 9, 0] (by decide) rfl
      refine wp_drawn2 hI [0, 1, 2, 3, 4, 5, 6, 7, 8] (by decide) rfl (by kernel_rfl) (by kernel_rfl) ?_
      intro hsub
      refine alp 0 (iv sv) hsub rfl (by kernel_rfl) (fun _ => (by kernel_rfl)) ?_
      refine alp 1 (.pointer (some ⟨b51, 2, none⟩)) hsub rfl (by kernel_rfl) (fun _ => (by kernel_rfl)) ?_
      refine al_light 2 (iv x44.c) hsub rfl (by kernel_rfl) (fun w hI => s_load1 hI 0 (iv x44.c) Tryz.isAgg3 rfl rfl rfl ⟨rfl, Below.refl _ _⟩) ?_
      refine al_light 3 (iv (x44.c % 12)) hsub rfl (by kernel_rfl) (fun w hI => s_call 58 [iv x44.c, iv 12] (by kernel_rfl) (ModC x44.c 12  (by omega) _) (fun v' w' h => h)) ?_
      refine al_light 4 (iv (sv - (x44.c % 12))) hsub rfl (by kernel_rfl) (fun w hI => s_sub rfl rfl (by omega) ⟨rfl, Below.refl _ _⟩) ?_
      refine alp 5 (iv (if (sv - (x44.c % 12)) > 0 then (sv - (x44.c % 12)) else 0)) hsub rfl (by kernel_rfl) (fun _ => (by kernel_rfl)) ?_
      refine alp 6 (iv sv) hsub rfl (by kernel_rfl) (fun _ => (by kernel_rfl)) ?_
      refine alp 7 (.pointer (some ⟨b51, 2, none⟩)) hsub rfl (by kernel_rfl) (fun _ => (by kernel_rfl)) ?_
      refine al_light 8 (iv x44.c) hsub rfl (by kernel_rfl) (fun w hI => s_load1 hI 0 (iv x44.c) Tryz.isAgg3 rfl rfl rfl ⟨rfl, Below.refl _ _⟩) ?_
      refine al_light 9 (iv (x44.c.tdiv 12)) hsub rfl (by kernel_rfl) (fun w hI => s_quo rfl rfl (by decide) (hok_ss _ (mem_of_get hx45)) ⟨rfl, Below.refl _ _⟩) ?_
      refine al_light 10 (iv ((x44.c.tdiv 12) % 12)) hsub rfl (by kernel_rfl) (fun w hI => s_call 58 [iv (x44.c.tdiv 12), iv 12] (by kernel_rfl) (ModC (x44.c.tdiv 12) 12  (by omega) _) (fun v' w' h => h)) ?_
      refine al_light 11 (iv (sv + ((x44.c.tdiv 12) % 12))) hsub rfl (by kernel_rfl) (fun w hI => s_add rfl rfl (by omega) ⟨rfl, Below.refl _ _⟩) ?_
      refine alp 12 (.agg #[iv (if (sv - (x44.c % 12)) > 0 then (sv - (x44.c % 12)) else 0), iv (sv + ((x44.c.tdiv 12) % 12))]) hsub rfl (by kernel_rfl) (fun _ => (by kernel_rfl)) ?_
      refine alp 13 (.pointer (some ⟨b52, 2, none⟩)) hsub rfl (by kernel_rfl) (fun _ => (by kernel_rfl)) ?_
      refine any_heavy [14] (by kernel_rfl) rfl (each1 ?_)
      intro w hI
      refine ol_c rfl (s_store hI 9 2 [iv (if (sv - (x44.c % 12)) > 0 then (sv - (x44.c % 12)) else 0), iv (sv + ((x44.c.tdiv 12) % 12))] Tryz.sizeOf23 rfl rfl rfl rfl rfl (Nat.le_of_ble_eq_true rfl) ?_)
      intro w hI
      refine ⟨_, hI, subk (fun _ h => h.pickL [0, 1, 2, 3, 4, 5, 6, 7, 8] (by decide) rfl) ?_⟩
      intro hsub
      refine any_end (by kernel_rfl) (fun w hI => ?_)
      refine rgn (by kernel_rfl) (pu (.pointer (some ⟨b4, 3, none⟩)) (by kernel_rfl) (seq_c (s_load1 hI 8 (slv gg2 j cc2) Tryz.isAgg25 rfl rfl rfl ?_)))
      refine seq_c (s_loadK hI 9 6 [iv (21 + (j : Int)), iv (18 + (x44.a % 50)), iv (if (sv - (x44.c % 12)) > 0 then (sv - (x44.c % 12)) else 0), iv (sv + ((x44.c.tdiv 12) % 12)), iv (x44.d % 20), iv 0] Tryz.isAgg31 Tryz.sizeOf31 rfl rfl rfl rfl ?_)
      refine seq_c (s_new hI [iv (21 + (j : Int)), iv (18 + (x44.a % 50)), iv (if (sv - (x44.c % 12)) > 0 then (sv - (x44.c % 12)) else 0), iv (sv + ((x44.c.tdiv 12) % 12)), iv (x44.d % 20), iv 0] 31 (fun b => slv (some b) 1 1) (by kernel_rfl) ?_)
      intro b61 w hI
      refine seq_c (s_app hI Tryz.underlying25 (z := .agg #[iv 0, iv 0, iv 0, iv 0, iv 0, iv 0]) (k := 6) (bytes := 48) (by kernel_rfl) rfl rfl 2 rfl rfl hrr2 [iv (21 + (j : Int)), iv (18 + (x44.a % 50)), iv (if (sv - (x44.c % 12)) > 0 then (sv - (x44.c % 12)) else 0), iv (sv + ((x44.c.tdiv 12) % 12)), iv (x44.d % 20), iv 0] rfl rfl (hI.cells 0 (off := 0) rfl (fun j u h => by rw [Nat.zero_add]; exact h)) (by simp [Value.oneCell']) (by omega) (by omega) ?_)
      intro g62 c63 cl64 w hI r65
      have r65 : Row 6 g62 (j + 1) c63 cl64 (flat eLd ((mStands xs (q0 % 200) 0 (ss.take j)) ++ [(⟨21 + (j : Int), 18 + (x44.a % 50), if (sv - (x44.c % 12)) > 0 then (sv - (x44.c % 12)) else 0, sv + ((x44.c.tdiv 12) % 12), x44.d % 20, 0⟩ : Ld)])) := r65.snoc _ rfl
      refine pu (.pointer (some ⟨b4, 3, none⟩)) (by kernel_rfl) (seq_c (s_store hI 9 1 [slv g62 (j + 1) c63] Tryz.sizeOf25 rfl rfl rfl rfl rfl (Nat.le_of_ble_eq_true rfl) ?_))
      intro w hI
      refine seq_nil (rgn (by kernel_rfl) (pu (iv (j : Int)) (by kernel_rfl) (seq_c (s_add rfl rfl (by omega) ?_))))
      refine pu (iv ((j : Int) + 1)) (by kernel_rfl) (seq_nil ?_)
      have hsw : sv = thereF xs (18 + x44.a % 50) (q0 % 200) := by rw [hsv, there_all (by omega)]
      have hm := made2 hx45 hsw
      exact ⟨rfl, _, (by omega), ⟨j + 1, g62, c63, cl64, ⟨rfl, rfl, rfl, rfl, rfl, rfl, rfl, trivial⟩, hI.pickL [2, 3, 4, 5, 6, 7, 8, 9] (by decide) rfl, (by omega), (by omega), (r65.to hm rfl), rfl⟩⟩
    ·intro h12
     refine pu (.bool false) (by kernel_rfl) (seq_nil (wp_condF rfl (wp_exit ?_)))
     have hst := take_stop (l := ss) (k := j) (m := 6) (by omega) (by omega) (by omega)
     exact ⟨rfl, j, gg2, cc2, ccl2, ⟨rfl, rfl, rfl, rfl, rfl, trivial⟩, hI.pickL [0, 1, 2, 3, 4, 5, 6, 7] (by decide) rfl, hst.2, (hrr2.to (by rw [hst.1]) rfl)⟩
   ·intro h13
    refine pu (.bool false) (by kernel_rfl) (of_ (by kernel_rfl) (of_ (by kernel_rfl) (pu (.bool false) (by kernel_rfl) (seq_nil (wp_condF rfl (wp_exit ?_))))))
    have hst := take_stop (l := ss) (k := j) (m := 6) (by omega) (by omega) (by omega)
    exact ⟨rfl, j, gg2, cc2, ccl2, ⟨rfl, rfl, rfl, rfl, rfl, trivial⟩, hI.pickL [0, 1, 2, 3, 4, 5, 6, 7] (by decide) rfl, hst.2, (hrr2.to (by rw [hst.1]) rfl)⟩
  ·rintro ρ w ⟨m2, gg2, cc2, ccl2, hag, hI, hm2, hrr2⟩
   obtain ⟨ρ, rfl⟩ := hag.form; clear hag
   refine wp_cut (fun ρ w => ∃ (m3 : Nat) (gg3 : Option Nat) (cc3 : Nat) (ccl3 : List Value), Agree ρ [(4, .pointer (some ⟨b2, 0, none⟩)), (5, .pointer (some ⟨b3, 0, none⟩)), (6, .pointer (some ⟨b4, 0, none⟩)), (8, .pointer (some ⟨b5, 0, none⟩))] ∧ Inv none w0 w [(gg3, blk ccl3 33), (gg2, blk ccl2 31), (gg1, blk ccl1 3), (gg0, blk ccl0 30), (some b5, blk [iv (q0 % 200), slv gg1 m1 cc1] 57), (some b3, blk [iv 0, .slice none 0 0] 57), (some b2, blk [iv 0, iv 0, .slice none 0 0, .slice none 0 0, .slice none 0 0, iv 0] 28), (some b1, blk [iv q0, iv q1, .slice rA1 rn1 rc1, .slice rA2 rn2 rc2, .slice rA3 rn3 rc3] 78), (some b4, blk [iv (if ((q0 % 200) - ((q0.tdiv 200) % 9)) > 0 then ((q0 % 200) - ((q0.tdiv 200) % 9)) else 0), iv ((q0 % 200) + ((q0.tdiv 1800) % 9)), slv gg0 m1 cc0, slv gg2 m2 cc2, slv gg3 m3 cc3, iv (q1 % 4)] 28)] ∧ (m3 = (ps.take 4).length) ∧ (Row 6 gg3 (m3) cc3 ccl3 (flat eSp (mSpells 0 (ps.take 4))))) ?_ ?_
   ·
    refine wp_seq (rgn (by kernel_rfl) (pu (iv 0) (by kernel_rfl) (seq_nil (wp_block ?_))))
    have hI := hI.nilRow 33
    refine wp_loop (fun m ρ w => ∃ (j : Nat) (gg3 : Option Nat) (cc3 : Nat) (ccl3 : List Value), Agree ρ [(2, .pointer (some ⟨b1, 0, none⟩)), (4, .pointer (some ⟨b2, 0, none⟩)), (5, .pointer (some ⟨b3, 0, none⟩)), (6, .pointer (some ⟨b4, 0, none⟩)), (8, .pointer (some ⟨b5, 0, none⟩)), (18, iv (j : Int))] ∧ Inv none w0 w [(gg3, blk ccl3 33), (gg2, blk ccl2 31), (gg1, blk ccl1 3), (gg0, blk ccl0 30), (some b5, blk [iv (q0 % 200), slv gg1 m1 cc1] 57), (some b3, blk [iv 0, .slice none 0 0] 57), (some b2, blk [iv 0, iv 0, .slice none 0 0, .slice none 0 0, .slice none 0 0, iv 0] 28), (some b1, blk [iv q0, iv q1, .slice rA1 rn1 rc1, .slice rA2 rn2 rc2, .slice rA3 rn3 rc3] 78), (some b4, blk [iv (if ((q0 % 200) - ((q0.tdiv 200) % 9)) > 0 then ((q0 % 200) - ((q0.tdiv 200) % 9)) else 0), iv ((q0 % 200) + ((q0.tdiv 1800) % 9)), slv gg0 m1 cc0, slv gg2 m2 cc2, slv gg3 j cc3, iv (q1 % 4)] 28)] ∧ (j ≤ rn3) ∧ (j ≤ 4) ∧ (Row 6 gg3 (j) cc3 ccl3 (flat eSp (mSpells 0 (ps.take j)))) ∧ m = rn3 - j) (m := rn3 - 0) ⟨0, none, 0, [], ⟨rfl, rfl, rfl, rfl, rfl, rfl, trivial⟩, hI.pickL [0, 1, 2, 3, 4, 5, 6, 7, 8] (by decide) rfl, (by omega), (by omega), (Row.nil_ 6), rfl⟩ ?_
    rintro m ρ w ⟨j, gg3, cc3, ccl3, hag, hI, hj, hj6, hrr3, hm⟩
    obtain ⟨ρ, rfl⟩ := hag.form; clear hag
    refine wp_seq (wp_seq (rgn (by kernel_rfl) (pu (iv (j : Int)) (by kernel_rfl) (pu (.pointer (some ⟨b1, 4, none⟩)) (by kernel_rfl) (seq_c (s_load1 hI 7 (.slice rA3 rn3 rc3) Tryz.isAgg76 rfl rfl rfl ?_))))))
    refine pu (iv ((rn3 : Nat) : Int)) (by kernel_rfl) (seq_c (s_lss rfl rfl ?_ ?_))
    ·intro h14
     refine pu (.bool true) (by kernel_rfl) (puo (iv (j : Int)) ⟨(by kernel_rfl), (by kernel_rfl)⟩ (seq_on (by kernel_rfl) (s_lss rfl rfl ?_ ?_)))
     ·intro h15
      refine pu (.bool true) (by kernel_rfl) (seq_nil (wp_condT rfl (wp_skip (wp_seq (wp_block ?_)))))
      refine wp_seq (rgn (by kernel_rfl) (pu (.pointer (some ⟨b1, 4, none⟩)) (by kernel_rfl) (seq_c (s_load1 hI 7 (.slice rA3 rn3 rc3) Tryz.isAgg76 rfl rfl rfl ?_))))
      refine pu (iv (j : Int)) (by kernel_rfl) ?_
      obtain ⟨x66, hx67⟩ := get_lt (l := ps) (i := j) (by omega)
      obtain ⟨b68, o69, hA70, hb71, he72⟩ := hC3.at_ eA4_len (by decide) hx67
      refine seq_c (s_indexA j Tryz.underlying76 Tryz.sizeOf160 rfl hA70 rfl rfl (by omega) ?_)
      refine seq_c (s_loadBK hI [iv x66.a, iv x66.b, iv x66.c, iv x66.d] Tryz.isAgg160 Tryz.sizeOf160 rfl rfl hb71 (by simp) he72 ?_)
      refine seq_c (s_allocI hI [iv 0, iv 0, iv 0, iv 0] Tryz.zeroValue160 rfl ?_)
      intro b73 w hI
      refine seq_c (s_store hI 0 4 [iv x66.a, iv x66.b, iv x66.c, iv x66.d] Tryz.sizeOf160 rfl rfl rfl rfl rfl (Nat.le_of_ble_eq_true rfl) ?_)
      intro w hI
      refine seq_nil (wp_seq (wp_drawn2 hI [0, 1, 2, 3, 4, 5, 6, 7, 8, 9] (by decide) rfl (by kernel_rfl) (by kernel_rfl) ?_))
      intro hsub
      refine alp 0 (iv (j : Int)) hsub rfl (by kernel_rfl) (fun _ => (by kernel_rfl)) ?_
      refine al_light 1 (iv (41 + (j : Int))) hsub rfl (by kernel_rfl) (fun w hI => s_add rfl rfl (by omega) ⟨rfl, Below.refl _ _⟩) ?_
      refine alp 2 (.pointer (some ⟨b73, 0, none⟩)) hsub rfl (by kernel_rfl) (fun _ => (by kernel_rfl)) ?_
      refine al_light 3 (iv x66.a) hsub rfl (by kernel_rfl) (fun w hI => s_load1 hI 0 (iv x66.a) Tryz.isAgg3 rfl rfl rfl ⟨rfl, Below.refl _ _⟩) ?_
      refine al_light 4 (iv (x66.a % 2)) hsub rfl (by kernel_rfl) (fun w hI => s_call 58 [iv x66.a, iv 2] (by kernel_rfl) (ModC x66.a 2  (by omega) _) (fun v' w' h => h)) ?_
      refine al_light 5 (iv (1 + (x66.a % 2))) hsub rfl (by kernel_rfl) (fun w hI => s_add rfl rfl (by omega) ⟨rfl, Below.refl _ _⟩) ?_
      refine alp 6 (.pointer (some ⟨b73, 1, none⟩)) hsub rfl (by kernel_rfl) (fun _ => (by kernel_rfl)) ?_
      refine al_light 7 (iv x66.b) hsub rfl (by kernel_rfl) (fun w hI => s_load1 hI 0 (iv x66.b) Tryz.isAgg3 rfl rfl rfl ⟨rfl, Below.refl _ _⟩) ?_
      refine al_light 8 (iv (x66.b % 90)) hsub rfl (by kernel_rfl) (fun w hI => s_call 58 [iv x66.b, iv 90] (by kernel_rfl) (ModC x66.b 90  (by omega) _) (fun v' w' h => h)) ?_
      refine al_light 9 (iv (20 + (x66.b % 90))) hsub rfl (by kernel_rfl) (fun w hI => s_add rfl rfl (by omega) ⟨rfl, Below.refl _ _⟩) ?_
      refine alp 10 (.pointer (some ⟨b73, 3, none⟩)) hsub rfl (by kernel_rfl) (fun _ => (by kernel_rfl)) ?_
      refine al_light 11 (iv x66.d) hsub rfl (by kernel_rfl) (fun w hI => s_load1 hI 0 (iv x66.d) Tryz.isAgg3 rfl rfl rfl ⟨rfl, Below.refl _ _⟩) ?_
      refine al_light 12 (iv (x66.d % 20)) hsub rfl (by kernel_rfl) (fun w hI => s_call 58 [iv x66.d, iv 20] (by kernel_rfl) (ModC x66.d 20  (by omega) _) (fun v' w' h => h)) ?_
      refine alp 13 (.agg #[iv (41 + (j : Int)), iv (1 + (x66.a % 2)), iv (20 + (x66.b % 90)), iv 0, iv (x66.d % 20), iv 0]) hsub rfl (by kernel_rfl) (fun _ => (by kernel_rfl)) ?_
      refine any_heavy [14] (by kernel_rfl) rfl (each1 ?_)
      intro w hI
      refine ol_c rfl (s_allocI hI [iv 0, iv 0, iv 0, iv 0, iv 0, iv 0] Tryz.zeroValue33 rfl ?_)
      intro b74 w hI
      refine ⟨_, hI, subk (fun _ h => h.pickL [1, 2, 3, 4, 5, 6, 7, 8, 9, 10] (by decide) rfl) ?_⟩
      intro hsub
      refine any_heavy [15] (by kernel_rfl) rfl (each1 ?_)
      intro w hI
      refine ol_c rfl (s_store hI 0 6 [iv (41 + (j : Int)), iv (1 + (x66.a % 2)), iv (20 + (x66.b % 90)), iv 0, iv (x66.d % 20), iv 0] Tryz.sizeOf33 rfl rfl rfl rfl rfl (Nat.le_of_ble_eq_true rfl) ?_)
      intro w hI
      refine ⟨_, hI, subk (fun _ h => h.pickL [1, 2, 3, 4, 5, 6, 7, 8, 9, 10] (by decide) rfl) ?_⟩
      intro hsub
      refine any_end (by kernel_rfl) (fun w hI => ?_)
      refine wp_seq ?_
      replace hI := hI.pickL [1, 2, 3, 4, 5, 6, 7, 8, 9, 10, 0] (by decide) rfl
      refine wp_drawn2 hI [0, 1, 2, 3, 4, 5, 6, 7, 8, 9] (by decide) rfl (by kernel_rfl) (by kernel_rfl) ?_
      intro hsub
      refine alp 0 (.pointer (some ⟨b74, 2, none⟩)) hsub rfl (by kernel_rfl) (fun _ => (by kernel_rfl)) ?_
      refine alp 2 (.pointer (some ⟨b73, 2, none⟩)) hsub rfl (by kernel_rfl) (fun _ => (by kernel_rfl)) ?_
      refine al_light 3 (iv x66.c) hsub rfl (by kernel_rfl) (fun w hI => s_load1 hI 0 (iv x66.c) Tryz.isAgg3 rfl rfl rfl ⟨rfl, Below.refl _ _⟩) ?_
      refine al_light 4 (iv (x66.c % 12)) hsub rfl (by kernel_rfl) (fun w hI => s_call 58 [iv x66.c, iv 12] (by kernel_rfl) (ModC x66.c 12  (by omega) _) (fun v' w' h => h)) ?_
      refine any_heavy [1] (by kernel_rfl) rfl (each1 ?_)
      intro w hI
      refine ol_c rfl (s_load1 hI 10 (iv (20 + (x66.b % 90))) Tryz.isAgg3 rfl rfl rfl ?_)
      refine ⟨_, hI, subk (fun _ h => h.pickL [0, 1, 2, 3, 4, 5, 6, 7, 8, 9] (by decide) rfl) ?_⟩
      intro hsub
      refine al_light 5 (iv ((20 + (x66.b % 90)) + (x66.c % 12))) hsub rfl (by kernel_rfl) (fun w hI => s_add rfl rfl (by omega) ⟨rfl, Below.refl _ _⟩) ?_
      refine alp 6 (.pointer (some ⟨b74, 3, none⟩)) hsub rfl (by kernel_rfl) (fun _ => (by kernel_rfl)) ?_
      refine any_heavy [7] (by kernel_rfl) rfl (each1 ?_)
      intro w hI
      refine ol_c rfl (s_store hI 10 1 [iv ((20 + (x66.b % 90)) + (x66.c % 12))] Tryz.sizeOf3 rfl rfl rfl rfl rfl (Nat.le_of_ble_eq_true rfl) ?_)
      intro w hI
      refine ⟨_, hI, subk (fun _ h => h.pickL [0, 1, 2, 3, 4, 5, 6, 7, 8, 9] (by decide) rfl) ?_⟩
      intro hsub
      refine any_end (by kernel_rfl) (fun w hI => ?_)
      refine rgn (by kernel_rfl) (pu (.pointer (some ⟨b4, 4, none⟩)) (by kernel_rfl) (seq_c (s_load1 hI 9 (slv gg3 j cc3) Tryz.isAgg26 rfl rfl rfl ?_)))
      refine seq_c (s_loadK hI 10 6 [iv (41 + (j : Int)), iv (1 + (x66.a % 2)), iv (20 + (x66.b % 90)), iv ((20 + (x66.b % 90)) + (x66.c % 12)), iv (x66.d % 20), iv 0] Tryz.isAgg33 Tryz.sizeOf33 rfl rfl rfl rfl ?_)
      refine seq_c (s_new hI [iv (41 + (j : Int)), iv (1 + (x66.a % 2)), iv (20 + (x66.b % 90)), iv ((20 + (x66.b % 90)) + (x66.c % 12)), iv (x66.d % 20), iv 0] 33 (fun b => slv (some b) 1 1) (by kernel_rfl) ?_)
      intro b75 w hI
      refine seq_c (s_app hI Tryz.underlying26 (z := .agg #[iv 0, iv 0, iv 0, iv 0, iv 0, iv 0]) (k := 6) (bytes := 48) (by kernel_rfl) rfl rfl 2 rfl rfl hrr3 [iv (41 + (j : Int)), iv (1 + (x66.a % 2)), iv (20 + (x66.b % 90)), iv ((20 + (x66.b % 90)) + (x66.c % 12)), iv (x66.d % 20), iv 0] rfl rfl (hI.cells 0 (off := 0) rfl (fun j u h => by rw [Nat.zero_add]; exact h)) (by simp [Value.oneCell']) (by omega) (by omega) ?_)
      intro g76 c77 cl78 w hI r79
      have r79 : Row 6 g76 (j + 1) c77 cl78 (flat eSp ((mSpells 0 (ps.take j)) ++ [(⟨41 + (j : Int), 1 + (x66.a % 2), 20 + (x66.b % 90), (20 + (x66.b % 90)) + (x66.c % 12), x66.d % 20, 0⟩ : Sp)])) := r79.snoc _ rfl
      refine pu (.pointer (some ⟨b4, 4, none⟩)) (by kernel_rfl) (seq_c (s_store hI 10 1 [slv g76 (j + 1) c77] Tryz.sizeOf26 rfl rfl rfl rfl rfl (Nat.le_of_ble_eq_true rfl) ?_))
      intro w hI
      refine seq_nil (rgn (by kernel_rfl) (pu (iv (j : Int)) (by kernel_rfl) (seq_c (s_add rfl rfl (by omega) ?_))))
      refine pu (iv ((j : Int) + 1)) (by kernel_rfl) (seq_nil ?_)
      have hm := made3 hx67
      exact ⟨rfl, _, (by omega), ⟨j + 1, g76, c77, cl78, ⟨rfl, rfl, rfl, rfl, rfl, rfl, trivial⟩, hI.pickL [2, 3, 4, 5, 6, 7, 8, 9, 10] (by decide) rfl, (by omega), (by omega), (r79.to hm rfl), rfl⟩⟩
     ·intro h16
      refine pu (.bool false) (by kernel_rfl) (seq_nil (wp_condF rfl (wp_exit ?_)))
      have hst := take_stop (l := ps) (k := j) (m := 4) (by omega) (by omega) (by omega)
      exact ⟨rfl, j, gg3, cc3, ccl3, ⟨rfl, rfl, rfl, rfl, trivial⟩, hI.pickL [0, 1, 2, 3, 4, 5, 6, 7, 8] (by decide) rfl, hst.2, (hrr3.to (by rw [hst.1]) rfl)⟩
    ·intro h17
     refine pu (.bool false) (by kernel_rfl) (of_ (by kernel_rfl) (of_ (by kernel_rfl) (pu (.bool false) (by kernel_rfl) (seq_nil (wp_condF rfl (wp_exit ?_))))))
     have hst := take_stop (l := ps) (k := j) (m := 4) (by omega) (by omega) (by omega)
     exact ⟨rfl, j, gg3, cc3, ccl3, ⟨rfl, rfl, rfl, rfl, trivial⟩, hI.pickL [0, 1, 2, 3, 4, 5, 6, 7, 8] (by decide) rfl, hst.2, (hrr3.to (by rw [hst.1]) rfl)⟩
   ·rintro ρ w ⟨m3, gg3, cc3, ccl3, hag, hI, hm3, hrr3⟩
    obtain ⟨ρ, rfl⟩ := hag.form; clear hag
    have hL1 : m1 = (madeF q0 q1 ls ss ps).loads.length := by show m1 = (List.map Prod.fst (mLoads 0 20 (q0 % 200) (ls.take 6))).length; rw [← hxs, hlf]
    have hL2 : m2 = (madeF q0 q1 ls ss ps).stands.length := by show m2 = (mStands _ _ _ _).length; rw [mStands_len, hm2]
    have hL3 : m3 = (madeF q0 q1 ls ss ps).spells.length := by show m3 = (mSpells _ _).length; rw [mSpells_len, hm3]
    have hL4 : m1 = ((mLoads 0 20 (q0 % 200) (ls.take 6)).map Prod.snd).length := by rw [← hxs, hls]
    refine wp_seq ?_
    replace hI := hI.pickL [0, 1, 2, 3, 4, 7, 8, 5, 6] (by decide) rfl
    refine wp_drawn2 hI [0, 1, 2, 3, 4, 5, 6] (by decide) rfl (by kernel_rfl) (by kernel_rfl) ?_
    intro hsub
    refine al_light 0 (.agg #[iv (if ((q0 % 200) - ((q0.tdiv 200) % 9)) > 0 then ((q0 % 200) - ((q0.tdiv 200) % 9)) else 0), iv ((q0 % 200) + ((q0.tdiv 1800) % 9)), slv gg0 m1 cc0, slv gg2 m2 cc2, slv gg3 m3 cc3, iv (q1 % 4)]) hsub rfl (by kernel_rfl) (fun w hI => s_loadK hI 6 6 [iv (if ((q0 % 200) - ((q0.tdiv 200) % 9)) > 0 then ((q0 % 200) - ((q0.tdiv 200) % 9)) else 0), iv ((q0 % 200) + ((q0.tdiv 1800) % 9)), slv gg0 m1 cc0, slv gg2 m2 cc2, slv gg3 m3 cc3, iv (q1 % 4)] Tryz.isAgg28 Tryz.sizeOf28 rfl rfl rfl rfl ⟨rfl, Below.refl _ _⟩) ?_
    refine al_light 1 (.agg #[iv (q0 % 200), slv gg1 m1 cc1]) hsub rfl (by kernel_rfl) (fun w hI => s_loadK hI 4 2 [iv (q0 % 200), slv gg1 m1 cc1] Tryz.isAgg57 Tryz.sizeOf57 rfl rfl rfl rfl ⟨rfl, Below.refl _ _⟩) ?_
    refine any_heavy [2] (by kernel_rfl) rfl (each1 ?_)
    intro w hI
    refine ol_c rfl (s_store hI 8 6 [iv (if ((q0 % 200) - ((q0.tdiv 200) % 9)) > 0 then ((q0 % 200) - ((q0.tdiv 200) % 9)) else 0), iv ((q0 % 200) + ((q0.tdiv 1800) % 9)), slv gg0 m1 cc0, slv gg2 m2 cc2, slv gg3 m3 cc3, iv (q1 % 4)] Tryz.sizeOf28 rfl rfl rfl rfl rfl (Nat.le_of_ble_eq_true rfl) ?_)
    intro w hI
    refine ⟨_, hI, subk (fun _ h => h.pickL [0, 1, 2, 3, 4, 5, 6] (by decide) rfl) ?_⟩
    intro hsub
    refine any_heavy [3] (by kernel_rfl) rfl (each1 ?_)
    intro w hI
    refine ol_c rfl (s_store hI 7 2 [iv (q0 % 200), slv gg1 m1 cc1] Tryz.sizeOf57 rfl rfl rfl rfl rfl (Nat.le_of_ble_eq_true rfl) ?_)
    intro w hI
    refine ⟨_, hI, subk (fun _ h => h.pickL [0, 1, 2, 3, 4, 5, 6] (by decide) rfl) ?_⟩
    intro hsub
    refine any_end (by kernel_rfl) (fun w hI => ?_)
    refine wp_ret ?_
    exact ⟨.tuple #[.agg #[iv (if ((q0 % 200) - ((q0.tdiv 200) % 9)) > 0 then ((q0 % 200) - ((q0.tdiv 200) % 9)) else 0), iv ((q0 % 200) + ((q0.tdiv 1800) % 9)), slv gg0 m1 cc0, slv gg2 m2 cc2, slv gg3 m3 cc3, iv (q1 % 4)], .agg #[iv (q0 % 200), slv gg1 m1 cc1]], Ret.cc rfl rfl (run_loadK hI 8 6 [iv (if ((q0 % 200) - ((q0.tdiv 200) % 9)) > 0 then ((q0 % 200) - ((q0.tdiv 200) % 9)) else 0), iv ((q0 % 200) + ((q0.tdiv 1800) % 9)), slv gg0 m1 cc0, slv gg2 m2 cc2, slv gg3 m3 cc3, iv (q1 % 4)] Tryz.isAgg28 Tryz.sizeOf28 rfl rfl rfl) rfl (run_loadK hI 7 2 [iv (q0 % 200), slv gg1 m1 cc1] Tryz.isAgg57 Tryz.sizeOf57 rfl rfl rfl), ⟨gg0, cc0, ccl0, gg2, cc2, ccl2, gg3, cc3, ccl3, gg1, cc1, ccl1, (by rw [max0, plv, ← hL1, ← hL2, ← hL3, ← hL4]; rfl), hI.pickL [3, 1, 0, 2] (by decide) rfl, hrr0.to (by rw [hxs]; rfl) hL1, hrr2.to (by rw [hxs]; rfl) hL2, hrr3.to rfl hL3, hrr1.to (by rw [hxs]) hL4⟩⟩

end Go.K
