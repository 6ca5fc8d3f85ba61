/- What stood by true numbers, and whether numbers are true. -/
import Derived.Test.YtinkdlmimiefaaaGreatProg
import Derived.Test.YtinkdlmimiefaaaGreatPM16
namespace Go.K
open Go.Proofs Go.RowKit
set_option linter.unusedVariables false
set_option linter.unusedSimpArgs false
set_option maxRecDepth 100000
attribute [local irreducible] Seq Step CallV AnyE opX

/-- What is left of s when of each of l its number is taken. -/
def subF (N : Int → Int) (s : Int) (l : List Ld) : Int := l.foldl (fun a x => a - N x.src) s
theorem subF_step {N : Int → Int} {s : Int} {cs : List Ld} {i j : Nat} {x : Ld} (hx : (cs.drop i)[j]? = some x) : subF N s (cs.take (i + (j + 1))) = subF N s (cs.take (i + j)) - N x.src := by
  rw [List.getElem?_drop] at hx
  unfold subF
  rw [← Nat.add_assoc, take_get hx, List.foldl_append]
  rfl
def leftF (cs : List Ld) (N : Int → Int) (s h : Int) : Int := subF N s (cs.take (cartF cs h))
theorem subF_same {N M : Int → Int} : ∀ (l : List Ld) (s : Int), (∀ x ∈ l, M x.src = N x.src) → subF M s l = subF N s l
  | [], _, _ => rfl
  | x :: l, s, h => by
    have e : ∀ K : Int → Int, subF K s (x :: l) = subF K (s - K x.src) l := fun _ => rfl
    rw [e, e, h x List.mem_cons_self]
    exact subF_same l _ fun y hy => h y (List.mem_cons_of_mem _ hy)
theorem leftF_same {N M : Int → Int} {cs : List Ld} (h : ∀ x ∈ cs, M x.src = N x.src) (s hr : Int) : leftF cs M s hr = leftF cs N s hr := subF_same _ _ fun x hx => h x (List.mem_of_mem_take hx)
section steps
variable {P : Program} {ρ : Env} {B : Option Nat} {w w0 : World} {L : List (Option Nat × Obj)} {R : Value → World → Prop} {d : Option Nat} {ty : TypeId} {pos : String} {af : Array Edge} {gd : Option (Nat × Bool)}
theorem s_lookupI (hI : Inv B w0 w L) {T K E : TypeId} {kd : IntKind} {z : Value} {x y : Operand} {b : Nat} {k : Int} {es : List En} {clk : Nat} (v : Value) (hT : P.underlying T = some (.map K E)) (hK : P.underlying K = some (.int kd)) (hz : ∀ w, (zeroValue E).run P w = .ok z w)
    (hb : w0.heap[b]? = some (mobj es clk)) (hB : B ≠ some b) (hx : ev ρ x = .map (some b)) (hy : ev ρ y = .int .i64 k) (hv : (mget es k).getD z = v) (kk : R v w) : Step P ⟨d, .lookup T x y false, ty, pos, af, gd⟩ ρ w R := by
  have hb' : w.heap[b]? = some (mobj es clk) := (hI.but.block b (blk_lt hb) hB).trans hb
  subst hv
  refine s_pure _ ?_ kk
  have : execOp (ev ρ) ⟨d, .lookup T x y false, ty, pos, af, gd⟩ = (do pure (.value (← Instr.lookup T (ev ρ x) (ev ρ y) false))) := rfl
  rw [this, hx, hy, Sem.run_bind, run_lookup hT hK hz k hb']
  rfl
end steps

set_option maxHeartbeats 1600000 in
theorem left_c (w0 : World) (pl : Pl) (pA1 : Option Addr) (pn1 pc1 : Nat) (pA2 : Option Addr) (pn2 pc2 : Nat) (pA3 : Option Addr) (pn3 pc3 : Nat) (cs : List Ld) (pA4 : Option Addr) (pn4 pc4 : Nat) (hSc : ScIn w0 pl pA1 pn1 pc1 pA2 pn2 pc2 pA3 pn3 pc3 cs pA4 pn4 pc4) (mb ck : Nat) (es : List En) (N : Int → Int) (hmap : w0.heap[mb]? = some (mobj es ck)) (hN : ∀ j, (mget es j).getD (.int .i64 0) = .int .i64 (N j)) (s h : Int) (hs : 0 ≤ s ∧ s ≤ 10000) (hNb : ∀ x ∈ cs, 0 ≤ N x.src ∧ N x.src ≤ 10000) : Does Tryz.prog 107 [.agg #[.int .i64 pl.lo, .int .i64 pl.hi, .slice pA1 pn1 pc1, .slice pA2 pn2 pc2, .slice pA3 pn3 pc3, .int .i64 pl.geese, .slice pA4 pn4 pc4, .int .i64 s, .map (some mb)], .int .i64 h] w0 fun v w => v = .int .i64 (leftF cs N s h) ∧ Below w0.heap.size w0 w := by
 have hm1 := hSc.p.m1; have hm2 := hSc.p.m2; have hm3 := hSc.p.m3; have hm4 := hSc.m4; have hk4 := hSc.k4; have hz1 := hSc.z1; have hz2 := hSc.z2; have hz3 := hSc.z3; have hz4 := hSc.z4
 refine calls_of (n := 35) Tryz.func107 rfl Tryz.ntmps107 rfl ?_
 have hI := Inv.start w0
 refine wp_seq (rgn (by kernel_rfl) (seq_c (s_boxI hI [iv pl.lo, iv pl.hi, .slice pA1 pn1 pc1, .slice pA2 pn2 pc2, .slice pA3 pn3 pc3, iv pl.geese, .slice pA4 pn4 pc4, iv s, .map (some mb)] rfl ?_)))
 intro b1 w hI
 refine seq_c (s_boxI hI [iv h] rfl ?_)
 intro b2 w hI
 refine pu (iv 0) (by kernel_rfl) (seq_nil (wp_seq (rgn (by kernel_rfl) (pu (.pointer (some ⟨b1, 7, none⟩)) (by kernel_rfl) (seq_c (s_load1 hI 1 (iv s) Tryz.isAgg3 rfl rfl rfl ?_))))))
 refine seq_c (s_allocI hI [iv 0] Tryz.zeroValue3 rfl ?_)
 intro b3 w hI
 refine seq_c (s_store hI 0 1 [iv s] Tryz.sizeOf3 rfl rfl rfl rfl rfl (Nat.le_of_ble_eq_true rfl) ?_)
 intro w hI
 refine seq_nil (wp_seq (wp_seq (rgn (by kernel_rfl) (pu (.pointer (some ⟨b1, 0, none⟩)) (by kernel_rfl) (seq_c (s_loadK hI 2 7 [iv pl.lo, iv pl.hi, .slice pA1 pn1 pc1, .slice pA2 pn2 pc2, .slice pA3 pn3 pc3, iv pl.geese, .slice pA4 pn4 pc4] Tryz.isAgg116 Tryz.sizeOf116 rfl rfl rfl rfl ?_))))))
 refine pu (.func (.func 113) #[.agg #[iv pl.lo, iv pl.hi, .slice pA1 pn1 pc1, .slice pA2 pn2 pc2, .slice pA3 pn3 pc3, iv pl.geese, .slice pA4 pn4 pc4]] #[]) (by kernel_rfl) (seq_nil (wp_block ?_))
 refine wp_rangeFunc hI (first := #[.agg #[iv pl.lo, iv pl.hi, .slice pA1 pn1 pc1, .slice pA2 pn2 pc2, .slice pA3 pn3 pc3, iv pl.geese, .slice pA4 pn4 pc4]]) (cap := #[]) rfl 113 (fun y => [.agg #[iv pl.lo, iv pl.hi, .slice pA1 pn1 pc1, .slice pA2 pn2 pc2, .slice pA3 pn3 pc3, iv pl.geese, .slice pA4 pn4 pc4], y]) (fun l W => by kernel_rfl) ?_
 intro rcq4 lqq4 w hpsq4 hasq4 hboq4 hofq4 hI
 refine Does.mono (byHour_c w pl.lo pl.hi pl.geese (.slice pA1 pn1 pc1) (.slice pA2 pn2 pc2) (.slice pA3 pn3 pc3) pA4 pn4 pc4 cs lqq4 (fun (i : Nat) (W : World) => ∃ (vv : Int), Inv none w0 W [(some lqq4, rcq4.at .ready none), (some rcq4.defers, .deferred (some [])), (some b3, blk [iv vv] 3), (some b2, blk [iv h] 3), (some b1, blk [iv pl.lo, iv pl.hi, .slice pA1 pn1 pc1, .slice pA2 pn2 pc2, .slice pA3 pn3 pc3, iv pl.geese, .slice pA4 pn4 pc4, iv s, .map (some mb)] 144)] ∧ (vv = subF N s (cs.take (i))) ∧ (∀ q y, q < i → cs[q]? = some y → y.hr ≤ h) ∧ (-(10000 * ((i : Nat) : Int)) ≤ vv ∧ vv ≤ 10000)) (fun (W : World) => ∃ (i : Nat) (vv : Int), Inv none w0 W [(some lqq4, rcq4.at .done (some (.exit 0))), (some rcq4.defers, .deferred (some [])), (some b3, blk [iv vv] 3), (some b2, blk [iv h] 3), (some b1, blk [iv pl.lo, iv pl.hi, .slice pA1 pn1 pc1, .slice pA2 pn2 pc2, .slice pA3 pn3 pc3, iv pl.geese, .slice pA4 pn4 pc4, iv s, .map (some mb)] 144)] ∧ (vv = subF N s (cs.take (i))) ∧ (∀ q y, q < i → cs[q]? = some y → y.hr ≤ h) ∧ (∃ y, cs[i]? = some y ∧ h < y.hr)) hSc.m4 (by omega) hSc.k4 ⟨s, hI.pickL [0, 1, 2, 3, 4] (by decide) rfl, rfl, (fun q y hq _ => absurd hq (by omega)), (by omega)⟩ (fun i W W' ⟨vv, hj, hr⟩ hb => ⟨vv, hj.call hb, hr⟩) (fun i W ⟨vv, hj, hr⟩ => hSc.e4.inv0 hj) ?_) ?_
 ·rintro i mg hh A2 c2 w ⟨vv, hI, hv, hin, hvb⟩ hm0 him hgrp hat
  have hC2 := hat.cells eLd_len (by decide) hSc.e4
  have hd2 : (cs.drop i).length = cs.length - i := List.length_drop
  refine callV_yield hI hofq4 [15, 16] hpsq4 rfl (by decide) ?_
  rw [hasq4]
  refine wp_seq (rgn (by kernel_rfl) (pu (iv hh) (by kernel_rfl) (seq_nil (rgn (by kernel_rfl) (pu (.slice A2 mg c2) (by kernel_rfl) (seq_nil (⟨rfl, _, hI, ?_⟩)))))))
  intro w hI
  rw [hboq4]
  refine wp_block ?_
  refine wp_seq (wp_seq (rgn (by kernel_rfl) (pu (iv hh) (by kernel_rfl) (seq_c (s_load1 hI 3 (iv h) Tryz.isAgg3 rfl rfl rfl ?_)))))
  refine seq_c (s_gtr rfl rfl ?_ ?_)
  ·intro h1
   refine seq_nil (wp_condT rfl (wp_exit ?_))
   exact ⟨_, hI.pickL [0, 1, 2, 3, 4] (by decide) rfl, fun w hI => .inr ⟨rfl, i, vv, hI, hv, hin, (grp_one hgrp (by omega) (by omega) (by assumption))⟩⟩
  ·intro h2
   refine seq_nil (wp_condF rfl (wp_skip (wp_seq (rgn (by kernel_rfl) (pu (.slice A2 mg c2) (by kernel_rfl) (pu (iv ((mg : Nat) : Int)) (by kernel_rfl) (pu (iv 0) (by kernel_rfl) (seq_nil (wp_block ?_)))))))))
   refine wp_loop (fun m ρ w => ∃ (j : Nat) (v2 : Int), Agree ρ [(2, .pointer (some ⟨b1, 0, none⟩)), (5, .pointer (some ⟨b3, 0, none⟩)), (20, .slice A2 mg c2), (21, iv (mg : Int)), (22, iv (j : Int))] ∧ Inv none w0 w [(some lqq4, rcq4.at .busy none), (some rcq4.defers, .deferred (some [])), (some b3, blk [iv v2] 3), (some b2, blk [iv h] 3), (some b1, blk [iv pl.lo, iv pl.hi, .slice pA1 pn1 pc1, .slice pA2 pn2 pc2, .slice pA3 pn3 pc3, iv pl.geese, .slice pA4 pn4 pc4, iv s, .map (some mb)] 144)] ∧ (j ≤ mg) ∧ (v2 = subF N s (cs.take (i + j))) ∧ (-(10000 * ((i + j : Nat) : Int)) ≤ v2 ∧ v2 ≤ 10000) ∧ m = mg - j) (m := mg - 0) ⟨0, vv, ⟨rfl, rfl, rfl, rfl, rfl, trivial⟩, hI.pickL [0, 1, 2, 3, 4] (by decide) rfl, (by omega), hv, hvb, rfl⟩ ?_
   rintro m ρ w ⟨j, v2, hag, hI, hj, hv2, hb2, hm⟩
   obtain ⟨ρ, rfl⟩ := hag.form; clear hag
   refine wp_seq (rgn (by kernel_rfl) (seq_c (s_lss rfl rfl ?_ ?_)))
   ·intro h3
    refine seq_nil (wp_seq (wp_condT rfl (wp_skip (wp_seq (wp_block ?_)))))
    refine wp_seq (rgn (by kernel_rfl) ?_)
    obtain ⟨x5, hx6⟩ := get_lt (l := (cs.drop i)) (i := j) (by omega)
    obtain ⟨b7, o8, hA9, hb10, he11⟩ := hC2.at_ eLd_len (by decide) hx6
    refine seq_c (s_indexA j Tryz.underlying24 Tryz.sizeOf30 rfl hA9 rfl rfl (by omega) ?_)
    refine seq_c (s_loadBK hI [iv x5.src, iv x5.hr, iv x5.lo, iv x5.hi, iv x5.kn, iv x5.un] Tryz.isAgg30 Tryz.sizeOf30 rfl rfl hb10 (by simp) he11 ?_)
    refine seq_c (s_allocI hI [iv 0, iv 0, iv 0, iv 0, iv 0, iv 0] Tryz.zeroValue30 rfl ?_)
    intro b12 w hI
    refine seq_c (s_store hI 0 6 [iv x5.src, iv x5.hr, iv x5.lo, iv x5.hi, iv x5.kn, iv x5.un] Tryz.sizeOf30 rfl rfl rfl rfl rfl (Nat.le_of_ble_eq_true rfl) ?_)
    intro w hI
    refine seq_nil (rgn (by kernel_rfl) (seq_c (s_load1 hI 3 (iv v2) Tryz.isAgg3 rfl rfl rfl ?_)))
    refine pu (.pointer (some ⟨b1, 8, none⟩)) (by kernel_rfl) (seq_c (s_load1 hI 5 (.map (some mb)) Tryz.isAgg142 rfl rfl rfl ?_))
    refine pu (.pointer (some ⟨b12, 0, none⟩)) (by kernel_rfl) (seq_c (s_load1 hI 0 (iv x5.src) Tryz.isAgg3 rfl rfl rfl ?_))
    refine seq_c (s_lookupI hI (iv (N x5.src)) Tryz.underlying142 Tryz.underlying3 Tryz.zeroValue3 hmap (by simp) rfl rfl (hN _) ?_)
    refine seq_c (s_sub rfl rfl (by have hz := hNb _ (List.mem_of_mem_drop (mem_of_get hx6)); omega) ?_)
    refine seq_c (s_store hI 3 1 [iv (v2 - (N x5.src))] Tryz.sizeOf3 rfl rfl rfl rfl rfl (Nat.le_of_ble_eq_true rfl) ?_)
    intro w hI
    refine seq_nil (rgn (by kernel_rfl) (seq_c (s_add rfl rfl (by omega) ?_)))
    refine pu (iv ((j : Int) + 1)) (by kernel_rfl) (seq_nil ?_)
    exact ⟨rfl, _, (by omega), ⟨j + 1, v2 - (N x5.src), ⟨rfl, rfl, rfl, rfl, rfl, trivial⟩, hI.pickL [1, 2, 3, 4, 5] (by decide) rfl, (by omega), (by rw [subF_step hx6, hv2]), (by have hz := hNb _ (List.mem_of_mem_drop (mem_of_get hx6)); omega), rfl⟩⟩
   ·intro h4
    refine seq_nil (wp_seq (wp_condF rfl (wp_exit ?_)))
    exact ⟨_, hI.pickL [0, 1, 2, 3, 4] (by decide) rfl, fun w hI => .inl ⟨rfl, v2, hI, (by rw [hv2, show j = mg by omega]), (grp_all hin hgrp (by assumption)), (by omega)⟩⟩
 ·rintro _ w (⟨vv, hI, hv, hin, hvb⟩ | ⟨ix, vv, hI, hv, hin, hex⟩)
  ·
   refine ⟨_, .inl ⟨hI, fun w hI => ?_⟩⟩
   refine wp_seq (rgn (by kernel_rfl) (seq_c (s_load1 hI 2 (iv vv) Tryz.isAgg3 rfl rfl rfl ?_)))
   refine pu (iv vv) (by kernel_rfl) (seq_nil (wp_ret (LeaveE.mark (D := rcq4.defers) (hI.pickL [1, 0, 2, 3, 4] (by decide) rfl) ?_)))
   intro w hI
   exact ⟨iv vv, Ret.r1 rfl rfl, ⟨by rw [leftF, cart_all hin hm4, hv], hI.below⟩⟩
  ·
   refine ⟨_, .inr ⟨.exit 0, hI, fun w hI => ?_⟩⟩
   refine wp_exit ?_
   refine wp_seq (rgn (by kernel_rfl) (seq_c (s_load1 hI 2 (iv vv) Tryz.isAgg3 rfl rfl rfl ?_)))
   refine pu (iv vv) (by kernel_rfl) (seq_nil (wp_ret (LeaveE.mark (D := rcq4.defers) (hI.pickL [1, 0, 2, 3, 4] (by decide) rfl) ?_)))
   intro w hI
   exact ⟨iv vv, Ret.r1 rfl rfl, ⟨by obtain ⟨y, hy, hlt⟩ := hex; rw [leftF, cart_stop hin hy hlt, hv], hI.below⟩⟩

theorem num_step {M N : Int → Int} {l : List Ld} {k : Nat} {x : Ld} {y : Int} (h : ∀ i z, i < k → l[i]? = some z → M z.src = N z.src) (hx : l[k]? = some x) (hy : N x.src = y) : ∀ i z, i < k + 1 → l[i]? = some z → (if z.src = x.src then y else M z.src) = N z.src := fun i z hi hz => by
  by_cases e : z.src = x.src
  · rw [if_pos e, e, hy]
  · rw [if_neg e]
    rcases Nat.lt_or_ge i k with h1 | h1
    · exact h i z h1 hz
    · rw [show i = k by omega, hx] at hz
      injection hz with hz
      exact absurd (congrArg Ld.src hz.symm) e
/-- The scene with its numbers. -/
def GivesTruth (sc : List Value) (s : Int) (l : List Ld) (N : Int → Int) (w0 : World) (v : Value) (w : World) : Prop :=
  ∃ (mb : Nat) (es : List En) (ck : Nat) (M : Int → Int), v = .tuple #[.agg (sc ++ [Value.int .i64 s, Value.map (some mb)]).toArray, .bool true] ∧ Inv none w0 w [(some mb, mobj es ck)] ∧ (∀ j, (mget es j).getD (.int .i64 0) = .int .i64 (M j)) ∧ ∀ x ∈ l, M x.src = N x.src

set_option maxHeartbeats 1600000 in
theorem truth_c (w0 : World) (pl : Pl) (pA1 : Option Addr) (pn1 pc1 : Nat) (pA2 : Option Addr) (pn2 pc2 : Nat) (pA3 : Option Addr) (pn3 pc3 : Nat) (cs : List Ld) (pA4 : Option Addr) (pn4 pc4 : Nat) (hSc : ScIn w0 pl pA1 pn1 pc1 pA2 pn2 pc2 pA3 pn3 pc3 cs pA4 pn4 pc4) (s : Int) (tA : Option Addr) (tn tc : Nat) (ts : List Int) (hT : Cells w0 tA (flat eInt ts)) (htn : tn = ts.length) (hlen : tn = pl.loads.length) (N : Int → Int) (hs : 0 ≤ s ∧ s ≤ 10000) (hcs : ∀ x ∈ cs, x ∈ pl.loads) (hNb : ∀ x ∈ cs, 0 ≤ N x.src ∧ N x.src ≤ 10000) (hNt : ∀ (i : Nat) (x : Ld) (t : Int), pl.loads[i]? = some x → ts[i]? = some t → N x.src = t) (hsown : inB s pl.lo pl.hi = true) (hts : ∀ (i : Nat) (x : Ld) (t : Int), pl.loads[i]? = some x → ts[i]? = some t → inB t x.lo x.hi = true) (hst : ∀ x ∈ pl.stands, inB (leftF cs N s x.hr) x.lo x.hi = true) (hmx : 0 ≤ leftF cs N s 99999) : Does Tryz.prog 106 [.agg #[.int .i64 pl.lo, .int .i64 pl.hi, .slice pA1 pn1 pc1, .slice pA2 pn2 pc2, .slice pA3 pn3 pc3, .int .i64 pl.geese, .slice pA4 pn4 pc4], .agg #[.int .i64 s, .slice tA tn tc]] w0 fun v w => GivesTruth [.int .i64 pl.lo, .int .i64 pl.hi, .slice pA1 pn1 pc1, .slice pA2 pn2 pc2, .slice pA3 pn3 pc3, .int .i64 pl.geese, .slice pA4 pn4 pc4] s pl.loads N w0 v w := by
 have hm1 := hSc.p.m1; have hm2 := hSc.p.m2; have hm3 := hSc.p.m3; have hm4 := hSc.m4; have hk4 := hSc.k4; have hz1 := hSc.z1; have hz2 := hSc.z2; have hz3 := hSc.z3; have hz4 := hSc.z4
 refine calls_of (n := 85) Tryz.func106 rfl Tryz.ntmps106 rfl ?_
 have hI := Inv.start w0
 refine wp_seq (rgn (by kernel_rfl) (seq_c (s_boxI hI [iv pl.lo, iv pl.hi, .slice pA1 pn1 pc1, .slice pA2 pn2 pc2, .slice pA3 pn3 pc3, iv pl.geese, .slice pA4 pn4 pc4] rfl ?_)))
 intro b1 w hI
 refine seq_c (s_boxI hI [iv s, .slice tA tn tc] rfl ?_)
 intro b2 w hI
 refine seq_c (s_allocI hI [iv 0, iv 0, .slice none 0 0, .slice none 0 0, .slice none 0 0, iv 0, .slice none 0 0, iv 0, .map none] Tryz.zeroValue144 rfl ?_)
 intro b3 w hI
 refine pu (.bool false) (by kernel_rfl) (seq_nil (wp_seq (wp_seq (rgn (by kernel_rfl) (pu (.pointer (some ⟨b2, 0, none⟩)) (by kernel_rfl) (seq_c (s_load1 hI 1 (iv s) Tryz.isAgg3 rfl rfl rfl ?_)))))))
 refine pu (.pointer (some ⟨b1, 0, none⟩)) (by kernel_rfl) (pu (.pointer (some ⟨b1, 0, none⟩)) (by kernel_rfl) (seq_c (s_loadK hI 2 2 [iv pl.lo, iv pl.hi] Tryz.isAgg23 Tryz.sizeOf23 rfl rfl rfl rfl ?_)))
 refine seq_c (s_callb hI 154 [iv s, .agg #[iv pl.lo, iv pl.hi]] (inB s pl.lo pl.hi) (by kernel_rfl) (inRange_c s pl.lo pl.hi _) ?_ ?_)
 ·intro h1 w hI
  refine pu (.bool false) (by kernel_rfl) (pu (.bool false) (by kernel_rfl) (puo (.pointer (some ⟨b2, 1, none⟩)) ⟨(by kernel_rfl), (by kernel_rfl)⟩ (seq_on (by kernel_rfl) (s_load1 hI 1 (.slice tA tn tc) Tryz.isAgg41 rfl rfl rfl ?_))))
  refine puo (iv ((tn : Nat) : Int)) ⟨(by kernel_rfl), (by kernel_rfl)⟩ (puo (.pointer (some ⟨b1, 0, none⟩)) ⟨(by kernel_rfl), (by kernel_rfl)⟩ (puo (.pointer (some ⟨b1, 2, none⟩)) ⟨(by kernel_rfl), (by kernel_rfl)⟩ (seq_on (by kernel_rfl) (s_load1 hI 2 (.slice pA1 pn1 pc1) Tryz.isAgg24 rfl rfl rfl ?_))))
  refine puo (iv ((pn1 : Nat) : Int)) ⟨(by kernel_rfl), (by kernel_rfl)⟩ (seq_on (by kernel_rfl) (s_neq rfl rfl ?_ ?_))
  ·intro h2
   refine pu (.bool true) (by kernel_rfl) (seq_nil (wp_condT rfl (wp_seq (rgn (by kernel_rfl) (pu (.agg #[iv 0, iv 0, .slice none 0 0, .slice none 0 0, .slice none 0 0, iv 0, .slice none 0 0, iv 0, .map none]) (by kernel_rfl) (seq_c (s_store hI 0 9 [iv 0, iv 0, .slice none 0 0, .slice none 0 0, .slice none 0 0, iv 0, .slice none 0 0, iv 0, .map none] Tryz.sizeOf144 rfl rfl rfl rfl rfl (Nat.le_of_ble_eq_true rfl) ?_)))))))
   intro w hI
   refine pu (.bool false) (by kernel_rfl) (seq_nil (wp_ret ?_))
   exact ⟨.tuple #[.agg #[iv 0, iv 0, .slice none 0 0, .slice none 0 0, .slice none 0 0, iv 0, .slice none 0 0, iv 0, .map none], .bool false], Ret.ct rfl rfl (run_loadK hI 0 9 [iv 0, iv 0, .slice none 0 0, .slice none 0 0, .slice none 0 0, iv 0, .slice none 0 0, iv 0, .map none] Tryz.isAgg144 Tryz.sizeOf144 rfl rfl rfl) rfl, (absurd (by omega) h2)⟩
  ·intro h3
   refine pu (.bool false) (by kernel_rfl) (seq_nil (wp_condF rfl (wp_skip (wp_seq (rgn (by kernel_rfl) (seq_c (s_loadK hI 2 7 [iv pl.lo, iv pl.hi, .slice pA1 pn1 pc1, .slice pA2 pn2 pc2, .slice pA3 pn3 pc3, iv pl.geese, .slice pA4 pn4 pc4] Tryz.isAgg116 Tryz.sizeOf116 rfl rfl rfl rfl ?_)))))))
   refine pu (.pointer (some ⟨b2, 0, none⟩)) (by kernel_rfl) (seq_c (s_load1 hI 1 (iv s) Tryz.isAgg3 rfl rfl rfl ?_))
   refine seq_c (s_makeMap hI ?_)
   intro b4 w hI
   refine pu (.agg #[iv pl.lo, iv pl.hi, .slice pA1 pn1 pc1, .slice pA2 pn2 pc2, .slice pA3 pn3 pc3, iv pl.geese, .slice pA4 pn4 pc4, iv s, .map (some b4)]) (by kernel_rfl) (seq_c (s_allocI hI [iv 0, iv 0, .slice none 0 0, .slice none 0 0, .slice none 0 0, iv 0, .slice none 0 0, iv 0, .map none] Tryz.zeroValue144 rfl ?_))
   intro b5 w hI
   refine seq_c (s_store hI 0 9 [iv pl.lo, iv pl.hi, .slice pA1 pn1 pc1, .slice pA2 pn2 pc2, .slice pA3 pn3 pc3, iv pl.geese, .slice pA4 pn4 pc4, iv s, .map (some b4)] Tryz.sizeOf144 rfl rfl rfl rfl rfl (Nat.le_of_ble_eq_true rfl) ?_)
   intro w hI
   refine seq_nil (wp_seq (wp_seq (rgn (by kernel_rfl) (pu (.pointer (some ⟨b1, 0, none⟩)) (by kernel_rfl) (pu (.pointer (some ⟨b1, 2, none⟩)) (by kernel_rfl) (seq_c (s_load1 hI 4 (.slice pA1 pn1 pc1) Tryz.isAgg24 rfl rfl rfl ?_)))))))
   refine pu (iv ((pn1 : Nat) : Int)) (by kernel_rfl) (pu (iv 0) (by kernel_rfl) (seq_nil (wp_block ?_)))
   refine wp_loop (fun m ρ w => ∃ (k : Nat) (es1 : List En) (ck1 : Nat) (M : Int → Int), Agree ρ [(2, .pointer (some ⟨b1, 0, none⟩)), (3, .pointer (some ⟨b2, 0, none⟩)), (4, .pointer (some ⟨b3, 0, none⟩)), (6, .pointer (some ⟨b5, 0, none⟩)), (36, .slice pA1 pn1 pc1), (37, iv (pn1 : Int)), (38, iv (k : Int))] ∧ Inv none w0 w [(some b5, blk [iv pl.lo, iv pl.hi, .slice pA1 pn1 pc1, .slice pA2 pn2 pc2, .slice pA3 pn3 pc3, iv pl.geese, .slice pA4 pn4 pc4, iv s, .map (some b4)] 144), (some b4, mobj es1 ck1), (some b3, blk [iv 0, iv 0, .slice none 0 0, .slice none 0 0, .slice none 0 0, iv 0, .slice none 0 0, iv 0, .map none] 144), (some b2, blk [iv s, .slice tA tn tc] 57), (some b1, blk [iv pl.lo, iv pl.hi, .slice pA1 pn1 pc1, .slice pA2 pn2 pc2, .slice pA3 pn3 pc3, iv pl.geese, .slice pA4 pn4 pc4] 116)] ∧ (k ≤ pn1) ∧ (MOk es1 ck1) ∧ (∀ j, (mget es1 j).getD (iv 0) = iv (M j)) ∧ (∀ i z, i < k → pl.loads[i]? = some z → M z.src = N z.src) ∧ m = pn1 - k) (m := pn1 - 0) ⟨0, [], 0, (fun _ => 0), ⟨rfl, rfl, rfl, rfl, rfl, rfl, rfl, trivial⟩, hI.pickL [0, 1, 2, 3, 4] (by decide) rfl, (by omega), ⟨List.nodup_nil, List.nodup_nil, fun e he => by cases he⟩, (fun _ => rfl), (fun i z h => absurd h (by omega)), rfl⟩ ?_
   rintro m ρ w ⟨k, es1, ck1, M, hag, hI, hk, ho1, hM1, hMk, hm⟩
   obtain ⟨ρ, rfl⟩ := hag.form; clear hag
   refine wp_seq (rgn (by kernel_rfl) (seq_c (s_lss rfl rfl ?_ ?_)))
   ·intro h4
    refine seq_nil (wp_seq (wp_condT rfl (wp_skip (wp_seq (wp_block ?_)))))
    refine wp_seq (rgn (by kernel_rfl) (pu (iv (k : Int)) (by kernel_rfl) ?_))
    obtain ⟨x6, hx7⟩ := get_lt (l := pl.loads) (i := k) (by omega)
    obtain ⟨b8, o9, hA10, hb11, he12⟩ := hSc.p.c1.at_ eLd_len (by decide) hx7
    refine seq_c (s_indexA k Tryz.underlying24 Tryz.sizeOf30 rfl hA10 rfl rfl (by omega) ?_)
    refine seq_c (s_loadBK hI [iv x6.src, iv x6.hr, iv x6.lo, iv x6.hi, iv x6.kn, iv x6.un] Tryz.isAgg30 Tryz.sizeOf30 rfl rfl hb11 (by simp) he12 ?_)
    refine seq_c (s_allocI hI [iv 0, iv 0, iv 0, iv 0, iv 0, iv 0] Tryz.zeroValue30 rfl ?_)
    intro b13 w hI
    refine pu (iv (k : Int)) (by kernel_rfl) (seq_c (s_store hI 0 6 [iv x6.src, iv x6.hr, iv x6.lo, iv x6.hi, iv x6.kn, iv x6.un] Tryz.sizeOf30 rfl rfl rfl rfl rfl (Nat.le_of_ble_eq_true rfl) ?_))
    intro w hI
    refine seq_nil (wp_seq (wp_seq (wp_drawn2 hI [0, 1, 2, 3, 4, 5] (by decide) rfl (by kernel_rfl) (by kernel_rfl) ?_)))
    intro hsub
    refine alp 0 (.pointer (some ⟨b2, 1, none⟩)) hsub rfl (by kernel_rfl) (fun _ => (by kernel_rfl)) ?_
    refine al_light 1 (.slice tA tn tc) hsub rfl (by kernel_rfl) (fun w hI => s_load1 hI 4 (.slice tA tn tc) Tryz.isAgg41 rfl rfl rfl ⟨rfl, Below.refl _ _⟩) ?_
    refine alp 2 (iv (k : Int)) hsub rfl (by kernel_rfl) (fun _ => (by kernel_rfl)) ?_
    obtain ⟨x14, hx15⟩ := get_lt (l := ts) (i := k) (by omega)
    obtain ⟨b16, o17, hA18, hb19, he20⟩ := hT.at_ eInt_len (by decide) hx15
    refine al_light 3 (.pointer (some ⟨b16, o17 + k * 1, none⟩)) hsub rfl (by kernel_rfl) (fun w hI => s_indexA k Tryz.underlying41 Tryz.sizeOf3 rfl hA18 rfl rfl (by omega) ⟨rfl, Below.refl _ _⟩) ?_
    refine al_light 4 (iv x14) hsub rfl (by kernel_rfl) (fun w hI => s_loadB1 hI (iv x14) Tryz.isAgg3 rfl hb19 (by simp) (he20 0 _ rfl) ⟨rfl, Below.refl _ _⟩) ?_
    refine alp 5 (.pointer (some ⟨b13, 2, none⟩)) hsub rfl (by kernel_rfl) (fun _ => (by kernel_rfl)) ?_
    refine al_light 6 (.agg #[iv x6.lo, iv x6.hi]) hsub rfl (by kernel_rfl) (fun w hI => s_loadK hI 0 2 [iv x6.lo, iv x6.hi] Tryz.isAgg23 Tryz.sizeOf23 rfl rfl rfl rfl ⟨rfl, Below.refl _ _⟩) ?_
    rcases Bool.eq_false_or_eq_true (inB x14 x6.lo x6.hi) with h5 | h5
    ·refine al_light 7 (.bool true) hsub rfl (by kernel_rfl) (fun w hI => s_call 154 [iv x14, .agg #[iv x6.lo, iv x6.hi]] (by kernel_rfl) (inRange_c x14 x6.lo x6.hi _) (fun v' w' h => ⟨h.1.trans (congrArg Value.bool h5), h.2⟩)) ?_
     refine alp 8 (.bool false) hsub rfl (by kernel_rfl) (fun _ => (by kernel_rfl)) ?_
     refine any_end (by kernel_rfl) (fun w hI => ?_)
     refine wp_condF rfl (wp_skip ?_)
     replace hI := hI.pickL [0, 1, 3, 4, 5, 2] (by decide) rfl
     refine wp_drawn2 hI [0, 1, 2, 3, 4] (by decide) rfl (by kernel_rfl) (by kernel_rfl) ?_
     intro hsub
     refine alp 0 (.pointer (some ⟨b5, 8, none⟩)) hsub rfl (by kernel_rfl) (fun _ => (by kernel_rfl)) ?_
     refine al_light 1 (.map (some b4)) hsub rfl (by kernel_rfl) (fun w hI => s_load1 hI 1 (.map (some b4)) Tryz.isAgg142 rfl rfl rfl ⟨rfl, Below.refl _ _⟩) ?_
     refine alp 2 (.pointer (some ⟨b13, 0, none⟩)) hsub rfl (by kernel_rfl) (fun _ => (by kernel_rfl)) ?_
     refine al_light 3 (iv x6.src) hsub rfl (by kernel_rfl) (fun w hI => s_load1 hI 0 (iv x6.src) Tryz.isAgg3 rfl rfl rfl ⟨rfl, Below.refl _ _⟩) ?_
     refine alp 4 (.pointer (some ⟨b2, 1, none⟩)) hsub rfl (by kernel_rfl) (fun _ => (by kernel_rfl)) ?_
     refine al_light 5 (.slice tA tn tc) hsub rfl (by kernel_rfl) (fun w hI => s_load1 hI 3 (.slice tA tn tc) Tryz.isAgg41 rfl rfl rfl ⟨rfl, Below.refl _ _⟩) ?_
     refine alp 6 (iv (k : Int)) hsub rfl (by kernel_rfl) (fun _ => (by kernel_rfl)) ?_
     refine al_light 7 (.pointer (some ⟨b16, o17 + k * 1, none⟩)) hsub rfl (by kernel_rfl) (fun w hI => s_indexA k Tryz.underlying41 Tryz.sizeOf3 rfl hA18 rfl rfl (by omega) ⟨rfl, Below.refl _ _⟩) ?_
     refine al_light 8 (iv x14) hsub rfl (by kernel_rfl) (fun w hI => s_loadB1 hI (iv x14) Tryz.isAgg3 rfl hb19 (by simp) (he20 0 _ rfl) ⟨rfl, Below.refl _ _⟩) ?_
     refine any_heavy [9] (by kernel_rfl) rfl (each1 ?_)
     intro w hI
     refine ol_c rfl (s_mapUpdate hI Tryz.underlying142 Tryz.underlying3 5 rfl rfl rfl rfl ho1 ?_)
     intro es21 ck22 w hI ho23 hg24
     refine ⟨_, hI, subk (fun _ h => h.pickL [0, 1, 2, 3, 4] (by decide) rfl) ?_⟩
     intro hsub
     have hN25 : ∀ j, (mget es21 j).getD (iv 0) = iv ((fun j => if j = x6.src then x14 else M j) j) := fun j => by rw [hg24 j]; show _ = Value.int .i64 (if j = x6.src then x14 else M j); by_cases hj : j = x6.src; (rw [if_pos hj, if_pos hj]; rfl); (rw [if_neg hj, if_neg hj]; exact hM1 j)
     refine any_end (by kernel_rfl) (fun w hI => ?_)
     refine rgn (by kernel_rfl) (seq_c (s_add rfl rfl (by omega) ?_))
     refine pu (iv ((k : Int) + 1)) (by kernel_rfl) (seq_nil ?_)
     exact ⟨rfl, _, (by omega), ⟨k + 1, es21, ck22, (fun j => if j = x6.src then x14 else M j), ⟨rfl, rfl, rfl, rfl, rfl, rfl, rfl, trivial⟩, hI.pickL [1, 5, 2, 3, 4] (by decide) rfl, (by omega), ho23, hN25, (num_step hMk hx7 (hNt _ _ _ hx7 hx15)), rfl⟩⟩
    ·refine al_light 7 (.bool false) hsub rfl (by kernel_rfl) (fun w hI => s_call 154 [iv x14, .agg #[iv x6.lo, iv x6.hi]] (by kernel_rfl) (inRange_c x14 x6.lo x6.hi _) (fun v' w' h => ⟨h.1.trans (congrArg Value.bool h5), h.2⟩)) ?_
     refine alp 8 (.bool true) hsub rfl (by kernel_rfl) (fun _ => (by kernel_rfl)) ?_
     refine any_end (by kernel_rfl) (fun w hI => ?_)
     refine wp_condT rfl (wp_seq (rgn (by kernel_rfl) (pu (.agg #[iv 0, iv 0, .slice none 0 0, .slice none 0 0, .slice none 0 0, iv 0, .slice none 0 0, iv 0, .map none]) (by kernel_rfl) (seq_c (s_store hI 3 9 [iv 0, iv 0, .slice none 0 0, .slice none 0 0, .slice none 0 0, iv 0, .slice none 0 0, iv 0, .map none] Tryz.sizeOf144 rfl rfl rfl rfl rfl (Nat.le_of_ble_eq_true rfl) ?_)))))
     intro w hI
     refine pu (.bool false) (by kernel_rfl) (seq_nil (wp_ret ?_))
     exact ⟨.tuple #[.agg #[iv 0, iv 0, .slice none 0 0, .slice none 0 0, .slice none 0 0, iv 0, .slice none 0 0, iv 0, .map none], .bool false], Ret.ct rfl rfl (run_loadK hI 3 9 [iv 0, iv 0, .slice none 0 0, .slice none 0 0, .slice none 0 0, iv 0, .slice none 0 0, iv 0, .map none] Tryz.isAgg144 Tryz.sizeOf144 rfl rfl rfl) rfl, (Bool.noConfusion (h5.symm.trans (hts _ _ _ hx7 hx15)))⟩
   ·intro h6
    refine seq_nil (wp_seq (wp_condF rfl (wp_exit ?_)))
    refine wp_seq (wp_seq (rgn (by kernel_rfl) (pu (.pointer (some ⟨b1, 0, none⟩)) (by kernel_rfl) (pu (.pointer (some ⟨b1, 3, none⟩)) (by kernel_rfl) (seq_c (s_load1 hI 4 (.slice pA2 pn2 pc2) Tryz.isAgg25 rfl rfl rfl ?_))))))
    refine pu (iv ((pn2 : Nat) : Int)) (by kernel_rfl) (pu (iv 0) (by kernel_rfl) (seq_nil (wp_block ?_)))
    have hMl : ∀ x ∈ pl.loads, M x.src = N x.src := fun x hx => by obtain ⟨i, hi, e⟩ := List.getElem_of_mem hx; exact hMk i x (by omega) (by rw [List.getElem?_eq_getElem hi, e])
    have hMcs : ∀ x ∈ cs, M x.src = N x.src := fun x hx => hMl x (hcs x hx)
    have hMb : ∀ x ∈ cs, 0 ≤ M x.src ∧ M x.src ≤ 10000 := fun x hx => by rw [hMcs x hx]; exact hNb x hx
    refine wp_loop (fun m ρ w => ∃ (k2 : Nat), Agree ρ [(4, .pointer (some ⟨b3, 0, none⟩)), (6, .pointer (some ⟨b5, 0, none⟩)), (65, .slice pA2 pn2 pc2), (66, iv (pn2 : Int)), (67, iv (k2 : Int))] ∧ Inv none w0 w [(some b5, blk [iv pl.lo, iv pl.hi, .slice pA1 pn1 pc1, .slice pA2 pn2 pc2, .slice pA3 pn3 pc3, iv pl.geese, .slice pA4 pn4 pc4, iv s, .map (some b4)] 144), (some b4, mobj es1 ck1), (some b3, blk [iv 0, iv 0, .slice none 0 0, .slice none 0 0, .slice none 0 0, iv 0, .slice none 0 0, iv 0, .map none] 144), (some b2, blk [iv s, .slice tA tn tc] 57), (some b1, blk [iv pl.lo, iv pl.hi, .slice pA1 pn1 pc1, .slice pA2 pn2 pc2, .slice pA3 pn3 pc3, iv pl.geese, .slice pA4 pn4 pc4] 116)] ∧ (k2 ≤ pn2) ∧ m = pn2 - k2) (m := pn2 - 0) ⟨0, ⟨rfl, rfl, rfl, rfl, rfl, trivial⟩, hI.pickL [0, 1, 2, 3, 4] (by decide) rfl, (by omega), rfl⟩ ?_
    rintro m ρ w ⟨k2, hag, hI, hk2, hm⟩
    obtain ⟨ρ, rfl⟩ := hag.form; clear hag
    refine wp_seq (rgn (by kernel_rfl) (seq_c (s_lss rfl rfl ?_ ?_)))
    ·intro h7
     refine seq_nil (wp_seq (wp_condT rfl (wp_skip (wp_seq (wp_block ?_)))))
     refine wp_seq (rgn (by kernel_rfl) ?_)
     obtain ⟨x26, hx27⟩ := get_lt (l := pl.stands) (i := k2) (by omega)
     obtain ⟨b28, o29, hA30, hb31, he32⟩ := hSc.p.c2.at_ eLd_len (by decide) hx27
     refine seq_c (s_indexA k2 Tryz.underlying25 Tryz.sizeOf31 rfl hA30 rfl rfl (by omega) ?_)
     refine seq_c (s_loadBK hI [iv x26.src, iv x26.hr, iv x26.lo, iv x26.hi, iv x26.kn, iv x26.un] Tryz.isAgg31 Tryz.sizeOf31 rfl rfl hb31 (by simp) he32 ?_)
     refine seq_c (s_allocI hI [iv 0, iv 0, iv 0, iv 0, iv 0, iv 0] Tryz.zeroValue31 rfl ?_)
     intro b33 w hI
     refine seq_c (s_store hI 0 6 [iv x26.src, iv x26.hr, iv x26.lo, iv x26.hi, iv x26.kn, iv x26.un] Tryz.sizeOf31 rfl rfl rfl rfl rfl (Nat.le_of_ble_eq_true rfl) ?_)
     intro w hI
     refine seq_nil (wp_seq (wp_drawn2 hI [0, 1, 2, 3, 4, 5] (by decide) rfl (by kernel_rfl) (by kernel_rfl) ?_))
     intro hsub
     refine al_light 0 (.agg #[iv pl.lo, iv pl.hi, .slice pA1 pn1 pc1, .slice pA2 pn2 pc2, .slice pA3 pn3 pc3, iv pl.geese, .slice pA4 pn4 pc4, iv s, .map (some b4)]) hsub rfl (by kernel_rfl) (fun w hI => s_loadK hI 1 9 [iv pl.lo, iv pl.hi, .slice pA1 pn1 pc1, .slice pA2 pn2 pc2, .slice pA3 pn3 pc3, iv pl.geese, .slice pA4 pn4 pc4, iv s, .map (some b4)] Tryz.isAgg144 Tryz.sizeOf144 rfl rfl rfl rfl ⟨rfl, Below.refl _ _⟩) ?_
     refine alp 1 (.pointer (some ⟨b33, 1, none⟩)) hsub rfl (by kernel_rfl) (fun _ => (by kernel_rfl)) ?_
     refine al_light 2 (iv x26.hr) hsub rfl (by kernel_rfl) (fun w hI => s_load1 hI 0 (iv x26.hr) Tryz.isAgg3 rfl rfl rfl ⟨rfl, Below.refl _ _⟩) ?_
     refine al_light 3 (iv (leftF cs M s x26.hr)) hsub rfl (by kernel_rfl) (fun w hI => s_call 107 [.agg #[iv pl.lo, iv pl.hi, .slice pA1 pn1 pc1, .slice pA2 pn2 pc2, .slice pA3 pn3 pc3, iv pl.geese, .slice pA4 pn4 pc4, iv s, .map (some b4)], iv x26.hr] (by kernel_rfl) (left_c _ pl pA1 pn1 pc1 pA2 pn2 pc2 pA3 pn3 pc3 cs pA4 pn4 pc4 (hSc.inv0 hI) b4 ck1 es1 M (hI.has 2 _ _ rfl).1 hM1 s x26.hr hs hMb) (fun v' w' h => h)) ?_
     refine alp 4 (.pointer (some ⟨b33, 2, none⟩)) hsub rfl (by kernel_rfl) (fun _ => (by kernel_rfl)) ?_
     refine al_light 5 (.agg #[iv x26.lo, iv x26.hi]) hsub rfl (by kernel_rfl) (fun w hI => s_loadK hI 0 2 [iv x26.lo, iv x26.hi] Tryz.isAgg23 Tryz.sizeOf23 rfl rfl rfl rfl ⟨rfl, Below.refl _ _⟩) ?_
     rcases Bool.eq_false_or_eq_true (inB (leftF cs M s x26.hr) x26.lo x26.hi) with h8 | h8
     ·refine al_light 6 (.bool true) hsub rfl (by kernel_rfl) (fun w hI => s_call 154 [iv (leftF cs M s x26.hr), .agg #[iv x26.lo, iv x26.hi]] (by kernel_rfl) (inRange_c (leftF cs M s x26.hr) x26.lo x26.hi _) (fun v' w' h => ⟨h.1.trans (congrArg Value.bool h8), h.2⟩)) ?_
      refine alp 7 (.bool false) hsub rfl (by kernel_rfl) (fun _ => (by kernel_rfl)) ?_
      refine any_end (by kernel_rfl) (fun w hI => ?_)
      refine wp_condF rfl (wp_skip (rgn (by kernel_rfl) (seq_c (s_add rfl rfl (by omega) ?_))))
      refine pu (iv ((k2 : Int) + 1)) (by kernel_rfl) (seq_nil ?_)
      exact ⟨rfl, _, (by omega), ⟨k2 + 1, ⟨rfl, rfl, rfl, rfl, rfl, trivial⟩, hI.pickL [1, 2, 3, 4, 5] (by decide) rfl, (by omega), rfl⟩⟩
     ·refine al_light 6 (.bool false) hsub rfl (by kernel_rfl) (fun w hI => s_call 154 [iv (leftF cs M s x26.hr), .agg #[iv x26.lo, iv x26.hi]] (by kernel_rfl) (inRange_c (leftF cs M s x26.hr) x26.lo x26.hi _) (fun v' w' h => ⟨h.1.trans (congrArg Value.bool h8), h.2⟩)) ?_
      refine alp 7 (.bool true) hsub rfl (by kernel_rfl) (fun _ => (by kernel_rfl)) ?_
      refine any_end (by kernel_rfl) (fun w hI => ?_)
      refine wp_condT rfl (wp_seq (rgn (by kernel_rfl) (pu (.agg #[iv 0, iv 0, .slice none 0 0, .slice none 0 0, .slice none 0 0, iv 0, .slice none 0 0, iv 0, .map none]) (by kernel_rfl) (seq_c (s_store hI 3 9 [iv 0, iv 0, .slice none 0 0, .slice none 0 0, .slice none 0 0, iv 0, .slice none 0 0, iv 0, .map none] Tryz.sizeOf144 rfl rfl rfl rfl rfl (Nat.le_of_ble_eq_true rfl) ?_)))))
      intro w hI
      refine pu (.bool false) (by kernel_rfl) (seq_nil (wp_ret ?_))
      exact ⟨.tuple #[.agg #[iv 0, iv 0, .slice none 0 0, .slice none 0 0, .slice none 0 0, iv 0, .slice none 0 0, iv 0, .map none], .bool false], Ret.ct rfl rfl (run_loadK hI 3 9 [iv 0, iv 0, .slice none 0 0, .slice none 0 0, .slice none 0 0, iv 0, .slice none 0 0, iv 0, .map none] Tryz.isAgg144 Tryz.sizeOf144 rfl rfl rfl) rfl, (by rw [leftF_same hMcs, hst _ (mem_of_get hx27)] at h8; cases h8)⟩
    ·intro h9
     refine seq_nil (wp_seq (wp_condF rfl (wp_exit ?_)))
     refine wp_seq ?_
     replace hI := hI.pickL [0, 1, 3, 4, 2] (by decide) rfl
     refine wp_drawn2 hI [0, 1, 2, 3] (by decide) rfl (by kernel_rfl) (by kernel_rfl) ?_
     intro hsub
     refine al_light 0 (.agg #[iv pl.lo, iv pl.hi, .slice pA1 pn1 pc1, .slice pA2 pn2 pc2, .slice pA3 pn3 pc3, iv pl.geese, .slice pA4 pn4 pc4, iv s, .map (some b4)]) hsub rfl (by kernel_rfl) (fun w hI => s_loadK hI 0 9 [iv pl.lo, iv pl.hi, .slice pA1 pn1 pc1, .slice pA2 pn2 pc2, .slice pA3 pn3 pc3, iv pl.geese, .slice pA4 pn4 pc4, iv s, .map (some b4)] Tryz.isAgg144 Tryz.sizeOf144 rfl rfl rfl rfl ⟨rfl, Below.refl _ _⟩) ?_
     refine al_light 1 (.agg #[iv pl.lo, iv pl.hi, .slice pA1 pn1 pc1, .slice pA2 pn2 pc2, .slice pA3 pn3 pc3, iv pl.geese, .slice pA4 pn4 pc4, iv s, .map (some b4)]) hsub rfl (by kernel_rfl) (fun w hI => s_loadK hI 0 9 [iv pl.lo, iv pl.hi, .slice pA1 pn1 pc1, .slice pA2 pn2 pc2, .slice pA3 pn3 pc3, iv pl.geese, .slice pA4 pn4 pc4, iv s, .map (some b4)] Tryz.isAgg144 Tryz.sizeOf144 rfl rfl rfl rfl ⟨rfl, Below.refl _ _⟩) ?_
     refine al_light 2 (iv (leftF cs M s 99999)) hsub rfl (by kernel_rfl) (fun w hI => s_call 107 [.agg #[iv pl.lo, iv pl.hi, .slice pA1 pn1 pc1, .slice pA2 pn2 pc2, .slice pA3 pn3 pc3, iv pl.geese, .slice pA4 pn4 pc4, iv s, .map (some b4)], iv 99999] (by kernel_rfl) (left_c _ pl pA1 pn1 pc1 pA2 pn2 pc2 pA3 pn3 pc3 cs pA4 pn4 pc4 (hSc.inv0 hI) b4 ck1 es1 M (hI.has 1 _ _ rfl).1 hM1 s 99999 hs hMb) (fun v' w' h => h)) ?_
     by_cases h10 : 0 ≤ (leftF cs M s 99999)
     ·refine al_light 3 (.bool true) hsub rfl (by kernel_rfl) (fun w hI => s_geq rfl rfl (fun _ => ⟨rfl, Below.refl _ _⟩) (fun h => absurd h10 h)) ?_
      refine any_heavy [4] (by kernel_rfl) rfl (each1 ?_)
      intro w hI
      refine ol_c rfl (s_store hI 4 9 [iv pl.lo, iv pl.hi, .slice pA1 pn1 pc1, .slice pA2 pn2 pc2, .slice pA3 pn3 pc3, iv pl.geese, .slice pA4 pn4 pc4, iv s, .map (some b4)] Tryz.sizeOf144 rfl rfl rfl rfl rfl (Nat.le_of_ble_eq_true rfl) ?_)
      intro w hI
      refine ⟨_, hI, subk (fun _ h => h.pickL [0, 1, 2, 3] (by decide) rfl) ?_⟩
      intro hsub
      refine alp 5 (.bool true) hsub rfl (by kernel_rfl) (fun _ => (by kernel_rfl)) ?_
      refine any_end (by kernel_rfl) (fun w hI => ?_)
      refine wp_ret ?_
      exact ⟨.tuple #[.agg #[iv pl.lo, iv pl.hi, .slice pA1 pn1 pc1, .slice pA2 pn2 pc2, .slice pA3 pn3 pc3, iv pl.geese, .slice pA4 pn4 pc4, iv s, .map (some b4)], .bool true], Ret.ct rfl rfl (run_loadK hI 4 9 [iv pl.lo, iv pl.hi, .slice pA1 pn1 pc1, .slice pA2 pn2 pc2, .slice pA3 pn3 pc3, iv pl.geese, .slice pA4 pn4 pc4, iv s, .map (some b4)] Tryz.isAgg144 Tryz.sizeOf144 rfl rfl rfl) rfl, ⟨b4, es1, ck1, M, rfl, hI.pickL [1] (by decide) rfl, hM1, hMl⟩⟩
     ·refine al_light 3 (.bool false) hsub rfl (by kernel_rfl) (fun w hI => s_geq rfl rfl (fun h => absurd h h10) (fun _ => ⟨rfl, Below.refl _ _⟩)) ?_
      refine any_heavy [4] (by kernel_rfl) rfl (each1 ?_)
      intro w hI
      refine ol_c rfl (s_store hI 4 9 [iv pl.lo, iv pl.hi, .slice pA1 pn1 pc1, .slice pA2 pn2 pc2, .slice pA3 pn3 pc3, iv pl.geese, .slice pA4 pn4 pc4, iv s, .map (some b4)] Tryz.sizeOf144 rfl rfl rfl rfl rfl (Nat.le_of_ble_eq_true rfl) ?_)
      intro w hI
      refine ⟨_, hI, subk (fun _ h => h.pickL [0, 1, 2, 3] (by decide) rfl) ?_⟩
      intro hsub
      refine alp 5 (.bool false) hsub rfl (by kernel_rfl) (fun _ => (by kernel_rfl)) ?_
      refine any_end (by kernel_rfl) (fun w hI => ?_)
      refine wp_ret ?_
      exact ⟨.tuple #[.agg #[iv pl.lo, iv pl.hi, .slice pA1 pn1 pc1, .slice pA2 pn2 pc2, .slice pA3 pn3 pc3, iv pl.geese, .slice pA4 pn4 pc4, iv s, .map (some b4)], .bool false], Ret.ct rfl rfl (run_loadK hI 4 9 [iv pl.lo, iv pl.hi, .slice pA1 pn1 pc1, .slice pA2 pn2 pc2, .slice pA3 pn3 pc3, iv pl.geese, .slice pA4 pn4 pc4, iv s, .map (some b4)] Tryz.isAgg144 Tryz.sizeOf144 rfl rfl rfl) rfl, (absurd (by rw [leftF_same hMcs]; exact hmx) h10)⟩
 ·intro h11 w hI
  refine pu (.bool true) (by kernel_rfl) (pu (.bool true) (by kernel_rfl) (of_ (by kernel_rfl) (of_ (by kernel_rfl) (of_ (by kernel_rfl) (of_ (by kernel_rfl) (of_ (by kernel_rfl) (of_ (by kernel_rfl) (of_ (by kernel_rfl) (of_ (by kernel_rfl) ?_)))))))))
  refine pu (.bool true) (by kernel_rfl) (seq_nil (wp_condT rfl (wp_seq (rgn (by kernel_rfl) (pu (.agg #[iv 0, iv 0, .slice none 0 0, .slice none 0 0, .slice none 0 0, iv 0, .slice none 0 0, iv 0, .map none]) (by kernel_rfl) (seq_c (s_store hI 0 9 [iv 0, iv 0, .slice none 0 0, .slice none 0 0, .slice none 0 0, iv 0, .slice none 0 0, iv 0, .map none] Tryz.sizeOf144 rfl rfl rfl rfl rfl (Nat.le_of_ble_eq_true rfl) ?_)))))))
  intro w hI
  refine pu (.bool false) (by kernel_rfl) (seq_nil (wp_ret ?_))
  exact ⟨.tuple #[.agg #[iv 0, iv 0, .slice none 0 0, .slice none 0 0, .slice none 0 0, iv 0, .slice none 0 0, iv 0, .map none], .bool false], Ret.ct rfl rfl (run_loadK hI 0 9 [iv 0, iv 0, .slice none 0 0, .slice none 0 0, .slice none 0 0, iv 0, .slice none 0 0, iv 0, .map none] Tryz.isAgg144 Tryz.sizeOf144 rfl rfl rfl) rfl, (Bool.noConfusion (h11.symm.trans hsown))⟩

end Go.K
