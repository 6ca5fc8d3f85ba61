/- Numbers that attain an end; whether a plot is sound. -/
import Derived.Test.YtinkdlmimiefaaaGreatProg
import Derived.Test.YtinkdlmimiefaaaGreatPM36
import Derived.Test.YtinkdlmimiefaaaGreatPG10
namespace Go.K
open Go.Proofs Go.RowKit
set_option linter.unusedVariables false
set_option linter.unusedSimpArgs false
set_option maxRecDepth 100000
attribute [local irreducible] Seq Step CallV AnyE opX

/-- A carting in a block of the call's own making. -/
def GivesCart (e0 : Int) (l : List Int) (w0 : World) (v : Value) (w : World) : Prop := ∃ g c cl, v = .agg #[.int .i64 e0, slv g l.length c] ∧ Inv none w0 w [(g, blk cl 3)] ∧ Row 1 g l.length c cl (flat eInt l)
theorem s_callCart {P : Program} {ρ : Env} {B : Option Nat} {w w0 : World} {L : List (Option Nat × Obj)} {R : Value → World → Prop} (hI : Inv B w0 w L) {o : Oper} (f : FuncId) (args : List Value) {e0 : Int} {l : List Int} (F : Value → Value) (h : (execOp (ev ρ) o).run P w = .ok (.enter f args.toArray) w)
    (hc : Does P f args w fun v w' => ∃ v1, v = F v1 ∧ GivesCart e0 l w v1 w') (kk : ∀ g c cl w', Inv B w0 w' ((g, blk cl 3) :: L) → Row 1 g l.length c cl (flat eInt l) → R (F (.agg #[.int .i64 e0, slv g l.length c])) w') : Step P o ρ w R :=
  s_call f args h hc fun v w' ⟨v1, hv, g, c, cl, hv1, hN, hr⟩ => by
    subst hv; subst hv1
    exact kk g c cl w' (hI.join hN) hr
def NumOf (cs : List Ld) (ts : List Int) (N : Int → Int) : Prop := ∀ (i : Nat) (x : Ld) (a b : Int), cs[i]? = some x → ts[i]? = some a → ts[i + 1]? = some b → N x.src = a - b
theorem set_step {E T : List Int} {k : Nat} {v : Int} (h : ∀ i, i < k → E[i]? = T[i]?) (hk : k < E.length) (hv : T[k]? = some v) : ∀ i, i < k + 1 → (E.set k v)[i]? = T[i]? := fun i hi => by
  by_cases e : k = i
  · subst e
    rw [List.getElem?_set_self hk, hv]
  · rw [List.getElem?_set_ne e]
    exact h i (by omega)
theorem ends_at {most : Bool} {S : List Rg} {k : Nat} {x : Rg} (hx : S[k]? = some x) : (endsF most S)[k]? = some (if most then x.hi else x.lo) := by rw [endsF, List.getElem?_map, hx]; rfl
theorem ends_len (most : Bool) (S : List Rg) : (endsF most S).length = S.length := by rw [endsF, List.length_map]
theorem ends_bd {p : Pl} {cs : List Ld} (hok : ScOk p cs) (hs : (stoodF p cs).2 = true) (most : Bool) : ∀ t ∈ endsF most (stoodF p cs).1, -10000 ≤ t ∧ t ≤ 10000 := fun t ht => by
  obtain ⟨K, h⟩ := stood_shape hs
  rw [endsF, List.mem_map] at ht
  obtain ⟨s, hsm, rfl⟩ := ht
  obtain ⟨i, hi, e⟩ := List.getElem_of_mem hsm
  obtain ⟨k, hk, k1, k2⟩ := h.sk i s (by rw [List.getElem?_eq_getElem hi, e])
  obtain ⟨b, hb, b1, b2⟩ := h.kb i k hk
  have hB := boundsF_bd hok b (mem_of_get hb)
  have := h.ord s hsm
  have q1 := hB.a
  have q2 := hB.d
  split <;> omega
def soundC (p : Pl) (dy : Int) : Bool × Int := if dayI p dy = 0 then ((stoodF (scnF p dy) (crtF p dy)).2, 0) else (false, dayI p dy)

set_option maxHeartbeats 1600000 in
theorem cartingOf_c (w0 : World) (pl : Pl) (pA1 : Option Addr) (pn1 pc1 : Nat) (pA2 : Option Addr) (pn2 pc2 : Nat) (pA3 : Option Addr) (pn3 pc3 : Nat) (cs : List Ld) (pA4 : Option Addr) (pn4 pc4 : Nat) (hSc : ScIn w0 pl pA1 pn1 pc1 pA2 pn2 pc2 pA3 pn3 pc3 cs pA4 pn4 pc4) (tA : Option Addr) (tn tc : Nat) (ts : List Int) (hT : Cells w0 tA (flat eInt ts)) (htn : tn = ts.length) (hlen : tn = pn4 + 1) (htb : ∀ t ∈ ts, -10000 ≤ t ∧ t ≤ 10000) (N : Int → Int) (hNt : NumOf cs ts N) (hall : ∀ x ∈ pl.loads, x ∈ cs) : Does Tryz.prog 111 [.agg #[.int .i64 pl.lo, .int .i64 pl.hi, .slice pA1 pn1 pc1, .slice pA2 pn2 pc2, .slice pA3 pn3 pc3, .int .i64 pl.geese, .slice pA4 pn4 pc4], .slice tA tn tc] w0 fun v w => GivesCart (ts.getD 0 0) (pl.loads.map fun x => N x.src) w0 v w := by
 have hm1 := hSc.p.m1; have hm2 := hSc.p.m2; have hm3 := hSc.p.m3; have hm4 := hSc.m4; have hk4 := hSc.k4; have hz1 := hSc.z1; have hz2 := hSc.z2; have hz3 := hSc.z3; have hz4 := hSc.z4
 refine calls_of (n := 57) Tryz.func111 rfl Tryz.ntmps111 rfl ?_
 have hI := Inv.start w0
 refine wp_seq (rgn (by kernel_rfl) (seq_c (s_boxI hI [iv pl.lo, iv pl.hi, .slice pA1 pn1 pc1, .slice pA2 pn2 pc2, .slice pA3 pn3 pc3, iv pl.geese, .slice pA4 pn4 pc4] rfl ?_)))
 intro b1 w hI
 refine seq_c (s_allocI hI [iv 0, .slice none 0 0] Tryz.zeroValue57 rfl ?_)
 intro b2 w hI
 refine seq_nil (wp_seq (rgn (by kernel_rfl) (seq_c (s_makeMap hI ?_))))
 intro b3 w hI
 refine pu (.map (some b3)) (by kernel_rfl) (seq_nil (wp_seq (wp_seq (rgn (by kernel_rfl) (pu (.pointer (some ⟨b1, 6, none⟩)) (by kernel_rfl) (seq_c (s_load1 hI 2 (.slice pA4 pn4 pc4) Tryz.isAgg24 rfl rfl rfl ?_)))))))
 refine pu (iv ((pn4 : Nat) : Int)) (by kernel_rfl) (pu (iv 0) (by kernel_rfl) (seq_nil (wp_block ?_)))
 refine wp_loop (fun m ρ w => ∃ (k : Nat) (es1 : List En) (ck1 : Nat) (M : Int → Int), Agree ρ [(1, .slice tA tn tc), (2, .pointer (some ⟨b1, 0, none⟩)), (4, .pointer (some ⟨b2, 0, none⟩)), (5, .map (some b3)), (13, .slice pA4 pn4 pc4), (14, iv (pn4 : Int)), (15, iv (k : Int))] ∧ Inv none w0 w [(some b3, mobj es1 ck1), (some b2, blk [iv 0, .slice none 0 0] 57), (some b1, blk [iv pl.lo, iv pl.hi, .slice pA1 pn1 pc1, .slice pA2 pn2 pc2, .slice pA3 pn3 pc3, iv pl.geese, .slice pA4 pn4 pc4] 116)] ∧ (k ≤ pn4) ∧ (MOk es1 ck1) ∧ (∀ j, (mget es1 j).getD (iv 0) = iv (M j)) ∧ (∀ i z, i < k → cs[i]? = some z → M z.src = N z.src) ∧ m = pn4 - k) (m := pn4 - 0) ⟨0, [], 0, (fun _ => 0), ⟨rfl, rfl, rfl, rfl, rfl, rfl, rfl, trivial⟩, hI.pickL [0, 1, 2] (by decide) rfl, (by omega), ⟨List.nodup_nil, List.nodup_nil, fun e he => by cases he⟩, (fun _ => rfl), (fun i z h => absurd h (by omega)), rfl⟩ ?_
 rintro m ρ w ⟨k, es1, ck1, M, hag, hI, hk, ho1, hM1, hMk, hm⟩
 obtain ⟨ρ, rfl⟩ := hag.form; clear hag
 refine wp_seq (rgn (by kernel_rfl) (seq_c (s_lss rfl rfl ?_ ?_)))
 ·intro h1
  refine seq_nil (wp_seq (wp_condT rfl (wp_skip (wp_seq (wp_block ?_)))))
  refine wp_seq (rgn (by kernel_rfl) (pu (iv (k : Int)) (by kernel_rfl) ?_))
  obtain ⟨x4, hx5⟩ := get_lt (l := cs) (i := k) (by omega)
  obtain ⟨b6, o7, hA8, hb9, he10⟩ := hSc.e4.at_ eLd_len (by decide) hx5
  refine seq_c (s_indexA k Tryz.underlying24 Tryz.sizeOf30 rfl hA8 rfl rfl (by omega) ?_)
  refine seq_c (s_loadBK hI [iv x4.src, iv x4.hr, iv x4.lo, iv x4.hi, iv x4.kn, iv x4.un] Tryz.isAgg30 Tryz.sizeOf30 rfl rfl hb9 (by simp) he10 ?_)
  refine seq_c (s_allocI hI [iv 0, iv 0, iv 0, iv 0, iv 0, iv 0] Tryz.zeroValue30 rfl ?_)
  intro b11 w hI
  refine pu (iv (k : Int)) (by kernel_rfl) (seq_c (s_store hI 0 6 [iv x4.src, iv x4.hr, iv x4.lo, iv x4.hi, iv x4.kn, iv x4.un] Tryz.sizeOf30 rfl rfl rfl rfl rfl (Nat.le_of_ble_eq_true rfl) ?_))
  intro w hI
  refine seq_nil ?_
  replace hI := hI.pickL [0, 2, 3, 1] (by decide) rfl
  refine wp_drawn2 hI [0, 1, 2] (by decide) rfl (by kernel_rfl) (by kernel_rfl) ?_
  intro hsub
  refine alp 0 (.map (some b3)) hsub rfl (by kernel_rfl) (fun _ => (by kernel_rfl)) ?_
  refine alp 1 (.pointer (some ⟨b11, 0, none⟩)) hsub rfl (by kernel_rfl) (fun _ => (by kernel_rfl)) ?_
  refine al_light 2 (iv x4.src) hsub rfl (by kernel_rfl) (fun w hI => s_load1 hI 0 (iv x4.src) Tryz.isAgg3 rfl rfl rfl ⟨rfl, Below.refl _ _⟩) ?_
  refine alp 3 (.slice tA tn tc) hsub rfl (by kernel_rfl) (fun _ => (by kernel_rfl)) ?_
  refine alp 4 (iv (k : Int)) hsub rfl (by kernel_rfl) (fun _ => (by kernel_rfl)) ?_
  obtain ⟨x12, hx13⟩ := get_lt (l := ts) (i := k) (by omega)
  obtain ⟨b14, o15, hA16, hb17, he18⟩ := hT.at_ eInt_len (by decide) hx13
  refine al_light 5 (.pointer (some ⟨b14, o15 + k * 1, none⟩)) hsub rfl (by kernel_rfl) (fun w hI => s_indexA k Tryz.underlying41 Tryz.sizeOf3 rfl hA16 rfl rfl (by omega) ⟨rfl, Below.refl _ _⟩) ?_
  refine al_light 6 (iv x12) hsub rfl (by kernel_rfl) (fun w hI => s_loadB1 hI (iv x12) Tryz.isAgg3 rfl hb17 (by simp) (he18 0 _ rfl) ⟨rfl, Below.refl _ _⟩) ?_
  refine alp 7 (.slice tA tn tc) hsub rfl (by kernel_rfl) (fun _ => (by kernel_rfl)) ?_
  refine alp 8 (iv (k : Int)) hsub rfl (by kernel_rfl) (fun _ => (by kernel_rfl)) ?_
  refine al_light 9 (iv ((k : Int) + 1)) hsub rfl (by kernel_rfl) (fun w hI => s_add rfl rfl (by omega) ⟨rfl, Below.refl _ _⟩) ?_
  obtain ⟨x19, hx20⟩ := get_lt (l := ts) (i := k + 1) (by omega)
  obtain ⟨b21, o22, hA23, hb24, he25⟩ := hT.at_ eInt_len (by decide) hx20
  refine al_light 10 (.pointer (some ⟨b21, o22 + (k + 1) * 1, none⟩)) hsub rfl (by kernel_rfl) (fun w hI => s_indexA (k + 1) Tryz.underlying41 Tryz.sizeOf3 rfl hA23 rfl (by omega) (by omega) ⟨rfl, Below.refl _ _⟩) ?_
  refine al_light 11 (iv x19) hsub rfl (by kernel_rfl) (fun w hI => s_loadB1 hI (iv x19) Tryz.isAgg3 rfl hb24 (by simp) (he25 0 _ rfl) ⟨rfl, Below.refl _ _⟩) ?_
  refine al_light 12 (iv (x12 - x19)) hsub rfl (by kernel_rfl) (fun w hI => s_sub rfl rfl (by have hz1 := htb _ (mem_of_get hx13); have hz2 := htb _ (mem_of_get hx20); omega) ⟨rfl, Below.refl _ _⟩) ?_
  refine any_heavy [13] (by kernel_rfl) rfl (each1 ?_)
  intro w hI
  refine ol_c rfl (s_mapUpdate hI Tryz.underlying142 Tryz.underlying3 3 rfl rfl rfl rfl ho1 ?_)
  intro es26 ck27 w hI ho28 hg29
  refine ⟨_, hI, subk (fun _ h => h.pickL [0, 1, 2] (by decide) rfl) ?_⟩
  intro hsub
  have hN30 : ∀ j, (mget es26 j).getD (iv 0) = iv ((fun j => if j = x4.src then x12 - x19 else M j) j) := fun j => by rw [hg29 j]; show _ = Value.int .i64 (if j = x4.src then x12 - x19 else M j); by_cases hj : j = x4.src; (rw [if_pos hj, if_pos hj]; rfl); (rw [if_neg hj, if_neg hj]; exact hM1 j)
  refine any_end (by kernel_rfl) (fun w hI => ?_)
  refine rgn (by kernel_rfl) (seq_c (s_add rfl rfl (by omega) ?_))
  refine pu (iv ((k : Int) + 1)) (by kernel_rfl) (seq_nil ?_)
  exact ⟨rfl, _, (by omega), ⟨k + 1, es26, ck27, (fun j => if j = x4.src then x12 - x19 else M j), ⟨rfl, rfl, rfl, rfl, rfl, rfl, rfl, trivial⟩, hI.pickL [3, 1, 2] (by decide) rfl, (by omega), ho28, hN30, (num_step hMk hx5 (hNt _ _ _ _ hx5 hx13 hx20)), rfl⟩⟩
 ·intro h2
  refine seq_nil (wp_seq (wp_condF rfl (wp_exit ?_)))
  refine wp_seq (rgn (by kernel_rfl) (pu (.slice tA tn tc) (by kernel_rfl) ?_))
  obtain ⟨x31, hx32⟩ := get_lt (l := ts) (i := 0) (by omega)
  obtain ⟨b33, o34, hA35, hb36, he37⟩ := hT.at_ eInt_len (by decide) hx32
  refine seq_c (s_indexA 0 Tryz.underlying41 Tryz.sizeOf3 rfl hA35 rfl rfl (by omega) ?_)
  refine seq_c (s_loadB1 hI (iv x31) Tryz.isAgg3 rfl hb36 (by simp) (he37 0 _ rfl) ?_)
  refine pu (.agg #[iv x31, .slice none 0 0]) (by kernel_rfl) (seq_c (s_allocI hI [iv 0, .slice none 0 0] Tryz.zeroValue57 rfl ?_))
  intro b38 w hI
  refine seq_c (s_store hI 0 2 [iv x31, .slice none 0 0] Tryz.sizeOf57 rfl rfl rfl rfl rfl (Nat.le_of_ble_eq_true rfl) ?_)
  intro w hI
  refine seq_nil (wp_seq (wp_seq (rgn (by kernel_rfl) (pu (.pointer (some ⟨b1, 0, none⟩)) (by kernel_rfl) (pu (.pointer (some ⟨b1, 2, none⟩)) (by kernel_rfl) (seq_c (s_load1 hI 3 (.slice pA1 pn1 pc1) Tryz.isAgg24 rfl rfl rfl ?_)))))))
  refine pu (iv ((pn1 : Nat) : Int)) (by kernel_rfl) (pu (iv 0) (by kernel_rfl) (seq_nil (wp_block ?_)))
  have hMl : ∀ x ∈ pl.loads, M x.src = N x.src := fun x hx => by obtain ⟨i, hi, e⟩ := List.getElem_of_mem (hall x hx); exact hMk i x (by omega) (by rw [List.getElem?_eq_getElem hi, e])
  have hI := hI.nilRow 3
  refine wp_loop (fun m ρ w => ∃ (j : Nat) (gg0 : Option Nat) (cc0 : Nat) (ccl0 : List Value), Agree ρ [(4, .pointer (some ⟨b2, 0, none⟩)), (5, .map (some b3)), (8, .pointer (some ⟨b38, 0, none⟩)), (40, .slice pA1 pn1 pc1), (41, iv (pn1 : Int)), (42, iv (j : Int))] ∧ Inv none w0 w [(gg0, blk ccl0 3), (some b38, blk [iv x31, slv gg0 j cc0] 57), (some b3, mobj es1 ck1), (some b2, blk [iv 0, .slice none 0 0] 57), (some b1, blk [iv pl.lo, iv pl.hi, .slice pA1 pn1 pc1, .slice pA2 pn2 pc2, .slice pA3 pn3 pc3, iv pl.geese, .slice pA4 pn4 pc4] 116)] ∧ (j ≤ pn1) ∧ (Row 1 gg0 (j) cc0 ccl0 (flat eInt ((pl.loads.take j).map (fun x : Ld => N x.src)))) ∧ m = pn1 - j) (m := pn1 - 0) ⟨0, none, 0, [], ⟨rfl, rfl, rfl, rfl, rfl, rfl, trivial⟩, hI.pickL [0, 1, 2, 3, 4] (by decide) rfl, (by omega), (Row.nil_ 1), rfl⟩ ?_
  rintro m ρ w ⟨j, gg0, cc0, ccl0, hag, hI, hj, hrr0, hm⟩
  obtain ⟨ρ, rfl⟩ := hag.form; clear hag
  refine wp_seq (rgn (by kernel_rfl) (seq_c (s_lss rfl rfl ?_ ?_)))
  ·intro h3
   refine seq_nil (wp_seq (wp_condT rfl (wp_skip (wp_seq (wp_block ?_)))))
   refine wp_seq (rgn (by kernel_rfl) ?_)
   obtain ⟨x39, hx40⟩ := get_lt (l := pl.loads) (i := j) (by omega)
   obtain ⟨b41, o42, hA43, hb44, he45⟩ := hSc.p.c1.at_ eLd_len (by decide) hx40
   refine seq_c (s_indexA j Tryz.underlying24 Tryz.sizeOf30 rfl hA43 rfl rfl (by omega) ?_)
   refine seq_c (s_loadBK hI [iv x39.src, iv x39.hr, iv x39.lo, iv x39.hi, iv x39.kn, iv x39.un] Tryz.isAgg30 Tryz.sizeOf30 rfl rfl hb44 (by simp) he45 ?_)
   refine seq_c (s_allocI hI [iv 0, iv 0, iv 0, iv 0, iv 0, iv 0] Tryz.zeroValue30 rfl ?_)
   intro b46 w hI
   refine seq_c (s_store hI 0 6 [iv x39.src, iv x39.hr, iv x39.lo, iv x39.hi, iv x39.kn, iv x39.un] Tryz.sizeOf30 rfl rfl rfl rfl rfl (Nat.le_of_ble_eq_true rfl) ?_)
   intro w hI
   refine seq_nil (rgn (by kernel_rfl) (pu (.pointer (some ⟨b38, 1, none⟩)) (by kernel_rfl) (seq_c (s_load1 hI 2 (slv gg0 j cc0) Tryz.isAgg41 rfl rfl rfl ?_))))
   refine pu (.map (some b3)) (by kernel_rfl) (pu (.pointer (some ⟨b46, 0, none⟩)) (by kernel_rfl) (seq_c (s_load1 hI 0 (iv x39.src) Tryz.isAgg3 rfl rfl rfl ?_)))
   refine seq_c (s_lookup hI (iv (M x39.src)) Tryz.underlying142 Tryz.underlying3 Tryz.zeroValue3 3 rfl rfl rfl (hM1 _) ?_)
   refine seq_c (s_new hI [iv (M x39.src)] 3 (fun b => slv (some b) 1 1) (by kernel_rfl) ?_)
   intro b47 w hI
   refine seq_c (s_app hI Tryz.underlying41 (z := iv 0) (k := 1) (bytes := 8) (by kernel_rfl) rfl rfl 2 rfl rfl hrr0 [iv (M x39.src)] rfl rfl (hI.cells 0 (off := 0) rfl (fun j u h => by rw [Nat.zero_add]; exact h)) (by simp [Value.oneCell']) (by omega) (by omega) ?_)
   intro g48 c49 cl50 w hI r51
   have r51 : Row 1 g48 (j + 1) c49 cl50 (flat eInt (((pl.loads.take j).map (fun x : Ld => N x.src)) ++ [M x39.src])) := r51.snoc _ rfl
   refine pu (.pointer (some ⟨b38, 1, none⟩)) (by kernel_rfl) (seq_c (s_store hI 3 1 [slv g48 (j + 1) c49] Tryz.sizeOf41 rfl rfl rfl rfl rfl (Nat.le_of_ble_eq_true rfl) ?_))
   intro w hI
   refine seq_nil (rgn (by kernel_rfl) (seq_c (s_add rfl rfl (by omega) ?_)))
   refine pu (iv ((j : Int) + 1)) (by kernel_rfl) (seq_nil ?_)
   exact ⟨rfl, _, (by omega), ⟨j + 1, g48, c49, cl50, ⟨rfl, rfl, rfl, rfl, rfl, rfl, trivial⟩, hI.pickL [2, 3, 4, 5, 6] (by decide) rfl, (by omega), (r51.to (by rw [take_get hx40, List.map_append, hMl _ (mem_of_get hx40)]; rfl) rfl), rfl⟩⟩
  ·intro h4
   refine seq_nil (wp_seq (wp_condF rfl (wp_exit ?_)))
   refine wp_seq (rgn (by kernel_rfl) (seq_c (s_loadK hI 1 2 [iv x31, slv gg0 j cc0] Tryz.isAgg57 Tryz.sizeOf57 rfl rfl rfl rfl ?_)))
   refine seq_c (s_store hI 3 2 [iv x31, slv gg0 j cc0] Tryz.sizeOf57 rfl rfl rfl rfl rfl (Nat.le_of_ble_eq_true rfl) ?_)
   intro w hI
   refine seq_nil (wp_ret ?_)
   have hjl : j = (pl.loads.map fun x : Ld => N x.src).length := by rw [List.length_map]; omega
   have he0 : ts.getD 0 0 = x31 := by rw [List.getD_eq_getElem?_getD, hx32]; rfl
   exact ⟨.agg #[iv x31, slv gg0 j cc0], Ret.c rfl rfl (run_loadK hI 3 2 [iv x31, slv gg0 j cc0] Tryz.isAgg57 Tryz.sizeOf57 rfl rfl rfl), ⟨gg0, cc0, ccl0, (by rw [he0, hjl]), hI.pickL [0] (by decide) rfl, (hrr0.to (by rw [List.take_of_length_le (by omega)]) hjl)⟩⟩

set_option maxHeartbeats 1600000 in
theorem Attain_c (w0 : World) (pl : Pl) (pA1 : Option Addr) (pn1 pc1 : Nat) (pA2 : Option Addr) (pn2 pc2 : Nat) (pA3 : Option Addr) (pn3 pc3 : Nat) (hP : PlotIn w0 pl pA1 pn1 pA2 pn2 pA3 pn3) (h dy : Int) (most : Bool) (hn19 : pl.loads.length < 20) (hhour : hourI pl h dy = 0) (N : Int → Int) (hN : (stoodF (scnF pl dy) (crtF pl dy)).2 = true → NumOf (crtF pl dy) (endsF most (stoodF (scnF pl dy) (crtF pl dy)).1) N) : Does Tryz.prog 44 [.agg #[.int .i64 pl.lo, .int .i64 pl.hi, .slice pA1 pn1 pc1, .slice pA2 pn2 pc2, .slice pA3 pn3 pc3, .int .i64 pl.geese], .int .i64 h, .int .i64 dy, .bool most] w0 fun v w => ((stoodF (scnF pl dy) (crtF pl dy)).2 = true ∧ ∃ v1, v = .tuple #[v1, .int .i64 0] ∧ GivesCart ((endsF most (stoodF (scnF pl dy) (crtF pl dy)).1).getD 0 0) ((scnF pl dy).loads.map fun x => N x.src) w0 v1 w) ∨ ((stoodF (scnF pl dy) (crtF pl dy)).2 = false ∧ v = .tuple #[.agg #[.int .i64 0, .slice none 0 0], .int .i64 14] ∧ Below w0.heap.size w0 w) := by
 have hm1 := hP.m1; have hm2 := hP.m2; have hm3 := hP.m3
 refine calls_of (n := 61) Tryz.func44 rfl Tryz.ntmps44 rfl ?_
 have hI := Inv.start w0
 refine wp_seq (rgn (by kernel_rfl) (seq_c (s_boxI hI [iv pl.lo, iv pl.hi, .slice pA1 pn1 pc1, .slice pA2 pn2 pc2, .slice pA3 pn3 pc3, iv pl.geese] rfl ?_)))
 intro b1 w hI
 refine seq_c (s_allocI hI [iv 0, .slice none 0 0] Tryz.zeroValue57 rfl ?_)
 intro b2 w hI
 refine pu (iv 0) (by kernel_rfl) (seq_nil (wp_seq (wp_seq (rgn (by kernel_rfl) (seq_c (s_loadK hI 1 6 [iv pl.lo, iv pl.hi, .slice pA1 pn1 pc1, .slice pA2 pn2 pc2, .slice pA3 pn3 pc3, iv pl.geese] Tryz.isAgg28 Tryz.sizeOf28 rfl rfl rfl rfl ?_))))))
 refine pu (iv h) (by kernel_rfl) (pu (iv dy) (by kernel_rfl) (seq_c (s_callv hI 97 [.agg #[iv pl.lo, iv pl.hi, .slice pA1 pn1 pc1, .slice pA2 pn2 pc2, .slice pA3 pn3 pc3, iv pl.geese], iv h, iv dy] (iv (hourI pl h dy)) (by kernel_rfl) (checkHour_c _ pl pA1 pn1 pc1 pA2 pn2 pc2 pA3 pn3 pc3 (hP.inv0 hI) h dy) ?_)))
 intro w hI
 refine pu (iv (hourI pl h dy)) (by kernel_rfl) (seq_nil (wp_seq (rgn (by kernel_rfl) (pu (iv (hourI pl h dy)) (by kernel_rfl) (seq_c (s_neq rfl rfl ?_ ?_))))))
 ·intro h1
  refine seq_nil (wp_condT rfl (wp_seq (rgn (by kernel_rfl) (pu (.agg #[iv 0, .slice none 0 0]) (by kernel_rfl) (pu (iv (hourI pl h dy)) (by kernel_rfl) (seq_c (s_store hI 0 2 [iv 0, .slice none 0 0] Tryz.sizeOf57 rfl rfl rfl rfl rfl (Nat.le_of_ble_eq_true rfl) ?_)))))))
  intro w hI
  refine pu (iv (hourI pl h dy)) (by kernel_rfl) (seq_nil (wp_ret ?_))
  exact ⟨.tuple #[.agg #[iv 0, .slice none 0 0], iv (hourI pl h dy)], Ret.ct rfl rfl (run_loadK hI 0 2 [iv 0, .slice none 0 0] Tryz.isAgg57 Tryz.sizeOf57 rfl rfl rfl) rfl, (absurd hhour h1)⟩
 ·intro h2
  refine seq_nil (wp_condF rfl (wp_skip (wp_seq (rgn (by kernel_rfl) (seq_c (s_loadK hI 1 6 [iv pl.lo, iv pl.hi, .slice pA1 pn1 pc1, .slice pA2 pn2 pc2, .slice pA3 pn3 pc3, iv pl.geese] Tryz.isAgg28 Tryz.sizeOf28 rfl rfl rfl rfl ?_))))))
  refine pu (iv dy) (by kernel_rfl) ?_
  have hsl := scn_len pl dy; obtain ⟨hsl1, hsl2, hsl3⟩ := hsl; have hsc := crt_len pl dy; have hok_ := plotB_small (hourI_ok hhour).1; have hok1 := hok_.s1; have hok2 := hok_.s2; have hok3 := hok_.s3
  refine seq_c (s_callScene hI (q := scnF pl dy) (cs := crtF pl dy) 86 [.agg #[iv pl.lo, iv pl.hi, .slice pA1 pn1 pc1, .slice pA2 pn2 pc2, .slice pA3 pn3 pc3, iv pl.geese], iv dy] (by kernel_rfl) (sceneOf_c _ pl pA1 pn1 pc1 pA2 pn2 pc2 pA3 pn3 pc3 (hP.inv0 hI) (plotB_small (hourI_ok hhour).1) dy (by omega)) ?_)
  intro g3 c4 cl5 g7 c8 cl9 g11 c12 cl13 g15 c16 cl17 w hI r6 r10 r14 r18
  refine seq_c (s_allocI hI [iv 0, iv 0, .slice none 0 0, .slice none 0 0, .slice none 0 0, iv 0, .slice none 0 0] Tryz.zeroValue116 rfl ?_)
  intro b19 w hI
  refine seq_c (s_store hI 0 7 [iv (scnF pl dy).lo, iv (scnF pl dy).hi, slv g3 (scnF pl dy).loads.length c4, slv g7 (scnF pl dy).stands.length c8, slv g11 (scnF pl dy).spells.length c12, iv (scnF pl dy).geese, slv g15 (crtF pl dy).length c16] Tryz.sizeOf116 rfl rfl rfl rfl rfl (Nat.le_of_ble_eq_true rfl) ?_)
  intro w hI
  refine seq_nil (wp_seq (rgn (by kernel_rfl) (seq_c (s_loadK hI 0 7 [iv (scnF pl dy).lo, iv (scnF pl dy).hi, slv g3 (scnF pl dy).loads.length c4, slv g7 (scnF pl dy).stands.length c8, slv g11 (scnF pl dy).spells.length c12, iv (scnF pl dy).geese, slv g15 (crtF pl dy).length c16] Tryz.isAgg116 Tryz.sizeOf116 rfl rfl rfl rfl ?_))))
  rcases Bool.eq_false_or_eq_true ((stoodF (scnF pl dy) (crtF pl dy)).2) with h3 | h3
  ·
   refine seq_c (s_callNewF hI 102 [.agg #[iv (scnF pl dy).lo, iv (scnF pl dy).hi, slv g3 (scnF pl dy).loads.length c4, slv g7 (scnF pl dy).stands.length c8, slv g11 (scnF pl dy).spells.length c12, iv (scnF pl dy).geese, slv g15 (crtF pl dy).length c16]] (fun v1 => .tuple #[v1, .bool true]) (by kernel_rfl) (Does.mono (stood_c _ (scnF pl dy) (g3.map fun b => ⟨b, 0, none⟩) (scnF pl dy).loads.length c4 (g7.map fun b => ⟨b, 0, none⟩) (scnF pl dy).stands.length c8 (g11.map fun b => ⟨b, 0, none⟩) (scnF pl dy).spells.length c12 (crtF pl dy) (g15.map fun b => ⟨b, 0, none⟩) (crtF pl dy).length c16 ⟨⟨(hI.rowCells 1 rfl r6), rfl, (hI.rowCells 2 rfl r10), rfl, (hI.rowCells 3 rfl r14), rfl, (by omega), (by omega), (by omega)⟩, (hI.rowCells 4 rfl r18), rfl, r18.cap, (by omega), (by omega), (by omega), (by omega)⟩ (scn_ok (hourI_ok hhour).1 dy)) (fun v w' ⟨v1, e1, e2⟩ => ⟨v1, by rw [e1, h3], e2⟩)) ?_)
   intro g20 c21 cl22 w hI r23
   have r23 : Row 2 g20 ((stoodF (scnF pl dy) (crtF pl dy)).1.length) c21 cl22 (flat eRg ((stoodF (scnF pl dy) (crtF pl dy)).1)) := r23
   have hsl := stoodF_len h3
   refine pu (.tuple #[slv g20 ((stoodF (scnF pl dy) (crtF pl dy)).1.length) c21, .bool true]) (by kernel_rfl) (pu (slv g20 ((stoodF (scnF pl dy) (crtF pl dy)).1.length) c21) (by kernel_rfl) (pu (.bool true) (by kernel_rfl) (pu (slv g20 ((stoodF (scnF pl dy) (crtF pl dy)).1.length) c21) (by kernel_rfl) (pu (.bool true) (by kernel_rfl) (seq_nil (wp_seq (wp_seq (rgn (by kernel_rfl) (pu (.bool true) (by kernel_rfl) ?_)))))))))
   refine pu (.bool false) (by kernel_rfl) (seq_nil (wp_condF rfl (wp_skip (wp_seq (rgn (by kernel_rfl) (pu (slv g20 ((stoodF (scnF pl dy) (crtF pl dy)).1.length) c21) (by kernel_rfl) (pu (iv (((stoodF (scnF pl dy) (crtF pl dy)).1.length : Nat) : Int)) (by kernel_rfl) ?_)))))))
   have hso : (stoodF (scnF pl dy) (crtF pl dy)).2 = true := by assumption
   refine seq_c (s_makeRow hI (enc := eInt) eInt_len (by decide) (0 : Int) Tryz.underlying41 (z := iv 0) (k := 1) (bytes := 8) (by kernel_rfl) rfl ((stoodF (scnF pl dy) (crtF pl dy)).1.length) rfl rfl (by omega) (by decide) ?_)
   intro bm clm w hI hrm
   refine pu (slv (some bm) ((stoodF (scnF pl dy) (crtF pl dy)).1.length) ((stoodF (scnF pl dy) (crtF pl dy)).1.length)) (by kernel_rfl) (seq_nil (wp_seq (wp_seq (rgn (by kernel_rfl) (pu (slv g20 ((stoodF (scnF pl dy) (crtF pl dy)).1.length) c21) (by kernel_rfl) (pu (iv (((stoodF (scnF pl dy) (crtF pl dy)).1.length : Nat) : Int)) (by kernel_rfl) (pu (iv 0) (by kernel_rfl) (seq_nil (wp_block ?_)))))))))
   refine wp_loop (fun m ρ w => ∃ (k : Nat) (ccl : List Value) (EL : List Int), Agree ρ [(3, .bool most), (8, .pointer (some ⟨b2, 0, none⟩)), (11, .pointer (some ⟨b19, 0, none⟩)), (14, slv (some bm) ((stoodF (scnF pl dy) (crtF pl dy)).1.length) ((stoodF (scnF pl dy) (crtF pl dy)).1.length)), (39, slv g20 ((stoodF (scnF pl dy) (crtF pl dy)).1.length) c21), (40, iv ((stoodF (scnF pl dy) (crtF pl dy)).1.length : Int)), (41, iv (k : Int))] ∧ Inv none w0 w [(some bm, blk ccl 3), (g20, blk cl22 23), (some b19, blk [iv (scnF pl dy).lo, iv (scnF pl dy).hi, slv g3 (scnF pl dy).loads.length c4, slv g7 (scnF pl dy).stands.length c8, slv g11 (scnF pl dy).spells.length c12, iv (scnF pl dy).geese, slv g15 (crtF pl dy).length c16] 116), (g3, blk cl5 30), (g7, blk cl9 31), (g11, blk cl13 33), (g15, blk cl17 30), (some b2, blk [iv 0, .slice none 0 0] 57), (some b1, blk [iv pl.lo, iv pl.hi, .slice pA1 pn1 pc1, .slice pA2 pn2 pc2, .slice pA3 pn3 pc3, iv pl.geese] 28)] ∧ (k ≤ (stoodF (scnF pl dy) (crtF pl dy)).1.length) ∧ (EL.length = (stoodF (scnF pl dy) (crtF pl dy)).1.length) ∧ (∀ i, i < k → EL[i]? = (endsF most (stoodF (scnF pl dy) (crtF pl dy)).1)[i]?) ∧ (Row 1 (some bm) ((stoodF (scnF pl dy) (crtF pl dy)).1.length) ((stoodF (scnF pl dy) (crtF pl dy)).1.length) ccl (flat eInt EL)) ∧ m = (stoodF (scnF pl dy) (crtF pl dy)).1.length - k) (m := (stoodF (scnF pl dy) (crtF pl dy)).1.length - 0) ⟨0, clm, List.replicate ((stoodF (scnF pl dy) (crtF pl dy)).1.length) (0 : Int), ⟨rfl, rfl, rfl, rfl, rfl, rfl, rfl, trivial⟩, hI.pickL [0, 1, 2, 3, 4, 5, 6, 7, 8] (by decide) rfl, (by omega), List.length_replicate, (fun i h => absurd h (by omega)), hrm, rfl⟩ ?_
   rintro m ρ w ⟨k, ccl, EL, hag, hI, hk, hEn, hEL, hrr, hm⟩
   obtain ⟨ρ, rfl⟩ := hag.form; clear hag
   refine wp_seq (rgn (by kernel_rfl) (seq_c (s_lss rfl rfl ?_ ?_)))
   ·intro h4
    refine seq_nil (wp_seq (wp_condT rfl (wp_skip (wp_seq (wp_block ?_)))))
    refine wp_seq (rgn (by kernel_rfl) (pu (iv (k : Int)) (by kernel_rfl) ?_))
    obtain ⟨x24, hx25⟩ := get_lt (l := (stoodF (scnF pl dy) (crtF pl dy)).1) (i := k) (by omega)
    obtain ⟨b26, rfl, he27⟩ := r23.at_ eRg_len (by decide) hx25
    refine seq_c (s_indexR k Tryz.underlying130 Tryz.sizeOf23 rfl rfl rfl (by omega) ?_)
    refine seq_c (s_loadRK hI 1 [iv x24.lo, iv x24.hi] Tryz.isAgg23 Tryz.sizeOf23 rfl rfl rfl he27 ?_)
    refine seq_c (s_allocI hI [iv 0, iv 0] Tryz.zeroValue23 rfl ?_)
    intro b28 w hI
    refine pu (iv (k : Int)) (by kernel_rfl) (seq_c (s_store hI 0 2 [iv x24.lo, iv x24.hi] Tryz.sizeOf23 rfl rfl rfl rfl rfl (Nat.le_of_ble_eq_true rfl) ?_))
    intro w hI
    refine seq_nil (wp_seq (rgn (by kernel_rfl) (pu (slv (some bm) ((stoodF (scnF pl dy) (crtF pl dy)).1.length) ((stoodF (scnF pl dy) (crtF pl dy)).1.length)) (by kernel_rfl) (pu (iv (k : Int)) (by kernel_rfl) (pu (.pointer (some ⟨b28, 0, none⟩)) (by kernel_rfl) (seq_c (s_load1 hI 0 (iv x24.lo) Tryz.isAgg3 rfl rfl rfl ?_)))))))
    obtain ⟨x29, hx30⟩ := get_lt (l := EL) (i := k) (by omega)
    have he31 := hrr.atS eInt_len (by decide) hx30
    refine seq_c (s_indexR k Tryz.underlying41 Tryz.sizeOf3 rfl rfl rfl (by omega) ?_)
    refine seq_c (s_store hI 1 1 [iv x24.lo] Tryz.sizeOf3 rfl rfl rfl rfl rfl (hrr.room (by omega)) ?_)
    intro w hI
    have r32 := hrr.put eInt_len (by decide) k x24.lo (by omega)
    obtain ⟨cl33, hcl⟩ : ∃ z, z = putCells ccl (k * 1) (eInt x24.lo) := ⟨_, rfl⟩
    rw [← hcl] at r32
    have hI : Inv none w0 w [(some b28, blk [iv x24.lo, iv x24.hi] 23), (some bm, blk cl33 3), (some b26, blk cl22 23), (some b19, blk [iv (scnF pl dy).lo, iv (scnF pl dy).hi, slv g3 (scnF pl dy).loads.length c4, slv g7 (scnF pl dy).stands.length c8, slv g11 (scnF pl dy).spells.length c12, iv (scnF pl dy).geese, slv g15 (crtF pl dy).length c16] 116), (g3, blk cl5 30), (g7, blk cl9 31), (g11, blk cl13 33), (g15, blk cl17 30), (some b2, blk [iv 0, .slice none 0 0] 57), (some b1, blk [iv pl.lo, iv pl.hi, .slice pA1 pn1 pc1, .slice pA2 pn2 pc2, .slice pA3 pn3 pc3, iv pl.geese] 28)] := by rw [hcl]; exact hI
    clear hcl
    refine seq_nil (wp_seq (rgn (by kernel_rfl) (pu (.bool most) (by kernel_rfl) (seq_nil (wp_cond (t := most) rfl ?_ ?_)))))
    ·intro h5
     refine rgn (by kernel_rfl) (pu (slv (some bm) ((stoodF (scnF pl dy) (crtF pl dy)).1.length) ((stoodF (scnF pl dy) (crtF pl dy)).1.length)) (by kernel_rfl) (pu (iv (k : Int)) (by kernel_rfl) (pu (.pointer (some ⟨b28, 1, none⟩)) (by kernel_rfl) (seq_c (s_load1 hI 0 (iv x24.hi) Tryz.isAgg3 rfl rfl rfl ?_)))))
     obtain ⟨x34, hx35⟩ := get_lt (l := (EL).set k x24.lo) (i := k) (by first | omega | (simp only [List.length_set]; omega))
     have he36 := r32.atS eInt_len (by decide) hx35
     refine seq_c (s_indexR k Tryz.underlying41 Tryz.sizeOf3 rfl rfl rfl (by omega) ?_)
     refine seq_c (s_store hI 1 1 [iv x24.hi] Tryz.sizeOf3 rfl rfl rfl rfl rfl (r32.room (by omega)) ?_)
     intro w hI
     have r37 := r32.put eInt_len (by decide) k x24.hi (by omega)
     obtain ⟨cl38, hcl⟩ : ∃ z, z = putCells cl33 (k * 1) (eInt x24.hi) := ⟨_, rfl⟩
     rw [← hcl] at r37
     have hI : Inv none w0 w [(some b28, blk [iv x24.lo, iv x24.hi] 23), (some bm, blk cl38 3), (some b26, blk cl22 23), (some b19, blk [iv (scnF pl dy).lo, iv (scnF pl dy).hi, slv g3 (scnF pl dy).loads.length c4, slv g7 (scnF pl dy).stands.length c8, slv g11 (scnF pl dy).spells.length c12, iv (scnF pl dy).geese, slv g15 (crtF pl dy).length c16] 116), (g3, blk cl5 30), (g7, blk cl9 31), (g11, blk cl13 33), (g15, blk cl17 30), (some b2, blk [iv 0, .slice none 0 0] 57), (some b1, blk [iv pl.lo, iv pl.hi, .slice pA1 pn1 pc1, .slice pA2 pn2 pc2, .slice pA3 pn3 pc3, iv pl.geese] 28)] := by rw [hcl]; exact hI
     clear hcl
     refine seq_nil (rgn (by kernel_rfl) (seq_c (s_add rfl rfl (by omega) ?_)))
     refine pu (iv ((k : Int) + 1)) (by kernel_rfl) (seq_nil ?_)
     have hss : ((EL).set k x24.lo).set k x24.hi = EL.set k x24.hi := List.set_set _
     exact ⟨rfl, _, (by omega), ⟨k + 1, cl38, EL.set k x24.hi, ⟨rfl, rfl, rfl, rfl, rfl, rfl, rfl, trivial⟩, hI.pickL [1, 2, 3, 4, 5, 6, 7, 8, 9] (by decide) rfl, (by omega), (by rw [List.length_set]; exact hEn), (set_step hEL (by omega) (by rw [ends_at hx25, h5]; rfl)), (r37.to hss rfl), rfl⟩⟩
    ·intro h6
     refine wp_skip (rgn (by kernel_rfl) (seq_c (s_add rfl rfl (by omega) ?_)))
     refine pu (iv ((k : Int) + 1)) (by kernel_rfl) (seq_nil ?_)
     exact ⟨rfl, _, (by omega), ⟨k + 1, cl33, EL.set k x24.lo, ⟨rfl, rfl, rfl, rfl, rfl, rfl, rfl, trivial⟩, hI.pickL [1, 2, 3, 4, 5, 6, 7, 8, 9] (by decide) rfl, (by omega), (by rw [List.length_set]; exact hEn), (set_step hEL (by omega) (by rw [ends_at hx25, h6]; rfl)), (r32.to rfl rfl), rfl⟩⟩
   ·intro h7
    refine seq_nil (wp_seq (wp_condF rfl (wp_exit ?_)))
    refine wp_seq (rgn (by kernel_rfl) (seq_c (s_loadK hI 2 7 [iv (scnF pl dy).lo, iv (scnF pl dy).hi, slv g3 (scnF pl dy).loads.length c4, slv g7 (scnF pl dy).stands.length c8, slv g11 (scnF pl dy).spells.length c12, iv (scnF pl dy).geese, slv g15 (crtF pl dy).length c16] Tryz.isAgg116 Tryz.sizeOf116 rfl rfl rfl rfl ?_)))
    refine pu (slv (some bm) ((stoodF (scnF pl dy) (crtF pl dy)).1.length) ((stoodF (scnF pl dy) (crtF pl dy)).1.length)) (by kernel_rfl) ?_
    have hEE : EL = endsF most (stoodF (scnF pl dy) (crtF pl dy)).1 := List.ext_getElem? fun i => by rcases Nat.lt_or_ge i (stoodF (scnF pl dy) (crtF pl dy)).1.length with h1 | h1; (exact hEL i (by omega)); (rw [List.getElem?_eq_none (by omega), List.getElem?_eq_none (by rw [ends_len]; omega)])
    rw [hEE] at hrr
    have hel := ends_len most (stoodF (scnF pl dy) (crtF pl dy)).1
    have hall : ∀ x ∈ (scnF pl dy).loads, x ∈ crtF pl dy := fun x hx => sortF_mem.2 hx
    refine seq_c (s_callCart hI (e0 := (endsF most (stoodF (scnF pl dy) (crtF pl dy)).1).getD 0 0) (l := (scnF pl dy).loads.map (fun x : Ld => N x.src)) 111 [.agg #[iv (scnF pl dy).lo, iv (scnF pl dy).hi, slv g3 (scnF pl dy).loads.length c4, slv g7 (scnF pl dy).stands.length c8, slv g11 (scnF pl dy).spells.length c12, iv (scnF pl dy).geese, slv g15 (crtF pl dy).length c16], slv (some bm) ((stoodF (scnF pl dy) (crtF pl dy)).1.length) ((stoodF (scnF pl dy) (crtF pl dy)).1.length)] (fun v1 => v1) (by kernel_rfl) (Does.mono (cartingOf_c _ (scnF pl dy) (g3.map fun b => ⟨b, 0, none⟩) (scnF pl dy).loads.length c4 (g7.map fun b => ⟨b, 0, none⟩) (scnF pl dy).stands.length c8 (g11.map fun b => ⟨b, 0, none⟩) (scnF pl dy).spells.length c12 (crtF pl dy) (g15.map fun b => ⟨b, 0, none⟩) (crtF pl dy).length c16 ⟨⟨(hI.rowCells 3 rfl r6), rfl, (hI.rowCells 4 rfl r10), rfl, (hI.rowCells 5 rfl r14), rfl, (by omega), (by omega), (by omega)⟩, (hI.rowCells 6 rfl r18), rfl, r18.cap, (by omega), (by omega), (by omega), (by omega)⟩ ((some bm).map fun b => ⟨b, 0, none⟩) ((stoodF (scnF pl dy) (crtF pl dy)).1.length) ((stoodF (scnF pl dy) (crtF pl dy)).1.length) (endsF most (stoodF (scnF pl dy) (crtF pl dy)).1) ((hI.rowCells 0 rfl hrr)) (by omega) (by omega) (ends_bd (scn_ok (hourI_ok hhour).1 dy) hso most) N (hN hso) hall) fun v w h => ⟨v, rfl, h⟩) ?_)
    intro g39 c40 cl41 w hI r42
    have r42 : Row 1 g39 (((scnF pl dy).loads.map (fun x : Ld => N x.src)).length) c40 cl41 (flat eInt ((scnF pl dy).loads.map (fun x : Ld => N x.src))) := r42
    refine seq_c (s_store hI 8 2 [iv ((endsF most (stoodF (scnF pl dy) (crtF pl dy)).1).getD 0 0), slv g39 (((scnF pl dy).loads.map (fun x : Ld => N x.src)).length) c40] Tryz.sizeOf57 rfl rfl rfl rfl rfl (Nat.le_of_ble_eq_true rfl) ?_)
    intro w hI
    refine pu (iv 0) (by kernel_rfl) (seq_nil (wp_ret ?_))
    exact ⟨.tuple #[.agg #[iv ((endsF most (stoodF (scnF pl dy) (crtF pl dy)).1).getD 0 0), slv g39 (((scnF pl dy).loads.map (fun x : Ld => N x.src)).length) c40], iv 0], Ret.ct rfl rfl (run_loadK hI 8 2 [iv ((endsF most (stoodF (scnF pl dy) (crtF pl dy)).1).getD 0 0), slv g39 (((scnF pl dy).loads.map (fun x : Ld => N x.src)).length) c40] Tryz.isAgg57 Tryz.sizeOf57 rfl rfl rfl) rfl, (.inl ⟨hso, _, rfl, g39, c40, cl41, rfl, hI.pickL [0] (by decide) rfl, r42⟩)⟩
  ·
   refine seq_c (s_callNewF hI 102 [.agg #[iv (scnF pl dy).lo, iv (scnF pl dy).hi, slv g3 (scnF pl dy).loads.length c4, slv g7 (scnF pl dy).stands.length c8, slv g11 (scnF pl dy).spells.length c12, iv (scnF pl dy).geese, slv g15 (crtF pl dy).length c16]] (fun v1 => .tuple #[v1, .bool false]) (by kernel_rfl) (Does.mono (stood_c _ (scnF pl dy) (g3.map fun b => ⟨b, 0, none⟩) (scnF pl dy).loads.length c4 (g7.map fun b => ⟨b, 0, none⟩) (scnF pl dy).stands.length c8 (g11.map fun b => ⟨b, 0, none⟩) (scnF pl dy).spells.length c12 (crtF pl dy) (g15.map fun b => ⟨b, 0, none⟩) (crtF pl dy).length c16 ⟨⟨(hI.rowCells 1 rfl r6), rfl, (hI.rowCells 2 rfl r10), rfl, (hI.rowCells 3 rfl r14), rfl, (by omega), (by omega), (by omega)⟩, (hI.rowCells 4 rfl r18), rfl, r18.cap, (by omega), (by omega), (by omega), (by omega)⟩ (scn_ok (hourI_ok hhour).1 dy)) (fun v w' ⟨v1, e1, e2⟩ => ⟨v1, by rw [e1, h3], e2⟩)) ?_)
   intro g43 c44 cl45 w hI r46
   have r46 : Row 2 g43 ((stoodF (scnF pl dy) (crtF pl dy)).1.length) c44 cl45 (flat eRg ((stoodF (scnF pl dy) (crtF pl dy)).1)) := r46
   refine pu (.tuple #[slv g43 ((stoodF (scnF pl dy) (crtF pl dy)).1.length) c44, .bool false]) (by kernel_rfl) (pu (slv g43 ((stoodF (scnF pl dy) (crtF pl dy)).1.length) c44) (by kernel_rfl) (pu (.bool false) (by kernel_rfl) (pu (slv g43 ((stoodF (scnF pl dy) (crtF pl dy)).1.length) c44) (by kernel_rfl) (pu (.bool false) (by kernel_rfl) (seq_nil (wp_seq (wp_seq (rgn (by kernel_rfl) (pu (.bool false) (by kernel_rfl) ?_)))))))))
   refine pu (.bool true) (by kernel_rfl) (seq_nil (wp_condT rfl (wp_seq (rgn (by kernel_rfl) (pu (.agg #[iv 0, .slice none 0 0]) (by kernel_rfl) (seq_c (s_store hI 6 2 [iv 0, .slice none 0 0] Tryz.sizeOf57 rfl rfl rfl rfl rfl (Nat.le_of_ble_eq_true rfl) ?_)))))))
   intro w hI
   refine pu (iv 14) (by kernel_rfl) (seq_nil (wp_ret ?_))
   exact ⟨.tuple #[.agg #[iv 0, .slice none 0 0], iv 14], Ret.ct rfl rfl (run_loadK hI 6 2 [iv 0, .slice none 0 0] Tryz.isAgg57 Tryz.sizeOf57 rfl rfl rfl) rfl, (.inr ⟨by assumption, rfl, hI.below⟩)⟩


theorem Sound_c (w0 : World) (pl : Pl) (pA1 : Option Addr) (pn1 pc1 : Nat) (pA2 : Option Addr) (pn2 pc2 : Nat) (pA3 : Option Addr) (pn3 pc3 : Nat) (hP : PlotIn w0 pl pA1 pn1 pA2 pn2 pA3 pn3) (dy : Int) (hn19 : pl.loads.length < 20) : Does Tryz.prog 30 [.agg #[.int .i64 pl.lo, .int .i64 pl.hi, .slice pA1 pn1 pc1, .slice pA2 pn2 pc2, .slice pA3 pn3 pc3, .int .i64 pl.geese], .int .i64 dy] w0 fun v w => v = .tuple #[.bool (soundC pl dy).1, .int .i64 (soundC pl dy).2] ∧ Below w0.heap.size w0 w := by
 have hm1 := hP.m1; have hm2 := hP.m2; have hm3 := hP.m3
 refine calls_of (n := 17) Tryz.func30 rfl Tryz.ntmps30 rfl ?_
 have hI := Inv.start w0
 refine wp_seq (rgn (by kernel_rfl) (seq_c (s_boxI hI [iv pl.lo, iv pl.hi, .slice pA1 pn1 pc1, .slice pA2 pn2 pc2, .slice pA3 pn3 pc3, iv pl.geese] rfl ?_)))
 intro b1 w hI
 refine pu (.bool false) (by kernel_rfl) (pu (iv 0) (by kernel_rfl) (seq_nil (wp_seq (wp_seq (rgn (by kernel_rfl) (seq_c (s_loadK hI 0 6 [iv pl.lo, iv pl.hi, .slice pA1 pn1 pc1, .slice pA2 pn2 pc2, .slice pA3 pn3 pc3, iv pl.geese] Tryz.isAgg28 Tryz.sizeOf28 rfl rfl rfl rfl ?_)))))))
 refine pu (iv dy) (by kernel_rfl) (seq_c (s_callv hI 85 [.agg #[iv pl.lo, iv pl.hi, .slice pA1 pn1 pc1, .slice pA2 pn2 pc2, .slice pA3 pn3 pc3, iv pl.geese], iv dy] (iv (dayI pl dy)) (by kernel_rfl) (checkDay_c _ pl pA1 pn1 pc1 pA2 pn2 pc2 pA3 pn3 pc3 (hP.inv0 hI) dy) ?_))
 intro w hI
 refine pu (iv (dayI pl dy)) (by kernel_rfl) (seq_nil (wp_seq (rgn (by kernel_rfl) (pu (iv (dayI pl dy)) (by kernel_rfl) (seq_c (s_neq rfl rfl ?_ ?_))))))
 ·intro h1
  refine seq_nil (wp_condT rfl (wp_seq (rgn (by kernel_rfl) (pu (iv (dayI pl dy)) (by kernel_rfl) (pu (.bool false) (by kernel_rfl) (pu (iv (dayI pl dy)) (by kernel_rfl) (seq_nil (wp_ret ?_))))))))
  exact ⟨.tuple #[.bool false, iv (dayI pl dy)], Ret.r2 rfl rfl rfl, ⟨by simp [soundC, h1], hI.below⟩⟩
 ·intro h2
  refine seq_nil (wp_condF rfl (wp_skip (wp_seq (rgn (by kernel_rfl) (seq_c (s_loadK hI 0 6 [iv pl.lo, iv pl.hi, .slice pA1 pn1 pc1, .slice pA2 pn2 pc2, .slice pA3 pn3 pc3, iv pl.geese] Tryz.isAgg28 Tryz.sizeOf28 rfl rfl rfl rfl ?_))))))
  refine pu (iv dy) (by kernel_rfl) ?_
  have hsl := scn_len pl dy; obtain ⟨hsl1, hsl2, hsl3⟩ := hsl; have hsc := crt_len pl dy; have hok_ := plotB_small (dayI_ok h2).1; have hok1 := hok_.s1; have hok2 := hok_.s2; have hok3 := hok_.s3
  refine seq_c (s_callScene hI (q := scnF pl dy) (cs := crtF pl dy) 86 [.agg #[iv pl.lo, iv pl.hi, .slice pA1 pn1 pc1, .slice pA2 pn2 pc2, .slice pA3 pn3 pc3, iv pl.geese], iv dy] (by kernel_rfl) (sceneOf_c _ pl pA1 pn1 pc1 pA2 pn2 pc2 pA3 pn3 pc3 (hP.inv0 hI) (plotB_small (dayI_ok h2).1) dy (by omega)) ?_)
  intro g2 c3 cl4 g6 c7 cl8 g10 c11 cl12 g14 c15 cl16 w hI r5 r9 r13 r17
  refine seq_c (s_callv hI 87 [.agg #[iv (scnF pl dy).lo, iv (scnF pl dy).hi, slv g2 (scnF pl dy).loads.length c3, slv g6 (scnF pl dy).stands.length c7, slv g10 (scnF pl dy).spells.length c11, iv (scnF pl dy).geese, slv g14 (crtF pl dy).length c15]] (.bool ((stoodF (scnF pl dy) (crtF pl dy)).2)) (by kernel_rfl) (sound_c _ (scnF pl dy) (g2.map fun b => ⟨b, 0, none⟩) (scnF pl dy).loads.length c3 (g6.map fun b => ⟨b, 0, none⟩) (scnF pl dy).stands.length c7 (g10.map fun b => ⟨b, 0, none⟩) (scnF pl dy).spells.length c11 (crtF pl dy) (g14.map fun b => ⟨b, 0, none⟩) (crtF pl dy).length c15 ⟨⟨(hI.rowCells 0 rfl r5), rfl, (hI.rowCells 1 rfl r9), rfl, (hI.rowCells 2 rfl r13), rfl, (by omega), (by omega), (by omega)⟩, (hI.rowCells 3 rfl r17), rfl, r17.cap, (by omega), (by omega), (by omega), (by omega)⟩ (scn_ok (dayI_ok h2).1 dy)) ?_)
  intro w hI
  refine pu (.bool ((stoodF (scnF pl dy) (crtF pl dy)).2)) (by kernel_rfl) (pu (iv 0) (by kernel_rfl) (seq_nil (wp_ret ?_)))
  exact ⟨.tuple #[.bool ((stoodF (scnF pl dy) (crtF pl dy)).2), iv 0], Ret.r2 rfl rfl rfl, ⟨by simp [soundC, h2], hI.below⟩⟩

end Go.K
