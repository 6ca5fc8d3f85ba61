/- One stand more. -/
import Derived.Test.YtinkdlmimiefaaaGreatProg
import Derived.Test.YtinkdlmimiefaaaGreatPM19
import Derived.Lib.Overlaps
namespace Go.K
open Go.Proofs Go.RowKit
set_option linter.unusedVariables false
set_option linter.unusedSimpArgs false
set_option maxRecDepth 100000
attribute [local irreducible] Seq Step CallV AnyE opX

theorem put_eq (cl vs : List Value) (off : Nat) (h : off + vs.length ≤ cl.length) : putCells cl off vs = cl.take off ++ (vs ++ cl.drop (off + vs.length)) := by
  have hA : (cl.take off).length = off := by rw [List.length_take]; omega
  have hB : ((cl.drop off).take vs.length).length = vs.length := by rw [List.length_take, List.length_drop]; omega
  have hcl : cl = cl.take off ++ ((cl.drop off).take vs.length ++ cl.drop (off + vs.length)) := by
    rw [← List.drop_drop, List.take_append_drop, List.take_append_drop]
  conv => lhs; rw [hcl]
  rw [put_append _ _ _ _ (by rw [hA]; exact Nat.le_refl _), hA, Nat.sub_self, put_left _ _ _ _ (by rw [hB]; omega), put_all _ _ hB.symm]
section ins
variable {l : List Ld} {i n c b : Nat} {cl : List Value} {x : Ld}
theorem ins_row {P2 Z : List Value} (hn : n = l.length) (hi : i ≤ n) (hc : n + 1 ≤ c) (hcm : c ≤ maxLen) (e : P2 = flat eLd (l.take i) ++ (eLd x ++ (flat eLd (l.drop i) ++ Z))) (hl : P2.length = c * 6) : Row 6 (some b) (n + 1) c P2 (flat eLd (l.take i ++ [x] ++ l.drop i)) := by
  have e2 : P2 = flat eLd (l.take i ++ [x] ++ l.drop i) ++ Z := by rw [e, flat_append, flat_append, flat_one]; simp only [List.append_assoc]
  have hlen : (flat eLd (l.take i ++ [x] ++ l.drop i)).length = (n + 1) * 6 := by rw [flat_len eLd_len]; simp; omega
  exact ⟨hlen, hc, hcm, hl, by rw [e2]; exact List.take_left' hlen, fun h => by cases h⟩
theorem ins_up (hn : n = l.length) (hi : i < n) (hc : n + 1 ≤ c) (hcm : c ≤ maxLen) (hlen : cl.length = c * 6) (ht : cl.take (i * 6) = flat eLd (l.take i)) : Row 6 (some b) (n + 1) c (putCells (putCells cl (i * 6) (eLd x)) ((i + 1) * 6) (flat eLd (l.drop i))) (flat eLd (l.take i ++ [x] ++ l.drop i)) := by
  have hT : (flat eLd (l.drop i)).length = (n - i) * 6 := by rw [flat_len eLd_len, List.length_drop]; omega
  have hX : (eLd x).length = 6 := rfl
  have hle : (n + 1) * 6 ≤ c * 6 := Nat.mul_le_mul_right 6 hc
  have hta : (flat eLd (l.take i)).length = i * 6 := by rw [flat_len eLd_len, List.length_take]; omega
  have e1 : putCells cl (i * 6) (eLd x) = flat eLd (l.take i) ++ (eLd x ++ cl.drop (i * 6 + 6)) := by rw [put_eq _ _ _ (by omega), ht]; rfl
  have hl1 : (putCells cl (i * 6) (eLd x)).length = c * 6 := by rw [put_len]; exact hlen
  refine ins_row (Z := (putCells cl (i * 6) (eLd x)).drop ((i + 1) * 6 + (n - i) * 6)) hn (by omega) hc hcm ?_ (by rw [put_len]; exact hl1)
  rw [put_eq _ _ _ (by rw [hT, hl1]; omega), hT]
  have e2 : (putCells cl (i * 6) (eLd x)).take ((i + 1) * 6) = flat eLd (l.take i) ++ eLd x := by
    rw [e1, ← List.append_assoc]
    exact List.take_left' (by rw [List.length_append, hta, hX]; omega)
  rw [e2, List.append_assoc]
theorem ins_down (hn : n = l.length) (hi : i < n) (hc : n + 1 ≤ c) (hcm : c ≤ maxLen) (hlen : cl.length = c * 6) (ht : cl.take (n * 6) = flat eLd l) : Row 6 (some b) (n + 1) c (putCells (putCells cl ((i + 1) * 6) (flat eLd (l.drop i))) (i * 6) (eLd x)) (flat eLd (l.take i ++ [x] ++ l.drop i)) := by
  have hT : (flat eLd (l.drop i)).length = (n - i) * 6 := by rw [flat_len eLd_len, List.length_drop]; omega
  have hX : (eLd x).length = 6 := rfl
  have hle : (n + 1) * 6 ≤ c * 6 := Nat.mul_le_mul_right 6 hc
  have hta : cl.take (i * 6) = flat eLd (l.take i) := by
    rw [← flat_take eLd_len, ← ht, List.take_take, Nat.min_eq_left (by omega)]
  have e1 : putCells cl ((i + 1) * 6) (flat eLd (l.drop i)) = cl.take ((i + 1) * 6) ++ (flat eLd (l.drop i) ++ cl.drop ((i + 1) * 6 + (n - i) * 6)) := by rw [put_eq _ _ _ (by rw [hT]; omega), hT]
  have hl1 : (putCells cl ((i + 1) * 6) (flat eLd (l.drop i))).length = c * 6 := by rw [put_len]; exact hlen
  have hti : (cl.take ((i + 1) * 6)).length = (i + 1) * 6 := by rw [List.length_take]; omega
  refine ins_row (Z := cl.drop ((i + 1) * 6 + (n - i) * 6)) hn (by omega) hc hcm ?_ (by rw [put_len]; exact hl1)
  rw [put_eq _ _ _ (by rw [hX, hl1]; omega), hX, show i * 6 + 6 = (i + 1) * 6 by omega, e1, List.take_append_of_le_length (by rw [hti]; omega), List.take_take, Nat.min_eq_left (by omega), hta, List.drop_left' hti]
end ins
section steps
variable {P : Program} {ρ : Env} {B : Option Nat} {w w0 : World} {L : List (Option Nat × Obj)} {R : Value → World → Prop} {d : Option Nat} {ty : TypeId} {pos : String} {af : Array Edge} {gd : Option (Nat × Bool)}
/-- append(s[:i], make([]T, m)...) where there is no room. -/
theorem s_appendZ (hI : Inv B w0 w L) {t e ti : TypeId} {z : Value} {k bytes : Nat} {kd : IntKind} (ht : P.underlying t = some (.slice e)) (hti : P.underlying ti = some (.int kd)) (hinfo : (P.info? e).map (fun i => (i.zero, i.size, i.bytes)) = some (some z, k, bytes)) (hzs : z.cells.size = k) (hk0 : 0 < k)
    {x y : Operand} (ix : Nat) {b n c m : Nat} {cl : List Value} (hx : ev ρ x = .slice (some ⟨b, 0, none⟩) n c) (hy : ev ρ y = .int .i64 (m : Int)) (hL : L[ix]? = some (some b, blk cl e)) (hn : n * k ≤ cl.length) (hc : c < n + m) (hnc : n ≤ c) (hmax : n + m ≤ 1000000) (hb : bytes ≤ 1000)
    (kk : ∀ bn cn cln w', Inv B w0 w' ((some bn, blk cln e) :: L) → n + m ≤ cn → cn ≤ maxLen → cln.length = cn * k → cln.take (n * k) = cl.take (n * k) → R (slv (some bn) (n + m) cn) w') :
    Step P ⟨d, .call ⟨.builtin .append, #[x, y], #[t, ti]⟩, ty, pos, af, gd⟩ ρ w R := by
  cases hq : P.info? e with
  | none => rw [hq] at hinfo; cases hinfo
  | some i =>
    rw [hq] at hinfo
    simp only [Option.map_some, Option.some.injEq, Prod.mk.injEq] at hinfo
    obtain ⟨h1, h2, h3⟩ := hinfo
    subst h2; subst h3
    have hnl : ¬ (n + m ≤ c) := by omega
    have hbb : (n + m) * i.bytes ≤ 1000000 * 1000 := Nat.mul_le_mul hmax hb
    have hbm : i.bytes * m ≤ 1000 * 1000000 := Nat.mul_le_mul hb (by omega)
    have hfit := growslice_fits (need := n + m) (old := c) (bytes := i.bytes) (by omega) (by omega)
    have h48' : ¬ (281474976710656 < Builtin.nextslicecap (n + m) c * i.bytes) := by omega
    have hcl : (cl.take (n * i.size)).length = n * i.size := by rw [List.length_take]; omega
    have hold := run_first (P := P) (c := c) (A := some ⟨b, 0, none⟩) (hI.cells ix (off := 0) (xs := cl.take (n * i.size)) hL (fun j u hj => by
      rw [Nat.zero_add]; rw [List.getElem?_take] at hj; split at hj; exact hj; cases hj)) hcl w.drew rfl
    have hge := grownCap_ge w (n + m) c e
    have hcm : grownCap w (n + m) c e ≤ maxLen := grownCap_le_maxLen w (n + m) c e (by unfold maxLen; omega)
    have hwr : IntKind.i64.wrap (m : Int) = m := wrap_in (by omega) (by omega)
    have n1 : ¬ ((m : Int) < 0) := by omega
    have n2 : ¬ (281474976710656 < (m : Int) * (i.bytes : Int)) := by
      have : ((i.bytes * m : Nat) : Int) ≤ 281474976710656 := by omega
      rw [Int.natCast_mul, Int.mul_comm] at this; omega
    have n3 : ¬ (9223372036854775807 < ((n : Int) + (m : Int))) := by omega
    have hms : ¬ (m * i.size = 0) := by
      have : 0 < m * i.size := Nat.mul_pos (by omega) hk0
      omega
    have hap : (Builtin.append_ #[t, ti] ty #[.slice (some ⟨b, 0, none⟩) n c, .int .i64 (m : Int)]).run P w = .ok (slv (some w.heap.size) (n + m) (grownCap w (n + m) c e)) (w.drew.alloc (blk (cl.take (n * i.size) ++ (Builtin.zeroCells z.cells m).toList ++ (Builtin.zeroCells z.cells (grownCap w (n + m) c e - (n + m))).toList) e)) := by
      have hm0 : ¬ m = 0 := by omega
      have hs0 : ¬ i.size = 0 := by omega
      simp [Builtin.append_, run_underlying ht, run_underlying hti, sizeOf, typeInfo, zeroValue, hq, h1, asInt, asIntOf, hwr, n1, n2, n3, hms, hm0, hs0, hnl, h48', Question.forced, hold, newRow, grownCap]
      congr 2
      apply Array.ext'
      simp
    have h : (execOp (ev ρ) ⟨d, .call ⟨.builtin .append, #[x, y], #[t, ti]⟩, ty, pos, af, gd⟩).run P w = .ok (.value (slv (some w.heap.size) (n + m) (grownCap w (n + m) c e))) (w.drew.alloc (blk (cl.take (n * i.size) ++ (Builtin.zeroCells z.cells m).toList ++ (Builtin.zeroCells z.cells (grownCap w (n + m) c e - (n + m))).toList) e)) := by
      simp only [execOp, resolve, invoke, builtin, hx, hy]
      simp [hap, hx, hy]
    unfold Step; rw [h]
    refine kk _ _ _ _ (hI.drew.alloc _) hge hcm ?_ ?_
    · simp only [List.length_append, hcl, zero_len, hzs]
      rw [← Nat.add_mul, ← Nat.add_mul]; congr 1; omega
    · rw [List.append_assoc]; exact List.take_left' hcl
theorem sub_at {b c l k : Nat} (h : l < c) : sub (some ⟨b, 0, none⟩) c l k = some ⟨b, l * k, none⟩ := by
  rw [sub, if_neg (by omega)]; show some ((Addr.mk b 0 none).add (l * k)) = _; rw [add_lit, Nat.zero_add]
theorem s_copy (hI : Inv B w0 w L) {t e : TypeId} {k : Nat} (ht : P.underlying t = some (.slice e)) (hS : ∀ w, (Go.sizeOf e).run P w = .ok k w) {x y : Operand} (ix : Nat) {A A2 : Option Addr} {b off dl dc m2 c2 m : Nat} {cl xs : List Value} (hx : ev ρ x = .slice A dl dc) (hA : A = some ⟨b, off, none⟩) (hy : ev ρ y = .slice A2 m2 c2)
    (hL : L[ix]? = some (some b, blk cl e)) (hm : min m2 dl = m) (hxs : xs.length = m * k) (hC : Cells w A2 xs) (h1 : ∀ u ∈ xs, u.oneCell' = true) (hb : off + m * k ≤ cl.length)
    (kk : ∀ w', Inv B w0 w' (L.set ix (some b, blk (putCells cl off xs) e)) → R (.int .i64 (m : Int)) w') : Step P ⟨d, .call ⟨.builtin .copy, #[x, y], #[t, t]⟩, ty, pos, af, gd⟩ ρ w R := by
  have hb0 := (hI.has ix b _ hL).1
  have hf : (Builtin.firstCells k m (.slice A2 m2 c2)).run P w = .ok xs.toArray w := by
    have := run_first (P := P) (c := c2) (m := m) hC hxs w rfl
    cases A2 <;> exact this
  obtain ⟨w', hrun, e1, e2, e3, e4, e5, e6⟩ := run_storeCells (P := P) xs off 0 w cl hb0 (by rw [Nat.add_zero, hxs]; exact hb) h1
  have hm' : min m2 dl = m := hm
  have h : (execOp (ev ρ) ⟨d, .call ⟨.builtin .copy, #[x, y], #[t, t]⟩, ty, pos, af, gd⟩).run P w = .ok (.value (.int .i64 (m : Int))) w' := by
    have hcp : (Builtin.copy_ #[t, t] ty #[.slice (some ⟨b, off, none⟩) dl dc, .slice A2 m2 c2]).run P w = .ok (.int .i64 (m : Int)) w' := by
      simp [Builtin.copy_, run_underlying ht, hS, Builtin.lenOf, hm', hf, hrun, goInt]
    simp only [execOp, resolve, invoke, builtin, hx, hy]
    simp [hcp, hx, hy, hA]
  unfold Step; rw [h]
  exact kk w' (hI.turn hL e1 e2 e3 (by omega) (fun k hk hg => e5 k fun he => hg (by rw [he])) (fun b' hb' => by injection hb' with hb'; subst hb'; simpa using e6))
theorem s_exec2 {f x y : Operand} {ats : Array TypeId} {fv pv v : Value} {A A' : Option Addr} {lb cb : Nat} (hf : ev ρ f = fv) (hx : ev ρ x = pv) (hy : ev ρ y = .slice A lb cb) (hA : A = A')
    (hrun : ((do let d ← Deferred.ofValue fv #[pv, .slice A' lb cb]; invoke d.target d.args : Sem Next)).run P w = .ok (.value v) w) (k : R v w) : Step P ⟨d, .call ⟨.value f, #[x, y], ats⟩, ty, pos, af, gd⟩ ρ w R := by
  subst hA
  have : execOp (ev ρ) ⟨d, .call ⟨.value f, #[x, y], ats⟩, ty, pos, af, gd⟩ = (do let d ← Deferred.ofValue (ev ρ f) (#[x, y].map (ev ρ)); invoke d.target d.args) := rfl
  unfold Step
  rw [this, hf, show #[x, y].map (ev ρ) = #[pv, .slice A lb cb] by simp [hx, hy], hrun]; exact k
end steps

theorem drop_cells {b n c : Nat} {cl : List Value} {l : List Ld} (hr : Row 6 (some b) n c cl (flat eLd l)) (i : Nat) : ∀ j u, (flat eLd (l.drop i))[j]? = some u → cl[i * 6 + j]? = some u := fun j u hj => by
  rw [← flat_drop eLd_len, List.getElem?_drop] at hj
  exact hr.get hj
theorem run_overl {w : World} {bv b : Nat} {clv cl : List Value} (hv : w.heap[bv]? = some (blk clv 31)) (hb : w.heap[b]? = some (blk cl 31)) (hne : bv ≠ b) (hl : cl.length ≠ 0) (la ca off lb cb : Nat) :
    (callFunc 126 #[.slice (some ⟨bv, 0, none⟩) la ca, .slice (some ⟨b, off, none⟩) lb cb]).run Tryz.prog w = .ok (.value (.bool false)) w := by
  rw [run_callFunc_extern Tryz.func126 (by kernel_rfl) (by kernel_rfl) (by kernel_rfl) (e := Extern.SlicesOverlaps.overlaps #[25, 25] #[4]) (by kernel_rfl),
    Lib.run_overlaps_apart w 25 4 31 Tryz.underlying25 6 Tryz.sizeOf31 ⟨bv, 0, none⟩ ⟨b, off, none⟩ la ca lb cb hne 31 31 clv.length cl.length (by simp [World.shape?, hv]) (by simp [World.shape?, hb]) hl (by simp [World.frozen?, hv]) (by simp [World.frozen?, hv])]
  rfl

theorem Inv.baseB {B : Option Nat} {w0 w : World} {L : List (Option Nat × Obj)} (hI : Inv B w0 w L) {b : Nat} {o : Obj} (hB : B ≠ some b) (hb : w0.heap[b]? = some o) : w.heap[b]? = some o := (hI.but.block b (blk_lt hb) hB).trans hb

set_option maxHeartbeats 1600000 in
theorem Insert_c (w0 : World) (g : Option Nat) (n c : Nat) (cl : List Value) (l : List Ld) (i bv : Nat) (x : Ld) (hg : ∀ b, g = some b → w0.heap[b]? = some (blk cl 31)) (hr : Row 6 g n c cl (flat eLd l)) (hi : i ≤ n) (hmax : n ≤ 10000) (hbv : w0.heap[bv]? = some (blk (eLd x) 31)) (hne : g ≠ some bv) : Does Tryz.prog 63 [slv g n c, .int .i64 (i : Int), .slice (some ⟨bv, 0, none⟩) 1 1] w0 fun v w => Gives 6 31 g (n + 1) (flat eLd (l.take i ++ [x] ++ l.drop i)) w0 v w := by
 have hnl := hr.n_eq eLd_len (by decide)
 have hcap := hr.cap
 have hCv : CellsB g w0 (some ⟨bv, 0, none⟩) (eLd x) := fun _ => ⟨bv, 0, rfl, blk_lt hbv, hne, fun j u hj => by rw [Nat.zero_add]; exact blk_cell hbv hj⟩
 refine calls_of (n := 95) Tryz.func63 rfl Tryz.ntmps63 rfl ?_
 have hI := Inv.lent w0 g (blk cl 31) hg
 refine wp_seq (rgn (by kernel_rfl) (pu (.slice none 0 0) (by kernel_rfl) (seq_nil (wp_seq (rgn (by kernel_rfl) (pu (slv g n c) (by kernel_rfl) (pu (iv (i : Int)) (by kernel_rfl) (seq_c (s_sliceLo i Tryz.underlying25 Tryz.sizeOf31 rfl rfl (by omega) (by omega) ?_)))))))))
 refine seq_nil (wp_seq (rgn (by kernel_rfl) (pu (.slice (some ⟨bv, 0, none⟩) 1 1) (by kernel_rfl) (pu (iv ((1 : Nat) : Int)) (by kernel_rfl) (pu (iv 1) (by kernel_rfl) (seq_nil (wp_seq (wp_seq (rgn (by kernel_rfl) ?_)))))))))
 refine pu (iv 1) (by kernel_rfl) (seq_c (s_eql rfl rfl ?_ ?_))
 ·intro h1
  exact absurd h1 (by omega)
 ·intro h2
  refine seq_nil (wp_condF rfl (wp_skip (wp_seq (rgn (by kernel_rfl) (pu (slv g n c) (by kernel_rfl) (pu (iv ((n : Nat) : Int)) (by kernel_rfl) (pu (iv (n : Int)) (by kernel_rfl) (seq_nil (wp_seq ?_)))))))))
  refine wp_seq (rgn (by kernel_rfl) (pu (iv (i : Int)) (by kernel_rfl) (pu (iv (n : Int)) (by kernel_rfl) (seq_c (s_eql rfl rfl ?_ ?_)))))
  ·intro h3
   refine seq_nil (wp_condT rfl (wp_seq (rgn (by kernel_rfl) (pu (slv g n c) (by kernel_rfl) (pu (.slice (some ⟨bv, 0, none⟩) 1 1) (by kernel_rfl) (seq_c (s_app hI Tryz.underlying25 (z := .agg #[iv 0, iv 0, iv 0, iv 0, iv 0, iv 0]) (k := 6) (bytes := 48) (by kernel_rfl) rfl rfl 0 rfl rfl hr (flat eLd [x]) rfl (by rw [flat_len eLd_len]; rfl) (CellsB.cells (hCv.inv hI)) (flat_cell eLd_cell _) (by omega) (by omega) ?_)))))))
   intro g1 c2 cl3 w hI r4
   have r4 : Row 6 g1 (n + 1) c2 cl3 (flat eLd (l ++ [x])) := r4.more
   refine pu (slv g1 (n + 1) c2) (by kernel_rfl) (seq_nil (wp_ret ?_))
   exact ⟨slv g1 (n + 1) c2, Ret.r1 rfl rfl, ⟨g1, c2, cl3, rfl, hI.pickL [0] (by decide) rfl, r4.to (by rw [show i = l.length by omega]; simp) rfl⟩⟩
  ·intro h4
   have hcp := hr.cap; have hmx := hr.capmax
   obtain ⟨b0, rfl⟩ := hr.some_ (by omega)
   refine seq_nil (wp_condF rfl (wp_skip (wp_seq (wp_seq (rgn (by kernel_rfl) (pu (iv (n : Int)) (by kernel_rfl) (pu (iv 1) (by kernel_rfl) (seq_c (s_add rfl rfl (by omega) ?_)))))))))
   refine pu (slv (some b0) n c) (by kernel_rfl) (pu (iv ((c : Nat) : Int)) (by kernel_rfl) (seq_c (s_gtr rfl rfl ?_ ?_)))
   ·intro h5
    refine seq_nil (wp_condT rfl (wp_seq (rgn (by kernel_rfl) (pu (slv (some b0) n c) (by kernel_rfl) (pu (iv (i : Int)) (by kernel_rfl) (seq_c (s_sliceHi i Tryz.underlying25 Tryz.sizeOf31 rfl rfl (by omega) ?_)))))))
    refine pu (iv (n : Int)) (by kernel_rfl) (pu (iv 1) (by kernel_rfl) (seq_c (s_add rfl rfl (by omega) ?_)))
    refine pu (iv (i : Int)) (by kernel_rfl) (seq_c (s_sub rfl rfl (by omega) ?_))
    refine seq_c (s_appendZ hI Tryz.underlying25 Tryz.underlying3 (z := .agg #[iv 0, iv 0, iv 0, iv 0, iv 0, iv 0]) (k := 6) (bytes := 48) (by kernel_rfl) rfl (by decide) 0 (n := i) (m := n + 1 - i) rfl (congrArg (Value.int .i64) (by omega)) rfl (by rw [hr.size]; exact Nat.mul_le_mul_right 6 (by omega)) (by omega) (by omega) (by omega) (by decide) ?_)
    intro bn cn cln w hI hge hcm hcl htk
    refine pu (slv (some bn) (i + (n + 1 - i)) cn) (by kernel_rfl) (seq_nil (wp_seq (rgn (by kernel_rfl) (pu (slv (some bn) (i + (n + 1 - i)) cn) (by kernel_rfl) (pu (iv (i : Int)) (by kernel_rfl) (seq_c (s_sliceLo i Tryz.underlying25 Tryz.sizeOf31 rfl rfl (by omega) (by omega) ?_)))))))
    refine pu (.slice (some ⟨bv, 0, none⟩) 1 1) (by kernel_rfl) (seq_c (s_copy hI Tryz.underlying25 Tryz.sizeOf31 0 (xs := eLd x) (m := 1) rfl (sub_at (by omega)) rfl rfl (by omega) rfl (CellsB.cells (hCv.inv hI)) (eLd_cell x) (by rw [hcl]; have h8 : (i + 1) * 6 ≤ cn * 6 := Nat.mul_le_mul_right 6 (by omega); omega) ?_))
    intro w hI
    refine seq_nil (wp_seq ?_)
    replace hI := hI.pickL [1, 0] (by decide) rfl
    refine wp_drawn2 hI [0] (by decide) rfl (by kernel_rfl) (by kernel_rfl) ?_
    intro hsub
    refine alp 0 (slv (some bn) (i + (n + 1 - i)) cn) hsub rfl (by kernel_rfl) (fun _ => (by kernel_rfl)) ?_
    refine alp 1 (iv (i : Int)) hsub rfl (by kernel_rfl) (fun _ => (by kernel_rfl)) ?_
    refine alp 2 (iv 1) hsub rfl (by kernel_rfl) (fun _ => (by kernel_rfl)) ?_
    refine al_light 3 (iv ((i : Int) + 1)) hsub rfl (by kernel_rfl) (fun w hI => s_add rfl rfl (by omega) ⟨rfl, Below.refl _ _⟩) ?_
    refine al_light 4 (.slice (sub (some ⟨bn, 0, none⟩) cn (i + 1) 6) ((i + (n + 1 - i)) - (i + 1)) (cn - (i + 1))) hsub rfl (by kernel_rfl) (fun w hI => s_sliceLo (i + 1) Tryz.underlying25 Tryz.sizeOf31 rfl rfl (by omega) (by omega) ⟨rfl, Below.refl _ _⟩) ?_
    refine alp 5 (slv (some b0) n c) hsub rfl (by kernel_rfl) (fun _ => (by kernel_rfl)) ?_
    refine alp 6 (iv (i : Int)) hsub rfl (by kernel_rfl) (fun _ => (by kernel_rfl)) ?_
    refine al_light 7 (.slice (sub (some ⟨b0, 0, none⟩) c i 6) (n - i) (c - i)) hsub rfl (by kernel_rfl) (fun w hI => s_sliceLo i Tryz.underlying25 Tryz.sizeOf31 rfl rfl (by omega) (by omega) ⟨rfl, Below.refl _ _⟩) ?_
    refine any_heavy [8] (by kernel_rfl) rfl (each1 ?_)
    intro w hI
    refine ol_c rfl (s_copy hI Tryz.underlying25 Tryz.sizeOf31 1 (xs := flat eLd (l.drop i)) (m := (n - i)) rfl (sub_at (by omega)) rfl rfl (by omega) (by rw [flat_len eLd_len, List.length_drop]; omega) (by rw [sub_at (by omega)]; exact hI.cells 0 (off := i * 6) rfl (drop_cells hr i)) (flat_cell eLd_cell _) (by rw [put_len, hcl]; have h8 : ((i + 1) + (n - i)) * 6 ≤ cn * 6 := Nat.mul_le_mul_right 6 (by omega); omega) ?_)
    intro w hI
    refine ⟨_, hI, subk (fun _ h => h.pickL [0] (by decide) rfl) ?_⟩
    intro hsub
    refine any_end (by kernel_rfl) (fun w hI => ?_)
    refine wp_seq (rgn (by kernel_rfl) (pu (slv (some bn) (i + (n + 1 - i)) cn) (by kernel_rfl) (pu (slv (some bn) (i + (n + 1 - i)) cn) (by kernel_rfl) (seq_nil (wp_ret ?_)))))
    exact ⟨slv (some bn) (i + (n + 1 - i)) cn, Ret.r1 rfl rfl, ⟨some bn, cn, putCells (putCells cln (i * 6) (eLd x)) ((i + 1) * 6) (flat eLd (l.drop i)), (by rw [show i + (n + 1 - i) = n + 1 by omega]), hI.pickL [1] (by decide) rfl, ins_up hnl (by omega) (by omega) hcm hcl (htk.trans (by rw [← flat_take eLd_len, ← hr.head, List.take_take, Nat.min_eq_left (Nat.mul_le_mul_right 6 (by omega))]))⟩⟩
   ·intro h6
    refine seq_nil (wp_condF rfl (wp_skip (wp_seq (rgn (by kernel_rfl) (pu (slv (some b0) n c) (by kernel_rfl) (pu (iv (n : Int)) (by kernel_rfl) (pu (iv 1) (by kernel_rfl) (seq_c (s_add rfl rfl (by omega) ?_)))))))))
    refine seq_c (s_sliceHi (n + 1) Tryz.underlying25 Tryz.sizeOf31 rfl rfl (by omega) ?_)
    refine pu (.slice (some ⟨b0, 0, none⟩) (n + 1) c) (by kernel_rfl) (seq_nil (wp_seq (wp_seq (rgn (by kernel_rfl) (pu (.slice (some ⟨bv, 0, none⟩) 1 1) (by kernel_rfl) (pu (.slice (some ⟨b0, 0, none⟩) (n + 1) c) (by kernel_rfl) (pu (iv (i : Int)) (by kernel_rfl) (pu (iv 1) (by kernel_rfl) (seq_c (s_add rfl rfl (by omega) ?_))))))))))
    refine seq_c (s_sliceLo (i + 1) Tryz.underlying25 Tryz.sizeOf31 rfl rfl (by omega) (by omega) ?_)
    refine seq_c (s_exec2 rfl rfl rfl (sub_at (by omega)) (run_overl (bv := bv) (b := b0) (hI.baseB (by simpa using hne) hbv) (hI.has 0 _ _ rfl).1 (fun e => hne (by rw [e])) (by rw [hr.size]; omega) 1 1 ((i + 1) * 6) (n + 1 - (i + 1)) (c - (i + 1))) ?_)
    refine pu (.bool true) (by kernel_rfl) (seq_nil (wp_condT rfl (wp_seq ?_)))
    replace hI := hI.pickL [0] (by decide) rfl
    refine wp_drawn2 hI [] (by decide) rfl (by kernel_rfl) (by kernel_rfl) ?_
    intro hsub
    refine alp 0 (.slice (some ⟨b0, 0, none⟩) (n + 1) c) hsub rfl (by kernel_rfl) (fun _ => (by kernel_rfl)) ?_
    refine alp 1 (iv (i : Int)) hsub rfl (by kernel_rfl) (fun _ => (by kernel_rfl)) ?_
    refine alp 2 (iv 1) hsub rfl (by kernel_rfl) (fun _ => (by kernel_rfl)) ?_
    refine al_light 3 (iv ((i : Int) + 1)) hsub rfl (by kernel_rfl) (fun w hI => s_add rfl rfl (by omega) ⟨rfl, Below.refl _ _⟩) ?_
    refine al_light 4 (.slice (sub (some ⟨b0, 0, none⟩) c (i + 1) 6) ((n + 1) - (i + 1)) (c - (i + 1))) hsub rfl (by kernel_rfl) (fun w hI => s_sliceLo (i + 1) Tryz.underlying25 Tryz.sizeOf31 rfl rfl (by omega) (by omega) ⟨rfl, Below.refl _ _⟩) ?_
    refine alp 5 (.slice (some ⟨b0, 0, none⟩) (n + 1) c) hsub rfl (by kernel_rfl) (fun _ => (by kernel_rfl)) ?_
    refine alp 6 (iv (i : Int)) hsub rfl (by kernel_rfl) (fun _ => (by kernel_rfl)) ?_
    refine al_light 7 (.slice (sub (some ⟨b0, 0, none⟩) c i 6) ((n + 1) - i) (c - i)) hsub rfl (by kernel_rfl) (fun w hI => s_sliceLo i Tryz.underlying25 Tryz.sizeOf31 rfl rfl (by omega) (by omega) ⟨rfl, Below.refl _ _⟩) ?_
    refine any_heavy [8] (by kernel_rfl) rfl (each1 ?_)
    intro w hI
    refine ol_c rfl (s_copy hI Tryz.underlying25 Tryz.sizeOf31 0 (xs := flat eLd (l.drop i)) (m := (n - i)) rfl (sub_at (by omega)) rfl rfl (by omega) (by rw [flat_len eLd_len, List.length_drop]; omega) (by rw [sub_at (by omega)]; exact hI.cells 0 (off := i * 6) rfl (drop_cells hr i)) (flat_cell eLd_cell _) (by rw [hr.size]; have h8 : ((i + 1) + (n - i)) * 6 ≤ c * 6 := Nat.mul_le_mul_right 6 (by omega); omega) ?_)
    intro w hI
    refine ⟨_, hI, subk (fun _ h => h.pickL [] (by decide) rfl) ?_⟩
    intro hsub
    refine any_end (by kernel_rfl) (fun w hI => ?_)
    refine wp_seq (rgn (by kernel_rfl) (pu (.slice (some ⟨b0, 0, none⟩) (n + 1) c) (by kernel_rfl) (pu (iv (i : Int)) (by kernel_rfl) (seq_c (s_sliceLo i Tryz.underlying25 Tryz.sizeOf31 rfl rfl (by omega) (by omega) ?_)))))
    refine pu (.slice (some ⟨bv, 0, none⟩) 1 1) (by kernel_rfl) (seq_c (s_copy hI Tryz.underlying25 Tryz.sizeOf31 0 (xs := eLd x) (m := 1) rfl (sub_at (by omega)) rfl rfl (by omega) rfl (CellsB.cells (hCv.inv hI)) (eLd_cell x) (by rw [put_len, hr.size]; have h8 : (i + 1) * 6 ≤ c * 6 := Nat.mul_le_mul_right 6 (by omega); omega) ?_))
    intro w hI
    refine seq_nil (wp_seq (rgn (by kernel_rfl) (pu (.slice (some ⟨b0, 0, none⟩) (n + 1) c) (by kernel_rfl) (pu (.slice (some ⟨b0, 0, none⟩) (n + 1) c) (by kernel_rfl) (seq_nil (wp_ret ?_))))))
    exact ⟨.slice (some ⟨b0, 0, none⟩) (n + 1) c, Ret.r1 rfl rfl, ⟨some b0, c, putCells (putCells cl ((i + 1) * 6) (flat eLd (l.drop i))) (i * 6) (eLd x), rfl, hI.pickL [0] (by decide) rfl, ins_down hnl (by omega) (by omega) hr.capmax hr.size hr.head⟩⟩

end Go.K
