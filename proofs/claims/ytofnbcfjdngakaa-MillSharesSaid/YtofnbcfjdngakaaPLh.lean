/- Many blocks lent to a call at once. No condition. -/
import Derived.Test.YtofnbcfjdngakaaPLg
namespace Go.K
open Go.RowKit
set_option linter.unusedSimpArgs false
set_option linter.unusedVariables false
section many
variable {B Bs : List Nat} {w0 w w' : World} {L L0 L' N : List (Option Nat × Obj)}
/-- The blocks at some places are lent: what a call that borrows them knows at first. -/
theorem Inv.lend (h : Inv B w0 w L) (ps : List Nat) (hn : ps.Nodup) (hp : K.pickL L ps = some L0) (hB : L0.map Prod.fst = Bs.map some) : Inv Bs w w L0 := by
  have h1 := h.pickL ps hn hp
  refine ⟨But.refl _ _, fun i b o hi => ⟨(h1.has i b o hi).1, .inr ?_⟩, h1.sep⟩
  have : (L0.map Prod.fst)[i]? = some (some b) := by rw [List.getElem?_map, hi]; rfl
  rw [hB, List.getElem?_map, Option.map_eq_some_iff] at this
  obtain ⟨c, hc, e⟩ := this
  injection e with e; subst e
  exact List.mem_of_getElem? hc
theorem Inv.lent_in (h : Inv B w0 w L) (ps : List Nat) (hp : K.pickL L ps = some L0) (hB : L0.map Prod.fst = Bs.map some) {b : Nat} (hb : b ∈ Bs) : ∃ (i j : Nat) (o : Obj), ps[j]? = some i ∧ L[i]? = some (some b, o) := by
  obtain ⟨j, hj⟩ := List.mem_iff_getElem?.1 hb
  have : (L0.map Prod.fst)[j]? = some (some b) := by rw [hB, List.getElem?_map, hj]; rfl
  rw [List.getElem?_map, Option.map_eq_some_iff] at this
  obtain ⟨⟨g, o⟩, h1, h2⟩ := this
  simp only at h2; subst h2
  obtain ⟨i, k1, k2⟩ := pickL_get hp j _ h1
  exact ⟨i, j, o, k1, k2⟩
/-- They come back. -/
theorem Inv.backsL (h : Inv B w0 w L) (ps qs : List Nat) (hn : (ps ++ qs).Nodup) (hp : K.pickL L ps = some L0) (hB : L0.map Prod.fst = Bs.map some) (hq : K.pickL L qs = some L') (hN : Inv Bs w w' N) : Inv B w0 w' (N ++ L') := by
  have hnd := List.nodup_append.1 hn
  refine h.backs (fun b hb => ?_) qs hnd.2.1 hq (fun i b o hi hb => ?_) hN
  · obtain ⟨i, _, o, _, k⟩ := h.lent_in ps hp hB hb
    exact ⟨i, o, k⟩
  · obtain ⟨p, k, o', k1, k2⟩ := h.lent_in ps hp hB hb
    obtain ⟨q, m1, m2⟩ := pickL_get hq i _ hi
    have hne : p ≠ q := fun e => by
      subst e
      exact hnd.2.2 p (List.mem_of_getElem? k1) p (List.mem_of_getElem? m1) rfl
    exact h.sep p q b b o' o k2 m2 hne rfl
theorem Inv.apartL (h : Inv B w0 w L) (ps : List Nat) (hp : K.pickL L ps = some L0) (hB : L0.map Prod.fst = Bs.map some) {A : Option Addr} {xs : List Value} (hC : CellsB B w0 A xs) : CellsB Bs w A xs := fun hx => by
  obtain ⟨b, off, h1, h2, h3, h4⟩ := hC hx
  refine ⟨b, off, h1, Nat.lt_of_lt_of_le h2 h.but.size, fun hb => ?_, fun j u hj => ?_⟩
  · obtain ⟨i, _, o, _, k⟩ := h.lent_in ps hp hB hb
    rcases (h.has i b o k).2 with h5 | h5
    · omega
    · exact h3 h5
  · have := h.but.block b h2 h3
    rw [← h4 j u hj]; simp [World.cell?, this]
theorem Inv.apartL0 (h : Inv [] w0 w L) (ps : List Nat) (hp : K.pickL L ps = some L0) (hB : L0.map Prod.fst = Bs.map some) {A : Option Addr} {xs : List Value} (hC : Cells w0 A xs) : CellsB Bs w A xs := h.apartL ps hp hB (CellsB.none_ hC)
/-- The call's own row, apart from what is lent. -/
theorem Inv.apartRowL (h : Inv B w0 w L) (ps : List Nat) (hp : K.pickL L ps = some L0) (hB : L0.map Prod.fst = Bs.map some) {i : Nat} (hn : i ∉ ps) {k : Nat} {g : Option Nat} {n c : Nat} {cl xs : List Value} {T : TypeId} (hi : L[i]? = some (g, blk cl T)) (hr : Row k g n c cl xs) : CellsB Bs w (g.map fun b => ⟨b, 0, none⟩) xs := fun hx => by
  obtain ⟨b, off, h1, h2, h4⟩ := h.rowCells i hi hr hx
  refine ⟨b, off, h1, h2, fun hb => ?_, h4⟩
  cases g with
  | none => cases h1
  | some b' =>
    have e : b' = b := by injection h1 with e; injection e
    subst e
    obtain ⟨j, _, o, k1, k2⟩ := h.lent_in ps hp hB hb
    have hne : i ≠ j := fun e => hn (e ▸ List.mem_of_getElem? k1)
    exact h.sep i j b' b' _ o hi k2 hne rfl
end many
def eBool (b : Bool) : List Value := [.bool b]
theorem eBool_len (b : Bool) : (eBool b).length = 1 := rfl
theorem s_not {P : Program} {ρ : Env} {w : World} {R : Value → World → Prop} {d : Option Nat} {ty : TypeId} {pos : String} {af : Array Edge} {gd : Option (Nat × Bool)} {T : TypeId} {x : Operand} {a : Bool} (hx : ev ρ x = .bool a) (k : R (.bool (!a)) w) : Step P ⟨d, .unOp .not T x, ty, pos, af, gd⟩ ρ w R := by
  refine s_pure (.bool (!a)) ?_ k
  have : execOp (ev ρ) ⟨d, .unOp .not T x, ty, pos, af, gd⟩ = (do pure (.value (← Op.unary .not (ev ρ x)))) := rfl
  rw [this, hx]; rfl
section scope
theorem stepR_scope {P : Program} {b : Frame} {a : Act} {k : List Item} {cs : List Frame} {w : World} {c : Code} : step P (lone (b.atR a (.code (.scope c) :: k)) cs w) = .next (lone (b.atR a (.code c :: .inScope c :: k)) cs w) :=
  step_lone_go (by simp [stepG, stepG.exec, Frame.atR])
theorem stepR_inScope {P : Program} {b : Frame} {a : Act} {k : List Item} {cs : List Frame} {w : World} {c : Code} : step P (lone (b.atR a (.inScope c :: k)) cs w) = .next (lone (b.atR a k) cs w) :=
  step_lone_go (by simp [stepG, stepG.exec, Frame.atR])
theorem wpIn_scope {F : Fence} {n : Nat} {P : Program} {Q : Exit → Act → World → Prop} {a : Act} {w : World} {c : Code} (h : c.wpIn F n P (Exit.noGoto Q) a w) : (Code.scope c).wpIn F n P Q a w := by
  intro b k cs hro hb hr
  have h0 : (lone (b.atR a (.code (.scope c) :: k)) cs w).fenced P F := fenced_calm hb hr rfl
  obtain ⟨e, a₁, w₁, hq, harr⟩ := h b (.inScope c :: k) cs hro hb hr
  cases e with
  | normal => exact ⟨.normal, a₁, w₁, hq, .head h0 stepR_scope (StepsIn.trans harr (.one (fenced_calm hb hr rfl) stepR_inScope))⟩
  | exit id =>
    have hx : exitTo id (.inScope c :: k) = exitTo id k := by simp [exitTo]
    exact ⟨_, a₁, w₁, hq, fun k' hk => .head h0 stepR_scope (harr.1 k' (by rw [hx]; exact hk)),
      fun hr' hk => let ⟨k₁, h1, h2⟩ := harr.2 hr' (by rw [hx]; exact hk); ⟨k₁, h1, .head h0 stepR_scope h2⟩⟩
  | goto l => exact hq.elim
  | ret => exact ⟨_, a₁, w₁, hq, .of_steps (.one h0 stepR_scope) harr⟩
  | panic ch => exact ⟨_, a₁, w₁, hq, .of_steps (.one h0 stepR_scope) harr⟩
  | outgrown => exact ⟨_, a₁, w₁, hq, .of_steps (.one h0 stepR_scope) harr⟩
def noGotoE (Q : List Deferred → Exit → Env → World → Prop) : List Deferred → Exit → Env → World → Prop
  | _, .goto _, _, _ => False
  | ds, e, ρ, w => Q ds e ρ w
variable {P : Program} {r : Option Nat} {ds : List Deferred} {n : Nat} {Q : List Deferred → Exit → Env → World → Prop} {ρ : Env} {w : World}
/-- A scope through which the run goes without a jump. -/
theorem wp_scope {c : Code} (h : WP r ds P n c (noGotoE Q) ρ w) : WP r ds P n (.scope c) Q ρ w :=
  ⟨fun a hs => wpIn_scope (wpIn_mono (h.go a hs) fun e a w ⟨ds', ρ', hs', h'⟩ => by
    cases e with
    | goto l => exact h'.elim
    | _ => exact ⟨ds', ρ', hs', h'⟩)⟩
theorem wp_label {l : Nat} (h : Q ds .normal ρ w) : WP r ds P n (.label l) Q ρ w := ⟨fun a hs => wpIn_label ⟨ds, ρ, hs, h⟩⟩
end scope
section steps
variable {P : Program} {ρ : Env} {w : World} {R : Value → World → Prop} {d : Option Nat} {ty : TypeId} {pos : String} {af : Array Edge} {gd : Option (Nat × Bool)}
theorem s_toU {s t : TypeId} {x : Operand} {n : Int} (hs : P.underlying s = some (.int .i64)) (ht : P.underlying t = some (.int .u64)) (hx : ev ρ x = .int .i64 n) (h0 : 0 ≤ n) (h1 : n ≤ 4000000000) (k : R (.int .u64 n) w) : Step P ⟨d, .convert s t x, ty, pos, af, gd⟩ ρ w R := by
  refine s_pure (.int .u64 n) ?_ k
  have : execOp (ev ρ) ⟨d, .convert s t x, ty, pos, af, gd⟩ = (do pure (.value (← convert s t (ev ρ x)))) := rfl
  rw [this, hx]
  have hw : IntKind.u64.wrap n = n := by simp [IntKind.wrap, IntKind.signed, IntKind.bits]; omega
  simp [convert, run_underlying hs, run_underlying ht, Conv.intToInt, hw]
theorem s_toI {s t : TypeId} {x : Operand} {n : Int} (hs : P.underlying s = some (.int .u64)) (ht : P.underlying t = some (.int .i64)) (hx : ev ρ x = .int .u64 n) (h0 : 0 ≤ n) (h1 : n ≤ 4000000000) (k : R (.int .i64 n) w) : Step P ⟨d, .convert s t x, ty, pos, af, gd⟩ ρ w R := by
  refine s_pure (.int .i64 n) ?_ k
  have : execOp (ev ρ) ⟨d, .convert s t x, ty, pos, af, gd⟩ = (do pure (.value (← convert s t (ev ρ x)))) := rfl
  rw [this, hx]
  have hw : IntKind.i64.wrap n = n := by simp [IntKind.wrap, IntKind.signed, IntKind.bits]; omega
  simp [convert, run_underlying hs, run_underlying ht, Conv.intToInt, hw]
theorem s_half {T Ty : TypeId} {x y : Operand} {n : Int} {k2 : IntKind} (hx : ev ρ x = .int .u64 n) (hy : ev ρ y = .int k2 1) (k : R (.int .u64 (n / 2)) w) : Step P ⟨d, .binOp .shr T x y Ty, ty, pos, af, gd⟩ ρ w R := by
  refine s_pure (.int .u64 (n / 2)) ?_ k
  have : execOp (ev ρ) ⟨d, .binOp .shr T x y Ty, ty, pos, af, gd⟩ = (do pure (.value (← (do eqGuard .shr T x y (ev ρ x) (ev ρ y); binOp .shr T (ev ρ x) (ev ρ y))))) := rfl
  rw [this, hx, hy]
  have h2 : n.fdiv 2 = n / 2 := Int.fdiv_eq_ediv_of_nonneg n (by decide)
  simp [eqGuard, binOp, Op.shift, IntKind.bits, h2]
end steps

section sort
/-- A number put where it belongs in a list in order. -/
def insI (x : Int) : List Int → List Int
  | [] => [x]
  | y :: l => if x ≤ y then x :: y :: l else y :: insI x l
def sortI : List Int → List Int
  | [] => []
  | x :: l => insI x (sortI l)
theorem insI_perm (x : Int) : ∀ l, (insI x l).Perm (x :: l)
  | [] => .refl _
  | y :: l => by
    unfold insI
    split
    · exact .refl _
    · exact ((insI_perm x l).cons y).trans (.swap x y l)
theorem sortI_perm : ∀ l, (sortI l).Perm l
  | [] => .refl _
  | x :: l => (insI_perm x (sortI l)).trans ((sortI_perm l).cons x)
theorem insI_srt (x : Int) : ∀ l : List Int, l.Pairwise (· ≤ ·) → (insI x l).Pairwise (· ≤ ·)
  | [], _ => by simp [insI]
  | y :: l, h => by
    have hp := List.pairwise_cons.1 h
    unfold insI
    split
    · rename_i hxy
      refine List.pairwise_cons.2 ⟨fun z hz => ?_, h⟩
      rcases List.mem_cons.1 hz with rfl | hz
      · exact hxy
      · exact Int.le_trans hxy (hp.1 z hz)
    · rename_i hxy
      refine List.pairwise_cons.2 ⟨fun z hz => ?_, insI_srt x l hp.2⟩
      rcases List.mem_cons.1 ((insI_perm x l).mem_iff.1 hz) with rfl | hz
      · omega
      · exact hp.1 z hz
theorem sortI_srt : ∀ l, (sortI l).Pairwise (· ≤ ·)
  | [] => .nil
  | x :: l => insI_srt x _ (sortI_srt l)
theorem sortI_len (l : List Int) : (sortI l).length = l.length := (sortI_perm l).length_eq
theorem perm_srt_eq : ∀ (a b : List Int), a.Perm b → a.Pairwise (· ≤ ·) → b.Pairwise (· ≤ ·) → a = b
  | [], b, h, _, _ => h.nil_eq
  | x :: a, [], h, _, _ => absurd h.length_eq (by simp)
  | x :: a, y :: b, h, ha, hb => by
    have pa := List.pairwise_cons.1 ha
    have pb := List.pairwise_cons.1 hb
    have h1 : x ≤ y := by
      rcases List.mem_cons.1 (h.mem_iff.2 (List.mem_cons_self ..) : y ∈ x :: a) with e | e
      · omega
      · exact pa.1 y e
    have h2 : y ≤ x := by
      rcases List.mem_cons.1 (h.mem_iff.1 (List.mem_cons_self ..) : x ∈ y :: b) with e | e
      · omega
      · exact pb.1 x e
    have e : x = y := by omega
    subst e
    rw [perm_srt_eq a b (h.cons_inv) pa.2 pb.2]
theorem mergeSort_eq (l : List Int) : (l.mergeSort fun x y => decide (x ≤ y)) = sortI l :=
  perm_srt_eq _ _ ((List.mergeSort_perm l _).trans (sortI_perm l).symm)
    ((List.pairwise_mergeSort (fun a b c h1 h2 => by simp only [decide_eq_true_eq] at *; omega) (fun a b => by simp only [Bool.or_eq_true, decide_eq_true_eq]; omega) l).imp fun h => by simpa using h) (sortI_srt l)
end sort
end Go.K
