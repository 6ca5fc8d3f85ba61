/- Va, Vb, Vc, Vd. -/
import Derived.Test.YtinkdlmimiefaaaGreatPKK2
import Derived.Test.YtinkdlmimiefaaaGreatPKK1
import Derived.Laws.MakeOwn
set_option linter.unusedVariables false
set_option linter.unusedSimpArgs false
section
/-
  A run by reckoning, first part: values whose addresses are names, and what they stand for. No condition.
-/
namespace Go.K
open Go.RowKit
set_option linter.unusedVariables false
set_option linter.unusedSimpArgs false

/-- A value: v: with no address of the call's own in it; p: the address of a cell of the block i; s: n elements of k cells, from the cell off of the block i on, with room to its end; z: an empty slice that is not nil (c0: with no room). -/
inductive V where
  | v (x : Value)
  | p (i off : Nat)
  | s (i off n k : Nat)
  | a (l : List V)
  | t (l : List V)
  | f (fn : Fn) (l c : List V)
  | m (i : Nat)
  | y (i : Nat)
  | z (c0 : Bool)
instance : Inhabited V := ⟨.v undef⟩

/-- Which block a name stands for, and how many cells it has. -/
abbrev Mu := Nat → Option (Nat × Nat)
abbrev Mu.le (μ μ' : Mu) : Prop := ∀ i x, μ i = some x → μ' i = some x

mutual
def Den (μ : Mu) : V → Value → Prop
  | .v x, u => u = x
  | .p i off, u => ∃ b n, μ i = some (b, n) ∧ u = .pointer (some ⟨b, off, none⟩)
  | .s i off n k, u => ∃ b m, μ i = some (b, m) ∧ u = .slice (some ⟨b, off, none⟩) n ((m - off) / k) ∧ off + n * k ≤ m ∧ 0 < k ∧ (m - off) % k = 0 ∧ (m - off) / k ≤ maxLen
  | .a l, u => ∃ vs, u = .agg vs.toArray ∧ Dens μ l vs
  | .t l, u => ∃ vs, u = .tuple vs.toArray ∧ Dens μ l vs
  | .f fn l c, u => ∃ vs us, u = .func fn vs.toArray us.toArray ∧ Dens μ l vs ∧ Dens μ c us
  | .m i, u => ∃ b n, μ i = some (b, n) ∧ u = .map (some b)
  | .y i, u => ∃ b n, μ i = some (b, n) ∧ u = .func (.yield b) #[] #[]
  | .z c0, u => ∃ b off c, u = .slice (some ⟨b, off, none⟩) 0 c ∧ (c0 = true → c = 0)
def Dens (μ : Mu) : List V → List Value → Prop
  | [], vs => vs = []
  | x :: l, vs => ∃ u us, vs = u :: us ∧ Den μ x u ∧ Dens μ l us
end

mutual
theorem Den.mono {μ μ' : Mu} (h : μ.le μ') : ∀ {x : V} {u : Value}, Den μ x u → Den μ' x u
  | .v _, _, hd => hd
  | .p _ _, _, ⟨b, n, h1, h2⟩ => ⟨b, n, h _ _ h1, h2⟩
  | .s _ _ _ _, _, ⟨b, n, h1, h2⟩ => ⟨b, n, h _ _ h1, h2⟩
  | .a _, _, ⟨vs, h1, h2⟩ => ⟨vs, h1, Dens.mono h h2⟩
  | .t _, _, ⟨vs, h1, h2⟩ => ⟨vs, h1, Dens.mono h h2⟩
  | .f _ _ _, _, ⟨vs, us, h1, h2, h3⟩ => ⟨vs, us, h1, Dens.mono h h2, Dens.mono h h3⟩
  | .m _, _, ⟨b, n, h1, h2⟩ => ⟨b, n, h _ _ h1, h2⟩
  | .y _, _, ⟨b, n, h1, h2⟩ => ⟨b, n, h _ _ h1, h2⟩
  | .z _, _, h1 => h1
theorem Dens.mono {μ μ' : Mu} (h : μ.le μ') : ∀ {l : List V} {u : List Value}, Dens μ l u → Dens μ' l u
  | [], _, hd => hd
  | _ :: _, _, ⟨u, us, h1, h2, h3⟩ => ⟨u, us, h1, Den.mono h h2, Dens.mono h h3⟩
end

mutual
/-- What holds no address of the call's own, as the value that it is. -/
def V.plain : V → Option Value
  | .v x => some x
  | .a l => match V.plains l with | some vs => some (.agg vs.toArray) | none => none
  | .t l => match V.plains l with | some vs => some (.tuple vs.toArray) | none => none
  | .f fn l c => match V.plains l, V.plains c with | some vs, some us => some (.func fn vs.toArray us.toArray) | _, _ => none
  | _ => none
def V.plains : List V → Option (List Value)
  | [] => some []
  | x :: l => match x.plain, V.plains l with | some u, some us => some (u :: us) | _, _ => none
end
mutual
theorem Den.plain {μ : Mu} : ∀ {x : V} {u w : Value}, Den μ x u → x.plain = some w → u = w
  | .v _, _, _, hd, hp => by simp only [V.plain, Option.some.injEq] at hp; rw [← hp]; exact hd
  | .a l, _, _, ⟨vs, h1, h2⟩, hp => by
    simp only [V.plain] at hp
    split at hp
    · rename_i us hu; injection hp with hp; rw [h1, ← hp, Dens.plain h2 hu]
    · cases hp
  | .t l, _, _, ⟨vs, h1, h2⟩, hp => by
    simp only [V.plain] at hp
    split at hp
    · rename_i us hu; injection hp with hp; rw [h1, ← hp, Dens.plain h2 hu]
    · cases hp
  | .f fn l c, _, _, ⟨vs, us, h1, h2, h3⟩, hp => by
    simp only [V.plain] at hp
    split at hp
    · rename_i us hu hc; injection hp with hp; rw [h1, ← hp, Dens.plain h2 hu, Dens.plain h3 hc]
    · cases hp
  | .p _ _, _, _, _, hp => by simp [V.plain] at hp
  | .s _ _ _ _, _, _, _, hp => by simp [V.plain] at hp
  | .m _, _, _, _, hp => by simp [V.plain] at hp
  | .y _, _, _, _, hp => by simp [V.plain] at hp
  | .z _, _, _, _, hp => by simp [V.plain] at hp
theorem Dens.plain {μ : Mu} : ∀ {l : List V} {us ws : List Value}, Dens μ l us → V.plains l = some ws → us = ws
  | [], _, _, hd, hp => by simp only [V.plains, Option.some.injEq] at hp; rw [← hp]; exact hd
  | x :: l, _, _, ⟨u, us, h1, h2, h3⟩, hp => by
    simp only [V.plains] at hp
    split at hp
    · rename_i a b ha hb; injection hp with hp; rw [h1, ← hp, Den.plain h2 ha, Dens.plain h3 hb]
    · cases hp
end

theorem Dens.map_v (μ : Mu) : ∀ l : List Value, Dens μ (l.map .v) l
  | [] => rfl
  | x :: l => ⟨x, l, rfl, rfl, Dens.map_v μ l⟩
theorem Dens.length {μ : Mu} : ∀ {l : List V} {vs : List Value}, Dens μ l vs → vs.length = l.length
  | [], _, h => by have h : _ = [] := h; subst h; rfl
  | _ :: l, _, ⟨u, us, h1, _, h3⟩ => by subst h1; simp [h3.length]
theorem Dens.append {μ : Mu} : ∀ {l : List V} {vs : List Value} {l' : List V} {vs' : List Value}, Dens μ l vs → Dens μ l' vs' → Dens μ (l ++ l') (vs ++ vs')
  | [], _, _, _, h, h' => by have h : _ = [] := h; subst h; exact h'
  | _ :: l, _, _, _, ⟨u, us, h1, h2, h3⟩, h' => by subst h1; exact ⟨u, us ++ _, rfl, h2, h3.append h'⟩
theorem Dens.get {μ : Mu} : ∀ {l : List V} {vs : List Value} {j : Nat} {x : V}, Dens μ l vs → l[j]? = some x → ∃ u, vs[j]? = some u ∧ Den μ x u
  | [], _, _, _, _, hx => by simp at hx
  | _ :: l, _, 0, x, ⟨u, us, h1, h2, _⟩, hx => by
    simp only [List.getElem?_cons_zero, Option.some.injEq] at hx
    subst h1; subst hx; exact ⟨u, rfl, h2⟩
  | _ :: l, _, j + 1, x, ⟨u, us, h1, _, h3⟩, hx => by
    subst h1
    obtain ⟨u', h4, h5⟩ := h3.get (j := j) (x := x) (by simpa using hx)
    exact ⟨u', by simpa using h4, h5⟩
theorem Dens.take {μ : Mu} : ∀ {l : List V} {vs : List Value} (n : Nat), Dens μ l vs → Dens μ (l.take n) (vs.take n)
  | [], _, n, h => by have h : _ = [] := h; subst h; simp; exact rfl
  | _ :: l, _, 0, h => by simp; exact rfl
  | _ :: l, _, n + 1, ⟨u, us, h1, h2, h3⟩ => by subst h1; exact ⟨u, us.take n, rfl, h2, h3.take n⟩
theorem Dens.drop {μ : Mu} : ∀ {l : List V} {vs : List Value} (n : Nat), Dens μ l vs → Dens μ (l.drop n) (vs.drop n)
  | [], _, n, h => by have h : _ = [] := h; subst h; simp; exact rfl
  | _ :: l, _, 0, h => by simpa using h
  | _ :: l, _, n + 1, ⟨u, us, h1, h2, h3⟩ => by subst h1; simpa using h3.drop n
theorem Dens.set {μ : Mu} : ∀ {l : List V} {vs : List Value} (j : Nat) {x : V} {u : Value}, Dens μ l vs → Den μ x u → Dens μ (l.set j x) (vs.set j u)
  | [], _, j, _, _, h, _ => by have h : _ = [] := h; subst h; simp; exact rfl
  | _ :: l, _, 0, _, _, ⟨u, us, h1, h2, h3⟩, hx => by subst h1; exact ⟨_, us, rfl, hx, h3⟩
  | _ :: l, _, j + 1, _, _, ⟨u, us, h1, h2, h3⟩, hx => by subst h1; exact ⟨u, us.set j _, rfl, h2, h3.set j hx⟩

/-- A value of the program's own, as a V. -/
def ofV1 : Value → V
  | .agg cs => .a (cs.toList.map .v)
  | x => .v x
def ofV : Value → V
  | .agg cs => .a (cs.toList.map .v)
  | .tuple vs => .t (vs.toList.map ofV1)
  | x => .v x
theorem den_ofV1 (μ : Mu) (x : Value) : Den μ (ofV1 x) x := by
  unfold ofV1
  split
  · exact ⟨_, by simp, Dens.map_v μ _⟩
  · exact rfl
theorem dens_ofV1 (μ : Mu) : ∀ l : List Value, Dens μ (l.map ofV1) l
  | [] => rfl
  | x :: l => ⟨x, l, rfl, den_ofV1 μ x, dens_ofV1 μ l⟩
theorem den_ofV (μ : Mu) (x : Value) : Den μ (ofV x) x := by
  unfold ofV
  split
  · exact ⟨_, by simp, Dens.map_v μ _⟩
  · exact ⟨_, by simp, dens_ofV1 μ _⟩
  · exact rfl

/-- Its cells. -/
def V.cells : V → List V
  | .a l => l
  | .v (.agg cs) => cs.toList.map .v
  | x => [x]
theorem Den.cells {μ : Mu} {x : V} {u : Value} (h : Den μ x u) : Dens μ x.cells u.cells.toList := by
  cases x with
  | a l => obtain ⟨vs, h1, h2⟩ := h; subst h1; exact h2
  | v y =>
    have h0 : u = y := h
    subst h0
    cases u with
    | agg cs => exact Dens.map_v μ _
    | _ => exact ⟨_, [], rfl, rfl, rfl⟩
  | p => obtain ⟨b, n, h0, h1⟩ := h; subst h1; exact ⟨_, [], rfl, ⟨b, n, h0, rfl⟩, rfl⟩
  | s => obtain ⟨b, n, h0, h1, h2⟩ := h; subst h1; exact ⟨_, [], rfl, ⟨b, n, h0, rfl, h2⟩, rfl⟩
  | t => obtain ⟨b, h1, h2⟩ := h; subst h1; exact ⟨_, [], rfl, ⟨b, rfl, h2⟩, rfl⟩
  | f => obtain ⟨b, c, h1, h2⟩ := h; subst h1; exact ⟨_, [], rfl, ⟨b, c, rfl, h2⟩, rfl⟩
  | m => obtain ⟨b, n, h0, h1⟩ := h; subst h1; exact ⟨_, [], rfl, ⟨b, n, h0, rfl⟩, rfl⟩
  | y => obtain ⟨b, n, h0, h1⟩ := h; subst h1; exact ⟨_, [], rfl, ⟨b, n, h0, rfl⟩, rfl⟩
  | z => obtain ⟨b, n, c, h1, h2⟩ := h; subst h1; exact ⟨_, [], rfl, ⟨b, n, c, rfl, h2⟩, rfl⟩
/-- Does it go into one cell? -/
def V.one : V → Bool
  | .v (.agg _) | .v (.tuple _) | .a _ | .t _ => false
  | _ => true
theorem Den.one {μ : Mu} {x : V} {u : Value} (h : Den μ x u) (h1 : x.one = true) : u.oneCell' = true := by
  cases x with
  | v y =>
    have h : u = y := h
    subst h
    cases u <;> first | rfl | (simp [V.one] at h1)
  | p => obtain ⟨b, n, _, h⟩ := h; subst h; rfl
  | s => obtain ⟨b, n, _, h, _⟩ := h; subst h; rfl
  | f => obtain ⟨b, _, h, _⟩ := h; subst h; rfl
  | m => obtain ⟨b, n, _, h⟩ := h; subst h; rfl
  | y => obtain ⟨b, n, _, h⟩ := h; subst h; rfl
  | z => obtain ⟨b, n, c, h, _⟩ := h; subst h; rfl
  | a => simp [V.one] at h1
  | t => simp [V.one] at h1
theorem Dens.one {μ : Mu} : ∀ {l : List V} {us : List Value}, Dens μ l us → l.all V.one = true → ∀ u ∈ us, u.oneCell' = true
  | [], _, h, _, u, hu => by have h : _ = [] := h; subst h; cases hu
  | x :: l, _, ⟨u', us, h1, h2, h3⟩, ha, u, hu => by
    subst h1
    simp only [List.all_cons, Bool.and_eq_true] at ha
    rcases List.mem_cons.1 hu with rfl | hu
    · exact h2.one ha.1
    · exact h3.one ha.2 u hu

/-! ### The frame -/
noncomputable def getE (l : List V) : Nat → V := List.rec (fun _ => .v undef) (fun x _ ih n => Nat.rec x (fun m _ => ih m) n) l
noncomputable def setE (l : List V) : Nat → V → List V := List.rec (fun n x => Nat.rec [x] (fun _ ih => .v undef :: ih) n) (fun y l ih n x => Nat.rec (x :: l) (fun m _ => y :: ih m x) n) l
theorem getE_setE : ∀ (l : List V) (t : Nat) (x : V) (s : Nat), getE (setE l t x) s = if s = t then x else getE l s
  | [], 0, x, 0 => rfl
  | [], 0, x, s + 1 => rfl
  | [], t + 1, x, 0 => rfl
  | [], t + 1, x, s + 1 => by
    show getE (setE [] t x) s = _
    rw [getE_setE [] t x s]
    simp only [Nat.add_right_cancel_iff]
    split
    · rfl
    · rfl
  | y :: l, 0, x, 0 => rfl
  | y :: l, 0, x, s + 1 => rfl
  | y :: l, t + 1, x, 0 => rfl
  | y :: l, t + 1, x, s + 1 => by
    show getE (setE l t x) s = _
    rw [getE_setE l t x s]
    simp only [Nat.add_right_cancel_iff]
    split
    · rfl
    · rfl
/-- A frame: its slots, eight to a row. -/
abbrev Fr := List (List V)
noncomputable def getL (l : Fr) : Nat → List V := List.rec (fun _ => []) (fun x _ ih n => Nat.rec x (fun m _ => ih m) n) l
noncomputable def setL (l : Fr) : Nat → List V → Fr := List.rec (fun n x => Nat.rec [x] (fun _ ih => [] :: ih) n) (fun y l ih n x => Nat.rec (x :: l) (fun m _ => y :: ih m x) n) l
theorem getL_setL : ∀ (l : Fr) (t : Nat) (x : List V) (s : Nat), getL (setL l t x) s = if s = t then x else getL l s
  | [], 0, x, 0 => rfl
  | [], 0, x, s + 1 => rfl
  | [], t + 1, x, 0 => rfl
  | [], t + 1, x, s + 1 => by
    show getL (setL [] t x) s = _
    rw [getL_setL [] t x s]
    simp only [Nat.add_right_cancel_iff]
    split
    · rfl
    · rfl
  | y :: l, 0, x, 0 => rfl
  | y :: l, 0, x, s + 1 => rfl
  | y :: l, t + 1, x, 0 => rfl
  | y :: l, t + 1, x, s + 1 => by
    show getL (setL l t x) s = _
    rw [getL_setL l t x s]
    simp only [Nat.add_right_cancel_iff]
    split
    · rfl
    · rfl
noncomputable def getF (σ : Fr) (t : Nat) : V := getE (getL σ (Nat.div t 8)) (Nat.mod t 8)
noncomputable def setF (σ : Fr) (t : Nat) (x : V) : Fr := setL σ (Nat.div t 8) (setE (getL σ (Nat.div t 8)) (Nat.mod t 8) x)
theorem getF_setF (σ : Fr) (t : Nat) (x : V) (s : Nat) : getF (setF σ t x) s = if s = t then x else getF σ s := by
  show getE (getL (setL σ (t / 8) (setE (getL σ (t / 8)) (t % 8) x)) (s / 8)) (s % 8) = if s = t then x else getE (getL σ (s / 8)) (s % 8)
  rw [getL_setL]
  by_cases h : s = t
  · subst h
    rw [if_pos rfl, getE_setE, if_pos rfl, if_pos rfl]
  · rw [if_neg h]
    by_cases h1 : s / 8 = t / 8
    · rw [if_pos h1, getE_setE, if_neg (by omega), h1]
    · rw [if_neg h1]
noncomputable def setO (σ : Fr) : Option Nat → V → Fr
  | some t, x => setF σ t x
  | none, _ => σ
noncomputable def startF (σ : Fr) : Nat → List V → Fr
  | _, [] => σ
  | t, x :: l => startF (setF σ t x) (t + 1) l
def ERel (μ : Mu) (σ : Fr) (ρ : Env) : Prop := ∀ t, Den μ (getF σ t) (ρ t)
theorem ERel.mono {μ μ' : Mu} (h : μ.le μ') {σ : Fr} {ρ : Env} (hE : ERel μ σ ρ) : ERel μ' σ ρ := fun t => (hE t).mono h
theorem ERel.set {μ : Mu} {σ : Fr} {ρ : Env} (hE : ERel μ σ ρ) (d : Option Nat) {x : V} {u : Value} (hx : Den μ x u) : ERel μ (setO σ d x) (updO ρ d u) := by
  cases d with
  | none => exact hE
  | some t =>
    intro s
    show Den μ (getF (setF σ t x) s) (upd ρ t u s)
    rw [getF_setF]
    by_cases h : s = t
    · subst h; rw [if_pos rfl, upd_same]; exact hx
    · rw [if_neg h, upd_ne _ _ h]; exact hE s
theorem ERel.starts {μ : Mu} : ∀ {l : List V} {vs : List Value} {σ : Fr} {k : Nat} {ρ : Env}, Dens μ l vs → (∀ t, t < k → Den μ (getF σ t) (ρ t)) → (∀ t, k ≤ t → Den μ (getF σ t) undef) → (∀ t, k ≤ t → ρ t = vs.getD (t - k) undef) → ERel μ (startF σ k l) ρ
  | [], vs, σ, k, ρ, h, h1, h2, h3 => by
    have h : vs = [] := h
    subst h
    intro t
    rcases Nat.lt_or_ge t k with hlt | hge
    · exact h1 t hlt
    · rw [h3 t hge]; exact h2 t hge
  | x :: l, vs, σ, k, ρ, ⟨u, us, e1, e2, e3⟩, h1, h2, h3 => by
    subst e1
    refine ERel.starts (k := k + 1) e3 (fun t ht => ?_) (fun t ht => ?_) (fun t ht => ?_)
    · rw [getF_setF]
      by_cases e : t = k
      · subst e
        rw [if_pos rfl, h3 t (Nat.le_refl _), Nat.sub_self]
        exact e2
      · rw [if_neg e]; exact h1 t (by omega)
    · rw [getF_setF, if_neg (by omega)]; exact h2 t (by omega)
    · rw [h3 t (by omega), show t - k = (t - (k + 1)) + 1 by omega]; rfl
theorem ERel.start {μ : Mu} {l : List V} {vs : List Value} (h : Dens μ l vs) : ERel μ (startF [] 0 l) (enterE vs) :=
  ERel.starts h (fun t ht => by omega) (fun t _ => rfl) (fun t _ => rfl)
noncomputable def evV (σ : Fr) : Operand → V
  | .tmp t => getF σ t
  | .const x => ofV x
  | .global g => .v (.pointer (some ⟨g, 0, none⟩))
  | .func f => .v (.func (.func f) #[] #[])
theorem ERel.ev {μ : Mu} {σ : Fr} {ρ : Env} (hE : ERel μ σ ρ) (x : Operand) : Den μ (evV σ x) (ev ρ x) := by
  cases x with
  | tmp t => exact hE t
  | const x => exact den_ofV μ x
  | global g => exact rfl
  | func f => exact rfl
noncomputable def evVs (σ : Fr) (l : List Operand) : List V := l.map (evV σ)
theorem ERel.evs {μ : Mu} {σ : Fr} {ρ : Env} (hE : ERel μ σ ρ) : ∀ l : List Operand, Dens μ (evVs σ l) (l.map (K.ev ρ))
  | [] => rfl
  | x :: l => ⟨_, _, rfl, hE.ev x, ERel.evs hE l⟩

/-! ### Memory -/
/-- Where a range over a function goes on when its body has left it. -/
inductive PE where
  | none
  | ret
  | exit (id : Nat)
def PE.code : PE → Option Code
  | .none => Option.none
  | .ret => some .ret
  | .exit id => some (.exit id)
/-- What never turns of a range over a function. -/
structure LI where
  n : Nat
  σ : Fr
  ps : List Nat
  assign : Code
  body : Code
  D : Nat
inductive O where
  | cells (l : List V) (T : TypeId) (ex : Bool)
  | ro (l : List V) (T : TypeId)
  | map (es : List (Int × V))
  | loop (st : LoopState) (pe : PE)
  | defs
  | dead
abbrev Hp := List (Nat × O)
abbrev Lps := List (Nat × LI)
def lget : Lps → Nat → Option LI
  | [], _ => none
  | (j, x) :: G, i => bif Nat.beq i j then some x else lget G i
def vget : List (Int × V) → Int → Option V
  | [], _ => none
  | (k, x) :: es, j => bif decide (j = k) then some x else vget es j
def ODen (μ : Mu) : Option V → Option Value → Prop
  | none, u => u = none
  | some x, u => ∃ v, u = some v ∧ Den μ x v
theorem ODen.mono {μ μ' : Mu} (h : μ.le μ') : ∀ {x : Option V} {u : Option Value}, ODen μ x u → ODen μ' x u
  | none, _, hd => hd
  | some _, _, ⟨v, h1, h2⟩ => ⟨v, h1, h2.mono h⟩
/-- The ranges over functions that are under way, and their records; the world in which all began. -/
structure Ctx where
  G : Lps
  R : Nat → Rec
  W : World
/-- ex: the block has just these cells; otherwise perhaps more behind them. -/
def ORel (G : Ctx) (μ : Mu) (i n : Nat) : O → Obj → Prop
  | .cells l T ex, ob => ∃ vs us, ob = blk (vs ++ us) T ∧ Dens μ l vs ∧ n = vs.length + us.length ∧ (ex = true → us = [])
  | .map es, ob => ∃ (en : List En) (clk : Nat), ob = mobj en clk ∧ MOk en clk ∧ ∀ j, ODen μ (vget es j) (mget en j)
  | .loop st pe, ob => ∃ (x : LI) (ρ : Env) (k : Nat), lget G.G i = some x ∧ ob = (G.R i).at st pe.code ∧ (G.R i).Of x.n ρ ∧ ERel μ x.σ ρ ∧ (G.R i).params = x.ps.toArray ∧ (G.R i).assign = x.assign ∧ (G.R i).body = x.body ∧ μ x.D = some ((G.R i).defers, k)
  | .defs, ob => ob = .deferred (some [])
  | .ro _ _, _ => False
  | .dead, _ => True
theorem ORel.mono {G G' : Ctx} {μ μ' : Mu} (h : μ.le μ') {i n : Nat} (hG : ∀ x, lget G.G i = some x → lget G'.G i = some x ∧ G'.R i = G.R i) : ∀ {o : O} {ob : Obj}, ORel G μ i n o ob → ORel G' μ' i n o ob
  | .cells _ _ _, _, ⟨vs, us, h1, h2, h3⟩ => ⟨vs, us, h1, h2.mono h, h3⟩
  | .map _, _, ⟨en, clk, h1, h2, h3⟩ => ⟨en, clk, h1, h2, fun j => (h3 j).mono h⟩
  | .loop .., _, ⟨x, ρ, k, h1, h2, h3, h4, h5, h6, h7, h8⟩ => ⟨x, ρ, k, (hG _ h1).1, by rw [(hG _ h1).2]; exact h2, by rw [(hG _ h1).2]; exact h3, h4.mono h, by rw [(hG _ h1).2]; exact h5, by rw [(hG _ h1).2]; exact h6, by rw [(hG _ h1).2]; exact h7, by rw [(hG _ h1).2]; exact h _ _ h8⟩
  | .defs, _, h1 => h1
  | .ro _ _, _, h1 => h1.elim
  | .dead, _, _ => trivial

noncomputable def hget (H : Hp) : Nat → Option O := List.rec (fun _ => none) (fun e _ ih i => Bool.rec (ih i) (some e.2) (Nat.beq i e.1)) H
theorem hget_nil (i : Nat) : hget [] i = none := rfl
theorem hget_cons (j : Nat) (o : O) (H : Hp) (i : Nat) : hget ((j, o) :: H) i = bif Nat.beq i j then some o else hget H i := by
  show (Bool.rec (hget H i) (some o) (Nat.beq i j) : Option O) = _
  cases Nat.beq i j <;> rfl
noncomputable def hset (H : Hp) : Nat → O → Hp := List.rec (fun _ _ => []) (fun e H ih i o => Bool.rec (e :: ih i o) ((e.1, o) :: H) (Nat.beq i e.1)) H
theorem hset_cons (j : Nat) (q : O) (H : Hp) (i : Nat) (o : O) : hset ((j, q) :: H) i o = bif Nat.beq i j then (j, o) :: H else (j, q) :: hset H i o := by
  show (Bool.rec ((j, q) :: hset H i o) ((j, o) :: H) (Nat.beq i j) : Hp) = _
  cases Nat.beq i j <;> rfl
/-- The name i becomes another one, with another block. -/
def hren : Hp → Nat → Nat → O → Hp
  | [], _, _, _ => []
  | (j, q) :: H, i, i', o => bif Nat.beq i j then (i', o) :: H else (j, q) :: hren H i i' o
/-- A block that was there at first, and holds this: it is read alone. -/
def ERo (G : Ctx) (μ : Mu) (i : Nat) (l : List V) (T : TypeId) : Prop := ∃ b n vs us, μ i = some (b, n) ∧ G.W.heap[b]? = some (blk (vs ++ us) T) ∧ Dens μ l vs ∧ n = vs.length + us.length
def Ent (G : Ctx) (μ : Mu) (i : Nat) (o : O) (g : Option Nat) (ob : Obj) : Prop := (∃ b n, g = some b ∧ μ i = some (b, n) ∧ ORel G μ i n o ob) ∨ ∃ l T, o = .ro l T ∧ g = none ∧ ERo G μ i l T
theorem Ent.mono {G G' : Ctx} {μ μ' : Mu} (h : μ.le μ') {i : Nat} (hG : ∀ x, lget G.G i = some x → lget G'.G i = some x ∧ G'.R i = G.R i) (hW : G'.W = G.W) {o : O} {g : Option Nat} {ob : Obj} (he : Ent G μ i o g ob) : Ent G' μ' i o g ob := by
  rcases he with ⟨b, n, e1, e2, e3⟩ | ⟨l, T, e1, e2, b, n, vs, us, e3, e4, e5, e6⟩
  · exact .inl ⟨b, n, e1, h _ _ e2, e3.mono h hG⟩
  · exact .inr ⟨l, T, e1, e2, b, n, vs, us, h _ _ e3, by rw [hW]; exact e4, e5.mono h, e6⟩
def isRo : O → Bool
  | .ro .. => true
  | _ => false
theorem Ent.own {G : Ctx} {μ : Mu} {i : Nat} {o : O} {g : Option Nat} {ob : Obj} (he : Ent G μ i o g ob) (hr : isRo o = false) : ∃ b n, g = some b ∧ μ i = some (b, n) ∧ ORel G μ i n o ob := by
  rcases he with he | ⟨l, T, e1, _⟩
  · exact he
  · subst e1; cases hr
def LRel (G : Ctx) (μ : Mu) : Hp → List (Option Nat × Obj) → Prop
  | [], L => L = []
  | (i, o) :: H, L => ∃ g ob L', L = (g, ob) :: L' ∧ LRel G μ H L' ∧ Ent G μ i o g ob
theorem LRel.mono {G : Ctx} {μ μ' : Mu} (h : μ.le μ') : ∀ {H : Hp} {L : List (Option Nat × Obj)}, LRel G μ H L → LRel G μ' H L
  | [], _, hl => hl
  | (i, o) :: H, _, ⟨g, ob, L', h1, h2, h3⟩ => ⟨g, ob, L', h1, h2.mono h, h3.mono h (fun _ h => ⟨h, rfl⟩) rfl⟩
/-- What a name's block holds; and if it becomes another one. -/
theorem LRel.get {G : Ctx} {μ : Mu} : ∀ {H : Hp} {L : List (Option Nat × Obj)} {i : Nat} {o : O}, LRel G μ H L → hget H i = some o → isRo o = false → ∃ k b n ob, L[k]? = some (some b, ob) ∧ μ i = some (b, n) ∧ ORel G μ i n o ob ∧
      (∀ μ' o' ob', μ.le μ' → μ' i = some (b, n) → ORel G μ' i n o' ob' → LRel G μ' (hset H i o') (L.set k (some b, ob'))) ∧ (∀ μ' i' b' n' ob' o', μ.le μ' → μ' i' = some (b', n') → ORel G μ' i' n' o' ob' → LRel G μ' (hren H i i' o') (L.set k (some b', ob')))
  | [], _, _, _, _, hg, _ => by simp [hget_nil] at hg
  | (j, q) :: H, _, i, o, ⟨g, ob, L', h1, h2, h3⟩, hg, hr => by
    subst h1
    cases hb : Nat.beq i j with
    | true =>
      have hij := Nat.eq_of_beq_eq_true hb
      subst hij
      simp only [hget_cons, hb, cond_true, Option.some.injEq] at hg
      subst hg
      obtain ⟨b, n, rfl, h4, h5⟩ := h3.own hr
      refine ⟨0, b, n, ob, rfl, h4, h5, fun μ' o' ob' hm hi hr => ?_, fun μ' i' b' n' ob' o' hm hi hr => ?_⟩
      · simp only [hset_cons, hb, cond_true, List.set_cons_zero]
        exact ⟨_, _, _, rfl, h2.mono hm, .inl ⟨b, n, rfl, hi, hr⟩⟩
      · simp only [hren, hb, cond_true, List.set_cons_zero]
        exact ⟨_, _, _, rfl, h2.mono hm, .inl ⟨b', n', rfl, hi, hr⟩⟩
    | false =>
      simp only [hget_cons, hb, cond_false] at hg
      obtain ⟨k, c, m, ob', e1, e2, e3, e4, e5⟩ := h2.get hg hr
      refine ⟨k + 1, c, m, ob', by simpa using e1, e2, e3, fun μ' o' ob'' hm hi hr => ?_, fun μ' i' b' n' ob'' o' hm hi hr => ?_⟩
      · simp only [hset_cons, hb, cond_false, List.set_cons_succ]
        exact ⟨_, _, _, rfl, e4 μ' o' ob'' hm hi hr, h3.mono hm (fun _ h => ⟨h, rfl⟩) rfl⟩
      · simp only [hren, hb, cond_false, List.set_cons_succ]
        exact ⟨_, _, _, rfl, e5 μ' i' b' n' ob'' o' hm hi hr, h3.mono hm (fun _ h => ⟨h, rfl⟩) rfl⟩
/-- Names that are let go. -/
theorem pickL_shift (x : Option Nat × Obj) : ∀ (l : List Nat) (L : List (Option Nat × Obj)), pickL (x :: L) (l.map (· + 1)) = pickL L l
  | [], L => rfl
  | i :: l, L => by
    simp only [List.map_cons, pickL, List.getElem?_cons_succ, pickL_shift x l L]
theorem LRel.filter {G G' : Ctx} {μ : Mu} (hW : G'.W = G.W) (q : Nat × O → Bool) (hq : ∀ i o, q (i, o) = true → ∀ x, lget G.G i = some x → lget G'.G i = some x ∧ G'.R i = G.R i) : ∀ {H : Hp} {L : List (Option Nat × Obj)}, LRel G μ H L → ∃ l L', l.Nodup ∧ pickL L l = some L' ∧ LRel G' μ (H.filter q) L' ∧ ∀ k ∈ l, ∃ e, H[k]? = some e ∧ q e = true
  | [], _, h => ⟨[], [], List.nodup_nil, rfl, rfl, fun k hk => by cases hk⟩
  | (i, o) :: H, _, ⟨g, ob, L', h1, h2, h3⟩ => by
    subst h1
    obtain ⟨l, L2, e1, e2, e3, e4⟩ := h2.filter hW q hq
    have hn : (l.map (· + 1)).Nodup := by
      rw [List.Nodup, List.pairwise_map]
      exact e1.imp fun h => by omega
    have hm : ∀ k ∈ l.map (· + 1), ∃ e, ((i, o) :: H)[k]? = some e ∧ q e = true := fun k hk => by
      obtain ⟨j, hj, rfl⟩ := List.mem_map.1 hk
      simpa using e4 j hj
    cases hb : q (i, o) with
    | true =>
      refine ⟨0 :: l.map (· + 1), (g, ob) :: L2, ?_, ?_, ?_, ?_⟩
      · rw [List.nodup_cons]
        exact ⟨by simp, hn⟩
      · simp only [pickL, List.getElem?_cons_zero, pickL_shift, e2]
      · simp only [List.filter_cons, hb, if_true]
        exact ⟨g, ob, L2, rfl, e3, h3.mono (fun _ _ h => h) (hq i o hb) hW⟩
      · intro k hk
        rcases List.mem_cons.1 hk with rfl | hk
        · exact ⟨(i, o), rfl, hb⟩
        · exact hm k hk
    | false =>
      refine ⟨l.map (· + 1), L2, hn, by rw [pickL_shift, e2], ?_, hm⟩
      simp only [List.filter_cons, hb]
      exact e3

def Mem (G : Ctx) (μ : Mu) (_ : World) (w : World) (H : Hp) : Prop := ∃ L, LRel G μ H L ∧ Inv none G.W w L
theorem Mem.filter {G G' : Ctx} {μ : Mu} {w0 w : World} {H : Hp} (h : Mem G μ w0 w H) (hW : G'.W = G.W) (q : Nat × O → Bool) (hq : ∀ i o, q (i, o) = true → ∀ x, lget G.G i = some x → lget G'.G i = some x ∧ G'.R i = G.R i) : Mem G' μ w0 w (H.filter q) := by
  obtain ⟨L, h1, h2⟩ := h
  obtain ⟨l, L', e1, e2, e3, _⟩ := h1.filter hW q hq
  exact ⟨L', e3, by rw [hW]; exact h2.pickL l e1 e2⟩
/-- One more name. -/
def Mu.put (μ : Mu) (i : Nat) (x : Nat × Nat) : Mu := fun j => if j = i then some x else μ j
theorem Mu.put_le {μ : Mu} {i : Nat} (h : μ i = none) (x : Nat × Nat) : μ.le (μ.put i x) := fun j y hy => by
  unfold Mu.put
  split
  · rename_i e; subst e; rw [h] at hy; cases hy
  · exact hy
theorem Mu.put_same (μ : Mu) (i : Nat) (x : Nat × Nat) : μ.put i x i = some x := by simp [Mu.put]
/-- From lo on, below hi, no name is taken. -/
def Free (μ : Mu) (lo hi : Nat) : Prop := ∀ i, lo ≤ i → i < hi → μ i = none
/-- More names, from lo on, below lo'. -/
structure Ext (μ μ' : Mu) (lo lo' : Nat) : Prop where
  le : μ.le μ'
  out : ∀ i, i < lo ∨ lo' ≤ i → μ' i = μ i
  up : lo ≤ lo'
theorem Ext.refl (μ : Mu) (lo : Nat) : Ext μ μ lo lo := ⟨fun _ _ h => h, fun _ _ => rfl, Nat.le_refl _⟩
theorem Ext.trans {μ μ' μ'' : Mu} {a b c : Nat} (h : Ext μ μ' a b) (h' : Ext μ' μ'' b c) : Ext μ μ'' a c :=
  ⟨fun i x hx => h'.le i x (h.le i x hx), fun i hi => by
    have h1 := h.up; have h2 := h'.up
    rw [h'.out i (by omega), h.out i (by omega)], Nat.le_trans h.up h'.up⟩
theorem Ext.free {μ μ' : Mu} {lo lo' hi : Nat} (h : Ext μ μ' lo lo') (hf : Free μ lo hi) : Free μ' lo' hi := fun i h1 h2 => by
  rw [h.out i (.inr h1)]; exact hf i (Nat.le_trans h.up h1) h2
theorem Ext.one {μ : Mu} {lo hi : Nat} (hf : Free μ lo hi) (h : lo < hi) (x : Nat × Nat) : Ext μ (μ.put lo x) lo (lo + 1) :=
  ⟨Mu.put_le (hf lo (Nat.le_refl _) h) x, fun i hi => by unfold Mu.put; rw [if_neg (by omega)], by omega⟩
/-- A new block. -/
theorem LRel.cons {G : Ctx} {μ : Mu} {H : Hp} {L : List (Option Nat × Obj)} (hL : LRel G μ H L) {lo hi : Nat} (hf : Free μ lo hi) (h : lo < hi) {b n : Nat} {o : O} {ob : Obj} (hr : ORel G (μ.put lo (b, n)) lo n o ob) : LRel G (μ.put lo (b, n)) ((lo, o) :: H) ((some b, ob) :: L) :=
  ⟨_, _, _, rfl, hL.mono (Ext.one hf h _).le, .inl ⟨b, n, rfl, Mu.put_same _ _ _, hr⟩⟩
end Go.K
end
section
/-
  A run by reckoning, second part: operations that leave memory as it is. No condition.
-/
namespace Go.K
open Go.RowKit
set_option linter.unusedVariables false
set_option linter.unusedSimpArgs false

/-- What reads the program alone. -/
def runPure {α : Type} (P : Program) : Sem α → Option α
  | .pure a => some a
  | .program k => runPure P (k P)
  | .mark _ k => runPure P k
  | _ => none
theorem runPure_run {α : Type} {P : Program} : ∀ {s : Sem α} {a : α}, runPure P s = some a → ∀ w, s.run P w = .ok a w
  | .pure a, b, h, w => by simp only [runPure, Option.some.injEq] at h; subst h; rfl
  | .program k, b, h, w => by simp only [runPure] at h; exact runPure_run (s := k P) h w
  | .mark m k, b, h, w => by simp only [runPure] at h; exact runPure_run (s := k) h w
  | .load .., _, h, _ => by simp [runPure] at h
  | .store .., _, h, _ => by simp [runPure] at h
  | .new .., _, h, _ => by simp [runPure] at h
  | .shape .., _, h, _ => by simp [runPure] at h
  | .freeze .., _, h, _ => by simp [runPure] at h
  | .frozen .., _, h, _ => by simp [runPure] at h
  | .getObj .., _, h, _ => by simp [runPure] at h
  | .setObj .., _, h, _ => by simp [runPure] at h
  | .choose .., _, h, _ => by simp [runPure] at h
  | .sys .., _, h, _ => by simp [runPure] at h
  | .halt .., _, h, _ => by simp [runPure] at h

def sizeV (P : Program) (t : TypeId) : Option Nat := runPure P (Go.sizeOf t)
def aggV (P : Program) (t : TypeId) : Option Bool := runPure P (isAgg t)
/-- A part of an aggregate. -/
def partV (P : Program) (t : TypeId) (l : List V) (off : Nat) : Option V :=
  match aggV P t with
  | some true => match sizeV P t with
    | some n => some (.a ((l.drop off).take n))
    | none => none
  | some false => l[off]?
  | none => none
theorem part_ok {P : Program} {μ : Mu} {t : TypeId} {l : List V} {vs : List Value} {off : Nat} {x : V} (h : partV P t l off = some x) (hd : Dens μ l vs) : ∃ v, (∀ w, (part t vs.toArray off).run P w = .ok v w) ∧ Den μ x v := by
  unfold partV at h
  split at h
  · rename_i ha
    split at h
    · rename_i n hn
      injection h with h
      subst h
      refine ⟨.agg ((vs.drop off).take n).toArray, fun w => ?_, _, rfl, (hd.drop off).take n⟩
      have h1 := runPure_run ha w
      have h2 := runPure_run hn w
      simp only [part, Sem.run_bind, h1, Result.andThen_ok, if_true, h2]
      have : vs.toArray.extract off (off + n) = ((vs.drop off).take n).toArray := by
        apply Array.ext'
        simp
      rw [this]
      rfl
    · cases h
  · rename_i ha
    obtain ⟨u, h1, h2⟩ := hd.get h
    refine ⟨u, fun w => ?_, h2⟩
    have h3 := runPure_run ha w
    simp only [part, Sem.run_bind, h3, Result.andThen_ok]
    have : vs.toArray[off]? = some u := by simpa using h1
    simp [this]
  · cases h

/-- Cells, written one after the other. -/
def putV (cl : List V) (off : Nat) : List V → List V
  | [] => cl
  | v :: vs => putV (cl.set off v) (off + 1) vs
theorem Dens.put {μ : Mu} : ∀ {xs : List V} {us : List Value} {l : List V} {vs : List Value} (off : Nat), Dens μ l vs → Dens μ xs us → Dens μ (putV l off xs) (putCells vs off us)
  | [], _, _, _, off, h, h' => by have h' : _ = [] := h'; subst h'; exact h
  | x :: xs, _, l, vs, off, h, ⟨u, us, h1, h2, h3⟩ => by subst h1; exact Dens.put (off + 1) (h.set off h2) h3
/-- Parts, laid one after the other. -/
noncomputable def fillV (σ : Fr) (place : Nat → Option (Nat × Nat)) : List V → List (Nat × Operand) → Option (List V)
  | cs, [] => some cs
  | cs, (i, x) :: rest =>
    match place i with
    | none => none
    | some (off, size) => bif Nat.beq (evV σ x).cells.length size && Nat.ble (off + (evV σ x).cells.length) cs.length then fillV σ place (putV cs off (evV σ x).cells) rest else none
theorem foldl_put (off : Nat) : ∀ (l : List Value) (k : Nat) (cs : Array Value), (l.zipIdx k).foldl (fun cs (x : Value × Nat) => cs.setIfInBounds (off + x.2) x.1) cs = (putCells cs.toList (off + k) l).toArray
  | [], k, cs => by simp [putCells]
  | v :: l, k, cs => by
    rw [List.zipIdx_cons, List.foldl_cons, foldl_put off l (k + 1)]
    simp [putCells, Nat.add_assoc]
theorem fill_ok {μ : Mu} {σ : Fr} {ρ : Env} (hE : ERel μ σ ρ) {place : Nat → Option (Nat × Nat)} : ∀ {parts : List (Nat × Operand)} {cs cs' : List V} {vs : List Value}, fillV σ place cs parts = some cs' → Dens μ cs vs →
    ∃ vs', Instr.fill place vs.toArray (parts.map fun (i, x) => (i, ev ρ x)) = some vs'.toArray ∧ Dens μ cs' vs'
  | [], cs, cs', vs, h, hd => by
    simp only [fillV, Option.some.injEq] at h
    subst h
    exact ⟨vs, rfl, hd⟩
  | (i, x) :: rest, cs, cs', vs, h, hd => by
    simp only [fillV] at h
    simp only [List.map_cons, Instr.fill]
    cases hp : place i with
    | none => rw [hp] at h; cases h
    | some os =>
      obtain ⟨off, size⟩ := os
      rw [hp] at h
      simp only at h
      cases hb : (Nat.beq (evV σ x).cells.length size && Nat.ble (off + (evV σ x).cells.length) cs.length) with
      | false => rw [hb] at h; cases h
      | true =>
        rw [hb] at h
        simp only [cond_true] at h
        simp only [Bool.and_eq_true, Nat.beq_eq, Nat.ble_eq] at hb
        have hc := (hE.ev x).cells
        have hl := hc.length
        rw [Array.length_toList] at hl
        have hl2 := hd.length
        obtain ⟨vs', h1, h2⟩ := fill_ok hE h (hd.put off hc)
        refine ⟨vs', ?_, h2⟩
        have hif : ¬ (((ev ρ x).cells.size ≠ size || decide (off + (ev ρ x).cells.size > vs.toArray.size)) = true) := by
          simp only [List.size_toArray, Bool.or_eq_true, decide_eq_true_eq, not_or]
          omega
        simp only
        rw [if_neg hif]
        have hf : (ev ρ x).cells.zipIdx.foldl (fun cs (c, j) => cs.setIfInBounds (off + j) c) vs.toArray = (putCells vs off (ev ρ x).cells.toList).toArray := by
          have := foldl_put off (ev ρ x).cells.toList 0 vs.toArray
          rw [← Array.foldl_toList, Array.toList_zipIdx]
          simpa using this
        rw [hf]
        exact h1

noncomputable def eBuild (P : Program) (σ : Fr) (t : TypeId) (parts : Array (Nat × Operand)) : Option V :=
  match runPure P (zeroValue t), P.underlying t with
  | some z, some (.struct fields) =>
    match runPure P (fields.mapM fun f => do pure (f.offset, ← Go.sizeOf f.type)) with
    | some places => match fillV σ (places[·]?) (z.cells.toList.map .v) parts.toList with
      | some cs => some (.a cs)
      | none => none
    | none => none
  | some z, some (.array _ elem) =>
    match sizeV P elem with
    | some size => match fillV σ (fun i => some (i * size, size)) (z.cells.toList.map .v) parts.toList with
      | some cs => some (.a cs)
      | none => none
    | none => none
  | _, _ => none
theorem build_ok {P : Program} {μ : Mu} {σ : Fr} {ρ : Env} (hE : ERel μ σ ρ) {t : TypeId} {parts : Array (Nat × Operand)} {x : V} (h : eBuild P σ t parts = some x) :
    ∃ v, (∀ w, (Instr.build t (parts.map fun (i, x) => (i, ev ρ x))).run P w = .ok v w) ∧ Den μ x v := by
  unfold eBuild at h
  split at h
  · rename_i z fields hz hu
    split at h
    · rename_i places hp
      split at h
      · rename_i cs hf
        injection h with h
        subst h
        obtain ⟨vs', h1, h2⟩ := fill_ok hE hf (Dens.map_v μ _)
        refine ⟨.agg vs'.toArray, fun w => ?_, vs', rfl, h2⟩
        have e1 := runPure_run hz w
        have e2 := runPure_run hp w
        simp only [Instr.build, Sem.run_bind, e1, Result.andThen_ok, run_underlying hu, e2, Array.toList_map]
        simp only [Array.toArray_toList] at h1
        rw [h1]
        rfl
      · cases h
    · cases h
  · rename_i z len elem hz hu
    split at h
    · rename_i size hp
      split at h
      · rename_i cs hf
        injection h with h
        subst h
        obtain ⟨vs', h1, h2⟩ := fill_ok hE hf (Dens.map_v μ _)
        refine ⟨.agg vs'.toArray, fun w => ?_, vs', rfl, h2⟩
        have e1 := runPure_run hz w
        have e2 := runPure_run hp w
        simp only [Instr.build, Sem.run_bind, e1, Result.andThen_ok, run_underlying hu, e2, Array.toList_map]
        simp only [Array.toArray_toList] at h1
        rw [h1]
        rfl
      · cases h
    · cases h
  · cases h

def eField (P : Program) (x : V) (T : TypeId) (f : Nat) : Option V :=
  match x, P.underlying T with
  | .a l, some (.struct fields) => match fields[f]? with
    | some fl => partV P fl.type l fl.offset
    | none => none
  | _, _ => none
theorem field_ok {P : Program} {μ : Mu} {x y : V} {v : Value} {T : TypeId} {f : Nat} (h : eField P x T f = some y) (hd : Den μ x v) : ∃ u, (∀ w, (Instr.field T v f).run P w = .ok u w) ∧ Den μ y u := by
  unfold eField at h
  split at h
  · rename_i l fields hu
    split at h
    · rename_i fl hf
      obtain ⟨vs, rfl, h2⟩ := hd
      obtain ⟨u, h3, h4⟩ := part_ok h h2
      refine ⟨u, fun w => ?_, h4⟩
      simp only [Instr.field, Sem.run_bind, run_underlying hu, Result.andThen_ok, hf, asAgg, Sem.run_pure, h3]
    · cases h
  · cases h

def eFieldAddr (P : Program) (x : V) (T : TypeId) (f : Nat) : Option V :=
  match x, P.underlying T with
  | .p i off, some (.struct fields) => match fields[f]? with
    | some fl => match sizeV P fl.type with
      | some (n + 1) => some (.p i (off + fl.offset))
      | _ => none
    | none => none
  | _, _ => none
theorem fieldAddr_ok {P : Program} {μ : Mu} {x y : V} {v : Value} {T : TypeId} {f : Nat} (h : eFieldAddr P x T f = some y) (hd : Den μ x v) : ∃ u, (∀ w, (Instr.fieldAt T v f).run P w = .ok u w) ∧ Den μ y u := by
  unfold eFieldAddr at h
  split at h
  · rename_i i off fields hu
    split at h
    · rename_i fl hf
      split at h
      · rename_i n hn
        injection h with h
        subst h
        obtain ⟨b, m, h1, rfl⟩ := hd
        refine ⟨.pointer (some ⟨b, off + fl.offset, none⟩), fun w => ?_, b, m, h1, rfl⟩
        have e1 := runPure_run hn w
        simp [Instr.fieldAt, Sem.run_bind, run_underlying hu, Result.andThen_ok, hf, Instr.sureAddr, fieldPlace, e1, add_lit]
      · cases h
    · cases h
  · cases h

def eIndexAddr (P : Program) (T : TypeId) (x y : V) : Option V :=
  match P.underlying T, x, y with
  | some (.slice E), .s i off n k, .v (.int .i64 (.ofNat m)) => match sizeV P E with
    | some k' => bif Nat.beq k' k && Nat.blt m n then some (.p i (off + m * k)) else none
    | none => none
  | some (.array len E), .p i off, .v (.int .i64 (.ofNat m)) => match sizeV P E with
    | some k => bif Nat.blt m len then some (.p i (off + m * k)) else none
    | none => none
  | _, _, _ => none
theorem indexAddr_ok {P : Program} {μ : Mu} {x y z : V} {v u : Value} {T : TypeId} (h : eIndexAddr P T x y = some z) (hx : Den μ x v) (hy : Den μ y u) : ∃ r, (∀ w, (Instr.indexAt T v u).run P w = .ok r w) ∧ Den μ z r := by
  unfold eIndexAddr at h
  split at h
  · rename_i E i off n k m hu
    split at h
    · rename_i k' hk
      cases hb : (Nat.beq k' k && Nat.blt m n) with
      | false => rw [hb] at h; cases h
      | true =>
        rw [hb] at h
        simp only [cond_true, Option.some.injEq] at h
        subst h
        simp only [Bool.and_eq_true, Nat.beq_eq, Nat.blt_eq] at hb
        obtain ⟨rfl, hm⟩ := hb
        obtain ⟨b, c, h1, rfl, h2⟩ := hx
        have hy : u = _ := hy
        subst hy
        refine ⟨.pointer (some ⟨b, off + m * k', none⟩), fun w => ?_, b, c, h1, rfl⟩
        have e1 := runPure_run hk w
        have h3 : ¬ n ≤ m := by omega
        simp [Instr.indexAt, asIntOf, run_underlying hu, e1, add_lit, hm]
    · cases h
  · rename_i len E i off m hu
    split at h
    · rename_i k hk
      cases hb : Nat.blt m len with
      | false => rw [hb] at h; cases h
      | true =>
        rw [hb] at h
        simp only [cond_true, Option.some.injEq] at h
        subst h
        simp only [Nat.blt_eq] at hb
        obtain ⟨b, c, h1, rfl⟩ := hx
        have hy : u = _ := hy
        subst hy
        refine ⟨.pointer (some ⟨b, off + m * k, none⟩), fun w => ?_, b, c, h1, rfl⟩
        have e1 := runPure_run hk w
        have h3 : ¬ len ≤ m := by omega
        simp [Instr.indexAt, asIntOf, run_underlying hu, e1, add_lit, hb, Instr.sureAddr]
    · cases h
  · cases h

def eIndex (P : Program) (T : TypeId) (x y : V) : Option V :=
  match P.underlying T, x, y with
  | some (.array len E), .a l, .v (.int .i64 (.ofNat m)) => match sizeV P E with
    | some k => bif Nat.blt m len then partV P E l (m * k) else none
    | none => none
  | _, _, _ => none
theorem index_ok {P : Program} {μ : Mu} {x y z : V} {v u : Value} {T : TypeId} (h : eIndex P T x y = some z) (hx : Den μ x v) (hy : Den μ y u) : ∃ r, (∀ w, (Instr.index T v u).run P w = .ok r w) ∧ Den μ z r := by
  unfold eIndex at h
  split at h
  · rename_i len E l m hu
    split at h
    · rename_i k hk
      cases hb : Nat.blt m len with
      | false => rw [hb] at h; cases h
      | true =>
        rw [hb] at h
        simp only [cond_true] at h
        simp only [Nat.blt_eq] at hb
        obtain ⟨vs, rfl, h2⟩ := hx
        have hy : u = _ := hy
        subst hy
        obtain ⟨r, h3, h4⟩ := part_ok h h2
        refine ⟨r, fun w => ?_, h4⟩
        have e1 := runPure_run hk w
        have h3' : ¬ len ≤ m := by omega
        simp [Instr.index, asIntOf, run_underlying hu, e1, hb, h3]
    · cases h
  · cases h

/-- A bound of a slice expression. -/
noncomputable def bound (σ : Fr) (d : Nat) : Option Operand → Option Nat
  | none => some d
  | some x => match evV σ x with
    | .v (.int .i64 (.ofNat m)) => some m
    | _ => none
theorem bound_ok {μ : Mu} {σ : Fr} {ρ : Env} (hE : ERel μ σ ρ) {d m : Nat} : ∀ {o : Option Operand}, bound σ d o = some m → o.map (ev ρ) = some (.int .i64 (m : Int)) ∨ o = none ∧ m = d
  | none, h => by simp only [bound, Option.some.injEq] at h; exact .inr ⟨rfl, h.symm⟩
  | some x, h => by
    simp only [bound] at h
    split at h
    · rename_i k hk
      injection h with h
      subst h
      have := hE.ev x
      rw [hk] at this
      have this : ev ρ x = _ := this
      exact .inl (by simp [this])
    · cases h
noncomputable def eSlice (P : Program) (σ : Fr) (T : TypeId) (x : Operand) (lo hi mx : Option Operand) : Option V :=
  match P.underlying T, evV σ x, mx with
  | some (.slice E), .s i off n k, none => match sizeV P E, bound σ 0 lo, bound σ n hi with
    | some k', some l, some h => bif Nat.beq k' k && Nat.ble l h && Nat.ble h n then
        (bif Nat.beq l 0 || Nat.blt l n then some (.s i (off + l * k) (h - l) k) else some (.z false)) else none
    | _, _, _ => none
  | some (.slice E), .s _ _ _ _, some mx => match sizeV P E, bound σ 1 lo, bound σ 1 hi, bound σ 1 (some mx) with
    | some _, some 0, some 0, some 0 => some (.z true)
    | _, _, _, _ => none
  | some (.slice E), .z c0, none => match sizeV P E, bound σ 0 lo, bound σ 0 hi with
    | some _, some 0, some 0 => some (.z c0)
    | _, _, _ => none
  | some (.slice E), .z c0, some mx => match sizeV P E, bound σ 1 lo, bound σ 1 hi, bound σ 1 (some mx) with
    | some _, some 0, some 0, some 0 => some (.z true)
    | _, _, _, _ => none
  | _, _, _ => none
theorem run_slice {P : Program} {ρ : Env} {T E : TypeId} {lo hi : Option Operand} {A : Option Addr} {n c l h k : Nat} (hT : P.underlying T = some (.slice E)) (hS : ∀ w, (Go.sizeOf E).run P w = .ok k w)
    (hlo : lo.map (ev ρ) = some (.int .i64 (l : Int)) ∨ lo = none ∧ l = 0) (hhi : hi.map (ev ρ) = some (.int .i64 (h : Int)) ∨ hi = none ∧ h = n) (hle : l ≤ h) (hc : h ≤ c) (w : World) :
    (Instr.sliceAt T (.slice A n c) (lo.map (ev ρ)) (hi.map (ev ρ)) none).run P w = .ok (.slice (sub A c l k) (h - l) (c - l)) w := by
  have h1 : (0 : Int) ≤ (h : Int) ∧ (h : Int) ≤ (c : Int) := by omega
  have h2 : (0 : Int) ≤ (l : Int) ∧ (l : Int) ≤ (h : Int) := by omega
  have hs : (Instr.sliceBounds true n c (lo.map (ev ρ)) (hi.map (ev ρ)) none).run P w = .ok (l, h, c) w := by
    rcases hlo with hlo | ⟨rfl, rfl⟩ <;> rcases hhi with hhi | ⟨rfl, rfl⟩ <;> simp [Instr.sliceBounds, *, Instr.sliceBound, asIntOf]
  simp [Instr.sliceAt, run_underlying hT, Instr.slice, hs, hS, K.sub]
theorem run_slice3 {P : Program} {ρ : Env} {T E : TypeId} {lo hi : Option Operand} {mx : Operand} {A : Option Addr} {n c k : Nat} (hT : P.underlying T = some (.slice E)) (hS : ∀ w, (Go.sizeOf E).run P w = .ok k w)
    (hlo : lo.map (ev ρ) = some (.int .i64 0)) (hhi : hi.map (ev ρ) = some (.int .i64 0)) (hmx : ev ρ mx = .int .i64 0) (w : World) :
    (Instr.sliceAt T (.slice A n c) (lo.map (ev ρ)) (hi.map (ev ρ)) ((some mx).map (ev ρ))).run P w = .ok (.slice A 0 0) w := by
  simp [Instr.sliceAt, run_underlying hT, Instr.slice, Instr.sliceBounds, Instr.sliceBound, asIntOf, hlo, hhi, hmx, hS]
theorem bound1 {μ : Mu} {σ : Fr} {ρ : Env} (hE : ERel μ σ ρ) {o : Option Operand} (h : bound σ 1 o = some 0) : o.map (ev ρ) = some (.int .i64 0) := by
  rcases bound_ok hE h with h | ⟨_, h⟩
  · exact h
  · cases h
theorem slice_ok {P : Program} {μ : Mu} {σ : Fr} {ρ : Env} (hE : ERel μ σ ρ) {T : TypeId} {x : Operand} {lo hi mx : Option Operand} {z : V} (h : eSlice P σ T x lo hi mx = some z) :
    ∃ r, (∀ w, (Instr.sliceAt T (ev ρ x) (lo.map (ev ρ)) (hi.map (ev ρ)) (mx.map (ev ρ))).run P w = .ok r w) ∧ Den μ z r := by
  have hx := hE.ev x
  unfold eSlice at h
  split at h
  · rename_i E i off n k hu hxe
    rw [hxe] at hx
    obtain ⟨b, m, e1, e2, e3, e4, e5, e6⟩ := hx
    split at h
    · rename_i k' l h' hk hlo hhi
      cases hb : (Nat.beq k' k && Nat.ble l h' && Nat.ble h' n) with
      | false => rw [hb] at h; cases h
      | true =>
        rw [hb] at h
        simp only [cond_true] at h
        simp only [Bool.and_eq_true, Nat.beq_eq, Nat.ble_eq] at hb
        obtain ⟨⟨rfl, hl⟩, hh⟩ := hb
        have hcap : n ≤ (m - off) / k' := by
          rw [Nat.le_div_iff_mul_le e4]; omega
        have hrun := fun w => run_slice (P := P) (ρ := ρ) (A := some ⟨b, off, none⟩) (n := n) hu (runPure_run hk) (bound_ok hE hlo) (bound_ok hE hhi) hl (Nat.le_trans hh hcap) w
        rw [e2]
        cases hq : (Nat.beq l 0 || Nat.blt l n) with
        | true =>
          rw [hq] at h
          simp only [cond_true, Option.some.injEq] at h
          subst h
          refine ⟨_, hrun, b, m, e1, ?_, ?_, e4, ?_, Nat.le_trans (Nat.div_le_div_right (by omega)) e6⟩
          · have hs : sub (some (Addr.mk b off none)) ((m - off) / k') l k' = some ⟨b, off + l * k', none⟩ := by
              simp only [Bool.or_eq_true, Nat.beq_eq, Nat.blt_eq] at hq
              rcases hq with rfl | hq
              · rw [sub_zero]; simp
              · unfold K.sub; rw [if_neg (by omega)]; simp [add_lit]
            rw [hs]
            congr 1
            rw [show m - (off + l * k') = (m - off) - k' * l by rw [Nat.mul_comm]; omega, Nat.sub_mul_div]
          · have h7 : (h' - l) * k' + l * k' = h' * k' := by rw [← Nat.add_mul]; congr 1; omega
            have h8 : h' * k' ≤ n * k' := Nat.mul_le_mul_right _ hh
            omega
          · have h9 : l * k' ≤ m - off := by
              have : l * k' ≤ n * k' := Nat.mul_le_mul_right _ (Nat.le_trans hl hh)
              omega
            rw [show m - (off + l * k') = (m - off) - k' * l by rw [Nat.mul_comm]; omega]
            exact Nat.sub_mul_mod (by rw [Nat.mul_comm]; exact h9) |>.trans e5
        | false =>
          rw [hq] at h
          simp only [cond_false, Option.some.injEq] at h
          subst h
          refine ⟨_, hrun, ?_⟩
          simp only [Bool.or_eq_false_iff] at hq
          have hl0 : ¬ l < n := by
            intro hlt
            have : Nat.blt l n = true := by rw [Nat.blt_eq]; exact hlt
            rw [this] at hq
            cases hq.2
          have hhl : h' - l = 0 := by omega
          rw [hhl]
          unfold K.sub
          split
          · exact ⟨b, off, _, rfl, fun h => by cases h⟩
          · exact ⟨b, off + l * k', (m - off) / k' - l, by simp [add_lit], fun h => by cases h⟩
    · cases h
  · rename_i E i off n k mx hu hxe
    rw [hxe] at hx
    obtain ⟨b, m, e1, e2, e3⟩ := hx
    split at h
    · rename_i k' hk hlo hhi hmx
      injection h with h
      subst h
      rw [e2]
      have := bound1 hE hmx
      exact ⟨_, run_slice3 hu (runPure_run hk) (bound1 hE hlo) (bound1 hE hhi) (by simpa using this), b, off, 0, rfl, fun _ => rfl⟩
    · cases h
  · rename_i E c0 hu hxe
    rw [hxe] at hx
    obtain ⟨b, off, c, e1, e2⟩ := hx
    split at h
    · rename_i k' hk hlo hhi
      injection h with h
      subst h
      rw [e1]
      refine ⟨_, run_slice (A := some ⟨b, off, none⟩) (n := 0) (c := c) hu (runPure_run hk) (bound_ok hE hlo) (bound_ok hE hhi) (Nat.le_refl _) (Nat.zero_le _), b, off, c, ?_, e2⟩
      rw [sub_zero]; rfl
    · cases h
  · rename_i E c0 mx hu hxe
    rw [hxe] at hx
    obtain ⟨b, off, c, e1, e2⟩ := hx
    split at h
    · rename_i k' hk hlo hhi hmx
      injection h with h
      subst h
      rw [e1]
      have := bound1 hE hmx
      exact ⟨_, run_slice3 hu (runPure_run hk) (bound1 hE hlo) (bound1 hE hhi) (by simpa using this), b, off, 0, rfl, fun _ => rfl⟩
    · cases h
  · cases h
end Go.K
end
section
/-
  A run by reckoning, third part: operations that look at the frame alone; loads, stores, new blocks. No condition.
-/
namespace Go.K
open Go.RowKit
set_option linter.unusedVariables false
set_option linter.unusedSimpArgs false

noncomputable def allPlain (σ : Fr) (l : List Operand) : Bool := l.all fun x => (evV σ x).plain.isSome
noncomputable def plainEv (σ : Fr) (x : Operand) : Value := ((evV σ x).plain).getD undef
def noSel : Op → Bool
  | .select .. => false
  | _ => true
noncomputable def evalPlain (P : Program) (σ : Fr) (o : Oper) : Option V :=
  bif allPlain σ o.op.operands.toList && noSel o.op then
    match runPure P (execOp (plainEv σ) o) with
    | some (.value u) => some (ofV u)
    | _ => none
  else none
theorem evalPlain_ok {P : Program} {μ : Mu} {σ : Fr} {ρ : Env} (hE : ERel μ σ ρ) {o : Oper} {x : V} (h : evalPlain P σ o = some x) : ∃ u, (∀ w, (execOp (ev ρ) o).run P w = .ok (.value u) w) ∧ Den μ x u := by
  unfold evalPlain at h
  cases hb : (allPlain σ o.op.operands.toList && noSel o.op) with
  | false => rw [hb] at h; cases h
  | true =>
    rw [hb] at h
    simp only [cond_true] at h
    simp only [Bool.and_eq_true] at hb
    split at h
    · rename_i u hr
      injection h with h
      subst h
      refine ⟨u, fun w => ?_, den_ofV μ u⟩
      have hc : execOp (ev ρ) o = execOp (plainEv σ) o := execOp_congr o (fun cs b he => by rw [he] at hb; exact absurd hb.2 (by simp [noSel])) fun y hy => by
        have h1 := (List.all_eq_true.1 hb.1) y (by simpa using hy)
        unfold plainEv
        cases hp : (evV σ y).plain with
        | none => rw [hp] at h1; cases h1
        | some v => exact (hE.ev y).plain hp
      rw [hc]
      exact runPure_run hr w
    · cases h

/-- Is it a slice that is not nil? -/
def isRef : V → Bool
  | .s .. | .z _ => true
  | _ => false
def isNilSlice : V → Bool
  | .v (.slice none _ _) => true
  | _ => false
def eEql (P : Program) (T : TypeId) (op : BinOp) (x y : V) : Option V :=
  match P.underlying T, op with
  | some (.slice _), .eql => bif isRef x && isNilSlice y then some (.v (.bool false)) else none
  | some (.slice _), .neq => bif isRef x && isNilSlice y then some (.v (.bool true)) else none
  | _, _ => none
theorem isRef_spec {μ : Mu} {x : V} {u : Value} (h : isRef x = true) (hd : Den μ x u) : ∃ a n c, u = .slice (some a) n c := by
  cases x with
  | s => obtain ⟨b, m, _, h1, _⟩ := hd; exact ⟨_, _, _, h1⟩
  | z => obtain ⟨b, off, c, h1, _⟩ := hd; exact ⟨_, _, _, h1⟩
  | _ => cases h
theorem isNil_spec {μ : Mu} {x : V} {u : Value} (h : isNilSlice x = true) (hd : Den μ x u) : ∃ n c, u = .slice none n c := by
  unfold isNilSlice at h
  split at h
  · exact ⟨_, _, hd⟩
  · cases h
theorem eql_ok {P : Program} {μ : Mu} {σ : Fr} {ρ : Env} (hE : ERel μ σ ρ) {T Ty : TypeId} {op : BinOp} {x y : Operand} {d : Option Nat} {ty : TypeId} {pos : String} {af : Array Edge} {gd : Option (Nat × Bool)} {z : V} (h : eEql P T op (evV σ x) (evV σ y) = some z) :
    ∃ u, (∀ w, (execOp (ev ρ) ⟨d, .binOp op T x y Ty, ty, pos, af, gd⟩).run P w = .ok (.value u) w) ∧ Den μ z u := by
  have hx := hE.ev x
  have hy := hE.ev y
  unfold eEql at h
  split at h
  · rename_i E hu
    cases hb : (isRef (evV σ x) && isNilSlice (evV σ y)) with
    | false => rw [hb] at h; cases h
    | true =>
      rw [hb] at h
      simp only [cond_true, Option.some.injEq] at h
      subst h
      simp only [Bool.and_eq_true] at hb
      obtain ⟨a, n, c, e1⟩ := isRef_spec hb.1 hx
      obtain ⟨m, c', e2⟩ := isNil_spec hb.2 hy
      refine ⟨.bool false, fun w => ?_, rfl⟩
      have : execOp (ev ρ) ⟨d, .binOp .eql T x y Ty, ty, pos, af, gd⟩ = (do pure (.value (← (do eqGuard .eql T x y (ev ρ x) (ev ρ y); binOp .eql T (ev ρ x) (ev ρ y))))) := rfl
      rw [this, e1, e2]
      have := Lib.run_eql_slice_nil w T E (some a) n c m c' hu
      show ((binOp .eql T (.slice (some a) n c) (.slice none m c') >>= fun v => pure (Next.value v)).run P w) = _
      rw [Sem.run_bind, this]; rfl
  · rename_i E hu
    cases hb : (isRef (evV σ x) && isNilSlice (evV σ y)) with
    | false => rw [hb] at h; cases h
    | true =>
      rw [hb] at h
      simp only [cond_true, Option.some.injEq] at h
      subst h
      simp only [Bool.and_eq_true] at hb
      obtain ⟨a, n, c, e1⟩ := isRef_spec hb.1 hx
      obtain ⟨m, c', e2⟩ := isNil_spec hb.2 hy
      refine ⟨.bool true, fun w => ?_, rfl⟩
      have : execOp (ev ρ) ⟨d, .binOp .neq T x y Ty, ty, pos, af, gd⟩ = (do pure (.value (← (do eqGuard .neq T x y (ev ρ x) (ev ρ y); binOp .neq T (ev ρ x) (ev ρ y))))) := rfl
      rw [this, e1, e2]
      have h1 := Lib.run_eql_slice_nil w T E (some a) n c m c' hu
      have h2 : (Op.equal T (.slice (some a) n c) (.slice none m c')).run P w = .ok false w := by
        have e : binOp .eql T (.slice (some a) n c) (.slice none m c') = (do pure (.bool (← Op.equal T (.slice (some a) n c) (.slice none m c')))) := rfl
        rw [e, Sem.run_bind] at h1
        generalize hq : (Op.equal T (.slice (some a) n c) (.slice none m c')).run P w = q at *
        cases q with
        | ok b w' => simp only [Result.andThen_ok, Sem.run_pure, Result.ok.injEq, Value.bool.injEq] at h1; obtain ⟨h1, rfl⟩ := h1; simp at h1; rw [h1]
        | halt _ _ => cases h1
      show ((binOp .neq T (.slice (some a) n c) (.slice none m c') >>= fun v => pure (Next.value v)).run P w) = _
      have e : binOp .neq T (.slice (some a) n c) (.slice none m c') = (do pure (.bool (!(← Op.equal T (.slice (some a) n c) (.slice none m c'))))) := rfl
      rw [e]
      simp only [Sem.run_bind, h2, Result.andThen_ok, Sem.run_pure]
      rfl
  · cases h

theorem arr_of {α : Type} {a : Array α} {l : List α} (h : a.toList = l) : a = l.toArray := by rw [← h]
noncomputable def eLen (P : Program) (σ : Fr) (c : Call) : Option V :=
  match c.callee, c.args.toList, c.argTypes.toList with
  | .builtin .len, [x], [T] => match P.underlying T, evV σ x with
    | some (.slice _), .s _ _ n _ => some (.v (.int .i64 (.ofNat n)))
    | some (.slice _), .z _ => some (.v (.int .i64 0))
    | _, _ => none
  | _, _, _ => none
theorem len_ok {P : Program} {μ : Mu} {σ : Fr} {ρ : Env} (hE : ERel μ σ ρ) {c : Call} {x : V} {d : Option Nat} {ty : TypeId} {pos : String} {af : Array Edge} {gd : Option (Nat × Bool)} (h : eLen P σ c = some x) :
    ∃ u, (∀ w, (execOp (ev ρ) ⟨d, .call c, ty, pos, af, gd⟩).run P w = .ok (.value u) w) ∧ Den μ x u := by
  obtain ⟨ce, as, ts⟩ := c
  unfold eLen at h
  split at h
  · rename_i y T h1 h2 h3
    simp only at h1 h2 h3
    subst h1
    obtain rfl := arr_of h2
    obtain rfl := arr_of h3
    have hy := hE.ev y
    split at h
    · rename_i E i off n k hu hye
      injection h with h
      subst h
      rw [hye] at hy
      obtain ⟨b, m, _, e1, _⟩ := hy
      refine ⟨.int .i64 n, fun w => ?_, rfl⟩
      simp [execOp, resolve, invoke, builtin, e1, Builtin.len_, run_underlying hu, goInt]
    · rename_i E c0 hu hye
      injection h with h
      subst h
      rw [hye] at hy
      obtain ⟨b, m, c, e1, _⟩ := hy
      refine ⟨.int .i64 0, fun w => ?_, rfl⟩
      simp [execOp, resolve, invoke, builtin, e1, Builtin.len_, run_underlying hu, goInt]
    · cases h
  · cases h
/-- Numbers of one kind. -/
def intOp : BinOp → IntKind → Int → Int → Option Value
  | .add => fun k a b => some (.int k (k.wrap (a + b)))
  | .sub => fun k a b => some (.int k (k.wrap (a - b)))
  | .mul => fun k a b => some (.int k (k.wrap (a * b)))
  | .lss => fun k a b => some (.bool (decide (a < b)))
  | .leq => fun k a b => some (.bool (decide (a ≤ b)))
  | .gtr => fun k a b => some (.bool (decide (b < a)))
  | .geq => fun k a b => some (.bool (decide (b ≤ a)))
  | .eql => fun k a b => some (.bool (a == b))
  | .neq => fun k a b => some (.bool (a != b))
  | _ => fun k a b => none
theorem intOp_ok {P : Program} {op : BinOp} {k : IntKind} {a b : Int} {v : Value} (h : intOp op k a b = some v) {ρ : Env} {T Ty : TypeId} {x y : Operand} {d : Option Nat} {ty : TypeId} {pos : String} {af : Array Edge} {gd : Option (Nat × Bool)} (hx : ev ρ x = .int k a) (hy : ev ρ y = .int k b) (w : World) :
    (execOp (ev ρ) ⟨d, .binOp op T x y Ty, ty, pos, af, gd⟩).run P w = .ok (.value v) w := by
  have e : execOp (ev ρ) ⟨d, .binOp op T x y Ty, ty, pos, af, gd⟩ = (do pure (.value (← (do eqGuard op T x y (ev ρ x) (ev ρ y); binOp op T (ev ρ x) (ev ρ y))))) := rfl
  rw [e, hx, hy]
  cases op <;> simp only [intOp, Option.some.injEq] at h <;> first
    | (subst h; simp [eqGuard, binOp, Op.intArith, Op.intCmp]; done)
    | cases h
def eOp2 (op : BinOp) : V → V → Option V
  | .v (.int k a), .v (.int l b) => bif decide (k = l) then match intOp op k a b with
    | some v => some (.v v)
    | none => none else none
  | _, _ => none
def eNot (op : UnOp) : V → Option V
  | .v (.bool b) => match op with
    | .not => some (.v (.bool (!b)))
    | _ => none
  | _ => none
/-- What looks at the frame alone. -/
noncomputable def evalPure (P : Program) (σ : Fr) (o : Oper) : Option V :=
  match o.op with
  | .move x | .assign x => some (evV σ x)
  | .pick c a b => match evV σ c with
    | .v (.bool true) => some (evV σ a)
    | .v (.bool false) => some (evV σ b)
    | _ => none
  | .build t parts => eBuild P σ t parts
  | .field T x f => eField P (evV σ x) T f
  | .extract x i => match evV σ x with
    | .t l => l[i]?
    | _ => none
  | .fieldAddr s x f => eFieldAddr P (evV σ x) s f
  | .indexAddr T x y => eIndexAddr P T (evV σ x) (evV σ y)
  | .index T x y => match eIndex P T (evV σ x) (evV σ y) with
    | some z => some z
    | none => evalPlain P σ o
  | .slice T x lo hi mx => match eSlice P σ T x lo hi mx with
    | some z => some z
    | none => evalPlain P σ o
  | .makeFunc fn first cap => some (.f fn (evVs σ first.toList) (evVs σ cap.toList))
  | .nilCheck x => match evV σ x with
    | .p i off => some (.p i off)
    | .f (.func g) l c => some (.f (.func g) l c)
    | _ => evalPlain P σ o
  | .binOp op T x y Ty => match eOp2 op (evV σ x) (evV σ y) with
    | some z => some z
    | none => match eEql P T op (evV σ x) (evV σ y) with
      | some z => some z
      | none => evalPlain P σ o
  | .unOp op T x => match eNot op (evV σ x) with
    | some z => some z
    | none => evalPlain P σ o
  | .call c => match eLen P σ c with
    | some z => some z
    | none => evalPlain P σ o
  | _ => evalPlain P σ o
theorem evalPure_ok {P : Program} {μ : Mu} {σ : Fr} {ρ : Env} (hE : ERel μ σ ρ) {o : Oper} {x : V} (h : evalPure P σ o = some x) : ∃ u, (∀ w, (execOp (ev ρ) o).run P w = .ok (.value u) w) ∧ Den μ x u := by
  have lift : ∀ {s : Sem Value} {u : Value} (w : World), s.run P w = .ok u w → (do pure (.value (← s)) : Sem Next).run P w = .ok (.value u) w := fun w hs => by
    rw [Sem.run_bind, hs]; rfl
  obtain ⟨d, op, ty, pos, af, gd⟩ := o
  unfold evalPure at h
  split at h
  · rename_i y hop
    simp only at hop; subst hop
    injection h with h
    subst h
    exact ⟨_, fun w => rfl, hE.ev y⟩
  · rename_i y hop
    simp only at hop; subst hop
    injection h with h
    subst h
    exact ⟨_, fun w => rfl, hE.ev y⟩
  · rename_i c a b hop
    simp only at hop; subst hop
    have hc := hE.ev c
    split at h
    · rename_i hce
      injection h with h
      subst h
      rw [hce] at hc
      have hc : ev ρ c = .bool true := hc
      refine ⟨ev ρ a, fun w => ?_, hE.ev a⟩
      simp [execOp, hc, asBool]
    · rename_i hce
      injection h with h
      subst h
      rw [hce] at hc
      have hc : ev ρ c = .bool false := hc
      refine ⟨ev ρ b, fun w => ?_, hE.ev b⟩
      simp [execOp, hc, asBool]
    · cases h
  · rename_i t parts hop
    simp only at hop; subst hop
    obtain ⟨u, h1, h2⟩ := build_ok hE h
    exact ⟨u, fun w => lift w (h1 w), h2⟩
  · rename_i T y f hop
    simp only at hop; subst hop
    obtain ⟨u, h1, h2⟩ := field_ok h (hE.ev y)
    exact ⟨u, fun w => lift w (h1 w), h2⟩
  · rename_i y i hop
    simp only at hop; subst hop
    have hy := hE.ev y
    split at h
    · rename_i l hl
      rw [hl] at hy
      obtain ⟨vs, e1, e2⟩ := hy
      obtain ⟨u, h1, h2⟩ := e2.get h
      refine ⟨u, fun w => lift w ?_, h2⟩
      have : vs.toArray[i]? = some u := by simpa using h1
      simp only [e1, Instr.extract, this]
      rfl
    · cases h
  · rename_i s y f hop
    simp only at hop; subst hop
    obtain ⟨u, h1, h2⟩ := fieldAddr_ok h (hE.ev y)
    exact ⟨u, fun w => lift w (h1 w), h2⟩
  · rename_i T y z hop
    simp only at hop; subst hop
    obtain ⟨u, h1, h2⟩ := indexAddr_ok h (hE.ev y) (hE.ev z)
    exact ⟨u, fun w => lift w (h1 w), h2⟩
  · rename_i T y z hop
    simp only at hop; subst hop
    split at h
    · rename_i r hr
      injection h with h
      subst h
      obtain ⟨u, h1, h2⟩ := index_ok hr (hE.ev y) (hE.ev z)
      exact ⟨u, fun w => lift w (h1 w), h2⟩
    · exact evalPlain_ok hE h
  · rename_i T y lo hi mx hop
    simp only at hop; subst hop
    split at h
    · rename_i r hr
      injection h with h
      subst h
      obtain ⟨u, h1, h2⟩ := slice_ok hE hr
      exact ⟨u, fun w => lift w (h1 w), h2⟩
    · exact evalPlain_ok hE h
  · rename_i fn first cap hop
    simp only at hop; subst hop
    injection h with h
    subst h
    refine ⟨.func fn (first.map (ev ρ)) (cap.map (ev ρ)), fun w => rfl, first.toList.map (ev ρ), cap.toList.map (ev ρ), ?_, hE.evs _, hE.evs _⟩
    have hm : ∀ a : Array Operand, a.map (ev ρ) = (a.toList.map (ev ρ)).toArray := fun a => by apply Array.ext'; simp
    rw [← hm, ← hm]
  · rename_i y hop
    simp only at hop; subst hop
    have hy := hE.ev y
    split at h
    · rename_i i off hye
      injection h with h
      subst h
      rw [hye] at hy
      have hy' := hy
      obtain ⟨b, n, _, e1⟩ := hy
      refine ⟨ev ρ y, fun w => ?_, hy'⟩
      simp [execOp, e1]
    · rename_i g l c hye
      injection h with h
      subst h
      rw [hye] at hy
      have hy' := hy
      obtain ⟨vs, us, e1, _⟩ := hy
      refine ⟨ev ρ y, fun w => ?_, hy'⟩
      simp [execOp, e1]
    · exact evalPlain_ok hE h
  · rename_i op T y z Ty hop
    simp only at hop; subst hop
    split at h
    · rename_i r hr
      injection h with h
      subst h
      have hy := hE.ev y
      have hz := hE.ev z
      unfold eOp2 at hr
      split at hr
      · rename_i k a l b hye hze
        rw [hye] at hy
        rw [hze] at hz
        cases hb : decide (k = l) with
        | false => rw [hb] at hr; cases hr
        | true =>
          rw [hb] at hr
          simp only [cond_true] at hr
          have hkl := of_decide_eq_true hb
          subst hkl
          split at hr
          · rename_i v hv
            injection hr with hr
            subst hr
            exact ⟨v, intOp_ok hv hy hz, rfl⟩
          · cases hr
      · cases hr
    · split at h
      · rename_i r hr
        injection h with h
        subst h
        exact eql_ok hE hr
      · exact evalPlain_ok hE h
  · rename_i op T y hop
    simp only at hop; subst hop
    split at h
    · rename_i r hr
      injection h with h
      subst h
      have hy := hE.ev y
      unfold eNot at hr
      split at hr
      · rename_i b hye
        rw [hye] at hy
        have hy : ev ρ y = .bool b := hy
        split at hr
        · injection hr with hr
          subst hr
          refine ⟨.bool (!b), fun w => ?_, rfl⟩
          have e : execOp (ev ρ) ⟨d, .unOp .not T y, ty, pos, af, gd⟩ = (do pure (.value (← Op.unary .not (ev ρ y)))) := rfl
          rw [e, hy]
          rfl
        · cases hr
      · cases hr
    · exact evalPlain_ok hE h
  · rename_i c hop
    simp only at hop; subst hop
    split at h
    · rename_i r hr
      injection h with h
      subst h
      exact len_ok hE hr
    · exact evalPlain_ok hE h
  · exact evalPlain_ok hE h
/-- The same, the operation first. -/
noncomputable def evalPureK (o : Oper) : Program → Fr → Option V :=
  match o.op with
  | .move x => fun P σ => some (evV σ x)
  | .assign x => fun P σ => some (evV σ x)
  | .build t parts => fun P σ => eBuild P σ t parts
  | .field T x f => fun P σ => eField P (evV σ x) T f
  | .fieldAddr s x f => fun P σ => eFieldAddr P (evV σ x) s f
  | .indexAddr T x y => fun P σ => eIndexAddr P T (evV σ x) (evV σ y)
  | .makeFunc fn first cap => fun P σ => some (.f fn (evVs σ first.toList) (evVs σ cap.toList))
  | _ => fun P σ => evalPure P σ o
theorem evalPureK_eq (o : Oper) (P : Program) (σ : Fr) : evalPureK o P σ = evalPure P σ o := by
  obtain ⟨d, op, ty, pos, af, gd⟩ := o
  cases op <;> simp only [evalPureK, evalPure]
end Go.K
end
section
/-
  A run by reckoning, fourth part: operations on memory. No condition.
-/
namespace Go.K
open Go.RowKit
set_option linter.unusedVariables false
set_option linter.unusedSimpArgs false

/-- What a step comes to: a value, more names, and memory. -/
def Goal (G : Ctx) (μ : Mu) (w0 : World) (lo lo' : Nat) (x : V) (H' : Hp) : Value → World → Prop := fun v w' => ∃ μ', Ext μ μ' lo lo' ∧ Den μ' x v ∧ Mem G μ' w0 w' H'

/-- The cells of a row. -/
def rowOf : O → Option (List V × TypeId)
  | .cells l T _ => some (l, T)
  | .ro l T => some (l, T)
  | _ => none
theorem LRel.ro {G : Ctx} {μ : Mu} : ∀ {H : Hp} {L : List (Option Nat × Obj)} {i : Nat} {l : List V} {T : TypeId}, LRel G μ H L → hget H i = some (.ro l T) → ERo G μ i l T
  | [], _, _, _, _, _, hg => by simp [hget_nil] at hg
  | (j, q) :: H, _, i, l, T, ⟨g, ob, L', h1, h2, h3⟩, hg => by
    cases hb : Nat.beq i j with
    | true =>
      have hij := Nat.eq_of_beq_eq_true hb
      subst hij
      simp only [hget_cons, hb, cond_true, Option.some.injEq] at hg
      subst hg
      rcases h3 with ⟨b, n, _, _, h5⟩ | ⟨l', T', e1, _, e3⟩
      · exact h5.elim
      · injection e1 with e1 e2
        subst e1; subst e2
        exact e3
    | false =>
      simp only [hget_cons, hb, cond_false] at hg
      exact h2.ro hg
section mem
variable {P : Program} {G : Ctx} {μ : Mu} {w0 w : World} {H : Hp} {σ : Fr} {ρ : Env}
theorem Mem.cells (hM : Mem G μ w0 w H) {i : Nat} {o : O} {l : List V} {T : TypeId} (hg : hget H i = some o) (ho : rowOf o = some (l, T)) :
    ∃ b n vs us, μ i = some (b, n) ∧ Dens μ l vs ∧ n = vs.length + us.length ∧ w.heap[b]? = some (blk (vs ++ us) T) ∧ (∀ j u, vs[j]? = some u → w.cell? ⟨b, j, none⟩ = some u) ∧ b < w.heap.size := by
  obtain ⟨L, h1, h2⟩ := hM
  have fin : ∀ {b : Nat} {vs us : List Value}, w.heap[b]? = some (blk (vs ++ us) T) → (∀ j u, vs[j]? = some u → w.cell? ⟨b, j, none⟩ = some u) ∧ b < w.heap.size := fun {b vs us} hb => by
    refine ⟨fun j u hj => ?_, ?_⟩
    · simp only [World.cell?, hb]
      simp only [Option.isSome_none, Bool.false_eq_true, if_false]
      rw [List.getElem?_toArray, List.getElem?_append_left (lt_of_get hj)]; exact hj
    · rcases Nat.lt_or_ge b w.heap.size with h | h
      · exact h
      · rw [Array.getElem?_eq_none h] at hb; cases hb
  cases o with
  | cells l' T' ex =>
    simp only [rowOf, Option.some.injEq, Prod.mk.injEq] at ho
    obtain ⟨rfl, rfl⟩ := ho
    obtain ⟨k, b, n, ob, e1, e2, ⟨vs, us, e3, e4, e5, e6⟩, _⟩ := h1.get hg rfl
    subst e3
    have hb := (h2.has k b _ e1).1
    exact ⟨b, n, vs, us, e2, e4, e5, hb, (fin hb).1, (fin hb).2⟩
  | ro l' T' =>
    simp only [rowOf, Option.some.injEq, Prod.mk.injEq] at ho
    obtain ⟨rfl, rfl⟩ := ho
    obtain ⟨b, n, vs, us, e1, e2, e3, e4⟩ := h1.ro hg
    have hlt : b < G.W.heap.size := by
      rcases Nat.lt_or_ge b G.W.heap.size with h | h
      · exact h
      · rw [Array.getElem?_eq_none h] at e2; cases e2
    have hb := (h2.but.block b hlt (by simp)).trans e2
    exact ⟨b, n, vs, us, e1, e3, e4, hb, (fin hb).1, (fin hb).2⟩
  | _ => cases ho
theorem Mem.store (hM : Mem G μ w0 w H) {i off : Nat} {l xs : List V} {T : TypeId} {ex : Bool} {us : List Value} {b n : Nat} (hg : hget H i = some (.cells l T ex)) (hμ : μ i = some (b, n)) (hd : Dens μ xs us) (h1 : xs.all V.one = true) (hl : off + xs.length ≤ l.length) :
    ∃ w', (storeCells ⟨b, off, none⟩ us).run P w = .ok () w' ∧ Mem G μ w0 w' (hset H i (.cells (putV l off xs) T ex)) := by
  obtain ⟨L, hL, hI⟩ := hM
  obtain ⟨k, b', n', ob, e1, e2, ⟨vs, vt, e3, e4, e5, e6⟩, e7, _⟩ := hL.get hg rfl
  subst e3
  rw [hμ] at e2
  injection e2 with e2
  injection e2 with e2 e2'
  subst e2; subst e2'
  have hlv := e4.length
  have hlu := hd.length
  obtain ⟨w', hrun, f1, f2, f3, f4, f5, f6⟩ := run_storeCells (P := P) us off 0 w (vs ++ vt) (hI.has k b _ e1).1 (by rw [List.length_append]; omega) (hd.one h1)
  refine ⟨w', hrun, _, e7 μ _ _ (fun _ _ h => h) hμ ⟨putCells vs off us, vt, rfl, e4.put off hd, by rw [put_len]; exact e5, e6⟩, ?_⟩
  refine hI.turn e1 f1 f2 f3 (by omega) (fun j hj hne => f5 j fun e => hne (by rw [e])) (fun b' hb' => ?_)
  injection hb' with hb'
  subst hb'
  rw [f6, Nat.add_zero, put_left us vs vt off (by omega)]
theorem Mem.new (hM : Mem G μ w0 w H) {lo hi : Nat} (hf : Free μ lo hi) (h : lo < hi) {o : O} {ob : Obj} (n : Nat) (hr : ORel G (μ.put lo (w.heap.size, n)) lo n o ob) : Mem G (μ.put lo (w.heap.size, n)) w0 (w.alloc ob) ((lo, o) :: H) := by
  obtain ⟨L, hL, hI⟩ := hM
  exact ⟨_, hL.cons hf h hr, hI.alloc ob⟩
theorem Mem.drew (hM : Mem G μ w0 w H) : Mem G μ w0 w.drew H := by
  obtain ⟨L, hL, hI⟩ := hM
  exact ⟨L, hL, hI.drew⟩
end mem

/-- A load. -/
noncomputable def eLoad (P : Program) (H : Hp) (t : TypeId) (x : V) : Option V :=
  match x with
  | .p i off => match hget H i with
    | some o => match rowOf o with
      | some (l, _) => match aggV P t with
        | some false => l[off]?
        | some true => match sizeV P t with
          | some n => bif Nat.beq ((l.drop off).take n).length n then some (.a ((l.drop off).take n)) else none
          | none => none
        | none => none
      | none => none
    | none => none
  | _ => none
noncomputable def eStore (P : Program) (H : Hp) (t : TypeId) (x y : V) : Option Hp :=
  match x with
  | .p i off => match hget H i with
    | some (.cells l T ex) => match sizeV P t with
      | some n => bif Nat.beq y.cells.length n && Nat.ble (off + n) l.length && y.cells.all V.one then some (hset H i (.cells (putV l off y.cells) T ex)) else none
      | none => none
    | _ => none
  | _ => none

section ops
variable {P : Program} {G : Ctx} {μ : Mu} {w0 w : World} {H : Hp} {σ : Fr} {ρ : Env} {lo hi : Nat} {d : Option Nat} {ty : TypeId} {pos : String} {af : Array Edge} {gd : Option (Nat × Bool)}

theorem load_run (hM : Mem G μ w0 w H) {t : TypeId} {x y : V} {u : Value} (hx : Den μ x u) (h : eLoad P H t x = some y) : ∃ a v, u = .pointer (some a) ∧ (loadVar t a).run P w = .ok v w ∧ Den μ y v := by
  unfold eLoad at h
  split at h
  · rename_i i off
    obtain ⟨b, n, e1, e2⟩ := hx
    split at h
    · rename_i o hg
      split at h
      · rename_i l T ho
        obtain ⟨b', n', vs, us, f1, f2, f3, f5, f6, f7⟩ := hM.cells hg ho
        rw [e1] at f1
        injection f1 with f1
        injection f1 with f1 f1'
        subst f1; subst f1'
        split at h
        · rename_i ha
          obtain ⟨u, h1, h2⟩ := f2.get h
          exact ⟨_, u, e2, run_load_cell (f6 _ _ h1) (runPure_run ha), h2⟩
        · rename_i ha
          split at h
          · rename_i k hk
            cases hb : Nat.beq ((l.drop off).take k).length k with
            | false => rw [hb] at h; cases h
            | true =>
              rw [hb] at h
              simp only [cond_true, Option.some.injEq] at h
              subst h
              rw [Nat.beq_eq, List.length_take, List.length_drop] at hb
              have hl := f2.length
              refine ⟨_, _, e2, run_load_agg (vs := (vs.drop off).take k) (runPure_run ha) (runPure_run hk) (by rw [List.length_take, List.length_drop]; omega) fun j v hj => ?_, ⟨_, rfl, (f2.drop off).take k⟩⟩
              rw [add_lit]
              refine f6 _ _ ?_
              rw [List.getElem?_take] at hj
              split at hj
              · rwa [List.getElem?_drop] at hj
              · cases hj
          · cases h
        · cases h
      · cases h
    · cases h
  · cases h
theorem load_ok (hE : ERel μ σ ρ) (hM : Mem G μ w0 w H) {t : TypeId} {x : Operand} {y : V} (h : eLoad P H t (evV σ x) = some y) : Step P ⟨d, .load t x, ty, pos, af, gd⟩ ρ w (Goal G μ w0 lo lo y H) := by
  obtain ⟨a, v, h1, h2, h3⟩ := load_run hM (hE.ev x) h
  exact s_load h1 h2 ⟨μ, Ext.refl _ _, h3, hM⟩

theorem store_ok (hE : ERel μ σ ρ) (hM : Mem G μ w0 w H) {t : TypeId} {x y : Operand} {H' : Hp} (h : eStore P H t (evV σ x) (evV σ y) = some H') : Step P ⟨d, .store t x y, ty, pos, af, gd⟩ ρ w (Goal G μ w0 lo lo (.v undef) H') := by
  have hx := hE.ev x
  have hy := (hE.ev y).cells
  unfold eStore at h
  split at h
  · rename_i i off hxe
    rw [hxe] at hx
    obtain ⟨b, n, e1, e2⟩ := hx
    split at h
    · rename_i l T ex hg
      split at h
      · rename_i k hk
        cases hb : (Nat.beq (evV σ y).cells.length k && Nat.ble (off + k) l.length && (evV σ y).cells.all V.one) with
        | false => rw [hb] at h; cases h
        | true =>
          rw [hb] at h
          simp only [cond_true, Option.some.injEq] at h
          subst h
          simp only [Bool.and_eq_true, Nat.beq_eq, Nat.ble_eq] at hb
          obtain ⟨⟨h1, h2⟩, h3⟩ := hb
          obtain ⟨w', hrun, hM'⟩ := hM.store (P := P) (off := off) hg e1 hy h3 (by omega)
          have hs : (ev ρ y).cells.size = k := by rw [← h1, ← hy.length, Array.length_toList]
          have hsv : (storeVar t ⟨b, off, none⟩ (ev ρ y)).run P w = .ok () w' := by
            unfold storeVar
            rw [Sem.run_bind, runPure_run hk]
            simp only [Result.andThen_ok, hs, ne_eq, not_true_eq_false, if_false]
            exact hrun
          have hx' : (execOp (ev ρ) ⟨d, .store t x y, ty, pos, af, gd⟩).run P w = .ok .skip w' := by
            have : execOp (ev ρ) ⟨d, .store t x y, ty, pos, af, gd⟩ = (do Instr.storeAt t (ev ρ x) (ev ρ y); pure .skip) := rfl
            rw [this, e2]
            show ((storeVar t ⟨b, off, none⟩ (ev ρ y) >>= fun _ => pure Next.skip).run P w) = _
            rw [Sem.run_bind, hsv]
            rfl
          unfold Step
          rw [hx']
          exact ⟨μ, Ext.refl _ _, rfl, hM'⟩
      · cases h
    · cases h
  · cases h

/-- A new block that holds a value. -/
theorem box_ok (hE : ERel μ σ ρ) (hM : Mem G μ w0 w H) (hf : Free μ lo hi) (h : lo < hi) {T : TypeId} {x : Operand} : Step P ⟨d, .box T x, ty, pos, af, gd⟩ ρ w (Goal G μ w0 lo (lo + 1) (.p lo 0) ((lo, .cells (evV σ x).cells T true) :: H)) := by
  have hx := (hE.ev x).cells
  refine s_box ?_
  have hr : (Obj.cells (ev ρ x).cells T) = blk ((ev ρ x).cells.toList ++ []) T := by simp
  exact ⟨_, Ext.one hf h _, ⟨_, _, Mu.put_same _ _ _, rfl⟩, hM.new hf h (ev ρ x).cells.toList.length ⟨_, [], hr, hx.mono (Mu.put_le (hf lo (Nat.le_refl _) h) _), by simp, fun _ => rfl⟩⟩
theorem alloc_ok (hM : Mem G μ w0 w H) (hf : Free μ lo hi) (h : lo < hi) {T : TypeId} {z : Value} (hz : runPure P (zeroValue T) = some z) : Step P ⟨d, .alloc T, ty, pos, af, gd⟩ ρ w (Goal G μ w0 lo (lo + 1) (.p lo 0) ((lo, .cells (z.cells.toList.map .v) T true) :: H)) := by
  have hrun : (execOp (ev ρ) ⟨d, .alloc T, ty, pos, af, gd⟩).run P w = .ok (.value (.pointer (some ⟨w.heap.size, 0, none⟩))) (w.alloc (.cells z.cells T)) := by
    simp [execOp, Instr.alloc, go_sem, runPure_run hz]
  unfold Step
  rw [hrun]
  have hr : (Obj.cells z.cells T) = blk (z.cells.toList ++ []) T := by simp
  exact ⟨_, Ext.one hf h _, ⟨_, _, Mu.put_same _ _ _, rfl⟩, hM.new hf h z.cells.toList.length ⟨_, [], hr, Dens.map_v _ _, by simp, fun _ => rfl⟩⟩

/-- A slice that is written down. -/
noncomputable def eBuildSlice (P : Program) (σ : Fr) (t : TypeId) (len : Nat) (parts : Array (Nat × Operand)) : Option (TypeId × List V × Nat) :=
  match P.underlying t with
  | some (.slice E) => match sizeV P E, runPure P (zeroValue E) with
    | some k, some z => bif Nat.blt 0 k && Nat.blt 0 len && Nat.ble (len * k) 16777216 then
        match fillV σ (fun i => some (i * k, k)) (((Array.range (len * k)).map (z.cells[· % z.cells.size]!)).toList.map .v) parts.toList with
        | some cs => bif Nat.beq cs.length (len * k) then some (E, cs, k) else none
        | none => none else none
    | _, _ => none
  | _ => none
theorem buildSlice_ok (hE : ERel μ σ ρ) (hM : Mem G μ w0 w H) (hf : Free μ lo hi) (h : lo < hi) {t : TypeId} {len : Nat} {parts : Array (Nat × Operand)} {E : TypeId} {cs : List V} {k : Nat} (hb : eBuildSlice P σ t len parts = some (E, cs, k)) :
    Step P ⟨d, .buildSlice t len parts, ty, pos, af, gd⟩ ρ w (Goal G μ w0 lo (lo + 1) (.s lo 0 len k) ((lo, .cells cs E true) :: H)) := by
  unfold eBuildSlice at hb
  split at hb
  · rename_i E' hu
    split at hb
    · rename_i k' z hk hz
      cases hc : (Nat.blt 0 k' && Nat.blt 0 len && Nat.ble (len * k') 16777216) with
      | false => rw [hc] at hb; cases hb
      | true =>
        rw [hc] at hb
        simp only [cond_true] at hb
        simp only [Bool.and_eq_true, Nat.blt_eq, Nat.ble_eq] at hc
        split at hb
        · rename_i cs' hfill
          cases hq : Nat.beq cs'.length (len * k') with
          | false => rw [hq] at hb; cases hb
          | true =>
            rw [hq] at hb
            simp only [cond_true, Option.some.injEq, Prod.mk.injEq] at hb
            obtain ⟨rfl, rfl, rfl⟩ := hb
            rw [Nat.beq_eq] at hq
            obtain ⟨vs', h1, h2⟩ := fill_ok hE hfill (Dens.map_v μ _)
            have hl := h2.length
            simp only [Array.toArray_toList] at h1
            have hrun : (execOp (ev ρ) ⟨d, .buildSlice t len parts, ty, pos, af, gd⟩).run P w = .ok (.value (.slice (some ⟨w.heap.size, 0, none⟩) len len)) (w.alloc (.cells vs'.toArray E')) := by
              have : execOp (ev ρ) ⟨d, .buildSlice t len parts, ty, pos, af, gd⟩ = (do pure (.value (← Instr.buildSlice t len (parts.map fun (i, x) => (i, ev ρ x))))) := rfl
              rw [this]
              have e1 := fun w => runPure_run hk w
              have e2 := fun w => runPure_run hz w
              have h0 : ¬ len * k' = 0 := by have := Nat.mul_pos hc.1.2 hc.1.1; omega
              have h0' : ¬ (len = 0 ∨ k' = 0) := by have := hc.1.1; have := hc.1.2; omega
              simp [Instr.buildSlice, run_underlying hu, e1, e2, h0, h0', newRow, show ¬ (2 ^ 24 < len * k') by omega, h1]
            unfold Step
            rw [hrun]
            have hr : (Obj.cells vs'.toArray E') = blk (vs' ++ []) E' := by simp
            refine ⟨_, Ext.one hf h _, ⟨_, _, Mu.put_same _ _ _, ?_, ?_, hc.1.1, ?_, ?_⟩, hM.new hf h vs'.length ⟨_, [], hr, h2.mono (Mu.put_le (hf lo (Nat.le_refl _) h) _), by simp, fun _ => rfl⟩⟩
            · rw [hl, hq, Nat.sub_zero, Nat.mul_div_cancel _ hc.1.1]
            · rw [hl, hq]; omega
            · rw [hl, hq, Nat.sub_zero, Nat.mul_mod_left]
            · rw [hl, hq, Nat.sub_zero, Nat.mul_div_cancel _ hc.1.1]; unfold maxLen
              have := Nat.le_mul_of_pos_right len hc.1.1; omega
        · cases hb
    · cases hb
  · cases hb

/-- []T{}. -/
noncomputable def eEmpty (P : Program) (t : TypeId) (parts : Array (Nat × Operand)) : Bool :=
  match P.underlying t, parts.toList with
  | some (.slice E), [] => (sizeV P E).isSome
  | _, _ => false
theorem empty_ok (hM : Mem G μ w0 w H) {t : TypeId} {parts : Array (Nat × Operand)} (h : eEmpty P t parts = true) : Step P ⟨d, .buildSlice t 0 parts, ty, pos, af, gd⟩ ρ w (Goal G μ w0 lo lo (.z true) H) := by
  unfold eEmpty at h
  split at h
  · rename_i E hu hp
    cases hk : sizeV P E with
    | none => rw [hk] at h; cases h
    | some k =>
      have e1 := fun w => runPure_run hk w
      have hpp : parts = #[] := by
        have := congrArg List.toArray hp
        simpa using this
      subst hpp
      have hrun : (execOp (ev ρ) ⟨d, .buildSlice t 0 #[], ty, pos, af, gd⟩).run P w = .ok (.value (.slice (some ⟨w.heap.size, 0, none⟩) 0 0)) (w.alloc (.cells #[] E)) := by
        simp [execOp, Instr.buildSlice, run_underlying hu, e1, newRow, Instr.fill, Array.range_zero']
      unfold Step
      rw [hrun]
      obtain ⟨L, hL, hI⟩ := hM
      exact ⟨μ, Ext.refl _ _, ⟨w.heap.size, 0, 0, rfl, fun _ => rfl⟩, L, hL, hI.call ((Below.refl _ w).alloc (Nat.le_refl _) _)⟩
  · cases h
/-- make([]T, n). -/
def eMakeSlice (P : Program) (t : TypeId) (x y : V) : Option (TypeId × List V × Nat × Nat) :=
  match P.underlying t, x, y with
  | some (.slice E), .v (.int .i64 (.ofNat n)), .v (.int .i64 (.ofNat c)) => match P.info? E with
    | some i => match i.zero with
      | some z => bif Nat.blt 0 i.size && Nat.ble n c && Nat.ble c 1000000 && Nat.ble i.bytes 1000 && Nat.ble i.size 1000 then some (E, (madeCells z.cells (c * i.size)).toList.map .v, n, i.size) else none
      | none => none
    | none => none
  | _, _, _ => none
theorem makeSlice_ok (hE : ERel μ σ ρ) (hM : Mem G μ w0 w H) (hf : Free μ lo hi) (h : lo < hi) {t : TypeId} {x y : Operand} {E : TypeId} {cs : List V} {n k : Nat} (hb : eMakeSlice P t (evV σ x) (evV σ y) = some (E, cs, n, k)) :
    Step P ⟨d, .makeSlice t x y, ty, pos, af, gd⟩ ρ w (Goal G μ w0 lo (lo + 1) (.s lo 0 n k) ((lo, .cells cs E true) :: H)) := by
  have hx := hE.ev x
  have hy := hE.ev y
  unfold eMakeSlice at hb
  split at hb
  · rename_i E' n' c hu hxe hye
    rw [hxe] at hx
    rw [hye] at hy
    have hx : ev ρ x = _ := hx
    have hy : ev ρ y = _ := hy
    split at hb
    · rename_i i hi
      split at hb
      · rename_i z hz
        cases hc : (Nat.blt 0 i.size && Nat.ble n' c && Nat.ble c 1000000 && Nat.ble i.bytes 1000 && Nat.ble i.size 1000) with
        | false => rw [hc] at hb; cases hb
        | true =>
          rw [hc] at hb
          simp only [cond_true, Option.some.injEq, Prod.mk.injEq] at hb
          obtain ⟨rfl, rfl, rfl, rfl⟩ := hb
          simp only [Bool.and_eq_true, Nat.blt_eq, Nat.ble_eq] at hc
          obtain ⟨⟨⟨⟨c1, c2⟩, c3⟩, c4⟩, c5⟩ := hc
          have hbb : i.bytes * c ≤ 1000 * 1000000 := Nat.mul_le_mul c4 c3
          have hcc : c * i.size ≤ 1000000 * 1000 := Nat.mul_le_mul c3 c5
          have hr := run_make (P := P) w t E' i z hu hi hz .i64 .i64 (n' : Int) (c : Int) (by omega) (by omega) (by
            have : ((i.bytes * c : Nat) : Int) ≤ 281474976710656 := by omega
            rwa [Int.natCast_mul] at this) (by omega)
          rw [Int.toNat_natCast, Int.toNat_natCast] at hr
          have hlen : (madeCells z.cells (c * i.size)).toList.length = c * i.size := by simp [madeCells]
          have hrun : (execOp (ev ρ) ⟨d, .makeSlice t x y, ty, pos, af, gd⟩).run P w = .ok (.value (.slice (some ⟨w.heap.size, 0, none⟩) n' c)) (w.alloc (.cells (madeCells z.cells (c * i.size)) E')) := by
            have e : execOp (ev ρ) ⟨d, .makeSlice t x y, ty, pos, af, gd⟩ = (do pure (.value (← Instr.makeSlice t (ev ρ x) (ev ρ y)))) := rfl
            rw [e, hx, hy, Sem.run_bind]
            show (Result.andThen ((Instr.makeSlice t (.int .i64 (n' : Int)) (.int .i64 (c : Int))).run P w) _) = _
            rw [hr]
            rfl
          unfold Step
          rw [hrun]
          have hr : (Obj.cells (madeCells z.cells (c * i.size)) E') = blk ((madeCells z.cells (c * i.size)).toList ++ []) E' := by simp
          refine ⟨_, Ext.one hf h _, ⟨_, _, Mu.put_same _ _ _, ?_, ?_, c1, ?_, ?_⟩, hM.new hf h (c * i.size) ⟨_, [], hr, Dens.map_v _ _, by simp [madeCells], fun _ => rfl⟩⟩
          · rw [Nat.sub_zero, Nat.mul_div_cancel _ c1]
          · have := Nat.mul_le_mul_right i.size c2; omega
          · rw [Nat.sub_zero, Nat.mul_mod_left]
          · rw [Nat.sub_zero, Nat.mul_div_cancel _ c1]; unfold maxLen; omega
      · cases hb
    · cases hb
  · cases hb
end ops
end Go.K
end
