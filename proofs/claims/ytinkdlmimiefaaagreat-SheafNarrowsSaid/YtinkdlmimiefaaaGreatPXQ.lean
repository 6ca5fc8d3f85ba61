/- Stage 1: falling (f91), known to the evaluator, though it ranges over a map. -/
import Derived.Test.YtinkdlmimiefaaaGreatPQ1
import Derived.Test.YtinkdlmimiefaaaGreatPVV3
namespace Go.K
open Go.Proofs Go.RowKit
set_option linter.unusedVariables false
set_option linter.unusedSimpArgs false
set_option maxRecDepth 100000
def insD (x : Int) : List Int → List Int
  | [] => [x]
  | y :: l => bif decide (y ≤ x) then x :: y :: l else y :: insD x l
def sortD : List Int → List Int
  | [] => []
  | x :: l => insD x (sortD l)
theorem insD_perm (x : Int) : ∀ l : List Int, (insD x l).Perm (x :: l)
  | [] => List.Perm.refl _
  | y :: l => by
    unfold insD
    cases decide (y ≤ x) with
    | true => exact List.Perm.refl _
    | false => exact ((insD_perm x l).cons y).trans (List.Perm.swap x y l)
theorem sortD_perm : ∀ l : List Int, (sortD l).Perm l
  | [] => List.Perm.refl _
  | x :: l => (insD_perm x _).trans ((sortD_perm l).cons x)
theorem insD_srt (x : Int) : ∀ {l : List Int}, l.Pairwise (fun a b => b ≤ a) → (insD x l).Pairwise (fun a b => b ≤ a)
  | [], _ => by simp [insD]
  | y :: l, h => by
    rw [List.pairwise_cons] at h
    unfold insD
    by_cases hb : y ≤ x
    · rw [decide_eq_true hb, cond_true, List.pairwise_cons, List.pairwise_cons]
      refine ⟨fun z hz => ?_, h⟩
      rcases List.mem_cons.1 hz with rfl | hz
      · exact hb
      · exact Int.le_trans (h.1 z hz) hb
    · rw [decide_eq_false hb, cond_false, List.pairwise_cons]
      refine ⟨fun z hz => ?_, insD_srt x h.2⟩
      rcases List.mem_cons.1 ((insD_perm x l).mem_iff.1 hz) with rfl | hz
      · omega
      · exact h.1 z hz
theorem sortD_srt : ∀ l : List Int, (sortD l).Pairwise (fun a b => b ≤ a)
  | [] => List.Pairwise.nil
  | x :: l => insD_srt x (sortD_srt l)
theorem sortD_eq (l : List Int) : (Q.sortI l).reverse = sortD l := by
  have tr : ∀ (a b c : Int), decide (a ≤ b) = true → decide (b ≤ c) = true → decide (a ≤ c) = true := by intro a b c; simp; omega
  have to : ∀ (a b : Int), (decide (a ≤ b) || decide (b ≤ a)) = true := by intro a b; simp; omega
  refine List.Perm.eq_of_pairwise (le := fun a b => b ≤ a) (fun a b _ _ h1 h2 => by omega) ?_ (sortD_srt l) ?_
  · rw [List.pairwise_reverse]
    exact (List.pairwise_mergeSort tr to l).imp fun h => by simpa using h
  · exact (List.reverse_perm _).trans ((List.mergeSort_perm l _).trans (sortD_perm l).symm)
def memI (x : Int) : List Int → Bool
  | [] => false
  | y :: l => decide (x = y) || memI x l
def nodupI : List Int → Bool
  | [] => true
  | x :: l => !memI x l && nodupI l
theorem memI_iff {x : Int} : ∀ {l : List Int}, memI x l = true ↔ x ∈ l
  | [] => by simp [memI]
  | y :: l => by simp [memI, memI_iff (l := l)]
theorem nodupI_nodup : ∀ {l : List Int}, nodupI l = true → l.Nodup
  | [], _ => List.nodup_nil
  | x :: l, h => by
    simp only [nodupI, Bool.and_eq_true, Bool.not_eq_true'] at h
    rw [List.nodup_cons]
    exact ⟨fun hx => by rw [memI_iff.2 hx] at h; exact absurd h.1 (by decide), nodupI_nodup h.2⟩
theorem vget_mem : ∀ {es : List (Int × V)} {j : Int}, (vget es j).isSome = true ↔ j ∈ es.map Prod.fst
  | [], j => by simp [vget]
  | (k, x) :: es, j => by
    unfold vget
    by_cases h : j = k
    · simp [h]
    · simp [h, vget_mem (es := es)]
theorem xget_mem : ∀ {es : List En} {j : Int}, (mget es j).isSome = true ↔ j ∈ es.map En.key
  | [], j => by simp [mget]
  | e :: es, j => by
    unfold mget
    by_cases h : j = e.key
    · simp [h]
    · simp [h, xget_mem (es := es)]
theorem ODen.some_iff {μ : Mu} {x : Option V} {u : Option Value} (h : ODen μ x u) : x.isSome = u.isSome := by
  cases x with
  | none => have h : u = none := h; rw [h]; rfl
  | some y => obtain ⟨v, rfl, _⟩ := h; rfl
noncomputable def fallK : Known := fun f args H lo hi => match args with
  | [.m i] => bif Nat.beq f 91 && Nat.blt lo hi then match hget H i with
    | some (.map es) => bif nodupI (es.map Prod.fst) && Nat.ble (es.map Prod.fst).length 10000 then match sortD (es.map Prod.fst) with
      | [] => none
      | k :: r => some (.s lo 0 (r.length + 1) 1, (lo, .cells ((k :: r).map fun x => .v (.int .i64 x)) 3 false) :: H, lo + 1) else none
    | _ => none else none
  | _ => none
theorem fallK_ok : KnownOk Tryz.prog fallK := fun f G args H lo hi x H' lo' h μ w0 w us ha hM hf => by
  unfold fallK at h
  split at h
  · rename_i i
    cases hb : (Nat.beq f 91 && Nat.blt lo hi) with
    | false => rw [hb] at h; cases h
    | true =>
      rw [hb, cond_true] at h
      simp only [Bool.and_eq_true, Nat.beq_eq, Nat.blt_eq] at hb
      obtain ⟨rfl, hlo⟩ := hb
      split at h
      · rename_i es hg
        cases hc : (nodupI (es.map Prod.fst) && Nat.ble (es.map Prod.fst).length 10000) with
        | false => rw [hc] at h; cases h
        | true =>
          rw [hc, cond_true] at h
          simp only [Bool.and_eq_true, Nat.ble_eq] at hc
          split at h
          · cases h
          · rename_i k r hkr
            simp only [Option.some.injEq, Prod.mk.injEq] at h
            obtain ⟨rfl, rfl, rfl⟩ := h
            obtain ⟨u, us', rfl, ⟨b, n, hu1, rfl⟩, hn⟩ := ha
            have hn : us' = [] := hn
            subst hn
            obtain ⟨L, hL, hI⟩ := hM
            obtain ⟨q, b', n', ob, l1, l2, ⟨en, clk, rfl, ho, hd⟩, _⟩ := hL.get hg rfl
            rw [hu1] at l2
            injection l2 with l2
            injection l2 with l2 l2'
            subst l2; subst l2'
            have hmap := (hI.has q b _ l1).1
            have hp : (es.map Prod.fst).Perm (en.map En.key) := (List.perm_ext_iff_of_nodup (nodupI_nodup hc.1) ho.keys).2 fun j => by
              rw [← vget_mem, ← xget_mem, (hd j).some_iff]
            have hlen : en.length = r.length + 1 := by
              have h1 := hp.length_eq
              have h2 := (sortD_perm (es.map Prod.fst)).length_eq
              rw [hkr] at h2
              simp at h1 h2; omega
            have hs : (Q.sortI (en.map En.key)).reverse = k :: r := by rw [← Q.sortI_perm hp, sortD_eq, hkr]
            refine (Q.falling_c w b clk en hmap ho (by have := hp.length_eq; simp only [List.length_map] at this hc; omega)).mono fun v w' ⟨g', c', cl', hv, hI', hr⟩ => ?_
            rw [hs] at hr
            rw [hlen] at hr hv
            obtain ⟨b2, rfl⟩ := hr.some_ (by omega)
            have hcl := hr.size
            have hcap := hr.cap
            rw [Nat.mul_one] at hcl
            refine ⟨μ.put lo (b2, c'), Ext.one hf hlo _, ⟨b2, c', Mu.put_same _ _ _, by rw [hv]; simp [slv], by omega, by decide, by simp [Nat.mod_one], by simpa using hr.capmax⟩, (some b2, blk cl' 3) :: L, hL.cons hf hlo ⟨flat eInt (k :: r), cl'.drop (r.length + 1), ?_, ?_, ?_, fun h => by cases h⟩, hI.join (N := [(some b2, blk cl' 3)]) hI'⟩
            · have := hr.head
              rw [Nat.mul_one] at this
              rw [← this, List.take_append_drop]
            · have e : flat eInt (k :: r) = (k :: r).map fun x => Value.int .i64 x := by
                have : ∀ l : List Int, flat eInt l = l.map fun x => Value.int .i64 x := fun l => by
                  induction l with
                  | nil => rfl
                  | cons a l ih => simp only [flat, List.flatMap_cons, List.map_cons] at ih ⊢; rw [ih]; rfl
                exact this _
              rw [e]
              have : ∀ (l : List Int), Dens (μ.put lo (b2, c')) (l.map fun x => V.v (.int .i64 x)) (l.map fun x => Value.int .i64 x) := fun l => by
                induction l with
                | nil => rfl
                | cons a l ih => exact ⟨_, _, rfl, rfl, ih⟩
              exact this _
            · have h1 : (flat eInt (k :: r)).length = r.length + 1 := by rw [flat_len eInt_len]; simp
              rw [h1, List.length_drop, hcl]; omega
      · cases h
  · cases h
/-- What is known twice over. -/
noncomputable def orK (a b : Known) : Known := fun f args H lo hi => match a f args H lo hi with
  | some r => some r
  | none => b f args H lo hi
theorem orK_ok {P : Program} {a b : Known} (ha : KnownOk P a) (hb : KnownOk P b) : KnownOk P (orK a b) := fun f G args H lo hi x H' lo' h => by
  unfold orK at h
  split at h
  · rename_i r hr
    injection h with h
    subst h
    exact ha f G args H lo hi _ _ _ hr
  · exact hb f G args H lo hi x H' lo' h
end Go.K
