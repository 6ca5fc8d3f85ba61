/-
  The ground of my own proofs, fourth part: slices that the call owns, and slices that it reads. No condition.
-/
import Derived.Test.YtinkdlmimiefaaaGreatKc
namespace Go.K
open Go.RowKit

/-- The cells that lie from an address on, if there are any. -/
def Cells (w : World) (A : Option Addr) (xs : List Value) : Prop := 0 < xs.length → ∃ b off, A = some ⟨b, off, none⟩ ∧ b < w.heap.size ∧ ∀ j u, xs[j]? = some u → w.cell? ⟨b, off + j, none⟩ = some u

/-- A slice of the call's own: it begins at the head of its block g (none: it is nil), has n elements of k cells, and room for c. -/
structure Row (k : Nat) (g : Option Nat) (n c : Nat) (cl : List Value) (xs : List Value) : Prop where
  len : xs.length = n * k
  cap : n ≤ c
  capmax : c ≤ maxLen
  size : cl.length = c * k
  head : cl.take (n * k) = xs
  nil : g = none → c = 0

abbrev slv (g : Option Nat) (n c : Nat) : Value := .slice (g.map fun b => ⟨b, 0, none⟩) n c

theorem Row.nil_ (k : Nat) : Row k none 0 0 [] [] := ⟨by simp, by simp, by simp, by simp, by simp, fun _ => rfl⟩
theorem Row.some_ {k : Nat} {g : Option Nat} {n c : Nat} {cl xs : List Value} (h : Row k g n c cl xs) (hn : 0 < n) : ∃ b, g = some b := by
  cases g with
  | none => have := h.nil rfl; have := h.cap; omega
  | some b => exact ⟨b, rfl⟩
theorem Row.get {k : Nat} {g : Option Nat} {n c : Nat} {cl xs : List Value} (h : Row k g n c cl xs) {j : Nat} {u : Value} (hj : xs[j]? = some u) : cl[j]? = some u := by
  have h1 := h.head
  subst h1
  rw [List.getElem?_take] at hj
  split at hj
  · exact hj
  · cases hj

section inv
variable {B : Option Nat} {w0 w : World} {L : List (Option Nat × Obj)}
theorem Inv.replace {x : Option Nat × Obj} (h : Inv B w0 w (x :: L)) (i : Nat) : Inv B w0 w (L.set i x) := by
  have old : ∀ (j : Nat) y, (L.set i x)[j]? = some y → (j = i ∧ y = x) ∨ (j ≠ i ∧ L[j]? = some y) := by
    intro j y hj
    rw [List.getElem?_set] at hj
    by_cases e : i = j
    · subst e
      split at hj
      · split at hj
        · injection hj with hj; exact .inl ⟨rfl, hj.symm⟩
        · cases hj
      · contradiction
    · rw [if_neg e] at hj; exact .inr ⟨fun h => e h.symm, hj⟩
  refine ⟨h.but, fun j b o hj => ?_, fun j k b c o p hj hk hjk => ?_⟩
  · rcases old j _ hj with ⟨_, rfl⟩ | ⟨_, h2⟩
    · exact h.has 0 b o rfl
    · exact h.has (j + 1) b o h2
  · rcases old j _ hj with ⟨rfl, rfl⟩ | ⟨n1, h2⟩
    · rcases old k _ hk with ⟨rfl, _⟩ | ⟨n2, h3⟩
      · exact absurd rfl hjk
      · exact h.sep 0 (k + 1) b c o p rfl h3 (by omega)
    · rcases old k _ hk with ⟨rfl, rfl⟩ | ⟨n2, h3⟩
      · exact h.sep (j + 1) 0 b c o p h2 rfl (by omega)
      · exact h.sep (j + 1) (k + 1) b c o p h2 h3 (by omega)

theorem Inv.cells (hI : Inv B w0 w L) (i : Nat) {b off : Nat} {cl : List Value} {T : TypeId} {xs : List Value} (hi : L[i]? = some (some b, blk cl T)) (hx : ∀ j u, xs[j]? = some u → cl[off + j]? = some u) : Cells w (some ⟨b, off, none⟩) xs :=
  fun _ => ⟨b, off, rfl, hI.lt hi, fun j u hj => hI.cell hi (by simpa using hx j u hj)⟩

theorem Inv.rowCells (hI : Inv B w0 w L) (i : Nat) {k : Nat} {g : Option Nat} {n c : Nat} {cl xs : List Value} {T : TypeId} (hi : L[i]? = some (g, blk cl T)) (hr : Row k g n c cl xs) : Cells w (g.map fun b => ⟨b, 0, none⟩) xs := by
  intro hx
  have hn : 0 < n := by
    rcases Nat.eq_zero_or_pos n with h0 | h0
    · subst h0; have := hr.len; simp at this; subst this; simp at hx
    · exact h0
  obtain ⟨b, rfl⟩ := hr.some_ hn
  exact hI.cells i (off := 0) hi (fun j u hj => by rw [Nat.zero_add]; exact hr.get hj) hx

theorem Cells.below {xs : List Value} {A : Option Addr} (h : Cells w0 A xs) (hb : Below w0.heap.size w0 w) : Cells w A xs := fun hx => by
  obtain ⟨b, off, hA, hlt, hc⟩ := h hx
  exact ⟨b, off, hA, Nat.lt_of_lt_of_le hlt hb.size, fun j u hj => (hb.cell (p := ⟨b, off + j, none⟩) hlt).trans (hc j u hj)⟩
theorem Cells.inv {xs : List Value} {A : Option Addr} (h : Cells w0 A xs) (hI : Inv B w0 w L) (hB : ∀ b off, A = some ⟨b, off, none⟩ → B ≠ some b) : Cells w A xs := fun hx => by
  obtain ⟨b, off, hA, hlt, hc⟩ := h hx
  refine ⟨b, off, hA, Nat.lt_of_lt_of_le hlt hI.but.size, fun j u hj => ?_⟩
  have := hI.but.block b hlt (hB b off hA)
  rw [← hc j u hj]
  simp [World.cell?, this]
theorem Cells.inv0 {xs : List Value} {A : Option Addr} (h : Cells w0 A xs) (hI : Inv none w0 w L) : Cells w A xs := h.below hI.below
end inv

section run
variable {P : Program} {w : World}
theorem run_first {xs : List Value} {A : Option Addr} {k m c : Nat} (h : Cells w A xs) (hl : xs.length = m * k) (w' : World) (hw : w'.heap = w.heap) : (Builtin.firstCells k m (.slice A m c)).run P w' = .ok xs.toArray w' := by
  rcases Nat.eq_zero_or_pos xs.length with h0 | h0
  · have : xs = [] := List.eq_nil_of_length_eq_zero h0
    subst this
    have hmk : m * k = 0 := by simpa using hl.symm
    cases A with
    | none => simp [Builtin.firstCells]
    | some a => simp [Builtin.firstCells, loadCells, hmk, loadCellsFrom]
  · obtain ⟨b, off, rfl, hb, hc⟩ := h h0
    show (loadCells ⟨b, off, none⟩ (m * k)).run P w' = _
    rw [← hl]
    have := run_loadCells (P := P) (w := w') ⟨b, off, none⟩ xs 0 #[] (fun j v hj => by
      rw [add_lit, Nat.zero_add]
      have := hc j v hj
      simpa [World.cell?, hw] using this)
    simpa [loadCells] using this

theorem zero_len (z : Array Value) (n : Nat) : (Builtin.zeroCells z n).toList.length = n * z.size := by simp [Builtin.zeroCells]
end run

theorem put_len : ∀ (news cl : List Value) (off : Nat), (putCells cl off news).length = cl.length
  | [], cl, off => rfl
  | v :: news, cl, off => by rw [putCells, put_len news]; simp
theorem put_take : ∀ (cl news : List Value) (off : Nat), off + news.length ≤ cl.length → (putCells cl off news).take (off + news.length) = cl.take off ++ news
  | cl, [], off, _ => by simp [putCells]
  | cl, v :: news, off, h => by
    simp only [List.length_cons] at h
    rw [putCells, show off + (v :: news).length = (off + 1) + news.length by simp; omega, put_take (cl.set off v) news (off + 1) (by simp; omega)]
    rw [List.take_succ_eq_append_getElem (by simp; omega)]
    simp [List.take_set_of_le]

section app
variable {P : Program} {B : Option Nat} {w0 w : World} {L : List (Option Nat × Obj)}

/-- append onto a slice of the call's own. -/
theorem run_append (hI : Inv B w0 w L) {t ty e : TypeId} {i : TypeInfo} {z : Value} {k bytes : Nat} (ht : P.underlying t = some (.slice e)) (hi : P.info? e = some i) (hz : i.zero = some z) (hk : i.size = k) (hby : i.bytes = bytes) (hzs : z.cells.size = k) (hk0 : 0 < k)
    (ix : Nat) {g : Option Nat} {n c : Nat} {cl xs : List Value} (hL : L[ix]? = some (g, blk cl e)) (hr : Row k g n c cl xs)
    {A : Option Addr} {m c2 : Nat} {news : List Value} (hl : news.length = m * k) (hc : Cells w A news) (h1 : ∀ u ∈ news, u.oneCell' = true) (hmax : n + m ≤ maxLen) (hbytes : (n + m) * bytes ≤ 140737488355328) :
    ∃ g' c' cl' w', (Builtin.append_ #[t, t] ty #[slv g n c, .slice A m c2]).run P w = .ok (slv g' (n + m) c') w' ∧ Row k g' (n + m) c' cl' (xs ++ news) ∧ Inv B w0 w' (L.set ix (g', blk cl' e)) := by
  subst hk
  subst hby
  have hlen : (xs ++ news).length = (n + m) * i.size := by rw [List.length_append, hr.len, hl, Nat.add_mul]
  have hf := fun w' hw => run_first (P := P) (c := c2) hc hl w' hw
  by_cases hroom : n + m ≤ c
  · -- there is room
    cases g with
    | none =>
      have hc0 := hr.nil rfl
      have hn0 : n = 0 := by omega
      have hm0 : m = 0 := by omega
      subst hc0; subst hn0; subst hm0
      have hx0 : xs = [] := List.eq_nil_of_length_eq_zero (by simpa using hr.len)
      have hn0 : news = [] := List.eq_nil_of_length_eq_zero (by simpa using hl)
      subst hx0; subst hn0
      refine ⟨none, 0, cl, w, ?_, by simpa using hr, ?_⟩
      · have := hf w rfl
        simp [Builtin.append_, run_underlying ht, sizeOf, typeInfo, hi, Builtin.lenOf, this]
      · have : L.set ix (none, blk cl e) = L := by
          apply List.ext_getElem?
          intro j
          rw [List.getElem?_set]
          split
          · rename_i hj; subst hj
            split
            · exact hL.symm
            · rename_i hge; rw [List.getElem?_eq_none (by omega)]
          · rfl
        rw [this]; exact hI
    | some b =>
      have hb := (hI.has ix b _ hL).1
      have hs : n * i.size + news.length ≤ cl.length := by rw [hl, hr.size, ← Nat.add_mul]; exact Nat.mul_le_mul_right _ hroom
      obtain ⟨w', hrun, e1, e2, e3, e4, e5, e6⟩ := run_storeCells (P := P) news (n * i.size) 0 w cl hb (by simpa using hs) h1
      refine ⟨some b, c, putCells cl (n * i.size) news, w', ?_, ⟨hlen, hroom, hr.capmax, ?_, ?_, fun h => by cases h⟩, hI.turn hL e1 e2 e3 (by omega) (fun k hk hg => e5 k fun he => hg (by rw [he])) (fun b' hb' => by injection hb' with hb'; subst hb'; simpa using e6)⟩
      · have := hf w rfl
        simp [Builtin.append_, run_underlying ht, sizeOf, typeInfo, hi, Builtin.lenOf, this, hroom, add_lit, hrun]
      · rw [put_len, hr.size]
      · rw [Nat.add_mul, ← hl, put_take cl news (n * i.size) hs, hr.head]
  · -- it grows
    have hn : ¬ (n + m ≤ c) := hroom
    have h63' : ¬ (9223372036854775807 < ((n : Int) + (m : Int))) := by simp only [maxLen] at hmax; omega
    have hfit := growslice_fits (need := n + m) (old := c) (bytes := i.bytes) (by omega) hbytes
    have h48' : ¬ (281474976710656 < Builtin.nextslicecap (n + m) c * i.bytes) := by omega
    have hnew := hf w.drew rfl
    have hold := run_first (P := P) (c := c) (hI.rowCells ix hL hr) hr.len w.drew rfl
    have hge := grownCap_ge w (n + m) c e
    have hcm : grownCap w (n + m) c e ≤ maxLen := grownCap_le_maxLen w (n + m) c e hmax
    refine ⟨some w.heap.size, grownCap w (n + m) c e, xs ++ news ++ (Builtin.zeroCells z.cells (grownCap w (n + m) c e - (n + m))).toList, w.drew.alloc (.cells (xs ++ news ++ (Builtin.zeroCells z.cells (grownCap w (n + m) c e - (n + m))).toList).toArray e), ?_, ⟨hlen, hge, hcm, ?_, ?_, fun h => by cases h⟩, ?_⟩
    · simp [Builtin.append_, run_underlying ht, sizeOf, typeInfo, zeroValue, hi, hz, Builtin.lenOf, hn, h63', h48', Question.forced, hnew, hold, newRow, grownCap]
      congr 2
      apply Array.ext'
      simp
    · rw [List.length_append, hlen, zero_len, hzs, ← Nat.add_mul]; congr 1; omega
    · rw [← hlen]; exact List.take_left
    · exact (hI.drew.alloc _).replace ix
end app
end Go.K
