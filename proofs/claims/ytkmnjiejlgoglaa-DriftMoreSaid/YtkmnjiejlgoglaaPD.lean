/- The program's functions as pure definitions, as tools/lift.py writes them. No condition. -/
import Derived.Test.YtkmnjiejlgoglaaPLg
namespace Go.K
open Go.RowKit
set_option linter.unusedVariables false
structure Ch where
  id : Int
  lo : Int
  hi : Int
deriving DecidableEq

def eCh (x : Ch) : List Value := [.int .i64 x.id, .int .i64 x.lo, .int .i64 x.hi]

theorem eCh_len (x : Ch) : (eCh x).length = 3 := rfl

structure Ce where
  ch : Int
  ln : Int
  wo : Int
deriving DecidableEq

def eCe (x : Ce) : List Value := [.int .i64 x.ch, .int .i64 x.ln, .int .i64 x.wo]

theorem eCe_len (x : Ce) : (eCe x).length = 3 := rfl

structure Cl where
  fam : Int
  hd : Int
  fr : Int
  to : Int
deriving DecidableEq

def eCl (x : Cl) : List Value := [.int .i64 x.fam, .int .i64 x.hd, .int .i64 x.fr, .int .i64 x.to]

theorem eCl_len (x : Cl) : (eCl x).length = 4 := rfl

theorem eCl_cell (x : Cl) : ∀ u ∈ eCl x, u.oneCell' = true := by simp [eCl, Value.oneCell']

structure Dr where
  fr : Int
  to : Int
deriving DecidableEq

def eDr (x : Dr) : List Value := [.int .i64 x.fr, .int .i64 x.to]

theorem eDr_len (x : Dr) : (eDr x).length = 2 := rfl

structure Gn where
  num : Int
  den : Int
deriving DecidableEq

def eGn (x : Gn) : List Value := [.int .i64 x.num, .int .i64 x.den]

theorem eGn_len (x : Gn) : (eGn x).length = 2 := rfl

structure Cw where
  fst : Int
  lst : Int
deriving DecidableEq

def eCw (x : Cw) : List Value := [.int .i64 x.fst, .int .i64 x.lst]

structure A2 where
  a : Int
  b : Int
deriving DecidableEq

def eA2 (x : A2) : List Value := [.int .i64 x.a, .int .i64 x.b]

theorem eA2_len (x : A2) : (eA2 x).length = 2 := rfl

structure A3 where
  a : Int
  b : Int
  c : Int
deriving DecidableEq

def eA3 (x : A3) : List Value := [.int .i64 x.a, .int .i64 x.b, .int .i64 x.c]

theorem eA3_len (x : A3) : (eA3 x).length = 3 := rfl

structure D26 where
  p : (List Cl)
  A0 : Option Addr
  c0 : Nat

def eD26 (d : D26) : List Value := [.slice d.A0 d.p.length d.c0]

theorem eD26_len (d : D26) : (eD26 d).length = 1 := rfl

def okD26 (w : World) (d : D26) : Prop := (Cells w d.A0 (flat eCl d.p) ∧ d.p.length ≤ 9223372036854775807 ∧ d.p.length ≤ d.c0)

theorem getD26 {l : List (List Cl)} {dl : List D26} (h : dl.map D26.p = l) {m : Nat} {x : (List Cl)} (hx : l[m]? = some x) : ∃ (A0 : Option Addr) (c0 : Nat), dl[m]? = some (⟨x, A0, c0⟩ : D26) := by
  subst h
  rw [List.getElem?_map, Option.map_eq_some_iff] at hx
  obtain ⟨⟨y, a0, b0⟩, hd, rfl⟩ := hx
  exact ⟨a0, b0, hd⟩
def F59 (p0 : Int) (p1 : Int) (p2 : Int) : Option Bool :=
  if p1 ≤ p0 then
    if p0 ≤ p2 then
      some true
    else
      some false
  else
    some false
def F23j1 (p0 : Cl) (cells_20 : Bool) : Option Int :=
  if cells_20 = true then
    bindO (F59 p0.fam 1 99) fun y33 =>
    if y33 = true then
      bindO (F59 p0.hd 1 20) fun y35 =>
      if y35 = true then
        some 0
      else
        some 43
    else
      some 43
  else
    some 43
def F23 (p0 : Cl) : Option Int :=
  if 0 ≤ p0.fr then
    if p0.fr ≤ p0.to then
      if p0.to < 24 then
        F23j1 p0 true
      else
        F23j1 p0 false
    else
      F23j1 p0 false
  else
    F23j1 p0 false
def F19j1 (p0 : Ch) (link_12 : Bool) : Option Int :=
  if link_12 = true then
    bindO (F59 p0.id 1 99) fun y19 =>
    if y19 = true then
      some 0
    else
      some 40
  else
    some 40
def F19 (p0 : Ch) : Option Int :=
  if 1 ≤ p0.lo then
    if p0.lo ≤ p0.hi then
      if p0.hi ≤ 1000 then
        F19j1 p0 true
      else
        F19j1 p0 false
    else
      F19j1 p0 false
  else
    F19j1 p0 false
def F21 (p0 : Ce) : Option Int :=
  bindO (F59 p0.ch 1 99) fun y45 =>
  if y45 = true then
    bindO (F59 p0.ln 1 1000) fun y47 =>
    if y47 = true then
      bindO (F59 p0.wo 0 10000) fun y49 =>
      if y49 = true then
        some 0
      else
        some 41
    else
      some 41
  else
    some 41
def F62j3 (rec2 : Int → Option (Unit ⊕ (Int → Option Int))) (v764 : Int) (x778 : Ce) (v786 : Bool) : Option (Unit ⊕ (Int → Option Int)) :=
  if v786 = true then
    bindO (F21 x778) fun y789 =>
    if y789 = 0 then
      ckO (v764 + 1) <|
      rec2 (v764 + 1)
    else
      some (.inl ())
  else
    some (.inl ())
def F62b2 (lp0_1 : List Ce) (u626 : Int → Option Int) (rec2 : Int → Option (Unit ⊕ (Int → Option Int))) (v764 : Int) : Option (Unit ⊕ (Int → Option Int)) :=
  if v764 < (lp0_1.length : Int) then
    gdO (0 ≤ v764) <|
    bindO (lp0_1[(v764).toNat]?) fun x778 =>
    if (u626 x778.ch).isSome = true then
      F62j3 rec2 v764 x778 true
    else
      F62j3 rec2 v764 x778 false
  else
    some (.inr u626)
def F62l2 (lp0_1 : List Ce) (u626 : Int → Option Int) : Nat → Int → Option (Unit ⊕ (Int → Option Int))
  | 0 => fun _ => none
  | m + 1 => F62b2 lp0_1 u626 (F62l2 lp0_1 u626 m)
def F62j1 (lp0_1 : List Ce) (N : Nat) (u626 : Int → Option Int) : Option (Unit ⊕ (Int → Option Int)) :=
  F62l2 lp0_1 u626 N 0
def F62b4 (lp0_0 : List Ch) (lp0_1 : List Ce) (N : Nat) (rec4 : (Int → Option Int) → Int → Int → Option (Unit ⊕ (Int → Option Int))) (u882 : Int → Option Int) (v887 : Int) (v888 : Int) : Option (Unit ⊕ (Int → Option Int)) :=
  if v888 < (lp0_0.length : Int) then
    gdO (0 ≤ v888) <|
    bindO (lp0_0[(v888).toNat]?) fun x910 =>
    bindO (F19 x910) fun y924 =>
    if y924 = 0 then
      if x910.id ≤ v887 then
        some (.inl ())
      else
        ckO (v888 + 1) <|
        rec4 (updM u882 x910.id v888) x910.id (v888 + 1)
    else
      some (.inl ())
  else
    F62j1 lp0_1 N u882
def F62l4 (lp0_0 : List Ch) (lp0_1 : List Ce) (N : Nat) : Nat → (Int → Option Int) → Int → Int → Option (Unit ⊕ (Int → Option Int))
  | 0 => fun _ _ _ => none
  | m + 1 => F62b4 lp0_0 lp0_1 N (F62l4 lp0_0 lp0_1 N m)
def F62 (N : Nat) (lp0_0 : List Ch) (lp0_1 : List Ce) : Option (Unit ⊕ (Int → Option Int)) :=
  bindO (F59 (lp0_0.length : Int) 1 6) fun y480 =>
  if y480 = true then
    bindO (F59 (lp0_1.length : Int) 1 24) fun y482 =>
    if y482 = true then
      F62l4 lp0_0 lp0_1 N N noM 0 0
    else
      some (.inl ())
  else
    some (.inl ())
def F64b1 (lp0_1 : List Ce) (lp1 : List Cl) (y327 : (Int → Option Int)) (rec1 : (Int → Option Bool) → Int → Option (Unit ⊕ (Unit ⊕ (Int → Option Int)))) (seen_573 : Int → Option Bool) (v578 : Int) : Option (Unit ⊕ (Unit ⊕ (Int → Option Int))) :=
  if v578 < (lp1.length : Int) then
    gdO (0 ≤ v578) <|
    bindO (lp1[(v578).toNat]?) fun x600 =>
    bindO (F23 x600) fun y614 =>
    if y614 = 0 then
      if (lp0_1.length : Int) ≤ x600.to then
        some (.inr (.inl ()))
      else
        if ((seen_573 x600.fam).getD false) = true then
          some (.inr (.inl ()))
        else
          ckO (v578 + 1) <|
          rec1 (updM seen_573 x600.fam true) (v578 + 1)
    else
      some (.inr (.inl ()))
  else
    some (.inr (.inr y327))
def F64l1 (lp0_1 : List Ce) (lp1 : List Cl) (y327 : (Int → Option Int)) : Nat → (Int → Option Bool) → Int → Option (Unit ⊕ (Unit ⊕ (Int → Option Int)))
  | 0 => fun _ _ => none
  | m + 1 => F64b1 lp0_1 lp1 y327 (F64l1 lp0_1 lp1 y327 m)
def F64 (N : Nat) (lp0_0 : List Ch) (lp0_1 : List Ce) (lp1 : List Cl) : Option (Unit ⊕ (Unit ⊕ (Int → Option Int))) :=
  bindS (F62 N lp0_0 lp0_1)
    (fun y325 =>
      some (.inl ()))
    (fun y327 =>
      bindO (F59 (lp1.length : Int) 1 12) fun y342 =>
      if y342 = true then
        F64l1 lp0_1 lp1 y327 N noM 0
      else
        some (.inr (.inl ())))
def F17 (N : Nat) (lp0_0 : List Ch) (lp0_1 : List Ce) (lp1 : List Cl) : Option Int :=
  bindS3 (F64 N lp0_0 lp0_1 lp1)
    (fun y47 =>
      some 42)
    (fun y49 =>
      some 44)
    (fun y51 =>
      some 0)
def F60b3 (lp0 : List (List Cl)) (rec3 : List Cl → Int → Option (List Cl)) (newslice_599 : List Cl) (v604 : Int) : Option (List Cl) :=
  if v604 < (lp0.length : Int) then
    gdO (0 ≤ v604) <|
    bindO (lp0[(v604).toNat]?) fun x619 =>
    gdO (newslice_599.length + x619.length ≤ 1000000000) <|
    ckO (v604 + 1) <|
    rec3 (newslice_599 ++ x619) (v604 + 1)
  else
    some newslice_599
def F60l3 (lp0 : List (List Cl)) : Nat → List Cl → Int → Option (List Cl)
  | 0 => fun _ _ => none
  | m + 1 => F60b3 lp0 (F60l3 lp0 m)
def F60j2 (lp0 : List (List Cl)) (N : Nat) : Option (List Cl) :=
  F60l3 lp0 N ([] : List Cl) 0
def F60j1 (lp0 : List (List Cl)) (N : Nat) (size_415 : Int) : Option (List Cl) :=
  if size_415 < 0 then
    none
  else
    ckO (size_415 - (0 - 0)) <|
    if 0 < (size_415 - (0 - 0)) then
      gdO ((size_415 - (0 - 0)) ≤ 1000000) <|
      F60j2 lp0 N
    else
      F60j2 lp0 N
def F60b4 (lp0 : List (List Cl)) (N : Nat) (rec4 : Int → Int → Option (List Cl)) (size_679 : Int) (v680 : Int) : Option (List Cl) :=
  if v680 < (lp0.length : Int) then
    gdO (0 ≤ v680) <|
    bindO (lp0[(v680).toNat]?) fun x691 =>
    ckO (size_679 + (x691.length : Int)) <|
    if (size_679 + (x691.length : Int)) < 0 then
      none
    else
      ckO (v680 + 1) <|
      rec4 (size_679 + (x691.length : Int)) (v680 + 1)
  else
    F60j1 lp0 N size_679
def F60l4 (lp0 : List (List Cl)) (N : Nat) : Nat → Int → Int → Option (List Cl)
  | 0 => fun _ _ => none
  | m + 1 => F60b4 lp0 N (F60l4 lp0 N m)
def F60 (N : Nat) (lp0 : List (List Cl)) : Option (List Cl) :=
  F60l4 lp0 N N 0 0
def F12 (N : Nat) (lp0_0 : List Ch) (lp0_1 : List Ce) (lp1 : List Cl) (p2 : Int) : Option (List Cl × Int) :=
  bindO (F17 N lp0_0 lp0_1 lp1) fun y65 =>
  if y65 = 0 then
    bindO (F59 p2 0 4166) fun y73 =>
    if y73 = true then
      gdO (0 < (lp1.length : Int)) <|
      gdO (0 ≤ (p2.tmod (lp1.length : Int))) <|
      gdO ((p2.tmod (lp1.length : Int)).toNat ≤ lp1.length ∧ lp1.length ≤ lp1.length) <|
      gdO (0 ≤ (p2.tmod (lp1.length : Int)).toNat ∧ (p2.tmod (lp1.length : Int)).toNat ≤ lp1.length) <|
      bindO (F60 N [(lp1.drop ((p2.tmod (lp1.length : Int)).toNat)).take (lp1.length - ((p2.tmod (lp1.length : Int)).toNat)), (lp1.drop 0).take ((p2.tmod (lp1.length : Int)).toNat - 0)]) fun y100 =>
      some (y100, 0)
    else
      some ([], 6)
  else
    some ([], y65)
def F73 (lp0_0 : List Ch) (lp0_1 : List Ce) (Mp0_2 : Int → Option Int) (p1 : Dr) : Option Bool :=
  if 0 ≤ p1.fr then
    if p1.fr ≤ p1.to then
      if p1.to < (lp0_1.length : Int) then
        some true
      else
        some false
    else
      some false
  else
    some false
def F66b1 (lp0_0 : List Ch) (lp0_1 : List Ce) (lp1 : List Dr) (y190 : (Int → Option Int)) (rec1 : Int → Option (Unit ⊕ (Unit ⊕ (Int → Option Int)))) (v322 : Int) : Option (Unit ⊕ (Unit ⊕ (Int → Option Int))) :=
  if v322 < (lp1.length : Int) then
    gdO (0 ≤ v322) <|
    bindO (lp1[(v322).toNat]?) fun x335 =>
    bindO (F73 lp0_0 lp0_1 y190 x335) fun y345 =>
    if y345 = true then
      ckO (v322 + 1) <|
      rec1 (v322 + 1)
    else
      some (.inr (.inl ()))
  else
    some (.inr (.inr y190))
def F66l1 (lp0_0 : List Ch) (lp0_1 : List Ce) (lp1 : List Dr) (y190 : (Int → Option Int)) : Nat → Int → Option (Unit ⊕ (Unit ⊕ (Int → Option Int)))
  | 0 => fun _ => none
  | m + 1 => F66b1 lp0_0 lp0_1 lp1 y190 (F66l1 lp0_0 lp0_1 lp1 y190 m)
def F66 (N : Nat) (lp0_0 : List Ch) (lp0_1 : List Ce) (lp1 : List Dr) : Option (Unit ⊕ (Unit ⊕ (Int → Option Int))) :=
  bindS (F62 N lp0_0 lp0_1)
    (fun y188 =>
      some (.inl ()))
    (fun y190 =>
      F66l1 lp0_0 lp0_1 lp1 y190 N 0)
def F74b1 (lp0 : List Int) (rec1 : Int → Int → Option Int) (total_171 : Int) (v172 : Int) : Option Int :=
  if v172 < (lp0.length : Int) then
    gdO (0 ≤ v172) <|
    bindO (lp0[(v172).toNat]?) fun x180 =>
    ckO (total_171 + x180) <|
    ckO (v172 + 1) <|
    rec1 (total_171 + x180) (v172 + 1)
  else
    some total_171
def F74l1 (lp0 : List Int) : Nat → Int → Int → Option Int
  | 0 => fun _ _ => none
  | m + 1 => F74b1 lp0 (F74l1 lp0 m)
def F74 (N : Nat) (lp0 : List Int) : Option Int :=
  F74l1 lp0 N 0 0
def F67j1 (N : Nat) (least_935 : List Int) (most_940 : List Int) : Option (Int × Int) :=
  bindO (F74 N least_935) fun y949 =>
  bindO (F74 N most_940) fun y951 =>
  some (y949, y951)
def F67b2 (lp0_0 : List Ch) (lp1 : List Int) (N : Nat) (rec2 : List Int → List Int → Int → Option (Int × Int)) (least_1152 : List Int) (most_1157 : List Int) (v1162 : Int) : Option (Int × Int) :=
  if v1162 < (lp0_0.length : Int) then
    gdO (0 ≤ v1162) <|
    bindO (lp0_0[(v1162).toNat]?) fun x1210 =>
    bindO (lp1[(v1162).toNat]?) fun x1230 =>
    ckO (x1230 * x1210.lo) <|
    ckO (x1230 * x1210.hi) <|
    gdO (least_1152.length + 1 ≤ 1000000000) <|
    gdO (most_1157.length + 1 ≤ 1000000000) <|
    ckO (v1162 + 1) <|
    rec2 (least_1152 ++ [if (x1230 * x1210.hi) < (x1230 * x1210.lo) then (x1230 * x1210.hi) else (x1230 * x1210.lo)]) (most_1157 ++ [if (x1230 * x1210.hi) > (x1230 * x1210.lo) then (x1230 * x1210.hi) else (x1230 * x1210.lo)]) (v1162 + 1)
  else
    F67j1 N least_1152 most_1157
def F67l2 (lp0_0 : List Ch) (lp1 : List Int) (N : Nat) : Nat → List Int → List Int → Int → Option (Int × Int)
  | 0 => fun _ _ _ => none
  | m + 1 => F67b2 lp0_0 lp1 N (F67l2 lp0_0 lp1 N m)
def F67 (N : Nat) (lp0_0 : List Ch) (lp0_1 : List Ce) (Mp0_2 : Int → Option Int) (lp1 : List Int) : Option (Int × Int) :=
  F67l2 lp0_0 lp1 N N [] [] 0
def F68b1 (lp0_1 : List Ce) (Mp0_2 : Int → Option Int) (p1 : Dr) (rec1 : List Int → Int → Option (List Int)) (links_465 : List Int) (v470 : Int) : Option (List Int) :=
  if v470 < (((lp0_1.drop ((p1.fr).toNat)).take ((p1.to + 1).toNat - ((p1.fr).toNat))).length : Int) then
    gdO (0 ≤ v470) <|
    bindO (((lp0_1.drop ((p1.fr).toNat)).take ((p1.to + 1).toNat - ((p1.fr).toNat)))[(v470).toNat]?) fun x489 =>
    gdO (0 ≤ ((Mp0_2 x489.ch).getD 0)) <|
    bindO (links_465[((Mp0_2 x489.ch).getD 0).toNat]?) fun x497 =>
    ckO (x497 + x489.ln) <|
    ckO (v470 + 1) <|
    rec1 ((links_465).set (((Mp0_2 x489.ch).getD 0).toNat) (x497 + x489.ln)) (v470 + 1)
  else
    some links_465
def F68l1 (lp0_1 : List Ce) (Mp0_2 : Int → Option Int) (p1 : Dr) : Nat → List Int → Int → Option (List Int)
  | 0 => fun _ _ => none
  | m + 1 => F68b1 lp0_1 Mp0_2 p1 (F68l1 lp0_1 Mp0_2 p1 m)
def F68 (N : Nat) (lp0_0 : List Ch) (lp0_1 : List Ce) (Mp0_2 : Int → Option Int) (p1 : Dr) : Option (List Int) :=
  gdO (0 ≤ (lp0_0.length : Int)) <|
  gdO ((lp0_0.length : Int) ≤ 1000000) <|
  ckO (p1.to + 1) <|
  gdO (0 ≤ p1.fr) <|
  gdO (0 ≤ (p1.to + 1)) <|
  gdO ((p1.fr).toNat ≤ (p1.to + 1).toNat ∧ (p1.to + 1).toNat ≤ lp0_1.length) <|
  F68l1 lp0_1 Mp0_2 p1 N (List.replicate ((lp0_0.length : Int)).toNat (0 : Int)) 0
def F25 (N : Nat) (lp0_0 : List Ch) (lp0_1 : List Ce) (p1 : Dr) : Option (Int × Int × Int) :=
  bindS3 (F66 N lp0_0 lp0_1 [(⟨p1.fr, p1.to⟩ : Dr)])
    (fun y79 =>
      some (0, 0, 42))
    (fun y81 =>
      some (0, 0, 45))
    (fun y83 =>
      bindO (F68 N lp0_0 lp0_1 y83 p1) fun y105 =>
      bindO (F67 N lp0_0 lp0_1 y83 y105) fun y111 =>
      some (y111.1, y111.2, 0))
def F27j1 (lp0_0 : List Ch) (lp0_1 : List Ce) (N : Nat) (y266 : (Int → Option Int)) (more_380 : List Int) : Option (Int × Int) :=
  bindO (F67 N lp0_0 lp0_1 y266 more_380) fun y388 =>
  if 0 < y388.1 then
    some (1, 0)
  else
    if y388.2 ≤ 0 then
      some (0, 0)
    else
      some (2, 0)
def F27b2 (lp0_0 : List Ch) (lp0_1 : List Ce) (N : Nat) (y266 : (Int → Option Int)) (y397 : List Int) (rec2 : List Int → Int → Option (Int × Int)) (more_453 : List Int) (v462 : Int) : Option (Int × Int) :=
  if v462 < (y397.length : Int) then
    gdO (0 ≤ v462) <|
    bindO (y397[(v462).toNat]?) fun x473 =>
    bindO (more_453[(v462).toNat]?) fun x477 =>
    ckO (x477 - x473) <|
    ckO (v462 + 1) <|
    rec2 ((more_453).set ((v462).toNat) (x477 - x473)) (v462 + 1)
  else
    F27j1 lp0_0 lp0_1 N y266 more_453
def F27l2 (lp0_0 : List Ch) (lp0_1 : List Ce) (N : Nat) (y266 : (Int → Option Int)) (y397 : List Int) : Nat → List Int → Int → Option (Int × Int)
  | 0 => fun _ _ => none
  | m + 1 => F27b2 lp0_0 lp0_1 N y266 y397 (F27l2 lp0_0 lp0_1 N y266 y397 m)
def F27 (N : Nat) (lp0_0 : List Ch) (lp0_1 : List Ce) (p1 : Dr) (p2 : Dr) : Option (Int × Int) :=
  bindS3 (F66 N lp0_0 lp0_1 [(⟨p1.fr, p1.to⟩ : Dr), (⟨p2.fr, p2.to⟩ : Dr)])
    (fun y262 =>
      some (0, 42))
    (fun y264 =>
      some (0, 45))
    (fun y266 =>
      bindO (F68 N lp0_0 lp0_1 y266 p1) fun y282 =>
      bindO (F68 N lp0_0 lp0_1 y266 p2) fun y397 =>
      F27l2 lp0_0 lp0_1 N y266 y397 N y282 0)
def F100 (p0 : Int) : Option Bool :=
  some false
def F93j2 (p0 : Int) (p1 : Int) (xNaN_13 : Bool) (yNaN_16 : Bool) : Option Int :=
  if xNaN_13 = true then
    if yNaN_16 = true then
      some 0
    else
      some (-1)
  else
    if yNaN_16 = true then
      some 1
    else
      if p0 < p1 then
        some (-1)
      else
        if p1 < p0 then
          some 1
        else
          some 0
def F93j1 (p0 : Int) (p1 : Int) (xNaN_13 : Bool) : Option Int :=
  bindO (F100 p1) fun y17 =>
  if y17 = true then
    F93j2 p0 p1 xNaN_13 true
  else
    F93j2 p0 p1 xNaN_13 false
def F93 (p0 : Int) (p1 : Int) : Option Int :=
  bindO (F100 p0) fun y19 =>
  if y19 = true then
    F93j1 p0 p1 true
  else
    F93j1 p0 p1 false
def F79 (p0 : Gn) (p1 : Gn) : Option Int :=
  ckO (p0.num * p1.den) <|
  ckO (p1.num * p0.den) <|
  bindO (F93 (p0.num * p1.den) (p1.num * p0.den)) fun y11 =>
  some y11
def F76j1 (N : Nat) (worths_266 : List Int) : Option Int :=
  bindO (F74 N worths_266) fun y273 =>
  some y273
def F76j3 (N : Nat) (worths_329 : List Int) : Option Int :=
  F76j1 N worths_329
def F76b2 (lp0_1 : List Ce) (p1 : Dr) (N : Nat) (rec2 : List Int → Int → Option Int) (worths_329 : List Int) (i_334 : Int) : Option Int :=
  if i_334 ≤ p1.to then
    if i_334 < (lp0_1.length : Int) then
      gdO (0 ≤ i_334) <|
      bindO (lp0_1[(i_334).toNat]?) fun x347 =>
      gdO (worths_329.length + 1 ≤ 1000000000) <|
      ckO (i_334 + 1) <|
      rec2 (worths_329 ++ [x347.wo]) (i_334 + 1)
    else
      F76j3 N worths_329
  else
    F76j3 N worths_329
def F76l2 (lp0_1 : List Ce) (p1 : Dr) (N : Nat) : Nat → List Int → Int → Option Int
  | 0 => fun _ _ => none
  | m + 1 => F76b2 lp0_1 p1 N (F76l2 lp0_1 p1 N m)
def F76 (N : Nat) (lp0_0 : List Ch) (lp0_1 : List Ce) (Mp0_2 : Int → Option Int) (p1 : Dr) : Option Int :=
  F76l2 lp0_1 p1 N N [] p1.fr
def F105b1 (rec1 : Int → Int → Option Int) (a_17 : Int) (b_18 : Int) : Option Int :=
  if b_18 = 0 then
    some a_17
  else
    gdO (0 < b_18) <|
    rec1 b_18 (a_17.tmod b_18)
def F105l1 : Nat → Int → Int → Option Int
  | 0 => fun _ _ => none
  | m + 1 => F105b1 (F105l1 m)
def F105 (N : Nat) (p0 : Int) (p1 : Int) : Option Int :=
  F105l1 N p0 p1
def F101 (N : Nat) (p0 : Int) (p1 : Int) : Option (Int × Int) :=
  bindO (F105 N p0 p1) fun y9 =>
  gdO (0 < y9) <|
  ckO (p0) <|
  ckO (p1) <|
  some (p0.tdiv y9, p1.tdiv y9)
def F94 (N : Nat) (lp0_0 : List Ch) (lp0_1 : List Ce) (Mp0_2 : Int → Option Int) (p1 : Cl) (p2 : Dr) : Option (Int × Int) :=
  bindO (F76 N lp0_0 lp0_1 Mp0_2 p2) fun y21 =>
  bindO (F101 N y21 p1.hd) fun y23 =>
  some (y23.1, y23.2)
def F96j2 (rec1 : List Dr → List Int → Int → Option (List Dr × List Int × Bool)) (v33393 : Int) (a_35660 : List Dr) (a_35665 : List Int) : Option (List Dr × List Int × Bool) :=
  ckO (v33393 + 1) <|
  rec1 a_35660 a_35665 (v33393 + 1)
def F96b3 (lp0_0 : List Ch) (lp0_1 : List Ce) (Mp0_2 : Int → Option Int) (p1 : Gn) (N : Nat) (rec1 : List Dr → List Int → Int → Option (List Dr × List Int × Bool)) (a_33383 : List Dr) (a_33388 : List Int) (v33393 : Int) (x34907 : Cl) (x35683 : Int) (rec3 : Int → Option (List Dr × List Int × Bool)) (to_36283 : Int) : Option (List Dr × List Int × Bool) :=
  if to_36283 ≤ x34907.to then
    bindO (F94 N lp0_0 lp0_1 Mp0_2 x34907 (⟨if x34907.fr > x35683 then x34907.fr else x35683, to_36283⟩ : Dr)) fun y36386 =>
    bindO (F79 (⟨y36386.1, y36386.2⟩ : Gn) p1) fun y36388 =>
    if 0 < y36388 then
      gdO (a_33383.length + 1 ≤ 1000000000) <|
      ckO (to_36283 + 1) <|
      gdO (a_33388.length + 1 ≤ 1000000000) <|
      F96j2 rec1 v33393 (a_33383 ++ [(⟨if x34907.fr > x35683 then x34907.fr else x35683, to_36283⟩ : Dr)]) (a_33388 ++ [to_36283 + 1])
    else
      ckO (to_36283 + 1) <|
      rec3 (to_36283 + 1)
  else
    ckO (x34907.to + 1) <|
    ckO ((if (x34907.to + 1) > (if x34907.fr > x35683 then x34907.fr else x35683) then (x34907.to + 1) else (if x34907.fr > x35683 then x34907.fr else x35683)) + 1) <|
    gdO (a_33388.length + 1 ≤ 1000000000) <|
    some (a_33383, a_33388 ++ [(if (x34907.to + 1) > (if x34907.fr > x35683 then x34907.fr else x35683) then (x34907.to + 1) else (if x34907.fr > x35683 then x34907.fr else x35683)) + 1], false)
def F96l3 (lp0_0 : List Ch) (lp0_1 : List Ce) (Mp0_2 : Int → Option Int) (p1 : Gn) (N : Nat) (rec1 : List Dr → List Int → Int → Option (List Dr × List Int × Bool)) (a_33383 : List Dr) (a_33388 : List Int) (v33393 : Int) (x34907 : Cl) (x35683 : Int) : Nat → Int → Option (List Dr × List Int × Bool)
  | 0 => fun _ => none
  | m + 1 => F96b3 lp0_0 lp0_1 Mp0_2 p1 N rec1 a_33383 a_33388 v33393 x34907 x35683 (F96l3 lp0_0 lp0_1 Mp0_2 p1 N rec1 a_33383 a_33388 v33393 x34907 x35683 m)
def F96b1 (lp0_0 : List Ch) (lp0_1 : List Ce) (Mp0_2 : Int → Option Int) (lp0_3 : List Cl) (p1 : Gn) (N : Nat) (rec1 : List Dr → List Int → Int → Option (List Dr × List Int × Bool)) (a_33383 : List Dr) (a_33388 : List Int) (v33393 : Int) : Option (List Dr × List Int × Bool) :=
  if v33393 < (lp0_3.length : Int) then
    gdO (0 ≤ v33393) <|
    bindO (lp0_3[(v33393).toNat]?) fun x34907 =>
    ckO ((a_33388.length : Int) - 1) <|
    gdO (0 ≤ ((a_33388.length : Int) - 1)) <|
    bindO (a_33388[((a_33388.length : Int) - 1).toNat]?) fun x35683 =>
    F96l3 lp0_0 lp0_1 Mp0_2 p1 N rec1 a_33383 a_33388 v33393 x34907 x35683 N (if x34907.fr > x35683 then x34907.fr else x35683)
  else
    some (a_33383, a_33388, true)
def F96l1 (lp0_0 : List Ch) (lp0_1 : List Ce) (Mp0_2 : Int → Option Int) (lp0_3 : List Cl) (p1 : Gn) (N : Nat) : Nat → List Dr → List Int → Int → Option (List Dr × List Int × Bool)
  | 0 => fun _ _ _ => none
  | m + 1 => F96b1 lp0_0 lp0_1 Mp0_2 lp0_3 p1 N (F96l1 lp0_0 lp0_1 Mp0_2 lp0_3 p1 N m)
def F96 (N : Nat) (lp0_0 : List Ch) (lp0_1 : List Ce) (Mp0_2 : Int → Option Int) (lp0_3 : List Cl) (p1 : Gn) : Option (List Dr × List Int × Bool) :=
  bindO (lp0_3[0]?) fun x18214 =>
  F96l1 lp0_0 lp0_1 Mp0_2 lp0_3 p1 N N [] [x18214.fr] 0
def F82b1 (lp0_0 : List Ch) (lp0_1 : List Ce) (Mp0_2 : Int → Option Int) (lp0_3 : List Cl) (lp1 : List Dr) (N : Nat) (rec1 : List Gn → Int → Option (List Gn)) (gains_759 : List Gn) (v764 : Int) : Option (List Gn) :=
  if v764 < (lp1.length : Int) then
    gdO (0 ≤ v764) <|
    bindO (lp1[(v764).toNat]?) fun x797 =>
    bindO (lp0_3[(v764).toNat]?) fun x805 =>
    bindO (F94 N lp0_0 lp0_1 Mp0_2 x805 x797) fun y812 =>
    gdO (gains_759.length + 1 ≤ 1000000000) <|
    ckO (v764 + 1) <|
    rec1 (gains_759 ++ [(⟨y812.1, y812.2⟩ : Gn)]) (v764 + 1)
  else
    some gains_759
def F82l1 (lp0_0 : List Ch) (lp0_1 : List Ce) (Mp0_2 : Int → Option Int) (lp0_3 : List Cl) (lp1 : List Dr) (N : Nat) : Nat → List Gn → Int → Option (List Gn)
  | 0 => fun _ _ => none
  | m + 1 => F82b1 lp0_0 lp0_1 Mp0_2 lp0_3 lp1 N (F82l1 lp0_0 lp0_1 Mp0_2 lp0_3 lp1 N m)
def F82 (N : Nat) (lp0_0 : List Ch) (lp0_1 : List Ce) (Mp0_2 : Int → Option Int) (lp0_3 : List Cl) (lp1 : List Dr) : Option (List Gn) :=
  F82l1 lp0_0 lp0_1 Mp0_2 lp0_3 lp1 N N [] 0
def F97j2 (rec1 : Int → Int → Int → Option (Int × Int)) (i_798 : Int) (m_813 : Int) (m_814 : Int) : Option (Int × Int) :=
  ckO (i_798 + 1) <|
  rec1 m_813 m_814 (i_798 + 1)
def F97b1 (y623 : List Gn) (rec1 : Int → Int → Int → Option (Int × Int)) (m_796 : Int) (m_797 : Int) (i_798 : Int) : Option (Int × Int) :=
  if i_798 < (y623.length : Int) then
    gdO (0 ≤ i_798) <|
    bindO (y623[(i_798).toNat]?) fun x822 =>
    bindO (F79 x822 (⟨m_796, m_797⟩ : Gn)) fun y825 =>
    if y825 < 0 then
      F97j2 rec1 i_798 x822.num x822.den
    else
      F97j2 rec1 i_798 m_796 m_797
  else
    some (m_796, m_797)
def F97l1 (y623 : List Gn) : Nat → Int → Int → Int → Option (Int × Int)
  | 0 => fun _ _ _ => none
  | m + 1 => F97b1 y623 (F97l1 y623 m)
def F97 (N : Nat) (lp0_0 : List Ch) (lp0_1 : List Ce) (Mp0_2 : Int → Option Int) (lp0_3 : List Cl) (lp1 : List Dr) : Option (Int × Int) :=
  bindO (F82 N lp0_0 lp0_1 Mp0_2 lp0_3 lp1) fun y623 =>
  if (y623.length : Int) < 1 then
    none
  else
    bindO (y623[0]?) fun x630 =>
    F97l1 y623 N x630.num x630.den 1
def F86b1 (lp0_0 : List Ch) (lp0_1 : List Ce) (Mp0_2 : Int → Option Int) (lp0_3 : List Cl) (N : Nat) (rec1 : List Dr → List Int → Bool → List Dr → Int → Int → Option (List Dr × Int × Int × List Int × Bool)) (next_367 : List Dr) (next_372 : List Int) (next_377 : Bool) (best_378 : List Dr) (best_383 : Int) (best_384 : Int) : Option (List Dr × Int × Int × List Int × Bool) :=
  if next_377 = true then
    bindO (F97 N lp0_0 lp0_1 Mp0_2 lp0_3 next_367) fun y387 =>
    bindO (F96 N lp0_0 lp0_1 Mp0_2 lp0_3 (⟨y387.1, y387.2⟩ : Gn)) fun y389 =>
    rec1 y389.1 y389.2.1 y389.2.2 next_367 y387.1 y387.2
  else
    some (best_378, best_383, best_384, next_372, true)
def F86l1 (lp0_0 : List Ch) (lp0_1 : List Ce) (Mp0_2 : Int → Option Int) (lp0_3 : List Cl) (N : Nat) : Nat → List Dr → List Int → Bool → List Dr → Int → Int → Option (List Dr × Int × Int × List Int × Bool)
  | 0 => fun _ _ _ _ _ _ => none
  | m + 1 => F86b1 lp0_0 lp0_1 Mp0_2 lp0_3 N (F86l1 lp0_0 lp0_1 Mp0_2 lp0_3 N m)
def F86 (N : Nat) (lp0_0 : List Ch) (lp0_1 : List Ce) (Mp0_2 : Int → Option Int) (lp0_3 : List Cl) : Option (List Dr × Int × Int × List Int × Bool) :=
  bindO (F96 N lp0_0 lp0_1 Mp0_2 lp0_3 (⟨-1, 1⟩ : Gn)) fun y213 =>
  if (!y213.2.2) = true then
    some ([], 0, 0, [], false)
  else
    F86l1 lp0_0 lp0_1 Mp0_2 lp0_3 N N y213.1 y213.2.1 y213.2.2 [] 0 0
def F84 (N : Nat) (lp0_0 : List Ch) (lp0_1 : List Ce) (lp1 : List Cl) : Option (List Dr × Int × Int × List Int × Int) :=
  bindS3 (F64 N lp0_0 lp0_1 lp1)
    (fun y71 =>
      some ([], 0, 0, [], 42))
    (fun y73 =>
      some ([], 0, 0, [], 44))
    (fun y75 =>
      bindO (F86 N lp0_0 lp0_1 y75 lp1) fun y96 =>
      if (!y96.2.2.2.2) = true then
        some ([], 0, 0, [], 47)
      else
        some (y96.1, y96.2.1, y96.2.2.1, y96.2.2.2.1, 0))
def F37 (N : Nat) (lp0_0 : List Ch) (lp0_1 : List Ce) (lp1 : List Cl) : Option (Int × Int × Int) :=
  bindO (F84 N lp0_0 lp0_1 lp1) fun y38 =>
  some (y38.2.1, y38.2.2.1, y38.2.2.2.2)
def F98 (lp0 : List Cl) (p1 : Int) (p2 : Int) : Option (List Cl) :=
  gdO (0 ≤ p1) <|
  gdO (0 ≤ p2) <|
  gdO ((p1).toNat ≤ (p2).toNat ∧ (p2).toNat ≤ lp0.length ∧ lp0.length ≤ lp0.length) <|
  if p1 = p2 then
    some lp0
  else
    gdO ((p1).toNat ≤ lp0.length) <|
    gdO ((p2).toNat ≤ lp0.length) <|
    gdO (((lp0.take ((p1).toNat)) ++ (lp0.drop ((p2).toNat))).length ≤ lp0.length) <|
    gdO (0 ≤ (((lp0.take ((p1).toNat)) ++ (lp0.drop ((p2).toNat))).length : Int)) <|
    gdO (((((lp0.take ((p1).toNat)) ++ (lp0.drop ((p2).toNat))).length : Int)).toNat ≤ lp0.length) <|
    some ((lp0.take ((p1).toNat)) ++ (lp0.drop ((p2).toNat)))
def F99 (lp0 : List Cl) : Option (List Cl) :=
  gdO (lp0.length ≤ 1000000000) <|
  some lp0
def F87 (lp0_0 : List Ch) (lp0_1 : List Ce) (Mp0_2 : Int → Option Int) (lp0_3 : List Cl) (p1 : Int) : Option (List Cl) :=
  bindO (F99 lp0_3) fun y71 =>
  ckO (p1 + 1) <|
  gdO (0 < y71.length) <|
  bindO (F98 y71 p1 (p1 + 1)) fun y78 =>
  some y78
def F39j2 (rec1 : List Int → Int → Option (List Int × Int)) (v1287 : Int) (u1335 : List Int) : Option (List Int × Int) :=
  ckO (v1287 + 1) <|
  rec1 u1335 (v1287 + 1)
def F39j3 (rec1 : List Int → Int → Option (List Int × Int)) (u1282 : List Int) (v1287 : Int) (x1340 : Cl) : Option (List Int × Int) :=
  gdO (u1282.length + 1 ≤ 1000000000) <|
  F39j2 rec1 v1287 (u1282 ++ [x1340.fam])
def F39b1 (lp0_0 : List Ch) (lp0_1 : List Ce) (lp1 : List Cl) (N : Nat) (y714 : (Int → Option Int)) (y753 : (List Dr × Int × Int × List Int × Bool)) (rec1 : List Int → Int → Option (List Int × Int)) (u1282 : List Int) (v1287 : Int) : Option (List Int × Int) :=
  if v1287 < (lp1.length : Int) then
    gdO (0 ≤ v1287) <|
    bindO (lp1[(v1287).toNat]?) fun x1340 =>
    bindO (F87 lp0_0 lp0_1 y714 lp1 v1287) fun y1365 =>
    bindO (F86 N lp0_0 lp0_1 y714 y1365) fun y1371 =>
    if y753.2.2.2.2 = y1371.2.2.2.2 then
      if (decide (y753.2.1 = y1371.2.1) && decide (y753.2.2.1 = y1371.2.2.1)) = true then
        F39j2 rec1 v1287 u1282
      else
        F39j3 rec1 u1282 v1287 x1340
    else
      F39j3 rec1 u1282 v1287 x1340
  else
    some (u1282, 0)
def F39l1 (lp0_0 : List Ch) (lp0_1 : List Ce) (lp1 : List Cl) (N : Nat) (y714 : (Int → Option Int)) (y753 : (List Dr × Int × Int × List Int × Bool)) : Nat → List Int → Int → Option (List Int × Int)
  | 0 => fun _ _ => none
  | m + 1 => F39b1 lp0_0 lp0_1 lp1 N y714 y753 (F39l1 lp0_0 lp0_1 lp1 N y714 y753 m)
def F39 (N : Nat) (lp0_0 : List Ch) (lp0_1 : List Ce) (lp1 : List Cl) : Option (List Int × Int) :=
  bindS3 (F64 N lp0_0 lp0_1 lp1)
    (fun y710 =>
      some ([], 42))
    (fun y712 =>
      some ([], 44))
    (fun y714 =>
      if (lp1.length : Int) = 1 then
        bindO (lp1[0]?) fun x733 =>
        some ([x733.fam], 0)
      else
        bindO (F86 N lp0_0 lp0_1 y714 lp1) fun y753 =>
        F39l1 lp0_0 lp0_1 lp1 N y714 y753 N [] 0)
def F42j2 (same_655 : Bool) : Option Bool :=
  if same_655 = true then
    some true
  else
    some false
def F42j4 (same_803 : Bool) : Option Bool :=
  F42j2 same_803
def F42j5 (rec3 : Bool → Int → Option Bool) (i_801 : Int) (same_838 : Bool) : Option Bool :=
  ckO (i_801 + 1) <|
  rec3 same_838 (i_801 + 1)
def F42b3 (lp0 : List Int) (lp1 : List Int) (rec3 : Bool → Int → Option Bool) (same_800 : Bool) (i_801 : Int) : Option Bool :=
  if same_800 = true then
    if i_801 < (lp0.length : Int) then
      gdO (0 ≤ i_801) <|
      bindO (lp0[(i_801).toNat]?) fun x839 =>
      bindO (lp1[(i_801).toNat]?) fun x846 =>
      if x839 = x846 then
        F42j5 rec3 i_801 true
      else
        F42j5 rec3 i_801 false
    else
      F42j4 true
  else
    if i_801 < (lp0.length : Int) then
      F42j4 false
    else
      F42j4 false
def F42l3 (lp0 : List Int) (lp1 : List Int) : Nat → Bool → Int → Option Bool
  | 0 => fun _ _ => none
  | m + 1 => F42b3 lp0 lp1 (F42l3 lp0 lp1 m)
def F42j1 (lp0 : List Int) (lp1 : List Int) (N : Nat) (same_437 : Bool) : Option Bool :=
  F42l3 lp0 lp1 N same_437 0
def F42 (N : Nat) (lp0 : List Int) (lp1 : List Int) : Option Bool :=
  if (lp0.length : Int) = (lp1.length : Int) then
    F42j1 lp0 lp1 N true
  else
    F42j1 lp0 lp1 N false
def F78 (p0 : Gn) : Option Bool :=
  bindO (F59 p0.num 0 1000000) fun y17 =>
  if y17 = true then
    bindO (F59 p0.den 1 1000000) fun y19 =>
    some y19
  else
    some false
def F90j1 (lp0_3 : List Cl) (p1_0 : Int) (lp1_1 : List Int) : Option Bool :=
  bindO (lp1_1[0]?) fun x345 =>
  gdO (0 ≤ p1_0) <|
  bindO (lp0_3[(p1_0).toNat]?) fun x352 =>
  if x345 = x352.fr then
    some true
  else
    some false
def F90b2 (lp0_3 : List Cl) (p1_0 : Int) (lp1_1 : List Int) (rec2 : Int → Option Bool) (v424 : Int) : Option Bool :=
  if v424 < (lp1_1.length : Int) then
    gdO (0 ≤ v424) <|
    bindO (lp1_1[(v424).toNat]?) fun x436 =>
    bindO (F59 x436 0 25) fun y445 =>
    if y445 = true then
      ckO (v424 + 1) <|
      rec2 (v424 + 1)
    else
      some false
  else
    F90j1 lp0_3 p1_0 lp1_1
def F90l2 (lp0_3 : List Cl) (p1_0 : Int) (lp1_1 : List Int) : Nat → Int → Option Bool
  | 0 => fun _ => none
  | m + 1 => F90b2 lp0_3 p1_0 lp1_1 (F90l2 lp0_3 p1_0 lp1_1 m)
def F90 (N : Nat) (lp0_0 : List Ch) (lp0_1 : List Ce) (Mp0_2 : Int → Option Int) (lp0_3 : List Cl) (p1_0 : Int) (lp1_1 : List Int) : Option Bool :=
  ckO ((lp0_3.length : Int) - 1) <|
  bindO (F59 p1_0 0 ((lp0_3.length : Int) - 1)) fun y238 =>
  if y238 = true then
    ckO ((lp0_3.length : Int) - p1_0) <|
    ckO (((lp0_3.length : Int) - p1_0) + 1) <|
    bindO (F59 (lp1_1.length : Int) 2 (((lp0_3.length : Int) - p1_0) + 1)) fun y240 =>
    if y240 = true then
      F90l2 lp0_3 p1_0 lp1_1 N 0
    else
      some false
  else
    some false
def F91j1 (lp0_3 : List Cl) (p1_0 : Int) (lp1_1 : List Int) : Option Bool :=
  gdO (0 ≤ ((lp1_1.length : Int) - 1)) <|
  bindO (lp1_1[((lp1_1.length : Int) - 1).toNat]?) fun x1281 =>
  ckO (x1281 - 1) <|
  ckO (p1_0 + ((lp1_1.length : Int) - 1)) <|
  ckO ((p1_0 + ((lp1_1.length : Int) - 1)) - 1) <|
  gdO (0 ≤ ((p1_0 + ((lp1_1.length : Int) - 1)) - 1)) <|
  bindO (lp0_3[((p1_0 + ((lp1_1.length : Int) - 1)) - 1).toNat]?) fun x1288 =>
  if x1288.to < (x1281 - 1) then
    some true
  else
    some false
def F91b2 (lp0_0 : List Ch) (lp0_1 : List Ce) (Mp0_2 : Int → Option Int) (lp0_3 : List Cl) (p1_0 : Int) (lp1_1 : List Int) (p2 : Gn) (N : Nat) (rec2 : Int → Option Bool) (v1576 : Int) : Option Bool :=
  if v1576 < (((lp0_3.drop ((p1_0).toNat)).take ((p1_0 + ((lp1_1.length : Int) - 1)).toNat - ((p1_0).toNat))).length : Int) then
    gdO (0 ≤ v1576) <|
    bindO (((lp0_3.drop ((p1_0).toNat)).take ((p1_0 + ((lp1_1.length : Int) - 1)).toNat - ((p1_0).toNat)))[(v1576).toNat]?) fun x1641 =>
    bindO (lp1_1[(v1576).toNat]?) fun x1673 =>
    ckO (v1576 + 1) <|
    gdO (0 ≤ (v1576 + 1)) <|
    bindO (lp1_1[(v1576 + 1).toNat]?) fun x1680 =>
    if x1680 ≤ (if x1641.fr > x1673 then x1641.fr else x1673) then
      some false
    else
      ckO (x1680 - 2) <|
      bindO (F94 N lp0_0 lp0_1 Mp0_2 x1641 (⟨if x1641.fr > x1673 then x1641.fr else x1673, x1680 - 2⟩ : Dr)) fun y1701 =>
      bindO (F79 (⟨y1701.1, y1701.2⟩ : Gn) p2) fun y1703 =>
      if 0 < y1703 then
        some false
      else
        rec2 (v1576 + 1)
  else
    F91j1 lp0_3 p1_0 lp1_1
def F91l2 (lp0_0 : List Ch) (lp0_1 : List Ce) (Mp0_2 : Int → Option Int) (lp0_3 : List Cl) (p1_0 : Int) (lp1_1 : List Int) (p2 : Gn) (N : Nat) : Nat → Int → Option Bool
  | 0 => fun _ => none
  | m + 1 => F91b2 lp0_0 lp0_1 Mp0_2 lp0_3 p1_0 lp1_1 p2 N (F91l2 lp0_0 lp0_1 Mp0_2 lp0_3 p1_0 lp1_1 p2 N m)
def F91 (N : Nat) (lp0_0 : List Ch) (lp0_1 : List Ce) (Mp0_2 : Int → Option Int) (lp0_3 : List Cl) (p1_0 : Int) (lp1_1 : List Int) (p2 : Gn) : Option Bool :=
  ckO ((lp1_1.length : Int) - 1) <|
  ckO (p1_0 + ((lp1_1.length : Int) - 1)) <|
  gdO (0 ≤ p1_0) <|
  gdO (0 ≤ (p1_0 + ((lp1_1.length : Int) - 1))) <|
  gdO ((p1_0).toNat ≤ (p1_0 + ((lp1_1.length : Int) - 1)).toNat ∧ (p1_0 + ((lp1_1.length : Int) - 1)).toNat ≤ lp0_3.length) <|
  F91l2 lp0_0 lp0_1 Mp0_2 lp0_3 p1_0 lp1_1 p2 N N 0
def F47 (N : Nat) (lp0_0 : List Ch) (lp0_1 : List Ce) (lp1 : List Cl) (p2_0 : Int) (lp2_1 : List Int) (p3 : Gn) : Option Int :=
  bindS3 (F64 N lp0_0 lp0_1 lp1)
    (fun y75 =>
      some 42)
    (fun y77 =>
      some 44)
    (fun y79 =>
      bindO (F78 p3) fun y95 =>
      if y95 = true then
        bindO (F90 N lp0_0 lp0_1 y79 lp1 p2_0 lp2_1) fun y109 =>
        if y109 = true then
          bindO (F91 N lp0_0 lp0_1 y79 lp1 p2_0 lp2_1 p3) fun y111 =>
          if y111 = true then
            some 0
          else
            some 49
        else
          some 49
      else
        some 1)
def F49 (N : Nat) (lp0_0 : List Ch) (lp0_1 : List Ce) (lp1 : List Cl) : Option (List Dr × Int) :=
  bindO (F84 N lp0_0 lp0_1 lp1) fun y36 =>
  some (y36.1, y36.2.2.2.2)
def F89 (lp0_0 : List Ch) (lp0_1 : List Ce) (Mp0_2 : Int → Option Int) (lp0_3 : List Cl) (p1 : Int) (p2 : Int) : Option Bool :=
  gdO (0 ≤ p2) <|
  bindO (lp0_3[(p2).toNat]?) fun x76 =>
  gdO (0 ≤ p1) <|
  bindO (lp0_3[(p1).toNat]?) fun x83 =>
  ckO (x76.to - x83.fr) <|
  ckO ((x76.to - x83.fr) + 1) <|
  ckO (p2 - p1) <|
  ckO ((p2 - p1) + 1) <|
  if (if ((x76.to - x83.fr) + 1) > 0 then ((x76.to - x83.fr) + 1) else 0) < ((p2 - p1) + 1) then
    some true
  else
    some false
def F51j2 (rec1 : Int → Option (Int × Int × Int)) (v642 : Int) : Option (Int × Int × Int) :=
  ckO (v642 + 1) <|
  rec1 (v642 + 1)
def F51b3 (lp0_0 : List Ch) (lp0_1 : List Ce) (lp1 : List Cl) (rec1 : Int → Option (Int × Int × Int)) (y369 : (Int → Option Int)) (v642 : Int) (rec3 : Int → Option (Int × Int × Int)) (last_686 : Int) : Option (Int × Int × Int) :=
  if last_686 < (lp1.length : Int) then
    bindO (F89 lp0_0 lp0_1 y369 lp1 v642 last_686) fun y693 =>
    if y693 = true then
      some (v642, last_686, 0)
    else
      ckO (last_686 + 1) <|
      rec3 (last_686 + 1)
  else
    F51j2 rec1 v642
def F51l3 (lp0_0 : List Ch) (lp0_1 : List Ce) (lp1 : List Cl) (rec1 : Int → Option (Int × Int × Int)) (y369 : (Int → Option Int)) (v642 : Int) : Nat → Int → Option (Int × Int × Int)
  | 0 => fun _ => none
  | m + 1 => F51b3 lp0_0 lp0_1 lp1 rec1 y369 v642 (F51l3 lp0_0 lp0_1 lp1 rec1 y369 v642 m)
def F51b1 (lp0_0 : List Ch) (lp0_1 : List Ce) (lp1 : List Cl) (N : Nat) (y369 : (Int → Option Int)) (rec1 : Int → Option (Int × Int × Int)) (v642 : Int) : Option (Int × Int × Int) :=
  if v642 < (lp1.length : Int) then
    F51l3 lp0_0 lp0_1 lp1 rec1 y369 v642 N v642
  else
    some (0, 0, 48)
def F51l1 (lp0_0 : List Ch) (lp0_1 : List Ce) (lp1 : List Cl) (N : Nat) (y369 : (Int → Option Int)) : Nat → Int → Option (Int × Int × Int)
  | 0 => fun _ => none
  | m + 1 => F51b1 lp0_0 lp0_1 lp1 N y369 (F51l1 lp0_0 lp0_1 lp1 N y369 m)
def F51 (N : Nat) (lp0_0 : List Ch) (lp0_1 : List Ce) (lp1 : List Cl) : Option (Int × Int × Int) :=
  bindS3 (F64 N lp0_0 lp0_1 lp1)
    (fun y365 =>
      some (0, 0, 42))
    (fun y367 =>
      some (0, 0, 44))
    (fun y369 =>
      F51l1 lp0_0 lp0_1 lp1 N y369 N 0)
def F57 : Option (List Ch × List Ce) :=
  some ([(⟨1, 98, 102⟩ : Ch), (⟨2, 99, 100⟩ : Ch)], [(⟨1, 10, 6⟩ : Ce), (⟨1, 5, 2⟩ : Ce), (⟨2, 10, 4⟩ : Ce), (⟨2, 5, 9⟩ : Ce), (⟨1, 10, 3⟩ : Ce)])
def F58 : Option (List Cl) :=
  some [(⟨7, 2, 0, 3⟩ : Cl), (⟨4, 1, 1, 4⟩ : Cl), (⟨9, 3, 2, 4⟩ : Cl)]
def F11j2 (N : Nat) (y174 : (List Ch × List Ce)) (y191 : List Cl) (y214 : (Int × Int × Int)) (v283 : Bool) (v294 : Bool) : Option Bool :=
  if v283 = true then
    if v294 = true then
      bindO (F47 N y174.1 y174.2 y191 0 [0, 2, 3, 6] (⟨y214.1, y214.2.1⟩ : Gn)) fun y300 =>
      if y300 = 0 then
        bindO (F47 N y174.1 y174.2 y191 0 [0, 2, 3, 6] (⟨3, 1⟩ : Gn)) fun y302 =>
        if y302 = 49 then
          some true
        else
          some false
      else
        some false
    else
      some false
  else
    if v294 = true then
      some false
    else
      some false
def F11j1 (N : Nat) (y174 : (List Ch × List Ce)) (y191 : List Cl) (y214 : (Int × Int × Int)) (y241 : (List Int × Int)) (y253 : (List Dr × Int)) (y263 : (Int × Int × Int)) (v283 : Bool) : Option Bool :=
  bindO (F42 N y241.1 [9]) fun y305 =>
  if y305 = true then
    bindO (y253.1[0]?) fun x307 =>
    if (decide (x307.fr = 0) && decide (x307.to = 1)) = true then
      bindO (y253.1[2]?) fun x311 =>
      if (decide (x311.fr = 3) && decide (x311.to = 4)) = true then
        if (decide (y263.1 = 0) && decide (y263.2.1 = 1)) = true then
          F11j2 N y174 y191 y214 v283 true
        else
          F11j2 N y174 y191 y214 v283 false
      else
        F11j2 N y174 y191 y214 v283 false
    else
      F11j2 N y174 y191 y214 v283 false
  else
    F11j2 N y174 y191 y214 v283 false
def F11 (N : Nat) : Option Bool :=
  bindO (F57) fun y174 =>
  bindO (F58) fun y191 =>
  bindO (F25 N y174.1 y174.2 (⟨0, 2⟩ : Dr)) fun y200 =>
  bindO (F27 N y174.1 y174.2 (⟨0, 0⟩ : Dr) (⟨2, 2⟩ : Dr)) fun y205 =>
  bindO (F27 N y174.1 y174.2 (⟨0, 1⟩ : Dr) (⟨2, 2⟩ : Dr)) fun y209 =>
  bindO (F37 N y174.1 y174.2 y191) fun y214 =>
  bindO (F12 N y174.1 y174.2 y191 4) fun y223 =>
  bindO (F37 N y174.1 y174.2 y223.1) fun y232 =>
  bindO (F39 N y174.1 y174.2 y191) fun y241 =>
  bindO (F49 N y174.1 y174.2 y191) fun y253 =>
  bindO (F51 N y174.1 y174.2 [(⟨7, 1, 2, 2⟩ : Cl), (⟨4, 1, 2, 2⟩ : Cl)]) fun y263 =>
  if y200.2.2 = 0 then
    if y205.2 = 0 then
      if y209.2 = 0 then
        if y214.2.2 = 0 then
          if y223.2 = 0 then
            if y232.2.2 = 0 then
              if y241.2 = 0 then
                if y253.2 = 0 then
                  if y263.2.2 = 0 then
                    if (y253.1.length : Int) = 3 then
                      if (y223.1.length : Int) = 3 then
                        if (decide (y200.1 = 2460) && decide (y200.2.1 = 2530)) = true then
                          if y205.1 = 2 then
                            if y209.1 = 1 then
                              if (decide (y214.1 = 4) && decide (y214.2.1 = 1)) = true then
                                bindO (y223.1[0]?) fun x314 =>
                                if x314.fam = 4 then
                                  if (decide (y232.1 = 4) && decide (y232.2.1 = 3)) = true then
                                    F11j1 N y174 y191 y214 y241 y253 y263 true
                                  else
                                    F11j1 N y174 y191 y214 y241 y253 y263 false
                                else
                                  F11j1 N y174 y191 y214 y241 y253 y263 false
                              else
                                F11j1 N y174 y191 y214 y241 y253 y263 false
                            else
                              F11j1 N y174 y191 y214 y241 y253 y263 false
                          else
                            F11j1 N y174 y191 y214 y241 y253 y263 false
                        else
                          F11j1 N y174 y191 y214 y241 y253 y263 false
                      else
                        some false
                    else
                      some false
                  else
                    some false
                else
                  some false
              else
                some false
            else
              some false
          else
            some false
        else
          some false
      else
        some false
    else
      some false
  else
    some false
def F61 (p0 : Int) (p1 : Int) (p2 : Int) : Option Bool :=
  if p1 ≤ p0 then
    if p0 ≤ p2 then
      some true
    else
      some false
  else
    some false
def F20 (p0 : Ch) : Option Int :=
  bindO (F61 p0.id 1 99) fun y31 =>
  if y31 = true then
    bindO (F61 p0.lo 1 p0.hi) fun y33 =>
    if y33 = true then
      if 1000 < p0.hi then
        some 40
      else
        some 0
    else
      some 40
  else
    some 40
def F22 (p0 : Ce) : Option Int :=
  bindO (F61 p0.ch 1 99) fun y45 =>
  if y45 = true then
    bindO (F61 p0.ln 1 1000) fun y47 =>
    if y47 = true then
      bindO (F61 p0.wo 0 10000) fun y49 =>
      if y49 = true then
        some 0
      else
        some 41
    else
      some 41
  else
    some 41
def F63b1 (lp0_0 : List Ch) (p1 : Int) (rec1 : Int → Option Int) (i_318 : Int) : Option Int :=
  if i_318 < (lp0_0.length : Int) then
    gdO (0 ≤ i_318) <|
    bindO (lp0_0[(i_318).toNat]?) fun x340 =>
    if x340.id = p1 then
      some i_318
    else
      ckO (i_318 + 1) <|
      rec1 (i_318 + 1)
  else
    some (-1)
def F63l1 (lp0_0 : List Ch) (p1 : Int) : Nat → Int → Option Int
  | 0 => fun _ => none
  | m + 1 => F63b1 lp0_0 p1 (F63l1 lp0_0 p1 m)
def F63 (N : Nat) (lp0_0 : List Ch) (lp0_1 : List Ce) (p1 : Int) : Option Int :=
  F63l1 lp0_0 p1 N 0
def F16b2 (lp0_0 : List Ch) (lp0_1 : List Ce) (N : Nat) (rec2 : Int → Option Int) (v2524 : Int) : Option Int :=
  if v2524 < (lp0_1.length : Int) then
    gdO (0 ≤ v2524) <|
    bindO (lp0_1[(v2524).toNat]?) fun x2603 =>
    bindO (F22 x2603) fun y2610 =>
    if y2610 = 0 then
      bindO (F63 N lp0_0 lp0_1 x2603.ch) fun y2612 =>
      if y2612 < 0 then
        some 42
      else
        ckO (v2524 + 1) <|
        rec2 (v2524 + 1)
    else
      some 42
  else
    some 0
def F16l2 (lp0_0 : List Ch) (lp0_1 : List Ce) (N : Nat) : Nat → Int → Option Int
  | 0 => fun _ => none
  | m + 1 => F16b2 lp0_0 lp0_1 N (F16l2 lp0_0 lp0_1 N m)
def F16j1 (lp0_0 : List Ch) (lp0_1 : List Ce) (N : Nat) : Option Int :=
  F16l2 lp0_0 lp0_1 N N 0
def F16j4 (rec3 : Int → Option Int) (v2890 : Int) : Option Int :=
  ckO (v2890 + 1) <|
  rec3 (v2890 + 1)
def F16b3 (lp0_0 : List Ch) (lp0_1 : List Ce) (N : Nat) (rec3 : Int → Option Int) (v2890 : Int) : Option Int :=
  if v2890 < (lp0_0.length : Int) then
    gdO (0 ≤ v2890) <|
    bindO (lp0_0[(v2890).toNat]?) fun x3029 =>
    bindO (F20 x3029) fun y3036 =>
    if y3036 = 0 then
      if 0 < v2890 then
        ckO (v2890 - 1) <|
        gdO (0 ≤ (v2890 - 1)) <|
        bindO (lp0_0[(v2890 - 1).toNat]?) fun x3038 =>
        if x3029.id ≤ x3038.id then
          some 42
        else
          F16j4 rec3 v2890
      else
        F16j4 rec3 v2890
    else
      some 42
  else
    F16j1 lp0_0 lp0_1 N
def F16l3 (lp0_0 : List Ch) (lp0_1 : List Ce) (N : Nat) : Nat → Int → Option Int
  | 0 => fun _ => none
  | m + 1 => F16b3 lp0_0 lp0_1 N (F16l3 lp0_0 lp0_1 N m)
def F16 (N : Nat) (lp0_0 : List Ch) (lp0_1 : List Ce) : Option Int :=
  bindO (F61 (lp0_0.length : Int) 1 6) fun y1551 =>
  if y1551 = true then
    bindO (F61 (lp0_1.length : Int) 1 24) fun y1553 =>
    if y1553 = true then
      F16l3 lp0_0 lp0_1 N N 0
    else
      some 42
  else
    some 42
def F24 (p0 : Cl) : Option Int :=
  bindO (F61 p0.fam 1 99) fun y45 =>
  if y45 = true then
    bindO (F61 p0.hd 1 20) fun y47 =>
    if y47 = true then
      bindO (F61 p0.fr 0 p0.to) fun y49 =>
      if y49 = true then
        if 24 ≤ p0.to then
          some 43
        else
          some 0
      else
        some 43
    else
      some 43
  else
    some 43
def F65j1 (lp1 : List Cl) : Option Bool :=
  bindO (F61 (lp1.length : Int) 1 12) fun y4215 =>
  some y4215
def F65j3 (rec2 : Int → Option Bool) (i_5014 : Int) : Option Bool :=
  ckO (i_5014 + 1) <|
  rec2 (i_5014 + 1)
def F65b4 (lp1 : List Cl) (rec2 : Int → Option Bool) (i_5014 : Int) (x5389 : Cl) (rec4 : Int → Option Bool) (k_5545 : Int) : Option Bool :=
  if k_5545 < i_5014 then
    gdO (0 ≤ k_5545) <|
    bindO (lp1[(k_5545).toNat]?) fun x5597 =>
    if x5597.fam = x5389.fam then
      some false
    else
      ckO (k_5545 + 1) <|
      rec4 (k_5545 + 1)
  else
    F65j3 rec2 i_5014
def F65l4 (lp1 : List Cl) (rec2 : Int → Option Bool) (i_5014 : Int) (x5389 : Cl) : Nat → Int → Option Bool
  | 0 => fun _ => none
  | m + 1 => F65b4 lp1 rec2 i_5014 x5389 (F65l4 lp1 rec2 i_5014 x5389 m)
def F65b2 (lp0_1 : List Ce) (lp1 : List Cl) (N : Nat) (rec2 : Int → Option Bool) (i_5014 : Int) : Option Bool :=
  if i_5014 < (lp1.length : Int) then
    gdO (0 ≤ i_5014) <|
    bindO (lp1[(i_5014).toNat]?) fun x5389 =>
    bindO (F24 x5389) fun y5396 =>
    if y5396 = 0 then
      if (lp0_1.length : Int) ≤ x5389.to then
        some false
      else
        F65l4 lp1 rec2 i_5014 x5389 N 0
    else
      some false
  else
    F65j1 lp1
def F65l2 (lp0_1 : List Ce) (lp1 : List Cl) (N : Nat) : Nat → Int → Option Bool
  | 0 => fun _ => none
  | m + 1 => F65b2 lp0_1 lp1 N (F65l2 lp0_1 lp1 N m)
def F65 (N : Nat) (lp0_0 : List Ch) (lp0_1 : List Ce) (lp1 : List Cl) : Option Bool :=
  F65l2 lp0_1 lp1 N N 0
def F18 (N : Nat) (lp0_0 : List Ch) (lp0_1 : List Ce) (lp1 : List Cl) : Option Int :=
  bindO (F16 N lp0_0 lp0_1) fun y25 =>
  if y25 = 0 then
    bindO (F65 N lp0_0 lp0_1 lp1) fun y33 =>
    if y33 = true then
      some 0
    else
      some 44
  else
    some 42
def F13 (N : Nat) (lp0_0 : List Ch) (lp0_1 : List Ce) (lp1 : List Cl) (p2 : Int) : Option (List Cl × Int) :=
  bindO (F18 N lp0_0 lp0_1 lp1) fun y69 =>
  if y69 = 0 then
    bindO (F61 p2 0 4166) fun y77 =>
    if y77 = true then
      gdO (0 < (lp1.length : Int)) <|
      gdO (0 ≤ (p2.tmod (lp1.length : Int))) <|
      gdO ((p2.tmod (lp1.length : Int)).toNat ≤ lp1.length ∧ lp1.length ≤ lp1.length) <|
      gdO (0 + (((lp1.drop ((p2.tmod (lp1.length : Int)).toNat)).take (lp1.length - ((p2.tmod (lp1.length : Int)).toNat))).length) ≤ 1000000000) <|
      gdO (0 ≤ (p2.tmod (lp1.length : Int)).toNat ∧ (p2.tmod (lp1.length : Int)).toNat ≤ lp1.length) <|
      gdO ((((lp1.drop ((p2.tmod (lp1.length : Int)).toNat)).take (lp1.length - ((p2.tmod (lp1.length : Int)).toNat))).length) + (((lp1.drop 0).take ((p2.tmod (lp1.length : Int)).toNat - 0)).length) ≤ 1000000000) <|
      some (((lp1.drop ((p2.tmod (lp1.length : Int)).toNat)).take (lp1.length - ((p2.tmod (lp1.length : Int)).toNat))) ++ ((lp1.drop 0).take ((p2.tmod (lp1.length : Int)).toNat - 0)), 0)
    else
      some ([], 6)
  else
    some ([], y69)
def F14j2 (same_655 : Bool) : Option Bool :=
  if same_655 = true then
    some true
  else
    some false
def F14j4 (same_803 : Bool) : Option Bool :=
  F14j2 same_803
def F14j5 (rec3 : Bool → Int → Option Bool) (i_801 : Int) (same_838 : Bool) : Option Bool :=
  ckO (i_801 + 1) <|
  rec3 same_838 (i_801 + 1)
def F14b3 (lp0 : List Cl) (lp1 : List Cl) (rec3 : Bool → Int → Option Bool) (same_800 : Bool) (i_801 : Int) : Option Bool :=
  if same_800 = true then
    if i_801 < (lp0.length : Int) then
      gdO (0 ≤ i_801) <|
      bindO (lp0[(i_801).toNat]?) fun x839 =>
      bindO (lp1[(i_801).toNat]?) fun x846 =>
      if (decide (x839.fam = x846.fam) && decide (x839.hd = x846.hd) && decide (x839.fr = x846.fr) && decide (x839.to = x846.to)) = true then
        F14j5 rec3 i_801 true
      else
        F14j5 rec3 i_801 false
    else
      F14j4 true
  else
    if i_801 < (lp0.length : Int) then
      F14j4 false
    else
      F14j4 false
def F14l3 (lp0 : List Cl) (lp1 : List Cl) : Nat → Bool → Int → Option Bool
  | 0 => fun _ _ => none
  | m + 1 => F14b3 lp0 lp1 (F14l3 lp0 lp1 m)
def F14j1 (lp0 : List Cl) (lp1 : List Cl) (N : Nat) (same_437 : Bool) : Option Bool :=
  F14l3 lp0 lp1 N same_437 0
def F14 (N : Nat) (lp0 : List Cl) (lp1 : List Cl) : Option Bool :=
  if (lp0.length : Int) = (lp1.length : Int) then
    F14j1 lp0 lp1 N true
  else
    F14j1 lp0 lp1 N false
def F15 (N : Nat) (lp0_0 : List Ch) (lp0_1 : List Ce) : Option Int :=
  bindS (F62 N lp0_0 lp0_1)
    (fun y38 =>
      some 42)
    (fun y40 =>
      some 0)
def F3j2 (lp0_0 : List Ch) (lp0_1 : List Ce) (lp1 : List Cl) (p2_0 : Int) (p2_1 : Int) (p2_2 : Int) (p2_3 : Int) (p2_4 : Int) (p2_5 : Int) (p2_6 : Int) (p2_7 : Int) (p2_8 : Int) (p2_9 : Int) (N : Nat) (v98 : Bool) (y105 : (List Cl × Int)) (y117 : (List Cl × Int)) (v125 : Bool) : Option Bool :=
  if v98 = true then
    if v125 = true then
      if y105.2 = y117.2 then
        bindO (F15 N lp0_0 lp0_1) fun y150 =>
        bindO (F16 N lp0_0 lp0_1) fun y152 =>
        if y150 = y152 then
          bindO (F17 N lp0_0 lp0_1 lp1) fun y154 =>
          bindO (F18 N lp0_0 lp0_1 lp1) fun y156 =>
          if y154 = y156 then
            bindO (F19 (⟨p2_0, p2_1, p2_2⟩ : Ch)) fun y171 =>
            bindO (F20 (⟨p2_0, p2_1, p2_2⟩ : Ch)) fun y173 =>
            if y171 = y173 then
              bindO (F21 (⟨p2_3, p2_4, p2_5⟩ : Ce)) fun y175 =>
              bindO (F22 (⟨p2_3, p2_4, p2_5⟩ : Ce)) fun y177 =>
              if y175 = y177 then
                bindO (F23 (⟨p2_6, p2_7, p2_8, p2_9⟩ : Cl)) fun y179 =>
                bindO (F24 (⟨p2_6, p2_7, p2_8, p2_9⟩ : Cl)) fun y181 =>
                if y179 = y181 then
                  some true
                else
                  some false
              else
                some false
            else
              some false
          else
            some false
        else
          some false
      else
        some false
    else
      some false
  else
    if v125 = true then
      some false
    else
      some false
def F3j1 (lp0_0 : List Ch) (lp0_1 : List Ce) (lp1 : List Cl) (p2_0 : Int) (p2_1 : Int) (p2_2 : Int) (p2_3 : Int) (p2_4 : Int) (p2_5 : Int) (p2_6 : Int) (p2_7 : Int) (p2_8 : Int) (p2_9 : Int) (p2_10 : Int) (N : Nat) (v98 : Bool) : Option Bool :=
  bindO (F12 N lp0_0 lp0_1 lp1 p2_10) fun y105 =>
  bindO (F13 N lp0_0 lp0_1 lp1 p2_10) fun y117 =>
  bindO (F14 N y105.1 y117.1) fun y183 =>
  if y183 = true then
    F3j2 lp0_0 lp0_1 lp1 p2_0 p2_1 p2_2 p2_3 p2_4 p2_5 p2_6 p2_7 p2_8 p2_9 N v98 y105 y117 true
  else
    F3j2 lp0_0 lp0_1 lp1 p2_0 p2_1 p2_2 p2_3 p2_4 p2_5 p2_6 p2_7 p2_8 p2_9 N v98 y105 y117 false
def F3 (N : Nat) (lp0_0 : List Ch) (lp0_1 : List Ce) (lp1 : List Cl) (p2_0 : Int) (p2_1 : Int) (p2_2 : Int) (p2_3 : Int) (p2_4 : Int) (p2_5 : Int) (p2_6 : Int) (p2_7 : Int) (p2_8 : Int) (p2_9 : Int) (p2_10 : Int) : Option Bool :=
  bindO (F11 N) fun y185 =>
  if y185 = true then
    F3j1 lp0_0 lp0_1 lp1 p2_0 p2_1 p2_2 p2_3 p2_4 p2_5 p2_6 p2_7 p2_8 p2_9 p2_10 N true
  else
    F3j1 lp0_0 lp0_1 lp1 p2_0 p2_1 p2_2 p2_3 p2_4 p2_5 p2_6 p2_7 p2_8 p2_9 p2_10 N false
def F69 (lp0_0 : List Ch) (lp0_1 : List Ce) (p1 : Dr) : Option Bool :=
  bindO (F61 p1.fr 0 p1.to) fun y13 =>
  if y13 = true then
    if p1.to < (lp0_1.length : Int) then
      some true
    else
      some false
  else
    some false
def F70b1 (lp0_0 : List Ch) (lp1 : List Int) (rec1 : Int → Int → Int → Option (Int × Int)) (out_1088 : Int) (out_1089 : Int) (k_1090 : Int) : Option (Int × Int) :=
  if k_1090 < (lp1.length : Int) then
    gdO (0 ≤ k_1090) <|
    bindO (lp1[(k_1090).toNat]?) fun x1163 =>
    bindO (lp0_0[(k_1090).toNat]?) fun x1170 =>
    ckO (x1163 * x1170.lo) <|
    ckO (x1163 * x1170.hi) <|
    ckO (out_1088 + (if (x1163 * x1170.hi) < (x1163 * x1170.lo) then (x1163 * x1170.hi) else (x1163 * x1170.lo))) <|
    ckO (out_1089 + (if (x1163 * x1170.hi) > (x1163 * x1170.lo) then (x1163 * x1170.hi) else (x1163 * x1170.lo))) <|
    ckO (k_1090 + 1) <|
    rec1 (out_1088 + (if (x1163 * x1170.hi) < (x1163 * x1170.lo) then (x1163 * x1170.hi) else (x1163 * x1170.lo))) (out_1089 + (if (x1163 * x1170.hi) > (x1163 * x1170.lo) then (x1163 * x1170.hi) else (x1163 * x1170.lo))) (k_1090 + 1)
  else
    some (out_1088, out_1089)
def F70l1 (lp0_0 : List Ch) (lp1 : List Int) : Nat → Int → Int → Int → Option (Int × Int)
  | 0 => fun _ _ _ => none
  | m + 1 => F70b1 lp0_0 lp1 (F70l1 lp0_0 lp1 m)
def F70 (N : Nat) (lp0_0 : List Ch) (lp0_1 : List Ce) (lp1 : List Int) : Option (Int × Int) :=
  F70l1 lp0_0 lp1 N 0 0 0
def F71b1 (lp0_0 : List Ch) (lp0_1 : List Ce) (p1 : Dr) (N : Nat) (rec1 : List Int → Int → Option (List Int)) (out_889 : List Int) (i_894 : Int) : Option (List Int) :=
  if i_894 ≤ p1.to then
    gdO (0 ≤ i_894) <|
    bindO (lp0_1[(i_894).toNat]?) fun x947 =>
    bindO (F63 N lp0_0 lp0_1 x947.ch) fun y954 =>
    gdO (0 ≤ y954) <|
    bindO (out_889[(y954).toNat]?) fun x961 =>
    ckO (x961 + x947.ln) <|
    ckO (i_894 + 1) <|
    rec1 ((out_889).set ((y954).toNat) (x961 + x947.ln)) (i_894 + 1)
  else
    some out_889
def F71l1 (lp0_0 : List Ch) (lp0_1 : List Ce) (p1 : Dr) (N : Nat) : Nat → List Int → Int → Option (List Int)
  | 0 => fun _ _ => none
  | m + 1 => F71b1 lp0_0 lp0_1 p1 N (F71l1 lp0_0 lp0_1 p1 N m)
def F71 (N : Nat) (lp0_0 : List Ch) (lp0_1 : List Ce) (p1 : Dr) : Option (List Int) :=
  gdO (0 ≤ (lp0_0.length : Int)) <|
  gdO ((lp0_0.length : Int) ≤ 1000000) <|
  F71l1 lp0_0 lp0_1 p1 N N (List.replicate ((lp0_0.length : Int)).toNat (0 : Int)) p1.fr
def F26 (N : Nat) (lp0_0 : List Ch) (lp0_1 : List Ce) (p1 : Dr) : Option (Int × Int × Int) :=
  bindO (F16 N lp0_0 lp0_1) fun y53 =>
  if y53 = 0 then
    bindO (F69 lp0_0 lp0_1 p1) fun y61 =>
    if y61 = true then
      bindO (F71 N lp0_0 lp0_1 p1) fun y75 =>
      bindO (F70 N lp0_0 lp0_1 y75) fun y81 =>
      some (y81.1, y81.2, 0)
    else
      some (0, 0, 45)
  else
    some (0, 0, 42)
def F28j1 (lp0_0 : List Ch) (lp0_1 : List Ce) (N : Nat) (n_462 : List Int) : Option (Int × Int) :=
  bindO (F70 N lp0_0 lp0_1 n_462) fun y470 =>
  if 0 < y470.1 then
    some (1, 0)
  else
    if y470.2 ≤ 0 then
      some (0, 0)
    else
      some (2, 0)
def F28b2 (lp0_0 : List Ch) (lp0_1 : List Ce) (N : Nat) (y340 : List Int) (rec2 : List Int → Int → Option (Int × Int)) (n_547 : List Int) (k_556 : Int) : Option (Int × Int) :=
  if k_556 < (n_547.length : Int) then
    gdO (0 ≤ k_556) <|
    bindO (n_547[(k_556).toNat]?) fun x573 =>
    bindO (y340[(k_556).toNat]?) fun x577 =>
    ckO (x573 - x577) <|
    ckO (k_556 + 1) <|
    rec2 ((n_547).set ((k_556).toNat) (x573 - x577)) (k_556 + 1)
  else
    F28j1 lp0_0 lp0_1 N n_547
def F28l2 (lp0_0 : List Ch) (lp0_1 : List Ce) (N : Nat) (y340 : List Int) : Nat → List Int → Int → Option (Int × Int)
  | 0 => fun _ _ => none
  | m + 1 => F28b2 lp0_0 lp0_1 N y340 (F28l2 lp0_0 lp0_1 N y340 m)
def F28 (N : Nat) (lp0_0 : List Ch) (lp0_1 : List Ce) (p1 : Dr) (p2 : Dr) : Option (Int × Int) :=
  bindO (F16 N lp0_0 lp0_1) fun y304 =>
  if y304 = 0 then
    bindO (F69 lp0_0 lp0_1 p1) fun y318 =>
    if y318 = true then
      bindO (F69 lp0_0 lp0_1 p2) fun y320 =>
      if y320 = true then
        bindO (F71 N lp0_0 lp0_1 p1) fun y328 =>
        bindO (F71 N lp0_0 lp0_1 p2) fun y340 =>
        F28l2 lp0_0 lp0_1 N y340 N y328 0
      else
        some (0, 45)
    else
      some (0, 45)
  else
    some (0, 42)
def F72b1 (lp0_0 : List Ch) (lp1 : List Int) (rec1 : Int → Option Bool) (v1022 : Int) : Option Bool :=
  if v1022 < (lp0_0.length : Int) then
    gdO (0 ≤ v1022) <|
    bindO (lp0_0[(v1022).toNat]?) fun x1069 =>
    bindO (lp1[(v1022).toNat]?) fun x1096 =>
    bindO (F59 x1096 x1069.lo x1069.hi) fun y1103 =>
    if y1103 = true then
      ckO (v1022 + 1) <|
      rec1 (v1022 + 1)
    else
      some false
  else
    some true
def F72l1 (lp0_0 : List Ch) (lp1 : List Int) : Nat → Int → Option Bool
  | 0 => fun _ => none
  | m + 1 => F72b1 lp0_0 lp1 (F72l1 lp0_0 lp1 m)
def F72 (N : Nat) (lp0_0 : List Ch) (lp0_1 : List Ce) (Mp0_2 : Int → Option Int) (lp1 : List Int) : Option Bool :=
  if (lp1.length : Int) = (lp0_0.length : Int) then
    F72l1 lp0_0 lp1 N 0
  else
    some false
def F29j1 (N : Nat) (lengths_476 : List Int) : Option (Int × Int) :=
  bindO (F74 N lengths_476) fun y483 =>
  some (y483, 0)
def F29b2 (lp1 : List Int) (N : Nat) (y491 : List Int) (rec2 : List Int → Int → Option (Int × Int)) (lengths_571 : List Int) (v580 : Int) : Option (Int × Int) :=
  if v580 < (y491.length : Int) then
    gdO (0 ≤ v580) <|
    bindO (y491[(v580).toNat]?) fun x597 =>
    bindO (lp1[(v580).toNat]?) fun x601 =>
    ckO (x597 * x601) <|
    gdO (lengths_571.length + 1 ≤ 1000000000) <|
    ckO (v580 + 1) <|
    rec2 (lengths_571 ++ [x597 * x601]) (v580 + 1)
  else
    F29j1 N lengths_571
def F29l2 (lp1 : List Int) (N : Nat) (y491 : List Int) : Nat → List Int → Int → Option (Int × Int)
  | 0 => fun _ _ => none
  | m + 1 => F29b2 lp1 N y491 (F29l2 lp1 N y491 m)
def F29 (N : Nat) (lp0_0 : List Ch) (lp0_1 : List Ce) (lp1 : List Int) (p2 : Dr) : Option (Int × Int) :=
  bindS (F62 N lp0_0 lp0_1)
    (fun y321 =>
      some (0, 42))
    (fun y323 =>
      bindO (F72 N lp0_0 lp0_1 y323 lp1) fun y338 =>
      if y338 = true then
        bindO (F73 lp0_0 lp0_1 y323 p2) fun y346 =>
        if y346 = true then
          bindO (F68 N lp0_0 lp0_1 y323 p2) fun y491 =>
          F29l2 lp1 N y491 N [] 0
        else
          some (0, 45)
      else
        some (0, 1))
def F75b1 (lp0_0 : List Ch) (lp1 : List Int) (rec1 : Int → Option Bool) (k_1594 : Int) : Option Bool :=
  if k_1594 < (lp1.length : Int) then
    gdO (0 ≤ k_1594) <|
    bindO (lp1[(k_1594).toNat]?) fun x1703 =>
    bindO (lp0_0[(k_1594).toNat]?) fun x1710 =>
    bindO (F61 x1703 x1710.lo x1710.hi) fun y1717 =>
    if y1717 = true then
      ckO (k_1594 + 1) <|
      rec1 (k_1594 + 1)
    else
      some false
  else
    some true
def F75l1 (lp0_0 : List Ch) (lp1 : List Int) : Nat → Int → Option Bool
  | 0 => fun _ => none
  | m + 1 => F75b1 lp0_0 lp1 (F75l1 lp0_0 lp1 m)
def F75 (N : Nat) (lp0_0 : List Ch) (lp0_1 : List Ce) (lp1 : List Int) : Option Bool :=
  if (lp1.length : Int) = (lp0_0.length : Int) then
    F75l1 lp0_0 lp1 N 0
  else
    some false
def F30b1 (lp1 : List Int) (y312 : List Int) (rec1 : Int → Int → Option (Int × Int)) (out_521 : Int) (k_522 : Int) : Option (Int × Int) :=
  if k_522 < (y312.length : Int) then
    gdO (0 ≤ k_522) <|
    bindO (y312[(k_522).toNat]?) fun x541 =>
    bindO (lp1[(k_522).toNat]?) fun x545 =>
    ckO (x541 * x545) <|
    ckO (out_521 + (x541 * x545)) <|
    ckO (k_522 + 1) <|
    rec1 (out_521 + (x541 * x545)) (k_522 + 1)
  else
    some (out_521, 0)
def F30l1 (lp1 : List Int) (y312 : List Int) : Nat → Int → Int → Option (Int × Int)
  | 0 => fun _ _ => none
  | m + 1 => F30b1 lp1 y312 (F30l1 lp1 y312 m)
def F30 (N : Nat) (lp0_0 : List Ch) (lp0_1 : List Ce) (lp1 : List Int) (p2 : Dr) : Option (Int × Int) :=
  bindO (F16 N lp0_0 lp0_1) fun y288 =>
  if y288 = 0 then
    bindO (F75 N lp0_0 lp0_1 lp1) fun y296 =>
    if y296 = true then
      bindO (F69 lp0_0 lp0_1 p2) fun y304 =>
      if y304 = true then
        bindO (F71 N lp0_0 lp0_1 p2) fun y312 =>
        F30l1 lp1 y312 N 0 0
      else
        some (0, 45)
    else
      some (0, 1)
  else
    some (0, 42)
def F31 (N : Nat) (lp0_0 : List Ch) (lp0_1 : List Ce) (p1 : Dr) : Option (Int × Int) :=
  bindS3 (F66 N lp0_0 lp0_1 [(⟨p1.fr, p1.to⟩ : Dr)])
    (fun y57 =>
      some (0, 42))
    (fun y59 =>
      some (0, 45))
    (fun y61 =>
      bindO (F76 N lp0_0 lp0_1 y61 p1) fun y73 =>
      some (y73, 0))
def F77b1 (lp0_1 : List Ce) (p2 : Int) (rec1 : Int → Int → Option Int) (out_173 : Int) (i_174 : Int) : Option Int :=
  if i_174 ≤ p2 then
    if i_174 < (lp0_1.length : Int) then
      gdO (0 ≤ i_174) <|
      bindO (lp0_1[(i_174).toNat]?) fun x182 =>
      ckO (out_173 + x182.wo) <|
      ckO (i_174 + 1) <|
      rec1 (out_173 + x182.wo) (i_174 + 1)
    else
      some out_173
  else
    some out_173
def F77l1 (lp0_1 : List Ce) (p2 : Int) : Nat → Int → Int → Option Int
  | 0 => fun _ _ => none
  | m + 1 => F77b1 lp0_1 p2 (F77l1 lp0_1 p2 m)
def F77 (N : Nat) (lp0_0 : List Ch) (lp0_1 : List Ce) (p1 : Int) (p2 : Int) : Option Int :=
  F77l1 lp0_1 p2 N 0 p1
def F32 (N : Nat) (lp0_0 : List Ch) (lp0_1 : List Ce) (p1 : Dr) : Option (Int × Int) :=
  bindO (F16 N lp0_0 lp0_1) fun y31 =>
  if y31 = 0 then
    bindO (F69 lp0_0 lp0_1 p1) fun y39 =>
    if y39 = true then
      bindO (F77 N lp0_0 lp0_1 p1.fr p1.to) fun y43 =>
      some (y43, 0)
    else
      some (0, 45)
  else
    some (0, 42)
def F33 (p0 : Gn) (p1 : Gn) : Option (Int × Int) :=
  bindO (F78 p0) fun y37 =>
  if y37 = true then
    bindO (F78 p1) fun y39 =>
    if y39 = true then
      bindO (F79 p0 p1) fun y43 =>
      some (y43, 0)
    else
      some (0, 1)
  else
    some (0, 1)
def F53 (p0 : Gn) (p1 : Gn) : Option Bool :=
  ckO (p0.num * p1.den) <|
  ckO (p1.num * p0.den) <|
  if (p0.num * p1.den) < (p1.num * p0.den) then
    some true
  else
    some false
def F80 (p0 : Gn) : Option Bool :=
  bindO (F61 p0.num 0 1000000) fun y17 =>
  if y17 = true then
    bindO (F61 p0.den 1 1000000) fun y19 =>
    some y19
  else
    some false
def F34 (p0 : Gn) (p1 : Gn) : Option (Int × Int) :=
  bindO (F80 p0) fun y49 =>
  if y49 = true then
    bindO (F80 p1) fun y51 =>
    if y51 = true then
      bindO (F53 p0 p1) fun y59 =>
      if y59 = true then
        some (-1, 0)
      else
        bindO (F53 p1 p0) fun y67 =>
        if y67 = true then
          some (1, 0)
        else
          some (0, 0)
    else
      some (0, 1)
  else
    some (0, 1)
def F4j1 (lp0_0 : List Ch) (lp0_1 : List Ce) (p1_0 : Int) (p1_1 : Int) (p1_2 : Int) (p1_3 : Int) (p1_4 : Int) (p1_5 : Int) (p1_6 : Int) (p1_7 : Int) (lp1_8 : List Int) (N : Nat) (v57 : Bool) : Option Bool :=
  bindO (F25 N lp0_0 lp0_1 (⟨p1_0, p1_1⟩ : Dr)) fun y61 =>
  bindO (F26 N lp0_0 lp0_1 (⟨p1_0, p1_1⟩ : Dr)) fun y67 =>
  bindO (F27 N lp0_0 lp0_1 (⟨p1_0, p1_1⟩ : Dr) (⟨p1_2, p1_3⟩ : Dr)) fun y72 =>
  bindO (F28 N lp0_0 lp0_1 (⟨p1_0, p1_1⟩ : Dr) (⟨p1_2, p1_3⟩ : Dr)) fun y76 =>
  bindO (F29 N lp0_0 lp0_1 lp1_8 (⟨p1_0, p1_1⟩ : Dr)) fun y80 =>
  bindO (F30 N lp0_0 lp0_1 lp1_8 (⟨p1_0, p1_1⟩ : Dr)) fun y84 =>
  bindO (F31 N lp0_0 lp0_1 (⟨p1_2, p1_3⟩ : Dr)) fun y88 =>
  bindO (F32 N lp0_0 lp0_1 (⟨p1_2, p1_3⟩ : Dr)) fun y92 =>
  bindO (F33 (⟨p1_4, p1_5⟩ : Gn) (⟨p1_6, p1_7⟩ : Gn)) fun y96 =>
  bindO (F34 (⟨p1_4, p1_5⟩ : Gn) (⟨p1_6, p1_7⟩ : Gn)) fun y100 =>
  if v57 = true then
    if (decide (y61.1 = y67.1) && decide (y61.2.1 = y67.2.1)) = true then
      if y61.2.2 = y67.2.2 then
        if y72.1 = y76.1 then
          if y72.2 = y76.2 then
            if y80.1 = y84.1 then
              if y80.2 = y84.2 then
                if y88.1 = y92.1 then
                  if y88.2 = y92.2 then
                    if y96.1 = y100.1 then
                      if y96.2 = y100.2 then
                        some true
                      else
                        some false
                    else
                      some false
                  else
                    some false
                else
                  some false
              else
                some false
            else
              some false
          else
            some false
        else
          some false
      else
        some false
    else
      some false
  else
    some false
def F4 (N : Nat) (lp0_0 : List Ch) (lp0_1 : List Ce) (p1_0 : Int) (p1_1 : Int) (p1_2 : Int) (p1_3 : Int) (p1_4 : Int) (p1_5 : Int) (p1_6 : Int) (p1_7 : Int) (lp1_8 : List Int) : Option Bool :=
  bindO (F11 N) fun y103 =>
  if y103 = true then
    F4j1 lp0_0 lp0_1 p1_0 p1_1 p1_2 p1_3 p1_4 p1_5 p1_6 p1_7 lp1_8 N true
  else
    F4j1 lp0_0 lp0_1 p1_0 p1_1 p1_2 p1_3 p1_4 p1_5 p1_6 p1_7 lp1_8 N false
def F81b1 (lp0_3 : List Cl) (lp1 : List Dr) (rec1 : Int → Int → Option Bool) (next_369 : Int) (v370 : Int) : Option Bool :=
  if v370 < (lp1.length : Int) then
    gdO (0 ≤ v370) <|
    bindO (lp1[(v370).toNat]?) fun x387 =>
    bindO (lp0_3[(v370).toNat]?) fun x395 =>
    if x387.fr < (if x395.fr > next_369 then x395.fr else next_369) then
      some false
    else
      if x387.to < x387.fr then
        some false
      else
        if x395.to < x387.to then
          some false
        else
          ckO (x387.to + 1) <|
          ckO (v370 + 1) <|
          rec1 (x387.to + 1) (v370 + 1)
  else
    some true
def F81l1 (lp0_3 : List Cl) (lp1 : List Dr) : Nat → Int → Int → Option Bool
  | 0 => fun _ _ => none
  | m + 1 => F81b1 lp0_3 lp1 (F81l1 lp0_3 lp1 m)
def F81 (N : Nat) (lp0_0 : List Ch) (lp0_1 : List Ce) (Mp0_2 : Int → Option Int) (lp0_3 : List Cl) (lp1 : List Dr) : Option Bool :=
  if (lp1.length : Int) = (lp0_3.length : Int) then
    F81l1 lp0_3 lp1 N 0 0
  else
    some false
def F35b1 (y369 : List Gn) (rec1 : List Gn → Int → Option (List Gn × Int)) (gains_425 : List Gn) (v434 : Int) : Option (List Gn × Int) :=
  if v434 < (y369.length : Int) then
    gdO (0 ≤ v434) <|
    bindO (y369[(v434).toNat]?) fun x445 =>
    gdO (gains_425.length + 1 ≤ 1000000000) <|
    ckO (v434 + 1) <|
    rec1 (gains_425 ++ [(⟨x445.num, x445.den⟩ : Gn)]) (v434 + 1)
  else
    some (gains_425, 0)
def F35l1 (y369 : List Gn) : Nat → List Gn → Int → Option (List Gn × Int)
  | 0 => fun _ _ => none
  | m + 1 => F35b1 y369 (F35l1 y369 m)
def F35 (N : Nat) (lp0_0 : List Ch) (lp0_1 : List Ce) (lp1 : List Cl) (lp2 : List Dr) : Option (List Gn × Int) :=
  bindS3 (F64 N lp0_0 lp0_1 lp1)
    (fun y244 =>
      some ([], 42))
    (fun y246 =>
      some ([], 44))
    (fun y248 =>
      bindO (F81 N lp0_0 lp0_1 y248 lp1 lp2) fun y264 =>
      if y264 = true then
        bindO (F82 N lp0_0 lp0_1 y248 lp1 lp2) fun y369 =>
        F35l1 y369 N [] 0
      else
        some ([], 46))
def F88j2 (rec1 : Int → Option Bool) (i_1998 : Int) : Option Bool :=
  ckO (i_1998 + 1) <|
  rec1 (i_1998 + 1)
def F88b1 (lp0_0 : List Ch) (lp0_1 : List Ce) (lp1 : List Cl) (lp2 : List Dr) (rec1 : Int → Option Bool) (i_1998 : Int) : Option Bool :=
  if i_1998 < (lp1.length : Int) then
    gdO (0 ≤ i_1998) <|
    bindO (lp2[(i_1998).toNat]?) fun x2109 =>
    bindO (F69 lp0_0 lp0_1 x2109) fun y2168 =>
    if y2168 = true then
      bindO (lp1[(i_1998).toNat]?) fun x2170 =>
      if x2109.fr < x2170.fr then
        some false
      else
        if x2170.to < x2109.to then
          some false
        else
          if 0 < i_1998 then
            ckO (i_1998 - 1) <|
            gdO (0 ≤ (i_1998 - 1)) <|
            bindO (lp2[(i_1998 - 1).toNat]?) fun x2187 =>
            if x2109.fr ≤ x2187.to then
              some false
            else
              F88j2 rec1 i_1998
          else
            F88j2 rec1 i_1998
    else
      some false
  else
    some true
def F88l1 (lp0_0 : List Ch) (lp0_1 : List Ce) (lp1 : List Cl) (lp2 : List Dr) : Nat → Int → Option Bool
  | 0 => fun _ => none
  | m + 1 => F88b1 lp0_0 lp0_1 lp1 lp2 (F88l1 lp0_0 lp0_1 lp1 lp2 m)
def F88 (N : Nat) (lp0_0 : List Ch) (lp0_1 : List Ce) (lp1 : List Cl) (lp2 : List Dr) : Option Bool :=
  if (lp2.length : Int) = (lp1.length : Int) then
    F88l1 lp0_0 lp0_1 lp1 lp2 N 0
  else
    some false
def F44 (N : Nat) (lp0_0 : List Ch) (lp0_1 : List Ce) (lp1 : List Cl) (lp2 : List Dr) : Option Int :=
  bindO (F18 N lp0_0 lp0_1 lp1) fun y17 =>
  if y17 = 0 then
    bindO (F88 N lp0_0 lp0_1 lp1 lp2) fun y25 =>
    if y25 = true then
      some y17
    else
      some 46
  else
    some y17
def F83j1 (p0 : Int) (p1 : Int) (a_16 : Int) : Option (Int × Int) :=
  gdO (0 < a_16) <|
  ckO (p0) <|
  ckO (p1) <|
  some (p0.tdiv a_16, p1.tdiv a_16)
def F83b2 (p0 : Int) (p1 : Int) (rec2 : Int → Int → Option (Int × Int)) (a_19 : Int) (b_20 : Int) : Option (Int × Int) :=
  if b_20 = 0 then
    F83j1 p0 p1 a_19
  else
    gdO (0 < b_20) <|
    rec2 b_20 (a_19.tmod b_20)
def F83l2 (p0 : Int) (p1 : Int) : Nat → Int → Int → Option (Int × Int)
  | 0 => fun _ _ => none
  | m + 1 => F83b2 p0 p1 (F83l2 p0 p1 m)
def F83 (N : Nat) (p0 : Int) (p1 : Int) : Option (Int × Int) :=
  F83l2 p0 p1 N p0 p1
def F36b1 (lp0_0 : List Ch) (lp0_1 : List Ce) (lp1 : List Cl) (lp2 : List Dr) (N : Nat) (rec1 : List Gn → Int → Option (List Gn × Int)) (out_899 : List Gn) (i_904 : Int) : Option (List Gn × Int) :=
  if i_904 < (lp1.length : Int) then
    gdO (0 ≤ i_904) <|
    bindO (lp2[(i_904).toNat]?) fun x943 =>
    bindO (F77 N lp0_0 lp0_1 x943.fr x943.to) fun y950 =>
    bindO (lp1[(i_904).toNat]?) fun x952 =>
    bindO (F83 N y950 x952.hd) fun y959 =>
    gdO (out_899.length + 1 ≤ 1000000000) <|
    ckO (i_904 + 1) <|
    rec1 (out_899 ++ [(⟨y959.1, y959.2⟩ : Gn)]) (i_904 + 1)
  else
    some (out_899, 0)
def F36l1 (lp0_0 : List Ch) (lp0_1 : List Ce) (lp1 : List Cl) (lp2 : List Dr) (N : Nat) : Nat → List Gn → Int → Option (List Gn × Int)
  | 0 => fun _ _ => none
  | m + 1 => F36b1 lp0_0 lp0_1 lp1 lp2 N (F36l1 lp0_0 lp0_1 lp1 lp2 N m)
def F36 (N : Nat) (lp0_0 : List Ch) (lp0_1 : List Ce) (lp1 : List Cl) (lp2 : List Dr) : Option (List Gn × Int) :=
  bindO (F44 N lp0_0 lp0_1 lp1 lp2) fun y494 =>
  if y494 = 0 then
    F36l1 lp0_0 lp0_1 lp1 lp2 N N [] 0
  else
    some ([], y494)
def F41j2 (same_655 : Bool) : Option Bool :=
  if same_655 = true then
    some true
  else
    some false
def F41j4 (same_803 : Bool) : Option Bool :=
  F41j2 same_803
def F41j5 (rec3 : Bool → Int → Option Bool) (i_801 : Int) (same_838 : Bool) : Option Bool :=
  ckO (i_801 + 1) <|
  rec3 same_838 (i_801 + 1)
def F41b3 (lp0 : List Gn) (lp1 : List Gn) (rec3 : Bool → Int → Option Bool) (same_800 : Bool) (i_801 : Int) : Option Bool :=
  if same_800 = true then
    if i_801 < (lp0.length : Int) then
      gdO (0 ≤ i_801) <|
      bindO (lp0[(i_801).toNat]?) fun x839 =>
      bindO (lp1[(i_801).toNat]?) fun x846 =>
      if (decide (x839.num = x846.num) && decide (x839.den = x846.den)) = true then
        F41j5 rec3 i_801 true
      else
        F41j5 rec3 i_801 false
    else
      F41j4 true
  else
    if i_801 < (lp0.length : Int) then
      F41j4 false
    else
      F41j4 false
def F41l3 (lp0 : List Gn) (lp1 : List Gn) : Nat → Bool → Int → Option Bool
  | 0 => fun _ _ => none
  | m + 1 => F41b3 lp0 lp1 (F41l3 lp0 lp1 m)
def F41j1 (lp0 : List Gn) (lp1 : List Gn) (N : Nat) (same_437 : Bool) : Option Bool :=
  F41l3 lp0 lp1 N same_437 0
def F41 (N : Nat) (lp0 : List Gn) (lp1 : List Gn) : Option Bool :=
  if (lp0.length : Int) = (lp1.length : Int) then
    F41j1 lp0 lp1 N true
  else
    F41j1 lp0 lp1 N false
def F43 (N : Nat) (lp0_0 : List Ch) (lp0_1 : List Ce) (lp1 : List Cl) (lp2 : List Dr) : Option Int :=
  bindS3 (F64 N lp0_0 lp0_1 lp1)
    (fun y55 =>
      some 42)
    (fun y57 =>
      some 44)
    (fun y59 =>
      bindO (F81 N lp0_0 lp0_1 y59 lp1 lp2) fun y75 =>
      if y75 = true then
        some 0
      else
        some 46)
def F45j1 (lp0_0 : List Ch) (lp0_1 : List Ce) (lp1 : List Cl) (p2 : Cw) (y62 : (Int → Option Int)) (inOrder_72 : Bool) : Option Int :=
  if inOrder_72 = true then
    bindO (F89 lp0_0 lp0_1 y62 lp1 p2.fst p2.lst) fun y79 =>
    if y79 = true then
      some 0
    else
      some 48
  else
    some 48
def F45 (N : Nat) (lp0_0 : List Ch) (lp0_1 : List Ce) (lp1 : List Cl) (p2 : Cw) : Option Int :=
  bindS3 (F64 N lp0_0 lp0_1 lp1)
    (fun y58 =>
      some 42)
    (fun y60 =>
      some 44)
    (fun y62 =>
      if 0 ≤ p2.fst then
        if p2.fst ≤ p2.lst then
          if p2.lst < (lp1.length : Int) then
            F45j1 lp0_0 lp0_1 lp1 p2 y62 true
          else
            F45j1 lp0_0 lp0_1 lp1 p2 y62 false
        else
          F45j1 lp0_0 lp0_1 lp1 p2 y62 false
      else
        F45j1 lp0_0 lp0_1 lp1 p2 y62 false)
def F46 (N : Nat) (lp0_0 : List Ch) (lp0_1 : List Ce) (lp1 : List Cl) (p2 : Cw) : Option Int :=
  bindO (F18 N lp0_0 lp0_1 lp1) fun y155 =>
  if y155 = 0 then
    bindO (F61 p2.fst 0 p2.lst) fun y265 =>
    if y265 = true then
      if (lp1.length : Int) ≤ p2.lst then
        some 48
      else
        gdO (0 ≤ p2.lst) <|
        bindO (lp1[(p2.lst).toNat]?) fun x267 =>
        gdO (0 ≤ p2.fst) <|
        bindO (lp1[(p2.fst).toNat]?) fun x274 =>
        ckO (x267.to - x274.fr) <|
        ckO ((x267.to - x274.fr) + 1) <|
        ckO (p2.lst - p2.fst) <|
        ckO ((p2.lst - p2.fst) + 1) <|
        if ((p2.lst - p2.fst) + 1) ≤ (if ((x267.to - x274.fr) + 1) > 0 then ((x267.to - x274.fr) + 1) else 0) then
          some 48
        else
          some 0
    else
      some 48
  else
    some y155
def F48j1 (lp1 : List Cl) (p2_0 : Int) (lp2_1 : List Int) : Option Int :=
  gdO (0 ≤ ((lp2_1.length : Int) - 1)) <|
  bindO (lp2_1[((lp2_1.length : Int) - 1).toNat]?) fun x2137 =>
  ckO (x2137 - 1) <|
  ckO (p2_0 + ((lp2_1.length : Int) - 1)) <|
  ckO ((p2_0 + ((lp2_1.length : Int) - 1)) - 1) <|
  gdO (0 ≤ ((p2_0 + ((lp2_1.length : Int) - 1)) - 1)) <|
  bindO (lp1[((p2_0 + ((lp2_1.length : Int) - 1)) - 1).toNat]?) fun x2144 =>
  if (x2137 - 1) ≤ x2144.to then
    some 49
  else
    some 0
def F48b2 (lp0_0 : List Ch) (lp0_1 : List Ce) (lp1 : List Cl) (p2_0 : Int) (lp2_1 : List Int) (p2_2 : Int) (p2_3 : Int) (N : Nat) (rec2 : Int → Option Int) (v2508 : Int) : Option Int :=
  if v2508 < ((lp2_1.length : Int) - 1) then
    ckO (p2_0 + v2508) <|
    gdO (0 ≤ (p2_0 + v2508)) <|
    bindO (lp1[(p2_0 + v2508).toNat]?) fun x2605 =>
    gdO (0 ≤ v2508) <|
    bindO (lp2_1[(v2508).toNat]?) fun x2625 =>
    ckO (v2508 + 1) <|
    gdO (0 ≤ (v2508 + 1)) <|
    bindO (lp2_1[(v2508 + 1).toNat]?) fun x2669 =>
    ckO ((if x2605.fr > x2625 then x2605.fr else x2625) + 1) <|
    bindO (F61 x2669 ((if x2605.fr > x2625 then x2605.fr else x2625) + 1) 25) fun y2676 =>
    if y2676 = true then
      ckO (x2605.hd * p2_2) <|
      bindO (F83 N (x2605.hd * p2_2) p2_3) fun y2678 =>
      ckO (x2669 - 2) <|
      bindO (F77 N lp0_0 lp0_1 (if x2605.fr > x2625 then x2605.fr else x2625) (x2669 - 2)) fun y2680 =>
      bindO (F83 N y2680 1) fun y2682 =>
      bindO (F53 (⟨y2678.1, y2678.2⟩ : Gn) (⟨y2682.1, y2682.2⟩ : Gn)) fun y2684 =>
      if y2684 = true then
        some 49
      else
        rec2 (v2508 + 1)
    else
      some 49
  else
    F48j1 lp1 p2_0 lp2_1
def F48l2 (lp0_0 : List Ch) (lp0_1 : List Ce) (lp1 : List Cl) (p2_0 : Int) (lp2_1 : List Int) (p2_2 : Int) (p2_3 : Int) (N : Nat) : Nat → Int → Option Int
  | 0 => fun _ => none
  | m + 1 => F48b2 lp0_0 lp0_1 lp1 p2_0 lp2_1 p2_2 p2_3 N (F48l2 lp0_0 lp0_1 lp1 p2_0 lp2_1 p2_2 p2_3 N m)
def F48 (N : Nat) (lp0_0 : List Ch) (lp0_1 : List Ce) (lp1 : List Cl) (p2_0 : Int) (lp2_1 : List Int) (p2_2 : Int) (p2_3 : Int) : Option Int :=
  bindO (F18 N lp0_0 lp0_1 lp1) fun y1360 =>
  if y1360 = 0 then
    bindO (F80 (⟨p2_2, p2_3⟩ : Gn)) fun y1368 =>
    if y1368 = true then
      ckO ((lp2_1.length : Int) - 1) <|
      if ((lp2_1.length : Int) - 1) < 1 then
        some 49
      else
        if (lp1.length : Int) < ((lp2_1.length : Int) - 1) then
          some 49
        else
          ckO ((lp1.length : Int) - ((lp2_1.length : Int) - 1)) <|
          bindO (F61 p2_0 0 ((lp1.length : Int) - ((lp2_1.length : Int) - 1))) fun y1479 =>
          if y1479 = true then
            bindO (lp2_1[0]?) fun x1481 =>
            gdO (0 ≤ p2_0) <|
            bindO (lp1[(p2_0).toNat]?) fun x1488 =>
            if x1481 = x1488.fr then
              F48l2 lp0_0 lp0_1 lp1 p2_0 lp2_1 p2_2 p2_3 N N 0
            else
              some 49
          else
            some 49
    else
      some 1
  else
    some y1360
def F50 (N : Nat) (lp0_0 : List Ch) (lp0_1 : List Ce) (lp1 : List Cl) : Option (Int × List Int × Int) :=
  bindO (F84 N lp0_0 lp0_1 lp1) fun y38 =>
  some (0, y38.2.2.2.1, y38.2.2.2.2)
def F56 (p0 : Int) (p1 : Int) : Option Int :=
  gdO (0 < p1) <|
  ckO ((p0.tmod p1) + p1) <|
  some (((p0.tmod p1) + p1).tmod p1)
def F54j6 (rec3 : List Cl → Int → Option (List Ch × List Ce × List Cl)) (u2444 : List Cl) (v2449 : Int) (y2507 : Int) (y2509 : Int) (v2515 : Int) : Option (List Ch × List Ce × List Cl) :=
  gdO (u2444.length + 1 ≤ 1000000000) <|
  ckO (v2449 + 1) <|
  rec3 (u2444 ++ [(⟨3 + (2 * v2449), 1 + y2507, y2509, v2515⟩ : Cl)]) (v2449 + 1)
def F54j5 (rec3 : List Cl → Int → Option (List Ch × List Ce × List Cl)) (u2016 : List Ce) (u2444 : List Cl) (v2449 : Int) (v2498 : Int) (v2499 : Int) (v2500 : Int) : Option (List Ch × List Ce × List Cl) :=
  ckO (2 * v2449) <|
  ckO (3 + (2 * v2449)) <|
  bindO (F56 v2498 4) fun y2507 =>
  ckO (1 + y2507) <|
  bindO (F56 v2499 (u2016.length : Int)) fun y2509 =>
  ckO ((u2016.length : Int) - y2509) <|
  bindO (F56 v2500 ((u2016.length : Int) - y2509)) fun y2521 =>
  ckO (y2509 + y2521) <|
  F54j6 rec3 u2444 v2449 y2507 y2509 (y2509 + y2521)
def F54j4 (lp0_2 : List A3) (rec3 : List Cl → Int → Option (List Ch × List Ce × List Cl)) (u2016 : List Ce) (u2444 : List Cl) (v2449 : Int) : Option (List Ch × List Ce × List Cl) :=
  if v2449 < (lp0_2.length : Int) then
    gdO (0 ≤ v2449) <|
    bindO (lp0_2[(v2449).toNat]?) fun x2523 =>
    F54j5 rec3 u2016 u2444 v2449 x2523.a x2523.b x2523.c
  else
    F54j5 rec3 u2016 u2444 v2449 0 0 0
def F54b3 (lp0_2 : List A3) (u1720 : List Ch) (u2016 : List Ce) (rec3 : List Cl → Int → Option (List Ch × List Ce × List Cl)) (u2444 : List Cl) (v2449 : Int) : Option (List Ch × List Ce × List Cl) :=
  if v2449 < (lp0_2.length : Int) then
    if v2449 < 6 then
      F54j4 lp0_2 rec3 u2016 u2444 v2449
    else
      if v2449 = 0 then
        F54j4 lp0_2 rec3 u2016 u2444 v2449
      else
        some (u1720, u2016, u2444)
  else
    if v2449 = 0 then
      F54j4 lp0_2 rec3 u2016 u2444 v2449
    else
      some (u1720, u2016, u2444)
def F54l3 (lp0_2 : List A3) (u1720 : List Ch) (u2016 : List Ce) : Nat → List Cl → Int → Option (List Ch × List Ce × List Cl)
  | 0 => fun _ _ => none
  | m + 1 => F54b3 lp0_2 u1720 u2016 (F54l3 lp0_2 u1720 u2016 m)
def F54j2 (lp0_2 : List A3) (N : Nat) (u1720 : List Ch) (u2016 : List Ce) : Option (List Ch × List Ce × List Cl) :=
  F54l3 lp0_2 u1720 u2016 N [] 0
def F54j9 (rec7 : List Ce → Int → Option (List Ch × List Ce × List Cl)) (v2727 : Int) (u2772 : List Ce) : Option (List Ch × List Ce × List Cl) :=
  ckO (v2727 + 1) <|
  rec7 u2772 (v2727 + 1)
def F54j10 (rec7 : List Ce → Int → Option (List Ch × List Ce × List Cl)) (u1720 : List Ch) (u2722 : List Ce) (v2727 : Int) (v2785 : Int) (v2786 : Int) (v2787 : Int) : Option (List Ch × List Ce × List Cl) :=
  bindO (F56 v2785 (u1720.length : Int)) fun y2788 =>
  ckO (1 + y2788) <|
  bindO (F56 v2786 9) fun y2790 =>
  ckO (1 + y2790) <|
  bindO (F56 v2787 12) fun y2792 =>
  gdO (u2722.length + 1 ≤ 1000000000) <|
  F54j9 rec7 v2727 (u2722 ++ [(⟨1 + y2788, 1 + y2790, y2792⟩ : Ce)])
def F54j8 (lp0_1 : List A3) (rec7 : List Ce → Int → Option (List Ch × List Ce × List Cl)) (u1720 : List Ch) (u2722 : List Ce) (v2727 : Int) : Option (List Ch × List Ce × List Cl) :=
  if v2727 < (lp0_1.length : Int) then
    gdO (0 ≤ v2727) <|
    bindO (lp0_1[(v2727).toNat]?) fun x2814 =>
    F54j10 rec7 u1720 u2722 v2727 x2814.a x2814.b x2814.c
  else
    F54j10 rec7 u1720 u2722 v2727 0 0 0
def F54j11 (lp0_2 : List A3) (N : Nat) (u1720 : List Ch) (u2722 : List Ce) : Option (List Ch × List Ce × List Cl) :=
  F54j2 lp0_2 N u1720 u2722
def F54b7 (lp0_1 : List A3) (lp0_2 : List A3) (N : Nat) (u1720 : List Ch) (rec7 : List Ce → Int → Option (List Ch × List Ce × List Cl)) (u2722 : List Ce) (v2727 : Int) : Option (List Ch × List Ce × List Cl) :=
  if v2727 < (lp0_1.length : Int) then
    if v2727 < 10 then
      F54j8 lp0_1 rec7 u1720 u2722 v2727
    else
      if v2727 = 0 then
        F54j8 lp0_1 rec7 u1720 u2722 v2727
      else
        F54j11 lp0_2 N u1720 u2722
  else
    if v2727 = 0 then
      F54j8 lp0_1 rec7 u1720 u2722 v2727
    else
      F54j11 lp0_2 N u1720 u2722
def F54l7 (lp0_1 : List A3) (lp0_2 : List A3) (N : Nat) (u1720 : List Ch) : Nat → List Ce → Int → Option (List Ch × List Ce × List Cl)
  | 0 => fun _ _ => none
  | m + 1 => F54b7 lp0_1 lp0_2 N u1720 (F54l7 lp0_1 lp0_2 N u1720 m)
def F54j1 (lp0_1 : List A3) (lp0_2 : List A3) (N : Nat) (u1720 : List Ch) : Option (List Ch × List Ce × List Cl) :=
  F54l7 lp0_1 lp0_2 N u1720 N [] 0
def F54j14 (rec12 : List Ch → Int → Option (List Ch × List Ce × List Cl)) (u2955 : List Ch) (v2960 : Int) (v3001 : Int) (v3002 : Int) : Option (List Ch × List Ce × List Cl) :=
  ckO (1 + v2960) <|
  bindO (F56 v3001 20) fun y3006 =>
  ckO (90 + y3006) <|
  bindO (F56 v3002 12) fun y3011 =>
  ckO ((90 + y3006) + y3011) <|
  gdO (u2955.length + 1 ≤ 1000000000) <|
  ckO (v2960 + 1) <|
  rec12 (u2955 ++ [(⟨1 + v2960, 90 + y3006, (90 + y3006) + y3011⟩ : Ch)]) (v2960 + 1)
def F54j13 (lp0_0 : List A2) (rec12 : List Ch → Int → Option (List Ch × List Ce × List Cl)) (u2955 : List Ch) (v2960 : Int) : Option (List Ch × List Ce × List Cl) :=
  if v2960 < (lp0_0.length : Int) then
    gdO (0 ≤ v2960) <|
    bindO (lp0_0[(v2960).toNat]?) fun x3018 =>
    F54j14 rec12 u2955 v2960 x3018.a x3018.b
  else
    F54j14 rec12 u2955 v2960 0 0
def F54j15 (lp0_1 : List A3) (lp0_2 : List A3) (N : Nat) (u2955 : List Ch) : Option (List Ch × List Ce × List Cl) :=
  F54j1 lp0_1 lp0_2 N u2955
def F54b12 (lp0_0 : List A2) (lp0_1 : List A3) (lp0_2 : List A3) (N : Nat) (rec12 : List Ch → Int → Option (List Ch × List Ce × List Cl)) (u2955 : List Ch) (v2960 : Int) : Option (List Ch × List Ce × List Cl) :=
  if v2960 < (lp0_0.length : Int) then
    if v2960 < 3 then
      F54j13 lp0_0 rec12 u2955 v2960
    else
      if v2960 = 0 then
        F54j13 lp0_0 rec12 u2955 v2960
      else
        F54j15 lp0_1 lp0_2 N u2955
  else
    if v2960 = 0 then
      F54j13 lp0_0 rec12 u2955 v2960
    else
      F54j15 lp0_1 lp0_2 N u2955
def F54l12 (lp0_0 : List A2) (lp0_1 : List A3) (lp0_2 : List A3) (N : Nat) : Nat → List Ch → Int → Option (List Ch × List Ce × List Cl)
  | 0 => fun _ _ => none
  | m + 1 => F54b12 lp0_0 lp0_1 lp0_2 N (F54l12 lp0_0 lp0_1 lp0_2 N m)
def F54 (N : Nat) (lp0_0 : List A2) (lp0_1 : List A3) (lp0_2 : List A3) : Option (List Ch × List Ce × List Cl) :=
  F54l12 lp0_0 lp0_1 lp0_2 N N [] 0
def F55 (lp0_0 : List Ch) (lp0_1 : List Ce) (p1 : A2) : Option (Int × Int) :=
  bindO (F56 p1.a (lp0_1.length : Int)) fun y21 =>
  ckO ((lp0_1.length : Int) - y21) <|
  bindO (F56 p1.b ((lp0_1.length : Int) - y21)) fun y27 =>
  ckO (y21 + y27) <|
  some (y21, y21 + y27)
def F6j2 (y6638 : (Int × Int)) (v9900 : Bool) (v9901 : Bool) : Option Bool :=
  if v9900 = true then
    if v9901 = true then
      if y6638.1 = 2 then
        some true
      else
        some false
    else
      if y6638.1 = 2 then
        some false
      else
        some true
  else
    if v9901 = true then
      if y6638.1 = 2 then
        some false
      else
        some true
    else
      if y6638.1 = 2 then
        some false
      else
        some true
def F6j4 (rec3 : Bool → Bool → Int → Option Bool) (v12080 : Int) (v12623 : Bool) (v12624 : Bool) : Option Bool :=
  ckO (v12080 + 1) <|
  rec3 v12623 v12624 (v12080 + 1)
def F6j7 (rec3 : Bool → Bool → Int → Option Bool) (v12079 : Bool) (v12080 : Int) (y12896 : (Int × Int)) (y12900 : (Int × Int)) (v12902 : Bool) : Option Bool :=
  if v12079 = true then
    F6j4 rec3 v12080 v12902 true
  else
    if y12896.1 ≤ y12900.1 then
      F6j4 rec3 v12080 v12902 true
    else
      F6j4 rec3 v12080 v12902 false
def F6j6 (rec3 : Bool → Bool → Int → Option Bool) (v12078 : Bool) (v12079 : Bool) (v12080 : Int) (y12896 : (Int × Int)) (y12900 : (Int × Int)) : Option Bool :=
  if v12078 = true then
    F6j7 rec3 v12079 v12080 y12896 y12900 true
  else
    if y12900.1 < y12896.1 then
      F6j7 rec3 v12079 v12080 y12896 y12900 true
    else
      F6j7 rec3 v12079 v12080 y12896 y12900 false
def F6j5 (N : Nat) (rec3 : Bool → Bool → Int → Option Bool) (y6603 : (List Ch × List Ce × List Cl)) (y6621 : (Int × Int)) (y6627 : (Int × Int)) (y6633 : (Int × Int × Int)) (y6638 : (Int × Int)) (v12078 : Bool) (v12079 : Bool) (v12080 : Int) (u12889 : List Int) : Option Bool :=
  bindO (F29 N y6603.1 y6603.2.1 u12889 (⟨y6621.1, y6621.2⟩ : Dr)) fun y12896 =>
  bindO (F29 N y6603.1 y6603.2.1 u12889 (⟨y6627.1, y6627.2⟩ : Dr)) fun y12900 =>
  if y12896.2 = 0 then
    if y12900.2 = 0 then
      if y12896.1 < y6633.1 then
        some false
      else
        if y6633.2.1 < y12896.1 then
          some false
        else
          if v12080 = 0 then
            if y12896.1 = y6633.1 then
              ckO ((1 * 2 ^ ((y6603.1.length : Int) : Int).toNat) - 1) <|
              if v12080 = ((1 * 2 ^ ((y6603.1.length : Int) : Int).toNat) - 1) then
                if y12896.1 = y6633.2.1 then
                  if y6638.1 = 1 then
                    if y12896.1 ≤ y12900.1 then
                      some false
                    else
                      if y6638.1 = 0 then
                        if y12900.1 < y12896.1 then
                          some false
                        else
                          F6j6 rec3 v12078 v12079 v12080 y12896 y12900
                      else
                        F6j6 rec3 v12078 v12079 v12080 y12896 y12900
                  else
                    if y6638.1 = 0 then
                      if y12900.1 < y12896.1 then
                        some false
                      else
                        F6j6 rec3 v12078 v12079 v12080 y12896 y12900
                    else
                      F6j6 rec3 v12078 v12079 v12080 y12896 y12900
                else
                  some false
              else
                if y6638.1 = 1 then
                  if y12896.1 ≤ y12900.1 then
                    some false
                  else
                    if y6638.1 = 0 then
                      if y12900.1 < y12896.1 then
                        some false
                      else
                        F6j6 rec3 v12078 v12079 v12080 y12896 y12900
                    else
                      F6j6 rec3 v12078 v12079 v12080 y12896 y12900
                else
                  if y6638.1 = 0 then
                    if y12900.1 < y12896.1 then
                      some false
                    else
                      F6j6 rec3 v12078 v12079 v12080 y12896 y12900
                  else
                    F6j6 rec3 v12078 v12079 v12080 y12896 y12900
            else
              some false
          else
            ckO ((1 * 2 ^ ((y6603.1.length : Int) : Int).toNat) - 1) <|
            if v12080 = ((1 * 2 ^ ((y6603.1.length : Int) : Int).toNat) - 1) then
              if y12896.1 = y6633.2.1 then
                if y6638.1 = 1 then
                  if y12896.1 ≤ y12900.1 then
                    some false
                  else
                    if y6638.1 = 0 then
                      if y12900.1 < y12896.1 then
                        some false
                      else
                        F6j6 rec3 v12078 v12079 v12080 y12896 y12900
                    else
                      F6j6 rec3 v12078 v12079 v12080 y12896 y12900
                else
                  if y6638.1 = 0 then
                    if y12900.1 < y12896.1 then
                      some false
                    else
                      F6j6 rec3 v12078 v12079 v12080 y12896 y12900
                  else
                    F6j6 rec3 v12078 v12079 v12080 y12896 y12900
              else
                some false
            else
              if y6638.1 = 1 then
                if y12896.1 ≤ y12900.1 then
                  some false
                else
                  if y6638.1 = 0 then
                    if y12900.1 < y12896.1 then
                      some false
                    else
                      F6j6 rec3 v12078 v12079 v12080 y12896 y12900
                  else
                    F6j6 rec3 v12078 v12079 v12080 y12896 y12900
              else
                if y6638.1 = 0 then
                  if y12900.1 < y12896.1 then
                    some false
                  else
                    F6j6 rec3 v12078 v12079 v12080 y12896 y12900
                else
                  F6j6 rec3 v12078 v12079 v12080 y12896 y12900
    else
      some false
  else
    some false
def F6j10 (rec8 : List Int → Int → Option Bool) (u13077 : List Int) (v13082 : Int) (v13143 : Int) : Option Bool :=
  gdO (u13077.length + 1 ≤ 1000000000) <|
  ckO (v13082 + 1) <|
  rec8 (u13077 ++ [v13143]) (v13082 + 1)
def F6j11 (rec8 : List Int → Int → Option Bool) (u13077 : List Int) (v13082 : Int) (v13128 : Int) : Option Bool :=
  F6j10 rec8 u13077 v13082 v13128
def F6j9 (lp2 : List Int) (rec8 : List Int → Int → Option Bool) (y6603 : (List Ch × List Ce × List Cl)) (v12080 : Int) (u13077 : List Int) (v13082 : Int) (x13123 : Ch) (v13128 : Int) : Option Bool :=
  if v12080 = (1 * 2 ^ ((y6603.1.length : Int) : Int).toNat) then
    if 0 < (lp2.length : Int) then
      gdO (0 ≤ (v13082.tmod (lp2.length : Int))) <|
      bindO (lp2[(v13082.tmod (lp2.length : Int)).toNat]?) fun x13149 =>
      ckO (x13123.hi - x13123.lo) <|
      ckO ((x13123.hi - x13123.lo) + 1) <|
      bindO (F56 x13149 ((x13123.hi - x13123.lo) + 1)) fun y13156 =>
      ckO (x13123.lo + y13156) <|
      F6j10 rec8 u13077 v13082 (x13123.lo + y13156)
    else
      F6j11 rec8 u13077 v13082 v13128
  else
    F6j11 rec8 u13077 v13082 v13128
def F6b8 (lp2 : List Int) (N : Nat) (rec3 : Bool → Bool → Int → Option Bool) (y6603 : (List Ch × List Ce × List Cl)) (y6621 : (Int × Int)) (y6627 : (Int × Int)) (y6633 : (Int × Int × Int)) (y6638 : (Int × Int)) (v12078 : Bool) (v12079 : Bool) (v12080 : Int) (rec8 : List Int → Int → Option Bool) (u13077 : List Int) (v13082 : Int) : Option Bool :=
  if v13082 < (y6603.1.length : Int) then
    gdO (0 ≤ v13082) <|
    bindO (y6603.1[(v13082).toNat]?) fun x13123 =>
    gdO (0 ≤ v13082 ∧ v13082 ≤ 62) <|
    gdO (0 ≤ (v12080.fdiv (2 ^ (v13082 : Int).toNat))) <|
    ckO (v12080.fdiv (2 ^ (v13082 : Int).toNat)) <|
    if (andI (v12080.fdiv (2 ^ (v13082 : Int).toNat)) 1) = 1 then
      F6j9 lp2 rec8 y6603 v12080 u13077 v13082 x13123 x13123.hi
    else
      F6j9 lp2 rec8 y6603 v12080 u13077 v13082 x13123 x13123.lo
  else
    F6j5 N rec3 y6603 y6621 y6627 y6633 y6638 v12078 v12079 v12080 u13077
def F6l8 (lp2 : List Int) (N : Nat) (rec3 : Bool → Bool → Int → Option Bool) (y6603 : (List Ch × List Ce × List Cl)) (y6621 : (Int × Int)) (y6627 : (Int × Int)) (y6633 : (Int × Int × Int)) (y6638 : (Int × Int)) (v12078 : Bool) (v12079 : Bool) (v12080 : Int) : Nat → List Int → Int → Option Bool
  | 0 => fun _ _ => none
  | m + 1 => F6b8 lp2 N rec3 y6603 y6621 y6627 y6633 y6638 v12078 v12079 v12080 (F6l8 lp2 N rec3 y6603 y6621 y6627 y6633 y6638 v12078 v12079 v12080 m)
def F6b3 (lp2 : List Int) (N : Nat) (y6603 : (List Ch × List Ce × List Cl)) (y6621 : (Int × Int)) (y6627 : (Int × Int)) (y6633 : (Int × Int × Int)) (y6638 : (Int × Int)) (rec3 : Bool → Bool → Int → Option Bool) (v12078 : Bool) (v12079 : Bool) (v12080 : Int) : Option Bool :=
  gdO (0 ≤ (y6603.1.length : Int) ∧ (y6603.1.length : Int) ≤ 62) <|
  ckO (1 * 2 ^ ((y6603.1.length : Int) : Int).toNat) <|
  if v12080 ≤ (1 * 2 ^ ((y6603.1.length : Int) : Int).toNat) then
    F6l8 lp2 N rec3 y6603 y6621 y6627 y6633 y6638 v12078 v12079 v12080 N [] 0
  else
    F6j2 y6638 v12078 v12079
def F6l3 (lp2 : List Int) (N : Nat) (y6603 : (List Ch × List Ce × List Cl)) (y6621 : (Int × Int)) (y6627 : (Int × Int)) (y6633 : (Int × Int × Int)) (y6638 : (Int × Int)) : Nat → Bool → Bool → Int → Option Bool
  | 0 => fun _ _ _ => none
  | m + 1 => F6b3 lp2 N y6603 y6621 y6627 y6633 y6638 (F6l3 lp2 N y6603 y6621 y6627 y6633 y6638 m)
def F6j1 (lp0_0 : List A2) (lp0_1 : List A3) (lp0_2 : List A3) (p1_0 : Int) (p1_1 : Int) (p1_2 : Int) (p1_3 : Int) (lp2 : List Int) (N : Nat) (v6587 : Bool) : Option Bool :=
  bindO (F54 N lp0_0 lp0_1 lp0_2) fun y6603 =>
  bindO (F55 y6603.1 y6603.2.1 (⟨p1_0, p1_1⟩ : A2)) fun y6621 =>
  bindO (F55 y6603.1 y6603.2.1 (⟨p1_2, p1_3⟩ : A2)) fun y6627 =>
  bindO (F25 N y6603.1 y6603.2.1 (⟨y6621.1, y6621.2⟩ : Dr)) fun y6633 =>
  bindO (F27 N y6603.1 y6603.2.1 (⟨y6621.1, y6621.2⟩ : Dr) (⟨y6627.1, y6627.2⟩ : Dr)) fun y6638 =>
  if v6587 = true then
    if y6633.2.2 = 0 then
      if y6638.2 = 0 then
        F6l3 lp2 N y6603 y6621 y6627 y6633 y6638 N false false 0
      else
        some false
    else
      some false
  else
    some false
def F6 (N : Nat) (lp0_0 : List A2) (lp0_1 : List A3) (lp0_2 : List A3) (p1_0 : Int) (p1_1 : Int) (p1_2 : Int) (p1_3 : Int) (lp2 : List Int) : Option Bool :=
  bindO (F11 N) fun y13163 =>
  if y13163 = true then
    F6j1 lp0_0 lp0_1 lp0_2 p1_0 p1_1 p1_2 p1_3 lp2 N true
  else
    F6j1 lp0_0 lp0_1 lp0_2 p1_0 p1_1 p1_2 p1_3 lp2 N false
def F7j4 (N : Nat) (y109 : (List Ch × List Ce × List Cl)) (y130 : (List Dr × Int)) (y139 : (Int × Int × Int)) (v154 : Bool) (v155 : Bool) : Option Bool :=
  if y130.2 = 0 then
    if v154 = true then
      if y139.2.2 = 48 then
        some false
      else
        some false
    else
      if y139.2.2 = 48 then
        bindO (F43 N y109.1 y109.2.1 y109.2.2 y130.1) fun y164 =>
        if y164 = 0 then
          some true
        else
          some false
      else
        some false
  else
    if v155 = true then
      if y130.2 = 47 then
        if y139.2.2 = 0 then
          some false
        else
          some false
      else
        some false
    else
      if y130.2 = 47 then
        if y139.2.2 = 0 then
          bindO (F45 N y109.1 y109.2.1 y109.2.2 (⟨y139.1, y139.2.1⟩ : Cw)) fun y169 =>
          if y169 = 0 then
            some true
          else
            some false
        else
          some false
      else
        some false
def F7j3 (N : Nat) (v93 : Bool) (y109 : (List Ch × List Ce × List Cl)) (y130 : (List Dr × Int)) (y139 : (Int × Int × Int)) (v144 : Bool) (v147 : Bool) : Option Bool :=
  if v93 = true then
    if v144 = true then
      if v147 = true then
        some false
      else
        F7j4 N y109 y130 y139 true false
    else
      if v147 = true then
        F7j4 N y109 y130 y139 false true
      else
        F7j4 N y109 y130 y139 false false
  else
    if v144 = true then
      if v147 = true then
        some false
      else
        some false
    else
      if v147 = true then
        some false
      else
        some false
def F7j2 (lp2 : List Dr) (N : Nat) (v93 : Bool) (y109 : (List Ch × List Ce × List Cl)) (y130 : (List Dr × Int)) (y139 : (Int × Int × Int)) (v144 : Bool) : Option Bool :=
  bindO (F43 N y109.1 y109.2.1 y109.2.2 lp2) fun y171 =>
  if y171 = 0 then
    F7j3 N v93 y109 y130 y139 v144 true
  else
    F7j3 N v93 y109 y130 y139 v144 false
def F7j1 (lp0_0 : List A2) (lp0_1 : List A3) (lp0_2 : List A3) (p1 : Cw) (lp2 : List Dr) (N : Nat) (v93 : Bool) : Option Bool :=
  bindO (F54 N lp0_0 lp0_1 lp0_2) fun y109 =>
  bindO (F49 N y109.1 y109.2.1 y109.2.2) fun y130 =>
  bindO (F51 N y109.1 y109.2.1 y109.2.2) fun y139 =>
  bindO (F45 N y109.1 y109.2.1 y109.2.2 p1) fun y173 =>
  if y173 = 0 then
    F7j2 lp2 N v93 y109 y130 y139 true
  else
    F7j2 lp2 N v93 y109 y130 y139 false
def F7 (N : Nat) (lp0_0 : List A2) (lp0_1 : List A3) (lp0_2 : List A3) (p1 : Cw) (lp2 : List Dr) : Option Bool :=
  bindO (F11 N) fun y175 =>
  if y175 = true then
    F7j1 lp0_0 lp0_1 lp0_2 p1 lp2 N true
  else
    F7j1 lp0_0 lp0_1 lp0_2 p1 lp2 N false
def F8j4 (rec3 : Int → Option Bool) (v6085 : Int) : Option Bool :=
  ckO (v6085 + 1) <|
  rec3 (v6085 + 1)
def F8j8 (rec3 : Int → Option Bool) (v6085 : Int) : Option Bool :=
  F8j4 rec3 v6085
def F8j7 (p1_0 : Int) (lp1_1 : List Int) (p1_2 : Int) (p1_3 : Int) (N : Nat) (rec3 : Int → Option Bool) (y3462 : (List Ch × List Ce × List Cl)) (v6085 : Int) (v6434 : Int) (v6435 : Int) : Option Bool :=
  bindO (F33 (⟨p1_2, p1_3⟩ : Gn) (⟨v6434, v6435⟩ : Gn)) fun y6442 =>
  if y6442.2 = 0 then
    if y6442.1 < 0 then
      bindO (F47 N y3462.1 y3462.2.1 y3462.2.2 p1_0 lp1_1 (⟨p1_2, p1_3⟩ : Gn)) fun y6446 =>
      if y6446 = 0 then
        some false
      else
        F8j8 rec3 v6085
    else
      F8j8 rec3 v6085
  else
    F8j8 rec3 v6085
def F8j6 (p1_0 : Int) (lp1_1 : List Int) (p1_2 : Int) (p1_3 : Int) (N : Nat) (rec3 : Int → Option Bool) (y3462 : (List Ch × List Ce × List Cl)) (y3480 : (Int × Int × Int)) (v6085 : Int) (v6434 : Int) (v6435 : Int) : Option Bool :=
  bindO (F33 (⟨v6434, v6435⟩ : Gn) (⟨y3480.1, y3480.2.1⟩ : Gn)) fun y6438 =>
  if y6438.2 = 0 then
    if 0 < y6438.1 then
      some false
    else
      if v6085 = 0 then
        if y6438.1 = 0 then
          F8j7 p1_0 lp1_1 p1_2 p1_3 N rec3 y3462 v6085 v6434 v6435
        else
          some false
      else
        F8j7 p1_0 lp1_1 p1_2 p1_3 N rec3 y3462 v6085 v6434 v6435
  else
    some false
def F8j10 (rec9 : Int → Int → Int → Option Bool) (v6505 : Int) (v6518 : Int) (v6519 : Int) : Option Bool :=
  ckO (v6505 + 1) <|
  rec9 v6518 v6519 (v6505 + 1)
def F8b9 (p1_0 : Int) (lp1_1 : List Int) (p1_2 : Int) (p1_3 : Int) (N : Nat) (rec3 : Int → Option Bool) (y3462 : (List Ch × List Ce × List Cl)) (y3480 : (Int × Int × Int)) (v6085 : Int) (u6339 : List Gn) (rec9 : Int → Int → Int → Option Bool) (v6503 : Int) (v6504 : Int) (v6505 : Int) : Option Bool :=
  if v6505 < (u6339.length : Int) then
    gdO (0 ≤ v6505) <|
    bindO (u6339[(v6505).toNat]?) fun x6526 =>
    bindO (F33 x6526 (⟨v6503, v6504⟩ : Gn)) fun y6529 =>
    if y6529.2 = 0 then
      if y6529.1 < 0 then
        F8j10 rec9 v6505 x6526.num x6526.den
      else
        F8j10 rec9 v6505 v6503 v6504
    else
      some false
  else
    F8j6 p1_0 lp1_1 p1_2 p1_3 N rec3 y3462 y3480 v6085 v6503 v6504
def F8l9 (p1_0 : Int) (lp1_1 : List Int) (p1_2 : Int) (p1_3 : Int) (N : Nat) (rec3 : Int → Option Bool) (y3462 : (List Ch × List Ce × List Cl)) (y3480 : (Int × Int × Int)) (v6085 : Int) (u6339 : List Gn) : Nat → Int → Int → Int → Option Bool
  | 0 => fun _ _ _ => none
  | m + 1 => F8b9 p1_0 lp1_1 p1_2 p1_3 N rec3 y3462 y3480 v6085 u6339 (F8l9 p1_0 lp1_1 p1_2 p1_3 N rec3 y3462 y3480 v6085 u6339 m)
def F8j5 (p1_0 : Int) (lp1_1 : List Int) (p1_2 : Int) (p1_3 : Int) (N : Nat) (rec3 : Int → Option Bool) (y3462 : (List Ch × List Ce × List Cl)) (y3480 : (Int × Int × Int)) (v6085 : Int) (u6339 : List Gn) (v6344 : Int) : Option Bool :=
  if v6344 = 0 then
    bindO (u6339[0]?) fun x6345 =>
    F8l9 p1_0 lp1_1 p1_2 p1_3 N rec3 y3462 y3480 v6085 u6339 N x6345.num x6345.den 1
  else
    if v6085 = 0 then
      some false
    else
      F8j4 rec3 v6085
def F8b3 (p1_0 : Int) (lp1_1 : List Int) (p1_2 : Int) (p1_3 : Int) (N : Nat) (y3462 : (List Ch × List Ce × List Cl)) (y3480 : (Int × Int × Int)) (y3489 : (List Dr × Int)) (u3850 : List Dr) (rec3 : Int → Option Bool) (v6085 : Int) : Option Bool :=
  if v6085 < 2 then
    if v6085 = 0 then
      bindO (F35 N y3462.1 y3462.2.1 y3462.2.2 y3489.1) fun y6532 =>
      F8j5 p1_0 lp1_1 p1_2 p1_3 N rec3 y3462 y3480 v6085 y6532.1 y6532.2
    else
      if v6085 = 1 then
        bindO (F35 N y3462.1 y3462.2.1 y3462.2.2 u3850) fun y6542 =>
        F8j5 p1_0 lp1_1 p1_2 p1_3 N rec3 y3462 y3480 v6085 y6542.1 y6542.2
      else
        none
  else
    some true
def F8l3 (p1_0 : Int) (lp1_1 : List Int) (p1_2 : Int) (p1_3 : Int) (N : Nat) (y3462 : (List Ch × List Ce × List Cl)) (y3480 : (Int × Int × Int)) (y3489 : (List Dr × Int)) (u3850 : List Dr) : Nat → Int → Option Bool
  | 0 => fun _ => none
  | m + 1 => F8b3 p1_0 lp1_1 p1_2 p1_3 N y3462 y3480 y3489 u3850 (F8l3 p1_0 lp1_1 p1_2 p1_3 N y3462 y3480 y3489 u3850 m)
def F8j2 (p1_0 : Int) (lp1_1 : List Int) (p1_2 : Int) (p1_3 : Int) (N : Nat) (y3462 : (List Ch × List Ce × List Cl)) (y3480 : (Int × Int × Int)) (y3489 : (List Dr × Int)) (u3850 : List Dr) : Option Bool :=
  F8l3 p1_0 lp1_1 p1_2 p1_3 N y3462 y3480 y3489 u3850 N 0
def F8j12 (rec11 : List Dr → Int → Int → Option Bool) (y3462 : (List Ch × List Ce × List Cl)) (u6771 : List Dr) (v6776 : Int) (v6777 : Int) (v6837 : Int) (v6838 : Int) : Option Bool :=
  gdO (0 ≤ v6777) <|
  bindO (y3462.2.2[(v6777).toNat]?) fun x6849 =>
  bindO (F56 v6837 2) fun y6853 =>
  ckO ((if x6849.fr > v6776 then x6849.fr else v6776) + y6853) <|
  bindO (F56 v6838 3) fun y6861 =>
  ckO (((if x6849.fr > v6776 then x6849.fr else v6776) + y6853) + y6861) <|
  gdO (u6771.length + 1 ≤ 1000000000) <|
  ckO ((((if x6849.fr > v6776 then x6849.fr else v6776) + y6853) + y6861) + 1) <|
  ckO (v6777 + 1) <|
  rec11 (u6771 ++ [(⟨(if x6849.fr > v6776 then x6849.fr else v6776) + y6853, ((if x6849.fr > v6776 then x6849.fr else v6776) + y6853) + y6861⟩ : Dr)]) ((((if x6849.fr > v6776 then x6849.fr else v6776) + y6853) + y6861) + 1) (v6777 + 1)
def F8b11 (p1_0 : Int) (lp1_1 : List Int) (p1_2 : Int) (p1_3 : Int) (lp2 : List A2) (N : Nat) (y3462 : (List Ch × List Ce × List Cl)) (y3480 : (Int × Int × Int)) (y3489 : (List Dr × Int)) (rec11 : List Dr → Int → Int → Option Bool) (u6771 : List Dr) (v6776 : Int) (v6777 : Int) : Option Bool :=
  if v6777 < (y3462.2.2.length : Int) then
    if v6777 < (lp2.length : Int) then
      gdO (0 ≤ v6777) <|
      bindO (lp2[(v6777).toNat]?) fun x6873 =>
      F8j12 rec11 y3462 u6771 v6776 v6777 x6873.a x6873.b
    else
      F8j12 rec11 y3462 u6771 v6776 v6777 0 0
  else
    F8j2 p1_0 lp1_1 p1_2 p1_3 N y3462 y3480 y3489 u6771
def F8l11 (p1_0 : Int) (lp1_1 : List Int) (p1_2 : Int) (p1_3 : Int) (lp2 : List A2) (N : Nat) (y3462 : (List Ch × List Ce × List Cl)) (y3480 : (Int × Int × Int)) (y3489 : (List Dr × Int)) : Nat → List Dr → Int → Int → Option Bool
  | 0 => fun _ _ _ => none
  | m + 1 => F8b11 p1_0 lp1_1 p1_2 p1_3 lp2 N y3462 y3480 y3489 (F8l11 p1_0 lp1_1 p1_2 p1_3 lp2 N y3462 y3480 y3489 m)
def F8j1 (lp0_0 : List A2) (lp0_1 : List A3) (lp0_2 : List A3) (p1_0 : Int) (lp1_1 : List Int) (p1_2 : Int) (p1_3 : Int) (lp2 : List A2) (N : Nat) (v3446 : Bool) : Option Bool :=
  bindO (F54 N lp0_0 lp0_1 lp0_2) fun y3462 =>
  bindO (F37 N y3462.1 y3462.2.1 y3462.2.2) fun y3480 =>
  bindO (F49 N y3462.1 y3462.2.1 y3462.2.2) fun y3489 =>
  bindO (F50 N y3462.1 y3462.2.1 y3462.2.2) fun y3502 =>
  if v3446 = true then
    if y3480.2.2 = y3489.2 then
      if y3480.2.2 = y3502.2.2 then
        if y3480.2.2 = 0 then
          bindO (F47 N y3462.1 y3462.2.1 y3462.2.2 y3502.1 y3502.2.1 (⟨y3480.1, y3480.2.1⟩ : Gn)) fun y3516 =>
          if y3516 = 0 then
            F8l11 p1_0 lp1_1 p1_2 p1_3 lp2 N y3462 y3480 y3489 N [] 0 0
          else
            some false
        else
          if y3480.2.2 = 47 then
            some true
          else
            some false
      else
        some false
    else
      some false
  else
    some false
def F8 (N : Nat) (lp0_0 : List A2) (lp0_1 : List A3) (lp0_2 : List A3) (p1_0 : Int) (lp1_1 : List Int) (p1_2 : Int) (p1_3 : Int) (lp2 : List A2) : Option Bool :=
  bindO (F11 N) fun y6881 =>
  if y6881 = true then
    F8j1 lp0_0 lp0_1 lp0_2 p1_0 lp1_1 p1_2 p1_3 lp2 N true
  else
    F8j1 lp0_0 lp0_1 lp0_2 p1_0 lp1_1 p1_2 p1_3 lp2 N false
def F9j2 (y283 : (Int × Int × Int)) (v288 : Bool) : Option Bool :=
  if v288 = true then
    if y283.2.2 = 47 then
      some true
    else
      some false
  else
    some false
def F9j3 (N : Nat) (y265 : (List Ch × List Ce × List Cl)) (y283 : (Int × Int × Int)) (u385 : List Ce) (u390 : List Cl) : Option Bool :=
  bindO (F37 N y265.1 u385 u390) fun y398 =>
  bindO (F33 (⟨y283.1, y283.2.1⟩ : Gn) (⟨y398.1, y398.2.1⟩ : Gn)) fun y403 =>
  if y398.2.2 = 0 then
    if y403.2 = 0 then
      if y403.1 ≤ 0 then
        some true
      else
        some false
    else
      some false
  else
    some false
def F9j1 (lp0_0 : List A2) (lp0_1 : List A3) (lp0_2 : List A3) (p1 : A2) (N : Nat) (v249 : Bool) : Option Bool :=
  bindO (F54 N lp0_0 lp0_1 lp0_2) fun y265 =>
  bindO (F37 N y265.1 y265.2.1 y265.2.2) fun y283 =>
  if v249 = true then
    if y283.2.2 = 0 then
      bindO (F56 p1.b (y265.2.2.length : Int)) fun y292 =>
      gdO (0 + y265.2.2.length ≤ 1000000000) <|
      bindO (F56 p1.a 4) fun y408 =>
      if y408 = 0 then
        gdO (0 ≤ y292) <|
        bindO (y265.2.2[(y292).toNat]?) fun x410 =>
        ckO ((y265.2.1.length : Int) - 1) <|
        bindO (((y265.2.2).set ((y292).toNat) (⟨x410.fam, x410.hd, 0, x410.to⟩ : Cl))[(y292).toNat]?) fun x416 =>
        F9j3 N y265 y283 y265.2.1 (((y265.2.2).set ((y292).toNat) (⟨x410.fam, x410.hd, 0, x410.to⟩ : Cl)).set ((y292).toNat) (⟨x416.fam, x416.hd, x416.fr, (y265.2.1.length : Int) - 1⟩ : Cl))
      else
        if y408 = 1 then
          gdO (0 ≤ y292) <|
          bindO (y265.2.2[(y292).toNat]?) fun x421 =>
          F9j3 N y265 y283 y265.2.1 ((y265.2.2).set ((y292).toNat) (⟨x421.fam, 1, x421.fr, x421.to⟩ : Cl))
        else
          if y408 = 2 then
            gdO (0 < y265.2.2.length) <|
            gdO (0 ≤ y292) <|
            gdO ((y292).toNat ≤ y265.2.2.length) <|
            gdO (0 + ((y265.2.2.take ((y292).toNat)).length) ≤ 1000000000) <|
            ckO (y292 + 1) <|
            gdO (0 ≤ (y292 + 1)) <|
            gdO ((y292 + 1).toNat ≤ y265.2.2.length) <|
            gdO (((y265.2.2.take ((y292).toNat)).length) + ((y265.2.2.drop ((y292 + 1).toNat)).length) ≤ 1000000000) <|
            if (((y265.2.2.take ((y292).toNat)) ++ (y265.2.2.drop ((y292 + 1).toNat))).length : Int) = 0 then
              some true
            else
              F9j3 N y265 y283 y265.2.1 ((y265.2.2.take ((y292).toNat)) ++ (y265.2.2.drop ((y292 + 1).toNat)))
          else
            if y408 = 3 then
              bindO (F56 p1.b (y265.2.1.length : Int)) fun y473 =>
              gdO (0 ≤ y473) <|
              bindO (y265.2.1[(y473).toNat]?) fun x475 =>
              ckO (x475.wo + 1) <|
              bindO (F56 p1.b 7) fun y479 =>
              ckO ((x475.wo + 1) + y479) <|
              F9j3 N y265 y283 ((y265.2.1).set ((y473).toNat) (⟨x475.ch, x475.ln, (x475.wo + 1) + y479⟩ : Ce)) y265.2.2
            else
              F9j3 N y265 y283 y265.2.1 y265.2.2
    else
      F9j2 y283 true
  else
    F9j2 y283 false
def F9 (N : Nat) (lp0_0 : List A2) (lp0_1 : List A3) (lp0_2 : List A3) (p1 : A2) : Option Bool :=
  bindO (F11 N) fun y487 =>
  if y487 = true then
    F9j1 lp0_0 lp0_1 lp0_2 p1 N true
  else
    F9j1 lp0_0 lp0_1 lp0_2 p1 N false
def F10b4 (N : Nat) (y702 : (List Ch × List Ce × List Cl)) (y719 : Int) (y739 : (List Cl × Int)) (rec4 : Int → Option Bool) (v1262 : Int) : Option Bool :=
  if v1262 < (y702.2.2.length : Int) then
    ckO (y719 + v1262) <|
    bindO (F12 N y702.1 y702.2.1 y702.2.2 (y719 + v1262)) fun y1317 =>
    if y1317.2 = 0 then
      if (y1317.1.length : Int) = (y702.2.2.length : Int) then
        bindO (y1317.1[0]?) fun x1343 =>
        gdO (0 ≤ v1262) <|
        bindO (y739.1[(v1262).toNat]?) fun x1347 =>
        if (decide (x1343.fam = x1347.fam) && decide (x1343.hd = x1347.hd) && decide (x1343.fr = x1347.fr) && decide (x1343.to = x1347.to)) = true then
          ckO (v1262 + 1) <|
          rec4 (v1262 + 1)
        else
          some false
      else
        some false
    else
      some false
  else
    some true
def F10l4 (N : Nat) (y702 : (List Ch × List Ce × List Cl)) (y719 : Int) (y739 : (List Cl × Int)) : Nat → Int → Option Bool
  | 0 => fun _ => none
  | m + 1 => F10b4 N y702 y719 y739 (F10l4 N y702 y719 y739 m)
def F10j3 (N : Nat) (v686 : Bool) (y702 : (List Ch × List Ce × List Cl)) (y719 : Int) (y727 : (List Cl × Int)) (y739 : (List Cl × Int)) (y751 : (List Cl × Int)) (v759 : Bool) (v762 : Bool) : Option Bool :=
  if v686 = true then
    if v759 = true then
      if v762 = true then
        if y727.2 = 0 then
          if y739.2 = 0 then
            if y751.2 = 0 then
              F10l4 N y702 y719 y739 N 0
            else
              some false
          else
            some false
        else
          some false
      else
        if y727.2 = 0 then
          if y739.2 = 0 then
            if y751.2 = 0 then
              some false
            else
              some false
          else
            some false
        else
          some false
    else
      if v762 = true then
        if y727.2 = 0 then
          if y739.2 = 0 then
            if y751.2 = 0 then
              some false
            else
              some false
          else
            some false
        else
          some false
      else
        if y727.2 = 0 then
          if y739.2 = 0 then
            if y751.2 = 0 then
              some false
            else
              some false
          else
            some false
        else
          some false
  else
    if v759 = true then
      if v762 = true then
        some false
      else
        some false
    else
      if v762 = true then
        some false
      else
        some false
def F10j2 (N : Nat) (v686 : Bool) (y702 : (List Ch × List Ce × List Cl)) (y719 : Int) (y727 : (List Cl × Int)) (y739 : (List Cl × Int)) (y751 : (List Cl × Int)) (v759 : Bool) : Option Bool :=
  bindO (F14 N y739.1 y751.1) fun y1359 =>
  if y1359 = true then
    F10j3 N v686 y702 y719 y727 y739 y751 v759 true
  else
    F10j3 N v686 y702 y719 y727 y739 y751 v759 false
def F10j1 (lp0_0 : List A2) (lp0_1 : List A3) (lp0_2 : List A3) (p1 : Int) (N : Nat) (v686 : Bool) : Option Bool :=
  bindO (F54 N lp0_0 lp0_1 lp0_2) fun y702 =>
  bindO (F56 p1 4000) fun y719 =>
  bindO (F12 N y702.1 y702.2.1 y702.2.2 0) fun y727 =>
  bindO (F12 N y702.1 y702.2.1 y702.2.2 y719) fun y739 =>
  ckO (y719 + (y702.2.2.length : Int)) <|
  bindO (F12 N y702.1 y702.2.1 y702.2.2 (y719 + (y702.2.2.length : Int))) fun y751 =>
  bindO (F14 N y727.1 y702.2.2) fun y1361 =>
  if y1361 = true then
    F10j2 N v686 y702 y719 y727 y739 y751 true
  else
    F10j2 N v686 y702 y719 y727 y739 y751 false
def F10 (N : Nat) (lp0_0 : List A2) (lp0_1 : List A3) (lp0_2 : List A3) (p1 : Int) : Option Bool :=
  bindO (F11 N) fun y1363 =>
  if y1363 = true then
    F10j1 lp0_0 lp0_1 lp0_2 p1 N true
  else
    F10j1 lp0_0 lp0_1 lp0_2 p1 N false
end Go.K
