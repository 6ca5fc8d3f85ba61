/- The program's functions as pure definitions, as tools/lift.py writes them. No condition. -/
import Derived.Test.YtofnbcfjdngakaaPLh
namespace Go.K
open Go.RowKit
set_option linter.unusedVariables false
structure Cm where
  fam : Int
  hrs : Int
  wants : Int
deriving DecidableEq

def eCm (x : Cm) : List Value := [.int .i64 x.fam, .int .i64 x.hrs, .int .i64 x.wants]

theorem eCm_len (x : Cm) : (eCm x).length = 3 := rfl

theorem eCm_cell (x : Cm) : ∀ u ∈ eCm x, u.oneCell' = true := by simp [eCm, Value.oneCell']

structure Yl where
  lo : Int
  hi : Int
  toll : Int
deriving DecidableEq

def eYl (x : Yl) : List Value := [.int .i64 x.lo, .int .i64 x.hi, .int .i64 x.toll]

structure Cn where
  blo : Int
  bhi : Int
  flo : Int
  fhi : Int
  gal : Int
  hly : Int
deriving DecidableEq

def eCn (x : Cn) : List Value := [.int .i64 x.blo, .int .i64 x.bhi, .int .i64 x.flo, .int .i64 x.fhi, .int .i64 x.gal, .int .i64 x.hly]

structure A6 where
  a : Int
  b : Int
  c : Int
  d : Int
  e : Int
  f : Int
deriving DecidableEq

def eA6 (x : A6) : List Value := [.int .i64 x.a, .int .i64 x.b, .int .i64 x.c, .int .i64 x.d, .int .i64 x.e, .int .i64 x.f]

structure A2 where
  a : Int
  b : Int
deriving DecidableEq

def eA2 (x : A2) : List Value := [.int .i64 x.a, .int .i64 x.b]

def F70 (p0 : Int) (p1 : Int) (p2 : Int) : Option Bool :=
  if p1 ≤ p0 then
    if p0 ≤ p2 then
      some true
    else
      some false
  else
    some false
def F21 (p0 : Cm) : Option Int :=
  bindO (F70 p0.fam 1 99) fun y45 =>
  if y45 = true then
    bindO (F70 p0.hrs 0 16777215) fun y47 =>
    if y47 = true then
      bindO (F70 p0.wants 0 24) fun y49 =>
      if y49 = true then
        some 0
      else
        some 51
    else
      some 51
  else
    some 51
def F98j2 (rec1 : Int → Option Int) (v850 : Int) (v886 : Bool) : Option Int :=
  if v886 = true then
    some v850
  else
    ckO (v850 + 1) <|
    rec1 (v850 + 1)
def F98b1 (lp0_1 : List Cm) (p1 : Int) (rec1 : Int → Option Int) (v850 : Int) : Option Int :=
  if v850 < (lp0_1.length : Int) then
    gdO (0 ≤ v850) <|
    bindO (lp0_1[(v850).toNat]?) fun x878 =>
    if x878.fam = p1 then
      F98j2 rec1 v850 true
    else
      F98j2 rec1 v850 false
  else
    some (-1)
def F98l1 (lp0_1 : List Cm) (p1 : Int) : Nat → Int → Option Int
  | 0 => fun _ => none
  | m + 1 => F98b1 lp0_1 p1 (F98l1 lp0_1 p1 m)
def F98 (N : Nat) (p0_0 : Int) (lp0_1 : List Cm) (p1 : Int) : Option Int :=
  F98l1 lp0_1 p1 N 0
def F63 (N : Nat) (p0_0 : Int) (lp0_1 : List Cm) (p1 : Cm) : Option Bool :=
  bindO (F21 p1) fun y19 =>
  if y19 = 0 then
    gdO (0 ≤ p0_0 ∧ p0_0 ≤ 62) <|
    if (p1.hrs.fdiv (2 ^ (p0_0 : Int).toNat)) = 0 then
      bindO (F98 N p0_0 lp0_1 p1.fam) fun y21 =>
      if y21 = (-1) then
        some true
      else
        some false
    else
      some false
  else
    some false
def F23b1 (p0_0 : Int) (lp0_1 : List Cm) (N : Nat) (rec1 : Int → Option Int) (v554 : Int) : Option Int :=
  if v554 < (lp0_1.length : Int) then
    gdO (0 ≤ v554) <|
    bindO (lp0_1[(v554).toNat]?) fun x579 =>
    gdO (0 ≤ (v554).toNat ∧ (v554).toNat ≤ lp0_1.length) <|
    bindO (F63 N p0_0 ((lp0_1.drop 0).take ((v554).toNat - 0)) x579) fun y597 =>
    if y597 = true then
      ckO (v554 + 1) <|
      rec1 (v554 + 1)
    else
      some 52
  else
    some 0
def F23l1 (p0_0 : Int) (lp0_1 : List Cm) (N : Nat) : Nat → Int → Option Int
  | 0 => fun _ => none
  | m + 1 => F23b1 p0_0 lp0_1 N (F23l1 p0_0 lp0_1 N m)
def F23 (N : Nat) (p0_0 : Int) (lp0_1 : List Cm) : Option Int :=
  bindO (F70 p0_0 0 24) fun y309 =>
  if y309 = true then
    if 12 < (lp0_1.length : Int) then
      some 52
    else
      F23l1 p0_0 lp0_1 N N 0
  else
    some 52
def F64 (lp0 : List Cm) : Option (List Cm) :=
  gdO (lp0.length ≤ 1000000000) <|
  some lp0
def F14 (N : Nat) (p0_0 : Int) (lp0_1 : List Cm) (p1 : Cm) : Option (Int × List Cm × Int) :=
  bindO (F23 N p0_0 lp0_1) fun y92 =>
  if y92 = 0 then
    bindO (F63 N p0_0 lp0_1 p1) fun y100 =>
    if y100 = true then
      if (lp0_1.length : Int) = 12 then
        some (0, [], 2)
      else
        bindO (F64 lp0_1) fun y136 =>
        gdO (y136.length + 1 ≤ 1000000000) <|
        some (p0_0, y136 ++ [(⟨p1.fam, p1.hrs, p1.wants⟩ : Cm)], 0)
    else
      some (0, [], 51)
  else
    some (0, [], y92)
def F71 (p0 : Int) (p1 : Int) (p2 : Int) : Option Bool :=
  if p1 ≤ p0 then
    if p0 ≤ p2 then
      some true
    else
      some false
  else
    some false
def F22 (p0 : Cm) : Option Int :=
  bindO (F71 p0.fam 1 99) fun y45 =>
  if y45 = true then
    bindO (F71 p0.hrs 0 16777215) fun y47 =>
    if y47 = true then
      bindO (F71 p0.wants 0 24) fun y49 =>
      if y49 = true then
        some 0
      else
        some 51
    else
      some 51
  else
    some 51
def F65b1 (lp0_1 : List Cm) (p1 : Int) (rec1 : Int → Option Int) (i_318 : Int) : Option Int :=
  if i_318 < (lp0_1.length : Int) then
    gdO (0 ≤ i_318) <|
    bindO (lp0_1[(i_318).toNat]?) fun x340 =>
    if x340.fam = p1 then
      some i_318
    else
      ckO (i_318 + 1) <|
      rec1 (i_318 + 1)
  else
    some (-1)
def F65l1 (lp0_1 : List Cm) (p1 : Int) : Nat → Int → Option Int
  | 0 => fun _ => none
  | m + 1 => F65b1 lp0_1 p1 (F65l1 lp0_1 p1 m)
def F65 (N : Nat) (p0_0 : Int) (lp0_1 : List Cm) (p1 : Int) : Option Int :=
  F65l1 lp0_1 p1 N 0
def F24b1 (p0_0 : Int) (lp0_1 : List Cm) (N : Nat) (rec1 : Int → Option Int) (i_378 : Int) : Option Int :=
  if i_378 < (lp0_1.length : Int) then
    gdO (0 ≤ i_378) <|
    bindO (lp0_1[(i_378).toNat]?) fun x395 =>
    bindO (F22 x395) fun y407 =>
    if y407 = 0 then
      gdO (0 ≤ p0_0 ∧ p0_0 ≤ 62) <|
      ckO ((1 : Int) * 2 ^ (p0_0 : Int).toNat) <|
      if ((1 : Int) * 2 ^ (p0_0 : Int).toNat) ≤ x395.hrs then
        some 52
      else
        bindO (F65 N p0_0 lp0_1 x395.fam) fun y409 =>
        if y409 = i_378 then
          ckO (i_378 + 1) <|
          rec1 (i_378 + 1)
        else
          some 52
    else
      some 52
  else
    some 0
def F24l1 (p0_0 : Int) (lp0_1 : List Cm) (N : Nat) : Nat → Int → Option Int
  | 0 => fun _ => none
  | m + 1 => F24b1 p0_0 lp0_1 N (F24l1 p0_0 lp0_1 N m)
def F24 (N : Nat) (p0_0 : Int) (lp0_1 : List Cm) : Option Int :=
  bindO (F71 p0_0 0 24) fun y213 =>
  if y213 = true then
    if 12 < (lp0_1.length : Int) then
      some 52
    else
      F24l1 p0_0 lp0_1 N N 0
  else
    some 52
def F15 (N : Nat) (p0_0 : Int) (lp0_1 : List Cm) (p1 : Cm) : Option (Int × List Cm × Int) :=
  bindO (F24 N p0_0 lp0_1) fun y119 =>
  if y119 = 0 then
    bindO (F22 p1) fun y133 =>
    if y133 = 0 then
      gdO (0 ≤ p0_0 ∧ p0_0 ≤ 62) <|
      ckO ((1 : Int) * 2 ^ (p0_0 : Int).toNat) <|
      if ((1 : Int) * 2 ^ (p0_0 : Int).toNat) ≤ p1.hrs then
        some (0, [], 51)
      else
        bindO (F65 N p0_0 lp0_1 p1.fam) fun y135 =>
        if 0 ≤ y135 then
          some (0, [], 51)
        else
          if (lp0_1.length : Int) = 12 then
            some (0, [], 2)
          else
            gdO (0 + lp0_1.length ≤ 1000000000) <|
            gdO (lp0_1.length + 1 ≤ 1000000000) <|
            some (p0_0, lp0_1 ++ [(⟨p1.fam, p1.hrs, p1.wants⟩ : Cm)], 0)
    else
      some (0, [], 51)
  else
    some (0, [], 52)
def F66 (N : Nat) (p0_0 : Int) (lp0_1 : List Cm) (p1 : Int) : Option (Int × Int) :=
  bindO (F23 N p0_0 lp0_1) fun y21 =>
  if y21 = 0 then
    bindO (F98 N p0_0 lp0_1 p1) fun y25 =>
    if y25 = (-1) then
      some (0, 57)
    else
      some (y25, 0)
  else
    some (0, y21)
def F99 (lp0 : List Cm) (p1 : Int) (p2 : Int) : Option (List Cm) :=
  gdO (0 ≤ p1) <|
  gdO (0 ≤ p2) <|
  gdO ((p1).toNat ≤ (p2).toNat ∧ (p2).toNat ≤ lp0.length ∧ lp0.length ≤ lp0.length) <|
  if p1 = p2 then
    some lp0
  else
    gdO ((p1).toNat ≤ lp0.length) <|
    gdO ((p2).toNat ≤ lp0.length) <|
    gdO (((lp0.take ((p1).toNat)) ++ (lp0.drop ((p2).toNat))).length ≤ lp0.length) <|
    gdO (0 ≤ (((lp0.take ((p1).toNat)) ++ (lp0.drop ((p2).toNat))).length : Int)) <|
    gdO (((((lp0.take ((p1).toNat)) ++ (lp0.drop ((p2).toNat))).length : Int)).toNat ≤ lp0.length) <|
    some ((lp0.take ((p1).toNat)) ++ (lp0.drop ((p2).toNat)))
def F67 (p0_0 : Int) (lp0_1 : List Cm) (p1 : Int) : Option (Int × List Cm) :=
  bindO (F64 lp0_1) fun y71 =>
  ckO (p1 + 1) <|
  gdO (0 < y71.length) <|
  bindO (F99 y71 p1 (p1 + 1)) fun y78 =>
  some (p0_0, y78)
def F16 (N : Nat) (p0_0 : Int) (lp0_1 : List Cm) (p1 : Int) : Option (Int × List Cm × Int) :=
  bindO (F66 N p0_0 lp0_1 p1) fun y23 =>
  if y23.2 = 0 then
    bindO (F67 p0_0 lp0_1 y23.1) fun y31 =>
    some (y31.1, y31.2, 0)
  else
    some (0, [], y23.2)
def F68j2 (rec1 : List Cm → Int → Option (Int × List Cm)) (i_757 : Int) (out_787 : List Cm) : Option (Int × List Cm) :=
  ckO (i_757 + 1) <|
  rec1 out_787 (i_757 + 1)
def F68b1 (p0_0 : Int) (lp0_1 : List Cm) (p1 : Int) (rec1 : List Cm → Int → Option (Int × List Cm)) (out_752 : List Cm) (i_757 : Int) : Option (Int × List Cm) :=
  if i_757 < (lp0_1.length : Int) then
    gdO (0 ≤ i_757) <|
    bindO (lp0_1[(i_757).toNat]?) fun x799 =>
    if x799.fam = p1 then
      F68j2 rec1 i_757 out_752
    else
      gdO (out_752.length + 1 ≤ 1000000000) <|
      F68j2 rec1 i_757 (out_752 ++ [(⟨x799.fam, x799.hrs, x799.wants⟩ : Cm)])
  else
    some (p0_0, out_752)
def F68l1 (p0_0 : Int) (lp0_1 : List Cm) (p1 : Int) : Nat → List Cm → Int → Option (Int × List Cm)
  | 0 => fun _ _ => none
  | m + 1 => F68b1 p0_0 lp0_1 p1 (F68l1 p0_0 lp0_1 p1 m)
def F68 (N : Nat) (p0_0 : Int) (lp0_1 : List Cm) (p1 : Int) : Option (Int × List Cm) :=
  F68l1 p0_0 lp0_1 p1 N [] 0
def F17 (N : Nat) (p0_0 : Int) (lp0_1 : List Cm) (p1 : Int) : Option (Int × List Cm × Int) :=
  bindO (F24 N p0_0 lp0_1) fun y39 =>
  if y39 = 0 then
    bindO (F65 N p0_0 lp0_1 p1) fun y47 =>
    if y47 < 0 then
      some (0, [], 57)
    else
      bindO (F68 N p0_0 lp0_1 p1) fun y55 =>
      some (y55.1, y55.2, 0)
  else
    some (0, [], 52)
def F18b1 (lp0_1 : List Cm) (lp1_1 : List Cm) (rec1 : Int → Option Bool) (i_1508 : Int) : Option Bool :=
  if i_1508 < (lp0_1.length : Int) then
    gdO (0 ≤ i_1508) <|
    bindO (lp0_1[(i_1508).toNat]?) fun x1611 =>
    bindO (lp1_1[(i_1508).toNat]?) fun x1618 =>
    if (decide (x1611.fam = x1618.fam) && decide (x1611.hrs = x1618.hrs) && decide (x1611.wants = x1618.wants)) = true then
      ckO (i_1508 + 1) <|
      rec1 (i_1508 + 1)
    else
      some false
  else
    some true
def F18l1 (lp0_1 : List Cm) (lp1_1 : List Cm) : Nat → Int → Option Bool
  | 0 => fun _ => none
  | m + 1 => F18b1 lp0_1 lp1_1 (F18l1 lp0_1 lp1_1 m)
def F18 (N : Nat) (p0_0 : Int) (lp0_1 : List Cm) (p1_0 : Int) (lp1_1 : List Cm) : Option Bool :=
  if p0_0 = p1_0 then
    if (lp0_1.length : Int) = (lp1_1.length : Int) then
      F18l1 lp0_1 lp1_1 N 0
    else
      some false
  else
    some false
def F69 (p0 : Rg) (p1 : Int) : Option Bool :=
  if 0 ≤ p0.lo then
    if p0.lo ≤ p0.hi then
      if p0.hi ≤ p1 then
        some true
      else
        some false
    else
      some false
  else
    some false
def F19 (p0 : Yl) : Option Int :=
  bindO (F69 (⟨p0.lo, p0.hi⟩ : Rg) 1000) fun y31 =>
  if y31 = true then
    bindO (F70 p0.toll 2 100) fun y33 =>
    if y33 = true then
      some 0
    else
      some 50
  else
    some 50
def F20 (p0 : Yl) : Option Int :=
  if p0.lo < 0 then
    some 50
  else
    if p0.hi < p0.lo then
      some 50
    else
      if 1000 < p0.hi then
        some 50
      else
        bindO (F71 p0.toll 2 100) fun y17 =>
        if y17 = true then
          some 0
        else
          some 50
def F73 (p0 : Yl) (p1 : Bool) : Option Int :=
  bindO (F19 p0) fun y17 =>
  if y17 = 0 then
    if p1 = true then
      some 0
    else
      some 58
  else
    some y17
def F100 (p0 : Int) (p1 : Int) : Option Int :=
  ckO (p1 * p0) <|
  some ((p1 * p0).tdiv 100)
def F74 (p0 : Yl) (p1 : Rg) : Option (Int × Int) :=
  bindO (F100 p0.lo p1.lo) fun y19 =>
  bindO (F100 p0.hi p1.hi) fun y21 =>
  some (y19, y21)
def F26 (p0 : Yl) (p1 : Rg) : Option (Int × Int × Int) :=
  bindO (F69 p1 2000) fun y39 =>
  bindO (F73 p0 y39) fun y41 =>
  if y41 = 0 then
    bindO (F74 p0 p1) fun y45 =>
    some (y45.1, y45.2, 0)
  else
    some (0, 0, y41)
def F76 (p0 : Yl) (p1 : Int) : Option Int :=
  gdO (0 < p0.toll) <|
  ckO (p1) <|
  ckO (p1 - (p1.tdiv p0.toll)) <|
  some (p1 - (p1.tdiv p0.toll))
def F30 (p0 : Yl) (p1 : Rg) : Option (Int × Int × Int) :=
  bindO (F69 p1 2000) fun y49 =>
  bindO (F73 p0 y49) fun y51 =>
  if y51 = 0 then
    bindO (F74 p0 p1) fun y56 =>
    bindO (F76 p0 y56.1) fun y63 =>
    bindO (F76 p0 y56.2) fun y65 =>
    some (y63, y65, 0)
  else
    some (0, 0, y51)
def F101 (N : Nat) (yl : Int) (ylo : Int) (yhi : Int) (ytoll : Int) (bu : Int) : Option Int :=
  bindO (F100 yl bu) fun y5 =>
  bindO (F76 (⟨ylo, yhi, ytoll⟩ : Yl) y5) fun y7 =>
  some y7
def F102j2 (rec1 : Int → Int → Option Int) (i_58 : Int) (j_59 : Int) (v67 : Bool) : Option Int :=
  if v67 = true then
    rec1 i_58 ((i_58 + j_59) / 2)
  else
    ckO (((i_58 + j_59) / 2) + 1) <|
    rec1 (((i_58 + j_59) / 2) + 1) j_59
def F102b1 (ylo : Int) (yhi : Int) (ytoll : Int) (bu : Int) (flo : Int) (N : Nat) (rec1 : Int → Int → Option Int) (i_58 : Int) (j_59 : Int) : Option Int :=
  if i_58 < j_59 then
    ckO (i_58 + j_59) <|
    gdO (0 ≤ (i_58 + j_59) ∧ (i_58 + j_59) ≤ 4000000000) <|
    ckO (ylo + ((i_58 + j_59) / 2)) <|
    bindO (F101 N (ylo + ((i_58 + j_59) / 2)) ylo yhi ytoll bu) fun y68 =>
    if flo ≤ y68 then
      F102j2 rec1 i_58 j_59 true
    else
      F102j2 rec1 i_58 j_59 false
  else
    some i_58
def F102l1 (ylo : Int) (yhi : Int) (ytoll : Int) (bu : Int) (flo : Int) (N : Nat) : Nat → Int → Int → Option Int
  | 0 => fun _ _ => none
  | m + 1 => F102b1 ylo yhi ytoll bu flo N (F102l1 ylo yhi ytoll bu flo N m)
def F102 (N : Nat) (nn : Int) (ylo : Int) (yhi : Int) (ytoll : Int) (bu : Int) (flo : Int) (fhi : Int) : Option Int :=
  F102l1 ylo yhi ytoll bu flo N N 0 nn
def F103 (N : Nat) (ix : Int) (ylo : Int) (yhi : Int) (ytoll : Int) (bu : Int) (flo : Int) (fhi : Int) : Option Bool :=
  ckO (ylo + ix) <|
  bindO (F101 N (ylo + ix) ylo yhi ytoll bu) fun y4 =>
  if flo ≤ y4 then
    some true
  else
    some false
def F78 (N : Nat) (p0 : Yl) (p1 : Int) (p2 : Rg) : Option Bool :=
  ckO (p0.hi - p0.lo) <|
  ckO ((p0.hi - p0.lo) + 1) <|
  bindO (F102 N ((p0.hi - p0.lo) + 1) p0.lo p0.hi p0.toll p1 p2.lo p2.hi) fun y20 =>
  ckO (p0.lo + y20) <|
  if (p0.lo + y20) ≤ p0.hi then
    bindO (F101 N (p0.lo + y20) p0.lo p0.hi p0.toll p1) fun y25 =>
    if y25 ≤ p2.hi then
      some true
    else
      some false
  else
    some false
def F32j1 (told_307 : List Int) : Option (Int × Int × Int) :=
  if (told_307.length : Int) = 0 then
    some (0, 0, 3)
  else
    bindO (told_307[0]?) fun x322 =>
    ckO ((told_307.length : Int) - 1) <|
    gdO (0 ≤ ((told_307.length : Int) - 1)) <|
    bindO (told_307[((told_307.length : Int) - 1).toNat]?) fun x326 =>
    some (x322, x326, 0)
def F32j3 (rec2 : List Int → Int → Option (Int × Int × Int)) (v389 : Int) (told_399 : List Int) : Option (Int × Int × Int) :=
  ckO (v389 + 1) <|
  rec2 told_399 (v389 + 1)
def F32b2 (p0 : Yl) (p1 : Rg) (N : Nat) (rec2 : List Int → Int → Option (Int × Int × Int)) (told_384 : List Int) (v389 : Int) : Option (Int × Int × Int) :=
  if v389 < 2001 then
    bindO (F78 N p0 v389 p1) fun y406 =>
    if y406 = true then
      gdO (told_384.length + 1 ≤ 1000000000) <|
      F32j3 rec2 v389 (told_384 ++ [v389])
    else
      F32j3 rec2 v389 told_384
  else
    F32j1 told_384
def F32l2 (p0 : Yl) (p1 : Rg) (N : Nat) : Nat → List Int → Int → Option (Int × Int × Int)
  | 0 => fun _ _ => none
  | m + 1 => F32b2 p0 p1 N (F32l2 p0 p1 N m)
def F32 (N : Nat) (p0 : Yl) (p1 : Rg) : Option (Int × Int × Int) :=
  bindO (F69 p1 20000) fun y222 =>
  bindO (F73 p0 y222) fun y224 =>
  if y224 = 0 then
    F32l2 p0 p1 N N [] 0
  else
    some (0, 0, y224)
def F34 (p0 : Int) (p1 : Int) : Option (Int × Int) :=
  bindO (F70 p0 0 20000) fun y29 =>
  if y29 = true then
    bindO (F70 p1 1 20000) fun y31 =>
    if y31 = true then
      ckO (p0 + p1) <|
      ckO ((p0 + p1) - 1) <|
      gdO (0 < p1) <|
      some (((p0 + p1) - 1).tdiv p1, 0)
    else
      some (0, 58)
  else
    some (0, 58)
def F104b1 (p0_0 : Int) (rec1 : List Int → Int → Option (Int × List Int)) (r_169 : List Int) (v174 : Int) : Option (Int × List Int) :=
  if v174 < p0_0 then
    gdO (r_169.length + 1 ≤ 1000000000) <|
    ckO (v174 + 1) <|
    rec1 (r_169 ++ [(-1 : Int)]) (v174 + 1)
  else
    some (p0_0, r_169)
def F104l1 (p0_0 : Int) : Nat → List Int → Int → Option (Int × List Int)
  | 0 => fun _ _ => none
  | m + 1 => F104b1 p0_0 (F104l1 p0_0 m)
def F104 (N : Nat) (p0_0 : Int) (lp0_1 : List Cm) : Option (Int × List Int) :=
  F104l1 p0_0 N [] 0
def F92 (p0 : Int) (p1 : Int) : Option Bool :=
  gdO (0 ≤ p0 ∧ p0 ≤ 62) <|
  gdO (0 ≤ (p1.fdiv (2 ^ (p0 : Int).toNat))) <|
  ckO (p1.fdiv (2 ^ (p0 : Int).toNat)) <|
  if (andI (p1.fdiv (2 ^ (p0 : Int).toNat)) 1) = 1 then
    some true
  else
    some false
def F115nj2 (rec1 : Int → Option (Bool × Int)) (v273 : Int) : Option (Bool × Int) :=
  ckO (v273 + 1) <|
  rec1 (v273 + 1)
def F115nb1 (asked : Int) (hrs : Int) (x175 : Cm) (rec1 : Int → Option (Bool × Int)) (v273 : Int) : Option (Bool × Int) :=
  if v273 < 24 then
    bindO (F92 v273 x175.hrs) fun y304 =>
    if y304 = true then
      bindO (F92 v273 asked) fun y312 =>
      if y312 = true then
        F115nj2 rec1 v273
      else
        gdO (0 ≤ v273 ∧ v273 ≤ 62) <|
        ckO ((1 : Int) * 2 ^ (v273 : Int).toNat) <|
        gdO (0 ≤ asked) <|
        gdO (0 ≤ ((1 : Int) * 2 ^ (v273 : Int).toNat)) <|
        ckO (asked) <|
        none
    else
      F115nj2 rec1 v273
  else
    some (false, asked)
def F115nl1 (asked : Int) (hrs : Int) (x175 : Cm) : Nat → Int → Option (Bool × Int)
  | 0 => fun _ => none
  | m + 1 => F115nb1 asked hrs x175 (F115nl1 asked hrs x175 m)
def F115nb (N : Nat) (rec0 : Int → Int → Int → List Cm → Option (Bool × Int)) (taker : Int) (asked : Int) (hrs : Int) (lcom : List Cm) : Option (Bool × Int) :=
  gdO (0 ≤ taker) <|
  bindO (lcom[(taker).toNat]?) fun x175 =>
  F115nl1 asked hrs x175 N 0
def F115n : Nat → Int → Int → Int → List Cm → Option (Bool × Int)
  | 0 => fun _ _ _ _ => none
  | N + 1 => F115nb N (F115n N)
def F115j2 (rec1 : Int → List Int → Int → Option (Bool × Int × List Int)) (v1105 : Int) (u1261 : List Int) (v1264 : Int) : Option (Bool × Int × List Int) :=
  ckO (v1105 + 1) <|
  rec1 (v1105 + 1) u1261 v1264
def F115j3 (taker : Int) (v1105 : Int) (u1286 : List Int) (v1289 : Int) : Option (Bool × Int × List Int) :=
  bindO (u1286[(v1105).toNat]?) fun x1298 =>
  some (true, v1289, (u1286).set ((v1105).toNat) taker)
def F115b1 (taker : Int) (hrs : Int) (lcom : List Cm) (rec0 : Int → Int → Int → List Cm → List Int → Option (Bool × Int × List Int)) (x675 : Cm) (rec1 : Int → List Int → Int → Option (Bool × Int × List Int)) (v1105 : Int) (u1106 : List Int) (v1109 : Int) : Option (Bool × Int × List Int) :=
  if v1105 < 24 then
    bindO (F92 v1105 x675.hrs) fun y1265 =>
    if y1265 = true then
      bindO (F92 v1105 v1109) fun y1273 =>
      if y1273 = true then
        F115j2 rec1 v1105 u1106 v1109
      else
        gdO (0 ≤ v1105 ∧ v1105 ≤ 62) <|
        ckO ((1 : Int) * 2 ^ (v1105 : Int).toNat) <|
        gdO (0 ≤ v1109) <|
        gdO (0 ≤ ((1 : Int) * 2 ^ (v1105 : Int).toNat)) <|
        ckO (v1109) <|
        gdO (0 ≤ v1105) <|
        bindO (u1106[(v1105).toNat]?) fun x1275 =>
        if x1275 = (-1) then
          F115j3 taker v1105 u1106 (orI v1109 ((1 : Int) * 2 ^ (v1105 : Int).toNat))
        else
          bindO (rec0 x1275 (orI v1109 ((1 : Int) * 2 ^ (v1105 : Int).toNat)) hrs lcom u1106) fun y1306 =>
          if y1306.1 = true then
            F115j3 taker v1105 y1306.2.2 y1306.2.1
          else
            F115j2 rec1 v1105 y1306.2.2 y1306.2.1
    else
      F115j2 rec1 v1105 u1106 v1109
  else
    some (false, v1109, u1106)
def F115l1 (taker : Int) (hrs : Int) (lcom : List Cm) (rec0 : Int → Int → Int → List Cm → List Int → Option (Bool × Int × List Int)) (x675 : Cm) : Nat → Int → List Int → Int → Option (Bool × Int × List Int)
  | 0 => fun _ _ _ => none
  | m + 1 => F115b1 taker hrs lcom rec0 x675 (F115l1 taker hrs lcom rec0 x675 m)
def F115b (N : Nat) (rec0 : Int → Int → Int → List Cm → List Int → Option (Bool × Int × List Int)) (taker : Int) (asked : Int) (hrs : Int) (lcom : List Cm) (lhol : List Int) : Option (Bool × Int × List Int) :=
  gdO (0 ≤ taker) <|
  bindO (lcom[(taker).toNat]?) fun x675 =>
  F115l1 taker hrs lcom rec0 x675 N 0 lhol asked
def F115 : Nat → Int → Int → Int → List Cm → List Int → Option (Bool × Int × List Int)
  | 0 => fun _ _ _ _ _ => none
  | N + 1 => F115b N (F115 N)
def F80j2 (rec1 : List Int → List Int → Int → Option (Int × List Int × List Int)) (v13226 : Int) (r_13825 : List Int) (hours_13830 : List Int) : Option (Int × List Int × List Int) :=
  ckO (v13226 + 1) <|
  rec1 r_13825 hours_13830 (v13226 + 1)
def F80j4 (rec3 : List Int → List Int → Int → Option (Int × List Int × List Int)) (v14240 : Int) (r_14332 : List Int) (hours_14337 : List Int) : Option (Int × List Int × List Int) :=
  ckO (v14240 + 1) <|
  rec3 r_14332 hours_14337 (v14240 + 1)
def F80j5 (rec3 : List Int → List Int → Int → Option (Int × List Int × List Int)) (r_14230 : List Int) (hours_14235 : List Int) (v14240 : Int) : Option (Int × List Int × List Int) :=
  F80j4 rec3 v14240 r_14230 hours_14235
def F80j6 (rec3 : List Int → List Int → Int → Option (Int × List Int × List Int)) (hours_14235 : List Int) (v14240 : Int) (x14370 : Int) (asked_14414 : Int) (found_14415 : Bool) (found_14416 : List Int) : Option (Int × List Int × List Int) :=
  if found_14415 = true then
    ckO (x14370 + 1) <|
    F80j4 rec3 v14240 found_14416 ((hours_14235).set ((v14240).toNat) (x14370 + 1))
  else
    F80j4 rec3 v14240 found_14416 hours_14235
def F80b3 (lp0_1 : List Cm) (N : Nat) (rec1 : List Int → List Int → Int → Option (Int × List Int × List Int)) (y7226 : (Int × List Int)) (v13226 : Int) (rec3 : List Int → List Int → Int → Option (Int × List Int × List Int)) (r_14230 : List Int) (hours_14235 : List Int) (v14240 : Int) : Option (Int × List Int × List Int) :=
  if v14240 < (lp0_1.length : Int) then
    gdO (0 ≤ v14240) <|
    bindO (lp0_1[(v14240).toNat]?) fun x14342 =>
    if x14342.wants ≤ v13226 then
      F80j5 rec3 r_14230 hours_14235 v14240
    else
      bindO (hours_14235[(v14240).toNat]?) fun x14370 =>
      if x14370 < v13226 then
        F80j5 rec3 r_14230 hours_14235 v14240
      else
        if 0 < r_14230.length then
          bindO (F115 N v14240 0 y7226.1 lp0_1 r_14230) fun y14425 =>
          F80j6 rec3 hours_14235 v14240 x14370 y14425.2.1 y14425.1 y14425.2.2
        else
          bindO (F115n N v14240 0 y7226.1 lp0_1) fun y14430 =>
          F80j6 rec3 hours_14235 v14240 x14370 y14430.2 y14430.1 r_14230
  else
    F80j2 rec1 v13226 r_14230 hours_14235
def F80l3 (lp0_1 : List Cm) (N : Nat) (rec1 : List Int → List Int → Int → Option (Int × List Int × List Int)) (y7226 : (Int × List Int)) (v13226 : Int) : Nat → List Int → List Int → Int → Option (Int × List Int × List Int)
  | 0 => fun _ _ _ => none
  | m + 1 => F80b3 lp0_1 N rec1 y7226 v13226 (F80l3 lp0_1 N rec1 y7226 v13226 m)
def F80b1 (lp0_1 : List Cm) (N : Nat) (y7226 : (Int × List Int)) (rec1 : List Int → List Int → Int → Option (Int × List Int × List Int)) (r_13216 : List Int) (hours_13221 : List Int) (v13226 : Int) : Option (Int × List Int × List Int) :=
  if v13226 < 24 then
    F80l3 lp0_1 N rec1 y7226 v13226 N r_13216 hours_13221 0
  else
    some (y7226.1, r_13216, hours_13221)
def F80l1 (lp0_1 : List Cm) (N : Nat) (y7226 : (Int × List Int)) : Nat → List Int → List Int → Int → Option (Int × List Int × List Int)
  | 0 => fun _ _ _ => none
  | m + 1 => F80b1 lp0_1 N y7226 (F80l1 lp0_1 N y7226 m)
def F80 (N : Nat) (p0_0 : Int) (lp0_1 : List Cm) : Option (Int × List Int × List Int) :=
  bindO (F104 N p0_0 lp0_1) fun y7226 =>
  gdO (0 ≤ (lp0_1.length : Int)) <|
  gdO ((lp0_1.length : Int) ≤ 1000000) <|
  F80l1 lp0_1 N y7226 N y7226.2 (List.replicate ((lp0_1.length : Int)).toNat (0 : Int)) 0
def F36j2 (rec1 : Int → Int → Option (Int × Int)) (v695 : Int) (level_724 : Int) : Option (Int × Int) :=
  ckO (v695 + 1) <|
  rec1 level_724 (v695 + 1)
def F36b1 (lp0_1 : List Cm) (y395 : (Int × List Int × List Int)) (rec1 : Int → Int → Option (Int × Int)) (level_694 : Int) (v695 : Int) : Option (Int × Int) :=
  if v695 < (lp0_1.length : Int) then
    gdO (0 ≤ v695) <|
    bindO (lp0_1[(v695).toNat]?) fun x725 =>
    bindO (y395.2.2[(v695).toNat]?) fun x741 =>
    if x741 < x725.wants then
      F36j2 rec1 v695 (if x741 < level_694 then x741 else level_694)
    else
      F36j2 rec1 v695 level_694
  else
    some (level_694, 0)
def F36l1 (lp0_1 : List Cm) (y395 : (Int × List Int × List Int)) : Nat → Int → Int → Option (Int × Int)
  | 0 => fun _ _ => none
  | m + 1 => F36b1 lp0_1 y395 (F36l1 lp0_1 y395 m)
def F36 (N : Nat) (p0_0 : Int) (lp0_1 : List Cm) : Option (Int × Int) :=
  bindO (F23 N p0_0 lp0_1) fun y382 =>
  if y382 = 0 then
    bindO (F80 N p0_0 lp0_1) fun y395 =>
    F36l1 lp0_1 y395 N 24 0
  else
    some (0, y382)
def F38 (N : Nat) (p0_0 : Int) (lp0_1 : List Cm) : Option (List Int × Int) :=
  bindO (F23 N p0_0 lp0_1) fun y39 =>
  if y39 = 0 then
    bindO (F80 N p0_0 lp0_1) fun y52 =>
    some (y52.2.2, 0)
  else
    some ([], y39)
def F41b1 (lp0 : List Int) (lp1 : List Int) (rec1 : Int → Option Bool) (i_1504 : Int) : Option Bool :=
  if i_1504 < (lp0.length : Int) then
    gdO (0 ≤ i_1504) <|
    bindO (lp0[(i_1504).toNat]?) fun x1607 =>
    bindO (lp1[(i_1504).toNat]?) fun x1614 =>
    if x1607 = x1614 then
      ckO (i_1504 + 1) <|
      rec1 (i_1504 + 1)
    else
      some false
  else
    some true
def F41l1 (lp0 : List Int) (lp1 : List Int) : Nat → Int → Option Bool
  | 0 => fun _ => none
  | m + 1 => F41b1 lp0 lp1 (F41l1 lp0 lp1 m)
def F41 (N : Nat) (lp0 : List Int) (lp1 : List Int) : Option Bool :=
  if (lp0.length : Int) = (lp1.length : Int) then
    F41l1 lp0 lp1 N 0
  else
    some false
def F85b1 (lp0 : List Int) (lp1 : List Int) (rec1 : Int → Option Bool) (v1504 : Int) : Option Bool :=
  if v1504 < (lp0.length : Int) then
    gdO (0 ≤ v1504) <|
    bindO (lp0[(v1504).toNat]?) fun x1607 =>
    bindO (lp1[(v1504).toNat]?) fun x1614 =>
    if x1607 = x1614 then
      ckO (v1504 + 1) <|
      rec1 (v1504 + 1)
    else
      some false
  else
    some true
def F85l1 (lp0 : List Int) (lp1 : List Int) : Nat → Int → Option Bool
  | 0 => fun _ => none
  | m + 1 => F85b1 lp0 lp1 (F85l1 lp0 lp1 m)
def F85 (N : Nat) (lp0 : List Int) (lp1 : List Int) : Option Bool :=
  if (lp0.length : Int) = (lp1.length : Int) then
    F85l1 lp0 lp1 N 0
  else
    some false
def F42j1 (N : Nat) (y5548 : (Int × List Int × List Int)) (given_8300 : List Int) (is_8305 : Bool) : Option Int :=
  if is_8305 = true then
    bindO (F85 N given_8300 y5548.2.2) fun y8312 =>
    if y8312 = true then
      some 0
    else
      some 53
  else
    some 53
def F42j2 (N : Nat) (y5548 : (Int × List Int × List Int)) (u9685 : List Int) : Option Int :=
  F42j1 N y5548 u9685 true
def F42j4 (rec3 : List Int → Int → Option Int) (v10595 : Int) (u10823 : List Int) : Option Int :=
  ckO (v10595 + 1) <|
  rec3 u10823 (v10595 + 1)
def F42j5 (N : Nat) (y5548 : (Int × List Int × List Int)) : Option Int :=
  F42j1 N y5548 [] false
def F42j7 (rec6 : Int → Option Int) (v11018 : Int) : Option Int :=
  ckO (v11018 + 1) <|
  rec6 (v11018 + 1)
def F42b6 (lp0_1 : List Cm) (N : Nat) (rec3 : List Int → Int → Option Int) (y5548 : (Int × List Int × List Int)) (u10590 : List Int) (v10595 : Int) (x10828 : Int) (rec6 : Int → Option Int) (v11018 : Int) : Option Int :=
  if v11018 < (lp0_1.length : Int) then
    gdO (0 ≤ v11018) <|
    bindO (lp0_1[(v11018).toNat]?) fun x11037 =>
    if x11037.fam = x10828 then
      bindO (F92 v10595 x11037.hrs) fun y11047 =>
      if y11047 = true then
        bindO (u10590[(v11018).toNat]?) fun x11049 =>
        ckO (x11049 + 1) <|
        F42j4 rec3 v10595 ((u10590).set ((v11018).toNat) (x11049 + 1))
      else
        F42j7 rec6 v11018
    else
      F42j7 rec6 v11018
  else
    F42j5 N y5548
def F42l6 (lp0_1 : List Cm) (N : Nat) (rec3 : List Int → Int → Option Int) (y5548 : (Int × List Int × List Int)) (u10590 : List Int) (v10595 : Int) (x10828 : Int) : Nat → Int → Option Int
  | 0 => fun _ => none
  | m + 1 => F42b6 lp0_1 N rec3 y5548 u10590 v10595 x10828 (F42l6 lp0_1 N rec3 y5548 u10590 v10595 x10828 m)
def F42b3 (lp0_1 : List Cm) (lp1 : List Int) (N : Nat) (y5548 : (Int × List Int × List Int)) (rec3 : List Int → Int → Option Int) (u10590 : List Int) (v10595 : Int) : Option Int :=
  if v10595 < (lp1.length : Int) then
    gdO (0 ≤ v10595) <|
    bindO (lp1[(v10595).toNat]?) fun x10828 =>
    if x10828 = 0 then
      F42j4 rec3 v10595 u10590
    else
      F42l6 lp0_1 N rec3 y5548 u10590 v10595 x10828 N 0
  else
    F42j2 N y5548 u10590
def F42l3 (lp0_1 : List Cm) (lp1 : List Int) (N : Nat) (y5548 : (Int × List Int × List Int)) : Nat → List Int → Int → Option Int
  | 0 => fun _ _ => none
  | m + 1 => F42b3 lp0_1 lp1 N y5548 (F42l3 lp0_1 lp1 N y5548 m)
def F42 (N : Nat) (p0_0 : Int) (lp0_1 : List Cm) (lp1 : List Int) : Option Int :=
  bindO (F23 N p0_0 lp0_1) fun y5535 =>
  if y5535 = 0 then
    bindO (F80 N p0_0 lp0_1) fun y5548 =>
    if (lp1.length : Int) = y5548.1 then
      gdO (0 ≤ (lp0_1.length : Int)) <|
      gdO ((lp0_1.length : Int) ≤ 1000000) <|
      F42l3 lp0_1 lp1 N y5548 N (List.replicate ((lp0_1.length : Int)).toNat (0 : Int)) 0
    else
      F42j1 N y5548 [] false
  else
    some y5535
def F86b1 (lp1 : List Int) (rec1 : Int → Option Int) (v268 : Int) : Option Int :=
  if v268 < (lp1.length : Int) then
    gdO (0 ≤ v268) <|
    bindO (lp1[(v268).toNat]?) fun x280 =>
    bindO (F70 x280 0 24) fun y289 =>
    if y289 = true then
      ckO (v268 + 1) <|
      rec1 (v268 + 1)
    else
      some 56
  else
    some 0
def F86l1 (lp1 : List Int) : Nat → Int → Option Int
  | 0 => fun _ => none
  | m + 1 => F86b1 lp1 (F86l1 lp1 m)
def F86 (N : Nat) (p0_0 : Int) (lp0_1 : List Cm) (lp1 : List Int) : Option Int :=
  bindO (F23 N p0_0 lp0_1) fun y153 =>
  if y153 = 0 then
    if (lp1.length : Int) = (lp0_1.length : Int) then
      F86l1 lp1 N 0
    else
      some 56
  else
    some y153
def F136 (p0 : Int) : Option Bool :=
  some false
def F125 (p0 : Int) (p1 : Int) : Option Bool :=
  bindO (F136 p0) fun y15 =>
  if y15 = true then
    bindO (F136 p1) fun y17 =>
    if y17 = true then
      if p0 < p1 then
        some true
      else
        some false
    else
      some true
  else
    if p0 < p1 then
      some true
    else
      some false
def F87j2 (rec1 : List Int → Int → Option Bool) (v219465 : Int) (r_224465 : List Int) : Option Bool :=
  ckO (v219465 + 1) <|
  rec1 r_224465 (v219465 + 1)
def F87j5 (coming_229262 : List Int) : Option Bool :=
  gdO (coming_229262.length ≤ 1000000000) <|
  some false
def F87j7 (rec6 : List Int → Int → Option Bool) (v229400 : Int) (coming_229428 : List Int) : Option Bool :=
  ckO (v229400 + 1) <|
  rec6 coming_229428 (v229400 + 1)
def F87j8 (rec6 : List Int → Int → Option Bool) (coming_229395 : List Int) (v229400 : Int) : Option Bool :=
  F87j7 rec6 v229400 coming_229395
def F87b6 (lp0_1 : List Cm) (lp1 : List Int) (asked_228679 : Int) (rec6 : List Int → Int → Option Bool) (coming_229395 : List Int) (v229400 : Int) : Option Bool :=
  if v229400 < (lp0_1.length : Int) then
    gdO (0 ≤ v229400) <|
    bindO (lp0_1[(v229400).toNat]?) fun x229433 =>
    bindO (lp1[(v229400).toNat]?) fun x229448 =>
    if 0 < x229448 then
      gdO (0 ≤ x229433.hrs) <|
      gdO (0 ≤ asked_228679) <|
      ckO (x229433.hrs) <|
      ckO (asked_228679) <|
      if (andNotI x229433.hrs asked_228679) = 0 then
        gdO (coming_229395.length + 1 ≤ 1000000000) <|
        F87j7 rec6 v229400 (coming_229395 ++ [x229433.fam])
      else
        F87j8 rec6 coming_229395 v229400
    else
      F87j8 rec6 coming_229395 v229400
  else
    F87j5 coming_229395
def F87l6 (lp0_1 : List Cm) (lp1 : List Int) (asked_228679 : Int) : Nat → List Int → Int → Option Bool
  | 0 => fun _ _ => none
  | m + 1 => F87b6 lp0_1 lp1 asked_228679 (F87l6 lp0_1 lp1 asked_228679 m)
def F87j4 (lp0_1 : List Cm) (lp1 : List Int) (N : Nat) (rec3 : List Int → Int → Option Bool) (v227808 : Int) (asked_228679 : Int) (found_228680 : Bool) (found_228681 : List Int) : Option Bool :=
  if found_228680 = true then
    ckO (v227808 + 1) <|
    rec3 found_228681 (v227808 + 1)
  else
    F87l6 lp0_1 lp1 asked_228679 N [] 0
def F87b3 (lp0_1 : List Cm) (lp1 : List Int) (N : Nat) (rec1 : List Int → Int → Option Bool) (y114743 : (Int × List Int)) (v219465 : Int) (x224470 : Int) (rec3 : List Int → Int → Option Bool) (r_227803 : List Int) (v227808 : Int) : Option Bool :=
  if v227808 < x224470 then
    if 0 < r_227803.length then
      bindO (F115 N v219465 0 y114743.1 lp0_1 r_227803) fun y229461 =>
      F87j4 lp0_1 lp1 N rec3 v227808 y229461.2.1 y229461.1 y229461.2.2
    else
      bindO (F115n N v219465 0 y114743.1 lp0_1) fun y229466 =>
      F87j4 lp0_1 lp1 N rec3 v227808 y229466.2 y229466.1 r_227803
  else
    F87j2 rec1 v219465 r_227803
def F87l3 (lp0_1 : List Cm) (lp1 : List Int) (N : Nat) (rec1 : List Int → Int → Option Bool) (y114743 : (Int × List Int)) (v219465 : Int) (x224470 : Int) : Nat → List Int → Int → Option Bool
  | 0 => fun _ _ => none
  | m + 1 => F87b3 lp0_1 lp1 N rec1 y114743 v219465 x224470 (F87l3 lp0_1 lp1 N rec1 y114743 v219465 x224470 m)
def F87b1 (lp0_1 : List Cm) (lp1 : List Int) (N : Nat) (y114743 : (Int × List Int)) (rec1 : List Int → Int → Option Bool) (r_219460 : List Int) (v219465 : Int) : Option Bool :=
  if v219465 < (lp1.length : Int) then
    gdO (0 ≤ v219465) <|
    bindO (lp1[(v219465).toNat]?) fun x224470 =>
    F87l3 lp0_1 lp1 N rec1 y114743 v219465 x224470 N r_219460 0
  else
    some true
def F87l1 (lp0_1 : List Cm) (lp1 : List Int) (N : Nat) (y114743 : (Int × List Int)) : Nat → List Int → Int → Option Bool
  | 0 => fun _ _ => none
  | m + 1 => F87b1 lp0_1 lp1 N y114743 (F87l1 lp0_1 lp1 N y114743 m)
def F87 (N : Nat) (p0_0 : Int) (lp0_1 : List Cm) (lp1 : List Int) : Option Bool :=
  bindO (F104 N p0_0 lp0_1) fun y114743 =>
  F87l1 lp0_1 lp1 N y114743 N y114743.2 0
def F44 (N : Nat) (p0_0 : Int) (lp0_1 : List Cm) (lp1 : List Int) : Option (Bool × Int) :=
  bindO (F86 N p0_0 lp0_1 lp1) fun y21 =>
  if y21 = 0 then
    bindO (F87 N p0_0 lp0_1 lp1) fun y25 =>
    some (y25, 0)
  else
    some (false, y21)
def F118b1 (lp0 : List Int) (p1 : Int) (rec1 : Int → Option Int) (v316 : Int) : Option Int :=
  if v316 < (lp0.length : Int) then
    gdO (0 ≤ v316) <|
    bindO (lp0[(v316).toNat]?) fun x338 =>
    if p1 = x338 then
      some v316
    else
      ckO (v316 + 1) <|
      rec1 (v316 + 1)
  else
    some (-1)
def F118l1 (lp0 : List Int) (p1 : Int) : Nat → Int → Option Int
  | 0 => fun _ => none
  | m + 1 => F118b1 lp0 p1 (F118l1 lp0 p1 m)
def F118 (N : Nat) (lp0 : List Int) (p1 : Int) : Option Int :=
  F118l1 lp0 p1 N 0
def F110 (N : Nat) (lp0 : List Int) (p1 : Int) : Option Bool :=
  bindO (F118 N lp0 p1) fun y9 =>
  if 0 ≤ y9 then
    some true
  else
    some false
def F91j2 (rec1 : List Cm → Int → Option (Int × List Cm)) (v427 : Int) (comers_441 : List Cm) : Option (Int × List Cm) :=
  ckO (v427 + 1) <|
  rec1 comers_441 (v427 + 1)
def F91b1 (p0_0 : Int) (p1 : Int) (lp2 : List Int) (N : Nat) (y238 : (List Cm)) (rec1 : List Cm → Int → Option (Int × List Cm)) (comers_422 : List Cm) (v427 : Int) : Option (Int × List Cm) :=
  if v427 < (y238.length : Int) then
    gdO (0 ≤ v427) <|
    bindO (comers_422[(v427).toNat]?) fun x446 =>
    bindO (F110 N lp2 x446.fam) fun y453 =>
    if y453 = true then
      gdO (0 ≤ p1 ∧ p1 ≤ 62) <|
      ckO ((1 : Int) * 2 ^ (p1 : Int).toNat) <|
      gdO (0 ≤ x446.hrs) <|
      gdO (0 ≤ ((1 : Int) * 2 ^ (p1 : Int).toNat)) <|
      ckO (x446.hrs) <|
      F91j2 rec1 v427 ((comers_422).set ((v427).toNat) (⟨x446.fam, andNotI x446.hrs ((1 : Int) * 2 ^ (p1 : Int).toNat), x446.wants⟩ : Cm))
    else
      F91j2 rec1 v427 comers_422
  else
    some (p0_0, comers_422)
def F91l1 (p0_0 : Int) (p1 : Int) (lp2 : List Int) (N : Nat) (y238 : (List Cm)) : Nat → List Cm → Int → Option (Int × List Cm)
  | 0 => fun _ _ => none
  | m + 1 => F91b1 p0_0 p1 lp2 N y238 (F91l1 p0_0 p1 lp2 N y238 m)
def F91 (N : Nat) (p0_0 : Int) (lp0_1 : List Cm) (p1 : Int) (lp2 : List Int) : Option (Int × List Cm) :=
  bindO (F64 lp0_1) fun y238 =>
  F91l1 p0_0 p1 lp2 N y238 N y238 0
def F93b1 (lp0_1 : List Cm) (rec1 : List Int → Int → Option (List Int)) (all_341 : List Int) (v346 : Int) : Option (List Int) :=
  if v346 < (lp0_1.length : Int) then
    gdO (0 ≤ v346) <|
    bindO (lp0_1[(v346).toNat]?) fun x360 =>
    gdO (all_341.length + 1 ≤ 1000000000) <|
    ckO (v346 + 1) <|
    rec1 (all_341 ++ [x360.fam]) (v346 + 1)
  else
    some all_341
def F93l1 (lp0_1 : List Cm) : Nat → List Int → Int → Option (List Int)
  | 0 => fun _ _ => none
  | m + 1 => F93b1 lp0_1 (F93l1 lp0_1 m)
def F93 (N : Nat) (p0_0 : Int) (lp0_1 : List Cm) : Option (List Int) :=
  F93l1 lp0_1 N [] 0
def F53 (N : Nat) (p0_0 : Int) (lp0_1 : List Cm) (p1 : Int) (p2 : Int) : Option (Int × Int) :=
  bindO (F66 N p0_0 lp0_1 p1) fun y257 =>
  if y257.2 = 0 then
    ckO (p0_0 - 1) <|
    bindO (F70 p2 0 (p0_0 - 1)) fun y265 =>
    if y265 = true then
      bindO (F80 N p0_0 lp0_1) fun y278 =>
      bindO (F91 N p0_0 lp0_1 p2 [p1]) fun y317 =>
      bindO (F87 N y317.1 y317.2 y278.2.2) fun y323 =>
      if y323 = true then
        gdO (0 ≤ y257.1) <|
        bindO (y278.2.2[(y257.1).toNat]?) fun x372 =>
        if x372 = 0 then
          some (0, 0)
        else
          bindO (lp0_1[(y257.1).toNat]?) fun x376 =>
          bindO (F92 p2 x376.hrs) fun y383 =>
          if y383 = true then
            ckO (x372 - 1) <|
            bindO (F93 N p0_0 lp0_1) fun y477 =>
            bindO (F91 N p0_0 lp0_1 p2 y477) fun y483 =>
            bindO (F87 N y483.1 y483.2 ((y278.2.2).set ((y257.1).toNat) (x372 - 1))) fun y489 =>
            if y489 = true then
              some (2, 0)
            else
              some (0, 0)
          else
            some (0, 0)
      else
        some (1, 0)
    else
      some (0, 7)
  else
    some (0, y257.2)
def F55j2 (rec1 : List Int → Int → Option (List Int × Int)) (v1605 : Int) (idle_1671 : List Int) : Option (List Int × Int) :=
  ckO (v1605 + 1) <|
  rec1 idle_1671 (v1605 + 1)
def F55b1 (p0_0 : Int) (lp0_1 : List Cm) (N : Nat) (y891 : (Int × List Int × List Int)) (rec1 : List Int → Int → Option (List Int × Int)) (idle_1600 : List Int) (v1605 : Int) : Option (List Int × Int) :=
  if v1605 < p0_0 then
    bindO (F93 N p0_0 lp0_1) fun y1706 =>
    bindO (F91 N p0_0 lp0_1 v1605 y1706) fun y1712 =>
    bindO (F87 N y1712.1 y1712.2 y891.2.2) fun y1718 =>
    if y1718 = true then
      gdO (idle_1600.length + 1 ≤ 1000000000) <|
      F55j2 rec1 v1605 (idle_1600 ++ [v1605])
    else
      F55j2 rec1 v1605 idle_1600
  else
    some (idle_1600, 0)
def F55l1 (p0_0 : Int) (lp0_1 : List Cm) (N : Nat) (y891 : (Int × List Int × List Int)) : Nat → List Int → Int → Option (List Int × Int)
  | 0 => fun _ _ => none
  | m + 1 => F55b1 p0_0 lp0_1 N y891 (F55l1 p0_0 lp0_1 N y891 m)
def F55 (N : Nat) (p0_0 : Int) (lp0_1 : List Cm) : Option (List Int × Int) :=
  bindO (F23 N p0_0 lp0_1) fun y878 =>
  if y878 = 0 then
    bindO (F80 N p0_0 lp0_1) fun y891 =>
    F55l1 p0_0 lp0_1 N y891 N [] 0
  else
    some ([], y878)
def F96 (lp0 : List Int) (p1 : Int) (p2 : Int) : Option (List Int) :=
  gdO (0 ≤ p1) <|
  gdO (0 ≤ p2) <|
  gdO ((p1).toNat ≤ (p2).toNat ∧ (p2).toNat ≤ lp0.length ∧ lp0.length ≤ lp0.length) <|
  if p1 = p2 then
    some lp0
  else
    gdO ((p1).toNat ≤ lp0.length) <|
    gdO ((p2).toNat ≤ lp0.length) <|
    gdO (((lp0.take ((p1).toNat)) ++ (lp0.drop ((p2).toNat))).length ≤ lp0.length) <|
    gdO (0 ≤ (((lp0.take ((p1).toNat)) ++ (lp0.drop ((p2).toNat))).length : Int)) <|
    gdO (((((lp0.take ((p1).toNat)) ++ (lp0.drop ((p2).toNat))).length : Int)).toNat ≤ lp0.length) <|
    some ((lp0.take ((p1).toNat)) ++ (lp0.drop ((p2).toNat)))
def F57j1 (u1181 : List Int) : Option (List Int × Int) :=
  gdO (u1181.length ≤ 1000000000) <|
  some (sortI u1181, 0)
def F57j3 (rec2 : List Int → Int → Option (List Int × Int)) (v1427 : Int) (u1478 : List Int) : Option (List Int × Int) :=
  ckO (v1427 + 1) <|
  rec2 u1478 (v1427 + 1)
def F57b2 (y777 : (Int × List Cm)) (y814 : List Int) (y831 : (Int × List Int × List Int)) (rec2 : List Int → Int → Option (List Int × Int)) (u1418 : List Int) (v1427 : Int) : Option (List Int × Int) :=
  if v1427 < (y777.2.length : Int) then
    gdO (0 ≤ v1427) <|
    bindO (y777.2[(v1427).toNat]?) fun x1487 =>
    bindO (y814[(v1427).toNat]?) fun x1508 =>
    bindO (y831.2.2[(v1427).toNat]?) fun x1512 =>
    if x1508 = x1512 then
      F57j3 rec2 v1427 u1418
    else
      gdO (u1418.length + 1 ≤ 1000000000) <|
      F57j3 rec2 v1427 (u1418 ++ [x1487.fam])
  else
    F57j1 u1418
def F57l2 (y777 : (Int × List Cm)) (y814 : List Int) (y831 : (Int × List Int × List Int)) : Nat → List Int → Int → Option (List Int × Int)
  | 0 => fun _ _ => none
  | m + 1 => F57b2 y777 y814 y831 (F57l2 y777 y814 y831 m)
def F57 (N : Nat) (p0_0 : Int) (lp0_1 : List Cm) (p1 : Int) : Option (List Int × Int) :=
  bindO (F66 N p0_0 lp0_1 p1) fun y768 =>
  if y768.2 = 0 then
    bindO (F67 p0_0 lp0_1 y768.1) fun y777 =>
    bindO (F80 N p0_0 lp0_1) fun y795 =>
    ckO (y768.1 + 1) <|
    gdO (0 < y795.2.2.length) <|
    bindO (F96 y795.2.2 y768.1 (y768.1 + 1)) fun y814 =>
    bindO (F80 N y777.1 y777.2) fun y831 =>
    F57l2 y777 y814 y831 N [] 0
  else
    some ([], y768.2)
def F72 : Option (Int × List Cm) :=
  some (6, [(⟨7, 7, 4⟩ : Cm), (⟨4, 6, 1⟩ : Cm), (⟨9, 28, 3⟩ : Cm), (⟨2, 24, 2⟩ : Cm)])
def F25j2 (N : Nat) (y128 : (Int × List Cm)) (y182 : (Int × Int)) (y190 : (List Int × Int)) (y202 : (List Int × Int)) (v208 : Bool) (v215 : Bool) : Option Bool :=
  if v208 = true then
    if v215 = true then
      if y182.1 = 2 then
        bindO (F41 N y190.1 [5]) fun y227 =>
        if y227 = true then
          bindO (F41 N y202.1 [9]) fun y230 =>
          if y230 = true then
            bindO (F42 N y128.1 y128.2 [7, 4, 9, 2, 2, 0]) fun y233 =>
            if y233 = 53 then
              some true
            else
              some false
          else
            some false
        else
          some false
      else
        some false
    else
      some false
  else
    if v215 = true then
      some false
    else
      some false
def F25j1 (N : Nat) (y128 : (Int × List Cm)) (y139 : (Int × Int × Int)) (y145 : (Int × Int × Int)) (y151 : (Int × Int × Int)) (y156 : (Int × Int)) (y160 : (Int × Int)) (y168 : (List Int × Int)) (y178 : (Bool × Int)) (y182 : (Int × Int)) (y190 : (List Int × Int)) (y202 : (List Int × Int)) (v208 : Bool) : Option Bool :=
  if y178.1 = true then
    if (decide (y139.1 = 4) && decide (y139.2.1 = 21)) = true then
      if (decide (y145.1 = 15) && decide (y145.2.1 = 23)) = true then
        if (decide (y151.1 = 7) && decide (y151.2.1 = 12)) = true then
          if y156.1 = 4 then
            if y160.1 = 1 then
              bindO (F41 N y168.1 [2, 1, 1, 1]) fun y236 =>
              if y236 = true then
                F25j2 N y128 y182 y190 y202 v208 false
              else
                F25j2 N y128 y182 y190 y202 v208 false
            else
              F25j2 N y128 y182 y190 y202 v208 false
          else
            F25j2 N y128 y182 y190 y202 v208 false
        else
          F25j2 N y128 y182 y190 y202 v208 false
      else
        F25j2 N y128 y182 y190 y202 v208 false
    else
      F25j2 N y128 y182 y190 y202 v208 false
  else
    if (decide (y139.1 = 4) && decide (y139.2.1 = 21)) = true then
      if (decide (y145.1 = 15) && decide (y145.2.1 = 23)) = true then
        if (decide (y151.1 = 7) && decide (y151.2.1 = 12)) = true then
          if y156.1 = 4 then
            if y160.1 = 1 then
              bindO (F41 N y168.1 [2, 1, 1, 1]) fun y239 =>
              if y239 = true then
                F25j2 N y128 y182 y190 y202 v208 true
              else
                F25j2 N y128 y182 y190 y202 v208 false
            else
              F25j2 N y128 y182 y190 y202 v208 false
          else
            F25j2 N y128 y182 y190 y202 v208 false
        else
          F25j2 N y128 y182 y190 y202 v208 false
      else
        F25j2 N y128 y182 y190 y202 v208 false
    else
      F25j2 N y128 y182 y190 y202 v208 false
def F25 (N : Nat) : Option Bool :=
  bindO (F72) fun y128 =>
  bindO (F26 (⟨40, 60, 16⟩ : Yl) (⟨10, 35⟩ : Rg)) fun y139 =>
  bindO (F30 (⟨40, 60, 16⟩ : Yl) (⟨40, 40⟩ : Rg)) fun y145 =>
  bindO (F32 N (⟨40, 60, 16⟩ : Yl) (⟨4, 4⟩ : Rg)) fun y151 =>
  bindO (F34 25 8) fun y156 =>
  bindO (F36 N y128.1 y128.2) fun y160 =>
  bindO (F38 N y128.1 y128.2) fun y168 =>
  bindO (F44 N y128.1 y128.2 [2, 1, 2, 1]) fun y178 =>
  bindO (F53 N y128.1 y128.2 9 3) fun y182 =>
  bindO (F55 N y128.1 y128.2) fun y190 =>
  bindO (F57 N y128.1 y128.2 2) fun y202 =>
  if y139.2.2 = 0 then
    if y145.2.2 = 0 then
      if y151.2.2 = 0 then
        if y156.2 = 0 then
          if y160.2 = 0 then
            if y168.2 = 0 then
              if y178.2 = 0 then
                if y182.2 = 0 then
                  if y190.2 = 0 then
                    if y202.2 = 0 then
                      F25j1 N y128 y139 y145 y151 y156 y160 y168 y178 y182 y190 y202 true
                    else
                      F25j1 N y128 y139 y145 y151 y156 y160 y168 y178 y182 y190 y202 false
                  else
                    F25j1 N y128 y139 y145 y151 y156 y160 y168 y178 y182 y190 y202 false
                else
                  F25j1 N y128 y139 y145 y151 y156 y160 y168 y178 y182 y190 y202 false
              else
                F25j1 N y128 y139 y145 y151 y156 y160 y168 y178 y182 y190 y202 false
            else
              F25j1 N y128 y139 y145 y151 y156 y160 y168 y178 y182 y190 y202 false
          else
            F25j1 N y128 y139 y145 y151 y156 y160 y168 y178 y182 y190 y202 false
        else
          F25j1 N y128 y139 y145 y151 y156 y160 y168 y178 y182 y190 y202 false
      else
        F25j1 N y128 y139 y145 y151 y156 y160 y168 y178 y182 y190 y202 false
    else
      F25j1 N y128 y139 y145 y151 y156 y160 y168 y178 y182 y190 y202 false
  else
    F25j1 N y128 y139 y145 y151 y156 y160 y168 y178 y182 y190 y202 false
def F3 (N : Nat) (p0_0 : Int) (lp0_1 : List Cm) (p1 : Cm) (p2 : Yl) : Option Bool :=
  bindO (F14 N p0_0 lp0_1 p1) fun y107 =>
  bindO (F15 N p0_0 lp0_1 p1) fun y121 =>
  bindO (F16 N p0_0 lp0_1 p1.fam) fun y135 =>
  bindO (F17 N p0_0 lp0_1 p1.fam) fun y149 =>
  bindO (F18 N y107.1 y107.2.1 y121.1 y121.2.1) fun y175 =>
  if y175 = true then
    if y107.2.2 = y121.2.2 then
      bindO (F18 N y135.1 y135.2.1 y149.1 y149.2.1) fun y177 =>
      if y177 = true then
        if y135.2.2 = y149.2.2 then
          bindO (F19 p2) fun y179 =>
          bindO (F20 p2) fun y181 =>
          if y179 = y181 then
            bindO (F21 p1) fun y183 =>
            bindO (F22 p1) fun y185 =>
            if y183 = y185 then
              bindO (F23 N p0_0 lp0_1) fun y187 =>
              bindO (F24 N p0_0 lp0_1) fun y189 =>
              if y187 = y189 then
                bindO (F25 N) fun y191 =>
                some y191
              else
                some false
            else
              some false
          else
            some false
        else
          some false
      else
        some false
    else
      some false
  else
    some false
def F75 (p0 : Rg) (p1 : Int) : Option Bool :=
  if 0 ≤ p0.lo then
    if p0.lo ≤ p0.hi then
      if p0.hi ≤ p1 then
        some true
      else
        some false
    else
      some false
  else
    some false
def F27 (p0 : Yl) (p1 : Rg) : Option (Int × Int × Int) :=
  bindO (F20 p0) fun y29 =>
  if y29 = 0 then
    bindO (F75 p1 2000) fun y37 =>
    if y37 = true then
      ckO (p1.lo * p0.lo) <|
      ckO (p1.hi * p0.hi) <|
      some ((p1.lo * p0.lo).tdiv 100, (p1.hi * p0.hi).tdiv 100, 0)
    else
      some (0, 0, 58)
  else
    some (0, 0, 50)
def F28 (p0 : Yl) (p1 : Int) : Option (Int × Int) :=
  bindO (F70 p1 0 20000) fun y31 =>
  bindO (F73 p0 y31) fun y33 =>
  if y33 = 0 then
    gdO (0 < p0.toll) <|
    ckO (p1) <|
    some (p1.tdiv p0.toll, 0)
  else
    some (0, y33)
def F29 (p0 : Yl) (p1 : Int) : Option (Int × Int) :=
  bindO (F20 p0) fun y25 =>
  if y25 = 0 then
    bindO (F71 p1 0 20000) fun y33 =>
    if y33 = true then
      gdO (0 < p0.toll) <|
      ckO (p1) <|
      some (p1.tdiv p0.toll, 0)
    else
      some (0, 58)
  else
    some (0, 50)
def F77 (p0 : Yl) (p1 : Int) (p2 : Int) : Option Int :=
  ckO (p1 * p2) <|
  gdO (0 < p0.toll) <|
  ckO ((p1 * p2).tdiv 100) <|
  ckO (((p1 * p2).tdiv 100) - (((p1 * p2).tdiv 100).tdiv p0.toll)) <|
  some (((p1 * p2).tdiv 100) - (((p1 * p2).tdiv 100).tdiv p0.toll))
def F31 (p0 : Yl) (p1 : Rg) : Option (Int × Int × Int) :=
  bindO (F27 p0 p1) fun y24 =>
  if y24.2.2 = 0 then
    bindO (F77 p0 p1.lo p0.lo) fun y31 =>
    bindO (F77 p0 p1.hi p0.hi) fun y33 =>
    some (y31, y33, 0)
  else
    some (0, 0, y24.2.2)
def F79j1 (p0 : Yl) (p1 : Int) (p2 : Rg) (lo_75 : Int) : Option Bool :=
  bindO (F77 p0 p1 lo_75) fun y79 =>
  if y79 ≤ p2.hi then
    some true
  else
    some false
def F79b2 (p0 : Yl) (p1 : Int) (p2 : Rg) (rec2 : Int → Int → Option Bool) (lo_91 : Int) (hi_92 : Int) : Option Bool :=
  if lo_91 < hi_92 then
    ckO (lo_91 + hi_92) <|
    bindO (F77 p0 p1 ((lo_91 + hi_92).tdiv 2)) fun y95 =>
    if p2.lo ≤ y95 then
      rec2 lo_91 ((lo_91 + hi_92).tdiv 2)
    else
      ckO (((lo_91 + hi_92).tdiv 2) + 1) <|
      rec2 (((lo_91 + hi_92).tdiv 2) + 1) hi_92
  else
    F79j1 p0 p1 p2 lo_91
def F79l2 (p0 : Yl) (p1 : Int) (p2 : Rg) : Nat → Int → Int → Option Bool
  | 0 => fun _ _ => none
  | m + 1 => F79b2 p0 p1 p2 (F79l2 p0 p1 p2 m)
def F79 (N : Nat) (p0 : Yl) (p1 : Int) (p2 : Rg) : Option Bool :=
  bindO (F77 p0 p1 p0.hi) fun y57 =>
  if y57 < p2.lo then
    some false
  else
    F79l2 p0 p1 p2 N p0.lo p0.hi
def F33j1 (out_208 : Int) (out_209 : Int) : Option (Int × Int × Int) :=
  if out_208 < 0 then
    some (0, 0, 3)
  else
    some (out_208, out_209, 0)
def F33j3 (rec2 : Int → Int → Int → Option (Int × Int × Int)) (b_252 : Int) (out_258 : Int) (out_259 : Int) : Option (Int × Int × Int) :=
  ckO (b_252 + 1) <|
  rec2 out_258 out_259 (b_252 + 1)
def F33j4 (rec2 : Int → Int → Int → Option (Int × Int × Int)) (b_252 : Int) (out_264 : Int) : Option (Int × Int × Int) :=
  F33j3 rec2 b_252 out_264 b_252
def F33b2 (p0 : Yl) (p1 : Rg) (N : Nat) (rec2 : Int → Int → Int → Option (Int × Int × Int)) (out_250 : Int) (out_251 : Int) (b_252 : Int) : Option (Int × Int × Int) :=
  if b_252 ≤ 2000 then
    bindO (F79 N p0 b_252 p1) fun y262 =>
    if y262 = true then
      if out_250 < 0 then
        F33j4 rec2 b_252 b_252
      else
        F33j4 rec2 b_252 out_250
    else
      F33j3 rec2 b_252 out_250 out_251
  else
    F33j1 out_250 out_251
def F33l2 (p0 : Yl) (p1 : Rg) (N : Nat) : Nat → Int → Int → Int → Option (Int × Int × Int)
  | 0 => fun _ _ _ => none
  | m + 1 => F33b2 p0 p1 N (F33l2 p0 p1 N m)
def F33 (N : Nat) (p0 : Yl) (p1 : Rg) : Option (Int × Int × Int) :=
  bindO (F20 p0) fun y142 =>
  if y142 = 0 then
    bindO (F75 p1 20000) fun y150 =>
    if y150 = true then
      F33l2 p0 p1 N N (-1) 0 0
    else
      some (0, 0, 58)
  else
    some (0, 0, 50)
def F35 (p0 : Int) (p1 : Int) : Option (Int × Int) :=
  bindO (F71 p0 0 20000) fun y29 =>
  if y29 = true then
    bindO (F71 p1 1 20000) fun y31 =>
    if y31 = true then
      ckO (p0 + p1) <|
      ckO ((p0 + p1) - 1) <|
      gdO (0 < p1) <|
      some (((p0 + p1) - 1).tdiv p1, 0)
    else
      some (0, 58)
  else
    some (0, 58)
def F4 (N : Nat) (p0 : Yl) (p1 : Cn) : Option Bool :=
  bindO (F26 p0 (⟨p1.blo, p1.bhi⟩ : Rg)) fun y65 =>
  bindO (F27 p0 (⟨p1.blo, p1.bhi⟩ : Rg)) fun y71 =>
  bindO (F28 p0 p1.gal) fun y76 =>
  bindO (F29 p0 p1.gal) fun y80 =>
  bindO (F30 p0 (⟨p1.blo, p1.bhi⟩ : Rg)) fun y85 =>
  bindO (F31 p0 (⟨p1.blo, p1.bhi⟩ : Rg)) fun y91 =>
  bindO (F32 N p0 (⟨p1.flo, p1.fhi⟩ : Rg)) fun y97 =>
  bindO (F33 N p0 (⟨p1.flo, p1.fhi⟩ : Rg)) fun y103 =>
  bindO (F34 p1.gal p1.hly) fun y108 =>
  bindO (F35 p1.gal p1.hly) fun y112 =>
  if (decide (y65.1 = y71.1) && decide (y65.2.1 = y71.2.1)) = true then
    if y65.2.2 = y71.2.2 then
      if y76.1 = y80.1 then
        if y76.2 = y80.2 then
          if (decide (y85.1 = y91.1) && decide (y85.2.1 = y91.2.1)) = true then
            if y85.2.2 = y91.2.2 then
              if (decide (y97.1 = y103.1) && decide (y97.2.1 = y103.2.1)) = true then
                if y97.2.2 = y103.2.2 then
                  if y108.1 = y112.1 then
                    if y108.2 = y112.2 then
                      bindO (F25 N) fun y117 =>
                      some y117
                    else
                      some false
                  else
                    some false
                else
                  some false
              else
                some false
            else
              some false
          else
            some false
        else
          some false
      else
        some false
    else
      some false
  else
    some false
def F59 (p0 : Int) (p1 : Int) : Option Int :=
  gdO (0 < p1) <|
  ckO ((p0.tmod p1) + p1) <|
  some (((p0.tmod p1) + p1).tmod p1)
def F8 (N : Nat) (p0 : A6) : Option Bool :=
  bindO (F59 p0.a 600) fun y97 =>
  bindO (F59 p0.b 99) fun y99 =>
  ckO (2 + y99) <|
  bindO (F59 p0.c 400) fun y105 =>
  ckO (y97 + y105) <|
  bindO (F59 p0.d 1500) fun y110 =>
  bindO (F59 p0.e 500) fun y115 =>
  ckO (y110 + y115) <|
  ckO ((y97 + y105) - y97) <|
  ckO (((y97 + y105) - y97) + 1) <|
  bindO (F59 p0.f (((y97 + y105) - y97) + 1)) fun y119 =>
  ckO (y97 + y119) <|
  ckO (p0.f) <|
  ckO ((y110 + y115) - y110) <|
  ckO (((y110 + y115) - y110) + 1) <|
  bindO (F59 (p0.f.tdiv 7) (((y110 + y115) - y110) + 1)) fun y123 =>
  ckO (y110 + y123) <|
  bindO (F26 (⟨y97, y97 + y105, 2 + y99⟩ : Yl) (⟨y110, y110 + y115⟩ : Rg)) fun y129 =>
  bindO (F30 (⟨y97, y97 + y105, 2 + y99⟩ : Yl) (⟨y110, y110 + y115⟩ : Rg)) fun y135 =>
  bindO (F26 (⟨y97 + y119, y97 + y119, 2 + y99⟩ : Yl) (⟨y110 + y123, y110 + y123⟩ : Rg)) fun y141 =>
  bindO (F30 (⟨y97 + y119, y97 + y119, 2 + y99⟩ : Yl) (⟨y110 + y123, y110 + y123⟩ : Rg)) fun y147 =>
  bindO (F28 (⟨y97, y97 + y105, 2 + y99⟩ : Yl) y141.1) fun y152 =>
  bindO (F32 N (⟨y97, y97 + y105, 2 + y99⟩ : Yl) (⟨y147.1, y147.2.1⟩ : Rg)) fun y157 =>
  if y129.2.2 = 0 then
    if y135.2.2 = 0 then
      if y141.2.2 = 0 then
        if y147.2.2 = 0 then
          if y152.2 = 0 then
            if y157.2.2 = 0 then
              if y141.1 = y141.2.1 then
                if y147.1 = y147.2.1 then
                  ckO (y152.1 + y147.1) <|
                  if (y152.1 + y147.1) = y141.1 then
                    if y141.1 < y129.1 then
                      some false
                    else
                      if y129.2.1 < y141.1 then
                        some false
                      else
                        if y147.1 < y135.1 then
                          some false
                        else
                          if y135.2.1 < y147.1 then
                            some false
                          else
                            if (y110 + y123) < y157.1 then
                              some false
                            else
                              if y157.2.1 < (y110 + y123) then
                                some false
                              else
                                bindO (F30 (⟨y97, y97, 2 + y99⟩ : Yl) (⟨y110, y110⟩ : Rg)) fun y165 =>
                                bindO (F30 (⟨y97 + y105, y97 + y105, 2 + y99⟩ : Yl) (⟨y110 + y115, y110 + y115⟩ : Rg)) fun y171 =>
                                if y165.2.2 = 0 then
                                  if y171.2.2 = 0 then
                                    if y165.1 = y135.1 then
                                      if y171.2.1 = y135.2.1 then
                                        bindO (F25 N) fun y177 =>
                                        some y177
                                      else
                                        some false
                                    else
                                      some false
                                  else
                                    some false
                                else
                                  some false
                  else
                    some false
                else
                  some false
              else
                some false
            else
              some false
          else
            some false
        else
          some false
      else
        some false
    else
      some false
  else
    some false
def F89j1 (crowded_172114 : List Int) (served_172119 : Bool) : Option (List Int × Int) :=
  if served_172119 = true then
    some ([], 55)
  else
    some (crowded_172114, 0)
def F89j2 (u200797 : List Int) : Option (List Int × Int) :=
  F89j1 [] true
def F89j4 (rec3 : List Int → Int → Option (List Int × Int)) (v219475 : Int) (r_224475 : List Int) : Option (List Int × Int) :=
  ckO (v219475 + 1) <|
  rec3 r_224475 (v219475 + 1)
def F89j7 (coming_229272 : List Int) : Option (List Int × Int) :=
  gdO (coming_229272.length ≤ 1000000000) <|
  F89j1 (sortI coming_229272) false
def F89j9 (rec8 : List Int → Int → Option (List Int × Int)) (v229410 : Int) (coming_229438 : List Int) : Option (List Int × Int) :=
  ckO (v229410 + 1) <|
  rec8 coming_229438 (v229410 + 1)
def F89j10 (rec8 : List Int → Int → Option (List Int × Int)) (coming_229405 : List Int) (v229410 : Int) : Option (List Int × Int) :=
  F89j9 rec8 v229410 coming_229405
def F89b8 (lp0_1 : List Cm) (lp1 : List Int) (asked_228689 : Int) (rec8 : List Int → Int → Option (List Int × Int)) (coming_229405 : List Int) (v229410 : Int) : Option (List Int × Int) :=
  if v229410 < (lp0_1.length : Int) then
    gdO (0 ≤ v229410) <|
    bindO (lp0_1[(v229410).toNat]?) fun x229443 =>
    bindO (lp1[(v229410).toNat]?) fun x229458 =>
    if 0 < x229458 then
      gdO (0 ≤ x229443.hrs) <|
      gdO (0 ≤ asked_228689) <|
      ckO (x229443.hrs) <|
      ckO (asked_228689) <|
      if (andNotI x229443.hrs asked_228689) = 0 then
        gdO (coming_229405.length + 1 ≤ 1000000000) <|
        F89j9 rec8 v229410 (coming_229405 ++ [x229443.fam])
      else
        F89j10 rec8 coming_229405 v229410
    else
      F89j10 rec8 coming_229405 v229410
  else
    F89j7 coming_229405
def F89l8 (lp0_1 : List Cm) (lp1 : List Int) (asked_228689 : Int) : Nat → List Int → Int → Option (List Int × Int)
  | 0 => fun _ _ => none
  | m + 1 => F89b8 lp0_1 lp1 asked_228689 (F89l8 lp0_1 lp1 asked_228689 m)
def F89j6 (lp0_1 : List Cm) (lp1 : List Int) (N : Nat) (rec5 : List Int → Int → Option (List Int × Int)) (v227818 : Int) (asked_228689 : Int) (found_228690 : Bool) (found_228691 : List Int) : Option (List Int × Int) :=
  if found_228690 = true then
    ckO (v227818 + 1) <|
    rec5 found_228691 (v227818 + 1)
  else
    F89l8 lp0_1 lp1 asked_228689 N [] 0
def F89b5 (lp0_1 : List Cm) (lp1 : List Int) (N : Nat) (rec3 : List Int → Int → Option (List Int × Int)) (y114748 : (Int × List Int)) (v219475 : Int) (x224480 : Int) (rec5 : List Int → Int → Option (List Int × Int)) (r_227813 : List Int) (v227818 : Int) : Option (List Int × Int) :=
  if v227818 < x224480 then
    if 0 < r_227813.length then
      bindO (F115 N v219475 0 y114748.1 lp0_1 r_227813) fun y229471 =>
      F89j6 lp0_1 lp1 N rec5 v227818 y229471.2.1 y229471.1 y229471.2.2
    else
      bindO (F115n N v219475 0 y114748.1 lp0_1) fun y229476 =>
      F89j6 lp0_1 lp1 N rec5 v227818 y229476.2 y229476.1 r_227813
  else
    F89j4 rec3 v219475 r_227813
def F89l5 (lp0_1 : List Cm) (lp1 : List Int) (N : Nat) (rec3 : List Int → Int → Option (List Int × Int)) (y114748 : (Int × List Int)) (v219475 : Int) (x224480 : Int) : Nat → List Int → Int → Option (List Int × Int)
  | 0 => fun _ _ => none
  | m + 1 => F89b5 lp0_1 lp1 N rec3 y114748 v219475 x224480 (F89l5 lp0_1 lp1 N rec3 y114748 v219475 x224480 m)
def F89b3 (lp0_1 : List Cm) (lp1 : List Int) (N : Nat) (y114748 : (Int × List Int)) (rec3 : List Int → Int → Option (List Int × Int)) (r_219470 : List Int) (v219475 : Int) : Option (List Int × Int) :=
  if v219475 < (lp1.length : Int) then
    gdO (0 ≤ v219475) <|
    bindO (lp1[(v219475).toNat]?) fun x224480 =>
    F89l5 lp0_1 lp1 N rec3 y114748 v219475 x224480 N r_219470 0
  else
    F89j2 r_219470
def F89l3 (lp0_1 : List Cm) (lp1 : List Int) (N : Nat) (y114748 : (Int × List Int)) : Nat → List Int → Int → Option (List Int × Int)
  | 0 => fun _ _ => none
  | m + 1 => F89b3 lp0_1 lp1 N y114748 (F89l3 lp0_1 lp1 N y114748 m)
def F89 (N : Nat) (p0_0 : Int) (lp0_1 : List Cm) (lp1 : List Int) : Option (List Int × Int) :=
  bindO (F104 N p0_0 lp0_1) fun y114748 =>
  F89l3 lp0_1 lp1 N y114748 N y114748.2 0
def F46 (N : Nat) (p0_0 : Int) (lp0_1 : List Cm) (lp1 : List Int) : Option (List Int × Int) :=
  bindO (F86 N p0_0 lp0_1 lp1) fun y29 =>
  if y29 = 0 then
    bindO (F89 N p0_0 lp0_1 lp1) fun y37 =>
    some (y37.1, y37.2)
  else
    some ([], y29)
def F47j1 (p0_0 : Int) (lp0_1 : List Cm) (N : Nat) (demands_306 : List Int) : Option (List Int × Int) :=
  bindO (F89 N p0_0 lp0_1 demands_306) fun y317 =>
  some (y317.1, y317.2)
def F47b2 (p0_0 : Int) (lp0_1 : List Cm) (N : Nat) (rec2 : List Int → Int → Option (List Int × Int)) (demands_381 : List Int) (v386 : Int) : Option (List Int × Int) :=
  if v386 < (lp0_1.length : Int) then
    gdO (0 ≤ v386) <|
    bindO (lp0_1[(v386).toNat]?) fun x400 =>
    gdO (demands_381.length + 1 ≤ 1000000000) <|
    ckO (v386 + 1) <|
    rec2 (demands_381 ++ [if x400.wants < 1 then x400.wants else 1]) (v386 + 1)
  else
    F47j1 p0_0 lp0_1 N demands_381
def F47l2 (p0_0 : Int) (lp0_1 : List Cm) (N : Nat) : Nat → List Int → Int → Option (List Int × Int)
  | 0 => fun _ _ => none
  | m + 1 => F47b2 p0_0 lp0_1 N (F47l2 p0_0 lp0_1 N m)
def F47 (N : Nat) (p0_0 : Int) (lp0_1 : List Cm) : Option (List Int × Int) :=
  bindO (F23 N p0_0 lp0_1) fun y214 =>
  if y214 = 0 then
    F47l2 p0_0 lp0_1 N N [] 0
  else
    some ([], y214)
def F108j2 (rec1 : Int → Int → Option Int) (v117 : Int) (n_122 : Int) : Option Int :=
  ckO (v117 + 1) <|
  rec1 n_122 (v117 + 1)
def F108b1 (p0 : Int) (rec1 : Int → Int → Option Int) (n_116 : Int) (v117 : Int) : Option Int :=
  if v117 < 24 then
    bindO (F92 v117 p0) fun y125 =>
    if y125 = true then
      ckO (n_116 + 1) <|
      F108j2 rec1 v117 (n_116 + 1)
    else
      F108j2 rec1 v117 n_116
  else
    some n_116
def F108l1 (p0 : Int) : Nat → Int → Int → Option Int
  | 0 => fun _ _ => none
  | m + 1 => F108b1 p0 (F108l1 p0 m)
def F108 (N : Nat) (p0 : Int) : Option Int :=
  F108l1 p0 N 0 0
def F109b1 (lp0 : List Int) (rec1 : Int → Int → Option Int) (total_171 : Int) (v172 : Int) : Option Int :=
  if v172 < (lp0.length : Int) then
    gdO (0 ≤ v172) <|
    bindO (lp0[(v172).toNat]?) fun x180 =>
    ckO (total_171 + x180) <|
    ckO (v172 + 1) <|
    rec1 (total_171 + x180) (v172 + 1)
  else
    some total_171
def F109l1 (lp0 : List Int) : Nat → Int → Int → Option Int
  | 0 => fun _ _ => none
  | m + 1 => F109b1 lp0 (F109l1 lp0 m)
def F109 (N : Nat) (lp0 : List Int) : Option Int :=
  F109l1 lp0 N 0 0
def F90j1 (N : Nat) (hours_606 : Int) (demanded_607 : List Int) : Option Bool :=
  bindO (F108 N hours_606) fun y617 =>
  bindO (F109 N demanded_607) fun y619 =>
  if y617 < y619 then
    some true
  else
    some false
def F90b2 (p0_0 : Int) (lp0_1 : List Cm) (lp1 : List Int) (lp2 : List Int) (N : Nat) (rec2 : Int → Int → List Int → Int → Option Bool) (hours_749 : Int) (last_750 : Int) (demanded_751 : List Int) (v756 : Int) : Option Bool :=
  if v756 < (lp2.length : Int) then
    gdO (0 ≤ v756) <|
    bindO (lp2[(v756).toNat]?) fun x787 =>
    bindO (F98 N p0_0 lp0_1 x787) fun y796 =>
    if y796 = (-1) then
      some false
    else
      if x787 ≤ last_750 then
        some false
      else
        gdO (0 ≤ y796) <|
        bindO (lp0_1[(y796).toNat]?) fun x798 =>
        gdO (0 ≤ hours_749) <|
        gdO (0 ≤ x798.hrs) <|
        ckO (hours_749) <|
        ckO (x798.hrs) <|
        bindO (lp1[(y796).toNat]?) fun x805 =>
        gdO (demanded_751.length + 1 ≤ 1000000000) <|
        ckO (v756 + 1) <|
        rec2 (orI hours_749 x798.hrs) x787 (demanded_751 ++ [x805]) (v756 + 1)
  else
    F90j1 N hours_749 demanded_751
def F90l2 (p0_0 : Int) (lp0_1 : List Cm) (lp1 : List Int) (lp2 : List Int) (N : Nat) : Nat → Int → Int → List Int → Int → Option Bool
  | 0 => fun _ _ _ _ => none
  | m + 1 => F90b2 p0_0 lp0_1 lp1 lp2 N (F90l2 p0_0 lp0_1 lp1 lp2 N m)
def F90 (N : Nat) (p0_0 : Int) (lp0_1 : List Cm) (lp1 : List Int) (lp2 : List Int) : Option Bool :=
  F90l2 p0_0 lp0_1 lp1 lp2 N N 0 0 [] 0
def F50 (N : Nat) (p0_0 : Int) (lp0_1 : List Cm) (lp1 : List Int) (lp2 : List Int) : Option Int :=
  bindO (F86 N p0_0 lp0_1 lp1) fun y25 =>
  if y25 = 0 then
    bindO (F90 N p0_0 lp0_1 lp1 lp2) fun y33 =>
    if y33 = true then
      some 0
    else
      some 54
  else
    some y25
def F60j2 (rec1 : List Cm → Int → Option (Int × List Cm)) (i_963 : Int) (m_1002 : List Cm) : Option (Int × List Cm) :=
  ckO (i_963 + 1) <|
  rec1 m_1002 (i_963 + 1)
def F60b1 (lp1 : List A2) (y527 : Int) (rec1 : List Cm → Int → Option (Int × List Cm)) (m_958 : List Cm) (i_963 : Int) : Option (Int × List Cm) :=
  if i_963 < (lp1.length : Int) then
    if i_963 < 6 then
      ckO (7 * i_963) <|
      ckO ((7 * i_963) + 5) <|
      bindO (F59 ((7 * i_963) + 5) 9) fun y1007 =>
      ckO (1 + y1007) <|
      gdO (0 ≤ i_963) <|
      bindO (lp1[(i_963).toNat]?) fun x1009 =>
      gdO (0 ≤ y527 ∧ y527 ≤ 62) <|
      ckO ((1 : Int) * 2 ^ (y527 : Int).toNat) <|
      bindO (F59 x1009.a ((1 : Int) * 2 ^ (y527 : Int).toNat)) fun y1016 =>
      bindO (F59 x1009.b 7) fun y1018 =>
      gdO (m_958.length + 1 ≤ 1000000000) <|
      F60j2 rec1 i_963 (m_958 ++ [(⟨1 + y1007, y1016, y1018⟩ : Cm)])
    else
      some (y527, m_958)
  else
    some (y527, m_958)
def F60l1 (lp1 : List A2) (y527 : Int) : Nat → List Cm → Int → Option (Int × List Cm)
  | 0 => fun _ _ => none
  | m + 1 => F60b1 lp1 y527 (F60l1 lp1 y527 m)
def F60 (N : Nat) (p0 : Int) (lp1 : List A2) : Option (Int × List Cm) :=
  bindO (F59 p0 11) fun y527 =>
  F60l1 lp1 y527 N [] 0
def F9j4 (N : Nat) : Option Bool :=
  bindO (F25 N) fun y977 =>
  some y977
def F9j3 (N : Nat) (y633 : (Int × List Cm)) (u917 : List Int) : Option Bool :=
  bindO (F44 N y633.1 y633.2 u917) fun y955 =>
  bindO (F47 N y633.1 y633.2) fun y963 =>
  if y955.1 = true then
    if y955.2 = 0 then
      if y963.2 = 55 then
        F9j4 N
      else
        some false
    else
      some false
  else
    if y955.2 = 0 then
      if y963.2 = 55 then
        some false
      else
        if y963.2 = 0 then
          bindO (F50 N y633.1 y633.2 u917 y963.1) fun y979 =>
          if y979 = 0 then
            F9j4 N
          else
            some false
        else
          some false
    else
      some false
def F9j2 (N : Nat) (y633 : (Int × List Cm)) (u912 : List Int) (u917 : List Int) (y924 : (Bool × Int)) (y932 : (List Int × Int)) (v940 : Bool) : Option Bool :=
  if y924.2 = 0 then
    if y924.1 = true then
      if v940 = true then
        if y932.2 = 55 then
          some false
        else
          some false
      else
        if y932.2 = 55 then
          F9j3 N y633 u917
        else
          some false
    else
      if v940 = true then
        if y932.2 = 0 then
          bindO (F50 N y633.1 y633.2 u912 y932.1) fun y981 =>
          if y981 = 0 then
            F9j3 N y633 u917
          else
            some false
        else
          some false
      else
        if y932.2 = 0 then
          bindO (F50 N y633.1 y633.2 u912 y932.1) fun y983 =>
          if y983 = 0 then
            F9j3 N y633 u917
          else
            some false
        else
          some false
  else
    some false
def F9j1 (lp2_1 : List Int) (N : Nat) (y633 : (Int × List Cm)) (u912 : List Int) (u917 : List Int) : Option Bool :=
  bindO (F44 N y633.1 y633.2 u912) fun y924 =>
  bindO (F46 N y633.1 y633.2 u912) fun y932 =>
  bindO (F50 N y633.1 y633.2 u912 lp2_1) fun y985 =>
  if y985 = 0 then
    F9j2 N y633 u912 u917 y924 y932 true
  else
    F9j2 N y633 u912 u917 y924 y932 false
def F9j6 (rec5 : List Int → List Int → Int → Option Bool) (y633 : (Int × List Cm)) (u1160 : List Int) (u1165 : List Int) (v1170 : Int) (v1219 : Int) : Option Bool :=
  gdO (u1160.length + 1 ≤ 1000000000) <|
  gdO (0 ≤ v1170) <|
  bindO (y633.2[(v1170).toNat]?) fun x1230 =>
  bindO (u1165[(v1170).toNat]?) fun x1234 =>
  ckO (v1170 + 1) <|
  rec5 (u1160 ++ [v1219]) ((u1165).set ((v1170).toNat) (if x1230.wants < 1 then x1230.wants else 1)) (v1170 + 1)
def F9b5 (lp2_0 : List Int) (lp2_1 : List Int) (N : Nat) (y633 : (Int × List Cm)) (rec5 : List Int → List Int → Int → Option Bool) (u1160 : List Int) (u1165 : List Int) (v1170 : Int) : Option Bool :=
  if v1170 < (y633.2.length : Int) then
    if v1170 < (lp2_0.length : Int) then
      gdO (0 ≤ v1170) <|
      bindO (lp2_0[(v1170).toNat]?) fun x1240 =>
      bindO (F59 x1240 5) fun y1247 =>
      F9j6 rec5 y633 u1160 u1165 v1170 y1247
    else
      F9j6 rec5 y633 u1160 u1165 v1170 0
  else
    F9j1 lp2_1 N y633 u1160 u1165
def F9l5 (lp2_0 : List Int) (lp2_1 : List Int) (N : Nat) (y633 : (Int × List Cm)) : Nat → List Int → List Int → Int → Option Bool
  | 0 => fun _ _ _ => none
  | m + 1 => F9b5 lp2_0 lp2_1 N y633 (F9l5 lp2_0 lp2_1 N y633 m)
def F9 (N : Nat) (p0 : Int) (lp1 : List A2) (lp2_0 : List Int) (lp2_1 : List Int) : Option Bool :=
  bindO (F60 N p0 lp1) fun y633 =>
  gdO (0 ≤ (y633.2.length : Int)) <|
  gdO ((y633.2.length : Int) ≤ 1000000) <|
  F9l5 lp2_0 lp2_1 N y633 N [] (List.replicate ((y633.2.length : Int)).toNat (0 : Int)) 0
def F40j2 (rec1 : List Int → Int → Option (List Int × Int)) (v623 : Int) (share_641 : List Int) : Option (List Int × Int) :=
  ckO (v623 + 1) <|
  rec1 share_641 (v623 + 1)
def F40b1 (lp0_1 : List Cm) (y354 : (Int × List Int × List Int)) (rec1 : List Int → Int → Option (List Int × Int)) (share_614 : List Int) (v623 : Int) : Option (List Int × Int) :=
  if v623 < (y354.2.1.length : Int) then
    gdO (0 ≤ v623) <|
    bindO (y354.2.1[(v623).toNat]?) fun x650 =>
    if x650 = (-1) then
      F40j2 rec1 v623 share_614
    else
      gdO (0 ≤ x650) <|
      bindO (lp0_1[(x650).toNat]?) fun x654 =>
      bindO (share_614[(v623).toNat]?) fun x661 =>
      F40j2 rec1 v623 ((share_614).set ((v623).toNat) x654.fam)
  else
    some (share_614, 0)
def F40l1 (lp0_1 : List Cm) (y354 : (Int × List Int × List Int)) : Nat → List Int → Int → Option (List Int × Int)
  | 0 => fun _ _ => none
  | m + 1 => F40b1 lp0_1 y354 (F40l1 lp0_1 y354 m)
def F40 (N : Nat) (p0_0 : Int) (lp0_1 : List Cm) : Option (List Int × Int) :=
  bindO (F23 N p0_0 lp0_1) fun y341 =>
  if y341 = 0 then
    bindO (F80 N p0_0 lp0_1) fun y354 =>
    gdO (0 ≤ p0_0) <|
    gdO (p0_0 ≤ 1000000) <|
    F40l1 lp0_1 y354 N (List.replicate (p0_0).toNat (0 : Int)) 0
  else
    some ([], y341)
def F61j2 (rec1 : Int → Int → Option Int) (h_337 : Int) (n_352 : Int) : Option Int :=
  ckO (h_337 + 1) <|
  rec1 n_352 (h_337 + 1)
def F61b1 (lp0 : List Int) (p1 : Int) (rec1 : Int → Int → Option Int) (n_336 : Int) (h_337 : Int) : Option Int :=
  if h_337 < (lp0.length : Int) then
    gdO (0 ≤ h_337) <|
    bindO (lp0[(h_337).toNat]?) fun x360 =>
    if x360 = p1 then
      ckO (n_336 + 1) <|
      F61j2 rec1 h_337 (n_336 + 1)
    else
      F61j2 rec1 h_337 n_336
  else
    some n_336
def F61l1 (lp0 : List Int) (p1 : Int) : Nat → Int → Int → Option Int
  | 0 => fun _ _ => none
  | m + 1 => F61b1 lp0 p1 (F61l1 lp0 p1 m)
def F61 (N : Nat) (lp0 : List Int) (p1 : Int) : Option Int :=
  F61l1 lp0 p1 N 0 0
def F94 (p0_0 : Int) (lp0_1 : List Cm) (p1 : Int) (p2 : Int) : Option Bool :=
  gdO (0 ≤ p1) <|
  bindO (lp0_1[(p1).toNat]?) fun x56 =>
  gdO (0 ≤ p2 ∧ p2 ≤ 62) <|
  ckO ((1 : Int) * 2 ^ (p2 : Int).toNat) <|
  gdO (0 ≤ x56.hrs) <|
  gdO (0 ≤ ((1 : Int) * 2 ^ (p2 : Int).toNat)) <|
  ckO (x56.hrs) <|
  if (andI x56.hrs ((1 : Int) * 2 ^ (p2 : Int).toNat)) = 0 then
    some false
  else
    some true
def F62j2 (rec1 : List Int → Int → Option (List Int × Bool)) (h_1131 : Int) (out_1178 : List Int) : Option (List Int × Bool) :=
  ckO (h_1131 + 1) <|
  rec1 out_1178 (h_1131 + 1)
def F62b1 (p0_0 : Int) (lp0_1 : List Cm) (lp1 : List Int) (N : Nat) (rec1 : List Int → Int → Option (List Int × Bool)) (out_1126 : List Int) (h_1131 : Int) : Option (List Int × Bool) :=
  if h_1131 < (lp1.length : Int) then
    gdO (0 ≤ h_1131) <|
    bindO (lp1[(h_1131).toNat]?) fun x1204 =>
    if x1204 = 0 then
      F62j2 rec1 h_1131 out_1126
    else
      bindO (F65 N p0_0 lp0_1 x1204) fun y1213 =>
      if y1213 < 0 then
        some (out_1126, false)
      else
        bindO (F94 p0_0 lp0_1 (if 0 > y1213 then 0 else y1213) h_1131) fun y1221 =>
        if y1221 = true then
          gdO (0 ≤ y1213) <|
          bindO (out_1126[(y1213).toNat]?) fun x1223 =>
          ckO (x1223 + 1) <|
          F62j2 rec1 h_1131 ((out_1126).set ((y1213).toNat) (x1223 + 1))
        else
          some (out_1126, false)
  else
    some (out_1126, true)
def F62l1 (p0_0 : Int) (lp0_1 : List Cm) (lp1 : List Int) (N : Nat) : Nat → List Int → Int → Option (List Int × Bool)
  | 0 => fun _ _ => none
  | m + 1 => F62b1 p0_0 lp0_1 lp1 N (F62l1 p0_0 lp0_1 lp1 N m)
def F62 (N : Nat) (p0_0 : Int) (lp0_1 : List Cm) (lp1 : List Int) : Option (List Int × Bool) :=
  gdO (0 ≤ (lp0_1.length : Int)) <|
  gdO ((lp0_1.length : Int) ≤ 1000000) <|
  if (lp1.length : Int) = p0_0 then
    F62l1 p0_0 lp0_1 lp1 N N (List.replicate ((lp0_1.length : Int)).toNat (0 : Int)) 0
  else
    some (List.replicate ((lp0_1.length : Int)).toNat (0 : Int), false)
def F10j4 (N : Nat) : Option Bool :=
  bindO (F25 N) fun y3573 =>
  some y3573
def F10j6 (rec5 : Int → Option Bool) (v3936 : Int) : Option Bool :=
  ckO (v3936 + 1) <|
  rec5 (v3936 + 1)
def F10b5 (N : Nat) (y2362 : (Int × List Cm)) (y2391 : (List Int × Int)) (rec5 : Int → Option Bool) (v3936 : Int) : Option Bool :=
  if v3936 < (y2391.1.length : Int) then
    gdO (0 ≤ v3936) <|
    bindO (y2391.1[(v3936).toNat]?) fun x4075 =>
    bindO (y2362.2[(v3936).toNat]?) fun x4079 =>
    if x4079.wants ≤ x4075 then
      F10j6 rec5 v3936
    else
      gdO (0 + y2391.1.length ≤ 1000000000) <|
      ckO (x4075 + 1) <|
      bindO (F44 N y2362.1 y2362.2 ((y2391.1).set ((v3936).toNat) (x4075 + 1))) fun y4107 =>
      if y4107.1 = true then
        if y4107.2 = 0 then
          some false
        else
          some false
      else
        if y4107.2 = 0 then
          F10j6 rec5 v3936
        else
          some false
  else
    F10j4 N
def F10l5 (N : Nat) (y2362 : (Int × List Cm)) (y2391 : (List Int × Int)) : Nat → Int → Option Bool
  | 0 => fun _ => none
  | m + 1 => F10b5 N y2362 y2391 (F10l5 N y2362 y2391 m)
def F10j3 (N : Nat) (y2362 : (Int × List Cm)) (y2391 : (List Int × Int)) : Option Bool :=
  F10l5 N y2362 y2391 N 0
def F10j2 (N : Nat) (y2362 : (Int × List Cm)) (y2383 : (Int × Int)) (y2391 : (List Int × Int)) (u3016 : List Int) : Option Bool :=
  if y2383.1 < 24 then
    bindO (F44 N y2362.1 y2362.2 u3016) fun y4111 =>
    if y4111.1 = true then
      if y4111.2 = 0 then
        some false
      else
        some false
    else
      if y4111.2 = 0 then
        F10j3 N y2362 y2391
      else
        some false
  else
    F10j3 N y2362 y2391
def F10j1 (lp2 : List Int) (N : Nat) (y2362 : (Int × List Cm)) (y2383 : (Int × Int)) (y2391 : (List Int × Int)) (v3015 : Bool) (u3016 : List Int) : Option Bool :=
  bindO (F62 N y2362.1 y2362.2 lp2) fun y3027 =>
  if y3027.2 = true then
    if v3015 = true then
      if y2383.1 < 24 then
        some false
      else
        F10j2 N y2362 y2383 y2391 u3016
    else
      F10j2 N y2362 y2383 y2391 u3016
  else
    if v3015 = true then
      F10j2 N y2362 y2383 y2391 u3016
    else
      F10j2 N y2362 y2383 y2391 u3016
def F10j8 (rec7 : Bool → List Int → Int → Option Bool) (v4518 : Int) (v4615 : Bool) (u4616 : List Int) : Option Bool :=
  ckO (v4518 + 1) <|
  rec7 v4615 u4616 (v4518 + 1)
def F10b7 (lp2 : List Int) (N : Nat) (y2362 : (Int × List Cm)) (y2375 : (List Int × Int)) (y2383 : (Int × Int)) (y2391 : (List Int × Int)) (rec7 : Bool → List Int → Int → Option Bool) (v4512 : Bool) (u4513 : List Int) (v4518 : Int) : Option Bool :=
  if v4518 < (y2391.1.length : Int) then
    gdO (0 ≤ v4518) <|
    bindO (y2362.2[(v4518).toNat]?) fun x4621 =>
    bindO (F61 N y2375.1 x4621.fam) fun y4676 =>
    bindO (y2391.1[(v4518).toNat]?) fun x4678 =>
    if y4676 = x4678 then
      if x4678 < (if x4621.wants < y2383.1 then x4621.wants else y2383.1) then
        some false
      else
        if x4621.wants < x4678 then
          some false
        else
          ckO (y2383.1 + 1) <|
          bindO (u4513[(v4518).toNat]?) fun x4694 =>
          if v4512 = true then
            bindO (F61 N lp2 x4621.fam) fun y4700 =>
            bindO (((u4513).set ((v4518).toNat) (if x4621.wants < (y2383.1 + 1) then x4621.wants else (y2383.1 + 1)))[(v4518).toNat]?) fun x4702 =>
            if x4702 ≤ y4700 then
              F10j8 rec7 v4518 true ((u4513).set ((v4518).toNat) (if x4621.wants < (y2383.1 + 1) then x4621.wants else (y2383.1 + 1)))
            else
              F10j8 rec7 v4518 false ((u4513).set ((v4518).toNat) (if x4621.wants < (y2383.1 + 1) then x4621.wants else (y2383.1 + 1)))
          else
            F10j8 rec7 v4518 false ((u4513).set ((v4518).toNat) (if x4621.wants < (y2383.1 + 1) then x4621.wants else (y2383.1 + 1)))
    else
      some false
  else
    F10j1 lp2 N y2362 y2383 y2391 v4512 u4513
def F10l7 (lp2 : List Int) (N : Nat) (y2362 : (Int × List Cm)) (y2375 : (List Int × Int)) (y2383 : (Int × Int)) (y2391 : (List Int × Int)) : Nat → Bool → List Int → Int → Option Bool
  | 0 => fun _ _ _ => none
  | m + 1 => F10b7 lp2 N y2362 y2375 y2383 y2391 (F10l7 lp2 N y2362 y2375 y2383 y2391 m)
def F10 (N : Nat) (p0 : Int) (lp1 : List A2) (lp2 : List Int) : Option Bool :=
  bindO (F60 N p0 lp1) fun y2362 =>
  bindO (F40 N y2362.1 y2362.2) fun y2375 =>
  bindO (F36 N y2362.1 y2362.2) fun y2383 =>
  bindO (F38 N y2362.1 y2362.2) fun y2391 =>
  if y2375.2 = 0 then
    if y2383.2 = 0 then
      if y2391.2 = 0 then
        if (y2375.1.length : Int) = y2362.1 then
          if (y2391.1.length : Int) = (y2362.2.length : Int) then
            bindO (F42 N y2362.1 y2362.2 y2375.1) fun y2403 =>
            if y2403 = 0 then
              gdO (0 ≤ (y2391.1.length : Int)) <|
              gdO ((y2391.1.length : Int) ≤ 1000000) <|
              F10l7 lp2 N y2362 y2375 y2383 y2391 N true (List.replicate ((y2391.1.length : Int)).toNat (0 : Int)) 0
            else
              some false
          else
            some false
        else
          some false
      else
        some false
    else
      some false
  else
    some false
def F11j1 (N : Nat) : Option Bool :=
  bindO (F25 N) fun y5393 =>
  some y5393
def F11j3 (rec2 : Int → Option Bool) (v6560 : Int) : Option Bool :=
  ckO (v6560 + 1) <|
  rec2 (v6560 + 1)
def F11j4 (rec2 : Int → Option Bool) (y3608 : (Int × List Cm × Int)) (y3621 : (List Int × Int)) (v6560 : Int) (v6979 : Int) : Option Bool :=
  gdO (0 ≤ v6560) <|
  bindO (y3621.1[(v6560).toNat]?) fun x7000 =>
  bindO (y3608.2.1[(v6560).toNat]?) fun x7003 =>
  if x7003.wants < x7000 then
    some false
  else
    if v6979 < x7000 then
      some false
    else
      F11j3 rec2 v6560
def F11j6 (rec5 : Int → Int → Option Bool) (v7101 : Int) (v7122 : Int) : Option Bool :=
  ckO (v7101 + 1) <|
  rec5 v7122 (v7101 + 1)
def F11b5 (rec2 : Int → Option Bool) (y3608 : (Int × List Cm × Int)) (y3621 : (List Int × Int)) (v6560 : Int) (rec5 : Int → Int → Option Bool) (v7100 : Int) (v7101 : Int) : Option Bool :=
  if v7101 < y3608.1 then
    gdO (0 ≤ v6560) <|
    bindO (y3608.2.1[(v6560).toNat]?) fun x7131 =>
    gdO (0 ≤ v7101 ∧ v7101 ≤ 62) <|
    ckO ((1 : Int) * 2 ^ (v7101 : Int).toNat) <|
    gdO (0 ≤ x7131.hrs) <|
    gdO (0 ≤ ((1 : Int) * 2 ^ (v7101 : Int).toNat)) <|
    ckO (x7131.hrs) <|
    if (andI x7131.hrs ((1 : Int) * 2 ^ (v7101 : Int).toNat)) = 0 then
      F11j6 rec5 v7101 v7100
    else
      ckO (v7100 + 1) <|
      F11j6 rec5 v7101 (v7100 + 1)
  else
    F11j4 rec2 y3608 y3621 v6560 v7100
def F11l5 (rec2 : Int → Option Bool) (y3608 : (Int × List Cm × Int)) (y3621 : (List Int × Int)) (v6560 : Int) : Nat → Int → Int → Option Bool
  | 0 => fun _ _ => none
  | m + 1 => F11b5 rec2 y3608 y3621 v6560 (F11l5 rec2 y3608 y3621 v6560 m)
def F11b2 (N : Nat) (y3608 : (Int × List Cm × Int)) (y3621 : (List Int × Int)) (rec2 : Int → Option Bool) (v6560 : Int) : Option Bool :=
  if v6560 < (y3621.1.length : Int) then
    F11l5 rec2 y3608 y3621 v6560 N 0 0
  else
    F11j1 N
def F11l2 (N : Nat) (y3608 : (Int × List Cm × Int)) (y3621 : (List Int × Int)) : Nat → Int → Option Bool
  | 0 => fun _ => none
  | m + 1 => F11b2 N y3608 y3621 (F11l2 N y3608 y3621 m)
def F11 (N : Nat) (p0 : Int) (lp1 : List A2) (p2 : Int) : Option Bool :=
  bindO (F60 N p0 lp1) fun y3577 =>
  if (y3577.2.length : Int) = 0 then
    bindO (F25 N) fun y3590 =>
    some y3590
  else
    bindO (F59 p2 (y3577.2.length : Int)) fun y3594 =>
    gdO (0 ≤ y3594) <|
    bindO (y3577.2[(y3594).toNat]?) fun x3596 =>
    bindO (F14 N y3577.1 y3577.2 (⟨50, x3596.hrs, x3596.wants⟩ : Cm)) fun y3608 =>
    bindO (F38 N y3608.1 y3608.2.1) fun y3621 =>
    if y3608.2.2 = 0 then
      if y3621.2 = 0 then
        ckO ((y3577.2.length : Int) + 1) <|
        if (y3621.1.length : Int) = ((y3577.2.length : Int) + 1) then
          ckO ((y3621.1.length : Int) - 1) <|
          gdO (0 ≤ ((y3621.1.length : Int) - 1)) <|
          bindO (y3621.1[((y3621.1.length : Int) - 1).toNat]?) fun x3631 =>
          bindO (y3621.1[(y3594).toNat]?) fun x3644 =>
          if x3644 < x3631 then
            some false
          else
            ckO (x3631 + 1) <|
            if (x3631 + 1) < x3644 then
              some false
            else
              F11l2 N y3608 y3621 N 0
        else
          some false
      else
        some false
    else
      some false
def F12j1 (N : Nat) : Option Bool :=
  bindO (F25 N) fun y4826 =>
  some y4826
def F12j3 (N : Nat) : Option Bool :=
  bindO (F25 N) fun y7267 =>
  some y7267
def F12j5 (rec4 : Int → Int → Option Bool) (v8822 : Int) (v9210 : Int) : Option Bool :=
  ckO (v8822 + 1) <|
  rec4 v9210 (v8822 + 1)
def F12j7 (rec4 : Int → Int → Option Bool) (v8821 : Int) (v8822 : Int) : Option Bool :=
  ckO (v8821 + 1) <|
  F12j5 rec4 v8822 (v8821 + 1)
def F12j6 (rec4 : Int → Int → Option Bool) (y4930 : (List Int × Int)) (y4942 : (List Int × Int)) (v8821 : Int) (v8822 : Int) (v9320 : Bool) : Option Bool :=
  if v9320 = true then
    gdO (0 ≤ v8822) <|
    bindO (y4930.1[(v8822).toNat]?) fun x9449 =>
    gdO (0 ≤ v8821) <|
    bindO (y4942.1[(v8821).toNat]?) fun x9453 =>
    if x9449 = x9453 then
      some false
    else
      F12j7 rec4 v8821 v8822
  else
    gdO (0 ≤ v8822) <|
    bindO (y4930.1[(v8822).toNat]?) fun x9465 =>
    gdO (0 ≤ v8821) <|
    bindO (y4942.1[(v8821).toNat]?) fun x9469 =>
    if x9465 = x9469 then
      F12j7 rec4 v8821 v8822
    else
      some false
def F12j9 (rec8 : Bool → Int → Option Bool) (v9554 : Int) (v9572 : Bool) : Option Bool :=
  ckO (v9554 + 1) <|
  rec8 v9572 (v9554 + 1)
def F12b8 (rec4 : Int → Int → Option Bool) (y4813 : (Int × List Cm)) (y4918 : (List Int × Int)) (y4930 : (List Int × Int)) (y4942 : (List Int × Int)) (v8821 : Int) (v8822 : Int) (rec8 : Bool → Int → Option Bool) (v9553 : Bool) (v9554 : Int) : Option Bool :=
  if v9554 < (y4918.1.length : Int) then
    if v9553 = true then
      F12j9 rec8 v9554 true
    else
      gdO (0 ≤ v9554) <|
      bindO (y4918.1[(v9554).toNat]?) fun x9573 =>
      gdO (0 ≤ v8822) <|
      bindO (y4813.2[(v8822).toNat]?) fun x9577 =>
      if x9573 = x9577.fam then
        F12j9 rec8 v9554 true
      else
        F12j9 rec8 v9554 false
  else
    F12j6 rec4 y4930 y4942 v8821 v8822 v9553
def F12l8 (rec4 : Int → Int → Option Bool) (y4813 : (Int × List Cm)) (y4918 : (List Int × Int)) (y4930 : (List Int × Int)) (y4942 : (List Int × Int)) (v8821 : Int) (v8822 : Int) : Nat → Bool → Int → Option Bool
  | 0 => fun _ _ => none
  | m + 1 => F12b8 rec4 y4813 y4918 y4930 y4942 v8821 v8822 (F12l8 rec4 y4813 y4918 y4930 y4942 v8821 v8822 m)
def F12b4 (N : Nat) (y4813 : (Int × List Cm)) (y4830 : Int) (y4918 : (List Int × Int)) (y4930 : (List Int × Int)) (y4942 : (List Int × Int)) (rec4 : Int → Int → Option Bool) (v8821 : Int) (v8822 : Int) : Option Bool :=
  if v8822 < (y4813.2.length : Int) then
    if v8822 = y4830 then
      F12j5 rec4 v8822 v8821
    else
      F12l8 rec4 y4813 y4918 y4930 y4942 v8821 v8822 N false 0
  else
    F12j3 N
def F12l4 (N : Nat) (y4813 : (Int × List Cm)) (y4830 : Int) (y4918 : (List Int × Int)) (y4930 : (List Int × Int)) (y4942 : (List Int × Int)) : Nat → Int → Int → Option Bool
  | 0 => fun _ _ => none
  | m + 1 => F12b4 N y4813 y4830 y4918 y4930 y4942 (F12l4 N y4813 y4830 y4918 y4930 y4942 m)
def F12j2 (p2 : A2) (N : Nat) (y4813 : (Int × List Cm)) (y4830 : Int) : Option Bool :=
  gdO (0 ≤ y4830) <|
  bindO (y4813.2[(y4830).toNat]?) fun x4872 =>
  bindO (F59 p2.b y4813.1) fun y4876 =>
  gdO (0 ≤ y4876 ∧ y4876 ≤ 62) <|
  ckO ((1 : Int) * 2 ^ (y4876 : Int).toNat) <|
  gdO (0 ≤ x4872.hrs) <|
  gdO (0 ≤ ((1 : Int) * 2 ^ (y4876 : Int).toNat)) <|
  ckO (x4872.hrs) <|
  bindO (F16 N y4813.1 y4813.2 x4872.fam) fun y4893 =>
  bindO (F36 N y4813.1 y4813.2) fun y4902 =>
  bindO (F36 N y4813.1 ((y4813.2).set ((y4830).toNat) (⟨x4872.fam, orI x4872.hrs ((1 : Int) * 2 ^ (y4876 : Int).toNat), x4872.wants⟩ : Cm))) fun y4906 =>
  bindO (F36 N y4893.1 y4893.2.1) fun y4910 =>
  bindO (F57 N y4813.1 y4813.2 x4872.fam) fun y4918 =>
  bindO (F38 N y4813.1 y4813.2) fun y4930 =>
  bindO (F38 N y4893.1 y4893.2.1) fun y4942 =>
  if y4893.2.2 = 0 then
    if y4902.2 = 0 then
      if y4906.2 = 0 then
        if y4910.2 = 0 then
          if y4918.2 = 0 then
            if y4930.2 = 0 then
              if y4942.2 = 0 then
                if y4906.1 < y4902.1 then
                  some false
                else
                  if y4910.1 < y4902.1 then
                    some false
                  else
                    ckO ((y4942.1.length : Int) + 1) <|
                    if ((y4942.1.length : Int) + 1) = (y4930.1.length : Int) then
                      F12l4 N y4813 y4830 y4918 y4930 y4942 N 0 0
                    else
                      some false
              else
                some false
            else
              some false
          else
            some false
        else
          some false
      else
        some false
    else
      some false
  else
    some false
def F12 (N : Nat) (p0 : Int) (lp1 : List A2) (p2 : A2) : Option Bool :=
  bindO (F60 N p0 lp1) fun y4813 =>
  if (y4813.2.length : Int) = 0 then
    F12j1 N
  else
    if y4813.1 = 0 then
      F12j1 N
    else
      bindO (F59 p2.a (y4813.2.length : Int)) fun y4830 =>
      gdO (0 + y4813.2.length ≤ 1000000000) <|
      F12j2 p2 N y4813 y4830
def F13j3 (N : Nat) : Option Bool :=
  bindO (F25 N) fun y18720 =>
  some y18720
def F13j5 (rec4 : Int → Option Bool) (v19923 : Int) : Option Bool :=
  ckO (v19923 + 1) <|
  rec4 (v19923 + 1)
def F13j7 (N : Nat) (rec4 : Int → Option Bool) (y12463 : (Int × List Cm)) (y12500 : (List Int × Int)) (v19923 : Int) (u20372 : List Cm) : Option Bool :=
  bindO (F44 N y12463.1 u20372 y12500.1) fun y20379 =>
  if y20379.1 = true then
    if y20379.2 = 0 then
      F13j5 rec4 v19923
    else
      some false
  else
    if y20379.2 = 0 then
      some false
    else
      some false
def F13b8 (N : Nat) (rec4 : Int → Option Bool) (y12463 : (Int × List Cm)) (y12488 : (List Int × Int)) (y12500 : (List Int × Int)) (v19923 : Int) (rec8 : List Cm → Int → Option Bool) (u20459 : List Cm) (v20464 : Int) : Option Bool :=
  if v20464 < (u20459.length : Int) then
    gdO (0 ≤ v20464) <|
    bindO (u20459[(v20464).toNat]?) fun x20481 =>
    gdO (0 ≤ v19923) <|
    bindO (y12488.1[(v19923).toNat]?) fun x20485 =>
    gdO (0 ≤ x20485 ∧ x20485 ≤ 62) <|
    ckO ((1 : Int) * 2 ^ (x20485 : Int).toNat) <|
    gdO (0 ≤ x20481.hrs) <|
    gdO (0 ≤ ((1 : Int) * 2 ^ (x20485 : Int).toNat)) <|
    ckO (x20481.hrs) <|
    ckO (v20464 + 1) <|
    rec8 ((u20459).set ((v20464).toNat) (⟨x20481.fam, andNotI x20481.hrs ((1 : Int) * 2 ^ (x20485 : Int).toNat), x20481.wants⟩ : Cm)) (v20464 + 1)
  else
    F13j7 N rec4 y12463 y12500 v19923 u20459
def F13l8 (N : Nat) (rec4 : Int → Option Bool) (y12463 : (Int × List Cm)) (y12488 : (List Int × Int)) (y12500 : (List Int × Int)) (v19923 : Int) : Nat → List Cm → Int → Option Bool
  | 0 => fun _ _ => none
  | m + 1 => F13b8 N rec4 y12463 y12488 y12500 v19923 (F13l8 N rec4 y12463 y12488 y12500 v19923 m)
def F13j6 (N : Nat) (rec4 : Int → Option Bool) (y12463 : (Int × List Cm)) (y12488 : (List Int × Int)) (y12500 : (List Int × Int)) (v19923 : Int) : Option Bool :=
  F13l8 N rec4 y12463 y12488 y12500 v19923 N y12463.2 0
def F13b4 (N : Nat) (y12463 : (Int × List Cm)) (y12488 : (List Int × Int)) (y12500 : (List Int × Int)) (rec4 : Int → Option Bool) (v19923 : Int) : Option Bool :=
  if v19923 < (y12488.1.length : Int) then
    gdO (0 + y12463.2.length ≤ 1000000000) <|
    F13j6 N rec4 y12463 y12488 y12500 v19923
  else
    F13j3 N
def F13l4 (N : Nat) (y12463 : (Int × List Cm)) (y12488 : (List Int × Int)) (y12500 : (List Int × Int)) : Nat → Int → Option Bool
  | 0 => fun _ => none
  | m + 1 => F13b4 N y12463 y12488 y12500 (F13l4 N y12463 y12488 y12500 m)
def F13j2 (N : Nat) (y12463 : (Int × List Cm)) (y12488 : (List Int × Int)) (y12500 : (List Int × Int)) : Option Bool :=
  F13l4 N y12463 y12488 y12500 N 0
def F13j10 (rec9 : Int → Option Bool) (v23029 : Int) : Option Bool :=
  ckO (v23029 + 1) <|
  rec9 (v23029 + 1)
def F13j13 (rec9 : Int → Option Bool) (v23029 : Int) : Option Bool :=
  F13j10 rec9 v23029
def F13j12 (rec9 : Int → Option Bool) (u13155 : List Int) (v23029 : Int) (v23960 : Bool) : Option Bool :=
  if v23960 = true then
    gdO (0 ≤ v23029) <|
    bindO (u13155[(v23029).toNat]?) fun x23973 =>
    if x23973 = 0 then
      F13j13 rec9 v23029
    else
      F13j13 rec9 v23029
  else
    gdO (0 ≤ v23029) <|
    bindO (u13155[(v23029).toNat]?) fun x23977 =>
    if x23977 = 0 then
      some false
    else
      F13j13 rec9 v23029
def F13j15 (rec14 : Bool → Int → Option Bool) (v24018 : Int) (v24027 : Bool) : Option Bool :=
  ckO (v24018 + 1) <|
  rec14 v24027 (v24018 + 1)
def F13b14 (rec9 : Int → Option Bool) (y12488 : (List Int × Int)) (u13155 : List Int) (v23029 : Int) (rec14 : Bool → Int → Option Bool) (v24017 : Bool) (v24018 : Int) : Option Bool :=
  if v24018 < (y12488.1.length : Int) then
    if v24017 = true then
      F13j15 rec14 v24018 true
    else
      gdO (0 ≤ v24018) <|
      bindO (y12488.1[(v24018).toNat]?) fun x24028 =>
      if x24028 = v23029 then
        F13j15 rec14 v24018 true
      else
        F13j15 rec14 v24018 false
  else
    F13j12 rec9 u13155 v23029 v24017
def F13l14 (rec9 : Int → Option Bool) (y12488 : (List Int × Int)) (u13155 : List Int) (v23029 : Int) : Nat → Bool → Int → Option Bool
  | 0 => fun _ _ => none
  | m + 1 => F13b14 rec9 y12488 u13155 v23029 (F13l14 rec9 y12488 u13155 v23029 m)
def F13j11 (N : Nat) (rec9 : Int → Option Bool) (y12488 : (List Int × Int)) (u13155 : List Int) (v23029 : Int) : Option Bool :=
  F13l14 rec9 y12488 u13155 v23029 N false 0
def F13j18 (rec16 : Int → Option Bool) (v24197 : Int) : Option Bool :=
  ckO (v24197 + 1) <|
  rec16 (v24197 + 1)
def F13j17 (rec16 : Int → Option Bool) (v24197 : Int) (y24247 : (Int × Int)) (v24263 : Bool) : Option Bool :=
  if v24263 = true then
    if y24247.2 = 0 then
      if y24247.1 = 1 then
        if y24247.1 = 0 then
          some false
        else
          F13j18 rec16 v24197
      else
        if y24247.1 = 0 then
          some false
        else
          F13j18 rec16 v24197
    else
      some false
  else
    if y24247.2 = 0 then
      if y24247.1 = 1 then
        some false
      else
        if y24247.1 = 0 then
          F13j18 rec16 v24197
        else
          F13j18 rec16 v24197
    else
      some false
def F13b16 (N : Nat) (rec9 : Int → Option Bool) (y12463 : (Int × List Cm)) (y12488 : (List Int × Int)) (u13155 : List Int) (v23029 : Int) (rec16 : Int → Option Bool) (v24197 : Int) : Option Bool :=
  if v24197 < (y12463.2.length : Int) then
    gdO (0 ≤ v24197) <|
    bindO (y12463.2[(v24197).toNat]?) fun x24243 =>
    bindO (F53 N y12463.1 y12463.2 x24243.fam v23029) fun y24247 =>
    gdO (0 ≤ v23029) <|
    bindO (u13155[(v23029).toNat]?) fun x24264 =>
    if x24264 = x24243.fam then
      F13j17 rec16 v24197 y24247 true
    else
      F13j17 rec16 v24197 y24247 false
  else
    F13j11 N rec9 y12488 u13155 v23029
def F13l16 (N : Nat) (rec9 : Int → Option Bool) (y12463 : (Int × List Cm)) (y12488 : (List Int × Int)) (u13155 : List Int) (v23029 : Int) : Nat → Int → Option Bool
  | 0 => fun _ => none
  | m + 1 => F13b16 N rec9 y12463 y12488 u13155 v23029 (F13l16 N rec9 y12463 y12488 u13155 v23029 m)
def F13b9 (N : Nat) (y12463 : (Int × List Cm)) (y12488 : (List Int × Int)) (y12500 : (List Int × Int)) (u13155 : List Int) (rec9 : Int → Option Bool) (v23029 : Int) : Option Bool :=
  if v23029 < (u13155.length : Int) then
    F13l16 N rec9 y12463 y12488 u13155 v23029 N 0
  else
    F13j2 N y12463 y12488 y12500
def F13l9 (N : Nat) (y12463 : (Int × List Cm)) (y12488 : (List Int × Int)) (y12500 : (List Int × Int)) (u13155 : List Int) : Nat → Int → Option Bool
  | 0 => fun _ => none
  | m + 1 => F13b9 N y12463 y12488 y12500 u13155 (F13l9 N y12463 y12488 y12500 u13155 m)
def F13j1 (N : Nat) (y12463 : (Int × List Cm)) (y12488 : (List Int × Int)) (y12500 : (List Int × Int)) (u13155 : List Int) : Option Bool :=
  F13l9 N y12463 y12488 y12500 u13155 N 0
def F13j20 (N : Nat) (y12463 : (Int × List Cm)) (y12488 : (List Int × Int)) (y12500 : (List Int × Int)) (u24696 : List Int) : Option Bool :=
  F13j1 N y12463 y12488 y12500 u24696
def F13j21 (rec19 : List Int → Int → Option Bool) (v24701 : Int) (u24804 : List Int) : Option Bool :=
  ckO (v24701 + 2) <|
  rec19 u24804 (v24701 + 2)
def F13b19 (lp2 : List Int) (N : Nat) (y12463 : (Int × List Cm)) (y12488 : (List Int × Int)) (y12500 : (List Int × Int)) (rec19 : List Int → Int → Option Bool) (u24696 : List Int) (v24701 : Int) : Option Bool :=
  ckO (v24701 + 1) <|
  if (v24701 + 1) < (lp2.length : Int) then
    if v24701 < 40 then
      if 0 < (u24696.length : Int) then
        gdO (0 + u24696.length ≤ 1000000000) <|
        gdO (0 ≤ v24701) <|
        bindO (lp2[(v24701).toNat]?) fun x24828 =>
        bindO (F59 x24828 (u24696.length : Int)) fun y24835 =>
        gdO (0 ≤ (v24701 + 1)) <|
        bindO (lp2[(v24701 + 1).toNat]?) fun x24846 =>
        bindO (F59 x24846 (u24696.length : Int)) fun y24853 =>
        gdO (0 ≤ y24853) <|
        bindO (u24696[(y24853).toNat]?) fun x24881 =>
        gdO (0 ≤ y24835) <|
        bindO (u24696[(y24835).toNat]?) fun x24885 =>
        bindO (((u24696).set ((y24835).toNat) x24881)[(y24853).toNat]?) fun x24892 =>
        bindO (F42 N y12463.1 y12463.2 (((u24696).set ((y24835).toNat) x24881).set ((y24853).toNat) x24885)) fun y24909 =>
        if y24909 = 0 then
          F13j21 rec19 v24701 (((u24696).set ((y24835).toNat) x24881).set ((y24853).toNat) x24885)
        else
          F13j21 rec19 v24701 u24696
      else
        F13j20 N y12463 y12488 y12500 u24696
    else
      F13j20 N y12463 y12488 y12500 u24696
  else
    F13j20 N y12463 y12488 y12500 u24696
def F13l19 (lp2 : List Int) (N : Nat) (y12463 : (Int × List Cm)) (y12488 : (List Int × Int)) (y12500 : (List Int × Int)) : Nat → List Int → Int → Option Bool
  | 0 => fun _ _ => none
  | m + 1 => F13b19 lp2 N y12463 y12488 y12500 (F13l19 lp2 N y12463 y12488 y12500 m)
def F13 (N : Nat) (p0 : Int) (lp1 : List A2) (lp2 : List Int) : Option Bool :=
  bindO (F60 N p0 lp1) fun y12463 =>
  bindO (F40 N y12463.1 y12463.2) fun y12476 =>
  bindO (F55 N y12463.1 y12463.2) fun y12488 =>
  bindO (F38 N y12463.1 y12463.2) fun y12500 =>
  if y12476.2 = 0 then
    if y12488.2 = 0 then
      if y12500.2 = 0 then
        if (y12476.1.length : Int) = y12463.1 then
          gdO (0 + y12476.1.length ≤ 1000000000) <|
          F13l19 lp2 N y12463 y12488 y12500 N y12476.1 0
        else
          some false
      else
        some false
    else
      some false
  else
    some false
def F88j1 (lp0_1 : List Cm) (lp1 : List Int) : Option Int :=
  if (lp1.length : Int) = (lp0_1.length : Int) then
    some 0
  else
    some 56
def F88b2 (lp0_1 : List Cm) (lp1 : List Int) (rec2 : Int → Option Int) (i_422 : Int) : Option Int :=
  if i_422 < (lp1.length : Int) then
    gdO (0 ≤ i_422) <|
    bindO (lp1[(i_422).toNat]?) fun x450 =>
    bindO (F71 x450 0 24) fun y457 =>
    if y457 = true then
      ckO (i_422 + 1) <|
      rec2 (i_422 + 1)
    else
      some 56
  else
    F88j1 lp0_1 lp1
def F88l2 (lp0_1 : List Cm) (lp1 : List Int) : Nat → Int → Option Int
  | 0 => fun _ => none
  | m + 1 => F88b2 lp0_1 lp1 (F88l2 lp0_1 lp1 m)
def F88 (N : Nat) (p0_0 : Int) (lp0_1 : List Cm) (lp1 : List Int) : Option Int :=
  bindO (F24 N p0_0 lp0_1) fun y237 =>
  if y237 = 0 then
    F88l2 lp0_1 lp1 N 0
  else
    some 52
def F51j2 (v1627 : Int) : Option Int :=
  if v1627 ≤ 0 then
    some 54
  else
    some 0
def F51j4 (rec3 : Int → Int → Option Int) (v1633 : Int) (v1634 : Int) : Option Int :=
  ckO (v1633 + 1) <|
  rec3 v1634 (v1633 + 1)
def F51b3 (p0_0 : Int) (v1619 : Int) (rec3 : Int → Int → Option Int) (v1632 : Int) (v1633 : Int) : Option Int :=
  if v1633 < p0_0 then
    gdO (0 ≤ v1633 ∧ v1633 ≤ 62) <|
    ckO ((1 : Int) * 2 ^ (v1633 : Int).toNat) <|
    gdO (0 ≤ v1619) <|
    gdO (0 ≤ ((1 : Int) * 2 ^ (v1633 : Int).toNat)) <|
    ckO (v1619) <|
    if (andI v1619 ((1 : Int) * 2 ^ (v1633 : Int).toNat)) = 0 then
      F51j4 rec3 v1633 v1632
    else
      ckO (v1632 - 1) <|
      F51j4 rec3 v1633 (v1632 - 1)
  else
    F51j2 v1632
def F51l3 (p0_0 : Int) (v1619 : Int) : Nat → Int → Int → Option Int
  | 0 => fun _ _ => none
  | m + 1 => F51b3 p0_0 v1619 (F51l3 p0_0 v1619 m)
def F51j1 (p0_0 : Int) (N : Nat) (v1618 : Int) (v1619 : Int) : Option Int :=
  F51l3 p0_0 v1619 N v1618 0
def F51j6 (lp0_1 : List Cm) (lp1 : List Int) (rec5 : Int → Int → Int → Option Int) (v1942 : Int) (v1943 : Int) (v1944 : Int) (y2076 : Int) : Option Int :=
  gdO (0 ≤ y2076) <|
  bindO (lp1[(y2076).toNat]?) fun x2134 =>
  ckO (v1942 + x2134) <|
  bindO (lp0_1[(y2076).toNat]?) fun x2141 =>
  gdO (0 ≤ v1943) <|
  gdO (0 ≤ x2141.hrs) <|
  ckO (v1943) <|
  ckO (x2141.hrs) <|
  ckO (v1944 + 1) <|
  rec5 (v1942 + x2134) (orI v1943 x2141.hrs) (v1944 + 1)
def F51b5 (p0_0 : Int) (lp0_1 : List Cm) (lp1 : List Int) (lp2 : List Int) (N : Nat) (rec5 : Int → Int → Int → Option Int) (v1942 : Int) (v1943 : Int) (v1944 : Int) : Option Int :=
  if v1944 < (lp2.length : Int) then
    gdO (0 ≤ v1944) <|
    bindO (lp2[(v1944).toNat]?) fun x2069 =>
    bindO (F65 N p0_0 lp0_1 x2069) fun y2076 =>
    if y2076 < 0 then
      some 54
    else
      if 0 < v1944 then
        ckO (v1944 - 1) <|
        gdO (0 ≤ (v1944 - 1)) <|
        bindO (lp2[(v1944 - 1).toNat]?) fun x2148 =>
        if x2069 ≤ x2148 then
          some 54
        else
          F51j6 lp0_1 lp1 rec5 v1942 v1943 v1944 y2076
      else
        F51j6 lp0_1 lp1 rec5 v1942 v1943 v1944 y2076
  else
    F51j1 p0_0 N v1942 v1943
def F51l5 (p0_0 : Int) (lp0_1 : List Cm) (lp1 : List Int) (lp2 : List Int) (N : Nat) : Nat → Int → Int → Int → Option Int
  | 0 => fun _ _ _ => none
  | m + 1 => F51b5 p0_0 lp0_1 lp1 lp2 N (F51l5 p0_0 lp0_1 lp1 lp2 N m)
def F51 (N : Nat) (p0_0 : Int) (lp0_1 : List Cm) (lp1 : List Int) (lp2 : List Int) : Option Int :=
  bindO (F88 N p0_0 lp0_1 lp1) fun y1086 =>
  if y1086 = 0 then
    F51l5 p0_0 lp0_1 lp1 lp2 N N 0 0 0
  else
    some y1086
def F82b1 (lp0_1 : List Cm) (p1 : Int) (rec1 : List Int → Int → Option (List Int)) (out_319 : List Int) (i_324 : Int) : Option (List Int) :=
  if i_324 < (lp0_1.length : Int) then
    gdO (0 ≤ i_324) <|
    bindO (lp0_1[(i_324).toNat]?) fun x337 =>
    gdO (out_319.length + 1 ≤ 1000000000) <|
    ckO (i_324 + 1) <|
    rec1 (out_319 ++ [if x337.wants < p1 then x337.wants else p1]) (i_324 + 1)
  else
    some out_319
def F82l1 (lp0_1 : List Cm) (p1 : Int) : Nat → List Int → Int → Option (List Int)
  | 0 => fun _ _ => none
  | m + 1 => F82b1 lp0_1 p1 (F82l1 lp0_1 p1 m)
def F82 (N : Nat) (p0_0 : Int) (lp0_1 : List Cm) (p1 : Int) : Option (List Int) :=
  F82l1 lp0_1 p1 N [] 0
def F52 (N : Nat) (p0_0 : Int) (lp0_1 : List Cm) (p1 : Int) : Option (List Int) :=
  bindO (F82 N p0_0 lp0_1 p1) fun y21 =>
  some y21
def F95b1 (p0_0 : Int) (lp0_1 : List Cm) (p1 : Int) (rec1 : List Cm → Int → Option (Int × List Cm)) (out_345 : List Cm) (i_350 : Int) : Option (Int × List Cm) :=
  if i_350 < (lp0_1.length : Int) then
    gdO (0 ≤ i_350) <|
    bindO (lp0_1[(i_350).toNat]?) fun x364 =>
    gdO (0 ≤ p1 ∧ p1 ≤ 62) <|
    ckO ((1 : Int) * 2 ^ (p1 : Int).toNat) <|
    gdO (0 ≤ x364.hrs) <|
    gdO (0 ≤ ((1 : Int) * 2 ^ (p1 : Int).toNat)) <|
    ckO (x364.hrs) <|
    gdO (out_345.length + 1 ≤ 1000000000) <|
    ckO (i_350 + 1) <|
    rec1 (out_345 ++ [(⟨x364.fam, andNotI x364.hrs ((1 : Int) * 2 ^ (p1 : Int).toNat), x364.wants⟩ : Cm)]) (i_350 + 1)
  else
    some (p0_0, out_345)
def F95l1 (p0_0 : Int) (lp0_1 : List Cm) (p1 : Int) : Nat → List Cm → Int → Option (Int × List Cm)
  | 0 => fun _ _ => none
  | m + 1 => F95b1 p0_0 lp0_1 p1 (F95l1 p0_0 lp0_1 p1 m)
def F95 (N : Nat) (p0_0 : Int) (lp0_1 : List Cm) (p1 : Int) : Option (Int × List Cm) :=
  F95l1 p0_0 lp0_1 p1 N [] 0
def F106j2 (rec1 : List Bool → Int → Option (List Bool ⊕ (List Int × List Bool))) (v1544 : Int) (u1696 : List Bool) : Option (List Bool ⊕ (List Int × List Bool)) :=
  ckO (v1544 + 1) <|
  rec1 u1696 (v1544 + 1)
def F106j3 (rec1 : List Bool → Int → Option (List Bool ⊕ (List Int × List Bool))) (u1541 : List Bool) (v1544 : Int) : Option (List Bool ⊕ (List Int × List Bool)) :=
  F106j2 rec1 v1544 u1541
def F106j4 (rec1 : List Bool → Int → Option (List Bool ⊕ (List Int × List Bool))) (v1544 : Int) (u1803 : List Bool) : Option (List Bool ⊕ (List Int × List Bool)) :=
  F106j2 rec1 v1544 u1803
def F106b1 (gh : Int) (lgc : List Cm) (lgp : List Int) (gi : Int) (rec0 : Int → List Cm → List Int → Int → List Bool → Option (List Bool ⊕ (List Int × List Bool))) (rec1 : List Bool → Int → Option (List Bool ⊕ (List Int × List Bool))) (u1541 : List Bool) (v1544 : Int) : Option (List Bool ⊕ (List Int × List Bool)) :=
  if v1544 < gh then
    bindO (F94 gh lgc gi v1544) fun y1738 =>
    if y1738 = true then
      gdO (0 ≤ v1544) <|
      bindO (u1541[(v1544).toNat]?) fun x1740 =>
      if x1740 = true then
        F106j3 rec1 u1541 v1544
      else
        bindO (lgp[(v1544).toNat]?) fun x1743 =>
        if x1743 = gi then
          F106j3 rec1 u1541 v1544
        else
          gdO (0 + lgp.length ≤ 1000000000) <|
          if x1743 < 0 then
            some (.inr ((lgp).set ((v1544).toNat) gi, (u1541).set ((v1544).toNat) true))
          else
            bindS (rec0 gh lgc ((lgp).set ((v1544).toNat) gi) x1743 ((u1541).set ((v1544).toNat) true))
              (fun y1816 =>
                F106j4 rec1 v1544 y1816)
              (fun y1818 =>
                some (.inr (y1818.1, y1818.2)))
    else
      F106j3 rec1 u1541 v1544
  else
    some (.inl u1541)
def F106l1 (gh : Int) (lgc : List Cm) (lgp : List Int) (gi : Int) (rec0 : Int → List Cm → List Int → Int → List Bool → Option (List Bool ⊕ (List Int × List Bool))) : Nat → List Bool → Int → Option (List Bool ⊕ (List Int × List Bool))
  | 0 => fun _ _ => none
  | m + 1 => F106b1 gh lgc lgp gi rec0 (F106l1 gh lgc lgp gi rec0 m)
def F106b (N : Nat) (rec0 : Int → List Cm → List Int → Int → List Bool → Option (List Bool ⊕ (List Int × List Bool))) (gh : Int) (lgc : List Cm) (lgp : List Int) (gi : Int) (lgt : List Bool) : Option (List Bool ⊕ (List Int × List Bool)) :=
  F106l1 gh lgc lgp gi rec0 N lgt 0
def F106 : Nat → Int → List Cm → List Int → Int → List Bool → Option (List Bool ⊕ (List Int × List Bool))
  | 0 => fun _ _ _ _ _ => none
  | N + 1 => F106b N (F106 N)
def F81j3 (rec2 : List Int → Int → Option (List Int × Bool)) (i_18867 : Int) (p_19714 : List Int) : Option (List Int × Bool) :=
  ckO (i_18867 + 1) <|
  rec2 p_19714 (i_18867 + 1)
def F81j5 (rec4 : List Int → Int → Option (List Int × Bool)) (k_20286 : Int) (next_20501 : List Int) : Option (List Int × Bool) :=
  ckO (k_20286 + 1) <|
  rec4 next_20501 (k_20286 + 1)
def F81b4 (p0_0 : Int) (lp0_1 : List Cm) (lp1 : List Int) (N : Nat) (rec2 : List Int → Int → Option (List Int × Bool)) (i_18867 : Int) (rec4 : List Int → Int → Option (List Int × Bool)) (p_20281 : List Int) (k_20286 : Int) : Option (List Int × Bool) :=
  gdO (0 ≤ i_18867) <|
  bindO (lp1[(i_18867).toNat]?) fun x20308 =>
  if k_20286 < x20308 then
    bindS (F106 N p0_0 lp0_1 p_20281 i_18867 (List.replicate 24 false))
      (fun y20509 =>
        some (p_20281, false))
      (fun y20511 =>
        F81j5 rec4 k_20286 y20511.1)
  else
    F81j3 rec2 i_18867 p_20281
def F81l4 (p0_0 : Int) (lp0_1 : List Cm) (lp1 : List Int) (N : Nat) (rec2 : List Int → Int → Option (List Int × Bool)) (i_18867 : Int) : Nat → List Int → Int → Option (List Int × Bool)
  | 0 => fun _ _ => none
  | m + 1 => F81b4 p0_0 lp0_1 lp1 N rec2 i_18867 (F81l4 p0_0 lp0_1 lp1 N rec2 i_18867 m)
def F81b2 (p0_0 : Int) (lp0_1 : List Cm) (lp1 : List Int) (N : Nat) (rec2 : List Int → Int → Option (List Int × Bool)) (p_18862 : List Int) (i_18867 : Int) : Option (List Int × Bool) :=
  if i_18867 < (lp1.length : Int) then
    F81l4 p0_0 lp0_1 lp1 N rec2 i_18867 N p_18862 0
  else
    some (p_18862, true)
def F81l2 (p0_0 : Int) (lp0_1 : List Cm) (lp1 : List Int) (N : Nat) : Nat → List Int → Int → Option (List Int × Bool)
  | 0 => fun _ _ => none
  | m + 1 => F81b2 p0_0 lp0_1 lp1 N (F81l2 p0_0 lp0_1 lp1 N m)
def F81j1 (p0_0 : Int) (lp0_1 : List Cm) (lp1 : List Int) (N : Nat) (p_10349 : List Int) : Option (List Int × Bool) :=
  F81l2 p0_0 lp0_1 lp1 N N p_10349 0
def F81b6 (p0_0 : Int) (lp0_1 : List Cm) (lp1 : List Int) (N : Nat) (rec6 : List Int → Int → Option (List Int × Bool)) (p_20591 : List Int) (h_20596 : Int) : Option (List Int × Bool) :=
  if h_20596 < p0_0 then
    gdO (p_20591.length + 1 ≤ 1000000000) <|
    ckO (h_20596 + 1) <|
    rec6 (p_20591 ++ [(-1 : Int)]) (h_20596 + 1)
  else
    F81j1 p0_0 lp0_1 lp1 N p_20591
def F81l6 (p0_0 : Int) (lp0_1 : List Cm) (lp1 : List Int) (N : Nat) : Nat → List Int → Int → Option (List Int × Bool)
  | 0 => fun _ _ => none
  | m + 1 => F81b6 p0_0 lp0_1 lp1 N (F81l6 p0_0 lp0_1 lp1 N m)
def F81 (N : Nat) (p0_0 : Int) (lp0_1 : List Cm) (lp1 : List Int) : Option (List Int × Bool) :=
  F81l6 p0_0 lp0_1 lp1 N N [] 0
def F37j2 (rec1 : Int → Int → Option (Int × Int)) (k_1653 : Int) (best_1727 : Int) : Option (Int × Int) :=
  ckO (k_1653 + 1) <|
  rec1 best_1727 (k_1653 + 1)
def F37j3 (rec1 : Int → Int → Option (Int × Int)) (best_1652 : Int) (k_1653 : Int) (is_1764 : Bool) : Option (Int × Int) :=
  if is_1764 = true then
    F37j2 rec1 k_1653 k_1653
  else
    F37j2 rec1 k_1653 best_1652
def F37b1 (p0_0 : Int) (lp0_1 : List Cm) (N : Nat) (rec1 : Int → Int → Option (Int × Int)) (best_1652 : Int) (k_1653 : Int) : Option (Int × Int) :=
  if k_1653 ≤ 24 then
    bindO (F82 N p0_0 lp0_1 k_1653) fun y1765 =>
    bindO (F81 N p0_0 lp0_1 y1765) fun y1771 =>
    F37j3 rec1 best_1652 k_1653 y1771.2
  else
    some (best_1652, 0)
def F37l1 (p0_0 : Int) (lp0_1 : List Cm) (N : Nat) : Nat → Int → Int → Option (Int × Int)
  | 0 => fun _ _ => none
  | m + 1 => F37b1 p0_0 lp0_1 N (F37l1 p0_0 lp0_1 N m)
def F37 (N : Nat) (p0_0 : Int) (lp0_1 : List Cm) : Option (Int × Int) :=
  bindO (F24 N p0_0 lp0_1) fun y908 =>
  if y908 = 0 then
    F37l1 p0_0 lp0_1 N N 0 1
  else
    some (0, 52)
def F83j2 (rec1 : List Int → List Int → Int → Option (List Int)) (v24962 : Int) (u26095 : List Int) (u26100 : List Int) : Option (List Int) :=
  ckO (v24962 + 1) <|
  rec1 u26095 u26100 (v24962 + 1)
def F83j4 (rec3 : List Int → List Int → Int → Option (List Int)) (v26866 : Int) (u27047 : List Int) (u27052 : List Int) : Option (List Int) :=
  ckO (v26866 + 1) <|
  rec3 u27047 u27052 (v26866 + 1)
def F83j5 (rec3 : List Int → List Int → Int → Option (List Int)) (u26856 : List Int) (u26861 : List Int) (v26866 : Int) : Option (List Int) :=
  F83j4 rec3 v26866 u26856 u26861
def F83j6 (rec3 : List Int → List Int → Int → Option (List Int)) (u26856 : List Int) (u26861 : List Int) (v26866 : Int) : Option (List Int) :=
  F83j4 rec3 v26866 u26856 u26861
def F83j7 (rec3 : List Int → List Int → Int → Option (List Int)) (u26856 : List Int) (v26866 : Int) (x27105 : Int) (u27170 : List Int) : Option (List Int) :=
  ckO (x27105 + 1) <|
  F83j4 rec3 v26866 ((u26856).set ((v26866).toNat) (x27105 + 1)) u27170
def F83b3 (p0_0 : Int) (lp0_1 : List Cm) (N : Nat) (rec1 : List Int → List Int → Int → Option (List Int)) (v24962 : Int) (rec3 : List Int → List Int → Int → Option (List Int)) (u26856 : List Int) (u26861 : List Int) (v26866 : Int) : Option (List Int) :=
  if v26866 < (lp0_1.length : Int) then
    gdO (0 ≤ v26866) <|
    bindO (lp0_1[(v26866).toNat]?) fun x27098 =>
    if x27098.wants < v24962 then
      F83j5 rec3 u26856 u26861 v26866
    else
      bindO (u26856[(v26866).toNat]?) fun x27105 =>
      ckO (v24962 - 1) <|
      if x27105 = (v24962 - 1) then
        bindS (F106 N p0_0 lp0_1 u26861 v26866 (List.replicate 24 false))
          (fun y27181 =>
            F83j6 rec3 u26856 u26861 v26866)
          (fun y27183 =>
            F83j7 rec3 u26856 v26866 x27105 y27183.1)
      else
        F83j5 rec3 u26856 u26861 v26866
  else
    F83j2 rec1 v24962 u26856 u26861
def F83l3 (p0_0 : Int) (lp0_1 : List Cm) (N : Nat) (rec1 : List Int → List Int → Int → Option (List Int)) (v24962 : Int) : Nat → List Int → List Int → Int → Option (List Int)
  | 0 => fun _ _ _ => none
  | m + 1 => F83b3 p0_0 lp0_1 N rec1 v24962 (F83l3 p0_0 lp0_1 N rec1 v24962 m)
def F83b1 (p0_0 : Int) (lp0_1 : List Cm) (N : Nat) (rec1 : List Int → List Int → Int → Option (List Int)) (u24952 : List Int) (u24957 : List Int) (v24962 : Int) : Option (List Int) :=
  if v24962 ≤ 24 then
    F83l3 p0_0 lp0_1 N rec1 v24962 N u24952 u24957 0
  else
    some u24952
def F83l1 (p0_0 : Int) (lp0_1 : List Cm) (N : Nat) : Nat → List Int → List Int → Int → Option (List Int)
  | 0 => fun _ _ _ => none
  | m + 1 => F83b1 p0_0 lp0_1 N (F83l1 p0_0 lp0_1 N m)
def F83 (N : Nat) (p0_0 : Int) (lp0_1 : List Cm) : Option (List Int) :=
  gdO (0 ≤ (lp0_1.length : Int)) <|
  gdO ((lp0_1.length : Int) ≤ 1000000) <|
  bindO (F81 N p0_0 lp0_1 (List.replicate ((lp0_1.length : Int)).toNat (0 : Int))) fun y13633 =>
  F83l1 p0_0 lp0_1 N N (List.replicate ((lp0_1.length : Int)).toNat (0 : Int)) y13633.1 1
def F39 (N : Nat) (p0_0 : Int) (lp0_1 : List Cm) : Option (List Int × Int) :=
  bindO (F24 N p0_0 lp0_1) fun y29 =>
  if y29 = 0 then
    bindO (F83 N p0_0 lp0_1) fun y37 =>
    some (y37, 0)
  else
    some ([], 52)
def F43 (N : Nat) (p0_0 : Int) (lp0_1 : List Cm) (lp1 : List Int) : Option Int :=
  bindO (F24 N p0_0 lp0_1) fun y61 =>
  if y61 = 0 then
    bindO (F62 N p0_0 lp0_1 lp1) fun y69 =>
    if y69.2 = true then
      bindO (F83 N p0_0 lp0_1) fun y99 =>
      bindO (F41 N y69.1 y99) fun y105 =>
      if y105 = true then
        some 0
      else
        some 53
    else
      some 53
  else
    some 52
def F5 (N : Nat) (p0_0 : Int) (lp0_1 : List Cm) (lp1 : List Int) : Option Bool :=
  bindO (F36 N p0_0 lp0_1) fun y92 =>
  bindO (F37 N p0_0 lp0_1) fun y96 =>
  bindO (F38 N p0_0 lp0_1) fun y104 =>
  bindO (F39 N p0_0 lp0_1) fun y116 =>
  bindO (F40 N p0_0 lp0_1) fun y128 =>
  if y92.1 = y96.1 then
    if y92.2 = y96.2 then
      bindO (F41 N y104.1 y116.1) fun y152 =>
      if y152 = true then
        if y104.2 = y116.2 then
          if y128.2 = y116.2 then
            bindO (F42 N p0_0 lp0_1 lp1) fun y154 =>
            bindO (F43 N p0_0 lp0_1 lp1) fun y156 =>
            if y154 = y156 then
              if y128.2 = 0 then
                bindO (F43 N p0_0 lp0_1 y128.1) fun y168 =>
                if y168 = 0 then
                  bindO (F25 N) fun y170 =>
                  some y170
                else
                  some false
              else
                if (y128.1.length : Int) = 0 then
                  bindO (F25 N) fun y175 =>
                  some y175
                else
                  some false
            else
              some false
          else
            some false
        else
          some false
      else
        some false
    else
      some false
  else
    some false
def F45 (N : Nat) (p0_0 : Int) (lp0_1 : List Cm) (lp1 : List Int) : Option (Bool × Int) :=
  bindO (F88 N p0_0 lp0_1 lp1) fun y23 =>
  if y23 = 0 then
    bindO (F81 N p0_0 lp0_1 lp1) fun y32 =>
    some (y32.2, 0)
  else
    some (false, y23)
def F48 (N : Nat) (p0_0 : Int) (lp0_1 : List Cm) (lp1 : List Int) : Option Int :=
  bindO (F45 N p0_0 lp0_1 lp1) fun y9 =>
  if y9.1 = true then
    if y9.2 = 0 then
      some 55
    else
      some y9.2
  else
    if y9.2 = 0 then
      some y9.2
    else
      some y9.2
def F49 (N : Nat) (p0_0 : Int) (lp0_1 : List Cm) : Option Int :=
  bindO (F24 N p0_0 lp0_1) fun y41 =>
  if y41 = 0 then
    bindO (F82 N p0_0 lp0_1 1) fun y55 =>
    bindO (F48 N p0_0 lp0_1 y55) fun y61 =>
    some y61
  else
    some 52
def F6j2 (N : Nat) : Option Bool :=
  bindO (F25 N) fun y263 =>
  some y263
def F6j1 (p0_0 : Int) (lp0_1 : List Cm) (N : Nat) (y169 : (List Int × Int)) : Option Bool :=
  if y169.2 = 0 then
    bindO (F52 N p0_0 lp0_1 1) fun y265 =>
    bindO (F51 N p0_0 lp0_1 y265 y169.1) fun y271 =>
    if y271 = 0 then
      F6j2 N
    else
      some false
  else
    if 0 < (y169.1.length : Int) then
      some false
    else
      F6j2 N
def F6 (N : Nat) (p0_0 : Int) (lp0_1 : List Cm) (lp1 : List Int) (lp2 : List Int) : Option Bool :=
  bindO (F44 N p0_0 lp0_1 lp1) fun y145 =>
  bindO (F45 N p0_0 lp0_1 lp1) fun y149 =>
  bindO (F46 N p0_0 lp0_1 lp1) fun y157 =>
  bindO (F47 N p0_0 lp0_1) fun y169 =>
  if y145.1 = y149.1 then
    if y145.2 = y149.2 then
      bindO (F48 N p0_0 lp0_1 lp1) fun y199 =>
      if y157.2 = y199 then
        bindO (F49 N p0_0 lp0_1) fun y201 =>
        if y169.2 = y201 then
          bindO (F50 N p0_0 lp0_1 lp1 lp2) fun y203 =>
          bindO (F51 N p0_0 lp0_1 lp1 lp2) fun y205 =>
          if y203 = y205 then
            if y157.2 = 0 then
              bindO (F51 N p0_0 lp0_1 lp1 y157.1) fun y281 =>
              if y281 = 0 then
                F6j1 p0_0 lp0_1 N y169
              else
                some false
            else
              if 0 < (y157.1.length : Int) then
                some false
              else
                F6j1 p0_0 lp0_1 N y169
          else
            some false
        else
          some false
      else
        some false
    else
      some false
  else
    some false
def F54j2 (v1007 : Bool) : Option (Int × Int) :=
  if v1007 = true then
    some (2, 0)
  else
    some (1, 0)
def F54j4 (v1179 : Bool) : Option (Int × Int) :=
  F54j2 v1179
def F54j5 (rec3 : Bool → Int → Option (Int × Int)) (v1177 : Int) (v1220 : Bool) : Option (Int × Int) :=
  ckO (v1177 + 1) <|
  rec3 v1220 (v1177 + 1)
def F54j6 (rec3 : Bool → Int → Option (Int × Int)) (v1177 : Int) : Option (Int × Int) :=
  F54j5 rec3 v1177 false
def F54b3 (p0_0 : Int) (lp0_1 : List Cm) (p2 : Int) (N : Nat) (y661 : Int) (y677 : List Int) (y737 : (Int × List Cm)) (rec3 : Bool → Int → Option (Int × Int)) (v1176 : Bool) (v1177 : Int) : Option (Int × Int) :=
  if v1176 = true then
    if v1177 < (y677.length : Int) then
      F54j4 true
    else
      F54j4 true
  else
    if v1177 < (y677.length : Int) then
      if v1177 = y661 then
        F54j6 rec3 v1177
      else
        bindO (F94 p0_0 lp0_1 v1177 p2) fun y1231 =>
        if y1231 = true then
          gdO (0 ≤ v1177) <|
          bindO (y677[(v1177).toNat]?) fun x1233 =>
          if 0 < x1233 then
            gdO (0 + y677.length ≤ 1000000000) <|
            ckO (x1233 - 1) <|
            bindO (F81 N y737.1 y737.2 ((y677).set ((v1177).toNat) (x1233 - 1))) fun y1251 =>
            F54j5 rec3 v1177 y1251.2
          else
            F54j6 rec3 v1177
        else
          F54j6 rec3 v1177
    else
      F54j4 false
def F54l3 (p0_0 : Int) (lp0_1 : List Cm) (p2 : Int) (N : Nat) (y661 : Int) (y677 : List Int) (y737 : (Int × List Cm)) : Nat → Bool → Int → Option (Int × Int)
  | 0 => fun _ _ => none
  | m + 1 => F54b3 p0_0 lp0_1 p2 N y661 y677 y737 (F54l3 p0_0 lp0_1 p2 N y661 y677 y737 m)
def F54j1 (p0_0 : Int) (lp0_1 : List Cm) (p2 : Int) (N : Nat) (y661 : Int) (y677 : List Int) (v729 : Bool) : Option (Int × Int) :=
  if v729 = true then
    bindO (F95 N p0_0 lp0_1 p2) fun y737 =>
    bindO (F81 N y737.1 y737.2 y677) fun y751 =>
    F54l3 p0_0 lp0_1 p2 N y661 y677 y737 N y751.2 0
  else
    some (0, 0)
def F54j7 (p0_0 : Int) (lp0_1 : List Cm) (p2 : Int) (N : Nat) (y661 : Int) (y677 : List Int) : Option (Int × Int) :=
  F54j1 p0_0 lp0_1 p2 N y661 y677 false
def F54 (N : Nat) (p0_0 : Int) (lp0_1 : List Cm) (p1 : Int) (p2 : Int) : Option (Int × Int) :=
  bindO (F24 N p0_0 lp0_1) fun y657 =>
  if y657 = 0 then
    bindO (F65 N p0_0 lp0_1 p1) fun y661 =>
    if y661 < 0 then
      some (0, 57)
    else
      ckO (p0_0 - 1) <|
      bindO (F71 p2 0 (p0_0 - 1)) fun y669 =>
      if y669 = true then
        bindO (F83 N p0_0 lp0_1) fun y677 =>
        bindO (F94 p0_0 lp0_1 y661 p2) fun y1267 =>
        if y1267 = true then
          gdO (0 ≤ y661) <|
          bindO (y677[(y661).toNat]?) fun x1269 =>
          if 0 < x1269 then
            gdO (0 + y677.length ≤ 1000000000) <|
            ckO (x1269 - 1) <|
            bindO (F95 N p0_0 lp0_1 p2) fun y1287 =>
            bindO (F81 N y1287.1 y1287.2 ((y677).set ((y661).toNat) (x1269 - 1))) fun y1293 =>
            F54j1 p0_0 lp0_1 p2 N y661 y677 y1293.2
          else
            F54j7 p0_0 lp0_1 p2 N y661 y677
        else
          F54j7 p0_0 lp0_1 p2 N y661 y677
      else
        some (0, 7)
  else
    some (0, 52)
def F56j2 (rec1 : List Int → Int → Option (List Int × Int)) (h_837 : Int) (out_869 : List Int) : Option (List Int × Int) :=
  ckO (h_837 + 1) <|
  rec1 out_869 (h_837 + 1)
def F56b1 (p0_0 : Int) (lp0_1 : List Cm) (N : Nat) (y468 : List Int) (rec1 : List Int → Int → Option (List Int × Int)) (out_832 : List Int) (h_837 : Int) : Option (List Int × Int) :=
  if h_837 < p0_0 then
    bindO (F95 N p0_0 lp0_1 h_837) fun y887 =>
    bindO (F81 N y887.1 y887.2 y468) fun y893 =>
    if y893.2 = true then
      gdO (out_832.length + 1 ≤ 1000000000) <|
      F56j2 rec1 h_837 (out_832 ++ [h_837])
    else
      F56j2 rec1 h_837 out_832
  else
    some (out_832, 0)
def F56l1 (p0_0 : Int) (lp0_1 : List Cm) (N : Nat) (y468 : List Int) : Nat → List Int → Int → Option (List Int × Int)
  | 0 => fun _ _ => none
  | m + 1 => F56b1 p0_0 lp0_1 N y468 (F56l1 p0_0 lp0_1 N y468 m)
def F56 (N : Nat) (p0_0 : Int) (lp0_1 : List Cm) : Option (List Int × Int) :=
  bindO (F24 N p0_0 lp0_1) fun y460 =>
  if y460 = 0 then
    bindO (F83 N p0_0 lp0_1) fun y468 =>
    F56l1 p0_0 lp0_1 N y468 N [] 0
  else
    some ([], 52)
def F58j2 (rec1 : List Int → Int → Option (List Int × Int)) (f_1541 : Int) (out_1603 : List Int) : Option (List Int × Int) :=
  ckO (f_1541 + 1) <|
  rec1 out_1603 (f_1541 + 1)
def F58j3 (rec1 : List Int → Int → Option (List Int × Int)) (out_1536 : List Int) (f_1541 : Int) : Option (List Int × Int) :=
  F58j2 rec1 f_1541 out_1536
def F58b1 (p0_0 : Int) (lp0_1 : List Cm) (N : Nat) (y855 : (Int × List Cm)) (y868 : List Int) (y880 : List Int) (rec1 : List Int → Int → Option (List Int × Int)) (out_1536 : List Int) (f_1541 : Int) : Option (List Int × Int) :=
  if f_1541 ≤ 99 then
    bindO (F65 N p0_0 lp0_1 f_1541) fun y1610 =>
    bindO (F65 N y855.1 y855.2 f_1541) fun y1614 =>
    if 0 ≤ y1610 then
      if 0 ≤ y1614 then
        gdO (0 ≤ (if 0 > y1610 then 0 else y1610)) <|
        bindO (y868[(if 0 > y1610 then 0 else y1610).toNat]?) fun x1640 =>
        gdO (0 ≤ (if 0 > y1614 then 0 else y1614)) <|
        bindO (y880[(if 0 > y1614 then 0 else y1614).toNat]?) fun x1644 =>
        if x1640 = x1644 then
          F58j3 rec1 out_1536 f_1541
        else
          gdO (out_1536.length + 1 ≤ 1000000000) <|
          F58j2 rec1 f_1541 (out_1536 ++ [f_1541])
      else
        F58j3 rec1 out_1536 f_1541
    else
      F58j3 rec1 out_1536 f_1541
  else
    some (out_1536, 0)
def F58l1 (p0_0 : Int) (lp0_1 : List Cm) (N : Nat) (y855 : (Int × List Cm)) (y868 : List Int) (y880 : List Int) : Nat → List Int → Int → Option (List Int × Int)
  | 0 => fun _ _ => none
  | m + 1 => F58b1 p0_0 lp0_1 N y855 y868 y880 (F58l1 p0_0 lp0_1 N y855 y868 y880 m)
def F58 (N : Nat) (p0_0 : Int) (lp0_1 : List Cm) (p1 : Int) : Option (List Int × Int) :=
  bindO (F24 N p0_0 lp0_1) fun y838 =>
  if y838 = 0 then
    bindO (F65 N p0_0 lp0_1 p1) fun y846 =>
    if y846 < 0 then
      some ([], 57)
    else
      bindO (F68 N p0_0 lp0_1 p1) fun y855 =>
      bindO (F83 N p0_0 lp0_1) fun y868 =>
      bindO (F83 N y855.1 y855.2) fun y880 =>
      F58l1 p0_0 lp0_1 N y855 y868 y880 N [] 1
  else
    some ([], 52)
def F7 (N : Nat) (p0_0 : Int) (lp0_1 : List Cm) (p1 : Int) (p2 : Int) : Option Bool :=
  bindO (F53 N p0_0 lp0_1 p1 p2) fun y74 =>
  bindO (F54 N p0_0 lp0_1 p1 p2) fun y78 =>
  bindO (F55 N p0_0 lp0_1) fun y86 =>
  bindO (F56 N p0_0 lp0_1) fun y98 =>
  bindO (F57 N p0_0 lp0_1 p1) fun y110 =>
  bindO (F58 N p0_0 lp0_1 p1) fun y122 =>
  if y74.1 = y78.1 then
    if y74.2 = y78.2 then
      bindO (F41 N y86.1 y98.1) fun y135 =>
      if y135 = true then
        if y86.2 = y98.2 then
          bindO (F41 N y110.1 y122.1) fun y137 =>
          if y137 = true then
            if y110.2 = y122.2 then
              bindO (F25 N) fun y139 =>
              some y139
            else
              some false
          else
            some false
        else
          some false
      else
        some false
    else
      some false
  else
    some false
end Go.K
