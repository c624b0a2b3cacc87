/- The lexer, plainly: units to tokens. -/
import Derived.Test.YtaigkjffglbknaaDoorN2
import Derived.Test.YtaigkjffglbknaaDoorGB
namespace Go.Proofs.YtaigkjffglbknaaDoor
open Go.RowKit

def isLet (c : Nat) : Bool := (decide (97 ≤ c) && decide (c ≤ 122)) || (decide (65 ≤ c) && decide (c ≤ 90)) || c == 95 || c == 36
def isDig (c : Nat) : Bool := decide (48 ≤ c) && decide (c ≤ 57)
def isPrt (c : Nat) : Bool := isLet c || isDig c
def isBlk (c : Nat) : Bool := c == 9 || c == 11 || c == 12 || c == 32
def isEnd (c : Nat) : Bool := c == 10 || c == 13
def inLin (c : Nat) : Bool := !isEnd c
def isSep (c : Nat) : Bool := c == 8232 || c == 8233
def isQuo (c : Nat) : Bool := c == 39 || c == 34
def isFra (c : Nat) : Bool := c == 46 || c == 101 || c == 69 || c == 95
def isRad (c : Nat) : Bool := c == 120 || c == 88 || c == 111 || c == 79 || c == 98 || c == 66
/-- A hexadecimal digit's value, and whether it is one. -/
def hexV (c : Nat) : Nat := if isDig c then c - 48 else if 97 ≤ c ∧ c ≤ 102 then c - 87 else if 65 ≤ c ∧ c ≤ 70 then c - 55 else 0
def hexB (c : Nat) : Bool := isDig c || (decide (97 ≤ c) && decide (c ≤ 102)) || (decide (65 ≤ c) && decide (c ≤ 70))
def ctlV (c : Nat) : Nat := if c = 110 then 10 else if c = 116 then 9 else if c = 114 then 13 else if c = 98 then 8 else if c = 118 then 11 else if c = 102 then 12 else c
/-- How many units from the first one on are all as asked. -/
def spanL (p : Nat → Bool) : List Nat → Nat
  | [] => 0
  | x :: r => if p x then spanL p r + 1 else 0
/-- A unit; 0 beyond the end. -/
def uAt (u : List Nat) (i : Nat) : Nat := u.getD i 0
def begB (u p : List Nat) : Bool := decide (u.take p.length = p)
def words1 : List (List UInt8) := [[98, 114, 101, 97, 107], [99, 97, 116, 99, 104], [99, 111, 110, 115, 116], [99, 111, 110, 116, 105, 110, 117, 101], [101, 108, 115, 101], [102, 97, 108, 115, 101], [102, 105, 110, 97, 108, 108, 121], [102, 111, 114], [102, 117, 110, 99, 116, 105, 111, 110], [105, 102], [105, 110], [108, 101, 116], [110, 101, 119], [110, 117, 108, 108], [114, 101, 116, 117, 114, 110], [116, 104, 105, 115], [116, 104, 114, 111, 119], [116, 114, 117, 101], [116, 114, 121], [116, 121, 112, 101, 111, 102], [118, 111, 105, 100], [119, 104, 105, 108, 101]]
def words2 : List (List UInt8) := [[97, 114, 103, 117, 109, 101, 110, 116, 115], [97, 115, 121, 110, 99], [97, 119, 97, 105, 116], [99, 97, 115, 101], [99, 108, 97, 115, 115], [100, 101, 98, 117, 103, 103, 101, 114], [100, 101, 102, 97, 117, 108, 116], [100, 101, 108, 101, 116, 101], [100, 111], [101, 110, 117, 109], [101, 118, 97, 108], [101, 120, 112, 111, 114, 116], [101, 120, 116, 101, 110, 100, 115], [105, 109, 112, 108, 101, 109, 101, 110, 116, 115], [105, 109, 112, 111, 114, 116], [105, 110, 115, 116, 97, 110, 99, 101, 111, 102], [105, 110, 116, 101, 114, 102, 97, 99, 101], [112, 97, 99, 107, 97, 103, 101], [112, 114, 105, 118, 97, 116, 101], [112, 114, 111, 116, 101, 99, 116, 101, 100], [112, 117, 98, 108, 105, 99], [115, 116, 97, 116, 105, 99], [115, 117, 112, 101, 114], [115, 119, 105, 116, 99, 104], [118, 97, 114], [119, 105, 116, 104], [121, 105, 101, 108, 100]]
def signs1 : List (List UInt8) := [[123], [125], [40], [41], [91], [93], [59], [44], [46], [63], [58], [126], [60], [62], [60, 61], [62, 61], [61, 61], [33, 61], [61, 61, 61], [33, 61, 61], [43], [45], [42], [47], [37], [38], [124], [94], [33], [38, 38], [124, 124], [63, 63], [61], [43, 61], [45, 61], [42, 61], [47, 61], [37, 61], [38, 61], [124, 61], [94, 61], [60, 60, 61], [62, 62, 61], [62, 62, 62, 61], [43, 43], [45, 45], [60, 60], [62, 62], [62, 62, 62], [61, 62]]
def signs2 : List (List UInt8) := [[46, 46, 46], [63, 46], [42, 42], [42, 42, 61], [38, 38, 61], [124, 124, 61], [63, 63, 61]]
def wordN (s : List UInt8) : Nat := if words1.contains s then 1 else if words2.contains s then 2 else 0
def signN (s : List UInt8) : Nat := if signs1.contains s then 1 else if signs2.contains s then 2 else 0
/-- A token. -/
structure Tk where
  k : Int
  t : ByteArray
  s : List Nat
  nk : Int
  n : Int
  b : Int
  a : Nat
  nl : Bool
def tk0 : Tk := ⟨0, ByteArray.empty, [], 0, 0, 0, 0, false⟩
/-- What is read: a token, its size, an error. -/
structure Rt where
  t : Tk
  n : Nat
  e : Nat
def flt (e : Nat) : Rt := ⟨tk0, 0, e⟩
/-- What is skipped: its size, does a line end in it, an error. -/
structure Sk where
  n : Nat
  l : Bool
  e : Nat
def cmtM (u : List Nat) : Sk := if u.isEmpty then ⟨0, false, 5⟩ else if u.any isSep then ⟨0, false, 6⟩ else ⟨u.length, u.any isEnd, 0⟩
/-- The size of a comment up to its second mark, seen from unit i on. -/
def blkM (u : List Nat) (i : Nat) : Nat → Nat
  | 0 => 0
  | f + 1 => if i < u.length then (if begB (u.drop i) [42, 47] then i + 2 else blkM u (i + 1) f) else 0
def skpM (u : List Nat) : Sk :=
  if isBlk (uAt u 0) then ⟨1, false, 0⟩ else if isEnd (uAt u 0) then ⟨1, true, 0⟩
  else if begB u [47, 47] then cmtM (u.take (spanL inLin u))
  else if begB u [47, 42] then cmtM (u.take (blkM u 2 u.length)) else ⟨0, false, 0⟩
def wrdM (u : List Nat) : Rt :=
  if uAt u (spanL isPrt u) = 92 then flt 6
  else ⟨{ tk0 with k := if wordN (plS (u.take (spanL isPrt u))).data.toList = 0 then 1 else 6, t := plS (u.take (spanL isPrt u)) }, spanL isPrt u, 0⟩
def bigM (d : ByteArray) (c : Nat) : Rt :=
  if Bg.parE d.data.toList = 0 then (if isPrt c then flt 5 else ⟨{ tk0 with k := 3, b := Bg.parI d.data.toList }, d.size + 1, 0⟩) else flt 6
def numM (u : List Nat) : Rt :=
  if 1 < spanL isDig u ∧ uAt u 0 = 48 then flt 5
  else if uAt u (spanL isDig u) = 110 then bigM (plS (u.take (spanL isDig u))) (uAt u (spanL isDig u + 1))
  else if isFra (uAt u (spanL isDig u)) || (decide ((plS (u.take (spanL isDig u))).data.toList = [48]) && isRad (uAt u (spanL isDig u))) then flt 6
  else if isLet (uAt u (spanL isDig u)) then flt 5
  else if (parS (plS (u.take (spanL isDig u))).data.toList).ok then ⟨{ tk0 with k := 2, nk := (parS (plS (u.take (spanL isDig u))).data.toList).k, n := (parS (plS (u.take (spanL isDig u))).data.toList).n }, spanL isDig u, 0⟩
  else flt 6
/-- The unit of j hexadecimal digits from place i on; none if there is another unit. -/
def codM (u : List Nat) (v i : Nat) : Nat → Option Nat
  | 0 => some v
  | j + 1 => if hexB (uAt u i) then codM u ((v * 16 + hexV (uAt u i)) % 65536) (i + 1) j else none
/-- What an escape tells: a unit, a size, an error. -/
structure Es where
  v : Nat
  n : Nat
  e : Nat
def codE (u : List Nat) (d : Nat) : Es := match codM u 0 1 d with | some v => ⟨v, 1 + d, 0⟩ | none => ⟨0, 0, 5⟩
def escM (u : List Nat) : Es :=
  if u = [] then ⟨0, 0, 5⟩
  else if isEnd (uAt u 0) || isSep (uAt u 0) || begB u [117, 123] then ⟨0, 0, 6⟩
  else if uAt u 0 = 120 then codE u 2
  else if uAt u 0 = 117 then codE u 4
  else if uAt u 0 = 48 ∧ isDig (uAt u 1) = false then ⟨0, 1, 0⟩
  else if isDig (uAt u 0) then ⟨0, 0, 5⟩
  else ⟨ctlV (uAt u 0), 1, 0⟩
/-- A string from unit i on, behind what was read of it. -/
def quoM (u : List Nat) (i : Nat) (s : List Nat) : Nat → Rt
  | 0 => flt 5
  | f + 1 =>
    if i < u.length then
      if uAt u i = uAt u 0 then ⟨{ tk0 with k := 4, s := s }, i + 1, 0⟩
      else if isEnd (uAt u i) then flt 5
      else if uAt u i ≠ 92 then quoM u (i + 1) (s ++ [uAt u i]) f
      else if (escM (u.drop (i + 1))).e ≠ 0 then flt (escM (u.drop (i + 1))).e
      else quoM u (i + (1 + (escM (u.drop (i + 1))).n)) (s ++ [(escM (u.drop (i + 1))).v]) f
    else flt 5
/-- The longest sign of at most k units. -/
def punM (u : List Nat) : Nat → ByteArray
  | 0 => ByteArray.empty
  | k + 1 => if signN (plS (u.take (k + 1))).data.toList = 0 then punM u k
    else if (plS (u.take (k + 1))).data.toList = [63, 46] ∧ isDig (uAt u (k + 1)) = true then ⟨#[63]⟩ else plS (u.take (k + 1))
def sgnM (s : ByteArray) : Rt := if signN s.data.toList = 2 then flt 6 else ⟨{ tk0 with k := 5, t := s }, s.size, 0⟩
/-- The token at a unit that is not skipped. -/
def redM (u : List Nat) (z : Bool) : Rt :=
  if isLet (uAt u 0) then wrdM u
  else if isDig (uAt u 0) then numM u
  else if isQuo (uAt u 0) then quoM u 1 [] u.length
  else if uAt u 0 = 46 ∧ isDig (uAt u 1) = true then flt 6
  else if (punM u (min 4 u.length)).data.toList ≠ [] then sgnM (punM u (min 4 u.length))
  else if 128 ≤ uAt u 0 ∨ uAt u 0 = 96 ∨ uAt u 0 = 92 ∨ (z = true ∧ begB u [35, 33] = true) then flt 6
  else flt 5
end Go.Proofs.YtaigkjffglbknaaDoor
