/-
  The plain mathematics of chapter 6: configurations, their table, what may be, their texts, and how one is read. No program stands in it.
-/
import Derived.Test.YtjjehjbejldgmaaDoorLinesPlain
import Derived.Lib.ItoaNum
namespace Go.Proofs.YtjjehjbejldgmaaDoor

/-- A configuration. -/
structure Cfg where
  f0 : Int
  f1 : Int
  f2 : Int
  f3 : Int
  f4 : Int
  f5 : Int
  f6 : Int
  f7 : Int
  f8 : Int
  f9 : Int
  f10 : Int
  f11 : Int
  f12 : Int
  f13 : Int
  f14 : Int
  one : Bool
  f16 : Int
  f17 : Int
  f18 : Int
  f19 : Int
  f20 : Int
  zone : ByteArray
  fb : Bool
deriving DecidableEq

def bitV (b : Bool) : Int := if b then 1 else 0
/-- Its fields as numbers, in the table's order. -/
def Cfg.nums (c : Cfg) : List Int := [c.f0, c.f1, c.f2, c.f3, c.f4, c.f5, c.f6, c.f7, c.f8, c.f9, c.f10, c.f11, c.f12, c.f13, c.f14, bitV c.one, c.f16, c.f17, c.f18, c.f19, c.f20, 0, bitV c.fb]
def ofNums (n : List Int) (z : ByteArray) : Cfg := { f0 := n.getD 0 0, f1 := n.getD 1 0, f2 := n.getD 2 0, f3 := n.getD 3 0, f4 := n.getD 4 0, f5 := n.getD 5 0, f6 := n.getD 6 0, f7 := n.getD 7 0, f8 := n.getD 8 0, f9 := n.getD 9 0, f10 := n.getD 10 0, f11 := n.getD 11 0, f12 := n.getD 12 0, f13 := n.getD 13 0, f14 := n.getD 14 0, one := n.getD 15 0 == 1, f16 := n.getD 16 0, f17 := n.getD 17 0, f18 := n.getD 18 0, f19 := n.getD 19 0, f20 := n.getD 20 0, zone := z, fb := n.getD 22 0 == 1 }

/-- The table: a name, the least, the greatest, by itself. -/
def tabC : List (List UInt8 × Int × Int × Int) := [
  ([105, 110, 116, 101, 114, 118, 97, 108], 10, 10000, 100),
  ([116, 105, 109, 101, 111, 117, 116], 1, 10000, 20),
  ([106, 105, 116, 116, 101, 114], 0, 1000, 0),
  ([114, 105, 115, 101], 1, 10, 2),
  ([102, 97, 108, 108], 1, 10, 3),
  ([112, 97, 110, 105, 99], 0, 100, 50),
  ([111, 118, 101, 114], 100, 1000, 140),
  ([101, 114, 114, 111, 114, 115], 0, 100, 5),
  ([115, 119, 101, 101, 112], 10, 10000, 1000),
  ([104, 111, 115, 116, 115], 1, 64, 5),
  ([114, 101, 113, 117, 101, 115, 116, 115], 1, 1000, 100),
  ([102, 97, 99, 116, 111, 114], 0, 10000, 1900),
  ([102, 97, 105, 108, 115], 0, 100, 0),
  ([98, 97, 115, 101], 1, 10000, 3000),
  ([101, 106, 101, 99, 116], 0, 100, 10),
  ([111, 110, 101], 0, 1, 1),
  ([115, 108, 111, 119], 0, 10000, 0),
  ([100, 114, 97, 105, 110], 1, 10000, 5000),
  ([104, 111, 115, 116, 108, 105, 109, 105, 116], 1, 1000, 1000),
  ([112, 111, 111, 108, 108, 105, 109, 105, 116], 1, 10000, 10000),
  ([112, 111, 108, 105, 99, 121], 1, 3, 1),
  ([122, 111, 110, 101], 0, 0, 0),
  ([102, 97, 108, 108, 98, 97, 99, 107], 0, 1, 0)]
def rowC (i : Nat) : List UInt8 × Int × Int × Int := tabC.getD i ([], 0, 0, 0)
def nameC (i : Nat) : ByteArray := mkS (rowC i).1
def lowC (i : Nat) : Int := (rowC i).2.1
def highC (i : Nat) : Int := (rowC i).2.2.1
def selfC (i : Nat) : Int := (rowC i).2.2.2
def defNums : List Int := tabC.map (·.2.2.2)
def defC : Cfg := ofNums defNums ByteArray.empty
theorem defC_nums : defC.nums = defNums := by decide

theorem nums_length (c : Cfg) : c.nums.length = 23 := rfl
theorem tabC_length : tabC.length = 23 := rfl

/-- May it be? -/
def fitsC (n : List Int) (i : Nat) : Bool := decide (lowC i ≤ n.getD i 0 ∧ n.getD i 0 ≤ highC i)
def mayC (c : Cfg) : Bool := (List.range 23).all (fitsC c.nums) && (decide (c.zone.size = 0) || nameOK c.zone)

/-- A number's digits. -/
def digC (n : Int) : ByteArray := mkS (Go.Lib.itoa n)
/-- The words of the table. -/
def polW : List ByteArray := [mkS [114, 111, 117, 110, 100], mkS [108, 101, 97, 115, 116], mkS [114, 105, 110, 103]]
def yesW : List ByteArray := [mkS [110, 111], mkS [121, 101, 115]]
/-- What stands behind a name. -/
def valW (n : List Int) (z : ByteArray) (i : Nat) : ByteArray :=
  if i = 21 then (if z.size = 0 then mkS [45] else z) else if i = 20 then polW.getD (n.getD 20 0 - 1).toNat ByteArray.empty
  else if i = 15 ∨ i = 22 then yesW.getD (n.getD i 0).toNat ByteArray.empty else digC (n.getD i 0)
def lineC (n : List Int) (z : ByteArray) (i : Nat) : List UInt8 := (nameC i).data.toList ++ 32 :: (valW n z i).data.toList
def textC (c : Cfg) : List UInt8 := if mayC c then (List.range 23).flatMap (fun i => lineC c.nums c.zone i ++ [10]) else []

/-- A word's place in a row, from 1 on; 0: none. -/
def placeW (s : ByteArray) (l : List ByteArray) : Nat := match l.findIdx? (· == s) with | some i => i + 1 | none => 0
/-- A name's place in the table. -/
def findC (s : ByteArray) : Option Nat := (List.range 23).find? fun i => nameC i == s
/-- What is read behind the name i: the number, and the zone. -/
def readC (i : Nat) (w : ByteArray) : Option (Int × ByteArray) :=
  if i = 21 then (if w = mkS [45] then some (0, ByteArray.empty) else if nameOK w then some (0, w) else none)
  else if i = 20 then (if placeW w polW = 0 then none else some ((placeW w polW : Int), ByteArray.empty))
  else if i = 15 ∨ i = 22 then (if placeW w yesW = 0 then none else some ((placeW w yesW : Int) - 1, ByteArray.empty))
  else (if numOK w && decide (lowC i ≤ numV w ∧ numV w ≤ highC i) then some (numV w, ByteArray.empty) else none)

/-- How far it is read: the numbers, the zone, which names stood. -/
structure Read where
  n : List Int
  z : ByteArray
  seen : List Bool
def read0 : Read := ⟨defNums, ByteArray.empty, List.replicate 30 false⟩
def stepC (r : Read) (ws : List ByteArray) : Option Read := match ws with
  | [a, b] => match findC a with
    | none => none
    | some i => if r.seen.getD i false then none else match readC i b with
      | none => none
      | some (k, z) => some ⟨r.n.set i k, if i = 21 then z else r.z, r.seen.set i true⟩
  | _ => none
/-- The lines, one by one: what is read, or the number of the first wrong one. -/
def runC (r : Read) : List (Int × List ByteArray) → Read ⊕ Int
  | [] => .inl r
  | l :: L => match stepC r l.2 with
    | none => .inr l.1
    | some r' => runC r' L
def zeroC : Cfg := ofNums [] ByteArray.empty
def parseV (s : ByteArray) : Cfg × Int × Int :=
  if (splitV s).2.2 = 0 then match runC read0 (splitV s).1 with
    | .inl r => (ofNums r.n r.z, 0, 0)
    | .inr no => (zeroC, no, 2)
  else (zeroC, (splitV s).2.1, (splitV s).2.2)

end Go.Proofs.YtjjehjbejldgmaaDoor
