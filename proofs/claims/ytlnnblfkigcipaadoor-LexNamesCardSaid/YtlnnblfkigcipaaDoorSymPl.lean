/- Which symbols are right, plainly. Conditions: none. -/
import Derived.Test.YtlnnblfkigcipaaDoorPlain
namespace Go.Proofs.YtlnnblfkigcipaaDoor

/-- May a letter begin an identifier, a word; stand within one? -/
def capI (c : Int) : Bool := decide (65 ≤ c) && decide (c ≤ 90)
def smallI (c : Int) : Bool := decide (97 ≤ c) && decide (c ≤ 122)
def innerI (c : Int) : Bool := smallI c || (decide (48 ≤ c) && decide (c ≤ 57)) || c == 45 || c == 95

/-- A text's first byte. -/
def hd (t : ByteArray) : Int := if h : 0 < t.size then (t[0].toNat : Int) else 0

/-- Are all bytes from the k-th one on such as may stand within a word? -/
def innerAll (t : ByteArray) : Bool := t.data.toList.all fun c => innerI (c.toNat : Int)

/-- Is it a word? -/
def wordB (t : ByteArray) : Bool := decide (0 < t.size) && decide (t.size ≤ 32) && smallI (hd t) && innerAll t

/-- Is it an identifier, a number, a word? -/
def validB (s : SymV) : Bool :=
  if s.k = 1 then decide (s.t.size = 1) && capI (hd s.t) && decide (1 ≤ s.n) && decide (s.n ≤ 1048576)
  else if s.k = 2 then decide (s.t.size = 0) && decide (-2147483647 ≤ s.n) && decide (s.n ≤ 2147483647)
  else if s.k = 3 then decide (s.n = 0) && wordB s.t
  else false

end Go.Proofs.YtlnnblfkigcipaaDoor
