/-
  TOKENS AS A QUERY: no program in it.
  THE PARSER'S STATE, as the document's own code turns it: no program in it.
  THE PARSER'S STATES ARE THE PARSER OF THE MATHEMATICS: no program in it.
  A QUERY'S TOKENS, by the parser's states and by the mathematics: no program in it.
  A QUERY'S TOKENS: the whole, by the parser's states and by the mathematics.
-/
import Derived.Test.YtkckgjanfiiieaaGreatDoorLxA
import Derived.Test.YtkckgjanfiiieaaGreatDoorQyA
namespace Go.Proofs.YtkckgjanfiiieaaGreatDoor.PX
open Go LX

/-- What is read, and which token is next; or what is wrong, and where. -/
abbrev PR (α : Type) := Except (Nat × Nat) (α × Nat)

/-- Token i. -/
def tk (ts : List Tok) (i : Nat) : Tok := ts.getD i ⟨0, [], 0, 0⟩
/-- Is it a word, or a sign, of these letters? -/
def isT (t : Tok) (s : List UInt8) : Bool := (decide (t.kind = 2) || decide (t.kind = 5)) && decide (t.says = s)

def want (ts : List Tok) (s : List UInt8) (i : Nat) : PR Unit := if isT (tk ts i) s = true then .ok ((), i + 1) else .error (5, (tk ts i).place)
def token (ts : List Tok) (k : Nat) (i : Nat) : PR Tok := if (tk ts i).kind = k then .ok (tk ts i, i + 1) else .error (5, (tk ts i).place)
def number (ts : List Tok) (lo hi : Int) (i : Nat) : PR Int :=
  match token ts 3 i with
  | .error e => .error e
  | .ok (t, j) => if t.n < lo ∨ hi < t.n then .error (6, (tk ts i).place) else .ok (t.n, j)

def wNot : List UInt8 := [110, 111, 116]
def wOpen : List UInt8 := [40]
def wShut : List UInt8 := [41]
def wTrue : List UInt8 := [116, 114, 117, 101]
def wFalse : List UInt8 := [102, 97, 108, 115, 101]
def wWord : List UInt8 := [119, 111, 114, 100]
def wHas : List UInt8 := [104, 97, 115]
def wField : List UInt8 := [102, 105, 101, 108, 100]
def wEq : List UInt8 := [61]
def wNe : List UInt8 := [33, 61]
def wAnd : List UInt8 := [97, 110, 100]
def wOr : List UInt8 := [111, 114]
def wFrom : List UInt8 := [102, 114, 111, 109]
def wTo : List UInt8 := [116, 111]
def wWhere : List UInt8 := [119, 104, 101, 114, 101]
def wFind : List UInt8 := [102, 105, 110, 100]
def wDesc : List UInt8 := [100, 101, 115, 99]
def wLimit : List UInt8 := [108, 105, 109, 105, 116]
def wPage : List UInt8 := [112, 97, 103, 101]

def bs (l : List UInt8) : ByteArray := ⟨l.toArray⟩

/-- The rest of a row: as long as w is next. -/
def rest (ts : List Tok) (w : List UInt8) (one : Nat → PR Ft) : Nat → Nat → PR (List Ft)
  | 0, i => .ok ([], i)
  | f + 1, i => if isT (tk ts i) w = true then
      match one (i + 1) with
      | .error e => .error e
      | .ok (x, j) => match rest ts w one f j with
        | .error e => .error e
        | .ok (l, k) => .ok (x :: l, k)
    else .ok ([], i)

/-- A row: one is itself, more are of a kind. -/
def join (op : Int) : List Ft → Ft
  | [x] => x
  | l => .mk op ⟨#[]⟩ ⟨#[]⟩ l

def row (ts : List Tok) (w : List UInt8) (op : Int) (one : Nat → PR Ft) (i : Nat) : PR Ft :=
  match one i with
  | .error e => .error e
  | .ok (x, j) => match rest ts w one ts.length j with
    | .error e => .error e
    | .ok (l, k) => .ok (join op (x :: l), k)

def andF (ts : List Tok) (atom : Nat → PR Ft) : Nat → PR Ft := row ts wAnd 7 atom
def orF (ts : List Tok) (atom : Nat → PR Ft) : Nat → PR Ft := row ts wOr 8 (andF ts atom)

/-- One that nothing stands within. -/
def leaf (ts : List Tok) (i : Nat) : PR Ft :=
  if isT (tk ts i) wTrue = true then .ok (.mk 1 ⟨#[]⟩ ⟨#[]⟩ [], i + 1)
  else if isT (tk ts i) wFalse = true then .ok (.mk 2 ⟨#[]⟩ ⟨#[]⟩ [], i + 1)
  else if isT (tk ts i) wWord = true then match token ts 4 (i + 1) with
    | .error e => .error e
    | .ok (t, j) => .ok (.mk 3 ⟨#[]⟩ (bs t.says) [], j)
  else if isT (tk ts i) wHas = true then match token ts 4 (i + 1) with
    | .error e => .error e
    | .ok (t, j) => .ok (.mk 4 ⟨#[]⟩ (bs t.says) [], j)
  else match want ts wField i with
    | .error e => .error e
    | .ok (_, j) => match token ts 1 j with
      | .error e => .error e
      | .ok (n, k) => match want ts wEq k with
        | .error e => .error e
        | .ok (_, m) => match token ts 4 m with
          | .error e => .error e
          | .ok (t, q) => .ok (.mk 5 (bs n.says) (bs t.says) [], q)

/-- A filter of one, with so many nots and brackets that may stand within one another. -/
def atom (ts : List Tok) : Nat → Nat → PR Ft
  | d, i =>
    if isT (tk ts i) wNot = true then
      match d with
      | 0 => .error (6, (tk ts i).place)
      | d + 1 => match atom ts d (i + 1) with
        | .error e => .error e
        | .ok (x, j) => .ok (.mk 6 ⟨#[]⟩ ⟨#[]⟩ [x], j)
    else if isT (tk ts i) wOpen = true then
      match d with
      | 0 => .error (6, (tk ts i).place)
      | d + 1 => match orF ts (atom ts d) (i + 1) with
        | .error e => .error e
        | .ok (x, j) => match want ts wShut j with
          | .error e => .error e
          | .ok (_, k) => .ok (x, k)
    else leaf ts i

/-- The matchers behind the first n. -/
def wheres (ts : List Tok) : Nat → Nat → Nat → PR (List Mt)
  | 0, _, i => .ok ([], i)
  | f + 1, n, i => if isT (tk ts i) wWhere = true then
      if 4 ≤ n then .error (6, (tk ts i).place)
      else match token ts 1 (i + 1) with
      | .error e => .error e
      | .ok (a, j) =>
        match (if isT (tk ts j) wNe = true then (.ok (true, j + 1) : PR Bool) else match want ts wEq j with
          | .error e => .error e
          | .ok (_, k) => .ok (false, k)) with
        | .error e => .error e
        | .ok (b, k) => match token ts 4 k with
          | .error e => .error e
          | .ok (t, q) => match wheres ts f (n + 1) q with
            | .error e => .error e
            | .ok (l, r) => .ok (⟨bs a.says, b, bs t.says⟩ :: l, r)
    else .ok ([], i)

/-- A query's tokens. -/
def query (ts : List Tok) : Except (Nat × Nat) Qy :=
  match want ts wFrom 0 with
  | .error e => .error e
  | .ok (_, i1) => match number ts (-1099511627776) 1099511627776 i1 with
  | .error e => .error e
  | .ok (f, i2) => match want ts wTo i2 with
  | .error e => .error e
  | .ok (_, i3) => match number ts (-1099511627776) 1099511627776 i3 with
  | .error e => .error e
  | .ok (t, i4) => if t < f then .error (7, (tk ts i2).place) else
  match wheres ts ts.length 0 i4 with
  | .error e => .error e
  | .ok (ms, i5) =>
  match (if isT (tk ts i5) wFind = true then orF ts (atom ts 8) (i5 + 1) else .ok (.mk 1 ⟨#[]⟩ ⟨#[]⟩ [], i5)) with
  | .error e => .error e
  | .ok (x, i6) =>
  match (if isT (tk ts i6) wDesc = true then (true, i6 + 1) else (false, i6)) with
  | (d, i7) => match want ts wLimit i7 with
  | .error e => .error e
  | .ok (_, i8) => match number ts 1 50 i8 with
  | .error e => .error e
  | .ok (n, i9) =>
  match (if isT (tk ts i9) wPage = true then (match token ts 4 (i9 + 1) with
    | .error e => (.error e : PR ByteArray)
    | .ok (p, j) => .ok (bs p.says, j)) else .ok (⟨#[]⟩, i9)) with
  | .error e => .error e
  | .ok (p, i10) => if (tk ts i10).kind = 0 then .ok ⟨f, t, ms, x, d, n, p⟩ else .error (5, (tk ts i10).place)

/-- It ends with a token that nothing takes. -/
def Ended (ts : List Tok) : Prop := ∃ r t, ts = r ++ [t] ∧ t.kind = 0

theorem Ended.next {ts : List Tok} (h : Ended ts) {i : Nat} (hi : i < ts.length) (hk : (tk ts i).kind ≠ 0) : i + 1 < ts.length := by
  obtain ⟨r, t, rfl, ht⟩ := h
  simp only [List.length_append, List.length_singleton] at hi ⊢
  by_cases he : i = r.length
  · subst he
    exact absurd (by simp [tk, List.getD, ht]) hk
  · omega

theorem tk_get {ts : List Tok} {i : Nat} (hi : i < ts.length) : tk ts i = ts[i] := by
  unfold tk
  simp [List.getD, hi]

end Go.Proofs.YtkckgjanfiiieaaGreatDoor.PX

namespace Go.Proofs.YtkckgjanfiiieaaGreatDoor.SX
open Go LX
open PX (tk isT bs PR)

/-- Which token is next, what is wrong, and where. -/
structure S where
  i : Nat
  err : Nat
  pl : Nat

variable (ts : List Tok)

def wrong (s : S) (e j : Nat) : S := if s.err = 0 then ⟨s.i, e, (tk ts j).place⟩ else s
def takes (s : S) (w : List UInt8) : Bool := decide (s.err = 0) && isT (tk ts s.i) w
def next (s : S) (y : Bool) : S := if y = true then ⟨s.i + 1, s.err, s.pl⟩ else s
def take (s : S) (w : List UInt8) : S := next s (takes ts s w)
def want (s : S) (w : List UInt8) : S := if takes ts s w = true then next s true else wrong ts s 5 s.i
def tokB (s : S) (k : Nat) : Bool := decide (s.err = 0) && decide ((tk ts s.i).kind = k)
def zeroT : Tok := ⟨0, [], 0, 0⟩
def tokV (s : S) (k : Nat) : Tok := if tokB ts s k = true then tk ts s.i else zeroT
def token (s : S) (k : Nat) : S := if tokB ts s k = true then next s true else wrong ts s 5 s.i
def numB (s : S) (t : Tok) (lo hi : Int) : Bool := decide (s.err = 0) && (decide (t.n < lo) || decide (hi < t.n))
def number (s : S) (lo hi : Int) : S := if numB (token ts s 3) (tokV ts s 3) lo hi = true then wrong ts (token ts s 3) 6 s.i else token ts s 3
/-- The rest of a row. -/
def rest (w : List UInt8) (one : S → Ft × S) : Nat → S → List Ft × S
  | 0, s => ([], s)
  | f + 1, s => if takes ts s w = true then ((one (next s true)).1 :: (rest w one f (one (next s true)).2).1, (rest w one f (one (next s true)).2).2) else ([], s)
/-- A row. -/
def row (w : List UInt8) (op : Int) (one : S → Ft × S) (s : S) : Ft × S :=
  (PX.join op ((one s).1 :: (rest ts w one ts.length (one s).2).1), (rest ts w one ts.length (one s).2).2)

/-- One that nothing stands within. -/
def field (s : S) : Ft × S :=
  (.mk 5 (bs (tokV ts (want ts s PX.wField) 1).says) (bs (tokV ts (want ts (token ts (want ts s PX.wField) 1) PX.wEq) 4).says) [],
    token ts (want ts (token ts (want ts s PX.wField) 1) PX.wEq) 4)
def leaf (s : S) : Ft × S :=
  if takes ts s PX.wTrue = true then (.mk 1 ⟨#[]⟩ ⟨#[]⟩ [], next s true)
  else if takes ts s PX.wFalse = true then (.mk 2 ⟨#[]⟩ ⟨#[]⟩ [], next s true)
  else if takes ts s PX.wWord = true then (.mk 3 ⟨#[]⟩ (bs (tokV ts (next s true) 4).says) [], token ts (next s true) 4)
  else if takes ts s PX.wHas = true then (.mk 4 ⟨#[]⟩ (bs (tokV ts (next s true) 4).says) [], token ts (next s true) 4)
  else field ts s
/-- A filter of one, with so many nots and brackets that may stand within one another. -/
def atom : Nat → S → Ft × S
  | d, s =>
    if takes ts s PX.wNot = true then
      match d with
      | 0 => (.mk 6 ⟨#[]⟩ ⟨#[]⟩ [], wrong ts (next s true) 6 s.i)
      | d + 1 => (.mk 6 ⟨#[]⟩ ⟨#[]⟩ [(atom d (next s true)).1], (atom d (next s true)).2)
    else if takes ts s PX.wOpen = true then
      match d with
      | 0 => (.mk 0 ⟨#[]⟩ ⟨#[]⟩ [], want ts (wrong ts (next s true) 6 s.i) PX.wShut)
      | d + 1 => ((row ts PX.wOr 8 (row ts PX.wAnd 7 (atom d)) (next s true)).1, want ts (row ts PX.wOr 8 (row ts PX.wAnd 7 (atom d)) (next s true)).2 PX.wShut)
    else leaf ts s

end Go.Proofs.YtkckgjanfiiieaaGreatDoor.SX

namespace Go.Proofs.YtkckgjanfiiieaaGreatDoor.SX
open Go LX
open PX (tk isT bs PR)

variable (ts : List Tok)

end Go.Proofs.YtkckgjanfiiieaaGreatDoor.SX

namespace Go.Proofs.YtkckgjanfiiieaaGreatDoor.SX
open Go LX
open PX (tk isT bs PR)

variable (ts : List Tok)

def full (n : Nat) (s : S) : S := if n = 4 then wrong ts (next s true) 6 s.i else next s true
def eqS (s : S) : S := if takes ts s PX.wNe = true then next s true else want ts s PX.wEq
/-- One matcher: n are there. -/
def where1 (n : Nat) (s : S) : Mt × S :=
  (⟨bs (tokV ts (full ts n s) 1).says, takes ts (token ts (full ts n s) 1) PX.wNe, bs (tokV ts (eqS ts (token ts (full ts n s) 1)) 4).says⟩,
    token ts (eqS ts (token ts (full ts n s) 1)) 4)
/-- The matchers behind the first n. -/
def wheres : Nat → Nat → S → List Mt × S
  | 0, _, s => ([], s)
  | f + 1, n, s => if takes ts s PX.wWhere = true then ((where1 ts n s).1 :: (wheres f (n + 1) (where1 ts n s).2).1, (wheres f (n + 1) (where1 ts n s).2).2) else ([], s)

def lateB (s : S) (t f : Int) : Bool := decide (s.err = 0) && decide (t < f)
def late (s : S) (t f : Int) (j : Nat) : S := if lateB s t f = true then wrong ts s 7 j else s
def orS (s : S) : Ft × S := row ts PX.wOr 8 (row ts PX.wAnd 7 (atom ts 8)) s
def find (s : S) : Ft × S := if takes ts s PX.wFind = true then orS ts (next s true) else (.mk 1 ⟨#[]⟩ ⟨#[]⟩ [], s)
def page (s : S) : ByteArray × S := if takes ts s PX.wPage = true then (bs (tokV ts (next s true) 4).says, token ts (next s true) 4) else (⟨#[]⟩, s)
def stop (s : S) : S := if (decide (s.err = 0) && !decide ((tk ts s.i).kind = 0)) = true then wrong ts s 5 s.i else s

def sFrom : S := want ts ⟨0, 0, 0⟩ PX.wFrom
def vFrom : Int := (tokV ts (sFrom ts) 3).n
def sF : S := number ts (sFrom ts) (-1099511627776) 1099511627776
def sTo : S := want ts (sF ts) PX.wTo
def vTo : Int := (tokV ts (sTo ts) 3).n
def sT : S := number ts (sTo ts) (-1099511627776) 1099511627776
def sL : S := late ts (sT ts) (vTo ts) (vFrom ts) (sF ts).i
def sM : List Mt × S := wheres ts ts.length 0 (sL ts)
def sX : Ft × S := find ts (sM ts).2
def sD : S := take ts (sX ts).2 PX.wDesc
def sLim : S := want ts (sD ts) PX.wLimit
def sN : S := number ts (sLim ts) 1 50
def sP : ByteArray × S := page ts (sN ts)
/-- A query's tokens, by states. -/
def query : Qy × S :=
  (⟨vFrom ts, vTo ts, (sM ts).1, (sX ts).1, takes ts (sX ts).2 PX.wDesc, (tokV ts (sLim ts) 3).n, (sP ts).1⟩, stop ts (sP ts).2)

end Go.Proofs.YtkckgjanfiiieaaGreatDoor.SX

namespace Go.Proofs.YtkckgjanfiiieaaGreatDoor.SX
open Go LX
open PX (tk isT bs PR)

variable (ts : List Tok)

end Go.Proofs.YtkckgjanfiiieaaGreatDoor.SX
