/- text.Parse as a plain function on bytes, up to what task.Check says (stage 9; a beginning). -/
import Derived.Test.YtlmliefkhidpnaaGreatDoorWdLines
import Derived.Test.YtlmliefkhidpnaaGreatDoorWdNum
namespace Go.Proofs.YtlmliefkhidpnaaGreatDoor
open Go.ChangeShapes Go.WideShapes Go.ChangeAt Go.RowKit
set_option linter.unusedVariables false
structure PartT where
  kind : Int
  len : Int
  res : Int
deriving DecidableEq
structure TaskT where
  name : Bts
  per : Int
  dl : Int
  prio : Int
  cl : Int
  parts : List PartT
deriving DecidableEq
/-- the reader: what has been read, which line may come next, which line that of the cores and of each task is -/
structure RdT where
  proto : Int
  cores : List Int
  homes : List Int
  tasks : List TaskT
  want : Nat
  coresAt : Nat
  tasksAt : List Nat
deriving DecidableEq
def numT (w : Bts) : Option Int := if numOK (mkB w) = true then some (numV (mkB w)) else none
/-- the numbers that the words are, if all are some -/
def numsT : List Bts → Option (List Int)
  | [] => some []
  | w :: r => match numT w, numsT r with
    | some n, some l => some (n :: l)
    | _, _ => none
def tLock : Bts := [108, 111, 99, 107]
def tRun : Bts := [114, 117, 110]
def tSleep : Bts := [115, 108, 101, 101, 112]
/-- ahead of the first c, behind it -/
def cutT (c : UInt8) (cur : Bts) : Bts → Bts × Bts
  | [] => (cur, [])
  | x :: r => if x = c then (cur, r) else cutT c (cur ++ [x]) r
def partT (w : Bts) : Option PartT :=
  match (cutT 58 [] w).1, numsT (sp 58 [] (cutT 58 [] w).2) with
  | k, some [n] => if k = tRun then some ⟨1, n, 0⟩ else if k = tSleep then some ⟨2, n, 0⟩ else none
  | k, some [r, n] => if k = tLock then some ⟨3, n, r⟩ else none
  | _, _ => none
def partsT : List Bts → Option (List PartT)
  | [] => some []
  | w :: r => match partT w, partsT r with
    | some p, some l => some (p :: l)
    | _, _ => none
def hasT (p : Bts) : Bts → Bool
  | [] => p.isEmpty
  | x :: r => p.isPrefixOf (x :: r) || hasT p r
/-- a lock that has a lock behind -/
def nestT (w : Bts) : Bool := (tLock ++ [58]).isPrefixOf w && hasT (tLock ++ [58]) (w.drop 5)
/-- what stands behind the first word of a task's line; 18: a lock within a lock, 10: ill-formed -/
def taskT (l : List Bts) : Except Int TaskT :=
  if l.any nestT = true then .error 18 else
  match l with
  | nm :: a :: b :: c :: d :: ps => match numsT [a, b, c, d], partsT ps with
    | some [p, dl, q, cl], some parts => .ok ⟨nm, p, dl, q, cl, parts⟩
    | _, _ => .error 10
  | _ => .error 10
def protoT : List Bts → Option Int
  | [w] => if w = [102, 97, 105, 114] then some 1 else if w = [97, 103, 101, 110, 116] then some 2 else if w = [116, 111, 107, 101, 110] then some 3 else none
  | _ => none
def someT (l : List Bts) : Option (List Int) := match numsT l with | some (n :: r) => some (n :: r) | _ => none
def lineT (r : RdT) (at_ : Nat) (l : List Bts) : Except Int RdT :=
  match l with
  | [] => .ok r
  | h :: rest =>
    if h = [112, 114, 111, 116, 111, 99, 111, 108] ∧ r.want = 0 then (match protoT rest with | some p => .ok { r with want := 1, proto := p } | none => .error 10)
    else if h = [99, 111, 114, 101, 115] ∧ r.want = 1 then (match someT rest with | some c => .ok { r with want := 2, coresAt := at_, cores := c } | none => .error 10)
    else if h = [104, 111, 109, 101, 115] ∧ r.want = 2 then (match someT rest with | some c => .ok { r with want := 3, homes := c } | none => .error 10)
    else if h = [116, 97, 115, 107] ∧ 2 ≤ r.want then (match taskT rest with | .ok t => .ok { r with want := 3, tasksAt := r.tasksAt ++ [at_], tasks := r.tasks ++ [t] } | .error e => .error e)
    else .error 10
/-- the lines from the at-th on: what was read, or the line that is wrong, and how -/
def linesT (r : RdT) (at_ : Nat) : List Bts → Except (Nat × Int) RdT
  | [] => if r.want < 2 then .error (at_, 10) else .ok r
  | s :: t => match lineT r at_ (wordsL s) with
    | .ok r' => linesT r' (at_ + 1) t
    | .error e => .error (at_, e)
def readT (s : Bts) : Except (Nat × Int) RdT := linesT ⟨0, [], [], [], 0, 0, []⟩ 0 (linesL s)
/-! the three texts that swingbridgelaw9.known parses -/
def isErr (x : Except (Nat × Int) RdT) (n : Nat) (e : Int) : Bool := match x with | .error p => decide (p = (n, e)) | .ok _ => false
def isSet (x : Except (Nat × Int) RdT) (r : RdT) : Bool := match x with | .error _ => false | .ok q => decide (q = r)
theorem known9_1 : isSet (readT [112, 114, 111, 116, 111, 99, 111, 108, 32, 102, 97, 105, 114, 10, 99, 111, 114, 101, 115, 32, 49, 10, 104, 111, 109, 101, 115, 32, 48, 10, 10, 116, 97, 115, 107, 32, 97, 32, 49, 48, 32, 49, 48, 32, 49, 32, 48, 32, 114, 117, 110, 58, 51, 32, 108, 111, 99, 107, 58, 48, 58, 50, 32, 35, 32, 115, 111, 10]) ⟨1, [1], [0], [⟨[97], 10, 10, 1, 0, [⟨1, 3, 0⟩, ⟨3, 2, 0⟩]⟩], 3, 1, [4]⟩ = true := by decide +kernel
theorem known9_2 : isErr (readT [112, 114, 111, 116, 111, 99, 111, 108, 32, 102, 97, 105, 114, 10, 99, 111, 114, 101, 115, 32, 49, 10, 104, 111, 109, 101, 115, 32, 48, 10, 116, 97, 115, 107, 32, 97, 32, 49, 48, 32, 49, 48, 32, 49, 32, 48, 32, 108, 111, 99, 107, 58, 48, 58, 108, 111, 99, 107, 58, 48, 58, 50, 10]) 3 18 = true := by decide +kernel
theorem known9_3 : isErr (readT [99, 111, 114, 101, 115, 32, 49, 10]) 0 10 = true := by decide +kernel
/-! of TextSpoilt's texts those that are ill-formed -/
theorem spoilt_form : ([([], 0), ([112, 114, 111, 116, 111, 99, 111, 108, 10], 0), ([112, 114, 111, 116, 111, 99, 111, 108, 32, 102, 105, 102, 111, 10], 0), ([112, 114, 111, 116, 111, 99, 111, 108, 32, 97, 103, 101, 110, 116, 10], 1), ([112, 114, 111, 116, 111, 99, 111, 108, 32, 97, 103, 101, 110, 116, 10, 99, 111, 114, 101, 115, 10], 1), ([112, 114, 111, 116, 111, 99, 111, 108, 32, 97, 103, 101, 110, 116, 10, 99, 111, 114, 101, 115, 32, 49, 32, 50, 10, 104, 111, 109, 101, 115, 10], 2), ([112, 114, 111, 116, 111, 99, 111, 108, 32, 97, 103, 101, 110, 116, 10, 99, 111, 114, 101, 115, 32, 49, 32, 50, 10, 116, 97, 115, 107, 32, 97, 32, 49, 48, 32, 49, 48, 32, 49, 32, 48, 32, 114, 117, 110, 58, 48, 51, 10], 2), ([112, 114, 111, 116, 111, 99, 111, 108, 32, 97, 103, 101, 110, 116, 10, 99, 111, 114, 101, 115, 32, 49, 32, 50, 10, 116, 97, 115, 107, 32, 97, 32, 49, 48, 32, 49, 48, 32, 49, 32, 48, 32, 119, 97, 108, 107, 58, 51, 10], 2), ([112, 114, 111, 116, 111, 99, 111, 108, 32, 97, 103, 101, 110, 116, 10, 99, 111, 114, 101, 115, 32, 49, 32, 50, 10, 116, 97, 115, 107, 32, 97, 32, 49, 48, 32, 49, 48, 32, 49, 32, 48, 32, 114, 117, 110, 58, 51, 10, 104, 111, 109, 101, 115, 32, 48, 10], 3)] : List (Bts × Nat)).all (fun x => isErr (readT x.1) x.2 10) = true := by decide +kernel
end Go.Proofs.YtlmliefkhidpnaaGreatDoor
