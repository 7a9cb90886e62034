/- text.Print as a plain function on bytes (stage 9; a beginning). -/
import Derived.Test.YtlmliefkhidpnaaGreatDoorTxtM
import Derived.Test.YtlmliefkhidpnaaGreatDoorWdText
namespace Go.Proofs.YtlmliefkhidpnaaGreatDoor
open Go.ChangeShapes Go.WideShapes Go.ChangeAt Go.RowKit
set_option linter.unusedVariables false
def textL (n : Int) : Bts := bl (textV n)
/-- words with c between -/
def joinT (c : UInt8) : List Bts → Bts
  | [] => []
  | [w] => w
  | w :: v :: r => w ++ c :: joinT c (v :: r)
def protoW (p : Int) : Bts := if p = 1 then [102, 97, 105, 114] else if p = 2 then [97, 103, 101, 110, 116] else [116, 111, 107, 101, 110]
def partW (p : PartT) : Bts := if p.kind = 1 then tRun ++ 58 :: textL p.len else if p.kind = 2 then tSleep ++ 58 :: textL p.len else tLock ++ 58 :: textL p.res ++ 58 :: textL p.len
def numsW (h : Bts) (l : List Int) : Bts := joinT 32 (h :: l.map textL)
def taskW (t : TaskT) : Bts := joinT 32 (numsW ([116, 97, 115, 107, 32] ++ t.name) [t.per, t.dl, t.prio, t.cl] :: t.parts.map partW)
def printT (r : RdT) : Bts :=
  joinT 10 (([112, 114, 111, 116, 111, 99, 111, 108, 32] ++ protoW r.proto) :: numsW [99, 111, 114, 101, 115] r.cores :: ((if r.homes = [] then [] else [numsW [104, 111, 109, 101, 115] r.homes]) ++ r.tasks.map taskW)) ++ [10]
/-! the text that swingbridgelaw9.known prints -/
theorem known9_4 : printT ⟨1, [1], [0], [⟨[97], 10, 10, 1, 0, [⟨1, 3, 0⟩, ⟨3, 2, 0⟩]⟩], 3, 1, [4]⟩ = [112, 114, 111, 116, 111, 99, 111, 108, 32, 102, 97, 105, 114, 10, 99, 111, 114, 101, 115, 32, 49, 10, 104, 111, 109, 101, 115, 32, 48, 10, 116, 97, 115, 107, 32, 97, 32, 49, 48, 32, 49, 48, 32, 49, 32, 48, 32, 114, 117, 110, 58, 51, 32, 108, 111, 99, 107, 58, 48, 58, 50, 10] := by decide +kernel
end Go.Proofs.YtlmliefkhidpnaaGreatDoor
