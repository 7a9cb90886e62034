/- task.Same. -/
import Derived.Test.YtlmliefkhidpnaaGreatDoorSame4
namespace Go.Proofs.YtlmliefkhidpnaaGreatDoor
open Go.ChangeShapes Go.WideShapes Go.ChangeAt Go.RowKit
set_option linter.unusedVariables false
set_option linter.unusedSimpArgs false
def sameS (s t : SetR) : Bool := s.proto == t.proto && (decide (s.cores = t.cores) && (decide (s.homes = t.homes) && sameTs s.tasks t.tasks))

end Go.Proofs.YtlmliefkhidpnaaGreatDoor
