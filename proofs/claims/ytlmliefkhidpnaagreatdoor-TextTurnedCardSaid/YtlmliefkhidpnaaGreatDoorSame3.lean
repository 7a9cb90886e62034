/- task.SameTask. -/
import Derived.Test.YtlmliefkhidpnaaGreatDoorSame2
namespace Go.Proofs.YtlmliefkhidpnaaGreatDoor
open Go.ChangeShapes Go.WideShapes Go.ChangeAt Go.RowKit
set_option linter.unusedVariables false
set_option linter.unusedSimpArgs false
def sameT (t u : TaskR) : Bool := t.name.toList == u.name.toList && (t.per == u.per && (t.dl == u.dl && (t.prio == u.prio && (t.cl == u.cl && decide (t.parts = u.parts)))))

end Go.Proofs.YtlmliefkhidpnaaGreatDoor
