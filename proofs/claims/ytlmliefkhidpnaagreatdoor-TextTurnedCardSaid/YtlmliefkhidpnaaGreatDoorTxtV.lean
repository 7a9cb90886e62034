/- Sets as data, without where their rows lie; what text.Parse tells, as a plain function. -/
import Derived.Test.YtlmliefkhidpnaaGreatDoorTxtM
import Derived.Test.YtlmliefkhidpnaaGreatDoorSame5
namespace Go.Proofs.YtlmliefkhidpnaaGreatDoor
open Go.ChangeShapes Go.WideShapes Go.ChangeAt Go.RowKit
set_option linter.unusedVariables false
def TaskR.bare (t : TaskR) : TaskR := ⟨t.name, t.per, t.dl, t.prio, t.cl, none, 0, t.parts⟩
def SetR.bare (s : SetR) : SetR := ⟨s.proto, none, 0, s.cores, none, 0, s.homes, none, 0, s.tasks.map TaskR.bare⟩
theorem bare_getD (ts : List TaskR) (k : Nat) : (ts.map TaskR.bare).getD k default = (ts.getD k default).bare := by
  by_cases h : k < ts.length
  · simp [List.getD, h]
  · simp [List.getD, h]; rfl
theorem taskE_bare (s : SetR) (k : Nat) : taskE s.bare k = taskE s k := by
  unfold taskE
  have h1 : s.bare.tasks = s.tasks.map TaskR.bare := rfl
  have h2 : takenB ((s.tasks.take k).map TaskR.bare) (s.tasks.getD k default).bare = takenB (s.tasks.take k) (s.tasks.getD k default) := by unfold takenB; rw [List.any_map]; rfl
  rw [h1, bare_getD, ← List.map_take, h2]
  rfl
theorem frameV_bare (s : SetR) : frameV s.bare = frameV s := by
  unfold frameV
  have h1 : s.bare.tasks.length = s.tasks.length := by simp [SetR.bare]
  rw [h1]
  rfl
theorem chk_bare (s : SetR) : chkAt s.bare = chkAt s ∧ chkE s.bare = chkE s := by
  have h1 : s.bare.tasks.length = s.tasks.length := by simp [SetR.bare]
  have h2 : badAt s.bare = badAt s := by
    unfold badAt
    rw [h1]
    congr 1
    exact List.map_congr_left (fun k _ => by rw [taskE_bare])
  unfold chkAt chkE
  rw [frameV_bare, h2, taskE_bare]
  exact ⟨rfl, rfl⟩
theorem chk_same {s t : SetR} (h : s.bare = t.bare) : chkAt s = chkAt t ∧ chkE s = chkE t := by
  have a := chk_bare s
  have b := chk_bare t
  rw [h] at a
  exact ⟨a.1.symm.trans b.1, a.2.symm.trans b.2⟩
theorem sameT_bare {t u : TaskR} (h : t.bare = u.bare) : sameT t u = true := by
  obtain ⟨n, a, b, c, d, p, q, ps⟩ := t
  obtain ⟨n2, a2, b2, c2, d2, p2, q2, ps2⟩ := u
  unfold TaskR.bare at h
  injection h with h1 h2 h3 h4 h5 h6 h7 h8
  dsimp only at *
  subst h1; subst h2; subst h3; subst h4; subst h5; subst h8
  simp [sameT]
theorem sameS_bare {s t : SetR} (h : s.bare = t.bare) : sameS s t = true := by
  obtain ⟨a, b, c, d, e, f, g, i, j, ts⟩ := s
  obtain ⟨a2, b2, c2, d2, e2, f2, g2, i2, j2, ts2⟩ := t
  unfold SetR.bare at h
  injection h with h1 _ _ h4 _ _ h7 _ _ h10
  dsimp only at *
  subst h1; subst h4; subst h7
  have hl : ts.length = ts2.length := by have := congrArg List.length h10; simpa using this
  have ht : sameTs ts ts2 = true := sameTs_true hl (fun k hk => by
    refine sameT_bare ?_
    have := congrArg (fun l => l.getD k default) h10
    rwa [bare_getD, bare_getD] at this)
  simp [sameS, ht]
def PartT.m (p : PartT) : PartM := ⟨p.kind, p.len, p.res⟩
def TaskT.bare (t : TaskT) : TaskR := ⟨mkB t.name, t.per, t.dl, t.prio, t.cl, none, 0, t.parts.map PartT.m⟩
def RdT.bare (r : RdT) : SetR := ⟨r.proto, none, 0, r.cores, none, 0, r.homes, none, 0, r.tasks.map TaskT.bare⟩
def noSet : SetR := ⟨0, none, 0, [], none, 0, [], none, 0, []⟩
/-- behind task.Check -/
def toldV (r : RdT) (n : Nat) : SetR × Int × Int :=
  if chkE r.bare = 0 then (r.bare, n, 0) else if chkE r.bare = 14 ∨ chkE r.bare = 11 then (noSet, n, chkE r.bare) else if chkAt r.bare < 0 then (noSet, r.coresAt, chkE r.bare) else (noSet, (r.tasksAt.getD (chkAt r.bare).toNat 0 : Nat), chkE r.bare)
def parseV (t : Bts) : SetR × Int × Int :=
  if 2000 < t.length then (noSet, 0, 11) else match readT t with | .error p => (noSet, p.1, p.2) | .ok r => toldV r (linesL t).length
end Go.Proofs.YtlmliefkhidpnaaGreatDoor
