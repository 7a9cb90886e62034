/- Rows of numbers made by a literal. -/
import Derived.Test.YtjjlpaampmpdfaaGreatDoorOwnT
namespace Go.Proofs.YtjjlpaampmpdfaaGreatDoor
open Go.ChangeShapes Go.WideShapes Go.ChangeAt Go.RowKit
set_option linter.unusedVariables false
theorem lit_ints {w : World} {g : Nat} {o : Obj} {zs : List Int} {t : TypeId} (h : w.heap.size = g) (ho : o = .cells (zs.map (Value.int .i64)).toArray t) (hz : ∀ n ∈ zs, I64 n) (hl : zs.length ≤ maxLen) : IntsOk (w.alloc o) (some ⟨g, 0, none⟩) zs.length zs :=
  ⟨⟨(fun e => by cases e), Nat.le_refl _, hl⟩, ints_lit (Bk.at_ h ho), hz⟩
theorem nil_ints (w : World) : IntsOk w none 0 [] := ⟨⟨fun _ => ⟨rfl, rfl⟩, Nat.le_refl _, by decide⟩, .inl rfl, by simp⟩
theorem IsRow.ints {w : World} {a : Option Addr} {len cap : Nat} {zs : List Int} (h : IsRow .i64 w a len cap zs) : IntsOk w a cap (zs.take len) ∧ (zs.take len).length = len := by
  obtain ⟨h1, h2, h3, h4⟩ := h.row
  refine ⟨⟨?_, h1, fun n hn => i64_of (h4 n hn)⟩, h2⟩
  rw [h2]
  rcases h with ⟨rfl, rfl, rfl, rfl⟩ | ⟨x, rfl, hl, hm, hz, hc, hw⟩
  · exact ⟨fun _ => ⟨rfl, rfl⟩, Nat.le_refl _, Nat.zero_le _⟩
  · exact ⟨(fun e => by cases e), hl, hm⟩
theorem box_ok {w : World} {s : SetR} (hs : SetOk w s) (t : TypeId) : SetOk (w.alloc (.cells #[.int .i64 s.proto, .slice s.ca s.cores.length s.cc, .slice s.ha s.homes.length s.hc, .slice s.ta s.tasks.length s.tc] t)) s := hs.keep (Keeps.alloc _ _)
theorem tasks_lit {w : World} {g : Nat} {e : TypeId} {ts : List TaskR} (h : Bk w g e (ttc ts).toArray) : TasksAt w (some ⟨g, 0, none⟩) ts :=
  tasks_lie (B := g + 1) (.inr ⟨g, 0, rfl, by omega, fun j v hj => by rw [Nat.zero_add, h.cell j]; simpa using hj⟩)
theorem task_bk {W : World} {gp : Nat} {tp : TypeId} {nm : ByteArray} {per dl prio cl : Int} {ps : List PartM} (hp : Bk W gp tp (ptc ps).toArray) (h1 : nm.size ≤ maxLen) (h2 : I64 per) (h3 : I64 dl) (h4 : I64 prio) (h5 : I64 cl) (h6 : ps.length ≤ maxLen) (h7 : ∀ p ∈ ps, p.wf) : TaskOk W ⟨nm, per, dl, prio, cl, some ⟨gp, 0, none⟩, ps.length, ps⟩ :=
  ⟨h1, h2, h3, h4, h5, ⟨(fun e => by cases e), Nat.le_refl _, h6⟩, parts_lit hp, h7⟩
theorem set_bks {W : World} {proto : Int} {gc gh gt : Nat} {tc th tt : TypeId} {zs hs : List Int} {ts : List TaskR} (hc : Bk W gc tc (zs.map (Value.int .i64)).toArray) (hh : Bk W gh th (hs.map (Value.int .i64)).toArray) (ht : Bk W gt tt (ttc ts).toArray) (hp : ∀ t ∈ ts, TaskOk W t)
    (i0 : I64 proto) (iz : ∀ n ∈ zs, I64 n) (ih : ∀ n ∈ hs, I64 n) (lz : zs.length ≤ maxLen) (lh : hs.length ≤ maxLen) (lt : ts.length ≤ maxLen) :
    SetOk W ⟨proto, some ⟨gc, 0, none⟩, zs.length, zs, some ⟨gh, 0, none⟩, hs.length, hs, some ⟨gt, 0, none⟩, ts.length, ts⟩ :=
  ⟨i0, ⟨⟨(fun e => by cases e), Nat.le_refl _, lz⟩, ints_lit hc, iz⟩, ⟨⟨(fun e => by cases e), Nat.le_refl _, lh⟩, ints_lit hh, ih⟩, ⟨⟨(fun e => by cases e), Nat.le_refl _, lt⟩, tasks_lit ht, hp⟩⟩
theorem Row.keep {w w' : World} {k : IntKind} {a : Option Addr} {zs : List Int} (h : Row w k a zs) (hk : Keeps w w') : Row w' k a zs := h.mono hk
theorem setok_eq {w : World} {S T : SetR} (h : SetOk w T) (e : S = T) : SetOk w S := e ▸ h
end Go.Proofs.YtjjlpaampmpdfaaGreatDoor
