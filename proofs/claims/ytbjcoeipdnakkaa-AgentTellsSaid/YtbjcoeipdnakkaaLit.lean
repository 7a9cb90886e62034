/- Rows of numbers made by a literal. -/
import Derived.Test.YtbjcoeipdnakkaaOwnT
namespace Go.Proofs.Ytbjcoeipdnakkaa
open Go.ChangeShapes Go.WideShapes Go.ChangeAt Go.RowKit
set_option linter.unusedVariables false
theorem lit_ints {w : World} {g : Nat} {o : Obj} {zs : List Int} {t : TypeId} (h : w.heap.size = g) (ho : o = .cells (zs.map (Value.int .i64)).toArray t) (hz : ∀ n ∈ zs, I64 n) (hl : zs.length ≤ maxLen) : IntsOk (w.alloc o) (some ⟨g, 0, none⟩) zs.length zs :=
  ⟨⟨(fun e => by cases e), Nat.le_refl _, hl⟩, ints_lit (Bk.at_ h ho), hz⟩
theorem nil_ints (w : World) : IntsOk w none 0 [] := ⟨⟨fun _ => ⟨rfl, rfl⟩, Nat.le_refl _, by decide⟩, .inl rfl, by simp⟩
theorem IsRow.ints {w : World} {a : Option Addr} {len cap : Nat} {zs : List Int} (h : IsRow .i64 w a len cap zs) : IntsOk w a cap (zs.take len) ∧ (zs.take len).length = len := by
  obtain ⟨h1, h2, h3, h4⟩ := h.row
  refine ⟨⟨?_, h1, fun n hn => i64_of (h4 n hn)⟩, h2⟩
  rw [h2]
  rcases h with ⟨rfl, rfl, rfl, rfl⟩ | ⟨x, rfl, hl, hm, hz, hc, hw⟩
  · exact ⟨fun _ => ⟨rfl, rfl⟩, Nat.le_refl _, Nat.zero_le _⟩
  · exact ⟨(fun e => by cases e), hl, hm⟩
theorem box_ok {w : World} {s : SetR} (hs : SetOk w s) (t : TypeId) : SetOk (w.alloc (.cells #[.int .i64 s.proto, .slice s.ca s.cores.length s.cc, .slice s.ha s.homes.length s.hc, .slice s.ta s.tasks.length s.tc] t)) s := hs.keep (Keeps.alloc _ _)
end Go.Proofs.Ytbjcoeipdnakkaa
