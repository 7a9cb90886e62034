/- swingbridgeref2: At, SameInts, Without: rows of numbers that are only read. -/
import Derived.Test.YtlejnbepldpmmaaLine
namespace Go.Proofs.Ytlejnbepldpmmaa
open Go.ChangeShapes Go.WideShapes Go.ChangeAt Go.RowKit
set_option linter.unusedVariables false


/-- the place of id in the row; -1: it isn't there -/
def atR (zs : List Int) (id : Int) : Int := if id ∈ zs then (zs.idxOf id : Nat) else -1
theorem atR_yes {zs : List Int} {id : Int} (h : plK zs id = true) : atR zs id = plN zs id := by
  have hm : id ∈ zs := by simpa [plK] using h
  unfold atR plN; rw [if_pos hm, if_pos hm]
theorem atR_no {zs : List Int} {id : Int} (h : plK zs id = false) : atR zs id = -1 := by
  have hm : id ∉ zs := by simpa [plK] using h
  unfold atR; rw [if_neg hm]

theorem at_any {id : Int} {w : World} {A : Option Addr} {zs : List Int} {n c : Nat} (hrow : Row w .i64 A zs) (hn : n = zs.length) (hl : zs.length ≤ 1000) :
    Calls Try.prog 27 #[.slice A n c, .int .i64 id] w fun e w' => e = .returned (.int .i64 (atR zs id)) ∧ w = w' := by
  subst hn
  go_enter Try.func27, Try.ntmps27
  go_wp2
  go_loopg [5] zs.length (fun g m wr => ∃ k : Nat, k + g = zs.length ∧ m = .int .i64 k ∧ id ∉ zs.take k ∧ w = wr)
  case atStart => exact ⟨0, by omega, rfl, by simp, rfl⟩
  case round =>
    obtain ⟨k, hk, rfl, hn, rfl⟩ := hrel
    have Hn := hidp hn
    clear hn
    by_cases hlt : k < zs.length
    · obtain ⟨g, off, rfl, hc⟩ := hrow.resolve_left (by intro e; subst e; simp at hlt)
      obtain ⟨n, HN⟩ : ∃ n, Hid (zs.getD k 0 = n) := ⟨_, rfl⟩
      have c2 : w.cell? ⟨g, off + k, none⟩ = some (.int .i64 n) := HN.out ▸ hc k hlt
      clear hc hrow
      by_cases he : n = id
      · subst he
        have Hi := hidp (idx_at hlt Hn.out HN.out)
        have H1 : Hid (atR zs n = k) := hidp (by unfold atR; rw [if_pos Hi.out.1, Hi.out.2])
        go_wp2
        go_ret
        exact ⟨by rw [H1.out]; rfl, rfl⟩
      · have he' : (n == id) = false := by simpa using he
        have H1 := hidp (not_take hlt Hn.out (by rw [HN.out]; exact he))
        go_wp2
        go_roundg (gk - 1)
        case measure => omega
        case rel => exact ⟨k + 1, by omega, by go_num, H1.out, rfl⟩
    · obtain rfl : k = zs.length := by omega
      have H1 : Hid (atR zs id = -1) := hidp (by unfold atR; rw [if_neg (by simpa using Hn.out)])
      go_wp2
      go_ret
      exact ⟨by rw [H1.out]; rfl, rfl⟩

theorem same_yes {w : World} {A B : Option Addr} {zs : List Int} {n m c d : Nat} (ha : Row w .i64 A zs) (hb : Row w .i64 B zs) (hn : n = zs.length) (hm : m = zs.length) (hl : zs.length ≤ 1000) :
    Calls Try.prog 23 #[.slice A n c, .slice B m d] w fun e w' => e = .returned (.bool true) ∧ Qt w w' := by
  subst hn
  subst hm
  go_enter Try.func23, Try.ntmps23
  go_wp2
  go_loopg [5] zs.length (fun g i wr => ∃ k : Nat, k + g = zs.length ∧ i = .int .i64 k ∧ Qt w wr)
  case atStart => exact ⟨0, by omega, rfl, Qt.refl _⟩
  case round =>
    obtain ⟨k, hk, rfl, hq⟩ := hrel
    by_cases hlt : k < zs.length
    · obtain ⟨g, off, rfl, hc⟩ := ha.resolve_left (by intro e; subst e; simp at hlt)
      obtain ⟨g2, off2, rfl, hc2⟩ := hb.resolve_left (by intro e; subst e; simp at hlt)
      obtain ⟨n, HN⟩ : ∃ n, Hid (zs.getD k 0 = n) := ⟨_, rfl⟩
      have c1 : wr.cell? ⟨g, off + k, none⟩ = some (.int .i64 n) := hq.cell (HN.out ▸ hc k hlt)
      have c2 : wr.cell? ⟨g2, off2 + k, none⟩ = some (.int .i64 n) := hq.cell (HN.out ▸ hc2 k hlt)
      have b1 : (0 : Int) ≤ (k : Int) := by omega
      have b2 : (k : Int) < (zs.length : Int) := by omega
      clear hc hc2 ha hb
      go_wp2
      go_quiet (fail)
      go_wp2
      go_roundg (gk - 1)
      case measure => omega
      case rel => exact ⟨k + 1, by omega, by go_num, hq.add _⟩
    · obtain rfl : k = zs.length := by omega
      go_wp2
      go_ret
      exact ⟨rfl, hq⟩
end Go.Proofs.Ytlejnbepldpmmaa
