/- What the frame of a tied card wants: the listed table of powers of ten; []string that came in. -/
import Derived.Test.YtggidlmehimcjaaDoorCards
import Derived.Test.YtggidlmehimcjaaDoorTie
import Derived.Test.YtggidlmehimcjaaDoorShelf
import Derived.Test.YtggidlmehimcjaaDoorUp
import Derived.SevenTiedAt
import Derived.Deep.DeepHandedRow
import Derived.Lib.LaidTab
import Derived.ProofKit
import Derived.SliceStrings
import Derived.Stop.LaidErr
import Derived.MakeChecks
namespace Go.Proofs.YtggidlmehimcjaaDoor
open Go.ChangeShapes Go.WideShapes Go.ChangeAt Go.RowKit
set_option linter.unusedVariables false
theorem standIns (l : Array TypeId) (h : (l.all fun t => !Tryd.prog.wantsStandIn t) = true) (j : Nat) (t : TypeId) (ht : l[j]? = some t) : Tryd.prog.wantsStandIn t = false := by
  rw [Array.all_eq_true] at h
  obtain ⟨hj, e⟩ := Array.getElem?_eq_some_iff.1 ht
  have := h j hj
  rw [e] at this
  simpa using this
theorem gPow : Tryd.prog.globalNamed "internal/strconv.uint64pow10" = some 1 := by kernel_rfl
theorem tabPow {W : World} (hL : laidMetH Tryd.prog [("math/bits.deBruijn32tab", Rows.laid_math_bits_deBruijn32tab), ("math/bits.deBruijn64tab", Rows.laid_math_bits_deBruijn64tab), ("internal/strconv.uint64pow10", Rows.laid_internal_strconv_uint64pow10), ("unicode/utf8.acceptRanges", Rows.laid_unicode_utf8_acceptRanges), ("unicode/utf8.first", Rows.laid_unicode_utf8_first)] W) :
    Go.Lib.TabIs Tryd.prog W "internal/strconv.uint64pow10" .u64 Go.Lib.pow10Tab := by
  rw [MakeChecks.laidMetH_plain _ _ _ (by kernel_rfl)] at hL
  have h := laidMet.tail (laidMet.tail hL)
  rw [show Rows.laid_internal_strconv_uint64pow10 = Go.Lib.tabData .u64 Go.Lib.pow10Tab from rfl] at h
  exact Go.Lib.tabIs_of_head gPow (by kernel_rfl) Tryd.underlying127 Tryd.underlying120 (by kernel_rfl) (by kernel_rfl) h
/-- a []string that came in -/
structure IsStrs (w : World) (a : Option Addr) (len cap : Nat) (zs : List ByteArray) : Prop where
  hlen : zs.length = len
  hcap : len ≤ cap ∧ cap ≤ maxLen
  hnil : a = none → len = 0 ∧ cap = 0
  row : zs = [] ∨ ∃ b off, a = some ⟨b, off, none⟩ ∧ ∀ i, i < zs.length → w.cell? ⟨b, off + i, none⟩ = some (.string (zs.getD i ByteArray.empty))
  fit : ∀ s ∈ zs, s.size ≤ maxLen
theorem open_strs {H : Type} {enc : TypeId × Value → H} {W : World} {a : Option Addr} {len cap fuel : Nat} {x : DataW H × List MemPlace} {sp : Nat → Bool} {held : Bool} {base : Nat}
    (hf : DataW.trod enc Tryd.prog W base sp held fuel 54 [.slice a len cap] = some x) : ∃ zs, IsStrs W a len cap zs := by
  rcases open_strings Tryd.underlying54 Tryd.underlying9 (by kernel_rfl) hf with ⟨hcs, hx⟩ | ⟨a', len', cap', ss, hcs, _, hl, hm, hz, hx, hcell, hfit⟩
  · simp at hcs
    obtain ⟨rfl, rfl, rfl⟩ := hcs
    exact ⟨[], rfl, by decide, fun _ => ⟨rfl, rfl⟩, .inl rfl, fun s hs => by simp at hs⟩
  · simp at hcs
    obtain ⟨rfl, rfl, rfl⟩ := hcs
    have hlen : len ≤ ss.length := by rw [hz]; split <;> omega
    obtain ⟨b, off, spot⟩ := a'
    refine ⟨ss.take len, by simp; omega, ⟨hl, hm⟩, fun e => (by cases e), ?_, fun s hs => hfit s (List.mem_of_mem_take hs)⟩
    by_cases h0 : len = 0
    · left; rw [h0]; rfl
    · right
      have hspot : spot = none := by simpa [Addr.add] using World.cell?_spot (hcell 0 (by omega))
      subst hspot
      refine ⟨b, off, rfl, fun i hi => ?_⟩
      have hi2 : i < len := by simp at hi; omega
      have := hcell i (by omega)
      rw [add_plain] at this
      rw [this]
      congr 2
      simp [List.getD, hi2]
end Go.Proofs.YtggidlmehimcjaaDoor
