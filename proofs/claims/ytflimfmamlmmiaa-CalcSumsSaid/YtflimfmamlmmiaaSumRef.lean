/- swingbridgeref1.Sum tells the total of a row of at most 60, if it fits. -/
import Derived.Test.YtflimfmamlmmiaaCalcRef
import Derived.Test.YtflimfmamlmmiaaRows2
import Derived.Deep.LoopGhost
import Derived.Laws.BitsLemmas
namespace Go.Proofs.Ytflimfmamlmmiaa
open Go.ChangeShapes Go.WideShapes Go.ChangeAt Go.RowKit
set_option linter.unusedVariables false

theorem and_low32 (x : Int) : bits .and .i64 x 4294967295 = x % 4294967296 := by
  have h1 : (BitVec.ofInt 64 x).toNat = (x % 18446744073709551616).toNat := by simp [BitVec.toNat_ofInt]
  have h2 : (BitVec.ofInt 64 4294967295).toNat = 2 ^ 32 - 1 := by decide
  show IntKind.i64.wrap ((BitVec.ofInt 64 x &&& BitVec.ofInt 64 4294967295).toNat : Int) = _
  rw [BitVec.toNat_and, h1, h2, Nat.and_two_pow_sub_one_eq_mod, IntKind.wrap_i64]
  omega
theorem or_join32 (h l : Int) (h0 : -2147483648 ≤ h) (h1 : h < 2147483648) (l0 : 0 ≤ l) (l1 : l < 4294967296) : bits .or .i64 (h * 4294967296) l = h * 4294967296 + l := by
  have e1 : (BitVec.ofInt 64 (h * 4294967296)).toNat = 2 ^ 32 * (h % 4294967296).toNat := by simp [BitVec.toNat_ofInt]; omega
  have e2 : (BitVec.ofInt 64 l).toNat = l.toNat := by simp [BitVec.toNat_ofInt]; omega
  show IntKind.i64.wrap ((BitVec.ofInt 64 (h * 4294967296) ||| BitVec.ofInt 64 l).toNat : Int) = _
  rw [BitVec.toNat_or, e1, e2, ← Nat.two_pow_add_eq_or_of_lt (by omega), IntKind.wrap_i64]
  omega

theorem refSum_nil (a : Option Addr) (cap : Nat) (w : World) :
    Calls Try.prog 20 #[.slice a 0 cap] w fun e w' => e = .returned (.tuple #[.int .i64 (fitR 0), .bool (fitK 0)]) ∧ ∃ n, w' = w.drewN n := by
  have H1 : Hid (fitR 0 = 0) := hidp (by decide)
  have H2 : Hid (fitK 0 = true) := hidp (by decide)
  have z1 : bits .and .i64 0 4294967295 = 0 := by rw [and_low32]; rfl
  have z2 : bits .or .i64 0 0 = 0 := by decide
  go_enter Try.func20, Try.ntmps20
  go_wp2
  go_loopg [4, 5, 6] 0 (fun _ t m i wr => t = .int .i64 0 ∧ m = .int .i64 0 ∧ i = .int .i64 0 ∧ w = wr)
  case atStart => exact ⟨rfl, rfl, rfl, rfl⟩
  case round =>
    obtain ⟨rfl, rfl, rfl, rfl⟩ := hrel
    go_wp2
    go_ret2
    exact ⟨ret_ib H1.out.symm H2.out.symm, 0, rfl⟩

theorem refSum_row (b off cap : Nat) (zs : List Int) (w : World) (hc : ∀ j, j < zs.length → w.cell? ⟨b, off + j, none⟩ = some (.int .i64 (zs.getD j 0))) (hz : ∀ n ∈ zs, I64 n) (hl : zs.length ≤ 60) :
    Calls Try.prog 20 #[.slice (some ⟨b, off, none⟩) zs.length cap] w fun e w' => e = .returned (.tuple #[.int .i64 (fitR (tot zs)), .bool (fitK (tot zs))]) ∧ ∃ n, w' = w.drewN n := by
  have Hc := hidp hc
  clear hc
  go_enter Try.func20, Try.ntmps20
  go_wp2
  go_loopg [4, 5, 6] zs.length (fun g t m i wr => ∃ k d : Nat, ∃ x y : Int, k + g = zs.length ∧ t = .int .i64 x ∧ m = .int .i64 y ∧ i = .int .i64 k ∧ tot (zs.take k) = x * 4294967296 + y ∧ 0 ≤ y ∧ y ≤ k * 4294967295 ∧ -(k : Int) * 2147483648 ≤ x ∧ x ≤ k * 2147483647 ∧ wr = w.drewN d)
  case atStart => exact ⟨0, 0, 0, 0, by omega, rfl, rfl, rfl, by simp [tot], by omega, by omega, by omega, by omega, rfl⟩
  case round =>
    obtain ⟨k, d, x, y, hk, rfl, rfl, rfl, hs, hy1, hy2, hx1, hx2, rfl⟩ := hrel
    by_cases hlt : k < zs.length
    · obtain ⟨n, HN⟩ : ∃ n, Hid (zs.getD k 0 = n) := ⟨_, rfl⟩
      have hn : I64 n := HN.out ▸ getD_i64 hz k
      have hcell : w.cell? ⟨b, off + k, none⟩ = some (.int .i64 n) := HN.out ▸ Hc.out k hlt
      have Hs1 : Hid (tot (zs.take (k + 1)) = x * 4294967296 + y + n) := hidp (by rw [tot_snoc zs k hlt, hs, HN.out])
      clear hs
      go_wp2
      go_quiet (fail)
      go_wp2
      have E1 : wrap64 (x + n / 4294967296) = x + n / 4294967296 := IntWalk.wrap64_in _ (by unfold I64 at hn; omega)
      have E2 : wrap64 (y + bits BinOp.and IntKind.i64 n 4294967295) = y + n % 4294967296 := by rw [and_low32]; exact IntWalk.wrap64_in _ (by omega)
      rw [E1, E2]
      go_roundg (gk - 1)
      case measure => omega
      case rel => exact ⟨k + 1, _, x + n / 4294967296, y + n % 4294967296, by omega, rfl, rfl, by go_num, by rw [Hs1.out]; omega, by omega, by omega, by unfold I64 at hn; omega, by unfold I64 at hn; omega, rfl⟩
    · obtain rfl : k = zs.length := by omega
      have Hs : Hid (tot zs = x * 4294967296 + y) := hidp (by rw [← hs, List.take_length])
      clear hs
      by_cases h1 : 2147483648 ≤ x + y / 4294967296
      · have Ho : Hid (¬ I64 (tot zs)) := hidp (by rw [Hs.out]; unfold I64; omega)
        have H1 := hidp (fitR_out Ho.out)
        have H2 := hidp (fitK_out Ho.out)
        go_wp2
        go_ret2
        exact ⟨ret_ib H1.out.symm H2.out.symm, _, rfl⟩
      · by_cases h2 : x + y / 4294967296 < -2147483648
        · have Ho : Hid (¬ I64 (tot zs)) := hidp (by rw [Hs.out]; unfold I64; omega)
          have H1 := hidp (fitR_out Ho.out)
          have H2 := hidp (fitK_out Ho.out)
          go_wp2
          go_ret2
          exact ⟨ret_ib H1.out.symm H2.out.symm, _, rfl⟩
        · have Ho : Hid (I64 (tot zs)) := hidp (by rw [Hs.out]; unfold I64; omega)
          have H1 := hidp (fitR_in Ho.out)
          have H2 := hidp (fitK_in Ho.out)
          go_wp2
          go_ret2
          refine ⟨ret_ib ?_ H2.out.symm, _, rfl⟩
          rw [H1.out, Hs.out, and_low32, or_join32 _ _ (by omega) (by omega) (by omega) (by omega)]
          omega

theorem refSum_any (a : Option Addr) (cap : Nat) (zs : List Int) (w : World) (hr : Row w .i64 a zs) (hz : ∀ n ∈ zs, I64 n) (hl : zs.length ≤ 60) :
    Calls Try.prog 20 #[.slice a zs.length cap] w fun e w' => e = .returned (.tuple #[.int .i64 (fitR (tot zs)), .bool (fitK (tot zs))]) ∧ ∃ n, w' = w.drewN n := by
  rcases hr with rfl | ⟨b, off, rfl, hc⟩
  · exact refSum_nil a cap w
  · exact refSum_row b off cap zs w hc hz hl
end Go.Proofs.Ytflimfmamlmmiaa
