/- swingbridgeref2.Rank: All; At, SameInts over rows of numbers. -/
import Derived.Test.YtpcbonljbfbdmaaRankRef
namespace Go.Proofs.Ytpcbonljbfbdmaa
open Go.ChangeShapes Go.WideShapes Go.ChangeAt Go.RowKit
set_option linter.unusedVariables false
set_option linter.unusedSimpArgs false
theorem snd_step (l : List (Int × Int)) (j : Nat) (hj : j < l.length) : (l.take (j + 1)).map Prod.snd = (l.take j).map Prod.snd ++ [(l.getD j (0, 0)).2] := by
  rw [take_snoc2 l j hj, List.map_append]; rfl
set_option maxHeartbeats 4000000 in
theorem fall_any {w : World} {b : Nat} {R : Int} {ps : List (Int × Int)} {A : Option Addr} {c : Nat} (h : Rr w b R ps A c) : Calls Try.prog 16 #[.pointer (some ⟨b, 0, none⟩)] w fun e w' => ∃ A' c', e = .returned (.slice A' ps.length c') ∧ NumsAt w.heap.size w' A' ps.length c' (ps.map Prod.snd) ∧ Below w.heap.size w w' := by
  obtain ⟨i0, hi0, hy0, hy1, hy2⟩ := info_parts infoIntR
  have c0 : w.cell? ⟨b, 0, none⟩ = some (.slice A ps.length c) := h.blk.cell 0
  have hl := h.len
  have HR := hidp h.rd
  obtain ⟨n, hn⟩ : ∃ n, ps.length = n := ⟨_, rfl⟩
  have Hn := hidp hn
  have hn64 : n ≤ 64 := by omega
  rw [hn] at c0 ⊢
  clear h hn hl
  have o0 : w.ownsRow w.heap.size 3 1 (.slice none 0 0) 0 (((ps.take 0).map Prod.snd).map (Value.int .i64)) := World.ownsRow_nil _ _ _ _
  have hb0 := Below.refl w.heap.size w
  go_enter Try.func16, Try.ntmps16
  go_wp2_with fail
  go_loopg [3, 4] n (fun gg a i wr => ∃ (j c' : Nat) (A' : Option Addr), j + gg = n ∧ i = .int .i64 j ∧ a = .slice A' j c' ∧ wr.ownsRow w.heap.size 3 1 (.slice A' j c') j (((ps.take j).map Prod.snd).map (Value.int .i64)) ∧ Hid ((A' = none → j = 0 ∧ c' = 0) ∧ j ≤ c' ∧ c' ≤ maxLen) ∧ Below w.heap.size w wr)
  case atStart => exact ⟨0, 0, none, by omega, rfl, rfl, o0, hidp ⟨fun _ => ⟨rfl, rfl⟩, Nat.le_refl _, by decide⟩, hb0⟩
  case round =>
    clear o0 hb0
    obtain ⟨j, c', A', hj, rfl, rfl, own, Hcap, hbr⟩ := hrel
    have k2 : ∀ p v, w.cell? p = some v → wr.cell? p = some v := fun p v hv => by rw [hbr.cell (cell_lt hv)]; exact hv
    have c1 := k2 _ _ c0
    by_cases hlt : j < n
    · have hjS : j < ps.length := by rw [Hn.out]; exact hlt
      obtain ⟨g, off, rfl⟩ := HR.out.some_ (by omega)
      have cx := (HR.out.cells hjS).2
      obtain ⟨x, Hx⟩ : ∃ x, Hid ((ps.getD j (0, 0)).2 = x) := ⟨_, hidp rfl⟩
      rw [Hx.out] at cx
      have c2 := k2 _ _ cx
      have jI : (j : Int) < (n : Int) := by omega
      have j0 : (0 : Int) ≤ (j : Int) := by omega
      clear cx k2
      have Hs : Hid ((ps.take (j + 1)).map Prod.snd = (ps.take j).map Prod.snd ++ [x]) := hidp (by rw [snd_step ps j hjS, Hx.out])
      have N2 : Hid (j + 1 ≤ maxLen) := hidp (by unfold maxLen; omega)
      have T2 : Hid ((j + 1) * 8 ≤ 140737488355328) := hidp (by omega)
      have W1 : Below w.heap.size w (wr.alloc (.cells #[.int .i64 x] 3)) := hbr.alloc hbr.size _
      have own4 := own_turned own ((Turned.refl [] wr).alloc (.cells #[.int .i64 x] 3)) (by simp)
      have S2 := hidp (new_lies wr [.int .i64 x] 3)
      have Z2 : Hid (w.heap.size ≤ (wr.alloc (.cells #[.int .i64 x] 3)).heap.size) := hidp W1.size
      have O2 := hidp (num1_one x)
      have Hfp := hidp (own_fp own4)
      have hW := hidp W1
      clear own hbr W1 Hcap
      go_wp2_with (at_builtin; refine wpList_app2 _ rfl (.tmp 14) (.tmp 23) 38 rfl w.heap.size 3 i0 _ 1 8 Try.underlying38 hi0 hy0 hy1 hy2 rfl (by decide) A' j c' _ rfl own4 _ _ 1 1 [.int .i64 x] rfl (by simp) rfl S2.out O2.out N2.out T2.out Z2.out ?_; intro A9 c9 w6 happ)
      go_roundg (gk - 1)
      case measure => omega
      case rel => exact ⟨j + 1, c9, A9, by omega, by go_num, rfl, by rw [Hs.out, List.map_append]; exact happ.own, hidp ⟨happ.nil, happ.cap⟩, hW.out.trans (happ.turned.below hW.out.size (fun i hi => (Hfp.out i hi).1))⟩
    · have hjn : j = n := by omega
      have hjI : ¬ (j : Int) < (n : Int) := by omega
      have F : Hid (NumsAt w.heap.size wr A' n c' (ps.map Prod.snd) ∧ Below w.heap.size w wr) := hidp (by
        subst hjn
        have e1 : ps.take j = ps := List.take_of_length_le (by rw [Hn.out]; exact Nat.le_refl _)
        rw [e1] at own
        exact ⟨⟨own, by rw [List.length_map, Hn.out], Hcap.out.2, Hcap.out.1⟩, hbr⟩)
      have HJ := hidp hjn
      clear own hbr Hcap hjn k2
      go_wp2
      try rw [Exit.noGoto_ret]
      go_ret
      have e9 := HJ.out
      subst e9
      exact ⟨A', c', rfl, F.out.1, F.out.2⟩
theorem NumsAt.rowI {B : Nat} {w : World} {A : Option Addr} {n c : Nat} {zs : List Int} (h : NumsAt B w A n c zs) : Row w .i64 A zs := (Lies.of_own h.own).row
/-- the place of id in the row; -1: it isn't there -/
def atF (zs : List Int) (id : Int) : Int := if id ∈ zs then (zs.idxOf id : Nat) else -1
theorem idx_atF {zs : List Int} {k : Nat} {id : Int} (hk : k < zs.length) (hn : id ∉ zs.take k) (he : zs.getD k 0 = id) : id ∈ zs ∧ zs.idxOf id = k := by
  have e : zs[k] = id := by rw [← he]; simp [List.getD, hk]
  refine ⟨e ▸ List.getElem_mem hk, ?_⟩
  have e2 : zs = zs.take k ++ zs.drop k := (List.take_append_drop k zs).symm
  rw [e2, List.idxOf_append, if_neg hn, List.drop_eq_getElem_cons hk, e, List.idxOf_cons_self]
  simp; omega
theorem not_takeF {zs : List Int} {k : Nat} {id : Int} (hk : k < zs.length) (hn : id ∉ zs.take k) (he : zs.getD k 0 ≠ id) : id ∉ zs.take (k + 1) := by
  have e : zs[k] = zs.getD k 0 := by simp [List.getD, hk]
  rw [List.take_succ_eq_append_getElem hk, e]
  intro h
  rcases List.mem_append.1 h with h | h
  · exact hn h
  · simp at h; exact he h.symm
theorem fat_any {id : Int} {w : World} {A : Option Addr} {zs : List Int} {n c : Nat} (hrow : Row w .i64 A zs) (hn : n = zs.length) (hl : zs.length ≤ 1000) :
    Calls Try.prog 25 #[.slice A n c, .int .i64 id] w fun e w' => e = .returned (.int .i64 (atF zs id)) ∧ w = w' := by
  subst hn
  go_enter Try.func25, Try.ntmps25
  go_wp2
  go_loopg [5] zs.length (fun g m wr => ∃ k : Nat, k + g = zs.length ∧ m = .int .i64 k ∧ id ∉ zs.take k ∧ w = wr)
  case atStart => exact ⟨0, by omega, rfl, by simp, rfl⟩
  case round =>
    obtain ⟨k, hk, rfl, hn, rfl⟩ := hrel
    have Hn := hidp hn
    clear hn
    by_cases hlt : k < zs.length
    · obtain ⟨g, off, rfl, hc⟩ := hrow.resolve_left (by intro e; subst e; simp at hlt)
      obtain ⟨n, HN⟩ : ∃ n, Hid (zs.getD k 0 = n) := ⟨_, rfl⟩
      have c2 : w.cell? ⟨g, off + k, none⟩ = some (.int .i64 n) := HN.out ▸ hc k hlt
      clear hc hrow
      by_cases he : n = id
      · subst he
        have Hi := hidp (idx_atF hlt Hn.out HN.out)
        have H1 : Hid (atF zs n = k) := hidp (by unfold atF; rw [if_pos Hi.out.1, Hi.out.2])
        go_wp2
        go_ret
        exact ⟨by rw [H1.out]; rfl, rfl⟩
      · have he' : (n == id) = false := by simpa using he
        have H1 := hidp (not_takeF hlt Hn.out (by rw [HN.out]; exact he))
        go_wp2
        go_roundg (gk - 1)
        case measure => omega
        case rel => exact ⟨k + 1, by omega, by go_num, H1.out, rfl⟩
    · obtain rfl : k = zs.length := by omega
      have H1 : Hid (atF zs id = -1) := hidp (by unfold atF; rw [if_neg (by simpa using Hn.out)])
      go_wp2
      go_ret
      exact ⟨by rw [H1.out]; rfl, rfl⟩
theorem fsame_yes {w : World} {A B : Option Addr} {zs : List Int} {n m c d : Nat} (ha : Row w .i64 A zs) (hb : Row w .i64 B zs) (hn : n = zs.length) (hm : m = zs.length) (hl : zs.length ≤ 1000) :
    Calls Try.prog 18 #[.slice A n c, .slice B m d] w fun e w' => e = .returned (.bool true) ∧ Qt w w' := by
  subst hn
  subst hm
  go_enter Try.func18, Try.ntmps18
  go_wp2
  go_loopg [5] zs.length (fun g i wr => ∃ k : Nat, k + g = zs.length ∧ i = .int .i64 k ∧ Qt w wr)
  case atStart => exact ⟨0, by omega, rfl, Qt.refl _⟩
  case round =>
    obtain ⟨k, hk, rfl, hq⟩ := hrel
    by_cases hlt : k < zs.length
    · obtain ⟨g, off, rfl, hc⟩ := ha.resolve_left (by intro e; subst e; simp at hlt)
      obtain ⟨g2, off2, rfl, hc2⟩ := hb.resolve_left (by intro e; subst e; simp at hlt)
      obtain ⟨n, HN⟩ : ∃ n, Hid (zs.getD k 0 = n) := ⟨_, rfl⟩
      have c1 : wr.cell? ⟨g, off + k, none⟩ = some (.int .i64 n) := hq.cell (HN.out ▸ hc k hlt)
      have c2 : wr.cell? ⟨g2, off2 + k, none⟩ = some (.int .i64 n) := hq.cell (HN.out ▸ hc2 k hlt)
      have b1 : (0 : Int) ≤ (k : Int) := by omega
      have b2 : (k : Int) < (zs.length : Int) := by omega
      clear hc hc2 ha hb
      go_wp2
      go_quiet (fail)
      go_wp2
      go_roundg (gk - 1)
      case measure => omega
      case rel => exact ⟨k + 1, by omega, by go_num, hq.add _⟩
    · obtain rfl : k = zs.length := by omega
      go_wp2
      go_ret
      exact ⟨rfl, hq⟩
end Go.Proofs.Ytpcbonljbfbdmaa
