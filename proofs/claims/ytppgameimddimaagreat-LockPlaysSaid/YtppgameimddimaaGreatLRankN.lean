/- rank: All of none. -/
import Derived.Test.YtppgameimddimaaGreatLRankZ
namespace Go.Proofs.YtppgameimddimaaGreat
open Go.ChangeShapes Go.WideShapes Go.ChangeAt Go.RowKit
set_option linter.unusedVariables false
set_option linter.unusedSimpArgs false
def GV (b : Nat) : Value := .func (.func 83) #[] #[.pointer (some ⟨b, 0, none⟩)]
theorem appseq_calls (b c : Nat) (A : Option Addr) (w : World) (hb : b < w.heap.size) (hc : w.cell? ⟨b, 0, none⟩ = some (.slice A 0 c)) : Calls Tryz.prog 110 #[.slice none 0 0, GV b] w fun e W' => e = .returned (.slice none 0 0) ∧ Below w.heap.size w W' :=
  (appseq_none FAll (fun _ => trivial) rfl 2 b c (Nat.le_refl _) A w hb hc).calls (fun k d h => by cases h)
theorem collect_none (b c : Nat) (A : Option Addr) (w : World) (hb : b < w.heap.size) (hc : w.cell? ⟨b, 0, none⟩ = some (.slice A 0 c)) : Calls Tryz.prog 81 #[GV b] w fun e W' => e = .returned (.slice none 0 0) ∧ Below w.heap.size w W' := by
  have H := hidp (appseq_calls b c A w hb hc)
  clear hc
  go_enter Tryz.func81, Tryz.ntmps81
  go_wp2_with fail
  refine H.out.mono ?_
  rintro e u ⟨rfl, hb2⟩
  go_wp2_with fail
  go_ret
  exact ⟨rfl, hb2⟩
theorem sortedf_none (v : Value) (b c : Nat) (A : Option Addr) (w : World) (hb : b < w.heap.size) (hc : w.cell? ⟨b, 0, none⟩ = some (.slice A 0 c)) : Calls Tryz.prog 62 #[GV b, v] w fun e W' => e = .returned (.slice none 0 0) ∧ Below w.heap.size w W' := by
  have H := hidp (collect_none b c A w hb hc)
  clear hc
  go_enter Tryz.func62, Tryz.ntmps62
  go_wp2_with fail
  refine H.out.mono ?_
  rintro e u ⟨rfl, hb2⟩
  go_wp2_with fail
  refine (sortf_none v _).mono ?_
  rintro e u2 ⟨rfl, rfl⟩
  go_wp2_with fail
  go_ret
  exact ⟨rfl, hb2⟩
theorem valuesf_any (A : Option Addr) (c : Nat) (w : World) : Calls Tryz.prog 63 #[.slice A 0 c] w fun e W' => e = .returned (GV w.heap.size) ∧ W' = w.alloc (.cells #[.slice A 0 c] 63) := by
  go_enter Tryz.func63, Tryz.ntmps63
  go_wp2
  go_ret
  exact ⟨rfl, rfl⟩
theorem all_nil {w : World} {b ofs : Nat} {KT : TypeId} {kcs : Array Value} {R P : Int} {A : Option Addr} {c : Nat} (h : Rk w b ofs KT kcs R P [] A c) : Calls Tryz.prog 38 #[.pointer (some ⟨b, ofs, none⟩)] w fun e w' => e = .returned (.slice none 0 0) ∧ Below w.heap.size w w' := by
  have c1 : w.cell? ⟨b, ofs + 2, none⟩ = some (.slice A 0 c) := h.cell2
  have hb := (Below.refl w.heap.size w).alloc (Nat.le_refl _) (.cells #[.slice A 0 c] 63)
  have H := hidp (sortedf_none (.func (.func 64) #[] #[]) w.heap.size c A (w.alloc (.cells #[.slice A 0 c] 63)) (by simp) ((Bk.new w 63 #[.slice A 0 c]).cell 0))
  clear h
  go_enter Tryz.func38, Tryz.ntmps38
  go_wp2_with fail
  refine (valuesf_any A c _).mono ?_
  rintro e u ⟨rfl, rfl⟩
  clear c1
  go_wp2_with fail
  refine H.out.mono ?_
  rintro e u ⟨rfl, hb2⟩
  replace hb := hb.trans (hb2.mono hb.size)
  clear hb2 H
  go_wp2_with fail
  go_loopg [3, 13] 1 (fun gg a i wr => a = .slice none 0 0 ∧ i = .int .i64 0 ∧ u = wr)
  case atStart => exact ⟨rfl, rfl, rfl⟩
  case round =>
    obtain ⟨rfl, rfl, rfl⟩ := hrel
    go_wp2_with fail
    try rw [Exit.noGoto_ret]
    go_ret
    exact ⟨rfl, hb⟩
end Go.Proofs.YtppgameimddimaaGreat
