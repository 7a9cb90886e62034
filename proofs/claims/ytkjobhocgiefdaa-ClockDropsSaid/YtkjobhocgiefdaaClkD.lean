/- clock: Drop, by the row of what is due; All. -/
import Derived.Test.YtkjobhocgiefdaaClkU
import Derived.Test.YtkjobhocgiefdaaClkR
namespace Go.Proofs.Ytkjobhocgiefdaa
open Go.ChangeShapes Go.WideShapes Go.ChangeAt Go.RowKit Go.Conc
set_option linter.unusedVariables false
set_option linter.unusedSimpArgs false
section
variable {w : World} {b o : Nat} {T : TypeId} {cs : Array Value} {F : List Nat} {now : Int} {L : List DueM}
theorem ClkL.wf (h : ClkL w b o T cs F now L) : ∀ d ∈ L, d.wf := fun d hd => by
  have h1 := h.fit.fit d hd
  have h2 := h.fit.n0
  exact ⟨by unfold I64; omega, h1.1⟩
theorem call_any (N : Nat) (hS : SortsN N) (hN : N ≤ 64) (h : ClkL w b o T cs F now L) (hl : L.length ≤ N) : Calls Try.prog 17 #[.pointer (some ⟨b, o, none⟩)] w (AllPost w (sortE L)) := by
  have hwf := h.wf
  obtain ⟨m, h, _, h3, _, h5⟩ := h
  have C := all_any N hS hN h (by rw [tot_len h3 h5]; exact hl) (fun i hi d hd => by rw [h3 i hi] at hd; exact hwf d (List.mem_filter.1 hd).1)
  rw [catR_sort h3 (fun d hd => Int.le_trans h5.n0.1 (h5.fit d hd).2.1)] at C
  exact C
theorem cremove_any (h : ClkL w b o T cs F now L) {d : DueM} (hd : d ∈ L) : Calls Try.prog 22 #[.pointer (some ⟨b, o, none⟩), .agg #[.int .i64 d.time, .int .i64 d.id]] w fun e w' => e = .returned (.tuple #[]) ∧ CPut w b o T cs F now (L.erase d) w' := by
  obtain ⟨m, h, rfl, h3, h4, h5⟩ := h
  have hd0 := Int.le_trans h5.n0.1 (h5.fit d hd).2.1
  obtain ⟨i, hi, hm⟩ := mod4_ex hd0
  have hmem : d ∈ splD L i := List.mem_filter.2 ⟨hd, by simpa using hm⟩
  obtain ⟨k, hk1, hk2, hk3⟩ := first_of_mem hmem
  have hrow := first_erase hk1 hk2 hk3
  have C := remove_any (kk := dueN ((splD L i).erase d) now) h d hd0 hi hm (Nat.le_trans (row_le h3 i hi) h5.len) (by rw [h3 i hi]; exact ⟨hk1, hk2, hk3⟩) (by rw [h4 i hi]; exact dueN_erase hmem now)
  refine C.mono ?_
  rintro e w' ⟨rfl, cs', hc, hf⟩
  rw [h3 i hi, hrow] at hc hf
  refine ⟨rfl, cs', _, ⟨_, hc, rfl, fun j hj => ?_, fun j hj => ?_, ⟨h5.n0, fun x hx => h5.fit x (List.mem_of_mem_erase hx), Nat.le_trans (List.length_erase_le) h5.len⟩⟩, hf⟩
  · by_cases hji : j = i
    · subst hji; rw [upd_at, splD_erase, if_pos hm]
    · rw [upd_ne _ _ hji, splD_erase, if_neg (by rw [hm]; omega), h3 j hj]
  · by_cases hji : j = i
    · subst hji; rw [upd_at, splD_erase, if_pos hm]
    · rw [upd_ne _ _ hji, splD_erase, if_neg (by rw [hm]; omega), h4 j hj]
def DropPost (w : World) (b o : Nat) (T : TypeId) (cs : Array Value) (F : List Nat) (now : Int) (L : List DueM) (k : Nat) (w' : World) : Prop := CPut w b o T cs F now (L.erase ((sortE L).getD k default)) w'
set_option maxHeartbeats 4000000 in
theorem cdrop_yes (N : Nat) (hS : SortsN N) (hN : N ≤ 64) (h : ClkL w b o T cs F now L) (hl : L.length ≤ N) {id : Int} {k : Nat} (hk : HasId (sortE L) id k) : Calls Try.prog 11 #[.pointer (some ⟨b, o, none⟩), .int .i64 id] w fun e w' => e = .returned (.bool true) ∧ DropPost w b o T cs F now L k w' := by
  have C := call_any N hS hN h hl
  have H := hidp h
  have HK := hidp hk
  obtain ⟨n, hn⟩ : ∃ n, (sortE L).length = n := ⟨_, rfl⟩
  have hkn : k < n := by rw [← hn]; exact hk.1
  have hn64 : n ≤ 64 := by rw [← hn, sortE_len]; omega
  have Hn := hidp hn
  have HLen := hidp hl
  clear h hk hn hl
  go_enter Try.func11, Try.ntmps11
  go_wp2_with fail
  refine C.mono ?_
  rintro e w2 ⟨A, c, rfl, ho, hb⟩
  rw [Hn.out] at ho ⊢
  have HB := hidp hb
  have HD := hidp ho.dues
  have hb0 := Below.refl w2.heap.size w2
  clear C ho hb
  go_wp2_with fail
  go_loopg [10] n (fun gg i wr => ∃ j : Nat, j + gg = n ∧ j ≤ k ∧ i = .int .i64 j ∧ Below w2.heap.size w2 wr)
  case atStart => exact ⟨0, by omega, by omega, rfl, hb0⟩
  case round =>
    clear hb0
    obtain ⟨j, hj, hjk, rfl, hbr⟩ := hrel
    obtain ⟨g, off, rfl, hc⟩ := HD.out.resolve_left (by intro e; have := Hn.out; rw [e] at this; simp at this; omega)
    obtain ⟨d, Hd⟩ : ∃ d, Hid ((sortE L).getD j default = d) := ⟨_, hidp rfl⟩
    have cd := hc j (by rw [Hn.out]; omega)
    rw [Hd.out] at cd
    have c0 := KeepsB hbr _ _ cd.1
    have c1 := KeepsB hbr _ _ cd.2
    have jn : (j : Int) < (n : Int) := by omega
    have j0 : (0 : Int) ≤ (j : Int) := by omega
    have wj : IntKind.i64.wrap ((j : Int) + 1) = (j : Int) + 1 := IntWalk.i64_in _ (by omega)
    have hb3 := hbr.alloc hbr.size (.cells #[.int .i64 d.time, .int .i64 d.id] 31)
    have HB3 := hidp hb3
    have Hj := hidp hj
    by_cases hjk2 : j = k
    · have hid : d.id = id := by rw [← Hd.out, hjk2]; exact HK.out.2.1
      have hide : (d.id == id) = true := by simpa using hid
      have hmem : d ∈ L := by
        have h1 : d ∈ sortE L := by rw [← Hd.out, show (sortE L).getD j default = (sortE L)[j]'(by rw [Hn.out]; omega) by simp [List.getD, show j < (sortE L).length by rw [Hn.out]; omega]]; exact List.getElem_mem _
        exact (sortE_perm L).mem_iff.1 h1
      have HB4 := hidp (HB.out.trans (hb3.mono HB.out.size))
      have CR := cremove_any (H.out.over HB4.out) hmem
      have Hjk := hidp hjk2
      clear hc cd hbr hb3 hjk hjk2 hid hmem hj
      go_wp2_with fail
      refine CR.mono ?_
      rintro e w5 ⟨rfl, cs5, F5, h5, f5⟩
      have HP : Hid (DropPost w b o T cs F now L k w5) := hidp ⟨cs5, F5, by rw [← Hjk.out, Hd.out]; exact h5, (Fr.below HB4.out).trans f5⟩
      clear CR h5 f5
      go_wp2_with fail
      go_ret
      exact ⟨rfl, HP.out⟩
    · have hid : ¬ d.id = id := by rw [← Hd.out]; exact HK.out.2.2 j (by omega)
      have hide : (d.id == id) = false := by simpa using hid
      have hjk3 : j + 1 ≤ k := by omega
      clear hc cd hbr hb3 hjk hjk2 hid hj
      go_wp2_with fail
      go_roundg (n - j - 1)
      case measure => have := Hj.out; omega
      case rel => exact ⟨j + 1, by have := Hj.out; omega, hjk3, by go_num, HB3.out⟩
theorem cdrop_no (N : Nat) (hS : SortsN N) (hN : N ≤ 64) (h : ClkL w b o T cs F now L) (hl : L.length ≤ N) {id : Int} (hk : ∀ d ∈ L, d.id ≠ id) : Calls Try.prog 11 #[.pointer (some ⟨b, o, none⟩), .int .i64 id] w fun e w' => e = .returned (.bool false) ∧ Below w.heap.size w w' := by
  have C := call_any N hS hN h hl
  have H := hidp h
  have HK := hidp hk
  obtain ⟨n, hn⟩ : ∃ n, (sortE L).length = n := ⟨_, rfl⟩
  have hn64 : n ≤ 64 := by rw [← hn, sortE_len]; omega
  have Hn := hidp hn
  clear h hk hn hl
  go_enter Try.func11, Try.ntmps11
  go_wp2_with fail
  refine C.mono ?_
  rintro e w2 ⟨A, c, rfl, ho, hb⟩
  rw [Hn.out] at ho ⊢
  have HB := hidp hb
  have HD := hidp ho.dues
  have hb0 := Below.refl w2.heap.size w2
  clear C ho hb
  go_wp2_with fail
  go_loopg [10] n (fun gg i wr => ∃ j : Nat, j + gg = n ∧ i = .int .i64 j ∧ Below w2.heap.size w2 wr)
  case atStart => exact ⟨0, by omega, rfl, hb0⟩
  case round =>
    clear hb0
    obtain ⟨j, hj, rfl, hbr⟩ := hrel
    by_cases hjn : j < n
    · obtain ⟨g, off, rfl, hc⟩ := HD.out.resolve_left (by intro e; have := Hn.out; rw [e] at this; simp at this; omega)
      obtain ⟨d, Hd⟩ : ∃ d, Hid ((sortE L).getD j default = d) := ⟨_, hidp rfl⟩
      have cd := hc j (by rw [Hn.out]; omega)
      rw [Hd.out] at cd
      have c0 := KeepsB hbr _ _ cd.1
      have c1 := KeepsB hbr _ _ cd.2
      have jn : (j : Int) < (n : Int) := by omega
      have j0 : (0 : Int) ≤ (j : Int) := by omega
      have wj : IntKind.i64.wrap ((j : Int) + 1) = (j : Int) + 1 := IntWalk.i64_in _ (by omega)
      have hb3 := hbr.alloc hbr.size (.cells #[.int .i64 d.time, .int .i64 d.id] 31)
      have HB3 := hidp hb3
      have Hj := hidp hj
      have hmem : d ∈ L := by
        have h1 : d ∈ sortE L := by rw [← Hd.out, show (sortE L).getD j default = (sortE L)[j]'(by rw [Hn.out]; omega) by simp [List.getD, show j < (sortE L).length by rw [Hn.out]; omega]]; exact List.getElem_mem _
        exact (sortE_perm L).mem_iff.1 h1
      have hid : ¬ d.id = id := HK.out d hmem
      have hide : (d.id == id) = false := by simpa using hid
      clear hc cd hbr hb3 hid hj hmem
      go_wp2_with fail
      go_roundg (n - j - 1)
      case measure => have := Hj.out; omega
      case rel => exact ⟨j + 1, by have := Hj.out; omega, by go_num, HB3.out⟩
    · obtain rfl : j = n := by omega
      have jI : ¬ (j : Int) < (j : Int) := by omega
      have HF := hidp (HB.out.trans (hbr.mono HB.out.size))
      clear hbr hj hjn
      go_wp2_with fail
      go_ret
      exact ⟨rfl, HF.out⟩
end
end Go.Proofs.Ytkjobhocgiefdaa
