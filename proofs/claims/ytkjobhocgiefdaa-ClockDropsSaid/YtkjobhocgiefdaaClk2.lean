/- clock: slices.Delete of one of a row of dues. -/
import Derived.Test.YtkjobhocgiefdaaClk1
import Derived.Deep.RegionLaw
import Derived.Lib.SliceRun
namespace Go.Proofs.Ytkjobhocgiefdaa
open Go.ChangeShapes Go.WideShapes Go.ChangeAt Go.RowKit Go.Conc
set_option linter.unusedVariables false
set_option linter.unusedSimpArgs false
/-! ### cells laid over a block -/
def overC (cs : Array Value) : Nat → List Value → Array Value
  | _, [] => cs
  | o, v :: r => overC (cs.setIfInBounds o v) (o + 1) r
theorem Bk.puts {g : Nat} {t : TypeId} : ∀ (vs : List Value) (o : Nat) {w : World} {cs : Array Value}, Bk w g t cs → Bk (w.setCells g o vs) g t (overC cs o vs)
  | [], _, _, _, h => h
  | v :: r, o, w, cs, h => Bk.puts r (o + 1) (h.put o v)
theorem overC_size : ∀ (vs : List Value) (o : Nat) (cs : Array Value), (overC cs o vs).size = cs.size
  | [], _, _ => rfl
  | v :: r, o, cs => by unfold overC; rw [overC_size r]; simp
theorem overC_list : ∀ (vs : List Value) (o : Nat) (cs : Array Value), o + vs.length ≤ cs.size → (overC cs o vs).toList = cs.toList.take o ++ vs ++ cs.toList.drop (o + vs.length)
  | [], o, cs, h => by simp [overC]
  | v :: r, o, cs, h => by
    simp only [List.length_cons] at h
    unfold overC
    rw [overC_list r (o + 1) _ (by simp; omega), Array.toList_setIfInBounds]
    have ho : o < cs.toList.length := by rw [Array.length_toList]; omega
    have h1 : (cs.toList.take o).length = o := by rw [List.length_take]; omega
    have e1 : (cs.toList.set o v).take (o + 1) = cs.toList.take o ++ [v] := by
      rw [List.take_set, List.take_succ_eq_append_getElem ho, List.set_append_right _ _ (by omega), h1, Nat.sub_self]; rfl
    have e2 : (cs.toList.set o v).drop (o + 1 + r.length) = cs.toList.drop (o + 1 + r.length) := by rw [List.drop_set, if_pos (by omega)]
    rw [e1, e2, List.length_cons, show o + (r.length + 1) = o + 1 + r.length by omega]
    simp
theorem turned_puts {F : List Nat} {w0 : World} {g : Nat} : ∀ (vs : List Value) (o : Nat) {w : World}, Turned F w0 w → g ∈ F → Turned F w0 (w.setCells g o vs)
  | [], _, _, h, _ => h
  | v :: r, o, w, h, hg => turned_puts r (o + 1) (h.setCell (p := ⟨g, o, none⟩) (.inl hg) v) hg
theorem zeroDue : ∀ w, (zeroValue 31).run Try.prog w = .ok (.agg #[.int .i64 0, .int .i64 0]) w := fun w => by kernel_rfl
/-- 'clear' of one element of more than one cell -/
theorem run_clear_one {P : Program} (w : World) (t e ty : TypeId) (z : Value) (ht : P.underlying t = some (.slice e)) (hv : ∀ w, (zeroValue e).run P w = .ok z w) (h1 : ∀ u ∈ z.cells.toList, u.oneCell' = true) (b o c : Nat)
    (hc : ∀ j, j < z.cells.toList.length → (w.cell? ⟨b, o + j, none⟩).isSome = true) (hf : ∀ j, j < z.cells.toList.length → w.frozen? ⟨b, o + j, none⟩ = false) :
    (Builtin.clear_ #[t] ty #[.slice (some ⟨b, o, none⟩) 1 c]).run P w = .ok (.tuple #[]) (w.setCells b o z.cells.toList) := by
  have hzc : (Builtin.zeroCells z.cells 1).toList = z.cells.toList := by
    congr 1
    refine Array.ext (by simp [Builtin.zeroCells]) (fun j h1 h2 => ?_)
    simp only [Builtin.zeroCells, Array.getElem_map, Array.getElem_range]
    rw [Nat.mod_eq_of_lt h2]
    exact getElem!_pos z.cells j h2
  have hst := run_storeCells_cells (P := P) b o z.cells.toList 0 w (by simpa using hc) (by simpa using hf) h1
  simp only [Nat.add_zero] at hst
  simp [Builtin.clear_, run_underlying ht, hv, hzc, hst]
theorem OwnD.bk {w : World} {g c : Nat} {l : List DueM} (h : OwnD w (some ⟨g, 0, none⟩) c l) : ∃ cur, Bk w g 31 cur ∧ cur.size = c * 2 ∧ cur.toList.take (l.length * 2) = dtc l := by
  obtain ⟨h1, ⟨hv, _⟩ | ⟨g', cap, cur, hv, hb, hg, h3, h4, h5, h6⟩⟩ := h.own
  · cases hv
  · injection hv with e1 e2 e3
    injection e1 with e1
    injection e1 with e1
    subst e1; subst e3
    exact ⟨cur, hg, h5, h6⟩
theorem OwnD.mk_ {w : World} {g c : Nat} {l : List DueM} {cur : Array Value} (hb : Bk w g 31 cur) (hs : cur.size = c * 2) (hl : cur.toList.take (l.length * 2) = dtc l) (hc : l.length ≤ c ∧ c ≤ maxLen) : OwnD w (some ⟨g, 0, none⟩) c l :=
  ⟨⟨dtc_len l, .inr ⟨g, c, cur, rfl, Nat.zero_le _, hb, hc.1, hc.2, hs, hl⟩⟩, hc, fun e => by cases e⟩
theorem dtc_take (l : List DueM) (k : Nat) : (dtc l).take (k * 2) = dtc (l.take k) := by
  have h : dtc l = dtc (l.take k) ++ dtc (l.drop k) := by rw [← dtc_append, List.take_append_drop]
  by_cases hk : k ≤ l.length
  · rw [h, List.take_left' (by rw [dtc_len, List.length_take, Nat.min_eq_left hk])]
  · rw [List.take_of_length_le (by rw [dtc_len]; omega), List.take_of_length_le (by omega)]
set_option maxHeartbeats 4000000 in
theorem due_del_any {w : World} {g c k : Nat} {i j : Int} {l : List DueM} (h : OwnD w (some ⟨g, 0, none⟩) c l) (hk : k < l.length) (hi : i = (k : Nat)) (hj : j = ((k + 1 : Nat) : Int)) :
    Calls Try.prog 29 #[.slice (some ⟨g, 0, none⟩) l.length c, .int .i64 i, .int .i64 j] w fun e w' => e = .returned (.slice (some ⟨g, 0, none⟩) (l.length - 1) c) ∧ OwnD w' (some ⟨g, 0, none⟩) c (l.eraseIdx k) ∧ Turned [g] w w' := by
  obtain ⟨cur, hb, hs, hl⟩ := h.bk
  have hcap := h.cap
  obtain ⟨n, hn⟩ : ∃ n, l.length = n := ⟨_, rfl⟩
  rw [hn] at hk hcap hl ⊢
  have hm : c ≤ 9223372036854775807 := by have := hcap.2; unfold maxLen at this; omega
  obtain ⟨i0, hi0, hy0, hy1, hy2⟩ := info_parts infoDue
  obtain ⟨news, hnews⟩ : ∃ news, dtc (l.drop (k + 1)) = news := ⟨_, rfl⟩
  have hlen : news.length = (n - (k + 1)) * 2 := by rw [← hnews, dtc_len, List.length_drop, hn]
  have hat : ∀ t u, news[t]? = some u → cur[(k + 1) * 2 + t]? = some u := fun t u hu => by
    have ht : t < news.length := (List.getElem?_eq_some_iff.1 hu).1
    rw [← hnews, ← dtc_drop, ← hl, List.getElem?_drop, List.getElem?_take, if_pos (by omega), Array.getElem?_toList] at hu
    exact hu
  have hcellw : ∀ t, t < c * 2 → (w.drew.cell? ⟨g, t, none⟩).isSome = true ∧ w.drew.frozen? ⟨g, t, none⟩ = false := fun t ht => by
    refine ⟨?_, hb.frozen t⟩
    show (w.cell? _).isSome = true
    rw [hb.cell t, Array.getElem?_eq_getElem (by omega)]
    rfl
  obtain ⟨A, hA, hsrc⟩ : ∃ A : Addr, (if c = k + 1 then some (⟨g, 0, none⟩ : Addr) else some ⟨g, (k + 1) * 2, none⟩) = some A ∧ Hid (∀ t u, news[t]? = some u → w.drew.cell? (A.add t) = some u) := by
    by_cases hck : c = k + 1
    · refine ⟨⟨g, 0, none⟩, by simp [hck], fun t u hu => ?_⟩
      have h0 : news.length = 0 := by rw [hlen]; omega
      rw [List.length_eq_zero_iff.1 h0] at hu
      simp at hu
    · refine ⟨⟨g, (k + 1) * 2, none⟩, by simp [hck], fun t u hu => ?_⟩
      rw [Addr.add_lit]
      exact (hb.cell _).trans (hat t u hu)
  have s1 : Hid (news.length = (n - (k + 1)) * 2) := hlen
  have s2 : Hid (∀ u ∈ news, u.oneCell' = true) := by rw [← hnews]; exact dtc_one _
  have s3 : Hid (∀ t, t < news.length → (w.drew.cell? ⟨g, 0 + k * 2 + t, none⟩).isSome = true ∧ w.drew.frozen? ⟨g, 0 + k * 2 + t, none⟩ = false) := fun t ht => hcellw _ (by omega)
  have hb1 : Bk (w.drew.setCells g (0 + k * 2) news) g 31 (overC cur (0 + k * 2) news) := Bk.puts news _ (w := w.drew) hb
  have hl1 := overC_list news (0 + k * 2) cur (by omega)
  have hz1 : (overC cur (0 + k * 2) news).size = c * 2 := by rw [overC_size]; exact hs
  obtain ⟨cur1, hcur1⟩ : ∃ cur1, overC cur (0 + k * 2) news = cur1 := ⟨_, rfl⟩
  rw [hcur1] at hb1 hl1 hz1
  obtain ⟨W1, hW1⟩ : ∃ W1, w.drew.setCells g (0 + k * 2) news = W1 := ⟨_, rfl⟩
  rw [hW1] at hb1
  have ht1 : Turned [g] w W1 := by rw [← hW1]; exact turned_puts news _ (Turned.refl [g] w).drew (by simp)
  have hcl : ∀ ty, (Builtin.clear_ #[27] ty #[.slice (some ⟨g, (n - 1) * 2, none⟩) 1 (c - (n - 1))]).run Try.prog W1 = .ok (.tuple #[]) (W1.setCells g ((n - 1) * 2) [.int .i64 0, .int .i64 0]) :=
    fun ty => run_clear_one W1 _ _ ty _ Try.underlying27 zeroDue (by simp [Value.cells]; decide) g ((n - 1) * 2) _ (fun t ht => by rw [hb1.cell, Array.getElem?_eq_getElem (by simp [Value.cells] at ht; omega)]; rfl) (fun t ht => hb1.frozen _)
  replace hcl : ∀ ty, (Builtin.clear_ #[27] ty #[.slice (some ⟨g, (k + (n - (k + 1))) * 2, none⟩) (n - (k + (n - (k + 1)))) (c - (k + (n - (k + 1))))]).run Try.prog W1 = .ok (.tuple #[]) (W1.setCells g ((n - 1) * 2) [.int .i64 0, .int .i64 0]) := fun ty => by
    rw [show n - (k + (n - (k + 1))) = 1 by omega, show k + (n - (k + 1)) = n - 1 by omega]
    exact hcl ty
  have hb2 := Bk.puts [.int .i64 0, .int .i64 0] ((n - 1) * 2) hb1
  have hl2 := overC_list [.int .i64 0, .int .i64 0] ((n - 1) * 2) cur1 (by simp; omega)
  have hz2 : (overC cur1 ((n - 1) * 2) [.int .i64 0, .int .i64 0]).size = c * 2 := by rw [overC_size]; exact hz1
  have ht2 := turned_puts [.int .i64 0, .int .i64 0] ((n - 1) * 2) ht1 (List.mem_singleton.2 rfl)
  have hE : (l.eraseIdx k).length = n - 1 := by rw [List.length_eraseIdx_of_lt (by omega), hn]
  have P : OwnD (W1.setCells g ((n - 1) * 2) [.int .i64 0, .int .i64 0]) (some ⟨g, 0, none⟩) c (l.eraseIdx k) := by
    refine OwnD.mk_ hb2 hz2 ?_ (by omega)
    have a1 : cur1.toList.take ((n - 1) * 2) = dtc (l.eraseIdx k) := by
      have a0 : cur.toList.take (0 + k * 2) = dtc (l.take k) := by
        rw [Nat.zero_add, ← dtc_take, ← hl, List.take_take, Nat.min_eq_left (by omega)]
      rw [hl1, List.take_left' (by rw [List.length_append, List.length_take, Array.length_toList, Nat.min_eq_left (by omega), hlen]; omega), a0, ← hnews, ← dtc_append, List.eraseIdx_eq_take_drop_succ]
    rw [hE, hl2, List.append_assoc, List.take_left' (by rw [List.length_take, Array.length_toList, hz1]; omega), a1]
  have HP := hidp P
  have HT := hidp ht2
  have hW : Hid (w.drew.setCells g (0 + k * 2) news = W1) := hW1
  have hnc : n ≤ c := hcap.1
  have hkc : k ≤ c := by omega
  have hk1 : k + 1 ≤ c := by omega
  have hk1n : k + 1 ≤ n := by omega
  clear hW1 hb1 hl1 hz1 ht1 hb2 hl2 hz2 ht2 P hE hcellw hat hnews hlen hl hs hb hcur1 hcap
  subst hi
  subst hj
  clear h hn
  have i1 : (0 : Int) ≤ (k : Int) + 1 := by omega
  have i2 : (k : Int) + 1 ≤ (n : Int) := by omega
  go_enter Try.func29, Try.ntmps29
  go_wp2_with fail
  go_region_law (refine step_append_room rfl (.tmp 22) (.tmp 25) 27 rfl 31 i0 2 Try.underlying27 hi0 hy1 g 0 k c (by simp [Act.eval, Act.put]) A (n - (k + 1)) (c - (k + 1)) news (by simp [Act.eval, Act.put]) s1.out hsrc.out s2.out (by omega) s3.out ?_; rw [hW.out])
  go_wp2
  go_ret
  exact ⟨by rw [show k + (n - (k + 1)) = n - 1 by omega]; rfl, HP.out, HT.out⟩
end Go.Proofs.Ytkjobhocgiefdaa
