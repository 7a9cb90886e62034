/- clock: the whole of it on the heap, in the cells o to o + 8 of a block; spoke, Now, Len, New. -/
import Derived.Test.YtkjobhocgiefdaaClk3
namespace Go.Proofs.Ytkjobhocgiefdaa
open Go.ChangeShapes Go.WideShapes Go.ChangeAt Go.RowKit Go.Conc
set_option linter.unusedVariables false
set_option linter.unusedSimpArgs false
structure Clk (w : World) (b o : Nat) (T : TypeId) (cs : Array Value) (now : Int) (m : Nat → SpM) : Prop where
  blk : Bk w b T cs
  now_ : cs[o]? = some (.int .i64 now)
  sp : ∀ i, i < 4 → Sp w b (o + 1 + i * 2) T cs (m i)
  apart : ∀ i j, i < 4 → j < 4 → i ≠ j → ∀ k ∈ (m i).fp, k ∉ (m j).fp
def upd (m : Nat → SpM) (i : Nat) (x : SpM) : Nat → SpM := fun j => if j = i then x else m j
theorem upd_at (m : Nat → SpM) (i : Nat) (x : SpM) : upd m i x i = x := if_pos rfl
theorem upd_ne (m : Nat → SpM) {i j : Nat} (x : SpM) (h : j ≠ i) : upd m i x j = m j := if_neg h
def fps (m : Nat → SpM) : List Nat := (m 0).fp ++ ((m 1).fp ++ ((m 2).fp ++ (m 3).fp))
theorem mem_fps {m : Nat → SpM} {k : Nat} : k ∈ fps m ↔ ∃ i, i < 4 ∧ k ∈ (m i).fp := by
  unfold fps
  simp only [List.mem_append]
  constructor
  · rintro (h | h | h | h)
    · exact ⟨0, by omega, h⟩
    · exact ⟨1, by omega, h⟩
    · exact ⟨2, by omega, h⟩
    · exact ⟨3, by omega, h⟩
  · rintro ⟨i, hi, h⟩
    rcases i with _ | _ | _ | _ | i
    · exact .inl h
    · exact .inr (.inl h)
    · exact .inr (.inr (.inl h))
    · exact .inr (.inr (.inr h))
    · omega
/-- what a call makes of a block's part: the cells o to o + n - 1 alone, blocks of its own (F, then F'), blocks made anew -/
structure Fr (w : World) (b o n : Nat) (T : TypeId) (cs : Array Value) (F : List Nat) (w' : World) (cs' : Array Value) (F' : List Nat) : Prop where
  size : cs'.size = cs.size
  out : ∀ j, (j < o ∨ o + n ≤ j) → cs'[j]? = cs[j]?
  turned : Turned (b :: F) w w'
  fps : ∀ k ∈ F', k ∈ F ∨ w.heap.size ≤ k
theorem Fr.trans {w : World} {b o n : Nat} {T : TypeId} {cs cs1 cs2 : Array Value} {F F1 F2 : List Nat} {w1 w2 : World} (h : Fr w b o n T cs F w1 cs1 F1) (h2 : Fr w1 b o n T cs1 F1 w2 cs2 F2) : Fr w b o n T cs F w2 cs2 F2 :=
  ⟨h2.size.trans h.size, fun j hj => (h2.out j hj).trans (h.out j hj), h.turned.trans h2.turned (fun i hi => by
    rcases List.mem_cons.1 hi with rfl | hi
    · exact .inl (by simp)
    · exact (h.fps i hi).imp (List.mem_cons_of_mem _) id), fun k hk => by
    rcases h2.fps k hk with h3 | h3
    · exact h.fps k h3
    · exact .inr (Nat.le_trans h.turned.size h3)⟩
theorem Fr.refl (w : World) (b o n : Nat) (T : TypeId) (cs : Array Value) (F : List Nat) : Fr w b o n T cs F w cs F := ⟨rfl, fun _ _ => rfl, Turned.refl _ _, fun k hk => .inl hk⟩
theorem Fr.below {w w' : World} {b o n : Nat} {T : TypeId} {cs : Array Value} {F : List Nat} (hb : Below w.heap.size w w') : Fr w b o n T cs F w' cs F := ⟨rfl, fun _ _ => rfl, Turned.of_below hb _, fun k hk => .inl hk⟩
section
variable {w : World} {b o : Nat} {T : TypeId} {cs : Array Value} {now : Int} {m : Nat → SpM}
theorem Sp.turned {q : Nat} {x : SpM} {F : List Nat} {w' : World} (h : Sp w b q T cs x) (ht : Turned F w w') (hb : b ∉ F) (hF : ∀ k ∈ x.fp, k ∉ F) : Sp w' b q T cs x :=
  ⟨h.blk.turned ht hb, h.rows, h.bell, h.own.turned ht (fun k hk => hF k (List.mem_append_left _ hk)), h.bok.turned ht (fun k hk => hF k (List.mem_append_right _ hk)), h.ne, h.ab⟩
theorem Clk.turned {F : List Nat} {w' : World} (h : Clk w b o T cs now m) (ht : Turned F w w') (hb : b ∉ F) (hF : ∀ k ∈ fps m, k ∉ F) : Clk w' b o T cs now m :=
  ⟨h.blk.turned ht hb, h.now_, fun i hi => (h.sp i hi).turned ht hb (fun k hk => hF k (mem_fps.2 ⟨i, hi, hk⟩)), h.apart⟩
theorem Clk.over {w' : World} (h : Clk w b o T cs now m) (hb : Below w.heap.size w w') : Clk w' b o T cs now m := h.turned (Turned.of_below hb []) (by simp) (by simp)
theorem Clk.put {i : Nat} {x : SpM} {w' : World} (h : Clk w b o T cs now m) (hi : i < 4) (hp : SpPost w b (o + 1 + i * 2) T cs (m i) x w') :
    ∃ cs', Clk w' b o T cs' now (upd m i x) ∧ Fr w b o 9 T cs (fps m) w' cs' (fps (upd m i x)) := by
  have hne : ∀ j, j < 4 → j ≠ i → ∀ k ∈ (m j).fp, k ∉ b :: (m i).fp := fun j hj hji k hk hh => by
    rcases List.mem_cons.1 hh with rfl | hh
    · exact (h.sp j hj).ne hk
    · exact h.apart i j hi hj (Ne.symm hji) k hh hk
  refine ⟨_, ⟨hp.sp.blk, ?_, fun j hj => ?_, fun j j' hj hj' hne' k hk => ?_⟩, ?_, ?_, hp.turned.mono (fun k hk => .inl ?_), fun k hk => ?_⟩
  · rw [Array.getElem?_setIfInBounds, if_neg (by omega), Array.getElem?_setIfInBounds, if_neg (by omega)]; exact h.now_
  · by_cases hji : j = i
    · subst hji
      rw [upd_at]
      exact hp.sp
    · rw [upd_ne _ _ hji]
      have hs := h.sp j hj
      have ha := hs.own.turned hp.turned (fun k hk => hne j hj hji k (List.mem_append_left _ hk))
      have hb := hs.bok.turned hp.turned (fun k hk => hne j hj hji k (List.mem_append_right _ hk))
      refine ⟨hp.sp.blk, ?_, ?_, ha, hb, hs.ne, hs.ab⟩
      · rw [Array.getElem?_setIfInBounds, if_neg (by omega), Array.getElem?_setIfInBounds, if_neg (by omega)]; exact hs.rows
      · rw [Array.getElem?_setIfInBounds, if_neg (by omega), Array.getElem?_setIfInBounds, if_neg (by omega)]; exact hs.bell
  · have far : ∀ j, j < 4 → j ≠ i → ∀ k ∈ x.fp, k ∉ (m j).fp := fun j hj hji k hk hh => by
      rcases hp.fps k hk with h1 | h1
      · exact h.apart i j hi hj (Ne.symm hji) k h1 hh
      · exact absurd ((h.sp j hj).fps k hh) (by omega)
    by_cases h1 : j = i
    · subst h1
      rw [upd_at] at hk
      rw [upd_ne _ _ (Ne.symm hne')]
      exact far j' hj' (Ne.symm hne') k hk
    · rw [upd_ne _ _ h1] at hk
      by_cases h2 : j' = i
      · subst h2
        rw [upd_at]
        exact fun hh => far j hj h1 k hh hk
      · rw [upd_ne _ _ h2]
        exact h.apart j j' hj hj' hne' k hk
  · simp
  · intro j hj
    rw [Array.getElem?_setIfInBounds, if_neg (by omega), Array.getElem?_setIfInBounds, if_neg (by omega)]
  · rcases List.mem_cons.1 hk with rfl | hk
    · simp
    · exact List.mem_cons_of_mem _ (mem_fps.2 ⟨i, hi, hk⟩)
  · obtain ⟨j, hj, hk⟩ := mem_fps.1 hk
    by_cases h1 : j = i
    · subst h1
      rw [upd_at] at hk
      exact (hp.fps k hk).imp (fun h => mem_fps.2 ⟨j, hj, h⟩) id
    · rw [upd_ne _ _ h1] at hk
      exact .inl (mem_fps.2 ⟨j, hj, hk⟩)
/-! ### the small functions -/
theorem now_any (h : Clk w b o T cs now m) : Calls Try.prog 18 #[.pointer (some ⟨b, o, none⟩)] w fun e w' => e = .returned (.int .i64 now) ∧ w = w' := by
  have c1 := (h.blk.cell o).trans h.now_
  clear h
  go_enter Try.func18, Try.ntmps18
  go_wp2
  go_ret
  exact ⟨rfl, rfl⟩
theorem spoke_any {t : Int} {i : Nat} (ht : 0 ≤ t) (hi : i < 4) (hm : t.tmod 4 = (i : Int)) : Calls Try.prog 20 #[.pointer (some ⟨b, o, none⟩), .int .i64 t] w fun e w' => e = .returned (.pointer (some ⟨b, o + 1 + i * 2, none⟩)) ∧ w = w' := by
  have h1 : (0 : Int) ≤ (i : Int) := by omega
  have h2 : (i : Int) < 4 := by omega
  have h3 : ¬ 4 ≤ i := by omega
  have h4 : decide (4 ≤ i) = false := by simpa using hi
  have wi : IntKind.i64.wrap (i : Int) = (i : Int) := IntWalk.i64_in _ (by omega)
  clear ht hi
  go_enter Try.func20, Try.ntmps20
  go_wp2
  go_ret
  exact ⟨rfl, rfl⟩
end
end Go.Proofs.Ytkjobhocgiefdaa
