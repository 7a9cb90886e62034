/- swingbridgelaw22's known answers are as known. -/
import Derived.Test.YtonodmoklbmfkaaTurn5
namespace Go.Proofs.Ytonodmoklbmfkaa
open Go.ChangeShapes Go.WideShapes Go.ChangeAt Go.RowKit
set_option linter.unusedVariables false
set_option linter.unusedSimpArgs false
theorem whos_bk {w : World} {g : Nat} {t : TypeId} {l : List WhoM} (h : Bk w g t (wtc l).toArray) (hl : l.length ≤ 1000) (wf : ∀ x ∈ l, x.wf) : WhosOk w (some ⟨g, 0, none⟩) l.length l :=
  ⟨.inr ⟨g, 0, rfl, h.lt, fun j v hv => by rw [Nat.zero_add, h.cell j]; simpa using hv⟩, (fun e => by cases e), ⟨Nat.le_refl _, by unfold maxLen; omega⟩, wf⟩
def KnownPost (w : World) (e : Ending) (w' : World) : Prop := e = .returned (.bool true) ∧ Below w.heap.size w w'
set_option maxHeartbeats 4000000 in
theorem known22_any (w : World) : Calls Try.prog 5 #[] w (KnownPost w) := by
  have wa : WhoM.wf ⟨1, 1, 0⟩ := by unfold WhoM.wf; decide
  have wb : WhoM.wf ⟨2, 9, 5⟩ := by unfold WhoM.wf; decide
  have wc : WhoM.wf ⟨3, 4, 0⟩ := by unfold WhoM.wf; decide
  have hb := (((Below.refl w.heap.size w).alloc (Nat.le_refl _) (.cells #[.int .i64 1, .int .i64 1, .int .i64 0] 23)).alloc (by simp) (.cells #[.int .i64 2, .int .i64 9, .int .i64 5] 23)).alloc (by simp; omega) (.cells #[.int .i64 3, .int .i64 4, .int .i64 0] 23)
  go_enter Try.func5, Try.ntmps5
  go_wp2_with fail
  have BK := Bk.at3 (w := ((w.alloc (.cells #[.int .i64 1, .int .i64 1, .int .i64 0] 23)).alloc (.cells #[.int .i64 2, .int .i64 9, .int .i64 5] 23)).alloc (.cells #[.int .i64 3, .int .i64 4, .int .i64 0] 23)) (g := w.heap.size + 1 + 1 + 1) (t := 23) (cs := (wtc [⟨3, 4, 0⟩, ⟨1, 1, 0⟩, ⟨2, 9, 5⟩]).toArray) (by simp)
  have hb4 := hb.alloc hb.size (.cells (wtc [⟨3, 4, 0⟩, ⟨1, 1, 0⟩, ⟨2, 9, 5⟩]).toArray 23)
  have C := first_any _ _ _ 2 _ (whos_bk BK (by decide) (fun x hx => by simp at hx; rcases hx with rfl | rfl | rfl <;> assumption)) (by decide)
  refine C.mono ?_
  rintro e w2 ⟨A, c, rfl, hr, hn, hc, hb2, hf⟩
  have e21 : firstV [⟨3, 4, 0⟩, ⟨1, 1, 0⟩, ⟨2, 9, 5⟩] 2 = [2, 1] := by decide +kernel
  rw [e21] at hr
  rw [show (firstV [⟨3, 4, 0⟩, ⟨1, 1, 0⟩, ⟨2, 9, 5⟩] 2).length = 2 by rw [e21]; rfl]
  have k2 := Keeps2 (hb2)
  have k1 := Keeps2 ((Below.refl _ _).alloc (Nat.le_refl _) (.cells (wtc [⟨3, 4, 0⟩, ⟨1, 1, 0⟩, ⟨2, 9, 5⟩]).toArray 23) : Below (((w.alloc (.cells #[.int .i64 1, .int .i64 1, .int .i64 0] 23)).alloc (.cells #[.int .i64 2, .int .i64 9, .int .i64 5] 23)).alloc (.cells #[.int .i64 3, .int .i64 4, .int .i64 0] 23)).heap.size (((w.alloc (.cells #[.int .i64 1, .int .i64 1, .int .i64 0] 23)).alloc (.cells #[.int .i64 2, .int .i64 9, .int .i64 5] 23)).alloc (.cells #[.int .i64 3, .int .i64 4, .int .i64 0] 23)) _)
  have A0 := W3 (((Bk.new w 23 #[.int .i64 1, .int .i64 1, .int .i64 0]).alloc (.cells #[.int .i64 2, .int .i64 9, .int .i64 5] 23)).alloc (.cells #[.int .i64 3, .int .i64 4, .int .i64 0] 23))
  have A1 := W3 ((Bk.at3 (w := w.alloc (.cells #[.int .i64 1, .int .i64 1, .int .i64 0] 23)) (g := w.heap.size + 1) (t := 23) (cs := #[.int .i64 2, .int .i64 9, .int .i64 5]) (by simp)).alloc (.cells #[.int .i64 3, .int .i64 4, .int .i64 0] 23))
  have A2 := W3 (Bk.at3 (w := (w.alloc (.cells #[.int .i64 1, .int .i64 1, .int .i64 0] 23)).alloc (.cells #[.int .i64 2, .int .i64 9, .int .i64 5] 23)) (g := w.heap.size + 1 + 1) (t := 23) (cs := #[.int .i64 3, .int .i64 4, .int .i64 0]) (by simp))
  have X0 := And.intro (k2 _ _ (k1 _ _ A0.1)) (And.intro (k2 _ _ (k1 _ _ A0.2.1)) (k2 _ _ (k1 _ _ A0.2.2)))
  have X1 := And.intro (k2 _ _ (k1 _ _ A1.1)) (And.intro (k2 _ _ (k1 _ _ A1.2.1)) (k2 _ _ (k1 _ _ A1.2.2)))
  have X2 := And.intro (k2 _ _ (k1 _ _ A2.1)) (And.intro (k2 _ _ (k1 _ _ A2.2.1)) (k2 _ _ (k1 _ _ A2.2.2)))
  have hbw := hb4.trans (hb2.mono hb4.size)
  clear k1 k2 A0 A1 A2 hb2 hb hb4 BK C hn hc hf e21
  obtain ⟨x0, x1, x2⟩ := X0
  obtain ⟨y0, y1, y2⟩ := X1
  obtain ⟨z0, z1, z2⟩ := X2
  go_wp2_with fail
  refine (ahead_any ⟨2, 9, 5⟩ ⟨1, 1, 0⟩ _ wb wa).mono ?_
  rintro e w3 ⟨rfl, hb2⟩
  rw [show aheadB ⟨2, 9, 5⟩ ⟨1, 1, 0⟩ = true by decide]
  have k2 := Keeps2 hb2
  have X0 := And.intro (k2 _ _ x0) (And.intro (k2 _ _ x1) (k2 _ _ x2))
  have X1 := And.intro (k2 _ _ y0) (And.intro (k2 _ _ y1) (k2 _ _ y2))
  have X2 := And.intro (k2 _ _ z0) (And.intro (k2 _ _ z1) (k2 _ _ z2))
  replace hr := hr.mono k2
  replace hbw := hbw.trans (hb2.mono hbw.size)
  clear hb2 k2 x0 x1 x2 y0 y1 y2 z0 z1 z2
  obtain ⟨x0, x1, x2⟩ := X0
  obtain ⟨y0, y1, y2⟩ := X1
  obtain ⟨z0, z1, z2⟩ := X2
  go_wp2_with fail
  refine (ahead_any ⟨1, 1, 0⟩ ⟨3, 4, 0⟩ _ wa wc).mono ?_
  rintro e w4 ⟨rfl, hb2⟩
  rw [show aheadB ⟨1, 1, 0⟩ ⟨3, 4, 0⟩ = true by decide]
  have k2 := Keeps2 hb2
  have X0 := And.intro (k2 _ _ x0) (And.intro (k2 _ _ x1) (k2 _ _ x2))
  have X1 := And.intro (k2 _ _ y0) (And.intro (k2 _ _ y1) (k2 _ _ y2))
  have X2 := And.intro (k2 _ _ z0) (And.intro (k2 _ _ z1) (k2 _ _ z2))
  replace hr := hr.mono k2
  replace hbw := hbw.trans (hb2.mono hbw.size)
  clear hb2 k2 x0 x1 x2 y0 y1 y2 z0 z1 z2
  obtain ⟨x0, x1, x2⟩ := X0
  obtain ⟨y0, y1, y2⟩ := X1
  obtain ⟨z0, z1, z2⟩ := X2
  go_wp2_with fail
  refine (ahead_any ⟨1, 1, 0⟩ ⟨1, 1, 0⟩ _ wa wa).mono ?_
  rintro e w5 ⟨rfl, hb2⟩
  rw [show aheadB ⟨1, 1, 0⟩ ⟨1, 1, 0⟩ = false by decide]
  have k2 := Keeps2 hb2
  have X0 := And.intro (k2 _ _ x0) (And.intro (k2 _ _ x1) (k2 _ _ x2))
  have X1 := And.intro (k2 _ _ y0) (And.intro (k2 _ _ y1) (k2 _ _ y2))
  have X2 := And.intro (k2 _ _ z0) (And.intro (k2 _ _ z1) (k2 _ _ z2))
  replace hr := hr.mono k2
  replace hbw := hbw.trans (hb2.mono hbw.size)
  clear hb2 k2 x0 x1 x2 y0 y1 y2 z0 z1 z2
  obtain ⟨g, off, e, hcl⟩ := hr.resolve_left (by simp)
  subst e
  have r0 := hcl 0 (by simp)
  have r1 := hcl 1 (by simp)
  simp at r0 r1
  clear hcl X0 X1 X2
  go_wp2_with fail
  refine (first_any none 0 [] 3 _ ⟨.inl rfl, fun _ => ⟨rfl, rfl⟩, by simp, by simp⟩ (by decide)).mono ?_
  rintro e w6 ⟨A, c, rfl, hr, hn, hc, hb2, hf⟩
  rw [show (firstV [] 3).length = 0 by simp [firstV, sortW]]
  replace hbw := hbw.trans (hb2.mono hbw.size)
  clear hr hn hc hb2 hf
  go_wp2_with fail
  go_ret
  exact ⟨rfl, hbw⟩
end Go.Proofs.Ytonodmoklbmfkaa
