/- swingbridgeref20's Tape: Pick. -/
import Derived.Test.YtbnncaljekifdaaTape
namespace Go.Proofs.Ytbnncaljekifdaa
open Go.ChangeShapes Go.WideShapes Go.ChangeAt Go.RowKit
set_option linter.unusedVariables false

/-- the document's tape in block b: the bytes lie below, as they lay at W -/
structure RT (W w : World) (b : Nat) (A : Option Addr) (n c : Nat) (bs : List Int) (us : Nat) : Prop where
  blk : Bk w b 29 #[.slice A n c, .int .i64 us]
  rd0 : RdB W A n c bs
  below : Below W.heap.size W w
  hb : W.heap.size ≤ b
section
variable {W w w' : World} {b n us : Nat} {bs : List Int} {A : Option Addr} {c : Nat} {F : List Nat}
theorem RT.rd (h : RT W w b A n c bs us) : RdB w A n c bs := h.rd0.below h.below
theorem RT.turned (h : RT W w b A n c bs us) (ht : Turned F w w') (hb : b ∉ F) (hF : ∀ k ∈ F, W.heap.size ≤ k) : RT W w' b A n c bs us :=
  ⟨h.blk.turned ht hb, h.rd0, h.below.trans (ht.below h.below.size hF), h.hb⟩
theorem RT.over (h : RT W w b A n c bs us) (hb : Below w.heap.size w w') : RT W w' b A n c bs us := h.turned (Turned.of_below hb []) (by simp) (by simp)
theorem RT.use (h : RT W w b A n c bs us) (k : Nat) : RT W (w.setCell ⟨b, 1, none⟩ (.int .i64 k)) b A n c bs k :=
  ⟨h.blk.put 1 _, h.rd0, h.below.setCell (p := ⟨b, 1, none⟩) h.hb _, h.hb⟩
theorem RT.c0 (h : RT W w b A n c bs us) : w.cell? ⟨b, 0, none⟩ = some (.slice A n c) := (h.blk.cell 0).trans rfl
theorem RT.c1 (h : RT W w b A n c bs us) : w.cell? ⟨b, 1, none⟩ = some (.int .i64 us) := (h.blk.cell 1).trans rfl
theorem RT.set (h : RT W w b A n c bs us) (k : Nat) (u : Value) : Turned [b] w (w.setCell ⟨b, k, none⟩ u) := (Turned.refl _ _).setCell (.inl (by simp)) _

def RTPost (W w : World) (b : Nat) (A : Option Addr) (n c : Nat) (bs : List Int) (us : Nat) (v : Int) (e : Ending) (w' : World) : Prop := e = .returned (.int .i64 v) ∧ RT W w' b A n c bs us ∧ Turned [b] w w'
theorem rpick_any {lo hi : Int} (h : RT W w b A n c bs us) (hl : I64 lo) (hh : I64 hi) (hu : us < 1000000000000) :
    Calls Try.prog 16 #[.pointer (some ⟨b, 0, none⟩), .int .i64 lo, .int .i64 hi] w (RTPost W w b A n c bs (usedV us lo hi) (pickV bs us lo hi)) := by
  by_cases hle : hi ≤ lo
  · have e1 : Hid (pickV bs us lo hi = hi) := hidp (by unfold pickV; rw [if_pos (.inl hle)])
    have e2 : Hid (usedV us lo hi = us) := hidp (by unfold usedV; rw [if_pos hle])
    rw [e1.out, e2.out]
    go_enter Try.func16, Try.ntmps16
    go_wp2
    go_ret
    exact ⟨rfl, h, Turned.refl _ _⟩
  · have e2 : Hid (usedV us lo hi = us + 1) := hidp (by unfold usedV; rw [if_neg hle])
    rw [e2.out]
    have c1 := h.c1
    have h2 := h.use (us + 1)
    have c0 := h2.c0
    have d1 := h2.c1
    have f1 := h.blk.frozen 1
    have ht := h.set 1 (.int .i64 ((us : Int) + 1))
    simp only [Int.natCast_add, Int.cast_ofNat_Int] at c0 h2 d1
    have h2' := hidp h2
    have HL := hidp h.rd.len
    have hcap := h.rd.cap
    unfold maxLen at hcap
    by_cases hb : bs = []
    · have e1 : Hid (pickV bs us lo hi = hi) := hidp (by unfold pickV; rw [if_pos (.inr hb)])
      rw [e1.out]
      subst hb
      have hn : n = 0 := by rw [HL.out]; rfl
      subst hn
      clear h h2
      go_enter Try.func16, Try.ntmps16
      go_wp2
      go_ret
      exact ⟨rfl, h2'.out, ht⟩
    · have hp : 0 < n := by rw [HL.out]; exact List.length_pos_iff.2 hb
      have hn0 : ((n : Int) == 0) = false := by rw [beq_eq_false_iff_ne]; omega
      have hn1 : ¬ (n : Int) = 0 := by omega
      obtain ⟨p, Hp, hpn⟩ : ∃ p : Nat, Hid (us % bs.length = p) ∧ p < n := ⟨_, hidp rfl, by rw [← HL.out]; exact Nat.mod_lt _ hp⟩
      obtain ⟨x, HX⟩ : ∃ x, Hid (bs.getD p 0 = x) := ⟨_, rfl⟩
      obtain ⟨x1, x2⟩ : 0 ≤ x ∧ x ≤ 255 := by
        have := HX.out
        have hpl : p < bs.length := by rw [← HL.out]; exact hpn
        simp only [List.getD, List.getElem?_eq_getElem hpl, Option.getD_some] at this
        rw [← this]; exact h.rd.fit _ (List.getElem_mem hpl)
      have e1 : Hid (pickV bs us lo hi = pickI x lo hi) := hidp (by unfold pickV; rw [if_neg (by simp [hb]; omega), Hp.out, HX.out])
      obtain ⟨s1, s2, s3⟩ := span_bd (by omega) hl hh
      obtain ⟨p1, p2⟩ := pickI_bd (x := x) (by omega) hl hh
      rw [e1.out]
      unfold I64 at hl hh
      unfold pickI at p1 p2 ⊢
      unfold spanV at s1 s2 s3 p1 p2 ⊢
      obtain ⟨d, hd⟩ : ∃ d, wrap64 (hi - lo) = d := ⟨_, rfl⟩
      rw [hd] at s1 s2 s3 p1 p2 ⊢
      obtain ⟨s, hs⟩ : ∃ s, clipV d 1 65535 = s := ⟨_, rfl⟩
      rw [hs] at s1 s2 s3 p1 p2 ⊢
      obtain ⟨r, hr⟩ : ∃ r, x % (s + 1) = r := ⟨_, rfl⟩
      rw [hr] at p1 p2 ⊢
      have hr1 : 0 ≤ r := by rw [← hr]; exact Int.emod_nonneg x (by omega)
      obtain ⟨g, off, rfl, hc⟩ := h2.rd.row.resolve_left hb
      have hc2 := hc p (by rw [← HL.out]; exact hpn)
      rw [HX.out] at hc2
      have hkp : (us : Int) % (n : Int) = (p : Int) := by rw [← Hp.out, ← HL.out]; exact (Int.natCast_emod us n).symm
      obtain ⟨m, hm⟩ : ∃ m, (if 65535 < d then (65535 : Int) else d) = m := ⟨_, rfl⟩
      have hm2 : (if 1 < m then m else (1 : Int)) = s := by
        rw [← hm, ← hs]; unfold clipV
        by_cases g1 : 65535 < d
        · rw [if_pos g1, if_pos (by omega), if_neg (by omega)]
        · rw [if_neg g1]
          by_cases g2 : d < 1
          · rw [if_neg (by omega), if_pos (.inl g2)]
          · rw [if_neg (by omega : ¬ (d < 1 ∨ (65535 : Int) < 1))]; (try rw [if_neg g1]); split <;> omega
      clear hs hc h h2
      go_enter Try.func16, Try.ntmps16
      go_wp2
      go_quiet (fail)
      go_wp2
      go_ret
      exact ⟨rfl, h2'.out.turned ((Turned.refl [] _).drewN nq) (by simp) (by simp), ht.drewN nq⟩
end
end Go.Proofs.Ytbnncaljekifdaa
