/- swingbridgeref2.Rank: what it is on the heap; NewRank, Put, Take, All; At, SameInts. -/
import Derived.Test.YtpcbonljbfbdmaaRankG
import Derived.Test.YtpcbonljbfbdmaaSortRef2
namespace Go.Proofs.Ytpcbonljbfbdmaa
open Go.ChangeShapes Go.WideShapes Go.ChangeAt Go.RowKit
set_option linter.unusedVariables false
set_option linter.unusedSimpArgs false
theorem RdI.turned {w w' : World} {A : Option Addr} {n c : Nat} {ps : List (Int × Int)} {F : List Nat} (h : RdI w A n c ps) (ht : Turned F w w') (hF : ∀ k ∈ fp A, k ∉ F) : RdI w' A n c ps :=
  ⟨(h.lies.turned ht hF).mono ht.size, h.len, h.cap, h.nil, h.fit⟩
/-- a rank of the reference in block b -/
structure Rr (w : World) (b : Nat) (R : Int) (ps : List (Int × Int)) (A : Option Addr) (c : Nat) : Prop where
  blk : Bk w b 56 #[.slice A ps.length c, .int .i64 R]
  rd : RdI w A ps.length c ps
  ne : b ∉ fp A
  len : (ps.length : Int) ≤ R ∧ R ≤ 64
  fps : ∀ k ∈ fp A, k < w.heap.size
def RrPost (w : World) (b : Nat) (R : Int) (A : Option Addr) (ps : List (Int × Int)) (e0 : Ending) (e : Ending) (w' : World) : Prop :=
  e = e0 ∧ ∃ A' c', Rr w' b R ps A' c' ∧ Turned [b] w w' ∧ ∀ k ∈ fp A', k ∈ fp A ∨ w.heap.size ≤ k
theorem Rr.turned {w w' : World} {b : Nat} {R : Int} {A : Option Addr} {c : Nat} {ps : List (Int × Int)} {F : List Nat} (h : Rr w b R ps A c) (ht : Turned F w w') (hb : b ∉ F) (hF : ∀ k ∈ fp A, k ∉ F) : Rr w' b R ps A c :=
  ⟨h.blk.turned ht hb, h.rd.turned ht hF, h.ne, h.len, fun k hk => Nat.lt_of_lt_of_le (h.fps k hk) ht.size⟩
theorem Rr.store {w : World} {b : Nat} {R : Int} {ps : List (Int × Int)} {A : Option Addr} {c n : Nat} {v : Value} (hb : Bk w b 56 #[v, .int .i64 R]) (hr : RdI w A n c ps) (hne : b ∉ fp A) (hl : (ps.length : Int) ≤ R ∧ R ≤ 64) (hf : ∀ k ∈ fp A, k < w.heap.size) :
    Rr (w.setCell ⟨b, 0, none⟩ (.slice A n c)) b R ps A c := by
  obtain rfl := hr.len
  have ht := (Turned.refl [b] w).setCell (p := ⟨b, 0, none⟩) (.inl (by simp)) (.slice A ps.length c)
  exact ⟨hb.put 0 _, hr.turned (F := [b]) ht (fun k hk hm => by simp at hm; subst hm; exact hne hk), hne, hl, fun k hk => Nat.lt_of_lt_of_le (hf k hk) ht.size⟩
theorem Rr.new (w : World) (n : Int) : Rr (w.alloc (.cells #[.slice none 0 0, .int .i64 (roomR n)] 56)) w.heap.size (roomR n) [] none 0 :=
  ⟨Bk.new _ _ _, ⟨.inl rfl, rfl, by decide, fun _ => ⟨rfl, rfl⟩, by simp⟩, by simp [fp], by have := roomR_bd n; simp; omega, by simp [fp]⟩
theorem fnew_any (n : Int) (w : World) (hn : I64 n) : Calls Try.prog 9 #[.int .i64 n] w fun e w' => e = .returned (.pointer (some ⟨w.heap.size, 0, none⟩)) ∧ w' = w.alloc (.cells #[.slice none 0 0, .int .i64 (roomR n)] 56) := by
  unfold I64 at hn
  have e : roomR n = max 0 (min n 64) := by unfold roomR; (split; omega); split <;> omega
  rw [e]
  clear e
  go_enter Try.func9, Try.ntmps9
  go_wp2
  go_ret
  exact ⟨rfl, rfl⟩
section
variable {w : World} {b : Nat} {R : Int} {ps : List (Int × Int)} {A : Option Addr} {c : Nat}
theorem fput_full {k i : Int} (h : Rr w b R ps A c) (hf : R ≤ (ps.length : Int)) : Calls Try.prog 11 #[.pointer (some ⟨b, 0, none⟩), .int .i64 k, .int .i64 i] w fun e w' => e = .returned (.int .i64 12) ∧ Qt w w' := by
  have c0 : w.cell? ⟨b, 0, none⟩ = some (.slice A ps.length c) := h.blk.cell 0
  have c1 : w.cell? ⟨b, 1, none⟩ = some (.int .i64 R) := h.blk.cell 1
  have hd : decide (R ≤ (ps.length : Int)) = true := by simpa using hf
  clear h
  go_enter Try.func11, Try.ntmps11
  go_wp2
  go_quiet (fail)
  go_wp2
  go_ret
  exact ⟨rfl, _, rfl⟩
theorem fput_any {k i : Int} (h : Rr w b R ps A c) (hf : (ps.length : Int) < R) (hk : I64 k) (hi : I64 i) : Calls Try.prog 11 #[.pointer (some ⟨b, 0, none⟩), .int .i64 k, .int .i64 i] w (RrPost w b R A (ins ps (k, i)) (.returned (.int .i64 0))) := by
  have c0 : w.cell? ⟨b, 0, none⟩ = some (.slice A ps.length c) := h.blk.cell 0
  have c1 : w.cell? ⟨b, 1, none⟩ = some (.int .i64 R) := h.blk.cell 1
  have hd : decide (R ≤ (ps.length : Int)) = false := by simp; omega
  have hl := h.len
  have HH := hidp h
  have Hil : Hid ((ins ps (k, i)).length = ps.length + 1) := hidp (by rw [(ins_perm ps (k, i)).length_eq]; rfl)
  have HfI : Hid ((ps.length : Int) < R) := hidp hf
  have H900 : Hid (ps.length ≤ 900) := hidp (by omega)
  clear hf h
  go_enter Try.func11, Try.ntmps11
  go_wp2
  go_quiet (fail)
  go_wp2_with fail
  refine (rputI_any (HH.out.rd.drewN nq) H900.out ⟨hk, hi⟩).mono ?_
  rintro e w1 ⟨A1, k1, rfl, ho, hb⟩
  have t0 : Turned [] w w1 := ((Turned.refl [] w).drewN nq).trans (Turned.of_below hb []) (by simp)
  have hb1 := HH.out.blk.turned t0 (by simp)
  have hrd : RdI w1 A1 (ps.length + 1) k1 (ins ps (k, i)) := RdI.of_own ho
  have hfp := own_fp ho.own
  have hlt := HH.out.blk.lt
  have d0 : w1.cell? ⟨b, 0, none⟩ = some (.slice A ps.length c) := hb1.cell 0
  have d1 := hb1.frozen 0
  have Hrd := hidp hrd
  have Hb := hidp hb1
  have Ht := hidp t0
  have Hfp := hidp hfp
  clear ho hb hrd t0 hfp hb1
  go_wp2_with fail
  go_ret
  refine ⟨rfl, A1, k1, ?_, (Ht.out.mono (G := [b]) (by simp)).setCell (p := ⟨b, 0, none⟩) (.inl (by simp)) _, fun k hk => .inr (by have := (Hfp.out k hk).1; simpa using this)⟩
  have := Hrd.out.len
  rw [this]
  refine Rr.store Hb.out (by rw [← this]; exact Hrd.out) (fun hk => ?_) (by rw [Hil.out]; have := hl; have := HfI.out; omega) (fun k hk => (Hfp.out k hk).2)
  have h2 := (Hfp.out b hk).1
  simp at h2
  omega
theorem ftake_nil (h : Rr w b R [] A c) : Calls Try.prog 13 #[.pointer (some ⟨b, 0, none⟩)] w fun e w' => e = .returned (.tuple #[.int .i64 0, .int .i64 13]) ∧ w = w' := by
  have c0 : w.cell? ⟨b, 0, none⟩ = some (.slice A 0 c) := h.blk.cell 0
  go_enter Try.func13, Try.ntmps13
  go_wp2
  go_ret2
  exact ⟨rfl, rfl⟩
theorem ftake_cons {x : Int × Int} (h : Rr w b R (x :: ps) A c) : Calls Try.prog 13 #[.pointer (some ⟨b, 0, none⟩)] w (RrPost w b R A ps (.returned (.tuple #[.int .i64 x.2, .int .i64 0]))) := by
  have c0 : w.cell? ⟨b, 0, none⟩ = some (.slice A (ps.length + 1) c) := h.blk.cell 0
  have f0 := h.blk.frozen 0
  obtain ⟨g, off, rfl⟩ := h.rd.some_ (by simp)
  have c2 := (h.rd.cells (k := 0) (by simp)).2
  simp only [Nat.zero_mul, Nat.add_zero, List.getD_cons_zero] at c2
  have hl := h.len
  have hcap := h.rd.cap
  simp only [List.length_cons] at hl hcap
  have hm := hcap.2
  unfold maxLen at hm
  have hcut := h.rd.cut 1 (by simp)
  have hlt := h.blk.lt
  have hne := h.ne
  have hp := h.fps
  obtain ⟨A1, hA1, Hcut, hx, hy⟩ : ∃ A1, (if c = 1 then some (⟨g, off, none⟩ : Addr) else some ⟨g, off + 2, none⟩) = A1 ∧ Hid (RdI w A1 ps.length (c - 1) ps) ∧ b ∉ fp A1 ∧ Hid (∀ k ∈ fp A1, k ∈ fp (some (⟨g, off, none⟩ : Addr))) := by
    refine ⟨_, rfl, hidp (by simpa using hcut), ?_, hidp fun k hk => ?_⟩
    · intro hk; refine hne ?_; split at hk <;> simpa [fp] using hk
    · split at hk <;> simpa [fp] using hk
  have HB := hidp h.blk
  clear hcut hne h
  go_enter Try.func13, Try.ntmps13
  go_wp2
  go_ret2
  exact ⟨rfl, A1, c - 1, Rr.store HB.out Hcut.out hx (by omega) (fun k hk => hp k (hy.out k hk)), (Turned.refl _ _).setCell (p := ⟨b, 0, none⟩) (.inl (by simp)) _, fun k hk => .inl (hy.out k hk)⟩
end
end Go.Proofs.Ytpcbonljbfbdmaa
