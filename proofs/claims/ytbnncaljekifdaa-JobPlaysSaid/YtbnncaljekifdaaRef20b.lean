/- swingbridgeref20's Job: Over, Kind, Res, begin, Tick, New. -/
import Derived.Test.YtbnncaljekifdaaKnown21
import Derived.Test.YtbnncaljekifdaaRef20a
namespace Go.Proofs.Ytbnncaljekifdaa
open Go.ChangeShapes Go.WideShapes Go.ChangeAt Go.RowKit
set_option linter.unusedVariables false
set_option linter.unusedSimpArgs false

/-- five fields of a task -/
structure Five where
  v0 : ByteArray
  v1 : Int
  v2 : Int
  v3 : Int
  v4 : Int
def rjc (t : Five) (pa : Option Addr) (n pc : Nat) (rel : Int) (pt : Nat) (lf : Int) (tb : Nat) : Array Value := #[.string t.v0, .int .i64 t.v1, .int .i64 t.v2, .int .i64 t.v3, .int .i64 t.v4, .slice pa n pc, .int .i64 rel, .int .i64 pt, .int .i64 lf, .pointer (some ⟨tb, 0, none⟩)]
/-- the document's job in block b, its tape in block tb: parts and bytes lie below, as they lay at W -/
structure RJ (W w : World) (b : Nat) (t : Five) (pa : Option Addr) (pc : Nat) (ps : List PartM) (rel : Int) (pt : Nat) (lf : Int) (tb : Nat) (A : Option Addr) (n c : Nat) (bs : List Int) (us : Nat) : Prop where
  blk : Bk w b 45 (rjc t pa ps.length pc rel pt lf tb)
  parts0 : PartsAt W pa ps
  tape : RT W w tb A n c bs us
  hb : W.heap.size ≤ b
  ne : b ≠ tb
  len : ps.length ≤ 1000
  at_ : pt ≤ ps.length
  wf : ∀ p ∈ ps, p.wf
section
variable {W w w' : World} {b pt pc tb n c us : Nat} {t : Five} {ps : List PartM} {rel lf : Int} {pa A : Option Addr} {bs : List Int} {G : List Nat}
theorem RJ.turned (h : RJ W w b t pa pc ps rel pt lf tb A n c bs us) (ht : Turned G w w') (hb : b ∉ G) (htb : tb ∉ G) (hF : ∀ k ∈ G, W.heap.size ≤ k) : RJ W w' b t pa pc ps rel pt lf tb A n c bs us :=
  ⟨h.blk.turned ht hb, h.parts0, h.tape.turned ht htb hF, h.hb, h.ne, h.len, h.at_, h.wf⟩
theorem RJ.over (h : RJ W w b t pa pc ps rel pt lf tb A n c bs us) (hb : Below w.heap.size w w') : RJ W w' b t pa pc ps rel pt lf tb A n c bs us := h.turned (Turned.of_below hb []) (by simp) (by simp) (by simp)
theorem RJ.parts (h : RJ W w b t pa pc ps rel pt lf tb A n c bs us) : PartsAt w pa ps := h.parts0.keep (Keeps.of_below h.tape.below)
theorem RJ.set (h : RJ W w b t pa pc ps rel pt lf tb A n c bs us) (k : Nat) (u : Value) : Turned [b] w (w.setCell ⟨b, k, none⟩ u) := (Turned.refl _ _).setCell (.inl (by simp)) _
theorem RJ.left (h : RJ W w b t pa pc ps rel pt lf tb A n c bs us) (l : Int) : RJ W (w.setCell ⟨b, 8, none⟩ (.int .i64 l)) b t pa pc ps rel pt l tb A n c bs us :=
  ⟨h.blk.put 8 _, h.parts0, h.tape.turned (h.set 8 _) (by simpa using fun e => h.ne e.symm) (by simpa using h.hb), h.hb, h.ne, h.len, h.at_, h.wf⟩
theorem RJ.part (h : RJ W w b t pa pc ps rel pt lf tb A n c bs us) (m : Nat) (hm : m ≤ ps.length) : RJ W (w.setCell ⟨b, 7, none⟩ (.int .i64 m)) b t pa pc ps rel m lf tb A n c bs us :=
  ⟨h.blk.put 7 _, h.parts0, h.tape.turned (h.set 7 _) (by simpa using fun e => h.ne e.symm) (by simpa using h.hb), h.hb, h.ne, h.len, hm, h.wf⟩
theorem RJ.cs (h : RJ W w b t pa pc ps rel pt lf tb A n c bs us) : w.cell? ⟨b, 5, none⟩ = some (.slice pa ps.length pc) ∧ w.cell? ⟨b, 7, none⟩ = some (.int .i64 pt) ∧ w.cell? ⟨b, 8, none⟩ = some (.int .i64 lf) ∧ w.cell? ⟨b, 9, none⟩ = some (.pointer (some ⟨tb, 0, none⟩)) :=
  ⟨(h.blk.cell 5).trans rfl, (h.blk.cell 7).trans rfl, (h.blk.cell 8).trans rfl, (h.blk.cell 9).trans rfl⟩

theorem rover_any (h : RJ W w b t pa pc ps rel pt lf tb A n c bs us) : Calls Try.prog 30 #[.pointer (some ⟨b, 0, none⟩)] w fun e w' => e = .returned (.bool (overB ps pt)) ∧ Qt w w' := by
  obtain ⟨c5, c7, -, -⟩ := h.cs
  obtain ⟨m, HN⟩ : ∃ m, Hid (ps.length = m) := ⟨_, rfl⟩
  obtain ⟨v, HV⟩ : ∃ v, Hid (overB ps pt = v) := ⟨_, rfl⟩
  have hat := h.at_
  rw [HN.out] at c5 hat
  rw [HV.out]
  clear h
  by_cases e : pt = m
  · subst e
    have H : Hid (v = true) := hidp (by rw [← HV.out]; unfold overB; simpa using HN.out.symm)
    go_enter Try.func30, Try.ntmps30
    go_wp2
    go_quiet (fail)
    go_wp2
    go_ret
    exact ⟨ret_bool H.out.symm, _, rfl⟩
  · have H : Hid (v = false) := hidp (by rw [← HV.out]; unfold overB; rw [HN.out]; simpa using e)
    have hlt : pt < m := by omega
    have hne : decide ((m : Int) ≤ (pt : Int)) = false := by simp; omega
    go_enter Try.func30, Try.ntmps30
    go_wp2
    go_quiet (fail)
    go_wp2
    go_ret
    exact ⟨ret_bool (by rw [H.out]; first | rfl | (simp; omega)), _, rfl⟩
theorem rkind_any (h : RJ W w b t pa pc ps rel pt lf tb A n c bs us) : Calls Try.prog 25 #[.pointer (some ⟨b, 0, none⟩)] w fun e w' => e = .returned (.int .i64 (partV ps pt).kind) ∧ Qt w w' := by
  have O := rover_any h
  cases ho : overB ps pt
  · have hlt : pt < ps.length := by have := h.at_; unfold overB at ho; simp at ho; omega
    rw [ho] at O
    obtain ⟨p, HP⟩ : ∃ p, Hid (ps.getD pt default = p) := ⟨_, rfl⟩
    have Hp : Hid (partV ps pt = p) := hidp (by unfold partV; rw [if_pos hlt, HP.out])
    rw [Hp.out]
    obtain ⟨g, off, rfl, hc⟩ := h.parts0.resolve_left (by intro e; rw [e] at hlt; simp at hlt)
    have Hc := hidp (HP.out ▸ hc pt hlt)
    have h0 := hidp h
    have hpl := h.len
    obtain ⟨m, HN⟩ : ∃ m, Hid (ps.length = m) := ⟨_, rfl⟩
    rw [HN.out] at hlt hpl
    clear hc h ho
    go_enter Try.func25, Try.ntmps25
    go_wp2_with fail
    refine O.mono ?_
    rintro e w2 ⟨rfl, hq⟩
    have h2 := h0.out.over hq.b
    obtain ⟨c5, c7, -, -⟩ := h2.cs
    obtain ⟨d0, d1, d2⟩ := Hc.out.keep (Keeps.of_below h2.tape.below)
    rw [HN.out] at c5
    have Hq := hidp hq
    clear O h2 d1 d2 hq
    go_wp2_with fail
    go_quiet (fail)
    go_wp2
    go_ret
    exact ⟨rfl, Hq.out.add _⟩
  · have Hp : Hid (partV ps pt = ⟨0, 0, 0⟩) := hidp (by unfold partV; unfold overB at ho; simp at ho; rw [if_neg (by omega)])
    rw [Hp.out]
    rw [ho] at O
    clear ho h
    go_enter Try.func25, Try.ntmps25
    go_wp2_with fail
    refine O.mono ?_
    rintro e w2 ⟨rfl, hq⟩
    go_wp2_with fail
    go_ret
    exact ⟨rfl, hq⟩
theorem rres_any (h : RJ W w b t pa pc ps rel pt lf tb A n c bs us) : Calls Try.prog 28 #[.pointer (some ⟨b, 0, none⟩)] w fun e w' => e = .returned (.int .i64 (partV ps pt).res) ∧ Qt w w' := by
  have O := rover_any h
  cases ho : overB ps pt
  · have hlt : pt < ps.length := by have := h.at_; unfold overB at ho; simp at ho; omega
    rw [ho] at O
    obtain ⟨p, HP⟩ : ∃ p, Hid (ps.getD pt default = p) := ⟨_, rfl⟩
    have Hp : Hid (partV ps pt = p) := hidp (by unfold partV; rw [if_pos hlt, HP.out])
    rw [Hp.out]
    obtain ⟨g, off, rfl, hc⟩ := h.parts0.resolve_left (by intro e; rw [e] at hlt; simp at hlt)
    have Hc := hidp (HP.out ▸ hc pt hlt)
    have h0 := hidp h
    have hpl := h.len
    obtain ⟨m, HN⟩ : ∃ m, Hid (ps.length = m) := ⟨_, rfl⟩
    rw [HN.out] at hlt hpl
    clear hc h ho
    go_enter Try.func28, Try.ntmps28
    go_wp2_with fail
    refine O.mono ?_
    rintro e w2 ⟨rfl, hq⟩
    have h2 := h0.out.over hq.b
    obtain ⟨c5, c7, -, -⟩ := h2.cs
    obtain ⟨d0, d1, d2⟩ := Hc.out.keep (Keeps.of_below h2.tape.below)
    rw [HN.out] at c5
    have Hq := hidp hq
    clear O h2 d1 d0 hq
    go_wp2_with fail
    go_quiet (fail)
    go_wp2
    go_ret
    exact ⟨rfl, Hq.out.add _⟩
  · have Hp : Hid (partV ps pt = ⟨0, 0, 0⟩) := hidp (by unfold partV; unfold overB at ho; simp at ho; rw [if_neg (by omega)])
    rw [Hp.out]
    rw [ho] at O
    clear ho h
    go_enter Try.func28, Try.ntmps28
    go_wp2_with fail
    refine O.mono ?_
    rintro e w2 ⟨rfl, hq⟩
    go_wp2_with fail
    go_ret
    exact ⟨rfl, hq⟩
def RJPost (W w : World) (b : Nat) (t : Five) (pa : Option Addr) (pc : Nat) (ps : List PartM) (rel : Int) (pt : Nat) (lf : Int) (tb : Nat) (A : Option Addr) (n c : Nat) (bs : List Int) (us : Nat) (v : Value) (e : Ending) (w' : World) : Prop :=
  e = .returned v ∧ RJ W w' b t pa pc ps rel pt lf tb A n c bs us ∧ Turned [b, tb] w w'
set_option maxHeartbeats 1000000 in
theorem rbegin_any (h : RJ W w b t pa pc ps rel pt lf tb A n c bs us) (hu : us < 1000000000000) : Calls Try.prog 43 #[.pointer (some ⟨b, 0, none⟩)] w (RJPost W w b t pa pc ps rel pt (beginL bs us ps pt) tb A n c bs (beginU us ps pt) (.tuple #[])) := by
  obtain ⟨l, HL⟩ : ∃ l, Hid (beginL bs us ps pt = l) := ⟨_, rfl⟩
  obtain ⟨u2, HU⟩ : ∃ l, Hid (beginU us ps pt = l) := ⟨_, rfl⟩
  rw [HL.out, HU.out]
  have hne := h.ne
  have J0 := h.left 0
  obtain ⟨-, -, c8, -⟩ := h.cs
  have f8 := h.blk.frozen 8
  have T0 : Turned [b, tb] w (w.setCell ⟨b, 8, none⟩ (.int .i64 0)) := (h.set 8 (.int .i64 0)).mono (by simp)
  have HB := hidp h.hb
  have HTB := hidp h.tape.hb
  clear h
  cases ho : overB ps pt
  · have hlt : pt < ps.length := by have := J0.at_; unfold overB at ho; simp at ho; omega
    obtain ⟨p, HP⟩ : ∃ p, Hid (ps.getD pt default = p) := ⟨_, rfl⟩
    have Ip : Hid (I64 p.len) := hidp ((J0.wf p (by rw [← HP.out]; exact partsD_mem hlt)).2.1)
    have HL0 : Hid (pickV bs us 1 p.len = l) := hidp (by rw [← HL.out]; unfold beginL; rw [if_pos hlt, HP.out])
    have HU0 : Hid (usedV us 1 p.len = u2) := hidp (by rw [← HU.out]; unfold beginU; rw [if_pos hlt, HP.out])
    obtain ⟨g, off, rfl, hc⟩ := J0.parts0.resolve_left (by intro e; rw [e] at hlt; simp at hlt)
    have Hc := hidp (HP.out ▸ hc pt hlt)
    have hpl := J0.len
    obtain ⟨m, HN⟩ : ∃ m, Hid (ps.length = m) := ⟨_, rfl⟩
    have O := rover_any J0
    rw [ho] at O
    rw [HN.out] at hlt hpl
    clear ho hc
    go_enter Try.func43, Try.ntmps43
    go_wp2_with fail
    refine O.mono ?_
    rintro e w2 ⟨rfl, hq⟩
    have J1 : RJ W w2.drew b t (some ⟨g, off, none⟩) pc ps rel pt 0 tb A n c bs us := (J0.over hq.b).turned ((Turned.refl [] w2).drew) (by simp) (by simp) (by simp)
    have T1 : Turned [b, tb] w w2.drew := (T0.trans (Turned.of_below hq.b [b, tb]) (fun k hk => .inl hk)).drew
    clear O J0 T0 hq
    obtain ⟨k5, k7, -, k9⟩ := J1.cs
    obtain ⟨-, kl, -⟩ := Hc.out.keep (Keeps.of_below J1.tape.below)
    rw [HN.out] at k5
    have hs : w2.drew.cell? ⟨b, 5, none⟩ = some (.slice (some ⟨g, off, none⟩) m pc) ∧ w2.drew.cell? ⟨b, 7, none⟩ = some (.int .i64 pt) ∧ w2.drew.cell? ⟨b, 9, none⟩ = some (.pointer (some ⟨tb, 0, none⟩)) ∧ w2.drew.cell? ⟨g, off + pt * 3 + 1, none⟩ = some (.int .i64 p.len) := ⟨k5, k7, k9, kl⟩
    clear k5 k7 k9 kl
    go_wp2_with fail
    refine wp_region_held_drew (S := fun w' => w'.cell? ⟨b, 5, none⟩ = some (.slice (some ⟨g, off, none⟩) m pc) ∧ w'.cell? ⟨b, 7, none⟩ = some (.int .i64 pt) ∧ w'.cell? ⟨b, 9, none⟩ = some (.pointer (some ⟨tb, 0, none⟩)) ∧ w'.cell? ⟨g, off + pt * 3 + 1, none⟩ = some (.int .i64 p.len)) (by kernel_rfl) ?_ (fun hHeld => ?_)
    · exact hs
    refine wpAnyH_take (i := 0) (v := ?_) rfl (by kernel_rfl) (by kernel_rfl) (by kernel_rfl) (fun _ _ _ h => h) (Or.inl ⟨by rfl, ?_⟩) (by assumption) ?_
    rotate_left 1
    · ((intro w hSw; (try dsimp only at hSw); go_simp); (try with_reducible rfl))
    simp only [Act.put, List.setIfInBounds_toArray, List.set_cons_zero, List.set_cons_succ, List.getElem_toArray, List.getElem_cons_zero, List.getElem_cons_succ]
    refine wpAnyH_take (i := 1) (v := ?_) rfl (by kernel_rfl) (by kernel_rfl) (by kernel_rfl) (fun _ _ _ h => h) (Or.inl ⟨by rfl, ?_⟩) (by assumption) ?_
    rotate_left 1
    · ((intro w hSw; (try dsimp only at hSw); go_simp); (try with_reducible rfl))
    simp only [Act.put, List.setIfInBounds_toArray, List.set_cons_zero, List.set_cons_succ, List.getElem_toArray, List.getElem_cons_zero, List.getElem_cons_succ]
    refine wpAnyH_take (i := 2) (v := ?_) rfl (by kernel_rfl) (by kernel_rfl) (by kernel_rfl) (fun _ _ _ h => h) (Or.inl ⟨by rfl, ?_⟩) (by assumption) ?_
    rotate_left 1
    · ((intro w hSw; (try dsimp only at hSw); go_simp); (try with_reducible rfl))
    simp only [Act.put, List.setIfInBounds_toArray, List.set_cons_zero, List.set_cons_succ, List.getElem_toArray, List.getElem_cons_zero, List.getElem_cons_succ]
    refine wpAnyH_take (i := 3) (v := ?_) rfl (by kernel_rfl) (by kernel_rfl) (by kernel_rfl) (fun _ _ _ h => h) (Or.inl ⟨by rfl, ?_⟩) (by assumption) ?_
    rotate_left 1
    · ((intro w hSw; (try dsimp only at hSw); go_simp); (try with_reducible rfl))
    simp only [Act.put, List.setIfInBounds_toArray, List.set_cons_zero, List.set_cons_succ, List.getElem_toArray, List.getElem_cons_zero, List.getElem_cons_succ]
    refine wpAnyH_take (i := 4) (v := ?_) rfl (by kernel_rfl) (by kernel_rfl) (by kernel_rfl) (fun _ _ _ h => h) (Or.inl ⟨by rfl, ?_⟩) (by assumption) ?_
    rotate_left 1
    · ((intro w hSw; (try dsimp only at hSw); go_simp); (try with_reducible rfl))
    simp only [Act.put, List.setIfInBounds_toArray, List.set_cons_zero, List.set_cons_succ, List.getElem_toArray, List.getElem_cons_zero, List.getElem_cons_succ]
    refine wpAnyH_take (i := 5) (v := ?_) rfl (by kernel_rfl) (by kernel_rfl) (by kernel_rfl) (fun _ _ _ h => h) (Or.inl ⟨by rfl, ?_⟩) (by assumption) ?_
    rotate_left 1
    · ((intro w hSw; (try dsimp only at hSw); go_simp); (try with_reducible rfl))
    simp only [Act.put, List.setIfInBounds_toArray, List.set_cons_zero, List.set_cons_succ, List.getElem_toArray, List.getElem_cons_zero, List.getElem_cons_succ]
    refine wpAnyH_take (i := 6) (v := ?_) rfl (by kernel_rfl) (by kernel_rfl) (by kernel_rfl) (fun _ _ _ h => h) (Or.inl ⟨by rfl, ?_⟩) (by assumption) ?_
    rotate_left 1
    · ((intro w hSw; (try dsimp only at hSw); go_simp); (try with_reducible rfl))
    simp only [Act.put, List.setIfInBounds_toArray, List.set_cons_zero, List.set_cons_succ, List.getElem_toArray, List.getElem_cons_zero, List.getElem_cons_succ]
    refine wpAnyH_take (i := 7) (v := ?_) rfl (by kernel_rfl) (by kernel_rfl) (by kernel_rfl) (fun _ _ _ h => h) (Or.inl ⟨by rfl, ?_⟩) (by assumption) ?_
    rotate_left 1
    · ((intro w hSw; (try dsimp only at hSw); go_simp); (try with_reducible rfl))
    simp only [Act.put, List.setIfInBounds_toArray, List.set_cons_zero, List.set_cons_succ, List.getElem_toArray, List.getElem_cons_zero, List.getElem_cons_succ]
    refine wpAnyH_take (i := 8) (v := ?_) rfl (by kernel_rfl) (by kernel_rfl) (by kernel_rfl) (fun _ _ _ h => h) (Or.inl ⟨by rfl, ?_⟩) (by assumption) ?_
    rotate_left 1
    · ((intro w hSw; (try dsimp only at hSw); go_simp); (try with_reducible rfl))
    simp only [Act.put, List.setIfInBounds_toArray, List.set_cons_zero, List.set_cons_succ, List.getElem_toArray, List.getElem_cons_zero, List.getElem_cons_succ]
    refine wpAnyH_take (i := 9) (v := ?_) rfl (by kernel_rfl) (by kernel_rfl) (by kernel_rfl) (fun _ _ _ h => h) (Or.inl ⟨by rfl, ?_⟩) (by assumption) ?_
    rotate_left 1
    · ((intro w hSw; (try dsimp only at hSw); go_simp); (try with_reducible rfl))
    simp only [Act.put, List.setIfInBounds_toArray, List.set_cons_zero, List.set_cons_succ, List.getElem_toArray, List.getElem_cons_zero, List.getElem_cons_succ]
    refine wpAnyH_take (i := 10) (v := ?_) rfl (by kernel_rfl) (by kernel_rfl) (by kernel_rfl) (fun _ _ _ h => h) (Or.inl ⟨by rfl, ?_⟩) (by assumption) ?_
    rotate_left 1
    · ((intro w hSw; (try dsimp only at hSw); go_simp); (try with_reducible rfl))
    simp only [Act.put, List.setIfInBounds_toArray, List.set_cons_zero, List.set_cons_succ, List.getElem_toArray, List.getElem_cons_zero, List.getElem_cons_succ]
    refine wpAnyH_take (i := 11) (v := ?_) rfl (by kernel_rfl) (by kernel_rfl) (by kernel_rfl) (fun _ _ _ h => h) (Or.inl ⟨by rfl, ?_⟩) (by assumption) ?_
    rotate_left 1
    · ((intro w hSw; (try dsimp only at hSw); go_simp); (try with_reducible rfl))
    simp only [Act.put, List.setIfInBounds_toArray, List.set_cons_zero, List.set_cons_succ, List.getElem_toArray, List.getElem_cons_zero, List.getElem_cons_succ]
    refine wpAnyH_take (i := 12) (v := ?_) rfl (by kernel_rfl) (by kernel_rfl) (by kernel_rfl) (fun _ _ _ h => h) (Or.inl ⟨by rfl, ?_⟩) (by assumption) ?_
    rotate_left 1
    · ((intro w hSw; (try dsimp only at hSw); go_simp); (try with_reducible rfl))
    simp only [Act.put, List.setIfInBounds_toArray, List.set_cons_zero, List.set_cons_succ, List.getElem_toArray, List.getElem_cons_zero, List.getElem_cons_succ]
    refine wpAnyH_take (i := 13) (v := ?_) rfl (by kernel_rfl) (by kernel_rfl) (by kernel_rfl) (fun _ _ _ h => h) (Or.inl ⟨by rfl, ?_⟩) (by assumption) ?_
    rotate_left 1
    · ((intro w hSw; (try dsimp only at hSw); go_simp); (try with_reducible rfl))
    simp only [Act.put, List.setIfInBounds_toArray, List.set_cons_zero, List.set_cons_succ, List.getElem_toArray, List.getElem_cons_zero, List.getElem_cons_succ]
    refine wpAnyH_take (i := 14) (v := ?_) rfl (by kernel_rfl) (by kernel_rfl) (by kernel_rfl) (fun _ _ _ h => h) (Or.inl ⟨by rfl, ?_⟩) (by assumption) ?_
    rotate_left 1
    · ((intro w hSw; (try dsimp only at hSw); go_simp); (try with_reducible rfl))
    simp only [Act.put, List.setIfInBounds_toArray, List.set_cons_zero, List.set_cons_succ, List.getElem_toArray, List.getElem_cons_zero, List.getElem_cons_succ]
    refine wpAnyH_take (i := 15) (v := ?_) rfl (by kernel_rfl) (by kernel_rfl) (by kernel_rfl) (fun _ _ _ h => h) (Or.inl ⟨by rfl, ?_⟩) (by assumption) ?_
    rotate_left 1
    · ((intro w hSw; (try dsimp only at hSw); go_simp); (try with_reducible rfl))
    simp only [Act.put, List.setIfInBounds_toArray, List.set_cons_zero, List.set_cons_succ, List.getElem_toArray, List.getElem_cons_zero, List.getElem_cons_succ]
    refine wpAnyH_take (i := 16) (v := ?_) rfl (by kernel_rfl) (by kernel_rfl) (by kernel_rfl) (fun _ _ _ h => h) (Or.inl ⟨by rfl, ?_⟩) (by assumption) ?_
    rotate_left 1
    · ((intro w hSw; (try dsimp only at hSw); go_simp); (try with_reducible rfl))
    simp only [Act.put, List.setIfInBounds_toArray, List.set_cons_zero, List.set_cons_succ, List.getElem_toArray, List.getElem_cons_zero, List.getElem_cons_succ]
    refine wpAnyH_ready (rs := [17]) (by kernel_rfl) (by simp) ?_
    refine AllReadyH.cons rfl (fun K hK => ?_) AllReadyH.nil
    go_simp
    refine (rpick_any J1.tape (by decide) Ip.out hu).mono ?_
    rintro e w3 ⟨rfl, P3, t3⟩
    rw [HL0.out]
    rw [HU0.out] at P3
    have B3 := J1.blk.turned t3 (by simpa using hne)
    have J3 : RJ W w3 b t (some ⟨g, off, none⟩) pc ps rel pt 0 tb A n c bs u2 := ⟨B3, J1.parts0, P3, J1.hb, J1.ne, J1.len, J1.at_, J1.wf⟩
    replace T1 := T1.trans t3 (fun k hk => by simp at hk; subst hk; left; simp)
    obtain ⟨k5, k7, k8, k9⟩ := J3.cs
    obtain ⟨-, kl, -⟩ := Hc.out.keep (Keeps.of_below J3.tape.below)
    rw [HN.out] at k5
    replace hs : w3.cell? ⟨b, 5, none⟩ = some (.slice (some ⟨g, off, none⟩) m pc) ∧ w3.cell? ⟨b, 7, none⟩ = some (.int .i64 pt) ∧ w3.cell? ⟨b, 9, none⟩ = some (.pointer (some ⟨tb, 0, none⟩)) ∧ w3.cell? ⟨g, off + pt * 3 + 1, none⟩ = some (.int .i64 p.len) := ⟨k5, k7, k9, kl⟩
    clear hHeld J1 t3 P3 B3 k5 k7 k9 kl
    go_wp2_with fail
    refine hK.out _ _ ?_ (fun hHeld => ?_)
    · exact hs
    clear hK K
    try simp only [Act.put, List.setIfInBounds_toArray, List.set_cons_zero, List.set_cons_succ, List.getElem_toArray, List.getElem_cons_zero, List.getElem_cons_succ]
    have g8 := J3.blk.frozen 8
    have J4 := J3.left l
    replace T1 := T1.setCell (p := ⟨b, 8, none⟩) (.inl (by simp)) (.int .i64 l)
    obtain ⟨k5, k7, -, k9⟩ := J4.cs
    obtain ⟨-, kl, -⟩ := Hc.out.keep (Keeps.of_below J4.tape.below)
    rw [HN.out] at k5
    have hs2 := And.intro k5 (And.intro k7 (And.intro k9 kl))
    clear k5 k7 k9 kl
    refine wpAnyH_take (i := 18) (v := ?_) rfl (by kernel_rfl) (by kernel_rfl) (by kernel_rfl) (fun _ _ _ h => h) (Or.inl ⟨by rfl, ?_⟩) (by assumption) ?_
    rotate_left 1
    · ((intro w hSw; (try dsimp only at hSw); go_simp); (try with_reducible rfl))
    simp only [Act.put, List.setIfInBounds_toArray, List.set_cons_zero, List.set_cons_succ, List.getElem_toArray, List.getElem_cons_zero, List.getElem_cons_succ]
    refine wpAnyH_take (i := 19) (v := ?_) rfl (by kernel_rfl) (by kernel_rfl) (by kernel_rfl) (fun _ _ _ h => h) (Or.inl ⟨by rfl, ?_⟩) (by assumption) ?_
    rotate_left 1
    · ((intro w hSw; (try dsimp only at hSw); go_simp); (try with_reducible rfl))
    simp only [Act.put, List.setIfInBounds_toArray, List.set_cons_zero, List.set_cons_succ, List.getElem_toArray, List.getElem_cons_zero, List.getElem_cons_succ]
    refine wpAnyH_ready (rs := [20]) (by kernel_rfl) (by simp) ?_
    refine AllReadyH.cons rfl (fun K hK => ?_) AllReadyH.nil
    go_simp
    refine hK.out _ _ ?_ (fun hHeld => ?_)
    · exact hs2
    clear hK K
    try simp only [Act.put, List.setIfInBounds_toArray, List.set_cons_zero, List.set_cons_succ, List.getElem_toArray, List.getElem_cons_zero, List.getElem_cons_succ]
    refine wpAnyH_done (by kernel_rfl) ?_ _
    go_wp2_with fail
    refine bodyPost_ret (v := .tuple #[]) (by simp [results, Try.results43, go_sem]) rfl ⟨rfl, J4, T1⟩
  · have HL0 : Hid (l = 0) := hidp (by rw [← HL.out]; unfold beginL; rw [if_neg (by unfold overB at ho; simp at ho; omega)])
    have HU0 : Hid (u2 = us) := hidp (by rw [← HU.out]; unfold beginU; rw [if_neg (by unfold overB at ho; simp at ho; omega)])
    rw [HL0.out, HU0.out]
    have O := rover_any J0
    rw [ho] at O
    clear ho
    go_enter Try.func43, Try.ntmps43
    go_wp2_with fail
    refine O.mono ?_
    rintro e w2 ⟨rfl, hq⟩
    have J1 := J0.over hq.b
    have T1 := T0.trans (Turned.of_below hq.b [b, tb]) (fun k hk => .inl hk)
    clear O J0 T0
    go_wp2_with fail
    refine bodyPost_ret (v := .tuple #[]) (by simp [results, Try.results43, go_sem]) rfl ⟨rfl, J1, T1⟩

theorem rtick_over (h : RJ W w b t pa pc ps rel pt lf tb A n c bs us) (ho : overB ps pt = true) : Calls Try.prog 33 #[.pointer (some ⟨b, 0, none⟩)] w (RJPost W w b t pa pc ps rel pt lf tb A n c bs us (.bool false)) := by
  have O := rover_any h
  rw [ho] at O
  clear ho
  go_enter Try.func33, Try.ntmps33
  go_wp2_with fail
  refine O.mono ?_
  rintro e w2 ⟨rfl, hq⟩
  have h2 := h.over hq.b
  have t2 := Turned.of_below hq.b [b, tb]
  clear O h hq
  go_wp2_with fail
  go_ret
  exact ⟨rfl, h2, t2⟩
theorem rtick_mid (h : RJ W w b t pa pc ps rel pt lf tb A n c bs us) (ho : overB ps pt = false) (hl : 1 < lf) (hl2 : lf ≤ 1000000) : Calls Try.prog 33 #[.pointer (some ⟨b, 0, none⟩)] w (RJPost W w b t pa pc ps rel pt (lf - 1) tb A n c bs us (.bool false)) := by
  have O := rover_any h
  rw [ho] at O
  clear ho
  go_enter Try.func33, Try.ntmps33
  go_wp2_with fail
  refine O.mono ?_
  rintro e w2 ⟨rfl, hq⟩
  have h2 := h.over hq.b
  have t2 := Turned.of_below hq.b [b, tb]
  clear O h hq
  obtain ⟨-, -, c8, -⟩ := h2.cs
  have f8 := h2.blk.frozen 8
  have h3 := h2.left (lf - 1)
  obtain ⟨-, -, d8, -⟩ := h3.cs
  have t3 := t2.setCell (p := ⟨b, 8, none⟩) (.inl (by simp)) (.int .i64 (lf - 1))
  clear h2 t2
  go_wp2_with fail
  go_ret
  exact ⟨rfl, h3, t3⟩
theorem rtick_end (h : RJ W w b t pa pc ps rel pt lf tb A n c bs us) (ho : overB ps pt = false) (hl : lf ≤ 1) (hl2 : 0 ≤ lf) (hu : us < 1000000000000) : Calls Try.prog 33 #[.pointer (some ⟨b, 0, none⟩)] w (RJPost W w b t pa pc ps rel (pt + 1) (beginL bs us ps (pt + 1)) tb A n c bs (beginU us ps (pt + 1)) (.bool true)) := by
  have hlt : pt + 1 ≤ ps.length := by have := h.at_; unfold overB at ho; simp at ho; omega
  have hpl : pt + 1 ≤ 1000 := Nat.le_trans hlt h.len
  have O := rover_any h
  rw [ho] at O
  clear ho
  go_enter Try.func33, Try.ntmps33
  go_wp2_with fail
  refine O.mono ?_
  rintro e w2 ⟨rfl, hq⟩
  have h2 := h.over hq.b
  have t2 := Turned.of_below hq.b [b, tb]
  clear O h hq
  obtain ⟨-, -, c8, -⟩ := h2.cs
  have f8 := h2.blk.frozen 8
  have h3 := h2.left (lf - 1)
  obtain ⟨-, d7, d8, -⟩ := h3.cs
  have f3 := h3.blk.frozen 7
  have t3 := t2.setCell (p := ⟨b, 8, none⟩) (.inl (by simp)) (.int .i64 (lf - 1))
  have h4 := h3.part (pt + 1) hlt
  have t4 := t3.setCell (p := ⟨b, 7, none⟩) (.inl (by simp)) (.int .i64 ((pt + 1 : Nat) : Int))
  have e4 : ((pt + 1 : Nat) : Int) = (pt : Int) + 1 := by omega
  rw [e4] at h4 t4
  clear h2 h3 t2 t3 e4
  go_wp2_with fail
  refine (rbegin_any h4 hu).mono ?_
  rintro e w5 ⟨rfl, h5, t5⟩
  have t6 := t4.trans t5 (fun k hk => .inl hk)
  clear h4 t4 t5
  go_wp2_with fail
  go_ret
  exact ⟨rfl, h5, t6⟩
def NewRPost (W w : World) (t : Five) (pa : Option Addr) (pc : Nat) (ps : List PartM) (rel : Int) (tb : Nat) (A : Option Addr) (n c : Nat) (bs : List Int) (us : Nat) (e : Ending) (w' : World) : Prop :=
  ∃ b, e = .returned (.pointer (some ⟨b, 0, none⟩)) ∧ RJ W w' b t pa pc ps rel 0 (beginL bs us ps 0) tb A n c bs (beginU us ps 0) ∧ Turned [tb] w w' ∧ w.heap.size ≤ b
theorem newr_any {m : Nat} (hm : m = ps.length) (hp : PartsAt W pa ps) (hwf : ∀ p ∈ ps, p.wf) (hl : ps.length ≤ 1000) (ht : RT W w tb A n c bs us) (hu : us < 1000000000000) :
    Calls Try.prog 21 #[.agg #[.string t.v0, .int .i64 t.v1, .int .i64 t.v2, .int .i64 t.v3, .int .i64 t.v4, .slice pa m pc], .int .i64 rel, .pointer (some ⟨tb, 0, none⟩)] w (NewRPost W w t pa pc ps rel tb A n c bs us) := by
  subst hm
  have hub : Below w.heap.size w (w.alloc (.cells #[.string t.v0, .int .i64 t.v1, .int .i64 t.v2, .int .i64 t.v3, .int .i64 t.v4, .slice pa ps.length pc] 38)) := (Below.refl _ _).alloc (Nat.le_refl _) _
  have hu2 : Below w.heap.size w ((w.alloc (.cells #[.string t.v0, .int .i64 t.v1, .int .i64 t.v2, .int .i64 t.v3, .int .i64 t.v4, .slice pa ps.length pc] 38)).alloc (.cells (rjc t pa ps.length pc rel 0 0 tb) 45)) := hub.alloc hub.size _
  have hX : RJ W ((w.alloc (.cells #[.string t.v0, .int .i64 t.v1, .int .i64 t.v2, .int .i64 t.v3, .int .i64 t.v4, .slice pa ps.length pc] 38)).alloc (.cells (rjc t pa ps.length pc rel 0 0 tb) 45)) (w.heap.size + 1) t pa pc ps rel 0 0 tb A n c bs us := by
    have B := Bk.new (w.alloc (.cells #[.string t.v0, .int .i64 t.v1, .int .i64 t.v2, .int .i64 t.v3, .int .i64 t.v4, .slice pa ps.length pc] 38)) 45 (rjc t pa ps.length pc rel 0 0 tb)
    rw [show (w.alloc (.cells #[.string t.v0, .int .i64 t.v1, .int .i64 t.v2, .int .i64 t.v3, .int .i64 t.v4, .slice pa ps.length pc] 38)).heap.size = w.heap.size + 1 by simp] at B
    have hbs := ht.below.size
    have hlt := ht.blk.lt
    exact ⟨B, hp, ht.over hu2, by omega, by omega, hl, Nat.zero_le _, hwf⟩
  have hs2 := hu2
  unfold rjc at hX hs2
  clear hp hwf ht hub hu2
  go_enter Try.func21, Try.ntmps21
  go_wp2_with fail
  refine (rbegin_any hX hu).mono ?_
  rintro e w2 ⟨rfl, h2, t2⟩
  go_wp2_with fail
  go_ret
  refine ⟨_, rfl, h2, ?_, by omega⟩
  refine (Turned.of_below hs2 [tb]).trans t2 ?_
  intro k hk
  simp at hk
  rcases hk with rfl | rfl
  · right; omega
  · left; simp
end
end Go.Proofs.Ytbnncaljekifdaa
