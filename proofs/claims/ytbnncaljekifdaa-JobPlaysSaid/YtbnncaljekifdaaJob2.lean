/- job.Job: Tick, New, Copy. -/
import Derived.Test.YtbnncaljekifdaaJob
namespace Go.Proofs.Ytbnncaljekifdaa
open Go.ChangeShapes Go.WideShapes Go.ChangeAt Go.RowKit
set_option linter.unusedVariables false
set_option linter.unusedSimpArgs false
section
variable {w w' : World} {b pt c tb us : Nat} {ps : List PartM} {rel lf : Int} {A : Option Addr} {F G : List Nat} {bs : List Int}
theorem JT.hbt (h : JT w b ps rel pt lf A c tb bs us F) : b ≠ tb := fun e => h.ap b (by simp) (e ▸ h.tape.head)
theorem JT.hbF (h : JT w b ps rel pt lf A c tb bs us F) : ∀ k ∈ F, k ∉ [b] := fun k hk e => by simp at e; subst e; exact h.ap k (by simp) hk
theorem JT.left (h : JT w b ps rel pt lf A c tb bs us F) (l : Int) : JT (w.setCell ⟨b, 2, none⟩ (.int .i64 l)) b ps rel pt l A c tb bs us F := ⟨h.job.left l, h.tape.turned (h.job.set 2 _) h.hbF, h.ap⟩
theorem JT.part (h : JT w b ps rel pt lf A c tb bs us F) (n : Nat) (hn : n ≤ ps.length) : JT (w.setCell ⟨b, 1, none⟩ (.int .i64 n)) b ps rel n lf A c tb bs us F := ⟨h.job.part n hn, h.tape.turned (h.job.set 1 _) h.hbF, h.ap⟩

theorem tick_over (h : JT w b ps rel pt lf A c tb bs us F) (ho : overB ps pt = true) : Calls Try.prog 32 #[.pointer (some ⟨b, 0, none⟩)] w (JTPost w b ps rel pt lf A c tb bs us F (.bool false)) := by
  have O := over_any h.job
  rw [ho] at O
  clear ho
  go_enter Try.func32, Try.ntmps32
  go_wp2_with fail
  refine O.mono ?_
  rintro e w2 ⟨rfl, hq⟩
  have h2 := h.over hq.b
  have t2 := Turned.of_below hq.b [b, tb]
  clear O h hq
  go_wp2_with fail
  go_ret
  exact ⟨rfl, h2, t2⟩
theorem tick_mid (h : JT w b ps rel pt lf A c tb bs us F) (ho : overB ps pt = false) (hl : 1 < lf) (hl2 : lf ≤ 1000000) : Calls Try.prog 32 #[.pointer (some ⟨b, 0, none⟩)] w (JTPost w b ps rel pt (lf - 1) A c tb bs us F (.bool false)) := by
  have O := over_any h.job
  rw [ho] at O
  clear ho
  go_enter Try.func32, Try.ntmps32
  go_wp2_with fail
  refine O.mono ?_
  rintro e w2 ⟨rfl, hq⟩
  have h2 := h.over hq.b
  have t2 := Turned.of_below hq.b [b, tb]
  clear O h hq
  obtain ⟨-, -, c2, -, -⟩ := h2.job.cs
  have f2 := h2.job.blk.frozen 2
  have h3 := h2.left (lf - 1)
  obtain ⟨-, -, d2, -, -⟩ := h3.job.cs
  have t3 := t2.setCell (p := ⟨b, 2, none⟩) (.inl (by simp)) (.int .i64 (lf - 1))
  clear h2 t2
  go_wp2_with fail
  go_ret
  exact ⟨rfl, h3, t3⟩
theorem tick_end (h : JT w b ps rel pt lf A c tb bs us F) (ho : overB ps pt = false) (hl : lf ≤ 1) (hl2 : 0 ≤ lf) (hu : us < 1000000000000) : Calls Try.prog 32 #[.pointer (some ⟨b, 0, none⟩)] w (JTPost w b ps rel (pt + 1) (beginL bs us ps (pt + 1)) A c tb bs (beginU us ps (pt + 1)) F (.bool true)) := by
  have hlt : pt + 1 ≤ ps.length := by have := h.job.at_; unfold overB at ho; simp at ho; omega
  have hpl : pt + 1 ≤ 1000 := Nat.le_trans hlt h.job.len
  have O := over_any h.job
  rw [ho] at O
  clear ho
  go_enter Try.func32, Try.ntmps32
  go_wp2_with fail
  refine O.mono ?_
  rintro e w2 ⟨rfl, hq⟩
  have h2 := h.over hq.b
  have t2 := Turned.of_below hq.b [b, tb]
  clear O h hq
  obtain ⟨-, -, c2, -, -⟩ := h2.job.cs
  have f2 := h2.job.blk.frozen 2
  have h3 := h2.left (lf - 1)
  obtain ⟨-, d1, d2, -, -⟩ := h3.job.cs
  have f3 := h3.job.blk.frozen 1
  have t3 := t2.setCell (p := ⟨b, 2, none⟩) (.inl (by simp)) (.int .i64 (lf - 1))
  have h4 := h3.part (pt + 1) hlt
  have t4 := t3.setCell (p := ⟨b, 1, none⟩) (.inl (by simp)) (.int .i64 ((pt + 1 : Nat) : Int))
  have e4 : ((pt + 1 : Nat) : Int) = (pt : Int) + 1 := by omega
  rw [e4] at h4 t4
  clear h2 h3 t2 t3 e4
  go_wp2_with fail
  refine (begin_any h4 hu).mono ?_
  rintro e w5 ⟨rfl, h5, t5⟩
  have t6 := t4.trans t5 (fun k hk => .inl hk)
  clear h4 t4 t5
  go_wp2_with fail
  go_ret
  exact ⟨rfl, h5, t6⟩

/-- a job of the call's own -/
def NewJPost (w : World) (ps : List PartM) (rel : Int) (tb : Nat) (bs : List Int) (us : Nat) (F : List Nat) (e : Ending) (w' : World) : Prop :=
  ∃ b A c, e = .returned (.pointer (some ⟨b, 0, none⟩)) ∧ JT w' b ps rel 0 (beginL bs us ps 0) A c tb bs (beginU us ps 0) F ∧ Turned [tb] w w' ∧ ∀ k ∈ b :: fp A, w.heap.size ≤ k
theorem newj_any {nm : ByteArray} {per dl prio cl : Int} {pa : Option Addr} {pc n : Nat} (hn : n = ps.length) (hp : PartsAt w pa ps) (hsl : SlOk pa ps.length pc) (hwf : ∀ p ∈ ps, p.wf) (hl : ps.length ≤ 1000) (ht : Tp w tb bs us F) (hu : us < 1000000000000) :
    Calls Try.prog 20 #[.agg #[.string nm, .int .i64 per, .int .i64 dl, .int .i64 prio, .int .i64 cl, .slice pa n pc], .int .i64 rel, .pointer (some ⟨tb, 0, none⟩)] w (NewJPost w ps rel tb bs us F) := by
  obtain ⟨i0, hi0, hz0, hz1, hz2⟩ := info_parts infoPart
  subst hn
  let u := w.alloc (.cells #[.string nm, .int .i64 per, .int .i64 dl, .int .i64 prio, .int .i64 cl, .slice pa ps.length pc] 38)
  have hub : Below w.heap.size w u := (Below.refl _ _).alloc (Nat.le_refl _) _
  have hus : w.heap.size ≤ u.heap.size := hub.size
  have H1 : Hid (pa = none → ps.length = 0 ∧ pc = 0) := hidp hsl.1
  have H2 : Hid ((ptc ps).length = ps.length * 3) := hidp (ptc_len ps)
  have H3 : Hid (Lies u.heap.size u pa (ptc ps)) := hidp (lies_parts (hp.keep (Keeps.of_below hub)))
  have H4 := hidp (ptc_one ps)
  have H5 : Hid (0 + ps.length ≤ maxLen) := hidp (by unfold maxLen; omega)
  have H6 : Hid ((0 + ps.length) * 24 ≤ 140737488355328) := hidp (by omega)
  have HW := hidp hwf
  have Ht := ht.over hub
  have HF := hidp ht.lt
  clear hp hsl hwf ht
  go_enter Try.func20, Try.ntmps20
  go_wp2_with (at_builtin; go_loud (refine wpList_app2 u rfl (.const (.slice none 0 0)) (.tmp 10) 36 rfl w.heap.size 49 i0 _ 3 24 Try.underlying36 hi0 hz0 hz1 hz2 rfl (by decide) none 0 0 [] rfl (World.ownsRow_nil _ _ _ _) u.heap.size pa ps.length pc (ptc ps) rfl H1.out H2.out H3.out H4.out H5.out H6.out hus ?_); intro A1 c1 w1 happ)
  have happ' := happ
  simp only [Nat.zero_add, List.nil_append] at happ'
  have hf : ∀ k ∈ fp A1, w.heap.size + 1 ≤ k ∧ k < w1.heap.size := fun k hk => by
    refine ⟨?_, (own_fp happ'.own k hk).2⟩
    rcases happ.fps k hk with h | h
    · simp [fp] at h
    · simpa [u] using h
  have hs1 : w.heap.size + 1 ≤ w1.heap.size := Nat.le_trans (by simp [u]) happ.turned.size
  have hP : PartsAt w1 A1 ps := parts_lie (B := w1.heap.size) (Lies.of_own happ'.own)
  have ht1 : Turned [] w w1 := (Turned.of_below hub []).trans (happ.turned.mono (G := []) (by simp [fp])) (by simp)
  have hX : JT (w1.alloc (.cells #[.int .i64 rel, .int .i64 0, .int .i64 0, .slice A1 ps.length c1, .pointer (some ⟨tb, 0, none⟩)] 68)) w1.heap.size ps rel 0 0 A1 c1 tb bs us F := by
    refine ⟨⟨Bk.new _ _ _, hP.turned' ((Turned.refl [] w1).alloc _) (by simp), fun hm => by have := hf _ hm; omega, fun k hk => by have := hf k hk; simp; omega, hl, Nat.zero_le _, HW.out⟩, (Ht.turned happ.turned (by simp [fp])).turned ((Turned.refl [] w1).alloc _) (by simp), ?_⟩
    intro k hk hm
    have := HF.out k hm
    rcases List.mem_cons.1 hk with rfl | hk
    · omega
    · have := hf k hk; omega
  have ht2 : Turned [] w (w1.alloc (.cells #[.int .i64 rel, .int .i64 0, .int .i64 0, .slice A1 ps.length c1, .pointer (some ⟨tb, 0, none⟩)] 68)) := ht1.alloc _
  have Hf := hidp hf
  clear happ happ' hP Ht HF hf ht1
  refine (begin_any hX hu).mono ?_
  rintro e w2 ⟨rfl, h2, t2⟩
  go_wp2_with fail
  go_ret
  refine ⟨_, _, _, rfl, h2, ?_, ?_⟩
  · refine (ht2.mono (by simp)).trans (t2.mono (G := [tb, w1.heap.size]) (by simp)) ?_
    intro k hk
    simp at hk
    rcases hk with rfl | rfl
    · left; simp
    · right; omega
  · intro k hk
    rcases List.mem_cons.1 hk with rfl | hk
    · omega
    · have := Hf.out k hk; omega
def CopyJPost (w : World) (ps : List PartM) (rel : Int) (pt : Nat) (lf : Int) (A : Option Addr) (c tb : Nat) (e : Ending) (w' : World) : Prop :=
  ∃ b, e = .returned (.pointer (some ⟨b, 0, none⟩)) ∧ JB w' b ps rel pt lf A c tb ∧ Below w.heap.size w w' ∧ w.heap.size ≤ b
theorem copyj_any {tb2 : Nat} (h : JB w b ps rel pt lf A c tb) : Calls Try.prog 31 #[.pointer (some ⟨b, 0, none⟩), .pointer (some ⟨tb2, 0, none⟩)] w (CopyJPost w ps rel pt lf A c tb2) := by
  obtain ⟨c0, c1, c2, c3, c4⟩ := h.cs
  have hb := h.blk.lt
  have h' := hidp h
  clear h
  go_enter Try.func31, Try.ntmps31
  go_wp2
  go_ret
  refine ⟨w.heap.size, rfl, ?_, ?_, Nat.le_refl _⟩
  · exact ⟨Bk.new _ _ _, h'.out.parts.turned' ((Turned.refl [] w).alloc _) (by simp), fun hm => by have := h'.out.low _ hm; omega, fun k hk => by have := h'.out.low k hk; simp; omega, h'.out.len, h'.out.at_, h'.out.wf⟩
  · exact (Below.refl _ _).alloc (Nat.le_refl _) _
end
end Go.Proofs.Ytbnncaljekifdaa
