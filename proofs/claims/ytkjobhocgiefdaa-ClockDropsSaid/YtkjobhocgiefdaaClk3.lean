/- clock: take: the first of a time, by slices.IndexFunc; spoke, Now, Len. -/
import Derived.Test.YtkjobhocgiefdaaClk2
namespace Go.Proofs.Ytkjobhocgiefdaa
open Go.ChangeShapes Go.WideShapes Go.ChangeAt Go.RowKit Go.Conc
set_option linter.unusedVariables false
set_option linter.unusedSimpArgs false
theorem KeepsB {w w' : World} (h : Below w.heap.size w w') : ∀ p v, w.cell? p = some v → w'.cell? p = some v := fun p v hv => by rw [h.cell (cell_lt hv)]; exact hv
theorem is_time (d : DueM) (p : Addr) (t : Int) (b : Bool) (w : World) (hp : w.cell? p = some (.int .i64 t)) (hb : (d.time == t) = b) :
    Calls Try.prog 31 #[.agg #[.int .i64 d.time, .int .i64 d.id], .pointer (some p)] w fun e w' => e = .returned (.bool b) ∧ Below w.heap.size w w' := by
  have h2 := KeepsB ((Below.refl w.heap.size w).alloc (Nat.le_refl _) (.cells #[.int .i64 d.time, .int .i64 d.id] 31)) p _ hp
  have hB := (Below.refl w.heap.size w).alloc (Nat.le_refl _) (.cells #[.int .i64 d.time, .int .i64 d.id] 31)
  go_enter Try.func31, Try.ntmps31
  go_wp2
  go_ret
  exact ⟨rfl, hB⟩
/-- the first of that time -/
def FirstOf (l : List DueM) (t : Int) (k : Nat) : Prop := k < l.length ∧ (l.getD k default).time = t ∧ ∀ j, j < k → (l.getD j default).time ≠ t
theorem index_first {w : World} {A : Option Addr} {c k : Nat} {l : List DueM} {p : Addr} {t : Int} (h : OwnD w A c l) (hl : l.length ≤ 1000) (hp : w.cell? p = some (.int .i64 t)) (hk : FirstOf l t k) :
    Calls Try.prog 30 #[.slice A l.length c, .func (Fn.func 31) #[] #[.pointer (some p)]] w fun e w' => e = .returned (.int .i64 k) ∧ Below w.heap.size w w' := by
  obtain ⟨g, off, rfl, hcells⟩ := h.dues.resolve_left (by intro e; have := hk.1; rw [e] at this; simp at this)
  have HC := hidp hcells
  have HK := hidp hk
  have HP := hidp hp
  have hb0 := Below.refl w.heap.size w
  obtain ⟨n, hn⟩ : ∃ n, l.length = n := ⟨_, rfl⟩
  have hkn : k < n := by have := hk.1; omega
  rw [hn] at hl ⊢
  have Hn := hidp hn
  clear h hcells hk hp hn
  go_enter Try.func30, Try.ntmps30
  go_wp2
  go_loopg [8] n (fun gg i wr => ∃ j : Nat, j + gg = n ∧ j ≤ k ∧ i = .int .i64 j ∧ Below w.heap.size w wr)
  case atStart => exact ⟨0, by omega, by omega, rfl, hb0⟩
  case round =>
    clear hb0
    obtain ⟨j, hj, hjk, rfl, hb⟩ := hrel
    have jn : (j : Int) < (n : Int) := by omega
    have j0 : (0 : Int) ≤ (j : Int) := by omega
    obtain ⟨d, Hd⟩ : ∃ d, Hid (l.getD j default = d) := ⟨_, hidp rfl⟩
    have cd := HC.out j (by rw [Hn.out]; omega)
    rw [Hd.out] at cd
    have c0 := KeepsB hb _ _ cd.1
    have c1 := KeepsB hb _ _ cd.2
    have hp := KeepsB hb _ _ HP.out
    by_cases hjk2 : j = k
    · have hbt : (d.time == t) = true := by rw [← Hd.out, hjk2, HK.out.2.1]; simp
      have C := is_time d p t true wr hp hbt
      have Hj := hidp hjk2
      have HB := hidp hb
      clear cd hp hbt hjk2 hjk hb
      go_wp2_with (go_at_call 31; (with_reducible refine C.mono ?_); rintro e w2 ⟨rfl, hb2⟩)
      go_ret
      exact ⟨by rw [Hj.out]; rfl, HB.out.trans (hb2.mono HB.out.size)⟩
    · have hbt : (d.time == t) = false := by rw [← Hd.out]; simpa using HK.out.2.2 j (by omega)
      have C := is_time d p t false wr hp hbt
      have HB := hidp hb
      have wj : IntKind.i64.wrap ((j : Int) + 1) = (j : Int) + 1 := IntWalk.i64_in _ (by omega)
      have hjk3 : j + 1 ≤ k := by omega
      clear cd hp hbt hjk2 hjk hb
      go_wp2_with (go_at_call 31; (with_reducible refine C.mono ?_); rintro e w2 ⟨rfl, hb2⟩)
      go_roundg (gk - 1)
      case measure => omega
      case rel => exact ⟨j + 1, by omega, hjk3, by go_num, HB.out.trans (hb2.mono HB.out.size)⟩
/-- the rows' slice is stored anew, behind what turned its own blocks alone -/
theorem Sp.hdr {w : World} {b q : Nat} {T : TypeId} {cs : Array Value} {m : SpM} (h : Sp w b q T cs m) {w1 : World} {A' : Option Addr} {c' : Nat} {l : List DueM} {F : List Nat} (ho : OwnD w1 A' c' l) (ht : Turned F w w1) (hF : ∀ k ∈ F, k ∈ fp m.A)
    (hA : ∀ k ∈ fp A', k ∈ fp m.A ∨ w.heap.size ≤ k) : SpPost w b q T cs m { m with A := A', c := c', rows := l } (w1.setCell ⟨b, q, none⟩ (.slice A' l.length c')) := by
  have hs := h.size
  have hbw := h.blk.lt
  have hnb : b ∉ F := fun hh => h.ne (List.mem_append_left _ (hF b hh))
  have ht2 : Turned (b :: m.fp) w (w1.setCell ⟨b, q, none⟩ (.slice A' l.length c')) := (ht.mono (fun k hk => .inl (List.mem_cons_of_mem _ (List.mem_append_left _ (hF k hk))))).setCell (.inl (by simp)) _
  have hne : b ∉ fp A' := fun hh => by
    rcases hA b hh with h1 | h1
    · exact h.ne (List.mem_append_left _ h1)
    · omega
  have hbl : ∀ c ∈ m.bell.toList, c ≠ b := fun c hc e => h.ne (by subst e; exact List.mem_append_right _ hc)
  refine ⟨⟨?_, ?_, ?_, ?_, ?_, ?_, ?_⟩, ht2, fun k hk => ?_⟩
  · have := (h.blk.turned ht hnb).put q (.slice A' l.length c')
    rw [set_same (by rw [Array.getElem?_setIfInBounds, if_neg (by omega)]; exact h.bell)]
    exact this
  · rw [Array.getElem?_setIfInBounds, if_neg (by omega), Array.getElem?_setIfInBounds, if_pos rfl, if_pos (by omega)]
  · rw [Array.getElem?_setIfInBounds, if_pos rfl, if_pos (by simp; omega)]
  · exact ⟨own_setCell ho.own (p := ⟨b, q, none⟩) hne _, ho.cap, ho.nil⟩
  · exact h.bok.turned (ht.mono (G := b :: F) (fun k hk => .inl (List.mem_cons_of_mem _ hk)) |>.setCell (p := ⟨b, q, none⟩) (.inl (by simp)) _) (fun c hc => by
      simp only [List.mem_cons, not_or]
      exact ⟨hbl c hc, fun hh => h.ab c hc (hF c hh)⟩)
  · intro hh
    rcases List.mem_append.1 hh with h1 | h1
    · exact hne h1
    · exact hbl b h1 rfl
  · intro c hc hh
    rcases hA c hh with h1 | h1
    · exact h.ab c hc h1
    · have := h.bok.lt c hc; omega
  · rcases List.mem_append.1 hk with h1 | h1
    · exact (hA k h1).imp (List.mem_append_left _) id
    · exact .inl (List.mem_append_right _ h1)
theorem Sp.del {w : World} {b q : Nat} {T : TypeId} {cs : Array Value} {m : SpM} (h : Sp w b q T cs m) {w1 : World} {l : List DueM} {F : List Nat} (ho : OwnD w1 m.A m.c l) (ht : Turned F w w1) (hF : ∀ k ∈ F, k ∈ fp m.A) :
    SpPost w b q T cs m { m with rows := l } (w1.setCell ⟨b, q, none⟩ (.slice m.A l.length m.c)) := h.hdr ho ht hF (fun k hk => .inl hk)
theorem take_any {w : World} {b q k : Nat} {T : TypeId} {cs : Array Value} {m : SpM} {t : Int} (h : Sp w b q T cs m) (hl : m.rows.length ≤ 64) (hk : FirstOf m.rows t k) (ht : I64 t) :
    Calls Try.prog 23 #[.pointer (some ⟨b, q, none⟩), .int .i64 t] w fun e w' => e = .returned (.int .i64 (m.rows.getD k default).id) ∧ SpPost w b q T cs m { m with rows := m.rows.eraseIdx k } w' := by
  have HS := hidp h
  have hk0 : k < m.rows.length := hk.1
  have hA : ∃ g, m.A = some ⟨g, 0, none⟩ := by
    rcases h.own.own.2 with ⟨hv, h0⟩ | ⟨g, cap, cur, hv, _⟩
    · omega
    · injection hv with e1; exact ⟨g, e1⟩
  obtain ⟨g, hA⟩ := hA
  have hOb : OwnD w (some ⟨g, 0, none⟩) m.c m.rows := by rw [← hA]; exact h.own
  have cR := (h.blk.cell q).trans h.rows
  have fR := h.blk.frozen q
  rw [hA] at cR
  have hgm : g ∈ fp m.A := by rw [hA]; simp [fp]
  have HG := hidp hgm
  have HA := hidp hA
  have Hne : Hid (b ∉ fp m.A) := hidp (fun hh => h.ne (List.mem_append_left _ hh))
  have HBk := hidp h.blk
  have Hrow := hidp h.rows
  obtain ⟨l, hlm⟩ : ∃ l, m.rows = l := ⟨_, rfl⟩
  obtain ⟨n, hn⟩ : ∃ n, l.length = n := ⟨_, rfl⟩
  obtain ⟨c, hc⟩ : ∃ c, m.c = c := ⟨_, rfl⟩
  rw [hlm] at hl hk hOb cR hk0 ⊢
  rw [hc] at hOb cR
  rw [hn] at cR hl hk0
  have Hlm := hidp hlm
  have Hcm := hidp hc
  have Hn := hidp hn
  have HK := hidp hk
  have HO := hidp hOb
  have hcells : DueCells w g (k * 2) (l.getD k default) := by
    obtain ⟨g', off, e, hcs⟩ := hOb.dues.resolve_left (by intro e; rw [e] at hn; simp at hn; omega)
    injection e with e; injection e with e1 e2; subst e1; subst e2
    have := hcs k (by omega)
    rwa [Nat.zero_add] at this
  have ht0 : Turned [] w (w.alloc (.cells #[.int .i64 t] 3)) := (Turned.refl [] w).alloc _
  have HI := index_first (w := w.alloc (.cells #[.int .i64 t] 3)) (p := ⟨w.heap.size, 0, none⟩) (hOb.turned ht0 (by simp)) (by omega) ((Bk.new w 3 #[.int .i64 t]).cell 0) hk
  rw [hn] at HI
  have hk1 : (k : Int) < (n : Int) := by omega
  have wk : IntKind.i64.wrap ((k : Int) + 1) = (k : Int) + 1 := IntWalk.i64_in _ (by omega)
  have c1 := KeepsB ((Below.refl w.heap.size w).alloc (Nat.le_refl _) (.cells #[.int .i64 t] 3)) _ _ cR
  clear h hlm hc hn hk hOb ht0 hA hgm
  go_enter Try.func23, Try.ntmps23
  go_wp2_with fail
  refine HI.mono ?_
  rintro e w2 ⟨rfl, hb2⟩
  have hb02 : Below w.heap.size w w2 := ((Below.refl w.heap.size w).alloc (Nat.le_refl _) _).trans (hb2.mono (by simp))
  have ht02 : Turned [] w w2 := Turned.of_below hb02 []
  have c2 := KeepsB hb02 _ _ cR
  have d1 := KeepsB hb02 _ _ hcells.2
  have HD := due_del_any (w := w2) (k := k) (i := (k : Int)) (j := (k : Int) + 1) (HO.out.turned ht02 (by simp)) (by rw [Hn.out]; exact hk0) rfl (by push_cast; rfl)
  rw [Hn.out] at HD
  have HT02 := hidp ht02
  clear HI hb2 hb02 hcells c1 cR ht02
  go_wp2_with fail
  refine HD.mono ?_
  rintro e w3 ⟨rfl, ho3, ht3⟩
  have Hne2 : g ≠ b := fun e => Hne.out (by rw [← e]; exact HG.out)
  have hb3 := ((HBk.out.turned HT02.out (by simp)).turned ht3 (by simp; exact Ne.symm Hne2))
  have c3 := (hb3.cell q).trans Hrow.out
  have f3 := hb3.frozen q
  have HE : (l.eraseIdx k).length = n - 1 := by rw [List.length_eraseIdx_of_lt (by rw [Hn.out]; exact hk0), Hn.out]
  have HP := hidp (HS.out.del (l := l.eraseIdx k) (w1 := w3) (F := [g]) (by rw [HA.out, Hcm.out]; exact ho3) (((HT02.out.mono (G := [g]) (fun k hk => by simp at hk)).trans ht3 (fun i hi => .inl hi))) (fun k hk => by simp at hk; subst hk; exact HG.out))
  rw [HE, HA.out, Hcm.out] at HP
  clear HD ho3 ht3 hb3 c2 HE Hne2
  go_wp2_with fail
  go_ret
  exact ⟨rfl, by rw [HA.out, Hcm.out]; exact HP.out⟩
end Go.Proofs.Ytkjobhocgiefdaa
