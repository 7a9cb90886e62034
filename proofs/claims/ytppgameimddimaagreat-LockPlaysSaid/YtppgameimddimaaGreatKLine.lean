/- line.Line: what a line on the heap is; New, Len, First, place, Has, All, Put. -/
import Derived.Test.YtppgameimddimaaGreatOwn
import Derived.Deep.LoopGhost
import Derived.Deep.QuietTactic
import Derived.BigQuiet
import Derived.Outline
namespace Go.Proofs.YtppgameimddimaaGreat
open Go.ChangeShapes Go.WideShapes Go.ChangeAt Go.RowKit
set_option linter.unusedVariables false

theorem infoInt : (Tryz.prog.info? 3).map (fun i => (i.zero, i.size, i.bytes)) = some (some (.int .i64 0), 1, 8) := by kernel_rfl

/-- a line of these ids lies in the cells o and o + 1 of block b; its ids lie in another block -/
structure Ln (w : World) (b o : Nat) (T : TypeId) (cs : Array Value) (R : Int) (zs : List Int) (A : Option Addr) (c : Nat) : Prop where
  blk : Bk w b T cs
  room : cs[o]? = some (.int .i64 R)
  ids : cs[o + 1]? = some (.slice A zs.length c)
  own : w.ownsRow 0 3 1 (.slice A zs.length c) zs.length (zs.map (Value.int .i64))
  ne : b ∉ fp A
  cap : zs.length ≤ c ∧ c ≤ maxLen
  nil : A = none → zs = [] ∧ c = 0
  fit : ∀ n ∈ zs, I64 n
  len : (zs.length : Int) ≤ R ∧ R ≤ 64

section
variable {w w' : World} {b o : Nat} {T : TypeId} {cs : Array Value} {R : Int} {zs : List Int} {A : Option Addr} {c : Nat} {F : List Nat}
theorem Ln.turned (h : Ln w b o T cs R zs A c) (ht : Turned F w w') (hb : b ∉ F) (hF : ∀ k ∈ fp A, k ∉ F) : Ln w' b o T cs R zs A c :=
  ⟨h.blk.turned ht hb, h.room, h.ids, own_turned h.own ht hF, h.ne, h.cap, h.nil, h.fit, h.len⟩
theorem Ln.row (h : Ln w b o T cs R zs A c) : Row w .i64 A zs := Lies.row (B := w.heap.size) (Lies.of_own h.own)
theorem Ln.fps (h : Ln w b o T cs R zs A c) : ∀ k ∈ fp A, k < w.heap.size := fun k hk => (own_fp h.own k hk).2
end

theorem Ln.store {w : World} {b o : Nat} {T : TypeId} {cs : Array Value} {R : Int} {zs : List Int} {A : Option Addr} {c n : Nat} {v : Value} (hb : Bk w b T cs) (hr : cs[o]? = some (.int .i64 R)) (hi : cs[o + 1]? = some v) (hn : n = zs.length)
    (hown : w.ownsRow 0 3 1 (.slice A n c) n (zs.map (Value.int .i64))) (hne : b ∉ fp A) (hc : n ≤ c ∧ c ≤ maxLen) (hnil : A = none → n = 0 ∧ c = 0) (hf : ∀ n ∈ zs, I64 n) (hl : (zs.length : Int) ≤ R ∧ R ≤ 64) :
    Ln (w.setCell ⟨b, o + 1, none⟩ (.slice A n c)) b o T (cs.setIfInBounds (o + 1) (.slice A zs.length c)) R zs A c := by
  subst hn
  have hs : o + 1 < cs.size := by
    by_cases h : o + 1 < cs.size
    · exact h
    · rw [Array.getElem?_eq_none (by omega)] at hi; cases hi
  exact ⟨hb.put _ _, by rw [Array.getElem?_setIfInBounds, if_neg (by omega)]; exact hr, by rw [Array.getElem?_setIfInBounds, if_pos rfl, if_pos hs], own_setCell hown (p := ⟨b, o + 1, none⟩) hne _, hne, hc,
    fun e => ⟨List.eq_nil_of_length_eq_zero (hnil e).1, (hnil e).2⟩, hf, hl⟩

/-- a number held from 0 to 64 -/
def heldR (n : Int) : Int := if n ≤ 0 then 0 else if 64 < n then 64 else n
theorem heldR_bd (n : Int) : 0 ≤ heldR n ∧ heldR n ≤ 64 := by unfold heldR; (split; omega); split <;> omega
/-- what New makes -/
theorem ln_new (n : Int) (w : World) (hn : I64 n) :
    Calls Tryz.prog 58 #[.int .i64 n] w fun e w' => e = .returned (.pointer (some ⟨w.heap.size, 0, none⟩)) ∧ w' = w.alloc (.cells #[.int .i64 (heldR n), .slice none 0 0] 122) := by
  unfold I64 at hn
  have H1 := hidp (show 64 < n → heldR n = 64 by intro h; unfold heldR; rw [if_neg (by omega), if_pos h])
  have H2 := hidp (show n ≤ 64 → 0 < n → heldR n = n by intro h g; unfold heldR; rw [if_neg (by omega), if_neg (by omega)])
  have H3 := hidp (show n ≤ 0 → heldR n = 0 by intro h; unfold heldR; rw [if_pos h])
  go_enter Tryz.func58, Tryz.ntmps58
  go_wp2
  · go_ret; exact ⟨rfl, by rw [H1.out (by assumption)]⟩
  · go_ret; exact ⟨rfl, by rw [H2.out (by assumption) (by assumption)]⟩
  · go_ret; exact ⟨rfl, by rw [H3.out (by assumption)]⟩
theorem Ln.new (w : World) (n : Int) : Ln (w.alloc (.cells #[.int .i64 (heldR n), .slice none 0 0] 122)) w.heap.size 0 122 #[.int .i64 (heldR n), .slice none 0 0] (heldR n) [] none 0 :=
  ⟨Bk.new _ _ _, rfl, rfl, World.ownsRow_nil _ _ _ _, by simp [fp], by decide, fun _ => ⟨rfl, rfl⟩, by simp, by have := heldR_bd n; simp; omega⟩

section
variable {w : World} {b o : Nat} {T : TypeId} {cs : Array Value} {R : Int} {zs : List Int} {A : Option Addr} {c : Nat}
theorem ln_firstNil (h : Ln w b o T cs R [] A c) : Calls Tryz.prog 107 #[.pointer (some ⟨b, o, none⟩)] w fun e w' => e = .returned (.tuple #[.int .i64 0, .bool false]) ∧ w = w' := by
  have c1 := (h.blk.cell (o + 1)).trans h.ids
  go_enter Tryz.func107, Tryz.ntmps107
  go_wp2
  go_ret2
  exact ⟨rfl, rfl⟩
theorem ln_firstCons {x : Int} (h : Ln w b o T cs R (x :: zs) A c) : Calls Tryz.prog 107 #[.pointer (some ⟨b, o, none⟩)] w fun e w' => e = .returned (.tuple #[.int .i64 x, .bool true]) ∧ w = w' := by
  have c1 := (h.blk.cell (o + 1)).trans h.ids
  obtain ⟨g, off, rfl, hc⟩ := h.row.resolve_left (by simp)
  have c2 := hc 0 (by simp)
  simp only [Nat.add_zero, List.getD_cons_zero] at c2
  have hl : (0 : Int) < ((x :: zs).length : Int) := by simp
  have hn : (((x :: zs).length : Int) == 0) = false := by simp; omega
  clear hc
  go_enter Tryz.func107, Tryz.ntmps107
  go_wp2
  go_ret2
  exact ⟨rfl, rfl⟩

/-- whether id stands in the row; where (0: it doesn't) -/
def plK (zs : List Int) (id : Int) : Bool := decide (id ∈ zs)
def plN (zs : List Int) (id : Int) : Nat := if id ∈ zs then zs.idxOf id else 0
theorem plN_lt {id : Int} (h : plK zs id = true) : plN zs id < zs.length := by
  have h' : id ∈ zs := by simpa [plK] using h
  unfold plN; rw [if_pos h']; exact List.idxOf_lt_length_of_mem h'

theorem idx_at {id : Int} {k : Nat} (hk : k < zs.length) (hn : id ∉ zs.take k) (he : zs.getD k 0 = id) : id ∈ zs ∧ zs.idxOf id = k := by
  have hg : zs[k] = id := by simpa [List.getD, hk] using he
  refine ⟨hg ▸ List.getElem_mem hk, ?_⟩
  have := List.take_append_drop k zs
  have e : zs = zs.take k ++ zs.drop k := this.symm
  rw [e, List.idxOf_append, if_neg hn, List.drop_eq_getElem_cons hk, hg, List.idxOf_cons_self]
  simp; omega
theorem not_take {id : Int} {k : Nat} (hk : k < zs.length) (hn : id ∉ zs.take k) (he : zs.getD k 0 ≠ id) : id ∉ zs.take (k + 1) := by
  rw [take_snoc zs k hk]
  simp only [List.mem_append, List.mem_singleton, not_or]
  exact ⟨hn, fun h => he h.symm⟩

theorem ln_place {id : Int} (h : Ln w b o T cs R zs A c) : Calls Tryz.prog 99 #[.pointer (some ⟨b, o, none⟩), .int .i64 id] w fun e w' => e = .returned (.tuple #[.int .i64 (plN zs id : Nat), .bool (plK zs id)]) ∧ w = w' := by
  have c1 := (h.blk.cell (o + 1)).trans h.ids
  have hm := h.cap.2
  have hl := h.len
  have hrow := h.row
  have hcap := h.cap.1
  unfold maxLen at hm
  clear h
  go_enter Tryz.func99, Tryz.ntmps99
  go_wp2
  go_step3
  go_wp2
  go_step3
  go_wp2
  go_loopg [6, 7] zs.length (fun g m f wr => ∃ k : Nat, k + g = zs.length ∧ m = .int .i64 k ∧ f = .bool false ∧ id ∉ zs.take k ∧ w = wr)
  case atStart => exact ⟨0, by omega, rfl, rfl, by simp, rfl⟩
  case round =>
    obtain ⟨k, hk, rfl, rfl, hn, rfl⟩ := hrel
    have Hn := hidp hn
    clear hn
    by_cases hlt : k < zs.length
    · obtain ⟨g, off, rfl, hc⟩ := hrow.resolve_left (by intro e; subst e; simp at hlt)
      obtain ⟨n, HN⟩ : ∃ n, Hid (zs.getD k 0 = n) := ⟨_, rfl⟩
      have c2 : w.cell? ⟨g, off + k, none⟩ = some (.int .i64 n) := HN.out ▸ hc k hlt
      have hne : ((k : Int) == (zs.length : Int)) = false := by simp; omega
      clear hc hrow
      by_cases he : n = id
      · subst he
        have Hi := hidp (idx_at hlt Hn.out HN.out)
        have H1 : Hid (plN zs n = k) := hidp (by unfold plN; rw [if_pos Hi.out.1, Hi.out.2])
        have H2 : Hid (plK zs n = true) := hidp (by unfold plK; simpa using Hi.out.1)
        go_wp2
        try rw [Exit.noGoto_ret]
        go_ret2
        exact ⟨by rw [H1.out, H2.out]; rfl, rfl⟩
      · have he' : (n == id) = false := by simpa using he
        have H1 := hidp (not_take hlt Hn.out (by rw [HN.out]; exact he))
        go_wp2
        go_roundg (gk - 1)
        case measure => omega
        case rel => exact ⟨k + 1, by omega, by go_num, rfl, H1.out, rfl⟩
    · obtain rfl : k = zs.length := by omega
      have H1 : Hid (plN zs id = 0) := hidp (by unfold plN; rw [if_neg (by simpa using Hn.out)])
      have H2 : Hid (plK zs id = false) := hidp (by unfold plK; simpa using Hn.out)
      go_wp2
      try rw [Exit.noGoto_ret]
      go_ret2
      exact ⟨by rw [H1.out, H2.out]; rfl, rfl⟩

theorem ln_has {id : Int} (h : Ln w b o T cs R zs A c) : Calls Tryz.prog 109 #[.pointer (some ⟨b, o, none⟩), .int .i64 id] w fun e w' => e = .returned (.bool (plK zs id)) ∧ w = w' := by
  go_enter Tryz.func109, Tryz.ntmps109
  go_wp2_with (go_at_call 99; (with_reducible refine (ln_place h).mono ?_); rintro e w' ⟨rfl, rfl⟩)
  go_ret
  exact ⟨rfl, rfl⟩

/-- a row of the call's own: these numbers -/
def OwnInts (B : Nat) (w : World) (A : Option Addr) (n c : Nat) (zs : List Int) : Prop := w.ownsRow B 3 1 (.slice A n c) n (zs.map (Value.int .i64)) ∧ n = zs.length ∧ n ≤ c ∧ c ≤ maxLen ∧ (A = none → n = 0 ∧ c = 0)
def LnAll (w : World) (zs : List Int) (e : Ending) (w' : World) : Prop := ∃ A c, e = .returned (.slice A zs.length c) ∧ OwnInts w.heap.size w' A zs.length c zs ∧ Below w.heap.size w w'


/-- what an operation on a line leaves: the line with other ids, in the same cells; its own blocks and new ones alone have turned -/
def LnPost (w : World) (b o : Nat) (T : TypeId) (cs : Array Value) (R : Int) (A : Option Addr) (zs : List Int) (e0 : Ending) (e : Ending) (w' : World) : Prop :=
  e = e0 ∧ ∃ A' c', Ln w' b o T (cs.setIfInBounds (o + 1) (.slice A' zs.length c')) R zs A' c' ∧ Turned (b :: fp A) w w' ∧ ∀ k ∈ fp A', k ∈ fp A ∨ w.heap.size ≤ k

theorem ln_putFull {id : Int} (h : Ln w b o T cs R zs A c) (hf : (zs.length : Int) = R) : Calls Tryz.prog 60 #[.pointer (some ⟨b, o, none⟩), .int .i64 id] w fun e w' => e = .returned (.int .i64 12) ∧ ∃ n, w' = w.drewN n := by
  have c1 := (h.blk.cell (o + 1)).trans h.ids
  have c0 := (h.blk.cell o).trans h.room
  subst hf
  clear h
  go_enter Tryz.func60, Tryz.ntmps60
  go_wp2
  go_quiet (fail)
  go_wp2
  go_ret
  exact ⟨rfl, _, rfl⟩
theorem ln_put {id : Int} (h : Ln w b o T cs R zs A c) (hf : (zs.length : Int) < R) (hi : I64 id) : Calls Tryz.prog 60 #[.pointer (some ⟨b, o, none⟩), .int .i64 id] w (LnPost w b o T cs R A (zs ++ [id]) (.returned (.int .i64 0))) := by
  have c1 := (h.blk.cell (o + 1)).trans h.ids
  have c0 := (h.blk.cell o).trans h.room
  have hne : ((zs.length : Int) == R) = false := by simp; omega
  have hl := h.len
  obtain ⟨i0, hi0, hz0, hz1, hz2⟩ := info_parts infoInt
  have H5 : Hid (zs.length + 1 ≤ maxLen) := hidp (by unfold maxLen; omega)
  have H6 : Hid ((zs.length + 1) * 8 ≤ 140737488355328) := hidp (by omega)
  have H1 : Hid (∀ u ∈ [Value.int .i64 id], u.oneCell' = true) := hidp (by simp; rfl)
  have Hn := hidp h.ne
  have hblk := h.blk
  have hown := h.own
  have hids := h.ids
  go_enter Tryz.func60, Tryz.ntmps60
  go_wp2
  go_quiet (fail)
  have hown2 : ((w.drewN nq).alloc (.cells #[.int .i64 id] 3)).ownsRow 0 3 1 (.slice A zs.length c) zs.length (zs.map (Value.int .i64)) := World.ownsRow.alloc (w := w.drewN nq) hown _
  have H3 := hidp (Lies.new1 (w.drewN nq) (.int .i64 id) 3)
  have hblk2 := (hblk.drewN nq).alloc (.cells #[.int .i64 id] 3)
  go_wp2_with (at_builtin; refine wpList_app2 _ rfl (.tmp 19) (.tmp 21) 22 rfl 0 3 i0 (.int .i64 0) 1 8 Tryz.underlying22 hi0 hz0 hz1 hz2 rfl (by decide) A zs.length c (zs.map (Value.int .i64)) rfl hown2 _ _ 1 1 [.int .i64 id] rfl (by simp) rfl H3.out H1.out H5.out H6.out (Nat.zero_le _) ?_; intro A1 k1 w1 happ; have hb1 := hblk2.turned happ.turned Hn.out; have d1 := (hb1.cell (o + 1)).trans hids; have d2 := hb1.frozen (o + 1))
  go_ret
  have hfp := h.fps
  have hfp2 : ∀ k ∈ fp A1, k ∈ fp A ∨ w.heap.size ≤ k := fun k hk => (happ.fps k hk).imp (fun x => x) (fun x => by simp at x; omega)
  refine ⟨rfl, A1, k1, Ln.store hb1 h.room h.ids (by simp) ?_ ?_ happ.cap happ.nil ?_ ?_, ?_, hfp2⟩
  · simpa using happ.own
  · intro hb
    rcases hfp2 b hb with h1 | h1
    · exact h.ne h1
    · have := h.blk.lt; omega
  · intro n hn
    rcases List.mem_append.1 hn with h1 | h1
    · exact h.fit n h1
    · simp at h1; subst h1; exact hi
  · simp; omega
  · exact ((((Turned.refl (b :: fp A) w).drewN nq).alloc _).trans (happ.turned.mono (fun k hk => .inl (List.mem_cons_of_mem _ hk))) (fun k hk => .inl hk)).setCell (.inl List.mem_cons_self) _
end
end Go.Proofs.YtppgameimddimaaGreat
