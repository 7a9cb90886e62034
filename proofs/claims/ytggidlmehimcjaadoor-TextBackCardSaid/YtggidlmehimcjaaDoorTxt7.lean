/- text's readAll: all lines. -/
import Derived.Test.YtggidlmehimcjaaDoorTxt6
import Derived.Test.YtggidlmehimcjaaDoorWdWords
namespace Go.Proofs.YtggidlmehimcjaaDoor
open Go.ChangeShapes Go.WideShapes Go.ChangeAt Go.RowKit
set_option linter.unusedVariables false
set_option linter.unusedSimpArgs false
theorem wl_mem (l cur : Bts) : ∀ x ∈ wl cur l, x.length ≤ cur.length + l.length := by
  induction l generalizing cur with
  | nil => unfold wl; split <;> simp
  | cons y r ih =>
    unfold wl
    split
    · split
      · intro x hx; have := ih [] x hx; simp at this ⊢; omega
      · intro x hx
        rcases List.mem_cons.1 hx with rfl | h
        · simp
        · have := ih [] x h; simp at this ⊢; omega
    · intro x hx
      have := ih _ x hx
      simp at this ⊢; omega
theorem pl_mem (c : UInt8) (l cur : Bts) : ∀ x ∈ pl c cur l, x.length ≤ cur.length + l.length := by
  induction l generalizing cur with
  | nil => unfold pl; split <;> simp
  | cons y r ih =>
    unfold pl
    split
    · intro x hx
      rcases List.mem_cons.1 hx with rfl | h
      · simp
      · have := ih [] x h; simp at this ⊢; omega
    · intro x hx
      have := ih _ x hx
      simp at this ⊢; omega
theorem wl_len (l cur : Bts) : (wl cur l).length ≤ l.length + (if cur = [] then 0 else 1) := by
  induction l generalizing cur with
  | nil => unfold wl; split <;> simp
  | cons y r ih =>
    unfold wl
    split
    · split
      · have := ih []; simp at this ⊢; omega
      · have := ih []; simp at this ⊢; omega
    · have := ih (cur ++ [y]); simp at this ⊢; split <;> omega
theorem ahead_len (l : Bts) : (ahead35 l).length ≤ l.length := by
  induction l with
  | nil => exact Nat.le_refl _
  | cons c r ih => unfold ahead35; split <;> simp <;> omega
theorem words_size {s : ByteArray} {ls : List ByteArray} (h : ls.map bl = wordsL (bl s)) : ∀ x ∈ ls, x.size ≤ s.size := fun x hx => by
  have h1 : bl x ∈ wordsL (bl s) := by rw [← h]; exact List.mem_map.2 ⟨x, hx, rfl⟩
  have h2 := wl_mem _ _ _ h1
  have h3 := ahead_len (bl s)
  rw [bl_len] at h2 h3
  simp at h2
  omega
def rdZ : RdT := ⟨0, [], [], [], 0, 0, []⟩
theorem linesT_blank {r : RdT} {k : Nat} {l : Bts} {ls : List Bts} (h : wordsL l = []) : linesT r k (l :: ls) = linesT r (k + 1) ls := by
  conv => lhs; unfold linesT
  rw [h]; rfl
theorem linesT_ok {r r' : RdT} {k : Nat} {l : Bts} {ls : List Bts} (h : lineT r k (wordsL l) = .ok r') : linesT r k (l :: ls) = linesT r' (k + 1) ls := by
  conv => lhs; unfold linesT
  rw [h]
theorem linesT_err {r : RdT} {k : Nat} {l : Bts} {ls : List Bts} {x : Int} (h : lineT r k (wordsL l) = .error x) : linesT r k (l :: ls) = .error (k, x) := by
  conv => lhs; unfold linesT
  rw [h]
theorem lineT_len {r r' : RdT} {k : Nat} {l : List Bts} (h : lineT r k l = .ok r') (ht : r.tasks.length ≤ k ∧ r.tasksAt.length = r.tasks.length) : r'.tasks.length ≤ k + 1 ∧ r'.tasksAt.length = r'.tasks.length := by
  unfold lineT at h
  split at h
  · injection h with h; subst h; omega
  · split at h
    · split at h
      · injection h with h; subst h; dsimp only; omega
      · cases h
    · split at h
      · split at h
        · injection h with h; subst h; dsimp only; omega
        · cases h
      · split at h
        · split at h
          · injection h with h; subst h; dsimp only; omega
          · cases h
        · split at h
          · split at h
            · injection h with h; subst h; simp; omega
            · cases h
          · cases h
theorem linesT_len {ls : List Bts} {r r' : RdT} {k : Nat} (h : linesT r k ls = .ok r') (ht : r.tasks.length ≤ k ∧ r.tasksAt.length = r.tasks.length) : r'.tasksAt.length = r'.tasks.length := by
  induction ls generalizing r k with
  | nil =>
    unfold linesT at h
    split at h
    · cases h
    · injection h with h; subst h; exact ht.2
  | cons a t ih =>
    unfold linesT at h
    cases e : lineT r k (wordsL a) with
    | error x => rw [e] at h; cases h
    | ok r2 => rw [e] at h; exact ih h (lineT_len e ht)
def pp7 (w : World) (g : Nat) (v0 v1 v2 v3 v4 v5 v6 : Value) : World := ((((((w.setCell ⟨g, 0, none⟩ v0).setCell ⟨g, 1, none⟩ v1).setCell ⟨g, 2, none⟩ v2).setCell ⟨g, 3, none⟩ v3).setCell ⟨g, 4, none⟩ v4).setCell ⟨g, 5, none⟩ v5).setCell ⟨g, 6, none⟩ v6
theorem pp7_bk {w : World} {g : Nat} {t : TypeId} {c0 c1 c2 c3 c4 c5 c6 v0 v1 v2 v3 v4 v5 v6 : Value} (h : Bk w g t #[c0, c1, c2, c3, c4, c5, c6]) : Bk (pp7 w g v0 v1 v2 v3 v4 v5 v6) g t #[v0, v1, v2, v3, v4, v5, v6] := by
  have := ((((((h.put 0 v0).put 1 v1).put 2 v2).put 3 v3).put 4 v4).put 5 v5).put 6 v6
  unfold pp7
  simpa using this
theorem pp7_turned (w : World) (g : Nat) (v0 v1 v2 v3 v4 v5 v6 : Value) : Turned [g] w (pp7 w g v0 v1 v2 v3 v4 v5 v6) :=
  (((((((Turned.refl [g] w).setCell (.inl (by simp)) _).setCell (.inl (by simp)) _).setCell (.inl (by simp)) _).setCell (.inl (by simp)) _).setCell (.inl (by simp)) _).setCell (.inl (by simp)) _).setCell (.inl (by simp)) _
theorem cz7 {w : World} {g : Nat} {t : TypeId} {c0 c1 c2 c3 c4 c5 c6 : Value} (h : Bk w g t #[c0, c1, c2, c3, c4, c5, c6]) : w.cell? ⟨g, 0, none⟩ = some c0 ∧ w.cell? ⟨g, 1, none⟩ = some c1 ∧ w.cell? ⟨g, 2, none⟩ = some c2 ∧ w.cell? ⟨g, 3, none⟩ = some c3 ∧ w.cell? ⟨g, 4, none⟩ = some c4 ∧ w.cell? ⟨g, 5, none⟩ = some c5 ∧ w.cell? ⟨g, 6, none⟩ = some c6 := ⟨h.cell 0, h.cell 1, h.cell 2, h.cell 3, h.cell 4, h.cell 5, h.cell 6⟩
theorem cf7 {w : World} {g : Nat} {t : TypeId} {cs : Array Value} (h : Bk w g t cs) : w.frozen? ⟨g, 0, none⟩ = false ∧ w.frozen? ⟨g, 1, none⟩ = false ∧ w.frozen? ⟨g, 2, none⟩ = false ∧ w.frozen? ⟨g, 3, none⟩ = false ∧ w.frozen? ⟨g, 4, none⟩ = false ∧ w.frozen? ⟨g, 5, none⟩ = false ∧ w.frozen? ⟨g, 6, none⟩ = false := ⟨h.frozen 0, h.frozen 1, h.frozen 2, h.frozen 3, h.frozen 4, h.frozen 5, h.frozen 6⟩
def rdV (s : SetR) (want co : Int) (A : Option Addr) (n c : Nat) : Value := .agg #[.int .i64 s.proto, .slice s.ca s.cores.length s.cc, .slice s.ha s.homes.length s.hc, .slice s.ta s.tasks.length s.tc, .int .i64 want, .int .i64 co, .slice A n c]
/-- the blocks of all rows of a set -/
def SetR.blocks (s : SetR) : List Nat := fp s.ta ++ s.fix
theorem TasksAt.turned {F : List Nat} {w w' : World} {a : Option Addr} {ts : List TaskR} (h : TasksAt w a ts) (ht : Turned F w w') (hF : ∀ k ∈ fp a, k ∉ F) : TasksAt w' a ts := by
  rcases h with h | ⟨b, off, rfl, h⟩
  · exact .inl h
  · have hb : b ∉ F := hF b (by simp [fp])
    exact .inr ⟨b, off, rfl, fun i hi => ⟨ht.cell (h i hi).1 hb, ht.cell (h i hi).2.1 hb, ht.cell (h i hi).2.2.1 hb, ht.cell (h i hi).2.2.2.1 hb, ht.cell (h i hi).2.2.2.2.1 hb, ht.cell (h i hi).2.2.2.2.2 hb⟩⟩
theorem SetOk.turnedB {F : List Nat} {w w' : World} {s : SetR} (h : SetOk w s) (ht : Turned F w w') (hF : ∀ k ∈ s.blocks, k ∉ F) : SetOk w' s :=
  ⟨h.proto, h.cores.turned ht (fun k hk => hF k (List.mem_append_right _ (fix_ca hk))), h.homes.turned ht (fun k hk => hF k (List.mem_append_right _ (fix_ha hk))), ⟨h.tasks.sl, h.tasks.at_.turned ht (fun k hk => hF k (List.mem_append_left _ hk)), fun t hm => (h.tasks.ok t hm).turned ht (fun k hk => hF k (List.mem_append_right _ (fix_pa hm hk)))⟩⟩
/-- the reader as it stands in memory at the end: its rows -/
structure RdRows (B : Nat) (w : World) (s : SetR) (A : Option Addr) (c : Nat) (zs : List Int) : Prop where
  ok : SetOk w s
  ats : Row w .i64 A zs
  ac : zs.length ≤ c
  low : ∀ k ∈ s.blocks, B ≤ k
  lowA : ∀ k ∈ fp A, B ≤ k
def AllPost (w : World) (N : Nat) (r : Except (Nat × Int) RdT) (e : Ending) (w' : World) : Prop :=
  Below w.heap.size w w' ∧ ∃ s want co A c zs, RdRows w.heap.size w' s A c zs ∧ match r with
  | .ok r' => e = .returned (.tuple #[rdV s want co A zs.length c, .int .i64 N, .int .i64 0]) ∧ RdEq r' s want co zs
  | .error p => e = .returned (.tuple #[rdV s want co A zs.length c, .int .i64 (p.1 : Int), .int .i64 p.2]) ∧ p.2 ≠ 0
theorem Rdr.end_ {B : Nat} {w w' : World} {g g0 : Nat} {s : SetR} {want co : Int} {A : Option Addr} {c : Nat} {zs : List Int} (h : Rdr B w g s want co A c zs) (hg : g0 < B) (ht : Turned [g0] w w') : RdRows B w' s A c zs := by
  have h2 := h.rows.turned ht (fun k hk _ _ hm => by simp at hm; omega)
  refine ⟨h2.setOk, h2.ats.row, h2.ats.cap.1, fun k hk => ?_, fun k hk => (own_fp h2.ats.own k hk).1⟩
  rcases List.mem_append.1 hk with h3 | h3
  · exact (own_fp h2.tasks.own k h3).1
  · exact (h2.fixd k h3).1.1
theorem RdRows.lower {B B' : Nat} {w : World} {s : SetR} {A : Option Addr} {c : Nat} {zs : List Int} (h : RdRows B w s A c zs) (hB : B' ≤ B) : RdRows B' w s A c zs := ⟨h.ok, h.ats, h.ac, fun k hk => Nat.le_trans hB (h.low k hk), fun k hk => Nat.le_trans hB (h.lowA k hk)⟩
def zrC : Array Value := #[.int .i64 0, .slice none 0 0, .slice none 0 0, .slice none 0 0, .int .i64 0, .int .i64 0, .slice none 0 0]
theorem rdr_zero (B : Nat) (w : World) (hB : B ≤ w.heap.size) : Rdr B (w.alloc (.cells zrC 59)) w.heap.size noSet 0 0 none 0 [] := by
  refine ⟨Bk.new w _ _, ⟨⟨hB, by simp⟩, by unfold I64 noSet; decide, ⟨⟨fun _ => ⟨rfl, rfl⟩, Nat.le_refl _, by decide⟩, .inl rfl, by simp [noSet]⟩, ⟨⟨fun _ => ⟨rfl, rfl⟩, Nat.le_refl _, by decide⟩, .inl rfl, by simp [noSet]⟩, OwnT.none _ _, by simp [noSet], OwnN.nil_ _ _, by simp [SetR.fix, noSet, fp], by simp [noSet, fp], by simp [fp]⟩⟩
set_option maxHeartbeats 8000000 in
theorem readAll_any (A0 : Option Addr) (k0 : Nat) (lines : List ByteArray) (m : Int) (w : World) (hm : w.cell? ⟨0, 0, none⟩ = some (.int .i64 m)) (hs : StrsAt w A0 lines) (hl : lines.length ≤ 3000) (hz : ∀ x ∈ lines, x.size ≤ 3000) : Calls Tryd.prog 21 #[.slice A0 lines.length k0] w (AllPost w lines.length (linesT rdZ 0 (lines.map bl))) := by
  obtain ⟨N, hN⟩ : ∃ N, lines.length = N := ⟨_, rfl⟩
  have HN := hidp hN
  have HZ := hidp hz
  rw [hN] at hl ⊢
  have hb0 := (Below.refl w.heap.size w).alloc (Nat.le_refl _) (.cells zrC 59)
  have B0 := Bk.new w 59 zrC
  have R1 := rdr_zero (w.heap.size + 1) (w.alloc (.cells zrC 59)) (by simp)
  rw [show (w.alloc (.cells zrC 59)).heap.size = w.heap.size + 1 by simp] at R1
  have hb1 : Below (w.heap.size + 1) (w.alloc (.cells zrC 59)) ((w.alloc (.cells zrC 59)).alloc (.cells zrC 59)) := (Below.refl _ _).alloc (by simp) _
  have HM0 := hidp (mem_max hm hb0)
  have HB0 := hidp hb0
  have HBK := hidp B0
  have HW1 : Hid (w.heap.size + 1 ≤ (w.alloc (.cells zrC 59)).heap.size) := hidp (by simp)
  have HW2 := hidp (hs.below hb0)
  have H0B : Hid (0 < w.heap.size + 1) := hidp (by omega)
  unfold zrC at hb1 R1
  clear hb0 B0 hm hs hN hz
  go_enter Tryd.func21, Tryd.ntmps21
  go_wp2_with fail
  try go_step3
  try go_wp2_with fail
  go_loopg [12] N (fun g i wr => ∃ (k : Nat) (r : RdT) (s : SetR) (want co : Int) (A : Option Addr) (c : Nat) (zs : List Int), k + g = N ∧ i = .int .i64 k ∧ Hid (Rdr (w.heap.size + 1) wr (w.heap.size + 1) s want co A c zs) ∧ Hid (RdEq r s want co zs) ∧ Hid (linesT rdZ 0 (lines.map bl) = linesT r k ((lines.map bl).drop k)) ∧ Hid (r.tasks.length ≤ k ∧ r.tasksAt.length = r.tasks.length) ∧ Hid (Below (w.heap.size + 1) (w.alloc (.cells zrC 59)) wr))
  case atStart => exact ⟨0, rdZ, noSet, 0, 0, none, 0, [], by omega, rfl, hidp R1, hidp ⟨rfl, rfl, rfl, rfl⟩, hidp rfl, hidp ⟨Nat.le_refl _, rfl⟩, hidp hb1⟩
  case round =>
    clear R1 hb1
    obtain ⟨k, r, s, want, co, A, c, zs, hk, rfl, HR, HE, HI, HT, HB⟩ := hrel
    have hTL : Hid (s.tasks.length = r.tasks.length ∧ zs.length = r.tasks.length) := hidp (by
      obtain ⟨h1, _, _, h4⟩ := HE.out
      have h5 := congrArg (fun q => q.tasks.length) h1
      simp only [SetR.bare, RdT.bare, List.length_map] at h5
      exact ⟨h5, by rw [h4, List.length_map]; exact HT.out.2⟩)
    by_cases hin : k < N
    · have hs2 : StrsAt wr A0 lines := HW2.out.below (HB.out.mono (by simp))
      obtain ⟨gl, off, rfl, hc⟩ := hs2.resolve_left (by intro e; have := HN.out; rw [e] at this; simp at this; omega)
      have hkl : k < lines.length := by rw [HN.out]; exact hin
      obtain ⟨x, HX⟩ : ∃ x, Hid (lines.getD k ByteArray.empty = x) := ⟨_, hidp rfl⟩
      have c1 : wr.cell? ⟨gl, off + k, none⟩ = some (.string x) := HX.out ▸ hc k hkl
      have HD : Hid ((lines.map bl).drop k = bl x :: (lines.map bl).drop (k + 1)) := hidp (by
        have h2 : k < (lines.map bl).length := by rw [List.length_map]; exact hkl
        rw [List.drop_eq_getElem_cons h2]
        congr 1
        rw [List.getElem_map, ← HX.out]
        simp [List.getD, hkl])
      have HXm := hidp (strs_mem hkl HX.out)
      have hx := HZ.out x HXm.out
      have hmr : wr.cell? ⟨0, 0, none⟩ = some (.int .i64 m) := (HB.out.cell (p := ⟨0, 0, none⟩) H0B.out).trans HM0.out
      have CW := hidp (words_any x m wr hmr (by omega))
      have bI1 : (0 : Int) ≤ (k : Int) := by omega
      have bI2 : (k : Int) < (N : Int) := by omega
      clear hs2 hc hkl hmr
      go_wp2_with fail
      refine CW.out.mono ?_
      rintro e u ⟨ls, h1, _, A2, c2, rfl, ho, hbu⟩
      have HRu := hidp (HR.out.over hbu)
      have hgw := HR.out.rows.gB
      have HBu := hidp (HB.out.trans (hbu.mono (by omega)))
      have HWD := hidp h1
      cases ls with
      | nil =>
        have HBl : Hid (linesT r k (bl x :: (lines.map bl).drop (k + 1)) = linesT r (k + 1) ((lines.map bl).drop (k + 1))) := hidp (linesT_blank h1.symm)
        clear ho hbu hgw h1 CW
        go_wp2_with fail
        go_roundg (gk - 1)
        case measure => omega
        case rel => exact ⟨k + 1, r, s, want, co, A, c, zs, by omega, by go_num, HRu, HE, hidp (by rw [HI.out, HD.out, HBl.out]), hidp ⟨by have := HT.out; omega, HT.out.2⟩, HBu⟩
      | cons y ys =>
        have hcap := ho.cap
        have hsz := words_size h1
        have hff := own_fp ho.own
        have HTL := hTL
        have hlw : (y :: ys).length ≤ 99999 := by
          have h4 := congrArg List.length h1
          have h5 := wl_len (ahead35 (bl x)) []
          have h6 := ahead_len (bl x)
          rw [List.length_map] at h4
          rw [bl_len] at h6
          unfold wordsL at h4
          simp at h5
          omega
        have CR := read_any (w.heap.size + 1) (w.heap.size + 1) r s want co A c zs k A2 c2 y ys m (w.alloc (.cells zrC 59)) u HRu.out HE.out HW1.out HBu.out H0B.out HM0.out ho.at_ (by simp at hlw; omega) (by simpa using hcap.1) (fun z hz => by have := hsz z hz; omega) (by have := hTL.out; have := HT.out; omega) (by have := hTL.out; have := HT.out; omega) (by omega) (fun j hj => ⟨by have := (hff j hj).1; omega, fun hm => by have := (hff j hj).1; have := (own_fp HR.out.rows.tasks.own j hm).2; omega, fun hm => by have := (hff j hj).1; have := (own_fp HR.out.rows.ats.own j hm).2; omega⟩)
        obtain ⟨tt, HTT⟩ : ∃ tt, Hid (lineT r k ((y :: ys).map bl) = tt) := ⟨_, hidp rfl⟩
        rw [HTT.out] at CR
        have HCR := hidp CR
        have HDl : Hid (linesT rdZ 0 (lines.map bl) = linesT r k (bl x :: (lines.map bl).drop (k + 1))) := hidp (by rw [HI.out, HD.out])
        have HLW : Hid (lineT r k (wordsL (bl x)) = tt) := hidp (by rw [← h1]; exact HTT.out)
        have wk : IntKind.i64.wrap (k : Int) = (k : Int) := IntWalk.i64_in _ (by omega)
        clear ho hbu hgw h1 CW CR hcap hsz hff hlw
        go_wp2_with fail
        refine HCR.out.mono ?_
        rintro e v ⟨hbv, s', want', co', A', c', zs', hR', hres⟩
        have HRv := hidp hR'
        have HBv := hidp hbv
        clear hR' hbv HCR HRu HR hTL HTL HBu HB
        cases tt with
        | ok r' =>
          obtain ⟨rfl, hE'⟩ := hres
          have HE' := hidp hE'
          clear hE'
          go_wp2_with fail
          go_roundg (gk - 1)
          case measure => omega
          case rel => exact ⟨k + 1, r', s', want', co', A', c', zs', by omega, by go_num, HRv, HE', hidp (by rw [HDl.out, linesT_ok HLW.out]), hidp (lineT_len HLW.out HT.out), HBv⟩
        | error q =>
          obtain ⟨rfl, hq0⟩ := hres
          have HQ0 := hidp hq0
          have f9 : (q != 0) = true := by simpa using hq0
          have HLE : Hid (linesT rdZ 0 (lines.map bl) = .error (k, q)) := hidp (by rw [HDl.out, linesT_err HLW.out])
          have HBW := hidp (HB0.out.trans (HBv.out.mono (Nat.le_succ _)))
          have BX : Hid (Bk v w.heap.size 59 zrC) := hidp ((HBv.out.block w.heap.size (Nat.lt_succ_self _)).trans HBK.out)
          clear hq0
          have PB := pp7_bk BX.out (v0 := .int .i64 s'.proto) (v1 := .slice s'.ca s'.cores.length s'.cc) (v2 := .slice s'.ha s'.homes.length s'.hc) (v3 := .slice s'.ta s'.tasks.length s'.tc) (v4 := .int .i64 want') (v5 := .int .i64 co') (v6 := .slice A' zs'.length c')
          have T1 := pp7_turned v w.heap.size (.int .i64 s'.proto) (.slice s'.ca s'.cores.length s'.cc) (.slice s'.ha s'.homes.length s'.hc) (.slice s'.ta s'.tasks.length s'.tc) (.int .i64 want') (.int .i64 co') (.slice A' zs'.length c')
          have hbe := hidp (HBW.out.trans (T1.below HBW.out.size (by simp)))
          have hre := hidp (HRv.out.end_ (Nat.lt_succ_self _) T1)
          obtain ⟨r0, r1, r2, r3, r4, r5, r6⟩ := cz7 PB
          obtain ⟨z0, z1, z2, z3, z4, z5, z6⟩ := cz7 BX.out
          obtain ⟨y0, y1, y2, y3, y4, y5, y6⟩ := cf7 BX.out
          obtain ⟨x0, x1, x2, x3, x4, x5, x6, _⟩ := HRv.out.cells
          clear PB T1
          unfold pp7 at *
          go_wp2_with fail
          try rw [Exit.noGoto_ret]
          refine bodyPost_ret (v := .tuple #[.agg #[.int .i64 s'.proto, .slice s'.ca s'.cores.length s'.cc, .slice s'.ha s'.homes.length s'.hc, .slice s'.ta s'.tasks.length s'.tc, .int .i64 want', .int .i64 co', .slice A' zs'.length c'], .int .i64 (k : Int), .int .i64 q]) (by simp [results, Tryd.results21, go_sem, r0, r1, r2, r3, r4, r5, r6]) rfl ⟨hbe.out, s', want', co', A', c', zs', hre.out.lower (Nat.le_succ _), ?_⟩
          rw [HLE.out]
          exact ⟨rfl, HQ0.out⟩
    · obtain rfl : k = N := by omega
      have HLN : Hid (linesT rdZ 0 (lines.map bl) = if r.want < 2 then .error (k, 10) else .ok r) := hidp (by
        rw [HI.out, List.drop_of_length_le (by rw [List.length_map, HN.out]; exact Nat.le_refl _)]
        rfl)
      have HBW := hidp (HB0.out.trans (HB.out.mono (Nat.le_succ _)))
      have BX : Hid (Bk wr w.heap.size 59 zrC) := hidp ((HB.out.block w.heap.size (Nat.lt_succ_self _)).trans HBK.out)
      have hw := HE.out.2.1
      by_cases h2 : want < 2
      · have HLE : Hid (linesT rdZ 0 (lines.map bl) = .error (k, 10)) := hidp (by rw [HLN.out, if_pos (by omega)])
        clear hw
        have PB := pp7_bk BX.out (v0 := .int .i64 s.proto) (v1 := .slice s.ca s.cores.length s.cc) (v2 := .slice s.ha s.homes.length s.hc) (v3 := .slice s.ta s.tasks.length s.tc) (v4 := .int .i64 want) (v5 := .int .i64 co) (v6 := .slice A zs.length c)
        have T1 := pp7_turned wr w.heap.size (.int .i64 s.proto) (.slice s.ca s.cores.length s.cc) (.slice s.ha s.homes.length s.hc) (.slice s.ta s.tasks.length s.tc) (.int .i64 want) (.int .i64 co) (.slice A zs.length c)
        have hbe := hidp (HBW.out.trans (T1.below HBW.out.size (by simp)))
        have hre := hidp (HR.out.end_ (Nat.lt_succ_self _) T1)
        obtain ⟨r0, r1, r2, r3, r4, r5, r6⟩ := cz7 PB
        obtain ⟨z0, z1, z2, z3, z4, z5, z6⟩ := cz7 BX.out
        obtain ⟨y0, y1, y2, y3, y4, y5, y6⟩ := cf7 BX.out
        obtain ⟨x0, x1, x2, x3, x4, x5, x6, _⟩ := HR.out.cells
        clear PB T1
        unfold pp7 at *
        go_wp2_with fail
        try rw [Exit.noGoto_ret]
        refine bodyPost_ret (v := .tuple #[.agg #[.int .i64 s.proto, .slice s.ca s.cores.length s.cc, .slice s.ha s.homes.length s.hc, .slice s.ta s.tasks.length s.tc, .int .i64 want, .int .i64 co, .slice A zs.length c], .int .i64 (k : Int), .int .i64 10]) (by simp [results, Tryd.results21, go_sem, r0, r1, r2, r3, r4, r5, r6]) rfl ⟨hbe.out, s, want, co, A, c, zs, hre.out.lower (Nat.le_succ _), ?_⟩
        rw [HLE.out]
        exact ⟨rfl, (by show (10 : Int) ≠ 0; decide)⟩
      · have HLE : Hid (linesT rdZ 0 (lines.map bl) = .ok r) := hidp (by rw [HLN.out, if_neg (by omega)])
        clear hw
        have PB := pp7_bk BX.out (v0 := .int .i64 s.proto) (v1 := .slice s.ca s.cores.length s.cc) (v2 := .slice s.ha s.homes.length s.hc) (v3 := .slice s.ta s.tasks.length s.tc) (v4 := .int .i64 want) (v5 := .int .i64 co) (v6 := .slice A zs.length c)
        have T1 := pp7_turned wr w.heap.size (.int .i64 s.proto) (.slice s.ca s.cores.length s.cc) (.slice s.ha s.homes.length s.hc) (.slice s.ta s.tasks.length s.tc) (.int .i64 want) (.int .i64 co) (.slice A zs.length c)
        have hbe := hidp (HBW.out.trans (T1.below HBW.out.size (by simp)))
        have hre := hidp (HR.out.end_ (Nat.lt_succ_self _) T1)
        obtain ⟨r0, r1, r2, r3, r4, r5, r6⟩ := cz7 PB
        obtain ⟨z0, z1, z2, z3, z4, z5, z6⟩ := cz7 BX.out
        obtain ⟨y0, y1, y2, y3, y4, y5, y6⟩ := cf7 BX.out
        obtain ⟨x0, x1, x2, x3, x4, x5, x6, _⟩ := HR.out.cells
        clear PB T1
        unfold pp7 at *
        go_wp2_with fail
        try rw [Exit.noGoto_ret]
        refine bodyPost_ret (v := .tuple #[.agg #[.int .i64 s.proto, .slice s.ca s.cores.length s.cc, .slice s.ha s.homes.length s.hc, .slice s.ta s.tasks.length s.tc, .int .i64 want, .int .i64 co, .slice A zs.length c], .int .i64 (k : Int), .int .i64 0]) (by simp [results, Tryd.results21, go_sem, r0, r1, r2, r3, r4, r5, r6]) rfl ⟨hbe.out, s, want, co, A, c, zs, hre.out.lower (Nat.le_succ _), ?_⟩
        rw [HLE.out]
        exact ⟨rfl, HE.out⟩
end Go.Proofs.YtggidlmehimcjaaDoor
