/- swingbridgeref11: Ahead, lock, Fair. -/
import Derived.Test.YtindcpgmfdkpcaaGreatRef11a
import Derived.Test.YtindcpgmfdkpcaaGreatRefTop
import Derived.Test.YtindcpgmfdkpcaaGreatOwnT
namespace Go.Proofs.YtindcpgmfdkpcaaGreat
open Go.ChangeShapes Go.WideShapes Go.ChangeAt Go.RowKit
set_option linter.unusedVariables false

theorem sum_most {zs : List Int} {k : Nat} (h : ∀ n ∈ zs, 0 ≤ n ∧ n ≤ 60) (hl : zs.length ≤ k) (hk : k ≤ 1000) : sumW (tops zs k) = tot zs := by
  rw [← sum_all h (by omega)]
  unfold tops clampN
  rw [show (max 0 (min (k : Int) (zs.length : Int))).toNat = (max 0 (min (zs.length : Int) (zs.length : Int))).toNat by omega]


/-- a part that is a Lock, if it is one; else none -/
def lockP (s : SetR) (of part : Int) : PartM := if fairK s of part = true then partAt s of part else ⟨0, 0, 0⟩
def LockPost (w : World) (p : PartM) (b : Bool) (e : Ending) (w' : World) : Prop := e = .returned (.tuple #[.agg #[.int .i64 p.kind, .int .i64 p.len, .int .i64 p.res], .bool b]) ∧ Below w.heap.size w w'
theorem put3_turned (w : World) (g : Nat) (v0 v1 v2 : Value) : Turned [g] w (((w.setCell ⟨g, 0, none⟩ v0).setCell ⟨g, 1, none⟩ v1).setCell ⟨g, 2, none⟩ v2) :=
  (((Turned.refl [g] w).setCell (.inl (by simp)) _).setCell (.inl (by simp)) _).setCell (.inl (by simp)) _
theorem put3_bk {w : World} {g : Nat} {t : TypeId} {c0 c1 c2 v0 v1 v2 : Value} (h : Bk w g t #[c0, c1, c2]) : Bk (((w.setCell ⟨g, 0, none⟩ v0).setCell ⟨g, 1, none⟩ v1).setCell ⟨g, 2, none⟩ v2) g t #[v0, v1, v2] := by
  have := ((h.put 0 v0).put 1 v1).put 2 v2
  simpa using this
theorem Z3 {w : World} {g : Nat} {t : TypeId} {c0 c1 c2 : Value} (h : Bk w g t #[c0, c1, c2]) : w.cell? ⟨g, 0, none⟩ = some c0 ∧ w.cell? ⟨g, 1, none⟩ = some c1 ∧ w.cell? ⟨g, 2, none⟩ = some c2 := ⟨h.cell 0, h.cell 1, h.cell 2⟩
theorem ZF3 {w : World} {g : Nat} {t : TypeId} {cs : Array Value} (h : Bk w g t cs) : w.frozen? ⟨g, 0, none⟩ = false ∧ w.frozen? ⟨g, 1, none⟩ = false ∧ w.frozen? ⟨g, 2, none⟩ = false := ⟨h.frozen 0, h.frozen 1, h.frozen 2⟩

set_option maxHeartbeats 8000000 in
set_option maxRecDepth 100000 in
theorem rlock_any (s : SetR) (of part : Int) (w : World) (hs : SetOk w s) : Calls Tryz.prog 51 #[.agg #[.int .i64 s.proto, .slice s.ca s.cores.length s.cc, .slice s.ha s.homes.length s.hc, .slice s.ta s.tasks.length s.tc], .int .i64 of, .int .i64 part] w (LockPost w (lockP s of part) (fairK s of part)) := by
  have hb := ((Below.refl w.heap.size w).alloc (Nat.le_refl _) (.cells #[.int .i64 s.proto, .slice s.ca s.cores.length s.cc, .slice s.ha s.homes.length s.hc, .slice s.ta s.tasks.length s.tc] 25)).alloc (by simp) (.cells #[.int .i64 0, .int .i64 0, .int .i64 0] 43)
  have sc := (SetCells.new w s 25).keep (Keeps.alloc _ (.cells #[.int .i64 0, .int .i64 0, .int .i64 0] 43))
  have bk := Bk.at_ (w := w.alloc (.cells #[.int .i64 s.proto, .slice s.ca s.cores.length s.cc, .slice s.ha s.homes.length s.hc, .slice s.ta s.tasks.length s.tc] 25)) (g := w.heap.size + 1) (t := 43) (cs := #[.int .i64 0, .int .i64 0, .int .i64 0]) (by simp) rfl
  have H := hs.keep (Keeps.of_below hb)
  have l3 : s.tasks.length ≤ maxLen := Nat.le_trans hs.tasks.sl.2.1 hs.tasks.sl.2.2
  unfold maxLen at l3
  have NO : Hid (fairK s of part = false → lockP s of part = ⟨0, 0, 0⟩) := hidp (fun h => by unfold lockP; rw [h]; rfl)
  have hz0 : w.heap.size + 1 < ((w.alloc (.cells #[.int .i64 s.proto, .slice s.ca s.cores.length s.cc, .slice s.ha s.homes.length s.hc, .slice s.ta s.tasks.length s.tc] 25)).alloc (.cells #[.int .i64 0, .int .i64 0, .int .i64 0] 43)).heap.size := by simp
  by_cases e : thereB s of = true
  · obtain ⟨ho, r1, r2⟩ := thereB_true.1 e
    obtain ⟨n, rfl⟩ : ∃ n : Nat, of = n := ⟨of.toNat, by omega⟩
    have hn : n < s.tasks.length := by omega
    have hg := Good.of ho
    obtain ⟨t, HT⟩ : ∃ t, Hid (s.tasks.getD n default = t) := ⟨_, rfl⟩
    have hm : t ∈ s.tasks := HT.out ▸ getD_mem hn
    have Tok := hs.tasks.ok t hm
    have Tg := hg.parts t hm
    have HK : Hid (fairK s n part = true ↔ 0 ≤ part ∧ part < t.parts.length ∧ (t.parts.getD part.toNat default).kind = 3) := hidp (by
      rw [fairK_iff]; unfold partAt; simp only [Int.toNat_natCast]; rw [HT.out]; exact ⟨fun h => h.2, fun h => ⟨e, h⟩⟩)
    have HV : Hid (fairK s n part = true → lockP s n part = t.parts.getD part.toNat default) := hidp (fun h => by
      unfold lockP partAt; rw [if_pos h]; simp only [Int.toNat_natCast]; rw [HT.out])
    obtain ⟨g, off, hA, hcl⟩ := hs.tasks.at_.resolve_left (by intro e; rw [e] at hn; simp at hn)
    have tcl := (HT.out ▸ hcl n hn).2.2.2.2.2
    have Ht5 := hidp tcl
    have hpl := Tg.len
    obtain ⟨gp, op, hP, hpc⟩ := Tok.at_.resolve_left (by intro e; rw [e] at hpl; simp at hpl)
    have Hpc := hidp hpc
    obtain ⟨parts, hparts⟩ : ∃ parts, t.parts = parts := ⟨_, rfl⟩
    rw [hP, hparts] at Ht5
    rw [hparts] at HK HV Hpc hpl
    clear hcl hm Tok Tg hpc tcl hP hparts hg ho hs HT
    obtain ⟨proto, ca, cc, cores, ha, hc, homes, ta, tc, tasks⟩ := s
    dsimp only at hA hn l3 r2 hb sc H e bk hz0 ⊢
    subst hA
    have dn : decide (tasks.length ≤ n) = false := by simp; omega
    have hcase : part < 0 ∨ (0 ≤ part ∧ (parts.length : Int) ≤ part) ∨ (0 ≤ part ∧ part < (parts.length : Int)) := by omega
    rcases hcase with p | ⟨p, p2⟩ | ⟨p, p2⟩
    · have Hk := hidp (show fairK _ _ _ = false from by rw [Bool.eq_false_iff]; intro h; have := HK.out.1 h; omega)
      go_enter Tryz.func51, Tryz.ntmps51
      go_wp2_with (first | (go_at_call 30; (with_reducible refine (rthere_any _ _ _ H).mono ?_); rintro e w2 ⟨rfl, hb2⟩; have sc2 := sc.keep (Keeps.of_below hb2); obtain ⟨c0, c1, c2, c3⟩ := sc2; dsimp only at c0 c1 c2 c3; have d5 := Keeps.of_below (hb.trans (hb2.mono hb.size)) _ _ Ht5.out; have bk2 := bk.below hb2; obtain ⟨z0, z1, z2⟩ := Z3 bk2; obtain ⟨f0, f1, f2⟩ := ZF3 bk2; replace hb := hb.trans (hb2.mono hb.size)))
      have PB := put3_bk bk2 (v0 := .int .i64 0) (v1 := .int .i64 0) (v2 := .int .i64 0)
      have PT := put3_turned w2 (w.heap.size + 1) (.int .i64 0) (.int .i64 0) (.int .i64 0)
      obtain ⟨y0, y1, y2⟩ := Z3 PB
      have hbe := hb.trans (PT.below hb.size (by simp))
      rw [NO.out Hk.out, Hk.out]
      exact bodyPost_ret (v := .tuple #[.agg #[.int .i64 0, .int .i64 0, .int .i64 0], .bool false]) (by simp [results, Tryz.results51, go_sem, y0, y1, y2]) rfl ⟨rfl, hbe⟩
    · have Hk := hidp (show fairK _ _ _ = false from by rw [Bool.eq_false_iff]; intro h; have := HK.out.1 h; omega)
      have dp : decide ((parts.length : Int) ≤ part) = true := by simpa using p2
      go_enter Tryz.func51, Tryz.ntmps51
      go_wp2_with (first | (go_at_call 30; (with_reducible refine (rthere_any _ _ _ H).mono ?_); rintro e w2 ⟨rfl, hb2⟩; have sc2 := sc.keep (Keeps.of_below hb2); obtain ⟨c0, c1, c2, c3⟩ := sc2; dsimp only at c0 c1 c2 c3; have d5 := Keeps.of_below (hb.trans (hb2.mono hb.size)) _ _ Ht5.out; have bk2 := bk.below hb2; obtain ⟨z0, z1, z2⟩ := Z3 bk2; obtain ⟨f0, f1, f2⟩ := ZF3 bk2; replace hb := hb.trans (hb2.mono hb.size)))
      have PB := put3_bk bk2 (v0 := .int .i64 0) (v1 := .int .i64 0) (v2 := .int .i64 0)
      have PT := put3_turned w2 (w.heap.size + 1) (.int .i64 0) (.int .i64 0) (.int .i64 0)
      obtain ⟨y0, y1, y2⟩ := Z3 PB
      have hbe := hb.trans (PT.below hb.size (by simp))
      rw [NO.out Hk.out, Hk.out]
      exact bodyPost_ret (v := .tuple #[.agg #[.int .i64 0, .int .i64 0, .int .i64 0], .bool false]) (by simp [results, Tryz.results51, go_sem, y0, y1, y2]) rfl ⟨rfl, hbe⟩
    · obtain ⟨m, rfl⟩ : ∃ m : Nat, part = m := ⟨part.toNat, by omega⟩
      have hml : m < parts.length := by omega
      obtain ⟨q, HQ⟩ : ∃ q, Hid (parts.getD m default = q) := ⟨_, rfl⟩
      have dm : decide (parts.length ≤ m) = false := by simp; omega
      by_cases k : q.kind = 3
      · have Hk := hidp (HK.out.2 ⟨p, p2, by simp only [Int.toNat_natCast]; rw [HQ.out]; exact k⟩)
        have Hv : Hid (lockP ⟨proto, ca, cc, cores, ha, hc, homes, some ⟨g, off, none⟩, tc, tasks⟩ n m = q) := hidp (by rw [HV.out Hk.out]; simp only [Int.toNat_natCast]; rw [HQ.out])
        have k2 : (q.kind != 3) = false := by simpa using k
        clear k
        go_enter Tryz.func51, Tryz.ntmps51
        go_wp2_with (first | (go_at_call 30; (with_reducible refine (rthere_any _ _ _ H).mono ?_); rintro e w2 ⟨rfl, hb2⟩; have sc2 := sc.keep (Keeps.of_below hb2); obtain ⟨c0, c1, c2, c3⟩ := sc2; dsimp only at c0 c1 c2 c3; have d5 := Keeps.of_below (hb.trans (hb2.mono hb.size)) _ _ Ht5.out; have pcl := (HQ.out ▸ Hpc.out m hml).keep (Keeps.of_below (hb.trans (hb2.mono hb.size))); obtain ⟨x0, x1, x2⟩ := pcl; have bk2 := bk.below hb2; obtain ⟨z0, z1, z2⟩ := Z3 bk2; obtain ⟨f0, f1, f2⟩ := ZF3 bk2; replace hb := hb.trans (hb2.mono hb.size)))
        have PB := put3_bk bk2 (v0 := .int .i64 q.kind) (v1 := .int .i64 q.len) (v2 := .int .i64 q.res)
        have PT := put3_turned w2 (w.heap.size + 1) (.int .i64 q.kind) (.int .i64 q.len) (.int .i64 q.res)
        obtain ⟨y0, y1, y2⟩ := Z3 PB
        have hbe := hb.trans (PT.below hb.size (by simp))
        rw [Hv.out, Hk.out]
        exact bodyPost_ret (v := .tuple #[.agg #[.int .i64 q.kind, .int .i64 q.len, .int .i64 q.res], .bool true]) (by simp [results, Tryz.results51, go_sem, y0, y1, y2]) rfl ⟨rfl, hbe⟩
      · have Hk := hidp (show fairK _ _ _ = false from by rw [Bool.eq_false_iff]; intro h; have h := (HK.out.1 h).2.2; simp only [Int.toNat_natCast] at h; rw [HQ.out] at h; exact k h)
        have k2 : (q.kind != 3) = true := by simpa using k
        clear k
        go_enter Tryz.func51, Tryz.ntmps51
        go_wp2_with (first | (go_at_call 30; (with_reducible refine (rthere_any _ _ _ H).mono ?_); rintro e w2 ⟨rfl, hb2⟩; have sc2 := sc.keep (Keeps.of_below hb2); obtain ⟨c0, c1, c2, c3⟩ := sc2; dsimp only at c0 c1 c2 c3; have d5 := Keeps.of_below (hb.trans (hb2.mono hb.size)) _ _ Ht5.out; have pcl := (HQ.out ▸ Hpc.out m hml).keep (Keeps.of_below (hb.trans (hb2.mono hb.size))); obtain ⟨x0, x1, x2⟩ := pcl; have bk2 := bk.below hb2; obtain ⟨z0, z1, z2⟩ := Z3 bk2; obtain ⟨f0, f1, f2⟩ := ZF3 bk2; replace hb := hb.trans (hb2.mono hb.size)))
        have PB := put3_bk bk2 (v0 := .int .i64 0) (v1 := .int .i64 0) (v2 := .int .i64 0)
        have PT := put3_turned w2 (w.heap.size + 1) (.int .i64 0) (.int .i64 0) (.int .i64 0)
        obtain ⟨y0, y1, y2⟩ := Z3 PB
        have hbe := hb.trans (PT.below hb.size (by simp))
        rw [NO.out Hk.out, Hk.out]
        exact bodyPost_ret (v := .tuple #[.agg #[.int .i64 0, .int .i64 0, .int .i64 0], .bool false]) (by simp [results, Tryz.results51, go_sem, y0, y1, y2]) rfl ⟨rfl, hbe⟩
  · have e : thereB s of = false := by simpa using e
    have Hk : Hid (fairK s of part = false) := hidp (by refine fairK_not (fun h => ?_); rw [e] at h; exact absurd h.1 (by decide))
    go_enter Tryz.func51, Tryz.ntmps51
    go_wp2_with (first | (go_at_call 30; (with_reducible refine (rthere_any _ _ _ H).mono ?_); rintro e w2 ⟨rfl, hb2⟩; have sc2 := sc.keep (Keeps.of_below hb2); obtain ⟨c0, c1, c2, c3⟩ := sc2; have bk2 := bk.below hb2; obtain ⟨z0, z1, z2⟩ := Z3 bk2; obtain ⟨f0, f1, f2⟩ := ZF3 bk2; replace hb := hb.trans (hb2.mono hb.size)))
    have PB := put3_bk bk2 (v0 := .int .i64 0) (v1 := .int .i64 0) (v2 := .int .i64 0)
    have PT := put3_turned w2 (w.heap.size + 1) (.int .i64 0) (.int .i64 0) (.int .i64 0)
    obtain ⟨y0, y1, y2⟩ := Z3 PB
    have hbe := hb.trans (PT.below hb.size (by simp))
    rw [NO.out Hk.out, Hk.out]
    exact bodyPost_ret (v := .tuple #[.agg #[.int .i64 0, .int .i64 0, .int .i64 0], .bool false]) (by simp [results, Tryz.results51, go_sem, y0, y1, y2]) rfl ⟨rfl, hbe⟩
end Go.Proofs.YtindcpgmfdkpcaaGreat
