/- fair: Part. -/
import Derived.Test.YtjjlpaampmpdfaaGreatDoorFair1
import Derived.Test.YtjjlpaampmpdfaaGreatDoorSumTop
namespace Go.Proofs.YtjjlpaampmpdfaaGreatDoor
open Go.ChangeShapes Go.WideShapes Go.ChangeAt Go.RowKit
set_option linter.unusedVariables false

theorem tot_perm {a b : List Int} (h : a.Perm b) : tot a = tot b := by
  induction h with
  | nil => rfl
  | cons x _ ih => simp [tot, ih]
  | swap x y l => simp [tot]; omega
  | trans _ _ i1 i2 => exact i1.trans i2
theorem tot_small {l : List Int} (h : ∀ n ∈ l, 0 ≤ n ∧ n ≤ 60) : 0 ≤ tot l ∧ tot l ≤ 60 * (l.length : Int) := by
  induction l with
  | nil => simp [tot]
  | cons a l ih =>
    have h1 := ih (fun n hn => h n (by simp [hn]))
    have h2 := h a (by simp)
    simp only [tot, List.length_cons]; omega
theorem fold_small (l : List Int) (a : Int) (h : ∀ n ∈ l, 0 ≤ n ∧ n ≤ 60) (h0 : 0 ≤ a) (h1 : a + 60 * (l.length : Int) ≤ 1000000) : l.foldl (fun a x => wrap64 (a + x)) a = a + tot l := by
  induction l generalizing a with
  | nil => simp [tot]
  | cons x l ih =>
    have hx := h x (by simp)
    simp only [List.length_cons] at h1
    simp only [List.foldl_cons, tot]
    rw [IntWalk.wrap64_in _ (by omega), ih (a + x) (fun n hn => h n (by simp [hn])) (by omega) (by omega)]
    omega
/-- all of a row summed up, the greatest first -/
theorem sum_all {zs : List Int} (h : ∀ n ∈ zs, 0 ≤ n ∧ n ≤ 60) (hl : zs.length ≤ 1000) : sumW (tops zs zs.length) = tot zs := by
  have e : tops zs zs.length = desc zs := by
    unfold tops clampN
    rw [List.take_of_length_le]
    rw [desc_len]; omega
  rw [e]
  have hp := desc_perm zs
  have hd : ∀ n ∈ desc zs, 0 ≤ n ∧ n ≤ 60 := fun n hn => h n (hp.mem_iff.1 hn)
  unfold sumW
  rw [fold_small (desc zs) 0 hd (by omega) (by rw [desc_len]; omega), tot_perm hp]
  omega

def fairV (s : SetR) (of part : Int) : Int := if fairK s of part = true then (partAt s of part).len + tot (othL of 0 s.tasks) else 0
theorem fair_no {s : SetR} {of part : Int} (h : fairK s of part = false) : fairV s of part = 0 := by unfold fairV; rw [h]; rfl

set_option maxHeartbeats 4000000 in
set_option maxRecDepth 100000 in
theorem part_any (s : SetR) (of part : Int) (w : World) (hs : SetOk w s) : Calls Tryz.prog 61 #[.agg #[.int .i64 s.proto, .slice s.ca s.cores.length s.cc, .slice s.ha s.homes.length s.hc, .slice s.ta s.tasks.length s.tc], .int .i64 of, .int .i64 part] w fun e w' => e = .returned (.tuple #[.int .i64 (fairV s of part), .bool (fairK s of part)]) ∧ Below w.heap.size w w' := by
  have hb := (Below.refl w.heap.size w).alloc (Nat.le_refl _) (.cells #[.int .i64 s.proto, .slice s.ca s.cores.length s.cc, .slice s.ha s.homes.length s.hc, .slice s.ta s.tasks.length s.tc] 25)
  have sc := SetCells.new w s 25
  have H := hs.keep (Keeps.of_below hb)
  have l3 : s.tasks.length ≤ maxLen := Nat.le_trans hs.tasks.sl.2.1 hs.tasks.sl.2.2
  unfold maxLen at l3
  by_cases e : thereB s of = true
  · obtain ⟨ho, r1, r2⟩ := thereB_true.1 e
    obtain ⟨n, rfl⟩ : ∃ n : Nat, of = n := ⟨of.toNat, by omega⟩
    have hn : n < s.tasks.length := by omega
    have hg := Good.of ho
    obtain ⟨t, HT⟩ : ∃ t, Hid (s.tasks.getD n default = t) := ⟨_, rfl⟩
    have hm : t ∈ s.tasks := HT.out ▸ getD_mem hn
    have Tok := hs.tasks.ok t hm
    have Tg := hg.parts t hm
    have Hoth := hidp (fun x (hx : x ∈ othL n 0 s.tasks) => othL_bd (fun q hq => (hg.parts q hq).lens) x hx)
    have hol : (othL n 0 s.tasks).length ≤ 6 := Nat.le_trans (othL_len _ _ _) hg.ntasks.2
    have Ho := hidp ho
    have HK : Hid (fairK s n part = true ↔ 0 ≤ part ∧ part < t.parts.length ∧ (t.parts.getD part.toNat default).kind = 3) := hidp (by
      rw [fairK_iff]; unfold partAt; simp only [Int.toNat_natCast]; rw [HT.out]; exact ⟨fun h => h.2, fun h => ⟨e, h⟩⟩)
    have HV : Hid (fairK s n part = true → fairV s n part = (t.parts.getD part.toNat default).len + tot (othL n 0 s.tasks)) := hidp (fun h => by
      unfold fairV partAt; rw [if_pos h]; simp only [Int.toNat_natCast]; rw [HT.out])
    obtain ⟨g, off, hA, hcl⟩ := hs.tasks.at_.resolve_left (by intro e; rw [e] at hn; simp at hn)
    have tcl := (HT.out ▸ hcl n hn).2.2.2.2.2
    have Ht5 := hidp tcl
    have hpl := Tg.len
    obtain ⟨gp, op, hP, hpc⟩ := Tok.at_.resolve_left (by intro e; rw [e] at hpl; simp at hpl)
    have Hpc := hidp hpc
    have HL := hidp Tg.lens
    obtain ⟨parts, hparts⟩ : ∃ parts, t.parts = parts := ⟨_, rfl⟩
    have Hsum := hidp (sum_all (fun x hx => by have := Hoth.out x hx; omega) (Nat.le_trans hol (by decide)))
    have Htot := hidp (tot_small (fun x (hx : x ∈ othL n 0 s.tasks) => by have := Hoth.out x hx; omega))
    obtain ⟨zs, hzs⟩ : ∃ zs, othL n 0 s.tasks = zs := ⟨_, rfl⟩
    rw [hP, hparts] at Ht5
    rw [hparts] at HK HV Hpc HL hpl
    rw [hzs] at HV Hoth hol Hsum Htot
    have Hzs := hidp hzs
    clear hcl hm Tok Tg hpc tcl hP hparts hzs hg ho hs HT
    obtain ⟨proto, ca, cc, cores, ha, hc, homes, ta, tc, tasks⟩ := s
    dsimp only at hA hn l3 r2 hb sc H e ⊢
    subst hA
    have dn : decide (tasks.length ≤ n) = false := by simp; omega
    have hcase : part < 0 ∨ (0 ≤ part ∧ (parts.length : Int) ≤ part) ∨ (0 ≤ part ∧ part < (parts.length : Int)) := by omega
    rcases hcase with p | ⟨p, p2⟩ | ⟨p, p2⟩
    · have Hk := hidp (show fairK _ _ _ = false from by rw [Bool.eq_false_iff]; intro h; have := HK.out.1 h; omega)
      have Hv := hidp (fair_no Hk.out)
      go_enter Tryz.func61, Tryz.ntmps61
      go_wp2_with (first | (go_at_call 80; (with_reducible refine (there_any _ _ _ H).mono ?_); rintro e w2 ⟨rfl, hb2⟩; have sc2 := sc.keep (Keeps.of_below hb2); obtain ⟨c0, c1, c2, c3⟩ := sc2; dsimp only at c0 c1 c2 c3; replace hb := hb.trans (hb2.mono hb.size); have d5 := Keeps.of_below hb _ _ Ht5.out))
      go_ret2
      exact ⟨ret_ib Hv.out.symm Hk.out.symm, hb⟩
    · have Hk := hidp (show fairK _ _ _ = false from by rw [Bool.eq_false_iff]; intro h; have := HK.out.1 h; omega)
      have Hv := hidp (fair_no Hk.out)
      have dp : decide ((parts.length : Int) ≤ part) = true := by simpa using p2
      go_enter Tryz.func61, Tryz.ntmps61
      go_wp2_with (first | (go_at_call 80; (with_reducible refine (there_any _ _ _ H).mono ?_); rintro e w2 ⟨rfl, hb2⟩; have sc2 := sc.keep (Keeps.of_below hb2); obtain ⟨c0, c1, c2, c3⟩ := sc2; dsimp only at c0 c1 c2 c3; replace hb := hb.trans (hb2.mono hb.size); have d5 := Keeps.of_below hb _ _ Ht5.out))
      go_ret2
      exact ⟨ret_ib Hv.out.symm Hk.out.symm, hb⟩
    · obtain ⟨m, rfl⟩ : ∃ m : Nat, part = m := ⟨part.toNat, by omega⟩
      have hml : m < parts.length := by omega
      obtain ⟨q, HQ⟩ : ∃ q, Hid (parts.getD m default = q) := ⟨_, rfl⟩
      have hq := HL.out q (HQ.out ▸ getD_mem hml)
      obtain ⟨q1, q2⟩ := hq
      have dm : decide (parts.length ≤ m) = false := by simp; omega
      by_cases k : q.kind = 3
      · have Hk := hidp (HK.out.2 ⟨p, p2, by simp only [Int.toNat_natCast]; rw [HQ.out]; exact k⟩)
        have Hv : Hid (fairV ⟨proto, ca, cc, cores, ha, hc, homes, some ⟨g, off, none⟩, tc, tasks⟩ n m = q.len + tot zs) := hidp (by rw [HV.out Hk.out]; simp only [Int.toNat_natCast]; rw [HQ.out])
        have k2 : (q.kind != 3) = false := by simpa using k
        clear k
        go_enter Tryz.func61, Tryz.ntmps61
        go_wp2_with (first | (go_at_call 80; (with_reducible refine (there_any _ _ _ H).mono ?_); rintro e w2 ⟨rfl, hb2⟩; replace sc := sc.keep (Keeps.of_below hb2); have sc2 := sc; obtain ⟨c0, c1, c2, c3⟩ := sc2; dsimp only at c0 c1 c2 c3; replace hb := hb.trans (hb2.mono hb.size); replace H := H.keep (Keeps.of_below hb2); have d5 := Keeps.of_below hb _ _ Ht5.out; have pcl := (HQ.out ▸ Hpc.out m hml).keep (Keeps.of_below hb); obtain ⟨x0, x1, x2⟩ := pcl; replace hb := hb.alloc hb.size (.cells #[.int .i64 q.kind, .int .i64 q.len, .int .i64 q.res] 38); replace H := H.keep (Keeps.alloc _ (.cells #[.int .i64 q.kind, .int .i64 q.len, .int .i64 q.res] 38)); replace sc := sc.keep (Keeps.alloc _ (.cells #[.int .i64 q.kind, .int .i64 q.len, .int .i64 q.res] 38)); have sc2 := sc; obtain ⟨e0, e1, e2, e3⟩ := sc2; dsimp only at e0 e1 e2 e3; clear hb2))
        have hO := others_any _ n _ H Ho.out
        dsimp only at hO
        rw [Hzs.out] at hO
        have pb : (w2.alloc (.cells #[.int .i64 q.kind, .int .i64 q.len, .int .i64 q.res] 38)).cell? ⟨w2.heap.size, 1, none⟩ = some (.int .i64 q.len) := by simp
        have pb0 : (w2.alloc (.cells #[.int .i64 q.kind, .int .i64 q.len, .int .i64 q.res] 38)).cell? ⟨w2.heap.size, 0, none⟩ = some (.int .i64 q.kind) := by simp
        refine hO.mono ?_
        rintro e w3 ⟨A, c, rfl, hrow, hsl, hb2⟩
        replace hb := hb.trans (hb2.mono hb.size)
        replace pb := Keeps.of_below hb2 _ _ pb
        obtain ⟨T, HT⟩ : ∃ T, Hid (tot zs = T) := ⟨_, rfl⟩
        have tb := Htot.out
        rw [HT.out] at tb
        obtain ⟨t0, t1⟩ := tb
        have t2 : T ≤ 360 := by omega
        have hwr : IntKind.i64.wrap (q.len + T) = q.len + T := IntWalk.i64_in _ (by omega)
        have HA := hidp hrow
        have HB := hidp hsl
        have Hi := hidp (fun x (hx : x ∈ zs) => (show I64 x by have := Hoth.out x hx; unfold I64; omega))
        clear hb2 hrow hsl hO H x0 x1 x2 e0 e1 e2 e3 c0 c1 c2 c3 d5 t1 pb0 sc
        go_wp2_with fail
        have pb' : w3.drew.cell? ⟨w2.heap.size, 1, none⟩ = some (.int .i64 q.len) := pb
        have hb := hb.drew
        go_region_held3 (fun w' => w'.cell? ⟨w2.heap.size, 1, none⟩ = some (.int .i64 q.len)) (exact pb')
          (first
            | (go_at_call 82; refine (ssum_any (zs := zs) (k := (zs.length : Int)) (HA.out.mono (w' := w3.drew) (fun _ _ h => h)) rfl HB.out.2.1 HB.out.1 (by omega) (by unfold I64; omega) Hi.out).mono ?_; rintro e u ⟨rfl, hb3⟩; rw [Hsum.out, HT.out]; have pb' := Keeps.of_below hb3 _ _ pb'; have hb := hb.trans (hb3.mono hb.size)))
        clear hwr
        go_wp2_with fail
        go_ret2
        exact ⟨ret_ib (by rw [Hv.out, HT.out]) Hk.out.symm, hb⟩
      · have Hk := hidp (show fairK _ _ _ = false from by rw [Bool.eq_false_iff]; intro h; have h := (HK.out.1 h).2.2; simp only [Int.toNat_natCast] at h; rw [HQ.out] at h; exact k h)
        have Hv := hidp (fair_no Hk.out)
        have k2 : (q.kind != 3) = true := by simpa using k
        clear k
        go_enter Tryz.func61, Tryz.ntmps61
        go_wp2_with (first | (go_at_call 80; (with_reducible refine (there_any _ _ _ H).mono ?_); rintro e w2 ⟨rfl, hb2⟩; have sc2 := sc.keep (Keeps.of_below hb2); obtain ⟨c0, c1, c2, c3⟩ := sc2; dsimp only at c0 c1 c2 c3; replace hb := hb.trans (hb2.mono hb.size); have d5 := Keeps.of_below hb _ _ Ht5.out; have pcl := (HQ.out ▸ Hpc.out m hml).keep (Keeps.of_below hb); obtain ⟨x0, x1, x2⟩ := pcl; clear hb2))
        go_ret2
        exact ⟨ret_ib Hv.out.symm Hk.out.symm, hb.alloc hb.size _⟩
  · have e : thereB s of = false := by simpa using e
    have Hk : Hid (fairK s of part = false) := hidp (by refine fairK_not (fun h => ?_); rw [e] at h; exact absurd h.1 (by decide))
    have Hv := hidp (fair_no Hk.out)
    go_enter Tryz.func61, Tryz.ntmps61
    go_wp2_with (first | (go_at_call 80; (with_reducible refine (there_any _ _ _ H).mono ?_); rintro e w2 ⟨rfl, hb2⟩; replace hb := hb.trans (hb2.mono hb.size)))
    go_ret2
    exact ⟨ret_ib Hv.out.symm Hk.out.symm, hb⟩
end Go.Proofs.YtjjlpaampmpdfaaGreatDoor
