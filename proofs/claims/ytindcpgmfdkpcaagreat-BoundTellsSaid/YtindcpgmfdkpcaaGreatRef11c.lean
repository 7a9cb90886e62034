/- swingbridgeref11: Fair. -/
import Derived.Test.YtindcpgmfdkpcaaGreatRef11b
namespace Go.Proofs.YtindcpgmfdkpcaaGreat
open Go.ChangeShapes Go.WideShapes Go.ChangeAt Go.RowKit
set_option linter.unusedVariables false

set_option maxHeartbeats 4000000 in
set_option maxRecDepth 100000 in
theorem rfair_any (s : SetR) (of part : Int) (w : World) (hs : SetOk w s) : Calls Tryz.prog 26 #[.agg #[.int .i64 s.proto, .slice s.ca s.cores.length s.cc, .slice s.ha s.homes.length s.hc, .slice s.ta s.tasks.length s.tc], .int .i64 of, .int .i64 part] w fun e w' => e = .returned (.tuple #[.int .i64 (fairV s of part), .bool (fairK s of part)]) ∧ Below w.heap.size w w' := by
  have hb := ((Below.refl w.heap.size w).alloc (Nat.le_refl _) (.cells #[.int .i64 s.proto, .slice s.ca s.cores.length s.cc, .slice s.ha s.homes.length s.hc, .slice s.ta s.tasks.length s.tc] 25))
  have sc := SetCells.new w s 25
  have H := hs.keep (Keeps.of_below hb)
  clear hs
  by_cases k : fairK s of part = true
  · have hth := (fairK_iff.1 k).1
    have Ho := hidp (thereB_true.1 hth).1
    have HG := hidp (Good.of Ho.out)
    obtain ⟨p, HP⟩ : ∃ p, Hid (lockP s of part = p) := ⟨_, rfl⟩
    have hpp : partAt s of part = p := by rw [← HP.out]; unfold lockP; rw [if_pos k]
    have hin : of.toNat < s.tasks.length := by have := (thereB_true.1 hth).2; omega
    have hg := HG.out.parts _ (getD_mem hin)
    have hk := fairK_iff.1 k
    have hpm : p ∈ (s.tasks.getD of.toNat default).parts := by
      rw [← hpp]; unfold partAt; exact getD_mem (by omega)
    have hq := hg.lens p hpm
    obtain ⟨q1, q2⟩ := hq
    have Hbd := hidp (fun x (hx : x ∈ rothL of 0 s.tasks) => rothL_bd (fun q hq => (HG.out.parts q hq).lens) x hx)
    have Hlen := hidp (Nat.le_trans (rothL_len of 0 s.tasks) HG.out.ntasks.2)
    have Hv : Hid (fairV s of part = p.len + tot (rothL of 0 s.tasks)) := hidp (by unfold fairV; rw [if_pos k, hpp, (roth_is of 0 s.tasks).1])
    have Htot := hidp (tot_small Hbd.out)
    have Hsum : Hid (sumW (tops (rothL of 0 s.tasks) 6) = tot (rothL of 0 s.tasks)) := hidp (sum_most (k := 6) Hbd.out Hlen.out (by decide))
    obtain ⟨zs, hzs⟩ : ∃ zs, rothL of 0 s.tasks = zs := ⟨_, rfl⟩
    rw [hzs] at Hv Hbd Hlen Htot Hsum
    have Hzs := hidp hzs
    have hl6 := Hlen.out
    have Hi := hidp (fun x (hx : x ∈ zs) => (show I64 x by have := Hbd.out x hx; unfold I64; omega))
    obtain ⟨T, HT⟩ : ∃ T, Hid (tot zs = T) := ⟨_, rfl⟩
    have tb := Htot.out
    rw [HT.out] at tb
    obtain ⟨t0, t1⟩ := tb
    have t2 : T ≤ 360 := by omega
    have hwr : IntKind.i64.wrap (p.len + T) = p.len + T := IntWalk.i64_in _ (by omega)
    have Hwr := hidp hwr
    have Hk := hidp k
    clear hwr t1 hzs hpm hk hg hin hpp hth k
    go_enter Tryz.func26, Tryz.ntmps26
    go_wp2_with fail
    refine (rlock_any _ _ _ _ H).mono ?_
    rintro e w2 ⟨rfl, hb2⟩
    rw [HP.out, Hk.out]
    replace hb := hb.trans (hb2.mono hb.size)
    replace sc := sc.keep (Keeps.of_below hb2)
    replace H := H.keep (Keeps.of_below hb2)
    clear hb2
    have pb : (w2.alloc (.cells #[.int .i64 p.kind, .int .i64 p.len, .int .i64 p.res] 43)).cell? ⟨w2.heap.size, 1, none⟩ = some (.int .i64 p.len) := by simp
    replace hb := hb.alloc hb.size (.cells #[.int .i64 p.kind, .int .i64 p.len, .int .i64 p.res] 43)
    replace sc := sc.keep (Keeps.alloc _ (.cells #[.int .i64 p.kind, .int .i64 p.len, .int .i64 p.res] 43))
    replace H := H.keep (Keeps.alloc _ (.cells #[.int .i64 p.kind, .int .i64 p.len, .int .i64 p.res] 43))
    obtain ⟨w4, hw4⟩ : ∃ w4, w2.alloc (.cells #[.int .i64 p.kind, .int .i64 p.len, .int .i64 p.res] 43) = w4 := ⟨_, rfl⟩
    go_wp2_with fail
    rw [hw4] at pb hb sc H
    clear hw4
    have pb' : w4.drew.cell? ⟨w2.heap.size, 1, none⟩ = some (.int .i64 p.len) := pb
    have sc' := sc.keep (Keeps.drew w4)
    have H' := H.keep (Keeps.drew w4)
    have hb := hb.drew
    have hwr := Hwr.out
    clear pb sc H
    go_region_held3 (fun w' => w'.cell? ⟨w2.heap.size, 1, none⟩ = some (.int .i64 p.len) ∧ w'.cell? ⟨w.heap.size, 0, none⟩ = some (.int .i64 s.proto) ∧ w'.cell? ⟨w.heap.size, 1, none⟩ = some (.slice s.ca s.cores.length s.cc) ∧ w'.cell? ⟨w.heap.size, 2, none⟩ = some (.slice s.ha s.homes.length s.hc) ∧ w'.cell? ⟨w.heap.size, 3, none⟩ = some (.slice s.ta s.tasks.length s.tc)) (exact ⟨pb', sc'⟩)
      (first
        | (go_at_call 53; refine (rothers_any s of _ H' Ho.out).mono ?_; rintro e u ⟨A, c, rfl, hrow, hsl, hb3⟩; rw [Hzs.out] at hrow hsl ⊢; have HA := hidp hrow; have HB := hidp hsl; have pb' := Keeps.of_below hb3 _ _ pb'; have sc' := sc'.keep (Keeps.of_below hb3); have H' := H'.keep (Keeps.of_below hb3); have hb := hb.trans (hb3.mono hb.size))
        | (go_at_call 52; refine (rsum_any (zs := zs) (k := 6) (HA.out.mono (fun _ _ h => h)) rfl HB.out.2.1 HB.out.1 (by omega) (by decide) Hi.out).mono ?_; rintro e u2 ⟨rfl, hb3⟩; rw [Hsum.out, HT.out]; have pb' := Keeps.of_below hb3 _ _ pb'; have sc' := sc'.keep (Keeps.of_below hb3); have hb := hb.trans (hb3.mono hb.size)))
    clear hwr
    go_wp2_with fail
    go_ret2
    exact ⟨ret_ib (by rw [Hv.out, HT.out]) Hk.out.symm, hb⟩
  · have k : fairK s of part = false := by simpa using k
    have Hv := hidp (fair_no k)
    have HP : Hid (lockP s of part = ⟨0, 0, 0⟩) := hidp (by unfold lockP; rw [k]; rfl)
    go_enter Tryz.func26, Tryz.ntmps26
    go_wp2_with fail
    refine (rlock_any _ _ _ _ H).mono ?_
    rintro e w2 ⟨rfl, hb2⟩
    rw [HP.out]
    replace hb := hb.trans (hb2.mono hb.size)
    go_wp2_with fail
    go_ret2
    exact ⟨ret_ib Hv.out.symm k.symm, hb.alloc hb.size _⟩
end Go.Proofs.YtindcpgmfdkpcaaGreat
