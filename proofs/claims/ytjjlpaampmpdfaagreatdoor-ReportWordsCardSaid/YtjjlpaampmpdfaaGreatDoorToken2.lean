/- token: rounds, slowest, Inside, Outside, Part. -/
import Derived.Test.YtjjlpaampmpdfaaGreatDoorToken1
import Derived.Deep.RegionHeld3
namespace Go.Proofs.YtjjlpaampmpdfaaGreatDoor
open Go.ChangeShapes Go.WideShapes Go.ChangeAt Go.RowKit
set_option linter.unusedVariables false
set_option linter.unusedSimpArgs false

def coreAt (s : SetR) (cl : Int) : Int := s.cores.getD cl.toNat 0
/-- how many times all that are in may have to change -/
def rndV (s : SetR) (cl : Int) : Int := (max 0 (askersV s cl - coreAt s cl) + coreAt s cl - 1) / coreAt s cl
theorem up_small {a b : Int} (h0 : 0 ≤ a) (h1 : a ≤ 100) (h2 : 1 ≤ b) (h3 : b ≤ 3) : upR a b = (a + b - 1) / b ∧ upK a b = true := by
  have e : upV a b = (a + b - 1) / b := by
    unfold upV
    rw [Int.tdiv_eq_ediv_of_nonneg h0, Int.tmod_eq_emod_of_nonneg h0]
    have hb : b = 1 ∨ b = 2 ∨ b = 3 := by omega
    rcases hb with rfl | rfl | rfl
    · split <;> omega
    · split <;> omega
    · split <;> omega
  have hf : I64 (upV a b) := upV_in (by unfold I64; omega) (by omega) (by omega)
  unfold upR upK
  rw [if_neg (by omega), if_neg (by omega), fitR_in hf, fitK_in hf, e]
  exact ⟨rfl, rfl⟩
theorem rndV_bd {s : SetR} (ho : okS s = true) {cl : Int} (h : 0 ≤ cl ∧ cl < s.cores.length) : 0 ≤ rndV s cl ∧ rndV s cl ≤ 6 := by
  have hg := Good.of ho
  have hc := hg.cores (coreAt s cl) (by
    have : cl.toNat < s.cores.length := by omega
    unfold coreAt; simp [List.getD, this])
  have ha : 0 ≤ askersV s cl ∧ askersV s cl ≤ 6 := by
    unfold askersV; rw [if_pos ho]
    have := askN_bd cl s.tasks
    have := hg.ntasks
    omega
  unfold rndV
  generalize coreAt s cl = c at *
  have hb : c = 1 ∨ c = 2 ∨ c = 3 := by omega
  rcases hb with rfl | rfl | rfl <;> omega

set_option maxHeartbeats 2000000 in
set_option maxRecDepth 100000 in
theorem rounds_any (s : SetR) (cl : Int) (w : World) (hs : SetOk w s) (ho : okS s = true) (hc : 0 ≤ cl ∧ cl < s.cores.length) : Calls Tryz.prog 120 #[.agg #[.int .i64 s.proto, .slice s.ca s.cores.length s.cc, .slice s.ha s.homes.length s.hc, .slice s.ta s.tasks.length s.tc], .int .i64 cl] w fun e w' => e = .returned (.int .i64 (rndV s cl)) ∧ Below w.heap.size w w' := by
  have hb := (Below.refl w.heap.size w).alloc (Nat.le_refl _) (.cells #[.int .i64 s.proto, .slice s.ca s.cores.length s.cc, .slice s.ha s.homes.length s.hc, .slice s.ta s.tasks.length s.tc] 25)
  have sc := SetCells.new w s 25
  have hg := Good.of ho
  have HS := hidp hs
  obtain ⟨c, rfl⟩ : ∃ c : Nat, cl = c := ⟨cl.toNat, by omega⟩
  have hcl : c < s.cores.length := by omega
  obtain ⟨n, HN⟩ : ∃ n, Hid (coreAt s c = n) := ⟨_, rfl⟩
  have hn := hg.cores n (by rw [← HN.out]; unfold coreAt; simp [List.getD, hcl])
  have ha : 0 ≤ askersV s c ∧ askersV s c ≤ 6 := by
    unfold askersV; rw [if_pos ho]
    have := askN_bd c s.tasks
    have := hg.ntasks
    omega
  obtain ⟨k, HK⟩ : ∃ k, Hid (askersV s c = k) := ⟨_, rfl⟩
  rw [HK.out] at ha
  obtain ⟨a0, a1⟩ := ha
  obtain ⟨n1, n2⟩ := hn
  obtain ⟨u1, u2⟩ := up_small (a := max 0 (k - n)) (b := n) (by omega) (by omega) n1 n2
  have HU1 := hidp u1
  have HU2 := hidp u2
  have HV : Hid (rndV s c = (max 0 (k - n) + n - 1) / n) := hidp (by unfold rndV; rw [HN.out, HK.out])
  have HR := hidp hs.cores.at_
  have HNc : Hid (s.cores.getD c 0 = n) := hidp (by have := HN.out; unfold coreAt at this; simpa using this)
  clear hs ho hg u1 u2 hc
  obtain ⟨proto, ca, cc, cores, ha, hc, homes, ta, tc, tasks⟩ := s
  dsimp only at HR hcl hb sc HNc ⊢
  obtain ⟨g, off, hA, hcc⟩ := HR.out.resolve_left (by intro e; rw [e] at hcl; simp at hcl)
  subst hA
  have ch := Keeps.of_below hb _ _ (HNc.out ▸ hcc c hcl)
  obtain ⟨c0, c1, c2, c3⟩ := id sc
  dsimp only at c0 c1 c2 c3
  clear hcc
  go_enter Tryz.func120, Tryz.ntmps120
  go_wp2_with fail
  refine (askers_any _ c _ (HS.out.keep (Keeps.of_below hb))).mono ?_
  rintro e w2 ⟨rfl, hb2⟩
  replace hb := hb.trans (hb2.mono hb.size)
  clear hb2
  rw [HK.out]
  go_wp2_with fail
  refine (up_any (max 0 (k - n)) n _ (by unfold I64; omega) (by unfold I64; omega)).mono ?_
  rintro e w3 ⟨rfl, hq⟩
  rw [HU1.out, HU2.out]
  go_wp2_with fail
  go_ret
  exact ⟨ret_int HV.out.symm, Qt.below hq hb⟩

/-- how long a request of any task of a cluster takes at most once it is let in -/
def slowL (s : SetR) (cl : Int) : Nat → List TaskR → Int
  | _, [] => 0
  | k, t :: ts => max (if t.cl = cl ∧ maxL t.parts ≠ 0 then maxL t.parts + besV s k else 0) (slowL s cl (k + 1) ts)
theorem slowL_bd {s : SetR} (ho : okS s = true) (cl : Int) (k : Nat) {ts : List TaskR} (h : ∀ t ∈ ts, LenOk t.parts) : 0 ≤ slowL s cl k ts ∧ slowL s cl k ts ≤ 420 := by
  induction ts generalizing k with
  | nil => simp [slowL]
  | cons t ts ih =>
    have h1 := ih (k + 1) (fun q hq => h q (by simp [hq]))
    have h2 := besV_bd ho k
    have h3 := maxL_bd (h t (by simp))
    have h4 := maxL_nn t.parts
    simp only [slowL]; split <;> omega
theorem slowL_append {s : SetR} (ho : okS s = true) (cl : Int) (k : Nat) {a b : List TaskR} (hb : ∀ t ∈ b, LenOk t.parts) : slowL s cl k (a ++ b) = max (slowL s cl k a) (slowL s cl (k + a.length) b) := by
  induction a generalizing k with
  | nil => have := (slowL_bd ho cl k hb).1; simp [slowL]; omega
  | cons t a ih => simp only [List.cons_append, slowL, ih, List.length_cons]; rw [show k + 1 + a.length = k + (a.length + 1) by omega]; omega
theorem slowL_snoc {s : SetR} (ho : okS s = true) (cl : Int) {ts : List TaskR} (hts : ∀ t ∈ ts, LenOk t.parts) (n : Nat) (h : n < ts.length) : slowL s cl 0 (ts.take (n + 1)) = max (slowL s cl 0 (ts.take n)) (if (ts.getD n default).cl = cl ∧ maxL (ts.getD n default).parts ≠ 0 then maxL (ts.getD n default).parts + besV s n else 0) := by
  rw [take_snocD ts n h, slowL_append ho]
  · have h2 := besV_bd ho (n : Nat)
    have h4 := maxL_nn (ts.getD n default).parts
    simp only [slowL, List.length_take, Nat.min_eq_left (Nat.le_of_lt h), Nat.zero_add]
    split <;> omega
  · intro t ht; simp at ht; subst ht; exact hts _ (getD_mem h)
set_option maxHeartbeats 2000000 in
set_option maxRecDepth 100000 in
theorem slowest_any (s : SetR) (cl : Int) (w : World) (hs : SetOk w s) (ho : okS s = true) : Calls Tryz.prog 121 #[.agg #[.int .i64 s.proto, .slice s.ca s.cores.length s.cc, .slice s.ha s.homes.length s.hc, .slice s.ta s.tasks.length s.tc], .int .i64 cl] w fun e w' => e = .returned (.int .i64 (slowL s cl 0 s.tasks)) ∧ Below w.heap.size w w' := by
  have hb := (Below.refl w.heap.size w).alloc (Nat.le_refl _) (.cells #[.int .i64 s.proto, .slice s.ca s.cores.length s.cc, .slice s.ha s.homes.length s.hc, .slice s.ta s.tasks.length s.tc] 25)
  have sc := SetCells.new w s 25
  have hg := Good.of ho
  have HG := hidp hg.parts
  have n6 := hg.ntasks.2
  have HS := hidp hs
  have HR := hidp hs.tasks.at_
  have Hok := hidp hs.tasks.ok
  have Ho := hidp ho
  obtain ⟨Sv, HSv⟩ : ∃ Sv : Nat → Int, Hid (∀ k, slowL s cl 0 (s.tasks.take k) = Sv k) := ⟨fun k => slowL s cl 0 (s.tasks.take k), hidp (fun _ => rfl)⟩
  obtain ⟨Bt, HBt⟩ : ∃ Bt : Nat → Int, Hid (∀ k : Nat, besV s k = Bt k) := ⟨fun k => besV s k, hidp (fun _ => rfl)⟩
  have HBb : Hid (∀ k, 0 ≤ Bt k ∧ Bt k ≤ 360) := hidp (fun k => by rw [← HBt.out]; exact besV_bd ho k)
  have HS0 : Hid (Sv 0 = 0) := hidp (by rw [← HSv.out, List.take_zero]; rfl)
  have HSb : Hid (∀ k, 0 ≤ Sv k ∧ Sv k ≤ 420) := hidp (fun k => by rw [← HSv.out]; exact slowL_bd ho cl 0 (fun t ht => (hg.parts t (List.mem_of_mem_take ht)).lens))
  have HSs : Hid (∀ k, k < s.tasks.length → Sv (k + 1) = max (Sv k) (if (s.tasks.getD k default).cl = cl ∧ maxL (s.tasks.getD k default).parts ≠ 0 then maxL (s.tasks.getD k default).parts + Bt k else 0)) := hidp (fun k hk => by rw [← HSv.out, ← HSv.out, ← HBt.out]; exact slowL_snoc ho cl (fun t ht => (hg.parts t ht).lens) k hk)
  have HSe : Hid (slowL s cl 0 s.tasks = Sv s.tasks.length) := hidp (by rw [← HSv.out, List.take_length])
  rw [HSe.out]
  clear hs ho hg HSv HSe
  obtain ⟨proto, ca, cc, cores, ha, hc, homes, ta, tc, tasks⟩ := s
  dsimp only at HG HR Hok n6 hb HSs ⊢
  obtain ⟨c0, c1, c2, c3⟩ := id sc
  dsimp only at c0 c1 c2 c3
  go_enter Tryz.func121, Tryz.ntmps121
  go_wp2
  go_step3
  go_wp2
  go_step3
  go_wp2
  go_loopg [5, 12] tasks.length (fun gg a i wr => ∃ (k : Nat) (x : Int), k + gg = tasks.length ∧ i = .int .i64 k ∧ a = .int .i64 x ∧ Hid (Sv k = x) ∧ SetCells wr w.heap.size ⟨proto, ca, cc, cores, ha, hc, homes, ta, tc, tasks⟩ ∧ Below w.heap.size w wr)
  case atStart => exact ⟨0, 0, by omega, rfl, rfl, hidp HS0.out, sc, hb⟩
  case round =>
    clear sc hb c0 c1 c2 c3
    obtain ⟨k, x, hk, rfl, rfl, Hx, sc, hb⟩ := hrel
    have hx := HSb.out k
    rw [Hx.out] at hx
    obtain ⟨x0, x1⟩ := hx
    by_cases hlt : k < tasks.length
    · obtain ⟨g, off, hA, hcl⟩ := HR.out.resolve_left (by intro e; rw [e] at hlt; simp at hlt)
      subst hA
      obtain ⟨t, HT⟩ : ∃ t, Hid (tasks.getD k default = t) := ⟨_, rfl⟩
      have tcl := (HT.out ▸ hcl k hlt).keep (Keeps.of_below hb)
      have hm : t ∈ tasks := HT.out ▸ getD_mem hlt
      have TL : Hid (TaskLen w t) := hidp ⟨(Hok.out t hm).at_, (HG.out t hm).lens, by have := (HG.out t hm).len; omega⟩
      obtain ⟨m, HM⟩ : ∃ m, Hid (maxL t.parts = m) := ⟨_, rfl⟩
      have hm0 := maxL_nn t.parts
      have hm1 := maxL_bd (HG.out t hm).lens
      rw [HM.out] at hm0 hm1
      obtain ⟨y, Hy⟩ : ∃ y, Hid (Bt k = y) := ⟨_, rfl⟩
      have hy := HBb.out k
      rw [Hy.out] at hy
      obtain ⟨y0, y1⟩ := hy
      have Hs : Hid (Sv (k + 1) = max x (if t.cl = cl ∧ m ≠ 0 then m + y else 0)) := hidp (by rw [HSs.out k hlt, HT.out, HM.out, Hx.out, Hy.out])
      obtain ⟨d0, d1, d2, d3, d4, d5⟩ := tcl
      have kk := Keeps.alloc wr (.cells #[.string t.name, .int .i64 t.per, .int .i64 t.dl, .int .i64 t.prio, .int .i64 t.cl, .slice t.pa t.parts.length t.pc] 41)
      replace hb := hb.alloc hb.size (.cells #[.string t.name, .int .i64 t.per, .int .i64 t.dl, .int .i64 t.prio, .int .i64 t.cl, .slice t.pa t.parts.length t.pc] 41)
      replace sc := sc.keep kk
      have tb := TaskBox.new wr t 41
      obtain ⟨tb_0, tb_1, tb_2, tb_3, tb_4, tb_5⟩ := id tb
      clear hcl hm kk
      go_wp2_with fail
      refine (longest_any _ _ (TL.out.keep (Keeps.of_below hb))).mono ?_
      rintro e w2 ⟨rfl, hb2⟩
      replace hb := hb.trans (hb2.mono hb.size)
      replace sc := sc.keep (Keeps.of_below hb2)
      replace tb := tb.keep (Keeps.of_below hb2)
      clear hb2
      try clear sc_0 sc_1 sc_2 sc_3
      have scx := sc
      obtain ⟨sc_0, sc_1, sc_2, sc_3⟩ := scx
      try dsimp only at sc_0 sc_1 sc_2 sc_3
      try clear tb_0 tb_1 tb_2 tb_3 tb_4 tb_5
      have tbx := tb
      obtain ⟨tb_0, tb_1, tb_2, tb_3, tb_4, tb_5⟩ := tbx
      try dsimp only at tb_0 tb_1 tb_2 tb_3 tb_4 tb_5
      rw [HM.out]
      clear d0 d1 d2 d3 d4 d5
      by_cases e : t.cl = cl
      · have e1 : (t.cl != cl) = false := by simpa using e
        by_cases e2 : m = 0
        · have e3 : (m == 0) = true := by simpa using e2
          have Hz : Hid (Sv (k + 1) = x) := hidp (by rw [Hs.out, if_neg (fun h => h.2 e2)]; omega)
          clear e e2
          go_wp2
          go_roundg (gk - 1)
          case measure => omega
          case rel => exact ⟨k + 1, x, by omega, by go_num, rfl, Hz, sc, hb⟩
        · have e3 : (m == 0) = false := by simpa using e2
          obtain ⟨z, hz⟩ : ∃ z, max x (m + y) = z := ⟨_, rfl⟩
          have Hz : Hid (Sv (k + 1) = z) := hidp (by rw [Hs.out, if_pos ⟨e, e2⟩, ← hz])
          clear e e2
          go_wp2_with fail
          refine (beside_any _ k _ (HS.out.keep (Keeps.of_below hb)) Ho.out).mono ?_
          rintro e w3 ⟨rfl, hb2⟩
          replace hb := hb.trans (hb2.mono hb.size)
          replace sc := sc.keep (Keeps.of_below hb2)
          clear hb2
          rw [HBt.out, Hy.out]
          clear sc_0 sc_1 sc_2 sc_3 tb_0 tb_1 tb_2 tb_3 tb_4 tb_5
          go_wp2_with fail
          go_roundg (gk - 1)
          case measure => omega
          case rel => exact ⟨k + 1, z, by omega, by go_num, rfl, Hz, sc, hb⟩
      · have e1 : (t.cl != cl) = true := by simpa using e
        have Hz : Hid (Sv (k + 1) = x) := hidp (by rw [Hs.out, if_neg (fun h => e h.1)]; omega)
        clear e
        go_wp2
        go_roundg (gk - 1)
        case measure => omega
        case rel => exact ⟨k + 1, x, by omega, by go_num, rfl, Hz, sc, hb⟩
    · obtain rfl : k = tasks.length := by omega
      go_wp2
      try rw [Exit.noGoto_ret]
      go_ret
      exact ⟨ret_int Hx.out.symm, hb⟩


/-- so long a request takes at most once it is let in -/
def insV (s : SetR) (of part : Int) : Int := if fairK s of part = true then (partAt s of part).len + besV s of else 0
/-- so long it waits for that -/
def outV (s : SetR) (of : Int) : Int := if thereB s of = true ∧ maxL (s.tasks.getD of.toNat default).parts ≠ 0 then rndV s (s.tasks.getD of.toNat default).cl * slowL s (s.tasks.getD of.toNat default).cl 0 s.tasks else 0
def tokV (s : SetR) (of part : Int) : Int := if fairK s of part = true then insV s of part + outV s of else 0
theorem ins_no {s : SetR} {of part : Int} (h : fairK s of part = false) : insV s of part = 0 := by unfold insV; rw [h]; rfl
theorem outV_bd (s : SetR) (of : Int) : 0 ≤ outV s of ∧ outV s of ≤ 2520 := by
  unfold outV
  split
  · rename_i h
    obtain ⟨ho, r1, r2⟩ := thereB_true.1 h.1
    have hg := Good.of ho
    have hm : s.tasks.getD of.toNat default ∈ s.tasks := getD_mem (by omega)
    have h1 := hg.place _ hm
    have h2 := rndV_bd ho (cl := (s.tasks.getD of.toNat default).cl) (by omega)
    have h3 := slowL_bd ho (s.tasks.getD of.toNat default).cl 0 (fun t ht => (hg.parts t ht).lens)
    have h4 := Int.mul_nonneg h2.1 h3.1
    have h5 : rndV s (s.tasks.getD of.toNat default).cl * slowL s (s.tasks.getD of.toNat default).cl 0 s.tasks ≤ 6 * 420 := Int.mul_le_mul h2.2 h3.2 h3.1 (by omega)
    omega
  · omega

set_option maxHeartbeats 4000000 in
set_option maxRecDepth 100000 in
theorem inside_any (s : SetR) (of part : Int) (w : World) (hs : SetOk w s) : Calls Tryz.prog 87 #[.agg #[.int .i64 s.proto, .slice s.ca s.cores.length s.cc, .slice s.ha s.homes.length s.hc, .slice s.ta s.tasks.length s.tc], .int .i64 of, .int .i64 part] w fun e w' => e = .returned (.tuple #[.int .i64 (insV s of part), .bool (fairK s of part)]) ∧ Below w.heap.size w w' := by
  have hb := (Below.refl w.heap.size w).alloc (Nat.le_refl _) (.cells #[.int .i64 s.proto, .slice s.ca s.cores.length s.cc, .slice s.ha s.homes.length s.hc, .slice s.ta s.tasks.length s.tc] 25)
  have sc := SetCells.new w s 25
  have H := hs.keep (Keeps.of_below hb)
  have l3 : s.tasks.length ≤ maxLen := Nat.le_trans hs.tasks.sl.2.1 hs.tasks.sl.2.2
  unfold maxLen at l3
  by_cases e : thereB s of = true
  · have Hth := hidp e
    obtain ⟨ho, r1, r2⟩ := thereB_true.1 e
    obtain ⟨n, rfl⟩ : ∃ n : Nat, of = n := ⟨of.toNat, by omega⟩
    have hn : n < s.tasks.length := by omega
    have hg := Good.of ho
    obtain ⟨t, HT⟩ : ∃ t, Hid (s.tasks.getD n default = t) := ⟨_, rfl⟩
    have hm : t ∈ s.tasks := HT.out ▸ getD_mem hn
    have Tok := hs.tasks.ok t hm
    have Tg := hg.parts t hm
    have Ho := hidp ho
    obtain ⟨g, off, hA, hcl⟩ := hs.tasks.at_.resolve_left (by intro e; rw [e] at hn; simp at hn)
    have Ht5 := hidp ((HT.out ▸ hcl n hn).2.2.2.2.2)
    have hpl := Tg.len
    obtain ⟨gp, op, hP, hpc⟩ := Tok.at_.resolve_left (by intro e; rw [e] at hpl; simp at hpl)
    have Hpc := hidp hpc
    have HL2 := hidp Tg.lens
    obtain ⟨parts, hparts⟩ : ∃ parts, t.parts = parts := ⟨_, rfl⟩
    have Hpt : Hid ((s.tasks.getD n default).parts = parts) := hidp (by rw [HT.out, hparts])
    rw [hP, hparts] at Ht5
    rw [hparts] at Hpc HL2 hpl
    obtain ⟨B, HB⟩ : ∃ B, Hid (besV s n = B) := ⟨_, rfl⟩
    have hBb := besV_bd ho n
    rw [HB.out] at hBb
    obtain ⟨B0, B1⟩ := hBb
    have HK : Hid (∀ p : Int, fairK s n p = true ↔ 0 ≤ p ∧ p < parts.length ∧ (parts.getD p.toNat default).kind = 3) := hidp (fun p => by
      rw [fairK_iff]; unfold partAt; simp only [Int.toNat_natCast]; rw [Hpt.out]; exact ⟨fun h => h.2, fun h => ⟨Hth.out, h⟩⟩)
    have HVy : Hid (∀ m : Nat, fairK s n m = true → insV s n m = (parts.getD m default).len + B) := hidp (fun m h => by
      unfold insV partAt; rw [if_pos h, HB.out]; simp only [Int.toNat_natCast]; rw [Hpt.out])
    have HVn : Hid (∀ p, fairK s n p = false → insV s n p = 0) := hidp (fun p h => ins_no h)
    clear hcl hm Tok Tg hpc hP hparts hg ho HT e hs r1 Hpt
    have dn : decide (s.tasks.length ≤ n) = false := by simp; omega
    obtain ⟨proto, ca, cc, cores, ha, hc, homes, ta, tc, tasks⟩ := s
    dsimp only at hA hn l3 r2 hb sc H dn ⊢
    subst hA
    have hcase : part < 0 ∨ (0 ≤ part ∧ (parts.length : Int) ≤ part) ∨ (0 ≤ part ∧ part < (parts.length : Int)) := by omega
    rcases hcase with p | ⟨p, p2⟩ | ⟨p, p2⟩
    · have Hk := hidp (show fairK _ _ _ = false from by rw [Bool.eq_false_iff]; intro h; have := (HK.out part).1 h; omega)
      have Hv := hidp (HVn.out _ Hk.out)
      go_enter Tryz.func87, Tryz.ntmps87
      go_wp2_with fail
      refine (there15_any _ _ _ H).mono ?_
      rintro e w2 ⟨rfl, hb2⟩
      replace hb := hb.trans (hb2.mono hb.size)
      replace sc := sc.keep (Keeps.of_below hb2)
      clear hb2
      try clear sc_0 sc_1 sc_2 sc_3
      have scx := sc
      obtain ⟨sc_0, sc_1, sc_2, sc_3⟩ := scx
      try dsimp only at sc_0 sc_1 sc_2 sc_3
      rw [Hth.out]
      have d5 := Keeps.of_below hb _ _ Ht5.out
      go_wp2
      go_ret2
      exact ⟨ret_ib Hv.out.symm Hk.out.symm, hb⟩
    · have Hk := hidp (show fairK _ _ _ = false from by rw [Bool.eq_false_iff]; intro h; have := (HK.out part).1 h; omega)
      have Hv := hidp (HVn.out _ Hk.out)
      have dp : decide ((parts.length : Int) ≤ part) = true := by simpa using p2
      go_enter Tryz.func87, Tryz.ntmps87
      go_wp2_with fail
      refine (there15_any _ _ _ H).mono ?_
      rintro e w2 ⟨rfl, hb2⟩
      replace hb := hb.trans (hb2.mono hb.size)
      replace sc := sc.keep (Keeps.of_below hb2)
      clear hb2
      try clear sc_0 sc_1 sc_2 sc_3
      have scx := sc
      obtain ⟨sc_0, sc_1, sc_2, sc_3⟩ := scx
      try dsimp only at sc_0 sc_1 sc_2 sc_3
      rw [Hth.out]
      have d5 := Keeps.of_below hb _ _ Ht5.out
      go_wp2
      go_ret2
      exact ⟨ret_ib Hv.out.symm Hk.out.symm, hb⟩
    · obtain ⟨m, rfl⟩ : ∃ m : Nat, part = m := ⟨part.toNat, by omega⟩
      have hml : m < parts.length := by omega
      obtain ⟨q, HQ⟩ : ∃ q, Hid (parts.getD m default = q) := ⟨_, rfl⟩
      obtain ⟨q1, q2⟩ := HL2.out q (HQ.out ▸ getD_mem hml)
      have dm : decide (parts.length ≤ m) = false := by simp; omega
      by_cases k : q.kind = 3
      · have Hk := hidp ((HK.out m).2 ⟨p, p2, by simp only [Int.toNat_natCast]; rw [HQ.out]; exact k⟩)
        have Hv : Hid (insV _ n m = q.len + B) := hidp (by rw [HVy.out m Hk.out, HQ.out])
        have k2 : (q.kind != 3) = false := by simpa using k
        have hwr : IntKind.i64.wrap (q.len + B) = q.len + B := IntWalk.i64_in _ (by omega)
        clear k
        go_enter Tryz.func87, Tryz.ntmps87
        go_wp2_with fail
        refine (there15_any _ _ _ H).mono ?_
        rintro e w2 ⟨rfl, hb2⟩
        replace hb := hb.trans (hb2.mono hb.size)
        replace sc := sc.keep (Keeps.of_below hb2)
        replace H := H.keep (Keeps.of_below hb2)
        clear hb2
        try clear sc_0 sc_1 sc_2 sc_3
        have scx := sc
        obtain ⟨sc_0, sc_1, sc_2, sc_3⟩ := scx
        try dsimp only at sc_0 sc_1 sc_2 sc_3
        rw [Hth.out]
        have d5 := Keeps.of_below hb _ _ Ht5.out
        have pcl := (HQ.out ▸ Hpc.out m hml).keep (Keeps.of_below hb)
        obtain ⟨x0, x1, x2⟩ := pcl
        have kk := Keeps.alloc w2 (.cells #[.int .i64 q.kind, .int .i64 q.len, .int .i64 q.res] 38)
        replace hb := hb.alloc hb.size (.cells #[.int .i64 q.kind, .int .i64 q.len, .int .i64 q.res] 38)
        replace H := H.keep kk
        replace sc := sc.keep kk
        obtain ⟨e0, e1, e2, e3⟩ := id sc
        dsimp only at e0 e1 e2 e3
        have pb : (w2.alloc (.cells #[.int .i64 q.kind, .int .i64 q.len, .int .i64 q.res] 38)).cell? ⟨w2.heap.size, 1, none⟩ = some (.int .i64 q.len) := by simp
        have pb0 : (w2.alloc (.cells #[.int .i64 q.kind, .int .i64 q.len, .int .i64 q.res] 38)).cell? ⟨w2.heap.size, 0, none⟩ = some (.int .i64 q.kind) := by simp
        go_wp2_with fail
        have pb := Keeps.drew _ _ _ pb
        have s0 := Keeps.drew _ _ _ e0
        have s1 := Keeps.drew _ _ _ e1
        have s2 := Keeps.drew _ _ _ e2
        have s3 := Keeps.drew _ _ _ e3
        have H' := H.keep (Keeps.drew _)
        have hb := hb.drew
        clear H sc e0 e1 e2 e3 x0 x1 x2 kk d5 sc_0 sc_1 sc_2 sc_3 pb0
        go_region_held3 (fun w' => w'.cell? ⟨w2.heap.size, 1, none⟩ = some (.int .i64 q.len) ∧ w'.cell? ⟨w.heap.size, 0, none⟩ = some (.int .i64 proto) ∧ w'.cell? ⟨w.heap.size, 1, none⟩ = some (.slice ca cores.length cc) ∧ w'.cell? ⟨w.heap.size, 2, none⟩ = some (.slice ha homes.length hc) ∧ w'.cell? ⟨w.heap.size, 3, none⟩ = some (.slice (some ⟨g, off, none⟩) tasks.length tc)) (exact ⟨pb, s0, s1, s2, s3⟩)
          (first
            | (go_at_call 119; refine (beside_any _ n _ H' Ho.out).mono ?_; rintro e u ⟨rfl, hb3⟩; have pb := Keeps.of_below hb3 _ _ pb; have s0 := Keeps.of_below hb3 _ _ s0; have s1 := Keeps.of_below hb3 _ _ s1; have s2 := Keeps.of_below hb3 _ _ s2; have s3 := Keeps.of_below hb3 _ _ s3; have hb := hb.trans (hb3.mono hb.size); rw [HB.out]))
        clear hwr
        go_wp2_with fail
        go_ret2
        exact ⟨ret_ib Hv.out.symm Hk.out.symm, hb⟩
      · have Hk := hidp (show fairK _ _ _ = false from by rw [Bool.eq_false_iff]; intro h; have h := ((HK.out m).1 h).2.2; simp only [Int.toNat_natCast] at h; rw [HQ.out] at h; exact k h)
        have Hv := hidp (HVn.out _ Hk.out)
        have k2 : (q.kind != 3) = true := by simpa using k
        clear k
        go_enter Tryz.func87, Tryz.ntmps87
        go_wp2_with fail
        refine (there15_any _ _ _ H).mono ?_
        rintro e w2 ⟨rfl, hb2⟩
        replace hb := hb.trans (hb2.mono hb.size)
        replace sc := sc.keep (Keeps.of_below hb2)
        clear hb2
        try clear sc_0 sc_1 sc_2 sc_3
        have scx := sc
        obtain ⟨sc_0, sc_1, sc_2, sc_3⟩ := scx
        try dsimp only at sc_0 sc_1 sc_2 sc_3
        rw [Hth.out]
        have d5 := Keeps.of_below hb _ _ Ht5.out
        have pcl := (HQ.out ▸ Hpc.out m hml).keep (Keeps.of_below hb)
        obtain ⟨x0, x1, x2⟩ := pcl
        go_wp2
        go_ret2
        exact ⟨ret_ib Hv.out.symm Hk.out.symm, hb.alloc hb.size _⟩
  · have Hth : Hid (thereB s of = false) := hidp (by simpa using e)
    have Hk : Hid (fairK s of part = false) := hidp (fairK_not (fun h => e h.1))
    have Hv := hidp (ins_no Hk.out)
    clear e
    go_enter Tryz.func87, Tryz.ntmps87
    go_wp2_with fail
    refine (there15_any _ _ _ H).mono ?_
    rintro e w2 ⟨rfl, hb2⟩
    replace hb := hb.trans (hb2.mono hb.size)
    replace sc := sc.keep (Keeps.of_below hb2)
    clear hb2
    try clear sc_0 sc_1 sc_2 sc_3
    have scx := sc
    obtain ⟨sc_0, sc_1, sc_2, sc_3⟩ := scx
    try dsimp only at sc_0 sc_1 sc_2 sc_3
    rw [Hth.out]
    go_wp2
    go_ret2
    exact ⟨ret_ib Hv.out.symm Hk.out.symm, hb⟩
end Go.Proofs.YtjjlpaampmpdfaaGreatDoor
