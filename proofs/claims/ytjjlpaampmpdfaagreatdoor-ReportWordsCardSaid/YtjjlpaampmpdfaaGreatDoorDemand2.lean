/- demand: Cores, Askers, servedAt, At, Most. -/
import Derived.Test.YtjjlpaampmpdfaaGreatDoorDemand
import Derived.Test.YtjjlpaampmpdfaaGreatDoorOwnP
namespace Go.Proofs.YtjjlpaampmpdfaaGreatDoor
open Go.ChangeShapes Go.WideShapes Go.ChangeAt Go.RowKit
set_option linter.unusedVariables false

def coresV (s : SetR) : Int := if okS s = true then tot s.cores else 0
theorem tot_bd3 {l : List Int} (h : ∀ n ∈ l, 1 ≤ n ∧ n ≤ 3) : (l.length : Int) ≤ tot l ∧ tot l ≤ 3 * (l.length : Int) := by
  induction l with
  | nil => simp [tot]
  | cons a l ih =>
    have h1 := ih (fun n hn => h n (by simp [hn]))
    have h2 := h a (by simp)
    simp only [tot, List.length_cons]; omega
/-- how many tasks of a cluster have a Lock -/
def askN (cl : Int) : List TaskR → Int
  | [] => 0
  | t :: ts => (if t.cl = cl ∧ sumK 3 t.parts ≠ 0 then 1 else 0) + askN cl ts
theorem askN_append (cl : Int) (a b : List TaskR) : askN cl (a ++ b) = askN cl a + askN cl b := by
  induction a with
  | nil => simp [askN]
  | cons p a ih => simp only [List.cons_append, askN, ih]; omega
theorem askN_snoc (cl : Int) (ts : List TaskR) (n : Nat) (h : n < ts.length) : askN cl (ts.take (n + 1)) = askN cl (ts.take n) + if (ts.getD n default).cl = cl ∧ sumK 3 (ts.getD n default).parts ≠ 0 then 1 else 0 := by
  rw [take_snocD ts n h, askN_append]; simp only [askN, Int.add_zero]
theorem askN_bd (cl : Int) (ts : List TaskR) : 0 ≤ askN cl ts ∧ askN cl ts ≤ ts.length := by
  induction ts with
  | nil => simp [askN]
  | cons p ts ih => simp only [askN, List.length_cons]; split <;> omega
def askersV (s : SetR) (cl : Int) : Int := if okS s = true then askN cl s.tasks else 0

set_option maxHeartbeats 1000000 in
theorem cores_any (s : SetR) (w : World) (hs : SetOk w s) : Calls Tryz.prog 143 #[.agg #[.int .i64 s.proto, .slice s.ca s.cores.length s.cc, .slice s.ha s.homes.length s.hc, .slice s.ta s.tasks.length s.tc]] w fun e w' => e = .returned (.int .i64 (coresV s)) ∧ Below w.heap.size w w' := by
  have hb := (Below.refl w.heap.size w).alloc (Nat.le_refl _) (.cells #[.int .i64 s.proto, .slice s.ca s.cores.length s.cc, .slice s.ha s.homes.length s.hc, .slice s.ta s.tasks.length s.tc] 25)
  have CB := hidp (SetCells.new w s 25)
  have HS := hidp (hs.keep (Keeps.of_below hb))
  have l1 : s.cores.length ≤ maxLen := Nat.le_trans hs.cores.sl.2.1 hs.cores.sl.2.2
  unfold maxLen at l1
  by_cases ho : okS s = true
  · have Hv : Hid (coresV s = tot s.cores) := hidp (by unfold coresV; rw [if_pos ho])
    have hg := Good.of ho
    have Hc := hidp hg.cores
    have hl3 := hg.ncores.2
    have HR := hidp hs.cores.at_
    clear hg hs
    obtain ⟨proto, ca, cc, cores, ha, hc, homes, ta, tc, tasks⟩ := s
    dsimp only at *
    go_enter Tryz.func143, Tryz.ntmps143
    go_wp2_with (first | (go_at_call 152; (with_reducible refine (sound_any _ _ HS.out).mono ?_); rintro e w2 ⟨rfl, hb2⟩; replace hb := hb.trans (hb2.mono hb.size); have C2 := CB.out.keep (Keeps.of_below hb2); obtain ⟨c0, c1, c2, c3⟩ := C2; dsimp only at c0 c1 c2 c3; clear hb2))
    go_loopg [3, 12] cores.length (fun g t i wr => ∃ (k : Nat) (x : Int), k + g = cores.length ∧ i = .int .i64 k ∧ t = .int .i64 x ∧ Hid (tot (cores.take k) = x) ∧ Below w.heap.size w wr)
    case atStart => exact ⟨0, 0, by omega, rfl, rfl, hidp (by simp [tot]), hb⟩
    case round =>
      obtain ⟨k, x, hk, rfl, rfl, Hx, hw⟩ := hrel
      have hx := tot_bd3 (l := cores.take k) (fun n hn => Hc.out n (List.mem_of_mem_take hn))
      rw [Hx.out, List.length_take] at hx
      obtain ⟨x0, x1⟩ := hx
      have x2 : x ≤ 9 := by omega
      have x3 : 0 ≤ x := by omega
      clear x0 x1
      by_cases hlt : k < cores.length
      · obtain ⟨g, off, hA, hcl⟩ := HR.out.resolve_left (by intro e; rw [e] at hlt; simp at hlt)
        subst hA
        obtain ⟨n, HN⟩ : ∃ n, Hid (cores.getD k 0 = n) := ⟨_, rfl⟩
        have cn := Keeps.of_below hw _ _ (HN.out ▸ hcl k hlt)
        have hn := Hc.out n (by rw [← HN.out]; simp [List.getD, hlt])
        obtain ⟨n0, n1⟩ := hn
        have Hs : Hid (tot (cores.take (k + 1)) = x + n) := hidp (by rw [tot_snoc _ _ hlt, Hx.out, HN.out])
        clear hcl
        go_wp2
        go_roundg (gk - 1)
        case measure => omega
        case rel => exact ⟨k + 1, x + n, by omega, by go_num, rfl, Hs, hw⟩
      · have Hz : Hid (tot cores = x) := hidp (by rw [← Hx.out, List.take_of_length_le (by omega)])
        go_wp2
        go_ret
        exact ⟨ret_int (by rw [Hv.out, Hz.out]), hw⟩
  · have Hv : Hid (coresV s = 0) := hidp (by unfold coresV; rw [if_neg ho])
    have ho : okS s = false := by simpa using ho
    clear hs
    go_enter Tryz.func143, Tryz.ntmps143
    go_wp2_with (first | (go_at_call 152; (with_reducible refine (sound_any _ _ HS.out).mono ?_); rintro e w2 ⟨rfl, hb2⟩; replace hb := hb.trans (hb2.mono hb.size)))
    go_ret
    exact ⟨ret_int Hv.out.symm, hb⟩

set_option maxHeartbeats 1000000 in
theorem askers_any (s : SetR) (cl : Int) (w : World) (hs : SetOk w s) : Calls Tryz.prog 144 #[.agg #[.int .i64 s.proto, .slice s.ca s.cores.length s.cc, .slice s.ha s.homes.length s.hc, .slice s.ta s.tasks.length s.tc], .int .i64 cl] w fun e w' => e = .returned (.int .i64 (askersV s cl)) ∧ Below w.heap.size w w' := by
  have hb := (Below.refl w.heap.size w).alloc (Nat.le_refl _) (.cells #[.int .i64 s.proto, .slice s.ca s.cores.length s.cc, .slice s.ha s.homes.length s.hc, .slice s.ta s.tasks.length s.tc] 25)
  have CB := hidp (SetCells.new w s 25)
  have HS := hidp (hs.keep (Keeps.of_below hb))
  have l1 : s.tasks.length ≤ maxLen := Nat.le_trans hs.tasks.sl.2.1 hs.tasks.sl.2.2
  unfold maxLen at l1
  by_cases ho : okS s = true
  · have Hv : Hid (askersV s cl = askN cl s.tasks) := hidp (by unfold askersV; rw [if_pos ho])
    have hg := Good.of ho
    have Hc := hidp hg.parts
    have hl3 := hg.ntasks.2
    have HR := hidp hs.tasks.at_
    have Hok := hidp hs.tasks.ok
    clear hg hs
    obtain ⟨proto, ca, cc, cores, ha, hc, homes, ta, tc, tasks⟩ := s
    dsimp only at *
    go_enter Tryz.func144, Tryz.ntmps144
    go_wp2
    go_step3
    go_wp2_with (first | (go_at_call 152; (with_reducible refine (sound_any _ _ HS.out).mono ?_); rintro e w2 ⟨rfl, hb2⟩; replace hb := hb.trans (hb2.mono hb.size); have C2 := CB.out.keep (Keeps.of_below hb2); obtain ⟨c0, c1, c2, c3⟩ := C2; dsimp only at c0 c1 c2 c3; clear hb2))
    go_step3
    go_wp2
    go_loopg [5, 14] tasks.length (fun g t i wr => ∃ (k : Nat) (x : Int), k + g = tasks.length ∧ i = .int .i64 k ∧ t = .int .i64 x ∧ Hid (askN cl (tasks.take k) = x) ∧ Below w.heap.size w wr)
    case atStart => exact ⟨0, 0, by omega, rfl, rfl, hidp (by simp [askN]), hb⟩
    case round =>
      obtain ⟨k, x, hk, rfl, rfl, Hx, hw⟩ := hrel
      have hx := askN_bd cl (tasks.take k)
      rw [Hx.out, List.length_take] at hx
      obtain ⟨x0, x1⟩ := hx
      have x2 : x ≤ 6 := by omega
      clear x1
      by_cases hlt : k < tasks.length
      · obtain ⟨g, off, hA, hcl⟩ := HR.out.resolve_left (by intro e; rw [e] at hlt; simp at hlt)
        subst hA
        obtain ⟨t, HT⟩ : ∃ t, Hid (tasks.getD k default = t) := ⟨_, rfl⟩
        have tcl := (HT.out ▸ hcl k hlt).keep (Keeps.of_below hw)
        have hm : t ∈ tasks := HT.out ▸ getD_mem hlt
        have TL : Hid (TaskLen w t) := hidp ⟨(Hok.out t hm).at_, (Hc.out t hm).lens, by have := (Hc.out t hm).len; omega⟩
        have Hs : Hid (askN cl (tasks.take (k + 1)) = x + if t.cl = cl ∧ sumK 3 t.parts ≠ 0 then 1 else 0) := hidp (by rw [askN_snoc _ _ _ hlt, Hx.out, HT.out])
        clear hcl hm
        obtain ⟨d0, d1, d2, d3, d4, d5⟩ := tcl
        have tb := TaskBox.new wr t 41
        obtain ⟨b0, b1, b2, b3, b4, b5⟩ := tb
        have hw1 := hw.alloc hw.size (.cells #[.string t.name, .int .i64 t.per, .int .i64 t.dl, .int .i64 t.prio, .int .i64 t.cl, .slice t.pa t.parts.length t.pc] 41)
        by_cases e : t.cl = cl
        · have e' : (t.cl != cl) = false := by simpa using e
          by_cases z : sumK 3 t.parts = 0
          · have z' : (sumK 3 t.parts == 0) = true := by simpa using z
            have Hz : Hid (askN cl (tasks.take (k + 1)) = x) := hidp (by rw [Hs.out, if_neg (by simp [z])]; omega)
            clear e z
            go_wp2_with (first | (go_at_call 138; (with_reducible refine (locks_any _ _ (TL.out.keep (Keeps.of_below hw1))).mono ?_); rintro e w3 ⟨rfl, hb3⟩))
            go_roundg (gk - 1)
            case measure => omega
            case rel => exact ⟨k + 1, x, by omega, by go_num, rfl, Hz, hw1.trans (hb3.mono hw1.size)⟩
          · have z' : (sumK 3 t.parts == 0) = false := by simpa using z
            have Hz : Hid (askN cl (tasks.take (k + 1)) = x + 1) := hidp (by rw [Hs.out, if_pos ⟨e, z⟩])
            clear e z
            go_wp2_with (first | (go_at_call 138; (with_reducible refine (locks_any _ _ (TL.out.keep (Keeps.of_below hw1))).mono ?_); rintro e w3 ⟨rfl, hb3⟩))
            go_roundg (gk - 1)
            case measure => omega
            case rel => exact ⟨k + 1, x + 1, by omega, by go_num, rfl, Hz, hw1.trans (hb3.mono hw1.size)⟩
        · have e' : (t.cl != cl) = true := by simpa using e
          have Hz : Hid (askN cl (tasks.take (k + 1)) = x) := hidp (by rw [Hs.out, if_neg (fun h => e h.1)]; omega)
          clear e
          go_wp2
          go_roundg (gk - 1)
          case measure => omega
          case rel => exact ⟨k + 1, x, by omega, by go_num, rfl, Hz, hw1⟩
      · have Hz : Hid (askN cl tasks = x) := hidp (by rw [← Hx.out, List.take_of_length_le (by omega)])
        go_wp2
        try rw [Exit.noGoto_ret]
        go_ret
        exact ⟨ret_int (by rw [Hv.out, Hz.out]), hw⟩
  · have Hv : Hid (askersV s cl = 0) := hidp (by unfold askersV; rw [if_neg ho])
    have ho : okS s = false := by simpa using ho
    clear hs
    go_enter Tryz.func144, Tryz.ntmps144
    go_wp2
    go_step3
    go_wp2_with (first | (go_at_call 152; (with_reducible refine (sound_any _ _ HS.out).mono ?_); rintro e w2 ⟨rfl, hb2⟩; replace hb := hb.trans (hb2.mono hb.size)))
    try rw [Exit.noGoto_ret]
    go_ret
    exact ⟨ret_int Hv.out.symm, hb⟩
end Go.Proofs.YtjjlpaampmpdfaaGreatDoor
