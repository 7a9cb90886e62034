/- token: there, beside. -/
import Derived.Test.YtjjlpaampmpdfaaGreatDoorFair2
import Derived.Test.YtjjlpaampmpdfaaGreatDoorRef11a
import Derived.Test.YtjjlpaampmpdfaaGreatDoorCalc
import Derived.Test.YtjjlpaampmpdfaaGreatDoorDemand2
import Derived.Test.YtjjlpaampmpdfaaGreatDoorLit
namespace Go.Proofs.YtjjlpaampmpdfaaGreatDoor
open Go.ChangeShapes Go.WideShapes Go.ChangeAt Go.RowKit
set_option linter.unusedVariables false
set_option linter.unusedSimpArgs false

theorem there15_any (s : SetR) (of : Int) (w : World) (hs : SetOk w s) : Calls Tryz.prog 118 #[.agg #[.int .i64 s.proto, .slice s.ca s.cores.length s.cc, .slice s.ha s.homes.length s.hc, .slice s.ta s.tasks.length s.tc], .int .i64 of] w fun e w' => e = .returned (.bool (thereB s of)) ∧ Below w.heap.size w w' := by
  have hb := (Below.refl w.heap.size w).alloc (Nat.le_refl _) (.cells #[.int .i64 s.proto, .slice s.ca s.cores.length s.cc, .slice s.ha s.homes.length s.hc, .slice s.ta s.tasks.length s.tc] 25)
  have sc := SetCells.new w s 25
  have H := hidp (hs.keep (Keeps.of_below hb))
  have l3 : s.tasks.length ≤ maxLen := Nat.le_trans hs.tasks.sl.2.1 hs.tasks.sl.2.2
  unfold maxLen at l3
  clear hs
  by_cases e : chkE s = 0
  · have e1 : (chkE s == 0) = true := by simpa using e
    have ho : okS s = true := e1
    clear e
    by_cases h0 : 0 ≤ of
    · have Hv : Hid (thereB s of = decide (of < s.tasks.length)) := hidp (by simp [thereB, ho, h0])
      clear ho
      go_enter Tryz.func118, Tryz.ntmps118
      go_wp2_with (first | (go_at_call 23; (with_reducible refine (check_any _ _ H.out).mono ?_); rintro e w2 ⟨rfl, hb2⟩; have sc2 := sc.keep (Keeps.of_below hb2); obtain ⟨c0, c1, c2, c3⟩ := sc2))
      go_ret
      exact ⟨ret_bool Hv.out.symm, hb.trans (hb2.mono hb.size)⟩
    · have Hv : Hid (thereB s of = false) := hidp (by simp [thereB, h0])
      have d0 : decide (0 ≤ of) = false := by simpa using h0
      clear ho h0
      go_enter Tryz.func118, Tryz.ntmps118
      go_wp2_with (first | (go_at_call 23; (with_reducible refine (check_any _ _ H.out).mono ?_); rintro e w2 ⟨rfl, hb2⟩; have sc2 := sc.keep (Keeps.of_below hb2); obtain ⟨c0, c1, c2, c3⟩ := sc2))
      go_ret
      exact ⟨ret_bool Hv.out.symm, hb.trans (hb2.mono hb.size)⟩
  · have e1 : (chkE s == 0) = false := by simpa using e
    have Hv : Hid (thereB s of = false) := hidp (by unfold thereB okS; rw [e1]; rfl)
    clear e
    go_enter Tryz.func118, Tryz.ntmps118
    go_wp2_with (first | (go_at_call 23; (with_reducible refine (check_any _ _ H.out).mono ?_); rintro e w2 ⟨rfl, hb2⟩; have sc2 := sc.keep (Keeps.of_below hb2); obtain ⟨c0, c1, c2, c3⟩ := sc2))
    go_ret
    exact ⟨ret_bool Hv.out.symm, hb.trans (hb2.mono hb.size)⟩


/-- what others that are in may take -/
def besV (s : SetR) (of : Int) : Int := sumW (tops (rothL of 0 s.tasks) (coresV s - 1))
theorem tops_sub {zs : List Int} {k : Int} : ∀ n ∈ tops zs k, n ∈ zs := fun n hn => (desc_perm zs).mem_iff.1 (List.mem_of_mem_take hn)
theorem besV_bd {s : SetR} (ho : okS s = true) (of : Int) : 0 ≤ besV s of ∧ besV s of ≤ 360 := by
  have hg := Good.of ho
  have h1 : ∀ n ∈ tops (rothL of 0 s.tasks) (coresV s - 1), 0 ≤ n ∧ n ≤ 60 := fun n hn => rothL_bd (fun q hq => (hg.parts q hq).lens) n (tops_sub n hn)
  have h2 : (tops (rothL of 0 s.tasks) (coresV s - 1)).length ≤ 6 := by
    rw [tops_len]
    exact Nat.le_trans (clampN_le _ _) (Nat.le_trans (rothL_len of 0 s.tasks) hg.ntasks.2)
  have h3 := tot_small h1
  unfold besV sumW
  rw [fold_small _ 0 h1 (by omega) (by omega)]
  omega

set_option maxHeartbeats 2000000 in
set_option maxRecDepth 100000 in
theorem beside_any (s : SetR) (of : Int) (w : World) (hs : SetOk w s) (ho : okS s = true) : Calls Tryz.prog 119 #[.agg #[.int .i64 s.proto, .slice s.ca s.cores.length s.cc, .slice s.ha s.homes.length s.hc, .slice s.ta s.tasks.length s.tc], .int .i64 of] w fun e w' => e = .returned (.int .i64 (besV s of)) ∧ Below w.heap.size w w' := by
  have hb := (Below.refl w.heap.size w).alloc (Nat.le_refl _) (.cells #[.int .i64 s.proto, .slice s.ca s.cores.length s.cc, .slice s.ha s.homes.length s.hc, .slice s.ta s.tasks.length s.tc] 25)
  have sc := SetCells.new w s 25
  have hg := Good.of ho
  have HG := hidp hg.parts
  have n6 := hg.ntasks.2
  have HS := hidp hs
  have HR := hidp hs.tasks.at_
  have Hok := hidp hs.tasks.ok
  obtain ⟨cv, Hcv⟩ : ∃ cv, Hid (coresV s = cv) := ⟨_, rfl⟩
  have hcv : 0 ≤ cv ∧ cv ≤ 9 := by
    rw [← Hcv.out]; unfold coresV; rw [if_pos ho]
    have h1 := tot_bd3 hg.cores
    have h2 := hg.ncores
    omega
  have HV : Hid (besV s of = sumW (tops (rothL of 0 s.tasks) (cv - 1))) := hidp (by unfold besV; rw [Hcv.out])
  obtain ⟨i0, hi0, hy0, hy1, hy2⟩ := info_parts infoZ
  clear hs ho hg
  obtain ⟨proto, ca, cc, cores, ha, hc, homes, ta, tc, tasks⟩ := s
  dsimp only at HG HR Hok n6 hb HV ⊢
  obtain ⟨c0, c1, c2, c3⟩ := id sc
  dsimp only at c0 c1 c2 c3
  go_enter Tryz.func119, Tryz.ntmps119
  go_wp2
  go_step3
  go_wp2
  go_step3
  go_wp2
  go_loopg [5, 11] tasks.length (fun gg a i wr => ∃ (k n c : Nat) (A : Option Addr), k + gg = tasks.length ∧ i = .int .i64 k ∧ a = .slice A n c ∧ n = (rothL of 0 (tasks.take k)).length ∧ n ≤ c ∧ c ≤ maxLen ∧ (A = none → n = 0 ∧ c = 0) ∧ wr.ownsRow (w.heap.size + 1) 3 1 (.slice A n c) n ((rothL of 0 (tasks.take k)).map (Value.int .i64)) ∧ SetCells wr w.heap.size ⟨proto, ca, cc, cores, ha, hc, homes, ta, tc, tasks⟩ ∧ Below w.heap.size w wr ∧ w.heap.size + 1 ≤ wr.heap.size)
  case atStart => exact ⟨0, 0, 0, none, by omega, rfl, rfl, rfl, Nat.le_refl _, by decide, fun _ => ⟨rfl, rfl⟩, World.ownsRow_nil _ _ _ _, sc, hb, by simp⟩
  case round =>
    clear sc hb c0 c1 c2 c3
    obtain ⟨k, n, c, A, hk, rfl, rfl, hn, hc1, hc2, hnil, hown, sc, hw, hz⟩ := hrel
    have hn6 : n ≤ 6 := by rw [hn]; have := rothL_len of 0 (tasks.take k); rw [List.length_take] at this; omega
    have Hn := hidp hn
    clear hn
    by_cases hlt : k < tasks.length
    · obtain ⟨g, off, hA, hcl⟩ := HR.out.resolve_left (by intro e; rw [e] at hlt; simp at hlt)
      subst hA
      obtain ⟨t, HT⟩ : ∃ t, Hid (tasks.getD k default = t) := ⟨_, rfl⟩
      have tcl := (HT.out ▸ hcl k hlt).keep (Keeps.of_below hw)
      have hm : t ∈ tasks := HT.out ▸ getD_mem hlt
      have hw1 := hw.alloc hw.size (.cells #[.string t.name, .int .i64 t.per, .int .i64 t.dl, .int .i64 t.prio, .int .i64 t.cl, .slice t.pa t.parts.length t.pc] 41)
      have sc1 := sc.keep (Keeps.alloc wr (.cells #[.string t.name, .int .i64 t.per, .int .i64 t.dl, .int .i64 t.prio, .int .i64 t.cl, .slice t.pa t.parts.length t.pc] 41))
      have TL : Hid (TaskLen w t) := hidp ⟨(Hok.out t hm).at_, (HG.out t hm).lens, by have := (HG.out t hm).len; omega⟩
      obtain ⟨m, HM⟩ : ∃ m, Hid (maxL t.parts = m) := ⟨_, rfl⟩
      have Hs : Hid (rothL of 0 (tasks.take (k + 1)) = rothL of 0 (tasks.take k) ++ (if (k : Int) = of then [] else [m])) := hidp (by rw [rothL_snoc _ _ _ hlt, HT.out, HM.out])
      clear hcl hm
      obtain ⟨d0, d1, d2, d3, d4, d5⟩ := tcl
      have tb := TaskBox.new wr t 41
      obtain ⟨b0, b1, b2, b3, b4, b5⟩ := tb
      by_cases e : (k : Int) = of
      · have e1 : ((k : Int) == of) = true := by simpa using e
        have Hz : Hid (rothL of 0 (tasks.take (k + 1)) = rothL of 0 (tasks.take k)) := hidp (by rw [Hs.out, if_pos e]; simp)
        clear e
        go_wp2
        go_roundg (gk - 1)
        case measure => omega
        case rel => exact ⟨k + 1, n, c, A, by omega, by go_num, rfl, by rw [Hz.out]; exact Hn.out, hc1, hc2, hnil, by rw [Hz.out]; exact hown.alloc _, sc1, hw1, Nat.le_trans hz (by simp)⟩
      · have e1 : ((k : Int) == of) = false := by simpa using e
        have Hz : Hid (rothL of 0 (tasks.take (k + 1)) = rothL of 0 (tasks.take k) ++ [m]) := hidp (by rw [Hs.out, if_neg e])
        have N2 : Hid (n + 1 ≤ maxLen) := hidp (by unfold maxLen; omega)
        have T2 : Hid ((n + 1) * 8 ≤ 140737488355328) := hidp (by omega)
        have O2 : Hid (∀ u ∈ [Value.int .i64 m], u.oneCell' = true) := hidp (fun u hu => by simp at hu; subst hu; rfl)
        clear e
        go_wp2_with (first | (go_at_call 113; (with_reducible refine (longest_any _ _ (TL.out.keep (Keeps.of_below hw1))).mono ?_); rintro e w3 ⟨rfl, hb3⟩; rw [HM.out]; have hown3 := (own_turned (hown.alloc (.cells #[.string t.name, .int .i64 t.per, .int .i64 t.dl, .int .i64 t.prio, .int .i64 t.cl, .slice t.pa t.parts.length t.pc] 41)) (Turned.of_below hb3 []) (by simp)).alloc (.cells #[.int .i64 m] 3); have S2 := hidp (Lies.newCells' w3 [.int .i64 m] 3); have hw3 := hw1.trans (hb3.mono hw1.size); have sc3 := (sc1.keep (Keeps.of_below hb3)).keep (Keeps.alloc _ (.cells #[.int .i64 m] 3)); have Z2 : Hid (w.heap.size + 1 ≤ (w3.alloc (.cells #[.int .i64 m] 3)).heap.size) := hidp (Nat.le_trans hz (Nat.le_trans (Nat.le_trans (by simp) hb3.size) (by simp)))) | (at_builtin; refine wpList_app2 _ rfl (.tmp 19) (.tmp 22) 22 rfl (w.heap.size + 1) 3 i0 _ 1 8 Tryz.underlying22 hi0 hy0 hy1 hy2 rfl (by decide) A n c _ rfl hown3 _ _ 1 1 [.int .i64 m] rfl (by simp) rfl S2.out O2.out N2.out T2.out Z2.out ?_; intro A' c' w4 happ))
        go_roundg (gk - 1)
        case measure => omega
        case rel => exact ⟨k + 1, n + 1, c', A', by omega, by go_num, rfl, by rw [Hz.out, List.length_append, ← Hn.out]; rfl, happ.cap.1, happ.cap.2, happ.nil, by rw [Hz.out, List.map_append]; exact happ.own, sc3.turned happ.turned (fun hf => by have := (own_fp hown _ hf).1; omega), (hw3.alloc hw3.size _).trans (happ.turned.below (by have := hw3.size; simp; omega) (fun j hj => by have := (own_fp hown j hj).1; omega)), Nat.le_trans Z2.out happ.turned.size⟩
    · obtain rfl : k = tasks.length := by omega
      rw [List.take_length] at hown
      have Hn2 := Hn.out
      rw [List.take_length] at Hn2
      have Hr := hidp (Lies.row (B := wr.heap.size) (k := .i64) (Lies.of_own hown))
      have Hi := hidp (fun x (hx : x ∈ rothL of 0 tasks) => (show I64 x by have := rothL_bd (of := of) (k := 0) (ts := tasks) (fun q hq => (HG.out q hq).lens) x hx; unfold I64; omega))
      obtain ⟨zs, hzs⟩ : ∃ zs, rothL of 0 tasks = zs := ⟨_, rfl⟩
      rw [hzs] at Hn2 Hr HV Hi
      have Hf := hidp Hn2
      clear Hn2 hzs hown Hn
      obtain ⟨c0, c1, c2, c3⟩ := id sc
      dsimp only at c0 c1 c2 c3
      have hb := hw
      obtain ⟨q1, q2⟩ := hcv
      have hr := Hr.out
      go_wp2_with fail
      refine (cores_any _ _ (HS.out.keep (Keeps.of_below hb))).mono ?_
      rintro e w5 ⟨rfl, hb2⟩
      replace hb := hb.trans (hb2.mono hb.size)
      replace hr := hr.keep (Keeps.of_below hb2)
      clear hb2
      rw [Hcv.out]
      go_wp2_with fail
      refine (ssum_any (zs := zs) (k := cv - 1) hr Hf.out hc1 hnil (by omega) (by unfold I64; omega) Hi.out).mono ?_
      rintro e w6 ⟨rfl, hb2⟩
      replace hb := hb.trans (hb2.mono hb.size)
      rw [← HV.out]
      go_wp2_with fail
      try rw [Exit.noGoto_ret]
      go_ret
      exact ⟨rfl, hb⟩
end Go.Proofs.YtjjlpaampmpdfaaGreatDoor
