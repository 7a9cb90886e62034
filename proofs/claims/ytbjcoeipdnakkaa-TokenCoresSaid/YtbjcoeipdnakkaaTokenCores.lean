/- TokenCores: with as many cores as ask in a cluster nobody waits outside; with more cores elsewhere one doesn't wait less inside. No condition. -/
import Derived.Test.YtbjcoeipdnakkaaKnown15
import Derived.Test.YtbjcoeipdnakkaaFew15
import Derived.Test.YtbjcoeipdnakkaaRef15b
import Derived.Test.YtbjcoeipdnakkaaOk3
import Derived.Test.YtbjcoeipdnakkaaOwnPut
import Derived.StillTailTactics
set_option linter.unusedSimpArgs false
namespace Go.Proofs.Ytbjcoeipdnakkaa
theorem tot_take {l : List Int} (h : ∀ n ∈ l, 0 ≤ n) {a b : Nat} (hab : a ≤ b) : tot (l.take a) ≤ tot (l.take b) := by
  induction l generalizing a b with
  | nil => simp
  | cons x l ih =>
    have hx := h x (by simp)
    match a, b, hab with
    | 0, 0, _ => simp
    | 0, b + 1, _ =>
      have := ih (fun n hn => h n (by simp [hn])) (Nat.zero_le b)
      simp only [List.take_zero, List.take_succ_cons, tot] at this ⊢; omega
    | a + 1, b + 1, hh =>
      have := ih (fun n hn => h n (by simp [hn])) (show a ≤ b by omega)
      simp only [List.take_succ_cons, tot]; omega
theorem sum_tops {zs : List Int} {k : Int} (h : ∀ n ∈ zs, 0 ≤ n ∧ n ≤ 60) (hl : zs.length ≤ 6) : sumW (tops zs k) = tot (tops zs k) := by
  have h1 : ∀ n ∈ tops zs k, 0 ≤ n ∧ n ≤ 60 := fun n hn => h n (tops_sub n hn)
  have h2 : (tops zs k).length ≤ 6 := by rw [tops_len]; exact Nat.le_trans (clampN_le _ _) hl
  unfold sumW
  rw [fold_small _ 0 h1 (by omega) (by omega)]
  omega
/-- the same set with other cores -/
def coresTo (s : SetR) (A : Option Addr) (c : Nat) (cs : List Int) : SetR := ⟨s.proto, A, c, cs, s.ha, s.hc, s.homes, s.ta, s.tc, s.tasks⟩
theorem to_ok {s : SetR} {A : Option Addr} {c : Nat} {cs : List Int} (ho : okS s = true) (hl : cs.length = s.cores.length) (hc : ∀ n ∈ cs, 1 ≤ n ∧ n ≤ 3) : okS (coresTo s A c cs) = true := by
  obtain ⟨hf, ht⟩ := (okS_iff s).1 ho
  obtain ⟨f1, f2, f3, f4, f5, f6, f7⟩ := frameV_ok hf
  refine okS_mk f1 (by show inB cs.length 1 3 = true; rw [hl]; exact f2) (List.all_eq_true.2 (fun n hn => inB_true.2 (hc n hn))) f4 (by show allB s.homes 0 ((cs.length : Int) - 1) = true; rw [hl]; exact f5) f6 f7 (fun k hk => ?_)
  have := taskE_ok (ht k hk)
  show formB (s.tasks.getD k default) = true ∧ inB (s.tasks.getD k default).cl 0 ((cs.length : Int) - 1) = true ∧ takenB (s.tasks.take k) (s.tasks.getD k default) = false ∧ partsB (s.tasks.getD k default).parts s.homes.length = true
  rw [hl]
  exact this
theorem to_ins {s : SetR} {A : Option Addr} {c : Nat} {cs : List Int} (ho : okS s = true) (hl : cs.length = s.cores.length) (hc : ∀ n ∈ cs, 1 ≤ n ∧ n ≤ 3) (hs : tot s.cores ≤ tot cs) (of part : Int) :
    fairK (coresTo s A c cs) of part = fairK s of part ∧ insV s of part ≤ insV (coresTo s A c cs) of part ∧ (fairK s of part = true → (partAt s of part).len ≤ insV s of part) := by
  have ho2 := to_ok (A := A) (c := c) ho hl hc
  have e1 : fairK (coresTo s A c cs) of part = fairK s of part := by
    have e2 : thereB (coresTo s A c cs) of = thereB s of := by unfold thereB; rw [ho, ho2]; rfl
    unfold fairK
    rw [e2]
    rfl
  have hg := Good.of ho
  have h60 : ∀ n ∈ rothL of 0 s.tasks, 0 ≤ n ∧ n ≤ 60 := fun n hn => rothL_bd (fun q hq => (hg.parts q hq).lens) n hn
  have h6 := Nat.le_trans (rothL_len of 0 s.tasks) hg.ntasks.2
  have hb : besV s of ≤ besV (coresTo s A c cs) of := by
    unfold besV
    show sumW (tops (rothL of 0 s.tasks) (coresV s - 1)) ≤ sumW (tops (rothL of 0 s.tasks) (coresV (coresTo s A c cs) - 1))
    rw [sum_tops h60 h6, sum_tops h60 h6]
    unfold tops
    have hcv : coresV s ≤ coresV (coresTo s A c cs) := by
      unfold coresV; rw [if_pos ho, if_pos ho2]; exact hs
    refine tot_take (fun n hn => (h60 n ((desc_perm _).mem_iff.1 hn)).1) ?_
    unfold clampN; omega
  refine ⟨e1, ?_, ?_⟩
  · unfold insV
    rw [e1]
    split
    · show (partAt s of part).len + besV s of ≤ (partAt s of part).len + besV (coresTo s A c cs) of; omega
    · omega
  · intro h
    have := (besV_bd ho of).1
    unfold insV; rw [if_pos h]; omega
theorem out_zero {s : SetR} {n : Nat} (ho : okS s = true) (hn : n < s.tasks.length) (h : askersV s (s.tasks.getD n default).cl ≤ coreAt s (s.tasks.getD n default).cl) : outV s n = 0 := by
  have hg := Good.of ho
  have hm := getD_mem hn
  have hpl := hg.place _ hm
  have hc : 1 ≤ coreAt s (s.tasks.getD n default).cl ∧ coreAt s (s.tasks.getD n default).cl ≤ 3 := hg.cores _ (by
    have : (s.tasks.getD n default).cl.toNat < s.cores.length := by omega
    unfold coreAt; exact getD_mem (α := Int) this)
  have hr : rndV s (s.tasks.getD n default).cl = 0 := by
    unfold rndV
    generalize askersV s (s.tasks.getD n default).cl = a at *
    generalize coreAt s (s.tasks.getD n default).cl = c at *
    have hb : c = 1 ∨ c = 2 ∨ c = 3 := by omega
    rcases hb with rfl | rfl | rfl <;> omega
  unfold outV
  simp only [Int.toNat_natCast]
  rw [hr]
  split
  · omega
  · rfl
theorem tot_set {l : List Int} {k : Nat} (h : k < l.length) (x : Int) : tot (l.set k x) = tot l - l.getD k 0 + x := by
  induction l generalizing k with
  | nil => simp at h
  | cons a l ih =>
    match k with
    | 0 => simp [tot]; omega
    | k + 1 =>
      have := ih (k := k) (by simpa using h)
      simp only [List.set_cons_succ, tot, List.getD_cons_succ]; omega
end Go.Proofs.Ytbjcoeipdnakkaa
set_option maxHeartbeats 20000000
set_option maxRecDepth 100000
namespace Go.Proofs.Ytbjcoeipdnakkaa.tokenCores
open Go.ChangeShapes Go.WideShapes Go.ChangeAt Go.RowKit
open Go.ChangeMaps (open_string shut_string)
set_option linter.unusedVariables false

/-- THE WALK: the Go text returns true, and writes nothing that was there. -/
theorem walk (s0 : SetR) (a1 : Int) (w : World) (w0 : SetOk w s0) (w1 : (Lit.int .u8 a1).wf = true) :
    Calls Try.prog 10 #[.agg #[.int .i64 s0.proto, .slice s0.ca s0.cores.length s0.cc, .slice s0.ha s0.homes.length s0.hc, .slice s0.ta s0.tasks.length s0.tc], .int .u8 a1] w fun e w' => e = .returned (.bool true) ∧ Below w.heap.size w w' := by
  have hb := (Below.refl w.heap.size w).alloc (Nat.le_refl _) (.cells #[.int .i64 s0.proto, .slice s0.ca s0.cores.length s0.cc, .slice s0.ha s0.homes.length s0.hc, .slice s0.ta s0.tasks.length s0.tc] 26)
  have sc := SetCells.new w s0 26
  have hs := w0.keep (Keeps.of_below hb)
  have HS := hidp w0
  obtain ⟨wh, hn⟩ : ∃ n : Nat, a1 = n := nat_u8 w1
  have wh255 : wh ≤ 255 := u8_le w1 hn
  subst hn
  obtain ⟨i0, hi0, hy0, hy1, hy2⟩ := info_parts infoZ
  have HS1 : Hid (∀ u, Below w.heap.size w u → SetOk u s0) := hidp (fun u h => HS.out.keep (Keeps.of_below h))
  by_cases eth : thereB s0 0 = true
  · obtain ⟨ho, r1, r2⟩ := thereB_true.1 eth
    have Hth := hidp eth
    have Ho := hidp ho
    have hg := Good.of ho
    have n6 := hg.ntasks.2
    have hcl := hg.ncores
    have Hcb := hidp hg.cores
    have Hplace := hidp hg.place
    have HR := hidp HS.out.tasks.at_
    have HRc := hidp HS.out.cores
    have Hok := hidp HS.out.tasks.ok
    have Hlen6 := hidp (fun q hq => (hg.parts q hq).len)
    have Hto := hidp (fun A c cs h1 h2 h3 => to_ins (s := s0) (A := A) (c := c) (cs := cs) ho h1 h2 h3)
    have Htok : Hid (∀ u A c cs, Below w.heap.size w u → IntsOk u A c cs → SetOk u (coresTo s0 A c cs)) := hidp (fun u A c cs h k => ⟨(HS1.out u h).proto, k, (HS1.out u h).homes, (HS1.out u h).tasks⟩)
    have Hout := hidp (fun n (hn : n < s0.tasks.length) => out_zero (n := n) ho hn)
    obtain ⟨I, HI⟩ : ∃ f : Nat → Nat → Int, Hid (∀ i j : Nat, insV s0 i j = f i j) := ⟨fun i j => insV s0 i j, hidp (fun _ _ => rfl)⟩
    obtain ⟨K, HK⟩ : ∃ f : Nat → Nat → Bool, Hid (∀ i j : Nat, fairK s0 i j = f i j) := ⟨fun i j => fairK s0 i j, hidp (fun _ _ => rfl)⟩
    obtain ⟨O, HO⟩ : ∃ f : Nat → Int, Hid (∀ i : Nat, outV s0 i = f i) := ⟨fun i => outV s0 i, hidp (fun _ => rfl)⟩
    obtain ⟨kk, hkk⟩ : ∃ kk, wh % s0.cores.length = kk := ⟨_, rfl⟩
    have hkl : kk < s0.cores.length := by rw [← hkk]; exact Nat.mod_lt _ (by omega)
    have ht1 : (wh : Int).tmod (s0.cores.length : Int) = (kk : Int) := by rw [Int.tmod_eq_emod_of_nonneg (by omega), ← hkk]; simp
    have hne : ¬ s0.cores.length = 0 := by omega
    obtain ⟨x, Hx⟩ : ∃ x, Hid (s0.cores.getD kk 0 = x) := ⟨_, rfl⟩
    have hx := hg.cores x (by rw [← Hx.out]; exact getD_mem (α := Int) hkl)
    obtain ⟨x1, x3⟩ := hx
    clear hkk hg ho eth r1 r2 w0 w1
    obtain ⟨S, HSS⟩ : ∃ S : SetR, Hid (S = s0) := ⟨s0, rfl⟩
    obtain ⟨proto, ca, cc, cores, ha, hc, homes, ta, tc, tasks⟩ := s0
    dsimp only at hb sc hs HR HRc Hok Hlen6 n6 hcl hkl ht1 hne Hcb Hplace Hout ⊢
    go_enter Try.func10, Try.ntmps10
    go_wp2_with fail
    refine (known15_any _).mono ?_
    rintro e u1 ⟨rfl, hb2⟩
    replace hb := hb.trans (hb2.mono hb.size)
    replace sc := sc.keep (Keeps.of_below hb2)
    replace hs := hs.keep (Keeps.of_below hb2)
    clear hb2
    try clear sc_0 sc_1 sc_2 sc_3
    have scx := sc
    obtain ⟨sc_0, sc_1, sc_2, sc_3⟩ := scx
    try dsimp only at sc_0 sc_1 sc_2 sc_3
    go_wp2_with fail
    refine (few15_any _ _ hs).mono ?_
    rintro e u2 ⟨⟨b, rfl⟩, hb2⟩
    replace hb := hb.trans (hb2.mono hb.size)
    replace sc := sc.keep (Keeps.of_below hb2)
    replace hs := hs.keep (Keeps.of_below hb2)
    clear hb2
    try clear sc_0 sc_1 sc_2 sc_3
    have scx := sc
    obtain ⟨sc_0, sc_1, sc_2, sc_3⟩ := scx
    try dsimp only at sc_0 sc_1 sc_2 sc_3
    cases b
    · go_wp2_with fail
      go_ret
      exact ⟨rfl, hb⟩
    go_wp2_with fail
    refine (rthere_any _ 0 _ hs).mono ?_
    rintro e u3 ⟨rfl, hb2⟩
    replace hb := hb.trans (hb2.mono hb.size)
    replace sc := sc.keep (Keeps.of_below hb2)
    clear hb2
    try clear sc_0 sc_1 sc_2 sc_3
    have scx := sc
    obtain ⟨sc_0, sc_1, sc_2, sc_3⟩ := scx
    try dsimp only at sc_0 sc_1 sc_2 sc_3
    rw [Hth.out]
    clear hs
    have Bt := Bk.new u3 26 #[.int .i64 proto, .slice ca cores.length cc, .slice ha homes.length hc, .slice ta tasks.length tc]
    have sc' := sc.keep (Keeps.alloc u3 (.cells #[.int .i64 proto, .slice ca cores.length cc, .slice ha homes.length hc, .slice ta tasks.length tc] 26))
    obtain ⟨e0, e1, e2, e3⟩ := id sc'
    dsimp only at e0 e1 e2 e3
    have hz := cell_lt sc.1
    have hbw := hb.alloc hb.size (.cells #[.int .i64 proto, .slice ca cores.length cc, .slice ha homes.length hc, .slice ta tasks.length tc] 26)
    have Q2 : Hid (ca = none → cores.length = 0 ∧ cc = 0) := hidp HRc.out.sl.1
    have L2 : Hid ((cores.map (Value.int .i64)).length = cores.length * 1) := hidp (by simp)
    have O2 : Hid (∀ u ∈ cores.map (Value.int .i64), u.oneCell' = true) := hidp (fun u hu => by obtain ⟨n, _, rfl⟩ := List.mem_map.1 hu; rfl)
    have N2 : Hid (0 + cores.length ≤ maxLen) := hidp (by unfold maxLen; omega)
    have T2 : Hid ((0 + cores.length) * 8 ≤ 140737488355328) := hidp (by omega)
    have S2 := hidp (Row.lies (HRc.out.keep (Keeps.of_below hbw)).at_)
    have Z2 : Hid (u3.heap.size + 1 ≤ (u3.alloc (.cells #[.int .i64 proto, .slice ca cores.length cc, .slice ha homes.length hc, .slice ta tasks.length tc] 26)).heap.size) := hidp (by simp)
    have P2 : Hid (0 < cores.length) := hidp (by omega)
    have Hcell : Hid (∀ (u : World) (b g c : Nat), u.ownsRow b 3 1 (.slice (some ⟨g, 0, none⟩) cores.length c) cores.length (cores.map (Value.int .i64)) → u.cell? ⟨g, kk, none⟩ = some (.int .i64 x)) := hidp (fun u b0 g c h => by
      obtain ⟨b, off, e, hc⟩ := (Lies.row (B := u.heap.size) (k := .i64) (Lies.of_own h)).resolve_left (by intro e; rw [e] at hkl; simp at hkl)
      cases e
      have := hc kk hkl
      rw [Nat.zero_add, Hx.out] at this
      exact this)
    have f0 := Bt.frozen 1
    by_cases hx3 : x < 3
    · go_wp2_with (at_builtin; (refine wpList_app2 _ rfl (.const (.slice none 0 0)) (.tmp 32) 23 rfl (u3.heap.size + 1) 3 i0 _ 1 8 Try.underlying23 hi0 hy0 hy1 hy2 rfl (by decide) none 0 0 [] rfl (World.ownsRow_nil _ _ _ _) _ ca cores.length cc (cores.map (Value.int .i64)) rfl Q2.out L2.out S2.out O2.out N2.out T2.out Z2.out ?_; intro A' c' w4 happ; simp only [Nat.zero_add, List.nil_append] at happ; obtain ⟨g, hA', hg1, hg2⟩ := own_at happ.own P2.out; subst hA'; simp only [Nat.zero_add]; have hbw4 := hbw.trans (happ.turned.below hbw.size (by simp [fp])); have Bt4 := Bt.turned happ.turned (by simp [fp]); obtain ⟨t0, t1, t2, t3⟩ := Z4 Bt4; obtain ⟨z0, z1, z2, z3⟩ := ZF4 Bt4; have cc0 := Hcell.out _ _ _ _ happ.own; have T1 := (Turned.refl [u3.heap.size] w4).setCell (p := ⟨u3.heap.size, 1, none⟩) (.inl (by simp)) (.slice (some ⟨g, 0, none⟩) cores.length c'); have cc1 := T1.cell cc0 (by simp; omega); have Bt5 := Bt4.put 1 (.slice (some ⟨g, 0, none⟩) cores.length c'); have sc5 := (sc'.turned happ.turned (by simp [fp])).turned T1 (by simp; omega); have hbw5 := hbw4.trans (T1.below hbw4.size (by simp; omega)); have own5 := own_turned happ.own T1 (by simp [fp]; omega); have fz5 := own_frozen own5 kk; clear e0 e1 e2 e3))
      obtain ⟨w5, hw5⟩ : ∃ w5, w4.setCell ⟨u3.heap.size, 1, none⟩ (.slice (some ⟨g, 0, none⟩) cores.length c') = w5 := ⟨_, rfl⟩
      rw [hw5] at T1 cc1 Bt5 sc5 hbw5 own5 fz5 ⊢
      have oN : OwnN (u3.heap.size + 1) w5 (some ⟨g, 0, none⟩) cores.length c' cores := ⟨own5, rfl, happ.cap, happ.nil⟩
      clear happ Bt4 t0 t1 t2 t3 z0 z1 z2 z3 cc0 T1 hbw4 hw5 sc' hb Bt S2 hbw f0
      obtain ⟨t0, t1, t2, t3⟩ := Z4 Bt5
      have hwx : IntKind.i64.wrap (x + 1) = x + 1 := IntWalk.i64_in _ (by omega)
      go_still_tail 10, (by kernel_rfl)
      change wpList _ _ _ _ _ w5.drew
      go_wp2
      clear hwx
      have oP := oN.put hkl (x + 1)
      have TS := (Turned.refl [g] w5).setCell (p := ⟨g, kk, none⟩) (.inl (by simp)) (.int .i64 (x + 1))
      have hb := (hbw5.trans (TS.below hbw5.size (by simp; omega))).drew
      have sc := (sc5.turned TS (by simp; omega)).keep (Keeps.drew _)
      have cok := (oP.ok (fun z hz => by
        rcases List.mem_or_eq_of_mem_set hz with h | h
        · exact HRc.out.wf z h
        · rw [h]; unfold I64; omega)).keep (Keeps.drew _)
      have TB := Z4 ((Bt5.turned TS (by simp; omega)).drewN 1)
      have Hcl : Hid ((cores.set kk (x + 1)).length = cores.length) := hidp (by simp)
      have Hcs : Hid (∀ n ∈ cores.set kk (x + 1), 1 ≤ n ∧ n ≤ 3) := hidp (fun n hn => by
        rcases List.mem_or_eq_of_mem_set hn with h | h
        · exact Hcb.out n h
        · rw [h]; omega)
      have Htt : Hid (tot cores ≤ tot (cores.set kk (x + 1))) := hidp (by rw [tot_set hkl, Hx.out]; omega)
      obtain ⟨cs, hcs⟩ : ∃ cs, cores.set kk (x + 1) = cs := ⟨_, rfl⟩
      rw [hcs] at Hcl Hcs Htt cok
      obtain ⟨v, hv⟩ : ∃ v, (w5.setCell ⟨g, kk, none⟩ (.int .i64 (x + 1))).drew = v := ⟨_, rfl⟩
      change SetCells (w5.setCell ⟨g, kk, none⟩ (.int .i64 (x + 1))).drew _ _ at sc
      rw [hv] at hb sc cok ⊢
      replace TB : v.cell? ⟨u3.heap.size, 0, none⟩ = some (.int .i64 proto) ∧ v.cell? ⟨u3.heap.size, 1, none⟩ = some (.slice (some ⟨g, 0, none⟩) cores.length c') ∧ v.cell? ⟨u3.heap.size, 2, none⟩ = some (.slice ha homes.length hc) ∧ v.cell? ⟨u3.heap.size, 3, none⟩ = some (.slice ta tasks.length tc) := by rw [← hv]; exact TB
      clear hv hcs oP TS oN own5 fz5 cc1 Bt5 sc5 hbw5 t0 t1 t2 t3 sc_0 sc_1 sc_2 sc_3 hx3
      go_loopg [7] tasks.length (fun gg i wr => ∃ k : Nat, k + gg = tasks.length ∧ i = .int .i64 k ∧ SetCells wr w.heap.size ⟨proto, ca, cc, cores, ha, hc, homes, ta, tc, tasks⟩ ∧ (wr.cell? ⟨u3.heap.size, 0, none⟩ = some (.int .i64 proto) ∧ wr.cell? ⟨u3.heap.size, 1, none⟩ = some (.slice (some ⟨g, 0, none⟩) cores.length c') ∧ wr.cell? ⟨u3.heap.size, 2, none⟩ = some (.slice ha homes.length hc) ∧ wr.cell? ⟨u3.heap.size, 3, none⟩ = some (.slice ta tasks.length tc)) ∧ IntsOk wr (some ⟨g, 0, none⟩) c' cs ∧ Below w.heap.size w wr)
      case atStart => exact ⟨0, by omega, rfl, sc, TB, cok, hb⟩
      case round =>
        clear sc TB cok hb
        obtain ⟨i, hi, rfl, sc, TB, cok, hb⟩ := hrel
        obtain ⟨sc_0, sc_1, sc_2, sc_3⟩ := id sc
        dsimp only at sc_0 sc_1 sc_2 sc_3
        by_cases hlt : i < tasks.length
        · obtain ⟨g5, off, hA, hcl5⟩ := HR.out.resolve_left (by intro e; rw [e] at hlt; simp at hlt)
          subst hA
          obtain ⟨t, HT⟩ : ∃ t, Hid (tasks.getD i default = t) := ⟨_, rfl⟩
          have hm : t ∈ tasks := HT.out ▸ getD_mem hlt
          have Htc := hidp (HT.out ▸ hcl5 i hlt)
          have hpl := Hplace.out t hm
          have hl6 := Hlen6.out t hm
          obtain ⟨gp, op, hP, hpc⟩ := (Hok.out t hm).at_.resolve_left (by intro e; rw [e] at hl6; simp at hl6)
          have Hpc := hidp hpc
          have HP := hidp hP
          obtain ⟨cn, hcn⟩ : ∃ cn : Nat, t.cl = cn := ⟨t.cl.toNat, by omega⟩
          have hcl2 : cn < cores.length := by omega
          obtain ⟨gc, oc, hCA, hcc⟩ := HRc.out.at_.resolve_left (by intro e; rw [e] at hcl2; simp at hcl2)
          subst hCA
          obtain ⟨nc, HNC⟩ : ∃ nc, Hid (cores.getD cn 0 = nc) := ⟨_, rfl⟩
          have Hcc := hidp (HNC.out ▸ hcc cn hcl2)
          obtain ⟨ka, HKa⟩ : ∃ ka, Hid (askersV ⟨proto, some ⟨gc, oc, none⟩, cc, cores, ha, hc, homes, some ⟨g5, off, none⟩, tc, tasks⟩ cn = ka) := ⟨_, rfl⟩
          have Hoz : Hid (ka ≤ nc → O i = 0) := hidp (fun h => by
            rw [← HO.out]
            refine Hout.out i hlt ?_
            show askersV _ (tasks.getD i default).cl ≤ coreAt _ (tasks.getD i default).cl
            rw [HT.out, hcn, HKa.out]
            unfold coreAt
            simp only [Int.toNat_natCast]
            rw [HNC.out]; exact h)
          obtain ⟨d0, d1, d2, d3, d4, d5⟩ := Htc.out.keep (Keeps.of_below hb)
          rw [hcn] at d4
          have Hcn := hidp hcn
          clear hcl5 hcc hpc hP hpl hcn hm
          have cb := Keeps.of_below hb _ _ Hcc.out
          have hga : ka ≤ nc ∧ O i = 0 ∨ ¬ ka ≤ nc := by
            by_cases h : ka ≤ nc
            · exact .inl ⟨h, Hoz.out h⟩
            · exact .inr h
          rcases hga with ⟨hgn, hO0⟩ | hgn
          · have hg1 : decide (ka ≤ nc) = true := by simpa using hgn
            go_wp2_with fail
            have s0 := Keeps.drew _ _ _ sc_0
            have s1 := Keeps.drew _ _ _ sc_1
            have s2 := Keeps.drew _ _ _ sc_2
            have s3 := Keeps.drew _ _ _ sc_3
            have s4 := Keeps.drew _ _ _ cb
            have TB := And.intro (Keeps.drew _ _ _ TB.1) (And.intro (Keeps.drew _ _ _ TB.2.1) (And.intro (Keeps.drew _ _ _ TB.2.2.1) (Keeps.drew _ _ _ TB.2.2.2)))
            have cok := cok.keep (Keeps.drew _)
            have hb := hb.drew
            have H' := HS1.out _ hb
            clear sc sc_0 sc_1 sc_2 sc_3 cb d0 d1 d2 d3 d4 d5
            go_region_held3 (fun w' => w'.cell? ⟨w.heap.size, 0, none⟩ = some (.int .i64 proto) ∧ w'.cell? ⟨w.heap.size, 1, none⟩ = some (.slice (some ⟨gc, oc, none⟩) cores.length cc) ∧ w'.cell? ⟨w.heap.size, 2, none⟩ = some (.slice ha homes.length hc) ∧ w'.cell? ⟨w.heap.size, 3, none⟩ = some (.slice (some ⟨g5, off, none⟩) tasks.length tc) ∧ w'.cell? ⟨gc, oc + cn, none⟩ = some (.int .i64 nc)) (exact ⟨s0, s1, s2, s3, s4⟩)
              (first
                | (go_at_call 35; refine (raskers_any _ cn _ H' Ho.out).mono ?_; rintro e u ⟨rfl, hb3⟩; have s0 := Keeps.of_below hb3 _ _ s0; have s1 := Keeps.of_below hb3 _ _ s1; have s2 := Keeps.of_below hb3 _ _ s2; have s3 := Keeps.of_below hb3 _ _ s3; have s4 := Keeps.of_below hb3 _ _ s4; have TB := And.intro (Keeps.of_below hb3 _ _ TB.1) (And.intro (Keeps.of_below hb3 _ _ TB.2.1) (And.intro (Keeps.of_below hb3 _ _ TB.2.2.1) (Keeps.of_below hb3 _ _ TB.2.2.2))); have cok := cok.keep (Keeps.of_below hb3); have H' := H'.keep (Keeps.of_below hb3); have hb := hb.trans (hb3.mono hb.size); rw [HKa.out])
                | (go_at_call 33; refine (outside_any _ i _ H').mono ?_; rintro e u ⟨rfl, hb3⟩; have s0 := Keeps.of_below hb3 _ _ s0; have s1 := Keeps.of_below hb3 _ _ s1; have s2 := Keeps.of_below hb3 _ _ s2; have s3 := Keeps.of_below hb3 _ _ s3; have s4 := Keeps.of_below hb3 _ _ s4; have TB := And.intro (Keeps.of_below hb3 _ _ TB.1) (And.intro (Keeps.of_below hb3 _ _ TB.2.1) (And.intro (Keeps.of_below hb3 _ _ TB.2.2.1) (Keeps.of_below hb3 _ _ TB.2.2.2))); have cok := cok.keep (Keeps.of_below hb3); have H' := H'.keep (Keeps.of_below hb3); have hb := hb.trans (hb3.mono hb.size); rw [HO.out, hO0]))
            have sc : SetCells _ w.heap.size (⟨proto, some ⟨gc, oc, none⟩, cc, cores, ha, hc, homes, some ⟨g5, off, none⟩, tc, tasks⟩ : SetR) := ⟨s0, s1, s2, s3⟩
            try clear hO0
            clear s0 s1 s2 s3 s4 H' hg1 hgn
            go_wp2_with fail
            go_loopg [9] t.parts.length (fun g2 j wr => ∃ k : Nat, k + g2 = t.parts.length ∧ j = .int .i64 k ∧ SetCells wr w.heap.size ⟨proto, some ⟨gc, oc, none⟩, cc, cores, ha, hc, homes, some ⟨g5, off, none⟩, tc, tasks⟩ ∧ (wr.cell? ⟨u3.heap.size, 0, none⟩ = some (.int .i64 proto) ∧ wr.cell? ⟨u3.heap.size, 1, none⟩ = some (.slice (some ⟨g, 0, none⟩) cores.length c') ∧ wr.cell? ⟨u3.heap.size, 2, none⟩ = some (.slice ha homes.length hc) ∧ wr.cell? ⟨u3.heap.size, 3, none⟩ = some (.slice (some ⟨g5, off, none⟩) tasks.length tc)) ∧ IntsOk wr (some ⟨g, 0, none⟩) c' cs ∧ Below w.heap.size w wr)
            case atStart => exact ⟨0, by omega, rfl, sc, TB, cok, hb⟩
            case round =>
              clear sc TB cok hb
              obtain ⟨j, hj, rfl, sc, TB, cok, hb⟩ := hrel
              obtain ⟨sc_0, sc_1, sc_2, sc_3⟩ := id sc
              dsimp only at sc_0 sc_1 sc_2 sc_3
              have d5 := (Htc.out.keep (Keeps.of_below hb)).2.2.2.2.2
              rw [HP.out] at d5
              have l6 := hl6.2
              by_cases hlj : j < t.parts.length
              · obtain ⟨q, HQ⟩ : ∃ q, Hid (t.parts.getD j default = q) := ⟨_, rfl⟩
                have Hqc := hidp (HQ.out ▸ Hpc.out j hlj)
                obtain ⟨y1, y2, y3⟩ := Hto.out (some ⟨g, 0, none⟩) c' cs Hcl.out Hcs.out Htt.out i j
                have hpa : partAt (⟨proto, some ⟨gc, oc, none⟩, cc, cores, ha, hc, homes, some ⟨g5, off, none⟩, tc, tasks⟩ : SetR) i j = q := by unfold partAt; simp only [Int.toNat_natCast]; rw [HT.out, HQ.out]
                obtain ⟨J, HJ⟩ : ∃ J, Hid (insV (coresTo (⟨proto, some ⟨gc, oc, none⟩, cc, cores, ha, hc, homes, some ⟨g5, off, none⟩, tc, tasks⟩ : SetR) (some ⟨g, 0, none⟩) c' cs) i j = J) := ⟨_, rfl⟩
                rw [HI.out, HJ.out] at y2
                rw [HK.out] at y1
                rw [HK.out, hpa, HI.out] at y3
                have Y1 := hidp y1
                have Y3 := hidp y3
                clear y1 y3 hpa
                go_wp2_with fail
                have CC := inside_any _ i j _ (HS1.out _ hb)
                rw [HI.out, HK.out] at CC
                refine CC.mono ?_
                rintro e u6 ⟨rfl, hb2⟩
                clear CC
                replace hb := hb.trans (hb2.mono hb.size)
                replace sc := sc.keep (Keeps.of_below hb2)
                replace TB := And.intro (Keeps.of_below hb2 _ _ TB.1) (And.intro (Keeps.of_below hb2 _ _ TB.2.1) (And.intro (Keeps.of_below hb2 _ _ TB.2.2.1) (Keeps.of_below hb2 _ _ TB.2.2.2)))
                replace cok := cok.keep (Keeps.of_below hb2)
                clear hb2
                try clear sc_0 sc_1 sc_2 sc_3
                have scx := sc
                obtain ⟨sc_0, sc_1, sc_2, sc_3⟩ := scx
                try dsimp only at sc_0 sc_1 sc_2 sc_3
                obtain ⟨tb_0, tb_1, tb_2, tb_3⟩ := id TB
                have CT := inside_any (coresTo (⟨proto, some ⟨gc, oc, none⟩, cc, cores, ha, hc, homes, some ⟨g5, off, none⟩, tc, tasks⟩ : SetR) (some ⟨g, 0, none⟩) c' cs) i j _ (Htok.out _ _ _ _ hb cok)
                rw [HJ.out, Y1.out] at CT
                dsimp only [coresTo] at CT
                rw [Hcl.out] at CT
                clear d5
                go_wp2_with fail
                refine CT.mono ?_
                rintro e u7 ⟨rfl, hb2⟩
                replace hb := hb.trans (hb2.mono hb.size)
                replace sc := sc.keep (Keeps.of_below hb2)
                replace TB := And.intro (Keeps.of_below hb2 _ _ TB.1) (And.intro (Keeps.of_below hb2 _ _ TB.2.1) (And.intro (Keeps.of_below hb2 _ _ TB.2.2.1) (Keeps.of_below hb2 _ _ TB.2.2.2)))
                replace cok := cok.keep (Keeps.of_below hb2)
                clear hb2 CT tb_0 tb_1 tb_2 tb_3 sc_0 sc_1 sc_2 sc_3
                obtain ⟨sc_0, sc_1, sc_2, sc_3⟩ := id sc
                dsimp only at sc_0 sc_1 sc_2 sc_3
                have d5 := (Htc.out.keep (Keeps.of_below hb)).2.2.2.2.2
                rw [HP.out] at d5
                obtain ⟨x0, x1', x2⟩ := Hqc.out.keep (Keeps.of_below hb)
                have hnl : ¬ J < I i j := by omega
                by_cases hK : K i j = true
                · have hq := Y3.out hK
                  have hnq : ¬ I i j < q.len := by omega
                  go_wp2
                  go_roundg (t.parts.length - j - 1)
                  case measure => omega
                  case rel => exact ⟨j + 1, by omega, by go_num, sc, TB, cok, hb⟩
                · have hK : K i j = false := by simpa using hK
                  go_wp2
                  go_roundg (t.parts.length - j - 1)
                  case measure => omega
                  case rel => exact ⟨j + 1, by omega, by go_num, sc, TB, cok, hb⟩
              · go_wp2
                go_roundg (tasks.length - i - 1)
                case measure => omega
                case rel => exact ⟨i + 1, by omega, by go_num, sc, TB, cok, hb⟩
          · have hg1 : decide (ka ≤ nc) = false := by simpa using hgn
            go_wp2_with fail
            have s0 := Keeps.drew _ _ _ sc_0
            have s1 := Keeps.drew _ _ _ sc_1
            have s2 := Keeps.drew _ _ _ sc_2
            have s3 := Keeps.drew _ _ _ sc_3
            have s4 := Keeps.drew _ _ _ cb
            have TB := And.intro (Keeps.drew _ _ _ TB.1) (And.intro (Keeps.drew _ _ _ TB.2.1) (And.intro (Keeps.drew _ _ _ TB.2.2.1) (Keeps.drew _ _ _ TB.2.2.2)))
            have cok := cok.keep (Keeps.drew _)
            have hb := hb.drew
            have H' := HS1.out _ hb
            clear sc sc_0 sc_1 sc_2 sc_3 cb d0 d1 d2 d3 d4 d5
            refine wp_region_held_drew (S := fun w' => w'.cell? ⟨w.heap.size, 0, none⟩ = some (.int .i64 proto) ∧ w'.cell? ⟨w.heap.size, 1, none⟩ = some (.slice (some ⟨gc, oc, none⟩) cores.length cc) ∧ w'.cell? ⟨w.heap.size, 2, none⟩ = some (.slice ha homes.length hc) ∧ w'.cell? ⟨w.heap.size, 3, none⟩ = some (.slice (some ⟨g5, off, none⟩) tasks.length tc) ∧ w'.cell? ⟨gc, oc + cn, none⟩ = some (.int .i64 nc)) (by kernel_rfl) ?_ (fun hHeld => ?_)
            · exact ⟨s0, s1, s2, s3, s4⟩
            refine wpAnyH_take (i := 0) (v := ?_) rfl (by kernel_rfl) (by kernel_rfl) (by kernel_rfl) (fun _ _ _ h => h) (Or.inl ⟨by rfl, ?_⟩) (by assumption) ?_
            rotate_left 1
            · ((intro w hSw; (try dsimp only at hSw); go_simp); (try with_reducible rfl))
            simp only [Act.put, List.setIfInBounds_toArray, List.set_cons_zero, List.set_cons_succ, List.getElem_toArray, List.getElem_cons_zero, List.getElem_cons_succ]
            refine wpAnyH_take (i := 1) (v := ?_) rfl (by kernel_rfl) (by kernel_rfl) (by kernel_rfl) (fun _ _ _ h => h) (Or.inl ⟨by rfl, ?_⟩) (by assumption) ?_
            rotate_left 1
            · ((intro w hSw; (try dsimp only at hSw); go_simp); (try with_reducible rfl))
            simp only [Act.put, List.setIfInBounds_toArray, List.set_cons_zero, List.set_cons_succ, List.getElem_toArray, List.getElem_cons_zero, List.getElem_cons_succ]
            refine wpAnyH_take (i := 3) (v := ?_) rfl (by kernel_rfl) (by kernel_rfl) (by kernel_rfl) (fun _ _ _ h => h) (Or.inl ⟨by rfl, ?_⟩) (by assumption) ?_
            rotate_left 1
            · ((intro w hSw; (try dsimp only at hSw); go_simp); (try with_reducible rfl))
            simp only [Act.put, List.setIfInBounds_toArray, List.set_cons_zero, List.set_cons_succ, List.getElem_toArray, List.getElem_cons_zero, List.getElem_cons_succ]
            refine wpAnyH_take (i := 4) (v := ?_) rfl (by kernel_rfl) (by kernel_rfl) (by kernel_rfl) (fun _ _ _ h => h) (Or.inl ⟨by rfl, ?_⟩) (by assumption) ?_
            rotate_left 1
            · ((intro w hSw; (try dsimp only at hSw); go_simp); (try with_reducible rfl))
            simp only [Act.put, List.setIfInBounds_toArray, List.set_cons_zero, List.set_cons_succ, List.getElem_toArray, List.getElem_cons_zero, List.getElem_cons_succ]
            refine wpAnyH_take (i := 5) (v := ?_) rfl (by kernel_rfl) (by kernel_rfl) (by kernel_rfl) (fun _ _ _ h => h) (Or.inl ⟨by rfl, ?_⟩) (by assumption) ?_
            rotate_left 1
            · ((intro w hSw; (try dsimp only at hSw); go_simp); (try with_reducible rfl))
            simp only [Act.put, List.setIfInBounds_toArray, List.set_cons_zero, List.set_cons_succ, List.getElem_toArray, List.getElem_cons_zero, List.getElem_cons_succ]
            refine wpAnyH_take (i := 6) (v := ?_) rfl (by kernel_rfl) (by kernel_rfl) (by kernel_rfl) (fun _ _ _ h => h) (Or.inl ⟨by rfl, ?_⟩) (by assumption) ?_
            rotate_left 1
            · ((intro w hSw; (try dsimp only at hSw); go_simp); (try with_reducible rfl))
            simp only [Act.put, List.setIfInBounds_toArray, List.set_cons_zero, List.set_cons_succ, List.getElem_toArray, List.getElem_cons_zero, List.getElem_cons_succ]
            refine wpAnyH_take (i := 7) (v := ?_) rfl (by kernel_rfl) (by kernel_rfl) (by kernel_rfl) (fun _ _ _ h => h) (Or.inl ⟨by rfl, ?_⟩) (by assumption) ?_
            rotate_left 1
            · ((intro w hSw; (try dsimp only at hSw); go_simp); (try with_reducible rfl))
            simp only [Act.put, List.setIfInBounds_toArray, List.set_cons_zero, List.set_cons_succ, List.getElem_toArray, List.getElem_cons_zero, List.getElem_cons_succ]
            refine wpAnyH_ready (rs := [2]) (by kernel_rfl) (by simp) ?_
            refine AllReadyH.cons rfl (fun K hK => ?_) AllReadyH.nil
            go_simp
            refine (raskers_any _ cn _ H' Ho.out).mono ?_
            rintro e u ⟨rfl, hb3⟩
            rw [HKa.out]
            replace s0 := Keeps.of_below hb3 _ _ s0
            replace s1 := Keeps.of_below hb3 _ _ s1
            replace s2 := Keeps.of_below hb3 _ _ s2
            replace s3 := Keeps.of_below hb3 _ _ s3
            replace s4 := Keeps.of_below hb3 _ _ s4
            replace TB := And.intro (Keeps.of_below hb3 _ _ TB.1) (And.intro (Keeps.of_below hb3 _ _ TB.2.1) (And.intro (Keeps.of_below hb3 _ _ TB.2.2.1) (Keeps.of_below hb3 _ _ TB.2.2.2)))
            replace cok := cok.keep (Keeps.of_below hb3)
            replace H' := H'.keep (Keeps.of_below hb3)
            have hb := hb.trans (hb3.mono hb.size)
            clear hHeld hb3
            go_wp2_with fail
            refine hK.out _ _ ?_ (fun hHeld => ?_)
            · exact ⟨s0, s1, s2, s3, s4⟩
            clear hK K
            try simp only [Act.put, List.setIfInBounds_toArray, List.set_cons_zero, List.set_cons_succ, List.getElem_toArray, List.getElem_cons_zero, List.getElem_cons_succ]
            refine wpAnyH_take (i := 8) (v := ?_) rfl (by kernel_rfl) (by kernel_rfl) (by kernel_rfl) (fun _ _ _ h => h) (Or.inl ⟨by rfl, ?_⟩) (by assumption) ?_
            rotate_left 1
            · ((intro w hSw; (try dsimp only at hSw); go_simp); (try with_reducible rfl))
            simp only [Act.put, List.setIfInBounds_toArray, List.set_cons_zero, List.set_cons_succ, List.getElem_toArray, List.getElem_cons_zero, List.getElem_cons_succ]
            refine wpAnyH_take (i := 9) (v := ?_) rfl (by kernel_rfl) (by kernel_rfl) (by kernel_rfl) (fun _ _ _ h => h) (Or.inl ⟨by rfl, ?_⟩) (by assumption) ?_
            rotate_left 1
            · ((intro w hSw; (try dsimp only at hSw); go_simp); (try with_reducible rfl))
            simp only [Act.put, List.setIfInBounds_toArray, List.set_cons_zero, List.set_cons_succ, List.getElem_toArray, List.getElem_cons_zero, List.getElem_cons_succ]
            refine wpAnyH_take (i := 10) (v := undef) rfl (by kernel_rfl) (by kernel_rfl) (by kernel_rfl) (fun _ _ _ h => h) (Or.inr ⟨by rfl, rfl⟩) (by assumption) ?_
            simp only [Act.put, List.setIfInBounds_toArray, List.set_cons_zero, List.set_cons_succ, List.getElem_toArray, List.getElem_cons_zero, List.getElem_cons_succ]
            refine wpAnyH_take (i := 11) (v := undef) rfl (by kernel_rfl) (by kernel_rfl) (by kernel_rfl) (fun _ _ _ h => h) (Or.inr ⟨by rfl, rfl⟩) (by assumption) ?_
            simp only [Act.put, List.setIfInBounds_toArray, List.set_cons_zero, List.set_cons_succ, List.getElem_toArray, List.getElem_cons_zero, List.getElem_cons_succ]
            refine wpAnyH_take (i := 12) (v := undef) rfl (by kernel_rfl) (by kernel_rfl) (by kernel_rfl) (fun _ _ _ h => h) (Or.inr ⟨by rfl, rfl⟩) (by assumption) ?_
            simp only [Act.put, List.setIfInBounds_toArray, List.set_cons_zero, List.set_cons_succ, List.getElem_toArray, List.getElem_cons_zero, List.getElem_cons_succ]
            refine wpAnyH_take (i := 13) (v := undef) rfl (by kernel_rfl) (by kernel_rfl) (by kernel_rfl) (fun _ _ _ h => h) (Or.inr ⟨by rfl, rfl⟩) (by assumption) ?_
            simp only [Act.put, List.setIfInBounds_toArray, List.set_cons_zero, List.set_cons_succ, List.getElem_toArray, List.getElem_cons_zero, List.getElem_cons_succ]
            refine wpAnyH_take (i := 14) (v := ?_) rfl (by kernel_rfl) (by kernel_rfl) (by kernel_rfl) (fun _ _ _ h => h) (Or.inl ⟨by rfl, ?_⟩) (by assumption) ?_
            rotate_left 1
            · ((intro w hSw; (try dsimp only at hSw); go_simp); (try with_reducible rfl))
            simp only [Act.put, List.setIfInBounds_toArray, List.set_cons_zero, List.set_cons_succ, List.getElem_toArray, List.getElem_cons_zero, List.getElem_cons_succ]
            refine wpAnyH_done (by kernel_rfl) ?_ _
            clear hHeld
            have sc : SetCells _ w.heap.size (⟨proto, some ⟨gc, oc, none⟩, cc, cores, ha, hc, homes, some ⟨g5, off, none⟩, tc, tasks⟩ : SetR) := ⟨s0, s1, s2, s3⟩
            try clear hO0
            clear s0 s1 s2 s3 s4 H' hg1 hgn
            go_wp2_with fail
            go_loopg [9] t.parts.length (fun g2 j wr => ∃ k : Nat, k + g2 = t.parts.length ∧ j = .int .i64 k ∧ SetCells wr w.heap.size ⟨proto, some ⟨gc, oc, none⟩, cc, cores, ha, hc, homes, some ⟨g5, off, none⟩, tc, tasks⟩ ∧ (wr.cell? ⟨u3.heap.size, 0, none⟩ = some (.int .i64 proto) ∧ wr.cell? ⟨u3.heap.size, 1, none⟩ = some (.slice (some ⟨g, 0, none⟩) cores.length c') ∧ wr.cell? ⟨u3.heap.size, 2, none⟩ = some (.slice ha homes.length hc) ∧ wr.cell? ⟨u3.heap.size, 3, none⟩ = some (.slice (some ⟨g5, off, none⟩) tasks.length tc)) ∧ IntsOk wr (some ⟨g, 0, none⟩) c' cs ∧ Below w.heap.size w wr)
            case atStart => exact ⟨0, by omega, rfl, sc, TB, cok, hb⟩
            case round =>
              clear sc TB cok hb
              obtain ⟨j, hj, rfl, sc, TB, cok, hb⟩ := hrel
              obtain ⟨sc_0, sc_1, sc_2, sc_3⟩ := id sc
              dsimp only at sc_0 sc_1 sc_2 sc_3
              have d5 := (Htc.out.keep (Keeps.of_below hb)).2.2.2.2.2
              rw [HP.out] at d5
              have l6 := hl6.2
              by_cases hlj : j < t.parts.length
              · obtain ⟨q, HQ⟩ : ∃ q, Hid (t.parts.getD j default = q) := ⟨_, rfl⟩
                have Hqc := hidp (HQ.out ▸ Hpc.out j hlj)
                obtain ⟨y1, y2, y3⟩ := Hto.out (some ⟨g, 0, none⟩) c' cs Hcl.out Hcs.out Htt.out i j
                have hpa : partAt (⟨proto, some ⟨gc, oc, none⟩, cc, cores, ha, hc, homes, some ⟨g5, off, none⟩, tc, tasks⟩ : SetR) i j = q := by unfold partAt; simp only [Int.toNat_natCast]; rw [HT.out, HQ.out]
                obtain ⟨J, HJ⟩ : ∃ J, Hid (insV (coresTo (⟨proto, some ⟨gc, oc, none⟩, cc, cores, ha, hc, homes, some ⟨g5, off, none⟩, tc, tasks⟩ : SetR) (some ⟨g, 0, none⟩) c' cs) i j = J) := ⟨_, rfl⟩
                rw [HI.out, HJ.out] at y2
                rw [HK.out] at y1
                rw [HK.out, hpa, HI.out] at y3
                have Y1 := hidp y1
                have Y3 := hidp y3
                clear y1 y3 hpa
                go_wp2_with fail
                have CC := inside_any _ i j _ (HS1.out _ hb)
                rw [HI.out, HK.out] at CC
                refine CC.mono ?_
                rintro e u6 ⟨rfl, hb2⟩
                clear CC
                replace hb := hb.trans (hb2.mono hb.size)
                replace sc := sc.keep (Keeps.of_below hb2)
                replace TB := And.intro (Keeps.of_below hb2 _ _ TB.1) (And.intro (Keeps.of_below hb2 _ _ TB.2.1) (And.intro (Keeps.of_below hb2 _ _ TB.2.2.1) (Keeps.of_below hb2 _ _ TB.2.2.2)))
                replace cok := cok.keep (Keeps.of_below hb2)
                clear hb2
                try clear sc_0 sc_1 sc_2 sc_3
                have scx := sc
                obtain ⟨sc_0, sc_1, sc_2, sc_3⟩ := scx
                try dsimp only at sc_0 sc_1 sc_2 sc_3
                obtain ⟨tb_0, tb_1, tb_2, tb_3⟩ := id TB
                have CT := inside_any (coresTo (⟨proto, some ⟨gc, oc, none⟩, cc, cores, ha, hc, homes, some ⟨g5, off, none⟩, tc, tasks⟩ : SetR) (some ⟨g, 0, none⟩) c' cs) i j _ (Htok.out _ _ _ _ hb cok)
                rw [HJ.out, Y1.out] at CT
                dsimp only [coresTo] at CT
                rw [Hcl.out] at CT
                clear d5
                go_wp2_with fail
                refine CT.mono ?_
                rintro e u7 ⟨rfl, hb2⟩
                replace hb := hb.trans (hb2.mono hb.size)
                replace sc := sc.keep (Keeps.of_below hb2)
                replace TB := And.intro (Keeps.of_below hb2 _ _ TB.1) (And.intro (Keeps.of_below hb2 _ _ TB.2.1) (And.intro (Keeps.of_below hb2 _ _ TB.2.2.1) (Keeps.of_below hb2 _ _ TB.2.2.2)))
                replace cok := cok.keep (Keeps.of_below hb2)
                clear hb2 CT tb_0 tb_1 tb_2 tb_3 sc_0 sc_1 sc_2 sc_3
                obtain ⟨sc_0, sc_1, sc_2, sc_3⟩ := id sc
                dsimp only at sc_0 sc_1 sc_2 sc_3
                have d5 := (Htc.out.keep (Keeps.of_below hb)).2.2.2.2.2
                rw [HP.out] at d5
                obtain ⟨x0, x1', x2⟩ := Hqc.out.keep (Keeps.of_below hb)
                have hnl : ¬ J < I i j := by omega
                by_cases hK : K i j = true
                · have hq := Y3.out hK
                  have hnq : ¬ I i j < q.len := by omega
                  go_wp2
                  go_roundg (t.parts.length - j - 1)
                  case measure => omega
                  case rel => exact ⟨j + 1, by omega, by go_num, sc, TB, cok, hb⟩
                · have hK : K i j = false := by simpa using hK
                  go_wp2
                  go_roundg (t.parts.length - j - 1)
                  case measure => omega
                  case rel => exact ⟨j + 1, by omega, by go_num, sc, TB, cok, hb⟩
              · go_wp2
                go_roundg (tasks.length - i - 1)
                case measure => omega
                case rel => exact ⟨i + 1, by omega, by go_num, sc, TB, cok, hb⟩
        · go_wp2
          go_ret
          exact ⟨rfl, hb⟩
    · go_wp2_with (at_builtin; (refine wpList_app2 _ rfl (.const (.slice none 0 0)) (.tmp 32) 23 rfl (u3.heap.size + 1) 3 i0 _ 1 8 Try.underlying23 hi0 hy0 hy1 hy2 rfl (by decide) none 0 0 [] rfl (World.ownsRow_nil _ _ _ _) _ ca cores.length cc (cores.map (Value.int .i64)) rfl Q2.out L2.out S2.out O2.out N2.out T2.out Z2.out ?_; intro A' c' w4 happ; simp only [Nat.zero_add, List.nil_append] at happ; obtain ⟨g, hA', hg1, hg2⟩ := own_at happ.own P2.out; subst hA'; simp only [Nat.zero_add]; have hbw4 := hbw.trans (happ.turned.below hbw.size (by simp [fp])); have Bt4 := Bt.turned happ.turned (by simp [fp]); obtain ⟨t0, t1, t2, t3⟩ := Z4 Bt4; obtain ⟨z0, z1, z2, z3⟩ := ZF4 Bt4; have cc0 := Hcell.out _ _ _ _ happ.own; have T1 := (Turned.refl [u3.heap.size] w4).setCell (p := ⟨u3.heap.size, 1, none⟩) (.inl (by simp)) (.slice (some ⟨g, 0, none⟩) cores.length c'); have cc1 := T1.cell cc0 (by simp; omega); have Bt5 := Bt4.put 1 (.slice (some ⟨g, 0, none⟩) cores.length c'); have sc5 := (sc'.turned happ.turned (by simp [fp])).turned T1 (by simp; omega); have hbw5 := hbw4.trans (T1.below hbw4.size (by simp; omega)); have own5 := own_turned happ.own T1 (by simp [fp]; omega); have fz5 := own_frozen own5 kk; clear e0 e1 e2 e3))
      obtain ⟨w5, hw5⟩ : ∃ w5, w4.setCell ⟨u3.heap.size, 1, none⟩ (.slice (some ⟨g, 0, none⟩) cores.length c') = w5 := ⟨_, rfl⟩
      rw [hw5] at T1 cc1 Bt5 sc5 hbw5 own5 fz5 ⊢
      have oN : OwnN (u3.heap.size + 1) w5 (some ⟨g, 0, none⟩) cores.length c' cores := ⟨own5, rfl, happ.cap, happ.nil⟩
      clear happ Bt4 t0 t1 t2 t3 z0 z1 z2 z3 cc0 T1 hbw4 hw5 sc' hb Bt S2 hbw f0
      obtain ⟨t0, t1, t2, t3⟩ := Z4 Bt5
      have hb := hbw5
      have sc := sc5
      have cok := oN.ok HRc.out.wf
      have TB := Z4 Bt5
      obtain ⟨cs, hcs⟩ : ∃ cs, cs = cores := ⟨_, rfl⟩
      have Hcl : Hid (cs.length = cores.length) := hidp (by rw [hcs])
      have Hcs : Hid (∀ n ∈ cs, 1 ≤ n ∧ n ≤ 3) := hidp (by rw [hcs]; exact Hcb.out)
      have Htt : Hid (tot cores ≤ tot cs) := hidp (by rw [hcs]; exact Int.le_refl _)
      rw [← hcs] at cok
      clear hcs oN own5 fz5 cc1 Bt5 sc5 hbw5 t0 t1 t2 t3 sc_0 sc_1 sc_2 sc_3 hx3
      go_loopg [7] tasks.length (fun gg i wr => ∃ k : Nat, k + gg = tasks.length ∧ i = .int .i64 k ∧ SetCells wr w.heap.size ⟨proto, ca, cc, cores, ha, hc, homes, ta, tc, tasks⟩ ∧ (wr.cell? ⟨u3.heap.size, 0, none⟩ = some (.int .i64 proto) ∧ wr.cell? ⟨u3.heap.size, 1, none⟩ = some (.slice (some ⟨g, 0, none⟩) cores.length c') ∧ wr.cell? ⟨u3.heap.size, 2, none⟩ = some (.slice ha homes.length hc) ∧ wr.cell? ⟨u3.heap.size, 3, none⟩ = some (.slice ta tasks.length tc)) ∧ IntsOk wr (some ⟨g, 0, none⟩) c' cs ∧ Below w.heap.size w wr)
      case atStart => exact ⟨0, by omega, rfl, sc, TB, cok, hb⟩
      case round =>
        clear sc TB cok hb
        obtain ⟨i, hi, rfl, sc, TB, cok, hb⟩ := hrel
        obtain ⟨sc_0, sc_1, sc_2, sc_3⟩ := id sc
        dsimp only at sc_0 sc_1 sc_2 sc_3
        by_cases hlt : i < tasks.length
        · obtain ⟨g5, off, hA, hcl5⟩ := HR.out.resolve_left (by intro e; rw [e] at hlt; simp at hlt)
          subst hA
          obtain ⟨t, HT⟩ : ∃ t, Hid (tasks.getD i default = t) := ⟨_, rfl⟩
          have hm : t ∈ tasks := HT.out ▸ getD_mem hlt
          have Htc := hidp (HT.out ▸ hcl5 i hlt)
          have hpl := Hplace.out t hm
          have hl6 := Hlen6.out t hm
          obtain ⟨gp, op, hP, hpc⟩ := (Hok.out t hm).at_.resolve_left (by intro e; rw [e] at hl6; simp at hl6)
          have Hpc := hidp hpc
          have HP := hidp hP
          obtain ⟨cn, hcn⟩ : ∃ cn : Nat, t.cl = cn := ⟨t.cl.toNat, by omega⟩
          have hcl2 : cn < cores.length := by omega
          obtain ⟨gc, oc, hCA, hcc⟩ := HRc.out.at_.resolve_left (by intro e; rw [e] at hcl2; simp at hcl2)
          subst hCA
          obtain ⟨nc, HNC⟩ : ∃ nc, Hid (cores.getD cn 0 = nc) := ⟨_, rfl⟩
          have Hcc := hidp (HNC.out ▸ hcc cn hcl2)
          obtain ⟨ka, HKa⟩ : ∃ ka, Hid (askersV ⟨proto, some ⟨gc, oc, none⟩, cc, cores, ha, hc, homes, some ⟨g5, off, none⟩, tc, tasks⟩ cn = ka) := ⟨_, rfl⟩
          have Hoz : Hid (ka ≤ nc → O i = 0) := hidp (fun h => by
            rw [← HO.out]
            refine Hout.out i hlt ?_
            show askersV _ (tasks.getD i default).cl ≤ coreAt _ (tasks.getD i default).cl
            rw [HT.out, hcn, HKa.out]
            unfold coreAt
            simp only [Int.toNat_natCast]
            rw [HNC.out]; exact h)
          obtain ⟨d0, d1, d2, d3, d4, d5⟩ := Htc.out.keep (Keeps.of_below hb)
          rw [hcn] at d4
          have Hcn := hidp hcn
          clear hcl5 hcc hpc hP hpl hcn hm
          have cb := Keeps.of_below hb _ _ Hcc.out
          have hga : ka ≤ nc ∧ O i = 0 ∨ ¬ ka ≤ nc := by
            by_cases h : ka ≤ nc
            · exact .inl ⟨h, Hoz.out h⟩
            · exact .inr h
          rcases hga with ⟨hgn, hO0⟩ | hgn
          · have hg1 : decide (ka ≤ nc) = true := by simpa using hgn
            go_wp2_with fail
            have s0 := Keeps.drew _ _ _ sc_0
            have s1 := Keeps.drew _ _ _ sc_1
            have s2 := Keeps.drew _ _ _ sc_2
            have s3 := Keeps.drew _ _ _ sc_3
            have s4 := Keeps.drew _ _ _ cb
            have TB := And.intro (Keeps.drew _ _ _ TB.1) (And.intro (Keeps.drew _ _ _ TB.2.1) (And.intro (Keeps.drew _ _ _ TB.2.2.1) (Keeps.drew _ _ _ TB.2.2.2)))
            have cok := cok.keep (Keeps.drew _)
            have hb := hb.drew
            have H' := HS1.out _ hb
            clear sc sc_0 sc_1 sc_2 sc_3 cb d0 d1 d2 d3 d4 d5
            go_region_held3 (fun w' => w'.cell? ⟨w.heap.size, 0, none⟩ = some (.int .i64 proto) ∧ w'.cell? ⟨w.heap.size, 1, none⟩ = some (.slice (some ⟨gc, oc, none⟩) cores.length cc) ∧ w'.cell? ⟨w.heap.size, 2, none⟩ = some (.slice ha homes.length hc) ∧ w'.cell? ⟨w.heap.size, 3, none⟩ = some (.slice (some ⟨g5, off, none⟩) tasks.length tc) ∧ w'.cell? ⟨gc, oc + cn, none⟩ = some (.int .i64 nc)) (exact ⟨s0, s1, s2, s3, s4⟩)
              (first
                | (go_at_call 35; refine (raskers_any _ cn _ H' Ho.out).mono ?_; rintro e u ⟨rfl, hb3⟩; have s0 := Keeps.of_below hb3 _ _ s0; have s1 := Keeps.of_below hb3 _ _ s1; have s2 := Keeps.of_below hb3 _ _ s2; have s3 := Keeps.of_below hb3 _ _ s3; have s4 := Keeps.of_below hb3 _ _ s4; have TB := And.intro (Keeps.of_below hb3 _ _ TB.1) (And.intro (Keeps.of_below hb3 _ _ TB.2.1) (And.intro (Keeps.of_below hb3 _ _ TB.2.2.1) (Keeps.of_below hb3 _ _ TB.2.2.2))); have cok := cok.keep (Keeps.of_below hb3); have H' := H'.keep (Keeps.of_below hb3); have hb := hb.trans (hb3.mono hb.size); rw [HKa.out])
                | (go_at_call 33; refine (outside_any _ i _ H').mono ?_; rintro e u ⟨rfl, hb3⟩; have s0 := Keeps.of_below hb3 _ _ s0; have s1 := Keeps.of_below hb3 _ _ s1; have s2 := Keeps.of_below hb3 _ _ s2; have s3 := Keeps.of_below hb3 _ _ s3; have s4 := Keeps.of_below hb3 _ _ s4; have TB := And.intro (Keeps.of_below hb3 _ _ TB.1) (And.intro (Keeps.of_below hb3 _ _ TB.2.1) (And.intro (Keeps.of_below hb3 _ _ TB.2.2.1) (Keeps.of_below hb3 _ _ TB.2.2.2))); have cok := cok.keep (Keeps.of_below hb3); have H' := H'.keep (Keeps.of_below hb3); have hb := hb.trans (hb3.mono hb.size); rw [HO.out, hO0]))
            have sc : SetCells _ w.heap.size (⟨proto, some ⟨gc, oc, none⟩, cc, cores, ha, hc, homes, some ⟨g5, off, none⟩, tc, tasks⟩ : SetR) := ⟨s0, s1, s2, s3⟩
            try clear hO0
            clear s0 s1 s2 s3 s4 H' hg1 hgn
            go_wp2_with fail
            go_loopg [9] t.parts.length (fun g2 j wr => ∃ k : Nat, k + g2 = t.parts.length ∧ j = .int .i64 k ∧ SetCells wr w.heap.size ⟨proto, some ⟨gc, oc, none⟩, cc, cores, ha, hc, homes, some ⟨g5, off, none⟩, tc, tasks⟩ ∧ (wr.cell? ⟨u3.heap.size, 0, none⟩ = some (.int .i64 proto) ∧ wr.cell? ⟨u3.heap.size, 1, none⟩ = some (.slice (some ⟨g, 0, none⟩) cores.length c') ∧ wr.cell? ⟨u3.heap.size, 2, none⟩ = some (.slice ha homes.length hc) ∧ wr.cell? ⟨u3.heap.size, 3, none⟩ = some (.slice (some ⟨g5, off, none⟩) tasks.length tc)) ∧ IntsOk wr (some ⟨g, 0, none⟩) c' cs ∧ Below w.heap.size w wr)
            case atStart => exact ⟨0, by omega, rfl, sc, TB, cok, hb⟩
            case round =>
              clear sc TB cok hb
              obtain ⟨j, hj, rfl, sc, TB, cok, hb⟩ := hrel
              obtain ⟨sc_0, sc_1, sc_2, sc_3⟩ := id sc
              dsimp only at sc_0 sc_1 sc_2 sc_3
              have d5 := (Htc.out.keep (Keeps.of_below hb)).2.2.2.2.2
              rw [HP.out] at d5
              have l6 := hl6.2
              by_cases hlj : j < t.parts.length
              · obtain ⟨q, HQ⟩ : ∃ q, Hid (t.parts.getD j default = q) := ⟨_, rfl⟩
                have Hqc := hidp (HQ.out ▸ Hpc.out j hlj)
                obtain ⟨y1, y2, y3⟩ := Hto.out (some ⟨g, 0, none⟩) c' cs Hcl.out Hcs.out Htt.out i j
                have hpa : partAt (⟨proto, some ⟨gc, oc, none⟩, cc, cores, ha, hc, homes, some ⟨g5, off, none⟩, tc, tasks⟩ : SetR) i j = q := by unfold partAt; simp only [Int.toNat_natCast]; rw [HT.out, HQ.out]
                obtain ⟨J, HJ⟩ : ∃ J, Hid (insV (coresTo (⟨proto, some ⟨gc, oc, none⟩, cc, cores, ha, hc, homes, some ⟨g5, off, none⟩, tc, tasks⟩ : SetR) (some ⟨g, 0, none⟩) c' cs) i j = J) := ⟨_, rfl⟩
                rw [HI.out, HJ.out] at y2
                rw [HK.out] at y1
                rw [HK.out, hpa, HI.out] at y3
                have Y1 := hidp y1
                have Y3 := hidp y3
                clear y1 y3 hpa
                go_wp2_with fail
                have CC := inside_any _ i j _ (HS1.out _ hb)
                rw [HI.out, HK.out] at CC
                refine CC.mono ?_
                rintro e u6 ⟨rfl, hb2⟩
                clear CC
                replace hb := hb.trans (hb2.mono hb.size)
                replace sc := sc.keep (Keeps.of_below hb2)
                replace TB := And.intro (Keeps.of_below hb2 _ _ TB.1) (And.intro (Keeps.of_below hb2 _ _ TB.2.1) (And.intro (Keeps.of_below hb2 _ _ TB.2.2.1) (Keeps.of_below hb2 _ _ TB.2.2.2)))
                replace cok := cok.keep (Keeps.of_below hb2)
                clear hb2
                try clear sc_0 sc_1 sc_2 sc_3
                have scx := sc
                obtain ⟨sc_0, sc_1, sc_2, sc_3⟩ := scx
                try dsimp only at sc_0 sc_1 sc_2 sc_3
                obtain ⟨tb_0, tb_1, tb_2, tb_3⟩ := id TB
                have CT := inside_any (coresTo (⟨proto, some ⟨gc, oc, none⟩, cc, cores, ha, hc, homes, some ⟨g5, off, none⟩, tc, tasks⟩ : SetR) (some ⟨g, 0, none⟩) c' cs) i j _ (Htok.out _ _ _ _ hb cok)
                rw [HJ.out, Y1.out] at CT
                dsimp only [coresTo] at CT
                rw [Hcl.out] at CT
                clear d5
                go_wp2_with fail
                refine CT.mono ?_
                rintro e u7 ⟨rfl, hb2⟩
                replace hb := hb.trans (hb2.mono hb.size)
                replace sc := sc.keep (Keeps.of_below hb2)
                replace TB := And.intro (Keeps.of_below hb2 _ _ TB.1) (And.intro (Keeps.of_below hb2 _ _ TB.2.1) (And.intro (Keeps.of_below hb2 _ _ TB.2.2.1) (Keeps.of_below hb2 _ _ TB.2.2.2)))
                replace cok := cok.keep (Keeps.of_below hb2)
                clear hb2 CT tb_0 tb_1 tb_2 tb_3 sc_0 sc_1 sc_2 sc_3
                obtain ⟨sc_0, sc_1, sc_2, sc_3⟩ := id sc
                dsimp only at sc_0 sc_1 sc_2 sc_3
                have d5 := (Htc.out.keep (Keeps.of_below hb)).2.2.2.2.2
                rw [HP.out] at d5
                obtain ⟨x0, x1', x2⟩ := Hqc.out.keep (Keeps.of_below hb)
                have hnl : ¬ J < I i j := by omega
                by_cases hK : K i j = true
                · have hq := Y3.out hK
                  have hnq : ¬ I i j < q.len := by omega
                  go_wp2
                  go_roundg (t.parts.length - j - 1)
                  case measure => omega
                  case rel => exact ⟨j + 1, by omega, by go_num, sc, TB, cok, hb⟩
                · have hK : K i j = false := by simpa using hK
                  go_wp2
                  go_roundg (t.parts.length - j - 1)
                  case measure => omega
                  case rel => exact ⟨j + 1, by omega, by go_num, sc, TB, cok, hb⟩
              · go_wp2
                go_roundg (tasks.length - i - 1)
                case measure => omega
                case rel => exact ⟨i + 1, by omega, by go_num, sc, TB, cok, hb⟩
          · have hg1 : decide (ka ≤ nc) = false := by simpa using hgn
            go_wp2_with fail
            have s0 := Keeps.drew _ _ _ sc_0
            have s1 := Keeps.drew _ _ _ sc_1
            have s2 := Keeps.drew _ _ _ sc_2
            have s3 := Keeps.drew _ _ _ sc_3
            have s4 := Keeps.drew _ _ _ cb
            have TB := And.intro (Keeps.drew _ _ _ TB.1) (And.intro (Keeps.drew _ _ _ TB.2.1) (And.intro (Keeps.drew _ _ _ TB.2.2.1) (Keeps.drew _ _ _ TB.2.2.2)))
            have cok := cok.keep (Keeps.drew _)
            have hb := hb.drew
            have H' := HS1.out _ hb
            clear sc sc_0 sc_1 sc_2 sc_3 cb d0 d1 d2 d3 d4 d5
            refine wp_region_held_drew (S := fun w' => w'.cell? ⟨w.heap.size, 0, none⟩ = some (.int .i64 proto) ∧ w'.cell? ⟨w.heap.size, 1, none⟩ = some (.slice (some ⟨gc, oc, none⟩) cores.length cc) ∧ w'.cell? ⟨w.heap.size, 2, none⟩ = some (.slice ha homes.length hc) ∧ w'.cell? ⟨w.heap.size, 3, none⟩ = some (.slice (some ⟨g5, off, none⟩) tasks.length tc) ∧ w'.cell? ⟨gc, oc + cn, none⟩ = some (.int .i64 nc)) (by kernel_rfl) ?_ (fun hHeld => ?_)
            · exact ⟨s0, s1, s2, s3, s4⟩
            refine wpAnyH_take (i := 0) (v := ?_) rfl (by kernel_rfl) (by kernel_rfl) (by kernel_rfl) (fun _ _ _ h => h) (Or.inl ⟨by rfl, ?_⟩) (by assumption) ?_
            rotate_left 1
            · ((intro w hSw; (try dsimp only at hSw); go_simp); (try with_reducible rfl))
            simp only [Act.put, List.setIfInBounds_toArray, List.set_cons_zero, List.set_cons_succ, List.getElem_toArray, List.getElem_cons_zero, List.getElem_cons_succ]
            refine wpAnyH_take (i := 1) (v := ?_) rfl (by kernel_rfl) (by kernel_rfl) (by kernel_rfl) (fun _ _ _ h => h) (Or.inl ⟨by rfl, ?_⟩) (by assumption) ?_
            rotate_left 1
            · ((intro w hSw; (try dsimp only at hSw); go_simp); (try with_reducible rfl))
            simp only [Act.put, List.setIfInBounds_toArray, List.set_cons_zero, List.set_cons_succ, List.getElem_toArray, List.getElem_cons_zero, List.getElem_cons_succ]
            refine wpAnyH_take (i := 3) (v := ?_) rfl (by kernel_rfl) (by kernel_rfl) (by kernel_rfl) (fun _ _ _ h => h) (Or.inl ⟨by rfl, ?_⟩) (by assumption) ?_
            rotate_left 1
            · ((intro w hSw; (try dsimp only at hSw); go_simp); (try with_reducible rfl))
            simp only [Act.put, List.setIfInBounds_toArray, List.set_cons_zero, List.set_cons_succ, List.getElem_toArray, List.getElem_cons_zero, List.getElem_cons_succ]
            refine wpAnyH_take (i := 4) (v := ?_) rfl (by kernel_rfl) (by kernel_rfl) (by kernel_rfl) (fun _ _ _ h => h) (Or.inl ⟨by rfl, ?_⟩) (by assumption) ?_
            rotate_left 1
            · ((intro w hSw; (try dsimp only at hSw); go_simp); (try with_reducible rfl))
            simp only [Act.put, List.setIfInBounds_toArray, List.set_cons_zero, List.set_cons_succ, List.getElem_toArray, List.getElem_cons_zero, List.getElem_cons_succ]
            refine wpAnyH_take (i := 5) (v := ?_) rfl (by kernel_rfl) (by kernel_rfl) (by kernel_rfl) (fun _ _ _ h => h) (Or.inl ⟨by rfl, ?_⟩) (by assumption) ?_
            rotate_left 1
            · ((intro w hSw; (try dsimp only at hSw); go_simp); (try with_reducible rfl))
            simp only [Act.put, List.setIfInBounds_toArray, List.set_cons_zero, List.set_cons_succ, List.getElem_toArray, List.getElem_cons_zero, List.getElem_cons_succ]
            refine wpAnyH_take (i := 6) (v := ?_) rfl (by kernel_rfl) (by kernel_rfl) (by kernel_rfl) (fun _ _ _ h => h) (Or.inl ⟨by rfl, ?_⟩) (by assumption) ?_
            rotate_left 1
            · ((intro w hSw; (try dsimp only at hSw); go_simp); (try with_reducible rfl))
            simp only [Act.put, List.setIfInBounds_toArray, List.set_cons_zero, List.set_cons_succ, List.getElem_toArray, List.getElem_cons_zero, List.getElem_cons_succ]
            refine wpAnyH_take (i := 7) (v := ?_) rfl (by kernel_rfl) (by kernel_rfl) (by kernel_rfl) (fun _ _ _ h => h) (Or.inl ⟨by rfl, ?_⟩) (by assumption) ?_
            rotate_left 1
            · ((intro w hSw; (try dsimp only at hSw); go_simp); (try with_reducible rfl))
            simp only [Act.put, List.setIfInBounds_toArray, List.set_cons_zero, List.set_cons_succ, List.getElem_toArray, List.getElem_cons_zero, List.getElem_cons_succ]
            refine wpAnyH_ready (rs := [2]) (by kernel_rfl) (by simp) ?_
            refine AllReadyH.cons rfl (fun K hK => ?_) AllReadyH.nil
            go_simp
            refine (raskers_any _ cn _ H' Ho.out).mono ?_
            rintro e u ⟨rfl, hb3⟩
            rw [HKa.out]
            replace s0 := Keeps.of_below hb3 _ _ s0
            replace s1 := Keeps.of_below hb3 _ _ s1
            replace s2 := Keeps.of_below hb3 _ _ s2
            replace s3 := Keeps.of_below hb3 _ _ s3
            replace s4 := Keeps.of_below hb3 _ _ s4
            replace TB := And.intro (Keeps.of_below hb3 _ _ TB.1) (And.intro (Keeps.of_below hb3 _ _ TB.2.1) (And.intro (Keeps.of_below hb3 _ _ TB.2.2.1) (Keeps.of_below hb3 _ _ TB.2.2.2)))
            replace cok := cok.keep (Keeps.of_below hb3)
            replace H' := H'.keep (Keeps.of_below hb3)
            have hb := hb.trans (hb3.mono hb.size)
            clear hHeld hb3
            go_wp2_with fail
            refine hK.out _ _ ?_ (fun hHeld => ?_)
            · exact ⟨s0, s1, s2, s3, s4⟩
            clear hK K
            try simp only [Act.put, List.setIfInBounds_toArray, List.set_cons_zero, List.set_cons_succ, List.getElem_toArray, List.getElem_cons_zero, List.getElem_cons_succ]
            refine wpAnyH_take (i := 8) (v := ?_) rfl (by kernel_rfl) (by kernel_rfl) (by kernel_rfl) (fun _ _ _ h => h) (Or.inl ⟨by rfl, ?_⟩) (by assumption) ?_
            rotate_left 1
            · ((intro w hSw; (try dsimp only at hSw); go_simp); (try with_reducible rfl))
            simp only [Act.put, List.setIfInBounds_toArray, List.set_cons_zero, List.set_cons_succ, List.getElem_toArray, List.getElem_cons_zero, List.getElem_cons_succ]
            refine wpAnyH_take (i := 9) (v := ?_) rfl (by kernel_rfl) (by kernel_rfl) (by kernel_rfl) (fun _ _ _ h => h) (Or.inl ⟨by rfl, ?_⟩) (by assumption) ?_
            rotate_left 1
            · ((intro w hSw; (try dsimp only at hSw); go_simp); (try with_reducible rfl))
            simp only [Act.put, List.setIfInBounds_toArray, List.set_cons_zero, List.set_cons_succ, List.getElem_toArray, List.getElem_cons_zero, List.getElem_cons_succ]
            refine wpAnyH_take (i := 10) (v := undef) rfl (by kernel_rfl) (by kernel_rfl) (by kernel_rfl) (fun _ _ _ h => h) (Or.inr ⟨by rfl, rfl⟩) (by assumption) ?_
            simp only [Act.put, List.setIfInBounds_toArray, List.set_cons_zero, List.set_cons_succ, List.getElem_toArray, List.getElem_cons_zero, List.getElem_cons_succ]
            refine wpAnyH_take (i := 11) (v := undef) rfl (by kernel_rfl) (by kernel_rfl) (by kernel_rfl) (fun _ _ _ h => h) (Or.inr ⟨by rfl, rfl⟩) (by assumption) ?_
            simp only [Act.put, List.setIfInBounds_toArray, List.set_cons_zero, List.set_cons_succ, List.getElem_toArray, List.getElem_cons_zero, List.getElem_cons_succ]
            refine wpAnyH_take (i := 12) (v := undef) rfl (by kernel_rfl) (by kernel_rfl) (by kernel_rfl) (fun _ _ _ h => h) (Or.inr ⟨by rfl, rfl⟩) (by assumption) ?_
            simp only [Act.put, List.setIfInBounds_toArray, List.set_cons_zero, List.set_cons_succ, List.getElem_toArray, List.getElem_cons_zero, List.getElem_cons_succ]
            refine wpAnyH_take (i := 13) (v := undef) rfl (by kernel_rfl) (by kernel_rfl) (by kernel_rfl) (fun _ _ _ h => h) (Or.inr ⟨by rfl, rfl⟩) (by assumption) ?_
            simp only [Act.put, List.setIfInBounds_toArray, List.set_cons_zero, List.set_cons_succ, List.getElem_toArray, List.getElem_cons_zero, List.getElem_cons_succ]
            refine wpAnyH_take (i := 14) (v := ?_) rfl (by kernel_rfl) (by kernel_rfl) (by kernel_rfl) (fun _ _ _ h => h) (Or.inl ⟨by rfl, ?_⟩) (by assumption) ?_
            rotate_left 1
            · ((intro w hSw; (try dsimp only at hSw); go_simp); (try with_reducible rfl))
            simp only [Act.put, List.setIfInBounds_toArray, List.set_cons_zero, List.set_cons_succ, List.getElem_toArray, List.getElem_cons_zero, List.getElem_cons_succ]
            refine wpAnyH_done (by kernel_rfl) ?_ _
            clear hHeld
            have sc : SetCells _ w.heap.size (⟨proto, some ⟨gc, oc, none⟩, cc, cores, ha, hc, homes, some ⟨g5, off, none⟩, tc, tasks⟩ : SetR) := ⟨s0, s1, s2, s3⟩
            try clear hO0
            clear s0 s1 s2 s3 s4 H' hg1 hgn
            go_wp2_with fail
            go_loopg [9] t.parts.length (fun g2 j wr => ∃ k : Nat, k + g2 = t.parts.length ∧ j = .int .i64 k ∧ SetCells wr w.heap.size ⟨proto, some ⟨gc, oc, none⟩, cc, cores, ha, hc, homes, some ⟨g5, off, none⟩, tc, tasks⟩ ∧ (wr.cell? ⟨u3.heap.size, 0, none⟩ = some (.int .i64 proto) ∧ wr.cell? ⟨u3.heap.size, 1, none⟩ = some (.slice (some ⟨g, 0, none⟩) cores.length c') ∧ wr.cell? ⟨u3.heap.size, 2, none⟩ = some (.slice ha homes.length hc) ∧ wr.cell? ⟨u3.heap.size, 3, none⟩ = some (.slice (some ⟨g5, off, none⟩) tasks.length tc)) ∧ IntsOk wr (some ⟨g, 0, none⟩) c' cs ∧ Below w.heap.size w wr)
            case atStart => exact ⟨0, by omega, rfl, sc, TB, cok, hb⟩
            case round =>
              clear sc TB cok hb
              obtain ⟨j, hj, rfl, sc, TB, cok, hb⟩ := hrel
              obtain ⟨sc_0, sc_1, sc_2, sc_3⟩ := id sc
              dsimp only at sc_0 sc_1 sc_2 sc_3
              have d5 := (Htc.out.keep (Keeps.of_below hb)).2.2.2.2.2
              rw [HP.out] at d5
              have l6 := hl6.2
              by_cases hlj : j < t.parts.length
              · obtain ⟨q, HQ⟩ : ∃ q, Hid (t.parts.getD j default = q) := ⟨_, rfl⟩
                have Hqc := hidp (HQ.out ▸ Hpc.out j hlj)
                obtain ⟨y1, y2, y3⟩ := Hto.out (some ⟨g, 0, none⟩) c' cs Hcl.out Hcs.out Htt.out i j
                have hpa : partAt (⟨proto, some ⟨gc, oc, none⟩, cc, cores, ha, hc, homes, some ⟨g5, off, none⟩, tc, tasks⟩ : SetR) i j = q := by unfold partAt; simp only [Int.toNat_natCast]; rw [HT.out, HQ.out]
                obtain ⟨J, HJ⟩ : ∃ J, Hid (insV (coresTo (⟨proto, some ⟨gc, oc, none⟩, cc, cores, ha, hc, homes, some ⟨g5, off, none⟩, tc, tasks⟩ : SetR) (some ⟨g, 0, none⟩) c' cs) i j = J) := ⟨_, rfl⟩
                rw [HI.out, HJ.out] at y2
                rw [HK.out] at y1
                rw [HK.out, hpa, HI.out] at y3
                have Y1 := hidp y1
                have Y3 := hidp y3
                clear y1 y3 hpa
                go_wp2_with fail
                have CC := inside_any _ i j _ (HS1.out _ hb)
                rw [HI.out, HK.out] at CC
                refine CC.mono ?_
                rintro e u6 ⟨rfl, hb2⟩
                clear CC
                replace hb := hb.trans (hb2.mono hb.size)
                replace sc := sc.keep (Keeps.of_below hb2)
                replace TB := And.intro (Keeps.of_below hb2 _ _ TB.1) (And.intro (Keeps.of_below hb2 _ _ TB.2.1) (And.intro (Keeps.of_below hb2 _ _ TB.2.2.1) (Keeps.of_below hb2 _ _ TB.2.2.2)))
                replace cok := cok.keep (Keeps.of_below hb2)
                clear hb2
                try clear sc_0 sc_1 sc_2 sc_3
                have scx := sc
                obtain ⟨sc_0, sc_1, sc_2, sc_3⟩ := scx
                try dsimp only at sc_0 sc_1 sc_2 sc_3
                obtain ⟨tb_0, tb_1, tb_2, tb_3⟩ := id TB
                have CT := inside_any (coresTo (⟨proto, some ⟨gc, oc, none⟩, cc, cores, ha, hc, homes, some ⟨g5, off, none⟩, tc, tasks⟩ : SetR) (some ⟨g, 0, none⟩) c' cs) i j _ (Htok.out _ _ _ _ hb cok)
                rw [HJ.out, Y1.out] at CT
                dsimp only [coresTo] at CT
                rw [Hcl.out] at CT
                clear d5
                go_wp2_with fail
                refine CT.mono ?_
                rintro e u7 ⟨rfl, hb2⟩
                replace hb := hb.trans (hb2.mono hb.size)
                replace sc := sc.keep (Keeps.of_below hb2)
                replace TB := And.intro (Keeps.of_below hb2 _ _ TB.1) (And.intro (Keeps.of_below hb2 _ _ TB.2.1) (And.intro (Keeps.of_below hb2 _ _ TB.2.2.1) (Keeps.of_below hb2 _ _ TB.2.2.2)))
                replace cok := cok.keep (Keeps.of_below hb2)
                clear hb2 CT tb_0 tb_1 tb_2 tb_3 sc_0 sc_1 sc_2 sc_3
                obtain ⟨sc_0, sc_1, sc_2, sc_3⟩ := id sc
                dsimp only at sc_0 sc_1 sc_2 sc_3
                have d5 := (Htc.out.keep (Keeps.of_below hb)).2.2.2.2.2
                rw [HP.out] at d5
                obtain ⟨x0, x1', x2⟩ := Hqc.out.keep (Keeps.of_below hb)
                have hnl : ¬ J < I i j := by omega
                by_cases hK : K i j = true
                · have hq := Y3.out hK
                  have hnq : ¬ I i j < q.len := by omega
                  go_wp2
                  go_roundg (t.parts.length - j - 1)
                  case measure => omega
                  case rel => exact ⟨j + 1, by omega, by go_num, sc, TB, cok, hb⟩
                · have hK : K i j = false := by simpa using hK
                  go_wp2
                  go_roundg (t.parts.length - j - 1)
                  case measure => omega
                  case rel => exact ⟨j + 1, by omega, by go_num, sc, TB, cok, hb⟩
              · go_wp2
                go_roundg (tasks.length - i - 1)
                case measure => omega
                case rel => exact ⟨i + 1, by omega, by go_num, sc, TB, cok, hb⟩
        · go_wp2
          go_ret
          exact ⟨rfl, hb⟩
  · have Hth : Hid (thereB s0 0 = false) := hidp (by simpa using eth)
    clear eth
    go_enter Try.func10, Try.ntmps10
    go_wp2_with fail
    refine (known15_any _).mono ?_
    rintro e u1 ⟨rfl, hb2⟩
    replace hb := hb.trans (hb2.mono hb.size)
    replace sc := sc.keep (Keeps.of_below hb2)
    replace hs := hs.keep (Keeps.of_below hb2)
    clear hb2
    try clear sc_0 sc_1 sc_2 sc_3
    have scx := sc
    obtain ⟨sc_0, sc_1, sc_2, sc_3⟩ := scx
    try dsimp only at sc_0 sc_1 sc_2 sc_3
    go_wp2_with fail
    refine (few15_any s0 _ hs).mono ?_
    rintro e u2 ⟨⟨b, rfl⟩, hb2⟩
    replace hb := hb.trans (hb2.mono hb.size)
    replace sc := sc.keep (Keeps.of_below hb2)
    replace hs := hs.keep (Keeps.of_below hb2)
    clear hb2
    try clear sc_0 sc_1 sc_2 sc_3
    have scx := sc
    obtain ⟨sc_0, sc_1, sc_2, sc_3⟩ := scx
    try dsimp only at sc_0 sc_1 sc_2 sc_3
    cases b
    · go_wp2_with fail
      go_ret
      exact ⟨rfl, hb⟩
    · go_wp2_with fail
      refine (rthere_any s0 0 _ hs).mono ?_
      rintro e u3 ⟨rfl, hb2⟩
      replace hb := hb.trans (hb2.mono hb.size)
      replace sc := sc.keep (Keeps.of_below hb2)
      clear hb2
      try clear sc_0 sc_1 sc_2 sc_3
      have scx := sc
      obtain ⟨sc_0, sc_1, sc_2, sc_3⟩ := scx
      try dsimp only at sc_0 sc_1 sc_2 sc_3
      rw [Hth.out]
      go_wp2_with fail
      go_ret
      exact ⟨rfl, hb⟩

theorem own : ownKnob Try.prog.godebug = none := by kernel_rfl
theorem laidOut : laidOutB Try.prog = true := by kernel_rfl

/-! THE ROW's STEP -/
set_option maxRecDepth 100000 in
theorem lifted (os : Os) (started : os.Started) (H : Type) (enc : TypeId × Value → H) :
    ReturnsInHanded {} Try.checked os 10 .any (Rows.tokenCoresSpec.pre6 enc Try.prog Try.f10 Rows.tokenCoresRow.domain false) (Rows.tokenCoresSpec.post enc Try.prog Try.f10 false true false false) := by
  refine returnsInHanded_of_change (C := Try.checked) own started (by kernel_rfl) Try.func10
    (ChangeSpec.witness6 (enc := enc) (C := Try.checked) false ⟨#[], #[.agg #[.int .i64 0, .slice none 0 0, .slice none 0 0, .slice none 0 0], .int .u8 0], []⟩ 8 (by kernel_rfl) (by kernel_rfl) (by kernel_rfl) (by kernel_rfl)) ?_
  intro W base args ds gs before hval0 hW hcnd _
  have hval : ∀ (j : Nat) t v, Try.f10.params[j]? = some t → args[j]? = some v → Value.okWide Try.prog W .any base t v := hval0
  have hW' := hW
  obtain ⟨p, q, hA0, hV, rfl, hfz, hnd⟩ := hW
  have hA : DataW.TrodAll enc Try.prog W 0 (fun _ => true) true Try.f10.params.toList args.toList ds p := hA0
  rw [Try.params10] at hA hval
  obtain ⟨v0, vs0, d0, ds0, p0, q0, hargs, rfl, rfl, h0, r0⟩ := trodAll_cons hA
  obtain ⟨v1, vs1, d1, ds1, p1, q1, rfl, rfl, rfl, h1, r1⟩ := trodAll_cons r0
  obtain ⟨rfl, rfl, rfl⟩ := trodAll_nil r1
  obtain rfl : args = #[v0, v1] := by cases args; simp_all
  obtain ⟨rfl, rfl⟩ := trodVars_none hV
  have k0 := h0
  have lt0 : ∀ x ∈ p0, x.block < W.heap.size := by obtain ⟨m, hm⟩ := k0; exact DataW.trod_lt m _ _ _ hm
  obtain ⟨s0, w0, rfl⟩ := setTypes.arg_set (hval 0 26 v0 rfl rfl) h0
  obtain ⟨a1, rfl, rfl, rfl, w1⟩ := open_int Try.underlying5 (hval 1 5 v1 rfl rfl) h1
  clear hA0 hval0
  refine (walk s0 a1 W w0 w1).mono fun e W' ⟨he, bel⟩ => ?_
  subst he
  exact ⟨_, rfl, _, _, _, [], _, [], hW', trodAll_mk1 (shut_bool Try.underlying4 _), (trodAll_cons_mk (Below.trod laidOut (by kernel_rfl) (of_decide_eq_true (by kernel_rfl)) k0 bel lt0) (trodAll_cons_mk (shut_int Try.underlying5 w1) trodAll_mk0)), rfl, bel.frame _, fun h => by cases h⟩

theorem over : Rows.tokenCoresRow.holds Try.pinned (OpenSpec.ofChange Rows.tokenCoresSpec) :=
  OpenClaim.holds_of_wide 10 Try.f10 rfl rfl rfl rfl rfl rfl rfl ⟨rfl, rfl, rfl, rfl, rfl⟩ rfl rfl rfl rfl rfl (by kernel_rfl) Try.func10 (by kernel_rfl)
    (of_decide_eq_true (by kernel_rfl)) (by unfold Func.isWrapper; first | (rw [if_pos (by decide +kernel)]; kernel_rfl) | (rw [if_neg (by decide +kernel)]; exact ⟨rfl, rfl⟩))
    (fun os started H enc _ => lifted os started H enc)

/-- THE STATEMENT -/
theorem proved : Rows.TokenCoresSaid := over
#print axioms proved
end Go.Proofs.Ytbjcoeipdnakkaa.tokenCores

