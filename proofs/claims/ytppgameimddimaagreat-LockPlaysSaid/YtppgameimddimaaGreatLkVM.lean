/- lock: the locks of a law: made by it, in a block of their own. -/
import Derived.Test.YtppgameimddimaaGreatSoundM
import Derived.Test.YtppgameimddimaaGreatRlPM
import Derived.Test.YtppgameimddimaaGreatRlWM
import Derived.Test.YtppgameimddimaaGreatLkLh
import Derived.Conc.SmallLaws
import Derived.Sort.OwnSortedInts
namespace Go.Proofs.YtppgameimddimaaGreat
open Go.ChangeShapes Go.WideShapes Go.ChangeAt Go.RowKit Go.Conc
set_option linter.unusedVariables false
set_option linter.unusedSimpArgs false
theorem infoKeyV : (Tryz.prog.info? 85).map (fun i => (i.zero, i.size, i.bytes)) = some (some (.agg #[]), 0, 0) := by kernel_rfl
theorem make_key (w : World) : (Instr.makeChan 86 (.int .i64 1)).run Tryz.prog w = .ok (.chan (some w.heap.size)) (w.alloc (.chan 1 #[] false 0 0 false)) := by
  obtain ⟨i, hi, hz, hs, hb⟩ := info_parts infoKeyV
  simpa using run_makeChan (P := Tryz.prog) (w := w) Tryz.underlying86 hi .i64 1 (by omega) (by rw [hb]; omega)
theorem key_new (w : World) (o : Obj) : (w.alloc o).heap[w.heap.size]? = some o := by
  show (w.heap.push o)[w.heap.size]? = some o
  simp
def NewKey (w : World) (e : Ending) (w' : World) : Prop := e = .returned (.chan (some w.heap.size)) ∧ KeyOk w' w.heap.size true ∧ Below w.heap.size w w' ∧ w'.heap.size = w.heap.size + 1
theorem newKey_any (w : World) : Calls Tryz.prog 56 #[] w (NewKey w) := by
  have hmc := make_key
  have hg : (w.alloc (.chan 1 #[] false 0 0 false)).heap[w.heap.size]? = some (.chan 1 #[] false 0 0 false) := key_new w _
  go_enter Tryz.func56, Tryz.ntmps56
  go_upto_region 2 with fail
  refine wpS_region [0, 1, 2] (by rfl) ?_
  refine wpS_quick (v := ?_) rfl rfl ?_ ?_
  rotate_left 1
  · (go_simp; (try with_reducible rfl))
  simp only [Act.put, List.setIfInBounds_toArray, List.set_cons_zero, List.set_cons_succ, List.getElem_toArray, List.getElem_cons_zero, List.getElem_cons_succ]
  refine wpS_quick (v := ?_) rfl rfl ?_ ?_
  rotate_left 1
  · (go_simp; (try with_reducible rfl))
  simp only [Act.put, List.setIfInBounds_toArray, List.set_cons_zero, List.set_cons_succ, List.getElem_toArray, List.getElem_cons_zero, List.getElem_cons_succ]
  refine wpS_send (w1 := w.alloc (.chan 1 #[] false 0 0 false)) (c := w.heap.size) (v := .agg #[]) (z' := .tuple #[]) (cap := 1) (buf := #[]) (s := 0) (r := 0) (tm := false) rfl rfl (by simp [go_sem, execOp, scase, Act.eval]) hg (by decide) ?_
  refine wpS_done ?_
  go_wp2_with fail
  go_ret
  have hb := (Below.refl w.heap.size w).alloc (Nat.le_refl _) (.chan 1 #[] false 0 0 false)
  have ht : Turned [w.heap.size] (w.alloc (.chan 1 #[] false 0 0 false)) ((w.alloc (.chan 1 #[] false 0 0 false)).setChan w.heap.size 1 #[.agg #[]] false 1 0 false) := (Turned.refl _ _).setChan (.inl (by simp)) _ _ _ _ _ _
  have hlt : w.heap.size < (w.alloc (.chan 1 #[] false 0 0 false)).heap.size := by simp
  exact ⟨rfl, ⟨1, 0, by simp [World.setChan]⟩, hb.trans (ht.below (by simp) (by simp)), by simp [World.setChan]⟩
end Go.Proofs.YtppgameimddimaaGreat

namespace Go.Proofs.YtppgameimddimaaGreat
open Go.ChangeShapes Go.WideShapes Go.ChangeAt Go.RowKit Go.Conc
set_option linter.unusedVariables false
set_option linter.unusedSimpArgs false
theorem infoKeyT : (Tryz.prog.info? 86).map (fun i => (i.zero, i.size, i.bytes)) = some (some (.chan none), 1, 8) := by kernel_rfl
theorem keyV_len (ks : List Nat) : (keyV ks).length = ks.length := by simp [keyV]
theorem keyV_one (ks : List Nat) : ∀ u ∈ keyV ks, u.oneCell' = true := fun u hu => by obtain ⟨c, _, rfl⟩ := List.mem_map.1 hu; rfl
/-- a row of keys that begins at a block from B on, all free, each from block B0 on, none where the row lies -/
structure KRow (B B0 : Nat) (w : World) (A : Option Addr) (n c : Nat) (ks : List Nat) : Prop where
  own : w.ownsRow B 86 1 (.slice A n c) n (keyV ks)
  len : n = ks.length
  cap : n ≤ c ∧ c ≤ maxLen
  nil : A = none → n = 0 ∧ c = 0
  keys : ∀ k ∈ ks, KeyOk w k true ∧ B0 ≤ k ∧ k ∉ fp A
theorem KRow.empty (B B0 : Nat) (w : World) : KRow B B0 w none 0 0 [] := ⟨World.ownsRow_nil _ _ _ _, rfl, by decide, fun _ => ⟨rfl, rfl⟩, by simp⟩
theorem KRow.turned {B B0 : Nat} {F : List Nat} {w w' : World} {A : Option Addr} {n c : Nat} {ks : List Nat} (h : KRow B B0 w A n c ks) (ht : Turned F w w') (hF : ∀ k ∈ fp A, k ∉ F) (hk : ∀ k ∈ ks, k ∉ F) : KRow B B0 w' A n c ks :=
  ⟨own_turned h.own ht hF, h.len, h.cap, h.nil, fun k hm => ⟨(h.keys k hm).1.turned ht (hk k hm), (h.keys k hm).2⟩⟩
theorem KRow.over {B B0 : Nat} {w w' : World} {A : Option Addr} {n c : Nat} {ks : List Nat} (h : KRow B B0 w A n c ks) (hb : Below w.heap.size w w') : KRow B B0 w' A n c ks := h.turned (Turned.of_below hb []) (by simp) (by simp)
/-- one key more: k is a key that is there already -/
theorem KRow.app {B B0 : Nat} {w w2 : World} {A A' : Option Addr} {n c c' k : Nat} {ks : List Nat} (h : KRow B B0 w A n c ks) (ha : App B 86 1 w A A' (n + 1) c' (keyV ks ++ [.chan (some k)]) w2) (hk : KeyOk w k true) (hB : B0 ≤ k) (hkA : k ∉ fp A) : KRow B B0 w2 A' (n + 1) c' (ks ++ [k]) := by
  have lt : ∀ j, j ∈ ks ++ [k] → KeyOk w j true ∧ B0 ≤ j ∧ j ∉ fp A := fun j hj => by
    rcases List.mem_append.1 hj with h1 | h1
    · exact h.keys j h1
    · simp at h1; subst h1; exact ⟨hk, hB, hkA⟩
  refine ⟨?_, by rw [List.length_append, ← h.len]; rfl, ha.cap, ha.nil, fun j hj => ⟨(lt j hj).1.turned ha.turned (lt j hj).2.2, (lt j hj).2.1, fun hm => ?_⟩⟩
  · have e : keyV (ks ++ [k]) = keyV ks ++ [.chan (some k)] := by simp [keyV]
    rw [e]; exact ha.own
  · rcases ha.fps j hm with h1 | h1
    · exact (lt j hj).2.2 h1
    · have := (lt j hj).1.lt; omega
theorem KRow.at_ {B B0 : Nat} {w : World} {A : Option Addr} {n c : Nat} {ks : List Nat} (h : KRow B B0 w A n c ks) {i : Nat} (hi : i < ks.length) : ∃ g, A = some ⟨g, 0, none⟩ ∧ w.cell? ⟨g, i, none⟩ = some (.chan (some (ks.getD i 0))) := by
  obtain ⟨g, hg, _, _⟩ := ownE_at h.own (by have := h.len; omega)
  refine ⟨g, hg, ?_⟩
  have hu := h.own
  rw [hg] at hu
  rcases Lies.of_own hu with h1 | ⟨b', off, e, _, hcc⟩
  · have := congrArg List.length h1
    rw [keyV_len, List.length_nil] at this
    omega
  · injection e with e
    injection e with e1 e2
    subst e1; subst e2
    have := hcc i (.chan (some (ks.getD i 0))) (by simp [keyV, List.getD, hi])
    simpa using this
end Go.Proofs.YtppgameimddimaaGreat

namespace Go.Proofs.YtppgameimddimaaGreat
open Go.ChangeShapes Go.WideShapes Go.ChangeAt Go.RowKit Go.Conc
set_option linter.unusedVariables false
set_option linter.unusedSimpArgs false
/-- which keys are one -/
def KeysAre (proto : Int) (homes : List Int) (ks : List Nat) (j : Nat) : Prop := ks.length = j ∧ ∀ r q, r < j → q < j → (ks.getD r 0 = ks.getD q 0 ↔ r = q ∨ (proto = 2 ∧ homes.getD r 0 = homes.getD q 0))
def KeysP (w : World) (s : SetR) (e : Ending) (w' : World) : Prop := ∃ A n c ks, e = .returned (.slice A n c) ∧ KRow w.heap.size w.heap.size w' A n c ks ∧ KeysAre s.proto s.homes ks s.homes.length ∧ Below w.heap.size w w'
theorem nodup_getD {ks : List Nat} (h : ks.Nodup) {r q : Nat} (hr : r < ks.length) (hq : q < ks.length) : ks.getD r 0 = ks.getD q 0 ↔ r = q := by
  have e1 : ks.getD r 0 = ks[r] := by simp [List.getD, hr]
  have e2 : ks.getD q 0 = ks[q] := by simp [List.getD, hq]
  rw [e1, e2]
  refine ⟨fun h2 => ?_, fun h2 => by subst h2; rfl⟩
  have hh := List.pairwise_iff_getElem.1 h
  rcases Nat.lt_trichotomy r q with h3 | h3 | h3
  · exact absurd h2 (hh r q hr hq h3)
  · exact h3
  · exact absurd h2.symm (hh q r hq hr h3)
theorem KeysAre.app {p : Int} {hs : List Int} {ks : List Nat} {j : Nat} (h : KeysAre p hs ks j) {k : Nat} (hk : ∀ r, r < j → (ks.getD r 0 = k ↔ p = 2 ∧ hs.getD r 0 = hs.getD j 0)) : KeysAre p hs (ks ++ [k]) (j + 1) := by
  obtain ⟨hl, h2⟩ := h
  have e1 : ∀ r, r < j → (ks ++ [k]).getD r 0 = ks.getD r 0 := fun r hr => by simp [List.getD, List.getElem?_append_left (show r < ks.length by omega)]
  have e2 : (ks ++ [k]).getD j 0 = k := by simp [List.getD, ← hl]
  refine ⟨by simp [hl], fun r q hr hq => ?_⟩
  rcases Nat.lt_succ_iff_lt_or_eq.1 hr with hr | rfl <;> rcases Nat.lt_succ_iff_lt_or_eq.1 hq with hq | rfl
  · rw [e1 r hr, e1 q hq]; exact h2 r q hr hq
  · rw [e1 r hr, e2, hk r hr]
    exact ⟨.inr, fun hx => hx.resolve_left (by omega)⟩
  · rw [e1 q hq, e2, eq_comm, hk q hq]
    refine ⟨fun hx => .inr ⟨hx.1, hx.2.symm⟩, fun hx => ?_⟩
    have := hx.resolve_left (by omega)
    exact ⟨this.1, this.2.symm⟩
  · simp
theorem KeysAre.new {p : Int} {hs : List Int} {ks : List Nat} {j : Nat} (h : KeysAre p hs ks j) (hp : p ≠ 2) {k : Nat} (hk : k ∉ ks) : KeysAre p hs (ks ++ [k]) (j + 1) := h.app fun r hr => by
  refine ⟨fun e => absurd ?_ hk, fun e => absurd e.1 hp⟩
  have hrl : r < ks.length := by rw [h.1]; exact hr
  have : ks.getD r 0 = ks[r] := by simp [List.getD, hrl]
  rw [← e, this]
  exact List.getElem_mem _
theorem key_turned {B k n c' : Nat} {wr v w5 : World} {A A' : Option Addr} {xs : List Value} (hb : Below wr.heap.size wr v) (happ : App B 86 1 (v.alloc (.cells #[.chan (some k)] 86)) A A' n c' xs w5) : Turned (fp A) wr w5 :=
  ((Turned.of_below hb (fp A)).alloc (.cells #[.chan (some k)] 86)).trans happ.turned fun i hi => .inl hi
theorem KRow.step {B B0 n c c' k : Nat} {wr v w5 : World} {A A' : Option Addr} {ks : List Nat} (row : KRow B B0 wr A n c ks) (hb : Below wr.heap.size wr v) (hk : KeyOk v k true) (hB : B0 ≤ k) (hkA : k ∉ fp A) (happ : App B 86 1 (v.alloc (.cells #[.chan (some k)] 86)) A A' (n + 1) c' (keyV ks ++ [.chan (some k)]) w5) : KRow B B0 w5 A' (n + 1) c' (ks ++ [k]) := by
  have h1 := (row.over hb).over ((Below.refl v.heap.size v).alloc (Nat.le_refl _) (.cells #[.chan (some k)] 86))
  exact h1.app happ (hk.turned ((Turned.refl [] v).alloc _) (by simp)) hB hkA
def boxS (s : SetR) : Array Value := #[.int .i64 s.proto, .slice s.ca s.cores.length s.cc, .slice s.ha s.homes.length s.hc, .slice s.ta s.tasks.length s.tc]
set_option maxHeartbeats 4000000 in
set_option maxRecDepth 100000 in
theorem keys_any {w : World} (s : SetR) (hs : SetOk w s) (hc3 : s.cores.length ≤ 3) (hh4 : s.homes.length ≤ 4) (hho : ∀ h ∈ s.homes, 0 ≤ h ∧ h < (s.cores.length : Int)) : Calls Tryz.prog 29 #[.agg #[.int .i64 s.proto, .slice s.ca s.cores.length s.cc, .slice s.ha s.homes.length s.hc, .slice s.ta s.tasks.length s.tc]] w fun e w' => KeysP w s e w' := by
  have HHO := hidp hho
  have hb0 := (Below.refl w.heap.size w).alloc (Nat.le_refl _) (.cells #[.int .i64 s.proto, .slice s.ca s.cores.length s.cc, .slice s.ha s.homes.length s.hc, .slice s.ta s.tasks.length s.tc] 25)
  have HB0 := hidp hb0
  have HBK := hidp (Bk.new w 25 #[.int .i64 s.proto, .slice s.ca s.cores.length s.cc, .slice s.ha s.homes.length s.hc, .slice s.ta s.tasks.length s.tc])
  have HS := hidp hs
  have hz : (w.alloc (.cells #[.int .i64 s.proto, .slice s.ca s.cores.length s.cc, .slice s.ha s.homes.length s.hc, .slice s.ta s.tasks.length s.tc] 25)).heap.size = w.heap.size + 1 := by simp
  have HZ := hidp hz
  obtain ⟨i0, hi0, hz0, hz1, hz2⟩ := info_parts infoKeyT
  clear hs hho hb0 hz
  obtain ⟨B, HB⟩ : ∃ B, Hid (B = w.heap.size + 1) := ⟨_, hidp rfl⟩
  have HKe : Hid (∀ (ks : List Nat) (B2 : Nat) (h2 : w.heap.size ≤ B2) (h : KeysAre s.proto s.homes ks s.homes.length) (A : Option Addr) (n c : Nat) (v : World), KRow B2 B v A n c ks → Below w.heap.size w v → KeysP w s (.returned (.slice A n c)) v) := hidp fun ks B2 h2 h A n c v hr hbv => ⟨A, n, c, ks, rfl, ⟨own_base hr.own (fun k hk => by have := (own_fp hr.own k (by cases A <;> simp [Value.ownBlock, fp] at hk ⊢; exact hk.symm)).1; omega), hr.len, hr.cap, hr.nil, fun k hk => ⟨(hr.keys k hk).1, by have := (hr.keys k hk).2.1; have := HB.out; omega, (hr.keys k hk).2.2⟩⟩, h, hbv⟩
  obtain ⟨proto, ca, cc, cores, ha, hcc, homes, ta, tc, tasks⟩ := s
  dsimp only at *
  go_enter Tryz.func29, Tryz.ntmps29
  go_wp2
  go_loopg [3, 10] cores.length (fun g a i wr => ∃ (k : Nat) (A : Option Addr) (c : Nat) (ks : List Nat), k + g = cores.length ∧ i = .int .i64 k ∧ a = .slice A k c ∧ Hid (KRow B B wr A k c ks) ∧ Hid ks.Nodup ∧ Hid (Bk wr w.heap.size 25 #[.int .i64 proto, .slice ca cores.length cc, .slice ha homes.length hcc, .slice ta tasks.length tc]) ∧ Below w.heap.size w wr)
  case atStart => exact ⟨0, none, 0, [], by omega, rfl, rfl, hidp (KRow.empty _ _ _), hidp List.nodup_nil, HBK, HB0.out⟩
  case round =>
    obtain ⟨k, A, c, ks, hk, rfl, rfl, R, N, BK, hbw⟩ := hrel
    by_cases hlt : k < cores.length
    · have K1 : ∀ kk, Hid (∀ u ∈ [Value.chan (some kk)], u.oneCell' = true) := fun kk => hidp (by simp; rfl)
      have K5 : Hid (k + 1 ≤ maxLen) := hidp (by unfold maxLen; omega)
      have K6 : Hid ((k + 1) * 8 ≤ 140737488355328) := hidp (by omega)
      have HBW := hidp hbw
      have H5 := BK.out.lt
      have hlw : Hid (B ≤ wr.heap.size) := hidp (by have := HB.out; omega)
      clear hbw H5
      go_wp2_with fail
      refine (newKey_any wr).mono ?_
      rintro e v ⟨rfl, hkv, hbv, hszv⟩
      have HKV := hidp hkv
      have HBV := hidp hbv
      have hown2 := (R.out.over hbv).own.alloc (.cells #[.chan (some wr.heap.size)] 86)
      have L1 := hidp (Lies.new1 v (.chan (some wr.heap.size)) 86)
      have Hsz : Hid (B ≤ (v.alloc (.cells #[.chan (some wr.heap.size)] 86)).heap.size) := hidp (by have := hlw.out; have := hbv.size; simp; omega)
      clear hkv hbv hszv
      go_wp2_with (at_builtin; refine wpList_app2 _ rfl (.tmp 12) (.tmp 14) 61 rfl B 86 i0 (.chan none) 1 8 Tryz.underlying61 hi0 hz0 hz1 hz2 rfl (by decide) A k c _ rfl hown2 _ _ 1 1 [.chan (some wr.heap.size)] rfl (by simp) rfl L1.out (K1 _).out K5.out K6.out Hsz.out ?_; intro A' c' w5 happ)
      have hltk : ∀ j ∈ fp A, B ≤ j ∧ j < wr.heap.size := fun j hj => own_fp R.out.own j hj
      have htt := key_turned HBV.out happ
      have hnA : w.heap.size ∉ fp A := fun hm => by have := hltk _ hm; have := HB.out; omega
      have q1 := hidp (R.out.step HBV.out HKV.out hlw.out (fun hm => by have := hltk _ hm; omega) happ)
      have q2 : Hid (ks ++ [wr.heap.size]).Nodup := hidp (by
        rw [List.nodup_append]
        refine ⟨N.out, by simp, fun x hx y hy e => ?_⟩
        simp at hy
        have := (R.out.keys x hx).1.lt
        omega)
      have q3 := hidp (BK.out.turned htt hnA)
      have q4 := HBW.out.trans (htt.below HBW.out.size (fun i hi => by have := hltk i hi; have := HB.out; omega))
      clear hltk htt hnA happ hown2 HBV HKV
      go_roundg (gk - 1)
      case measure => omega
      case rel => exact ⟨k + 1, A', c', ks ++ [wr.heap.size], by omega, by go_num, rfl, q1, q2, q3, q4⟩
    · obtain rfl : k = cores.length := by omega
      have RA := R
      have c2 : wr.cell? ⟨w.heap.size, 2, none⟩ = some (.slice ha homes.length hcc) := by simpa using BK.out.cell 2
      have HR := hidp HS.out.homes.at_
      obtain ⟨B2, HB2⟩ : ∃ B2, Hid (B2 = wr.heap.size) := ⟨_, hidp rfl⟩
      have hB2 : Hid (B ≤ B2) := hidp (by have := BK.out.lt; have := HB.out; have := HB2.out; omega)
      have HBW0 := hidp hbw
      clear hbw
      go_wp2
      by_cases hp : proto = 2
      · have HP := hidp hp
        go_loopg [4, 20] homes.length (fun g a i wr => ∃ (j : Nat) (A2 : Option Addr) (c2 : Nat) (kt : List Nat), j + g = homes.length ∧ i = .int .i64 j ∧ a = .slice A2 j c2 ∧ Hid (KRow B2 B wr A2 j c2 kt) ∧ Hid (kt.length = j ∧ ∀ r, r < j → kt.getD r 0 = ks.getD (homes.getD r 0).toNat 0) ∧ Hid (Bk wr w.heap.size 25 #[.int .i64 proto, .slice ca cores.length cc, .slice ha homes.length hcc, .slice ta tasks.length tc]) ∧ Hid (KRow B B wr A cores.length c ks) ∧ Hid (B2 ≤ wr.heap.size) ∧ Below w.heap.size w wr)
        case atStart => exact ⟨0, none, 0, [], by omega, rfl, rfl, hidp (KRow.empty _ _ _), hidp ⟨rfl, fun r hr => absurd hr (by omega)⟩, BK, RA, hidp (by have := HB2.out; omega), HBW0.out⟩
        case round =>
          obtain ⟨j, A2, c2', kt, hj, rfl, rfl, R2, KT, BK2, RA2, hB2u, hbu⟩ := hrel
          by_cases hlj : j < homes.length
          · obtain ⟨g', off, hA, hcl⟩ := HR.out.resolve_left (by intro e; rw [e] at hlj; simp at hlj)
            subst hA
            have hin := HHO.out (homes.getD j 0) (by simp [List.getD, hlj])
            obtain ⟨x, HX⟩ : ∃ x : Nat, Hid (homes.getD j 0 = (x : Int)) := ⟨(homes.getD j 0).toNat, hidp (by omega)⟩
            have hx : x < cores.length := by have := HX.out; omega
            have ch := Keeps.of_below hbu _ _ (HX.out ▸ hcl j hlj)
            obtain ⟨gA, hgA, hcA⟩ := RA2.out.at_ (i := x) (by have := RA2.out.len; omega)
            subst hgA
            obtain ⟨kx, HK⟩ : ∃ kx, Hid (ks.getD x 0 = kx) := ⟨_, hidp rfl⟩
            rw [HK.out] at hcA
            have hkx : Hid (KeyOk wr kx true ∧ B ≤ kx) := hidp (by
              have hm : kx ∈ ks := by rw [← HK.out]; have := RA2.out.len; simp [List.getD, show x < ks.length by omega]
              exact ⟨(RA2.out.keys kx hm).1, (RA2.out.keys kx hm).2.1⟩)
            have hkl := hkx.out.1.lt
            have hkB : Hid (kx < B2) := hidp (by
              have hm : kx ∈ ks := by rw [← HK.out]; have := RA2.out.len; simp [List.getD, show x < ks.length by omega]
              have := (RA.out.keys kx hm).1.lt
              have := HB2.out
              omega)
            have d3 : decide (homes.length ≤ j) = false := decide_eq_false (by omega)
            have d4 : decide (cores.length ≤ x) = false := decide_eq_false (by omega)
            have c0 : wr.cell? ⟨w.heap.size, 0, none⟩ = some (.int .i64 2) := by have := BK2.out.cell 0; rw [HP.out] at this; simpa using this
            have K1 : Hid (∀ uu ∈ [Value.chan (some kx)], uu.oneCell' = true) := hidp (by simp; rfl)
            have K5 : Hid (j + 1 ≤ maxLen) := hidp (by unfold maxLen; omega)
            have K6 : Hid ((j + 1) * 8 ≤ 140737488355328) := hidp (by omega)
            have HBU := hidp hbu
            have hown2 := R2.out.own.alloc (.cells #[.chan (some kx)] 86)
            have L1 := hidp (Lies.new1 wr (.chan (some kx)) 86)
            have Hsz : Hid (B2 ≤ (wr.alloc (.cells #[.chan (some kx)] 86)).heap.size) := hidp (by have := hB2u.out; simp; omega)
            clear hin hcl hbu hp
            go_wp2_with (at_builtin; refine wpList_app2 _ rfl (.tmp 27) (.tmp 32) 61 rfl B2 86 i0 (.chan none) 1 8 Tryz.underlying61 hi0 hz0 hz1 hz2 rfl (by decide) A2 j c2' _ rfl hown2 _ _ 1 1 [.chan (some kx)] rfl (by simp) rfl L1.out K1.out K5.out K6.out Hsz.out ?_; intro A' c' w5 happ)
            have hltk : ∀ i ∈ fp A2, B2 ≤ i ∧ i < wr.heap.size := fun i hi => own_fp R2.out.own i hi
            have htt := key_turned (Below.refl _ _) happ
            have hlo := own_fp RA.out.own
            have q1 := hidp (R2.out.step (Below.refl _ _) hkx.out.1 hkx.out.2 (fun hm => by have := hltk _ hm; have := hkB.out; omega) happ)
            have q2 : Hid ((kt ++ [kx]).length = j + 1 ∧ ∀ r, r < j + 1 → (kt ++ [kx]).getD r 0 = ks.getD (homes.getD r 0).toNat 0) := hidp (by
              obtain ⟨t1, t2⟩ := KT.out
              refine ⟨by simp [t1], fun r hr => ?_⟩
              rcases Nat.lt_succ_iff_lt_or_eq.1 hr with h1 | rfl
              · rw [← t2 r h1]; simp [List.getD, List.getElem?_append_left (show r < kt.length by omega)]
              · rw [HX.out, Int.toNat_natCast, HK.out]; simp [List.getD, ← t1])
            have q3 := hidp (BK2.out.turned htt (fun hm => by have := hltk _ hm; have := hB2.out; have := HB.out; omega))
            have q5 := hidp (RA2.out.turned htt (fun i hi hm => by have := hltk _ hm; have := hlo i hi; have := HB2.out; omega) (fun i hi hm => by have := hltk _ hm; have := (RA.out.keys i hi).1.lt; have := HB2.out; omega))
            have q4 := HBU.out.trans (htt.below HBU.out.size (fun i hi => by have := hltk i hi; have := hB2.out; have := HB.out; omega))
            have q6 : Hid (B2 ≤ w5.heap.size) := hidp (by have := hB2u.out; have := htt.size; omega)
            clear hltk htt hlo happ hown2
            go_roundg (gk - 1)
            case measure => omega
            case rel => exact ⟨j + 1, A', c', kt ++ [kx], by omega, by go_num, rfl, q1, q2, q3, q5, q6, q4⟩
          · obtain rfl : j = homes.length := by omega
            go_wp2
            go_ret
            refine HKe.out kt B2 (by have := hB2.out; have := HB.out; omega) ⟨KT.out.1, fun r q hr hq => ?_⟩ A2 _ c2' _ R2.out hbu
            rw [KT.out.2 r hr, KT.out.2 q hq]
            have h1 := HHO.out (homes.getD r 0) (by simp [List.getD, hr])
            have h2 := HHO.out (homes.getD q 0) (by simp [List.getD, hq])
            have hl := RA.out.len
            rw [nodup_getD N.out (by omega) (by omega)]
            constructor
            · exact fun e => .inr ⟨HP.out, by omega⟩
            · rintro (rfl | ⟨_, e⟩)
              · rfl
              · rw [e]
      · have HP := hidp hp
        go_loopg [4, 20] homes.length (fun g a i wr => ∃ (j : Nat) (A2 : Option Addr) (c2 : Nat) (kt : List Nat), j + g = homes.length ∧ i = .int .i64 j ∧ a = .slice A2 j c2 ∧ Hid (KRow B2 B wr A2 j c2 kt) ∧ Hid (KeysAre proto homes kt j) ∧ Hid (Bk wr w.heap.size 25 #[.int .i64 proto, .slice ca cores.length cc, .slice ha homes.length hcc, .slice ta tasks.length tc]) ∧ Hid (B2 ≤ wr.heap.size) ∧ Below w.heap.size w wr)
        case atStart => exact ⟨0, none, 0, [], by omega, rfl, rfl, hidp (KRow.empty _ _ _), hidp ⟨rfl, fun r q hr => absurd hr (by omega)⟩, BK, hidp (by have := HB2.out; omega), HBW0.out⟩
        case round =>
          obtain ⟨j, A2, c2', kt, hj, rfl, rfl, R2, KT, BK2, hB2u, hbu⟩ := hrel
          by_cases hlj : j < homes.length
          · obtain ⟨g', off, hA, hcl⟩ := HR.out.resolve_left (by intro e; rw [e] at hlj; simp at hlj)
            subst hA
            obtain ⟨x, HX⟩ : ∃ x, Hid (homes.getD j 0 = x) := ⟨_, hidp rfl⟩
            have ch := Keeps.of_below hbu _ _ (HX.out ▸ hcl j hlj)
            have d3 : decide (homes.length ≤ j) = false := decide_eq_false (by omega)
            have c0 : wr.cell? ⟨w.heap.size, 0, none⟩ = some (.int .i64 proto) := by simpa using BK2.out.cell 0
            have hpd : decide (proto = 2) = false := decide_eq_false hp
            have K1 : ∀ kk, Hid (∀ uu ∈ [Value.chan (some kk)], uu.oneCell' = true) := fun kk => hidp (by simp; rfl)
            have K5 : Hid (j + 1 ≤ maxLen) := hidp (by unfold maxLen; omega)
            have K6 : Hid ((j + 1) * 8 ≤ 140737488355328) := hidp (by omega)
            have HBU := hidp hbu
            clear hcl hbu
            go_wp2_with fail
            refine (newKey_any wr).mono ?_
            rintro e v ⟨rfl, hkv, hbv, hszv⟩
            have HKV := hidp hkv
            have HBV := hidp hbv
            have hown2 := (R2.out.over hbv).own.alloc (.cells #[.chan (some wr.heap.size)] 86)
            have L1 := hidp (Lies.new1 v (.chan (some wr.heap.size)) 86)
            have Hsz : Hid (B2 ≤ (v.alloc (.cells #[.chan (some wr.heap.size)] 86)).heap.size) := hidp (by have := hB2u.out; have := hbv.size; simp; omega)
            clear hkv hbv hszv
            go_wp2_with (at_builtin; refine wpList_app2 _ rfl (.tmp 34) (.tmp 36) 61 rfl B2 86 i0 (.chan none) 1 8 Tryz.underlying61 hi0 hz0 hz1 hz2 rfl (by decide) A2 j c2' _ rfl hown2 _ _ 1 1 [.chan (some wr.heap.size)] rfl (by simp) rfl L1.out (K1 _).out K5.out K6.out Hsz.out ?_; intro A' c' w5 happ)
            have hltk : ∀ i ∈ fp A2, B2 ≤ i ∧ i < wr.heap.size := fun i hi => own_fp R2.out.own i hi
            have htt := key_turned HBV.out happ
            have q1 := hidp (R2.out.step HBV.out HKV.out (by have := hB2.out; have := hB2u.out; omega) (fun hm => by have := hltk _ hm; omega) happ)
            have q2 := hidp (KT.out.new HP.out (k := wr.heap.size) (fun hm => by have := (R2.out.keys _ hm).1.lt; omega))
            have q3 := hidp (BK2.out.turned htt (fun hm => by have := hltk _ hm; have := hB2.out; have := HB.out; omega))
            have q4 := HBU.out.trans (htt.below HBU.out.size (fun i hi => by have := hltk i hi; have := hB2.out; have := HB.out; omega))
            have q6 : Hid (B2 ≤ w5.heap.size) := hidp (by have := hB2u.out; have := htt.size; omega)
            clear hltk htt happ hown2 HBV HKV
            go_roundg (gk - 1)
            case measure => omega
            case rel => exact ⟨j + 1, A', c', kt ++ [wr.heap.size], by omega, by go_num, rfl, q1, q2, q3, q6, q4⟩
          · obtain rfl : j = homes.length := by omega
            go_wp2
            go_ret
            exact HKe.out kt B2 (by have := hB2.out; have := HB.out; omega) KT.out A2 _ c2' _ R2.out hbu
end Go.Proofs.YtppgameimddimaaGreat

namespace Go.Proofs.YtppgameimddimaaGreat
open Go.ChangeShapes Go.WideShapes Go.ChangeAt Go.RowKit Go.Conc
set_option linter.unusedVariables false
set_option linter.unusedSimpArgs false
def LkM.addA (m : LkM) (x : AskM) (A : Option Addr) (c : Nat) : LkM := { m with ask := m.ask ++ [x], Aa := A, ca := c, lab := fun k => if k ∈ fp A then 1 else m.lab k }
def LkM.addD (m : LkM) (d : DrM) (F : List Nat) (A : Option Addr) (c : Nat) : LkM := { m with ds := m.ds ++ [d], Ad := A, cd := c, Fd := fun j => if j = m.ds.length then F else m.Fd j, lab := fun k => if k ∈ F then 6 + m.ds.length else if k ∈ fp A then 4 else m.lab k }
def lab0 (b : Nat) (Ak : Option Addr) (k : Nat) : Nat := if k = b then 0 else if k ∈ fp Ak then 2 else 3
def LkM.new (p : Int) (ks : List Nat) (Ak : Option Addr) (ck b : Nat) : LkM := ⟨p, [], ks, fun _ => true, [], 6, 0, [], 0, none, 0, Ak, ck, none, 0, none, 0, fun _ => [], lab0 b Ak⟩
section
variable {w w' w5 : World} {b o : Nat} {T : TypeId} {cs : Array Value} {m : LkM}
theorem Lk.first {p : Int} {B B0 : Nat} {Ak : Option Addr} {nk ck : Nat} {ks : List Nat} (hb : Bk w b T #[.int .i64 p, .slice none 0 0, .slice Ak nk ck, .slice none 0 0, .int .i64 6, .int .i64 0, .slice none 0 0, .int .i64 0]) (hk : KRow B B0 w Ak nk ck ks) (h1 : b ∉ fp Ak) (h2 : b ∉ ks) :
    Lk w b 0 T #[.int .i64 p, .slice none 0 0, .slice Ak nk ck, .slice none 0 0, .int .i64 6, .int .i64 0, .slice none 0 0, .int .i64 0] (LkM.new p ks Ak ck b) := by
  have hl := hk.len
  subst hl
  refine ⟨hb, rfl, rfl, rfl, rfl, rfl, ⟨hb, rfl, rfl, rfl, ?_, by simp [LkM.new, fp]⟩, OwnK.empty _ _, own_base hk.own (fun k _ => Nat.zero_le _), fun c hc => (hk.keys c hc).1, World.ownsRow_nil _ _ _ _, fun i hi => absurd hi (by simp [LkM.new]), by simp [LkM.new], ?_, by simp [LkM.new, fp], fun k hm => ?_, fun k hm => ?_, by simp [LkM.new, fp], by simp [LkM.new, fp], fun i hi => absurd hi (by simp [LkM.new])⟩
  · exact ⟨World.ownsRow_nil _ _ _ _, rfl, ⟨Nat.le_refl _, Nat.zero_le _⟩, fun _ => ⟨rfl, rfl⟩⟩
  · show lab0 b Ak b = 0
    simp [lab0]
  · show lab0 b Ak k = 2
    have hm : k ∈ fp Ak := hm
    unfold lab0
    rw [if_neg (fun e : k = b => h1 (by rw [← e]; exact hm)), if_pos hm]
  · show lab0 b Ak k = 3
    have hm : k ∈ ks := hm
    unfold lab0
    rw [if_neg (fun e : k = b => h2 (by rw [← e]; exact hm)), if_neg (hk.keys k hm).2.2]
theorem Lk.addA (h : Lk w b o T cs m) {x : AskM} {A' : Option Addr} {c' : Nat} (ha : App 0 72 6 w m.Aa A' (m.ask.length + 1) c' (akc m.ask ++ akc [x]) w5) (hw : x.wf) :
    Lk (w5.setCell ⟨b, o + 1, none⟩ (.slice A' (m.ask.length + 1) c')) b o T (cs.setIfInBounds (o + 1) (.slice A' (m.ask.length + 1) c')) (m.addA x A' c') := by
  have hn : ∀ k, m.lab k ≠ 1 → k < w.heap.size → k ∉ fp A' := fun k h1 h2 hm => by
    rcases ha.fps k hm with h3 | h3
    · exact h1 (h.la k h3)
    · omega
  have hnA : ∀ k, m.lab k ≠ 1 → k ∉ fp m.Aa := fun k h1 h3 => h1 (h.la k h3)
  have hbl := h.blk.lt
  have hb0 := h.lb
  have ht : Turned (b :: fp m.Aa) w (w5.setCell ⟨b, o + 1, none⟩ (.slice A' (m.ask.length + 1) c')) := (ha.turned.mono (fun k hk => .inl (List.mem_cons_of_mem _ hk))).setCell (.inl (by simp)) _
  have hsz : o + 7 < cs.size := h.size
  have hA2 : ∀ k ∈ fp A', k ≠ b := fun k hk e => hn b (by omega) hbl (e ▸ hk)
  have own5 : OwnK 0 w5 A' (m.ask.length + 1) c' (m.ask ++ [x]) := ⟨by rw [akc_append]; exact ha.own, by simp, ha.cap, ha.nil⟩
  have tb : Turned [b] w5 (w5.setCell ⟨b, o + 1, none⟩ (.slice A' (m.ask.length + 1) c')) := (Turned.refl [b] w5).setCell (.inl (by simp)) _
  have lab : ∀ k, k ∉ fp A' → (m.addA x A' c').lab k = m.lab k := fun k hk => by show (if k ∈ fp A' then 1 else m.lab k) = _; rw [if_neg hk]
  have nb : ∀ k n, m.lab k = n → n ≠ 0 → n ≠ 1 → k ∉ b :: fp m.Aa := fun k n h1 h2 h3 hm => by
    rcases List.mem_cons.1 hm with rfl | hm
    · omega
    · have := h.la k hm; omega
  have kl : ∀ k ∈ fpm m, k < w.heap.size := h.lt
  have B1 : Bk (w5.setCell ⟨b, o + 1, none⟩ (.slice A' (m.ask.length + 1) c')) b T (cs.setIfInBounds (o + 1) (.slice A' (m.ask.length + 1) c')) := (h.blk.turned ha.turned (hnA b (by omega))).put _ _
  refine ⟨B1, ?_, ?_, ?_, ?_, ?_, ?_, ?_, ?_, ?_, ?_, ?_, ?_, ?_, ?_, ?_, ?_, ?_, ?_, ?_⟩
  · rw [Array.getElem?_setIfInBounds, if_neg (by omega)]; exact h.c0
  · rw [Array.getElem?_setIfInBounds, if_pos rfl, if_pos (by omega)]
    show _ = some (Value.slice A' (m.ask ++ [x]).length c')
    simp
  · rw [Array.getElem?_setIfInBounds, if_neg (by omega)]; exact h.c2
  · rw [Array.getElem?_setIfInBounds, if_neg (by omega)]; exact h.c3
  · rw [Array.getElem?_setIfInBounds, if_neg (by omega)]; exact h.c7
  · refine ⟨B1, ?_, ?_, ?_, h.row.own.turned ht (fun k hk => nb k 5 (h.lr k hk) (by omega) (by omega)), h.row.ne⟩
    · rw [Array.getElem?_setIfInBounds, if_neg (by omega)]; exact h.row.room
    · rw [Array.getElem?_setIfInBounds, if_neg (by omega)]; exact h.row.puts
    · rw [Array.getElem?_setIfInBounds, if_neg (by omega)]; exact h.row.hdr
  · show OwnK 0 _ A' (m.ask ++ [x]).length c' (m.ask ++ [x])
    rw [List.length_append, List.length_singleton]
    exact own5.turned tb (fun k hk hm => hA2 k hk (by simpa using hm))
  · exact own_turned h.keys ht (fun k hk => nb k 2 (h.lk k hk) (by omega) (by omega))
  · exact fun c hc => (h.chans c hc).turned ht (nb c 3 (h.lc c hc) (by omega) (by omega))
  · exact own_turned h.doors ht (fun k hk => nb k 4 (h.ld k hk) (by omega) (by omega))
  · exact fun i hi => (h.drs i hi).turned ht (fun k hk => nb k (6 + i) (h.lf i hi k hk) (by omega) (by omega))
  · intro a ha2
    have : a ∈ m.ask ++ [x] := ha2
    rcases List.mem_append.1 this with h1 | h1
    · exact h.wf a h1
    · simp at h1; subst h1; exact hw
  · rw [lab b (hn b (by omega) hbl)]; exact h.lb
  · intro k hk
    show (if k ∈ fp A' then 1 else m.lab k) = 1
    rw [if_pos (show k ∈ fp A' from hk)]
  · intro k hk
    have hk : k ∈ fp m.Ak := hk
    rw [lab k (hn k (by have := h.lk k hk; omega) (kl k (mem_fpm.2 (.inr (.inl hk)))))]; exact h.lk k hk
  · intro k hk
    have hk : k ∈ m.ks := hk
    rw [lab k (hn k (by have := h.lc k hk; omega) (kl k (mem_fpm.2 (.inr (.inr (.inl hk))))))]; exact h.lc k hk
  · intro k hk
    have hk : k ∈ fp m.Ad := hk
    rw [lab k (hn k (by have := h.ld k hk; omega) (kl k (mem_fpm.2 (.inr (.inr (.inr (.inl hk)))))))]; exact h.ld k hk
  · intro k hk
    have hk : k ∈ fp m.Ar := hk
    rw [lab k (hn k (by have := h.lr k hk; omega) (kl k (mem_fpm.2 (.inr (.inr (.inr (.inr (.inl hk))))))))]; exact h.lr k hk
  · intro i hi k hk
    have hi : i < m.ds.length := hi
    have hk : k ∈ m.Fd i := hk
    rw [lab k (hn k (by have := h.lf i hi k hk; omega) (kl k (mem_fpm.2 (.inr (.inr (.inr (.inr (.inr ⟨i, hi, hk⟩))))))))]; exact h.lf i hi k hk
theorem Lk.addD (h : Lk w b o T cs m) {d : DrM} {F : List Nat} (hd : DrOk w d F) (hF : ∀ k ∈ F, k ≠ b ∧ k ∉ fpm m) {A' : Option Addr} {c' : Nat} (ha : App 0 76 3 w m.Ad A' (m.ds.length + 1) c' (drc m.ds ++ drc [d]) w5) :
    Lk (w5.setCell ⟨b, o + 3, none⟩ (.slice A' (m.ds.length + 1) c')) b o T (cs.setIfInBounds (o + 3) (.slice A' (m.ds.length + 1) c')) (m.addD d F A' c') := by
  have hFl := hd.lt
  have hn : ∀ k, m.lab k ≠ 4 → k < w.heap.size → k ∉ fp A' := fun k h1 h2 hm => by
    rcases ha.fps k hm with h3 | h3
    · exact h1 (h.ld k h3)
    · omega
  have hnA : ∀ k, m.lab k ≠ 4 → k ∉ fp m.Ad := fun k h1 h3 => h1 (h.ld k h3)
  have hbl := h.blk.lt
  have hb0 := h.lb
  have ht : Turned (b :: fp m.Ad) w (w5.setCell ⟨b, o + 3, none⟩ (.slice A' (m.ds.length + 1) c')) := (ha.turned.mono (fun k hk => .inl (List.mem_cons_of_mem _ hk))).setCell (.inl (by simp)) _
  have hsz : o + 7 < cs.size := h.size
  have hA2 : ∀ k ∈ fp A', k ≠ b := fun k hk e => hn b (by omega) hbl (e ▸ hk)
  have hFA : ∀ k ∈ F, k ∉ fp A' := fun k hk hm => by
    rcases ha.fps k hm with h3 | h3
    · exact (hF k hk).2 (mem_fpm.2 (.inr (.inr (.inr (.inl h3)))))
    · have := hFl k hk; omega
  have tb : Turned [b] w5 (w5.setCell ⟨b, o + 3, none⟩ (.slice A' (m.ds.length + 1) c')) := (Turned.refl [b] w5).setCell (.inl (by simp)) _
  have lab : ∀ k, k < w.heap.size → m.lab k ≠ 4 → k ∉ F → (m.addD d F A' c').lab k = m.lab k := fun k h1 h2 h3 => by
    show (if k ∈ F then 6 + m.ds.length else if k ∈ fp A' then 4 else m.lab k) = _
    rw [if_neg h3, if_neg (hn k h2 h1)]
  have nb : ∀ k n, m.lab k = n → n ≠ 0 → n ≠ 4 → k ∉ b :: fp m.Ad := fun k n h1 h2 h3 hm => by
    rcases List.mem_cons.1 hm with rfl | hm
    · omega
    · have := h.ld k hm; omega
  have kl : ∀ k ∈ fpm m, k < w.heap.size := h.lt
  have nF : ∀ k ∈ fpm m, k ∉ F := fun k hk hm => (hF k hm).2 hk
  have B1 : Bk (w5.setCell ⟨b, o + 3, none⟩ (.slice A' (m.ds.length + 1) c')) b T (cs.setIfInBounds (o + 3) (.slice A' (m.ds.length + 1) c')) := (h.blk.turned ha.turned (hnA b (by omega))).put _ _
  have eFd : ∀ i, i < m.ds.length → (m.addD d F A' c').Fd i = m.Fd i := fun i hi => by
    show (if i = m.ds.length then F else m.Fd i) = _
    rw [if_neg (by omega)]
  have eFn : (m.addD d F A' c').Fd m.ds.length = F := by
    show (if m.ds.length = m.ds.length then F else m.Fd m.ds.length) = _
    rw [if_pos rfl]
  refine ⟨B1, ?_, ?_, ?_, ?_, ?_, ?_, ?_, ?_, ?_, ?_, ?_, ?_, ?_, ?_, ?_, ?_, ?_, ?_, ?_⟩
  · rw [Array.getElem?_setIfInBounds, if_neg (by omega)]; exact h.c0
  · rw [Array.getElem?_setIfInBounds, if_neg (by omega)]; exact h.c1
  · rw [Array.getElem?_setIfInBounds, if_neg (by omega)]; exact h.c2
  · rw [Array.getElem?_setIfInBounds, if_pos rfl, if_pos (by omega)]
    show _ = some (Value.slice A' (m.ds ++ [d]).length c')
    simp
  · rw [Array.getElem?_setIfInBounds, if_neg (by omega)]; exact h.c7
  · refine ⟨B1, ?_, ?_, ?_, h.row.own.turned ht (fun k hk => nb k 5 (h.lr k hk) (by omega) (by omega)), h.row.ne⟩
    · rw [Array.getElem?_setIfInBounds, if_neg (by omega)]; exact h.row.room
    · rw [Array.getElem?_setIfInBounds, if_neg (by omega)]; exact h.row.puts
    · rw [Array.getElem?_setIfInBounds, if_neg (by omega)]; exact h.row.hdr
  · exact h.askers.turned ht (fun k hk => nb k 1 (h.la k hk) (by omega) (by omega))
  · exact own_turned h.keys ht (fun k hk => nb k 2 (h.lk k hk) (by omega) (by omega))
  · exact fun c hc => (h.chans c hc).turned ht (nb c 3 (h.lc c hc) (by omega) (by omega))
  · show World.ownsRow _ 0 _ 3 (.slice A' (m.ds ++ [d]).length c') (m.ds ++ [d]).length (drc (m.ds ++ [d]))
    rw [List.length_append, List.length_singleton, drc_append]
    exact own_turned ha.own tb (fun k hk hm => hA2 k hk (by simpa using hm))
  · intro i hi
    have hi : i < (m.ds ++ [d]).length := hi
    rw [List.length_append, List.length_singleton] at hi
    show DrOk _ ((m.ds ++ [d]).getD i default) _
    rcases Nat.lt_succ_iff_lt_or_eq.1 hi with h1 | rfl
    · rw [eFd i h1]
      have e : (m.ds ++ [d]).getD i default = m.ds.getD i default := by simp [List.getD, List.getElem?_append_left h1]
      rw [e]
      exact (h.drs i h1).turned ht (fun k hk => nb k (6 + i) (h.lf i h1 k hk) (by omega) (by omega))
    · rw [eFn]
      have e : (m.ds ++ [d]).getD m.ds.length default = d := by simp [List.getD]
      rw [e]
      refine hd.turned ht (fun k hk hm => ?_)
      rcases List.mem_cons.1 hm with rfl | hm
      · exact (hF k hk).1 rfl
      · exact (hF k hk).2 (mem_fpm.2 (.inr (.inr (.inr (.inl hm)))))
  · exact h.wf
  · rw [lab b hbl (by omega) (fun hm => (hF b hm).1 rfl)]; exact h.lb
  · intro k hk
    have hk : k ∈ fp m.Aa := hk
    have hm := mem_fpm.2 (.inl hk)
    rw [lab k (kl k hm) (by have := h.la k hk; omega) (nF k hm)]; exact h.la k hk
  · intro k hk
    have hk : k ∈ fp m.Ak := hk
    have hm := mem_fpm.2 (.inr (.inl hk))
    rw [lab k (kl k hm) (by have := h.lk k hk; omega) (nF k hm)]; exact h.lk k hk
  · intro k hk
    have hk : k ∈ m.ks := hk
    have hm := mem_fpm.2 (.inr (.inr (.inl hk)))
    rw [lab k (kl k hm) (by have := h.lc k hk; omega) (nF k hm)]; exact h.lc k hk
  · intro k hk
    have hk : k ∈ fp A' := hk
    show (if k ∈ F then 6 + m.ds.length else if k ∈ fp A' then 4 else m.lab k) = 4
    rw [if_neg (fun hm => hFA k hm hk), if_pos hk]
  · intro k hk
    have hk : k ∈ fp m.Ar := hk
    have hm := mem_fpm.2 (.inr (.inr (.inr (.inr (.inl hk)))))
    rw [lab k (kl k hm) (by have := h.lr k hk; omega) (nF k hm)]; exact h.lr k hk
  · intro i hi k hk
    have hi : i < (m.ds ++ [d]).length := hi
    rw [List.length_append, List.length_singleton] at hi
    rcases Nat.lt_succ_iff_lt_or_eq.1 hi with h1 | rfl
    · rw [eFd i h1] at hk
      have hm := mem_fpm.2 (.inr (.inr (.inr (.inr (.inr ⟨i, h1, hk⟩)))))
      rw [lab k (kl k hm) (by have := h.lf i h1 k hk; omega) (nF k hm)]; exact h.lf i h1 k hk
    · rw [eFn] at hk
      show (if k ∈ F then 6 + m.ds.length else if k ∈ fp A' then 4 else m.lab k) = _
      rw [if_pos hk]
theorem fpm_addA {x : AskM} {A : Option Addr} {c k : Nat} (h : k ∈ fpm (m.addA x A c)) : k ∈ fp A ∨ k ∈ fpm m := by
  rcases mem_fpm.1 h with h1 | h1 | h1 | h1 | h1 | h1
  · exact .inl h1
  · exact .inr (mem_fpm.2 (.inr (.inl h1)))
  · exact .inr (mem_fpm.2 (.inr (.inr (.inl h1))))
  · exact .inr (mem_fpm.2 (.inr (.inr (.inr (.inl h1)))))
  · exact .inr (mem_fpm.2 (.inr (.inr (.inr (.inr (.inl h1))))))
  · exact .inr (mem_fpm.2 (.inr (.inr (.inr (.inr (.inr h1))))))
theorem fpm_addD {d : DrM} {F : List Nat} {A : Option Addr} {c k : Nat} (h : k ∈ fpm (m.addD d F A c)) : k ∈ fp A ∨ k ∈ F ∨ k ∈ fpm m := by
  rcases mem_fpm.1 h with h1 | h1 | h1 | h1 | h1 | ⟨i, hi, h1⟩
  · exact .inr (.inr (mem_fpm.2 (.inl h1)))
  · exact .inr (.inr (mem_fpm.2 (.inr (.inl h1))))
  · exact .inr (.inr (mem_fpm.2 (.inr (.inr (.inl h1)))))
  · exact .inl h1
  · exact .inr (.inr (mem_fpm.2 (.inr (.inr (.inr (.inr (.inl h1)))))))
  · have hi : i < (m.ds ++ [d]).length := hi
    rw [List.length_append, List.length_singleton] at hi
    have h1 : k ∈ if i = m.ds.length then F else m.Fd i := h1
    split at h1
    · exact .inr (.inl h1)
    · exact .inr (.inr (mem_fpm.2 (.inr (.inr (.inr (.inr (.inr ⟨i, by omega, h1⟩)))))))
end
end Go.Proofs.YtppgameimddimaaGreat

namespace Go.Proofs.YtppgameimddimaaGreat
open Go.ChangeShapes Go.WideShapes Go.ChangeAt Go.RowKit Go.Conc
set_option linter.unusedVariables false
set_option linter.unusedSimpArgs false
def entF (d : DrM) : DrM := enterD d (enterN d)
/-- the doors when those of the first k have let in who may -/
def entDs (ds : List DrM) (k : Nat) : List DrM := (ds.take k).map entF ++ ds.drop k
/-- who was let in at the first k doors -/
def entL (ds : List DrM) (k : Nat) : List Int := (ds.take k).flatMap fun d => d.outs.take (enterN d)
theorem entDs_zero (ds : List DrM) : entDs ds 0 = ds := by simp [entDs]
theorem entDs_len (ds : List DrM) (k : Nat) : (entDs ds k).length = ds.length := by simp [entDs]; omega
theorem entDs_at {ds : List DrM} {k : Nat} (hk : k < ds.length) : (entDs ds k).getD k default = ds.getD k default := by
  unfold entDs
  have hl : ((ds.take k).map entF).length = k := by simp; omega
  simp only [List.getD_eq_getElem?_getD]
  rw [List.getElem?_append_right (by omega), hl, Nat.sub_self, List.getElem?_drop, Nat.add_zero]
theorem entDs_next {ds : List DrM} {k : Nat} (hk : k < ds.length) : (entDs ds k).set k (entF (ds.getD k default)) = entDs ds (k + 1) := by
  unfold entDs
  have hl : ((ds.take k).map entF).length = k := by simp; omega
  have hg : ds.getD k default = ds[k] := by simp [List.getD, hk]
  rw [List.set_append_right _ _ (by omega), hl, Nat.sub_self, List.drop_eq_getElem_cons hk, hg]
  rw [show ds.take (k + 1) = ds.take k ++ [ds[k]] by rw [List.take_append_getElem], List.map_append, List.append_assoc]
  rfl
theorem entL_next {ds : List DrM} {k : Nat} (hk : k < ds.length) : entL ds (k + 1) = entL ds k ++ (ds.getD k default).outs.take (enterN (ds.getD k default)) := by
  have hg : ds.getD k default = ds[k] := by simp [List.getD, hk]
  unfold entL
  rw [show ds.take (k + 1) = ds.take k ++ [ds[k]] by rw [List.take_append_getElem], hg, List.flatMap_append]
  simp only [List.flatMap_cons, List.flatMap_nil, List.append_nil]
/-- a round's state: the locks with other doors, the row of those let in apart from them -/
structure EntW (w : World) (b o : Nat) (T : TypeId) (cs : Array Value) (m : LkM) (k n : Nat) (A : Option Addr) (c : Nat) (wr : World) : Prop where
  own : OwnInts w.heap.size wr A n c (entL m.ds k)
  lk : ∃ (Fd : Nat → List Nat) (lab : Nat → Nat), Lk wr b o T cs { m with ds := entDs m.ds k, Fd := Fd, lab := lab } ∧ FrL w b o 8 T cs (fpm m) wr cs (fpm { m with ds := entDs m.ds k, Fd := Fd, lab := lab }) ∧ ∀ j ∈ fpm { m with ds := entDs m.ds k, Fd := Fd, lab := lab }, j ∉ fp A
section
variable {w : World} {b o : Nat} {T : TypeId} {cs : Array Value} {m : LkM}
theorem EntW.zero (h : Lk w b o T cs m) : EntW w b o T cs m 0 0 none 0 w := by
  have e : ({ m with ds := entDs m.ds 0, Fd := m.Fd, lab := m.lab } : LkM) = m := by rw [entDs_zero]
  refine ⟨⟨World.ownsRow_nil _ _ _ _, by simp [entL], Nat.le_refl _, by decide, fun _ => ⟨rfl, rfl⟩⟩, m.Fd, m.lab, ?_, ?_, by simp [fp]⟩
  · rw [e]; exact h
  · rw [e]; exact FrL.refl _ _ _ _ _ _ _
/-- what a door's letting in makes of it -/
theorem EntW.next {k n : Nat} {A : Option Addr} {c : Nat} {wr u v : World} (h : EntW w b o T cs m k n A c wr) (hk : k < m.ds.length) (hw : w.heap.size ≤ wr.heap.size) (hb : Below wr.heap.size wr u)
    {Fd : Nat → List Nat} {lab : Nat → Nat} (hl : Lk u b o T cs { m with ds := entDs m.ds k, Fd := Fd, lab := lab }) (hfr : FrL w b o 8 T cs (fpm m) u cs (fpm { m with ds := entDs m.ds k, Fd := Fd, lab := lab })) (hap : ∀ j ∈ fpm { m with ds := entDs m.ds k, Fd := Fd, lab := lab }, j ∉ fp A)
    {A2 : Option Addr} {c2 : Nat} {F' : List Nat} (ho : OwnInts u.heap.size v A2 (enterN (m.ds.getD k default)) c2 ((m.ds.getD k default).outs.take (enterN (m.ds.getD k default)))) (hd : DrOk v (entF (m.ds.getD k default)) F') (ht : Turned (Fd k) u v) (hf : ∀ j ∈ F', j ∈ Fd k ∨ u.heap.size ≤ j) :
    OwnInts w.heap.size v A n c (entL m.ds k) ∧ ∃ (Fd' : Nat → List Nat) (lab' : Nat → Nat), Lk v b o T cs { m with ds := entDs m.ds (k + 1), Fd := Fd', lab := lab' } ∧ FrL w b o 8 T cs (fpm m) v cs (fpm { m with ds := entDs m.ds (k + 1), Fd := Fd', lab := lab' }) ∧ ∀ j ∈ fpm { m with ds := entDs m.ds (k + 1), Fd := Fd', lab := lab' }, j ∉ fp A := by
  have hkl : k < ({ m with ds := entDs m.ds k, Fd := Fd, lab := lab } : LkM).ds.length := by show k < (entDs m.ds k).length; rw [entDs_len]; exact hk
  have hA : ∀ j ∈ fp A, j < wr.heap.size := fun j hj => (own_fp h.own.1 j hj).2
  have hFd : ∀ j ∈ Fd k, j ∉ fp A := fun j hj => hap j (mem_fpm.2 (.inr (.inr (.inr (.inr (.inr ⟨k, hkl, hj⟩))))))
  have hx : (({ m with ds := entDs m.ds k, Fd := Fd, lab := lab } : LkM).ds.getD k default).blk = (entF (m.ds.getD k default)).blk := by
    show ((entDs m.ds k).getD k default).blk = _
    rw [entDs_at hk]; rfl
  obtain ⟨cs', L', F2⟩ := hl.toD (d := entF (m.ds.getD k default)) hkl hd hx ht hf
  have L3 := hl.putD (d := entF (m.ds.getD k default)) hkl hd hx ht hf
  have em : ({ m with ds := entDs m.ds k, Fd := Fd, lab := lab } : LkM).putD k (entF (m.ds.getD k default)) F' = { m with ds := entDs m.ds (k + 1), Fd := fun j => if j = k then F' else Fd j, lab := fun j => if j ∈ F' then 6 + k else lab j } := by
    unfold LkM.putD
    rw [← entDs_next hk]
  rw [em] at L3 F2
  have hsu := hb.size
  refine ⟨(h.own.turned (Turned.of_below hb []) (by simp)).turned ht (fun j hj hm => hFd j hm hj), _, _, L3, ?_, fun j hj hm => ?_⟩
  · refine hfr.trans ⟨rfl, fun _ _ => rfl, F2.turned, F2.fps⟩
  · rcases F2.fps j hj with h1 | h1
    · exact hap j h1 hm
    · have := hA j hm; omega
end
end Go.Proofs.YtppgameimddimaaGreat

namespace Go.Proofs.YtppgameimddimaaGreat
open Go.ChangeShapes Go.WideShapes Go.ChangeAt Go.RowKit Go.Conc Go.Sort
set_option linter.unusedVariables false
set_option linter.unusedSimpArgs false
def sortI (zs : List Int) : List Int := zs.mergeSort fun x y => decide (x ≤ y)
theorem sortI_len (zs : List Int) : (sortI zs).length = zs.length := List.length_mergeSort zs
theorem sortI_perm (zs : List Int) : (sortI zs).Perm zs := List.mergeSort_perm zs _
theorem sort_own_any {B : Nat} {w : World} {A : Option Addr} {n c : Nat} {zs : List Int} (h : OwnInts B w A n c zs) (hl : zs.length ≤ 64) : Calls Tryz.prog 40 #[.slice A n c] w fun e w' => e = .returned (.tuple #[]) ∧ OwnInts B w' A n c (sortI zs) ∧ Turned (fp A) w w' := by
  obtain ⟨ho, hn, hc1, hc2, hc3⟩ := h
  subst hn
  rcases Nat.eq_zero_or_pos zs.length with h0 | hp
  · obtain rfl : zs = [] := List.eq_nil_of_length_eq_zero h0
    refine (Tryz.slices_Sort_int_none A c w).mono ?_
    rintro e w' ⟨rfl, rfl⟩
    exact ⟨rfl, ⟨by simpa [sortI] using ho, by simp [sortI], hc1, hc2, hc3⟩, Turned.refl _ _⟩
  · obtain ⟨g, rfl, hB, hg⟩ := ownE_at ho hp
    obtain ⟨cur, hcb, hct, hcs⟩ : ∃ cur, w.heap[g]? = some (.cells cur 3 (0, 0)) ∧ cur.toList.take zs.length = zs.map (Value.int .i64) ∧ cur.size = c * 1 := by
      rcases ho.2 with ⟨hv, _⟩ | ⟨g', cap, cur, hv, hb, hgg, h3, h4, h5, h6⟩
      · cases hv
      · injection hv with e1 e2 e3
        injection e1 with e1
        injection e1 with e1
        subst e1; subst e3
        exact ⟨cur, hgg, by simpa using h6, h5⟩
    refine (Tryz.slices_Sort_int g 0 c zs w (holds_of_blockI hcb hct) hg (by omega)).mono ?_
    rintro e w' ⟨rfl, q, os, rfl⟩
    refine ⟨rfl, ⟨?_, (sortI_len zs).symm, hc1, hc2, hc3⟩, ?_⟩
    · exact ownsRow_sortedI (sortI_len zs) hB hcb hc1 hc2 hcs
    · exact (Turned.refl _ w).grown (grownBy_sortedI _) (fun k hk => by injection hk with hk; subst hk; exact .inl (by simp [fp]))
end Go.Proofs.YtppgameimddimaaGreat

namespace Go.Proofs.YtppgameimddimaaGreat
open Go.ChangeShapes Go.WideShapes Go.ChangeAt Go.RowKit Go.Conc
set_option linter.unusedVariables false
set_option linter.unusedSimpArgs false
section
variable {w : World} {b o : Nat} {T : TypeId} {cs : Array Value} {m : LkM}
theorem EntW.app {k n e : Nat} {A A' : Option Addr} {c c' : Nat} {v w5 : World} {Fd : Nat → List Nat} {lab : Nat → Nat} (ho : OwnInts w.heap.size v A n c (entL m.ds k)) (hk : k < m.ds.length) (he : e = enterN (m.ds.getD k default))
    (hl : Lk v b o T cs { m with ds := entDs m.ds (k + 1), Fd := Fd, lab := lab }) (hfr : FrL w b o 8 T cs (fpm m) v cs (fpm { m with ds := entDs m.ds (k + 1), Fd := Fd, lab := lab })) (hap : ∀ j ∈ fpm { m with ds := entDs m.ds (k + 1), Fd := Fd, lab := lab }, j ∉ fp A) (hb : b < w.heap.size)
    (happ : App w.heap.size 3 1 v A A' (n + e) c' ((entL m.ds k).map (Value.int .i64) ++ ((m.ds.getD k default).outs.take e).map (Value.int .i64)) w5) : EntW w b o T cs m (k + 1) (n + e) A' c' w5 := by
  have hA : ∀ j ∈ fp A, w.heap.size ≤ j := fun j hj => (own_fp ho.1 j hj).1
  have hle : e ≤ (m.ds.getD k default).outs.length := by rw [he]; unfold enterN; omega
  refine ⟨⟨?_, ?_, happ.cap.1, happ.cap.2, happ.nil⟩, Fd, lab, hl.turned happ.turned (fun hm => by have := hA b hm; omega) hap, ⟨rfl, fun _ _ => rfl, hfr.turned.trans happ.turned (fun i hi => .inr (hA i hi)), hfr.fps⟩, fun j hj hm => ?_⟩
  · rw [entL_next hk, List.map_append, ← he]; exact happ.own
  · rw [entL_next hk, List.length_append, ← he, List.length_take, ho.2.1]; omega
  · rcases happ.fps j hm with h1 | h1
    · exact hap j hj h1
    · have := hl.lt j hj; omega
/-- the locks when these were given places, one behind the other -/
def PlR : LkM → List Int → LkM → Prop
  | m, [], m' => m' = m
  | m, x :: xs, m' => ∃ A c, PlR (placeM m x.toNat A c) xs m'
theorem PlR.snoc {m m' : LkM} {l : List Int} {x : Int} {A : Option Addr} {c : Nat} (h : PlR m l m') : PlR m (l ++ [x]) (placeM m' x.toNat A c) := by
  induction l generalizing m with
  | nil =>
    have e : m' = m := h
    subst e
    exact ⟨A, c, rfl⟩
  | cons y l ih =>
    obtain ⟨A1, c1, h1⟩ := h
    exact ⟨A1, c1, ih h1⟩
/-- a round's state of the second loop -/
structure Pl2 (w : World) (b o : Nat) (T : TypeId) (cs : Array Value) (m m0 : LkM) (S : List Int) (A : Option Addr) (c j : Nat) (wr : World) : Prop where
  own : OwnInts w.heap.size wr A S.length c S
  lk : ∃ m', LkTo w b o T cs m wr m' ∧ PlR m0 (S.take j) m' ∧ m'.ask.length = m.ask.length ∧ m'.R = m.R ∧ m'.l.length = m.l.length + j ∧ m'.P = m.P + j ∧ m'.places = m.places + j ∧ ∀ q ∈ fpm m', q ∉ fp A
/-- what enter leaves -/
def EnterPost (w : World) (b o : Nat) (T : TypeId) (cs : Array Value) (m : LkM) (w' : World) : Prop :=
  ∃ (Fd : Nat → List Nat) (lab : Nat → Nat) (m' : LkM), PlR { m with ds := entDs m.ds m.ds.length, Fd := Fd, lab := lab } (sortI (entL m.ds m.ds.length)) m' ∧ LkTo w b o T cs m w' m'
theorem entL_mem {ds : List DrM} {k : Nat} {x : Int} (h : x ∈ entL ds k) : ∃ i, i < ds.length ∧ x ∈ (ds.getD i default).outs := by
  unfold entL at h
  obtain ⟨d, hd, hx⟩ := List.mem_flatMap.1 h
  obtain ⟨i, hi, rfl⟩ := List.getElem_of_mem (List.mem_of_mem_take hd)
  exact ⟨i, hi, by simp [List.getD, hi]; exact List.mem_of_mem_take hx⟩
set_option maxHeartbeats 4000000 in
set_option maxRecDepth 100000 in
theorem lenter_any (h : Lk w b o T cs m) (hpos : 0 < m.ds.length) (h3 : m.ds.length ≤ 3) (hnd : ∀ i, i < m.ds.length → ((m.ds.getD i default).ins ++ (m.ds.getD i default).outs).Nodup) (ho6 : ∀ i, i < m.ds.length → (m.ds.getD i default).outs.length ≤ 6)
    (hid : ∀ i, i < m.ds.length → ∀ x ∈ (m.ds.getD i default).outs, 0 ≤ x ∧ x < (m.ask.length : Int)) (hR : m.R ≤ 64) (hP : 0 ≤ m.P ∧ m.P < 900000) (hpl : 0 ≤ m.places ∧ m.places < 900000) (hroom : ((m.l.length + (entL m.ds m.ds.length).length : Nat) : Int) ≤ m.R) :
    Calls Tryz.prog 37 #[.pointer (some ⟨b, o, none⟩)] w fun e w' => e = .returned (.tuple #[]) ∧ EnterPost w b o T cs m w' := by
  obtain ⟨gd, hgd, _⟩ := h.dcells hpos
  have c3 : w.cell? ⟨b, o + 3, none⟩ = some (.slice (some ⟨gd, 0, none⟩) m.ds.length m.cd) := by
    have := (h.blk.cell _).trans h.c3
    rw [hgd] at this; exact this
  have HZ := hidp (EntW.zero h)
  have Hgd := hidp hgd
  have HB := hidp h.blk.lt
  have HN := hidp hnd
  have H6 := hidp ho6
  have HI := hidp hid
  have HR := hidp hR
  have HP := hidp hP
  have HPL := hidp hpl
  have HRM := hidp hroom
  obtain ⟨i0, hi0, hz0, hz1, hz2⟩ := info_parts infoInt
  clear h hgd hnd ho6 hid hR hP hpl hroom
  go_enter Tryz.func37, Tryz.ntmps37
  go_wp2
  go_loopg [2, 12] m.ds.length (fun g a i wr => ∃ (k n : Nat) (A : Option Addr) (c : Nat), k + g = m.ds.length ∧ i = .int .i64 k ∧ a = .slice A n c ∧ n ≤ 6 * k ∧ Hid (EntW w b o T cs m k n A c wr))
  case atStart => exact ⟨0, 0, none, 0, by omega, rfl, rfl, by omega, HZ⟩
  case round =>
    obtain ⟨k, n, A, c, hk, rfl, rfl, hn, E⟩ := hrel
    by_cases hlt : k < m.ds.length
    · obtain ⟨Fd, lab, L, FR, AP⟩ := E.out.lk
      obtain ⟨gd2, hgd2, _, e0, e1, e2⟩ := L.dcells (k := k) (by show k < (entDs m.ds k).length; rw [entDs_len]; exact hlt)
      have egd : gd2 = gd := by
        have h1 : m.Ad = some ⟨gd2, 0, none⟩ := hgd2
        rw [Hgd.out] at h1
        injection h1 with h1; injection h1 with h1; exact h1.symm
      subst egd
      clear hgd2
      obtain ⟨d, HD⟩ : ∃ d, Hid (m.ds.getD k default = d) := ⟨_, hidp rfl⟩
      have eD : ({ m with ds := entDs m.ds k, Fd := Fd, lab := lab } : LkM).ds.getD k default = d := by show (entDs m.ds k).getD k default = d; rw [entDs_at hlt]; exact HD.out
      rw [eD] at e0 e1 e2
      have hdr : DrOk wr d (Fd k) := eD ▸ L.drs k (by show k < (entDs m.ds k).length; rw [entDs_len]; exact hlt)
      have hd3 : decide (m.ds.length ≤ k) = false := decide_eq_false (by omega)
      have hb1 := (Below.refl wr.heap.size wr).alloc (Nat.le_refl _) (.cells #[.int .i64 d.cores, .pointer (some ⟨d.gb, 0, none⟩), .pointer (some ⟨d.lb, 0, none⟩)] 76)
      have DE := denter_any (hdr.over hb1) (by have := HN.out k hlt; rw [HD.out] at this; exact this) hdr.fit (by have := H6.out k hlt; rw [HD.out] at this; exact this)
      obtain ⟨b0, b1, b2⟩ := Zd3 (Bk.new wr 76 #[.int .i64 d.cores, .pointer (some ⟨d.gb, 0, none⟩), .pointer (some ⟨d.lb, 0, none⟩)])
      have HL := hidp (L.over hb1)
      have hwz := FR.turned.size
      have HFR := hidp (FR.trans (FrL.below hb1))
      have HAP := hidp AP
      have HB1 := hidp hb1
      unfold DrM.val at DE
      clear L FR AP hdr eD hb1 c3
      go_wp2_with fail
      refine DE.mono ?_
      rintro e v ⟨A2, c2, F', rfl, own2, door2, ht, hf, hap2⟩
      obtain ⟨q1, Fd2, lab2, L2, FR2, AP2⟩ := E.out.next hlt hwz HB1.out HL.out HFR.out HAP.out (by rw [HD.out]; exact own2) (by rw [HD.out]; exact door2) ht hf
      obtain ⟨nx, HNx⟩ : ∃ nx, Hid (enterN d = nx) := ⟨_, hidp rfl⟩
      have hnx : nx ≤ 6 := by
        rw [← HNx.out]
        have := H6.out k hlt
        rw [HD.out] at this
        unfold enterN; omega
      rw [HNx.out] at own2 ⊢
      have H1 : Hid (A2 = none → nx = 0 ∧ c2 = 0) := hidp own2.2.2.2.2
      have H2 : Hid (((d.outs.take nx).map (Value.int .i64)).length = nx * 1) := hidp (by have := own2.2.1; simp at this ⊢; omega)
      have H3 := hidp (Lies.of_own own2.1)
      have H4 : Hid (∀ u ∈ (d.outs.take nx).map (Value.int .i64), u.oneCell' = true) := hidp fun u hu => by obtain ⟨n, _, rfl⟩ := List.mem_map.1 hu; rfl
      have H5 : Hid (n + nx ≤ maxLen) := hidp (by unfold maxLen; omega)
      have HS6 : Hid ((n + nx) * 8 ≤ 140737488355328) := hidp (by omega)
      have Hsz : Hid (w.heap.size ≤ v.heap.size) := hidp FR2.turned.size
      have Q1 := hidp q1
      have L2h := hidp L2
      have FR2h := hidp FR2
      have AP2h := hidp AP2
      have hq1 := q1.1
      clear own2 door2 ht hf hap2 q1 L2 FR2 AP2 e0 e1 e2 b0 b1 b2
      go_wp2_with (at_builtin; refine wpList_app2 _ rfl (.tmp 16) (.tmp 18) 22 rfl w.heap.size 3 i0 (.int .i64 0) 1 8 Tryz.underlying22 hi0 hz0 hz1 hz2 rfl (by decide) A n c _ rfl hq1 v.heap.size A2 nx c2 ((d.outs.take nx).map (Value.int .i64)) rfl H1.out H2.out H3.out H4.out H5.out HS6.out Hsz.out ?_; intro A' c' w5 happ)
      go_roundg (gk - 1)
      case measure => omega
      case rel => exact ⟨k + 1, n + nx, A', c', by omega, by go_num, rfl, by omega, hidp (EntW.app Q1.out hlt (by rw [HD.out]; exact HNx.out.symm) L2h.out FR2h.out AP2h.out HB.out (by rw [HD.out]; exact happ))⟩
    · obtain rfl : k = m.ds.length := by omega
      obtain ⟨Fd, lab, L, FR, AP⟩ := E.out.lk
      have hA : ∀ j ∈ fp A, w.heap.size ≤ j := fun j hj => (own_fp E.out.own.1 j hj).1
      have hEl : (entL m.ds m.ds.length).length ≤ 64 := by have := E.out.own.2.1; omega
      have SO := sort_own_any E.out.own hEl
      have hbA : b ∉ fp A := fun hm => by have := hA b hm; have := HB.out; omega
      obtain ⟨S, HS⟩ : ∃ S, Hid (sortI (entL m.ds m.ds.length) = S) := ⟨_, hidp rfl⟩
      have HSl : Hid (S.length = n) := hidp (by rw [← HS.out, sortI_len]; exact E.out.own.2.1.symm)
      have HSm : Hid (∀ x ∈ S, 0 ≤ x ∧ x < (m.ask.length : Int)) := hidp (fun x hx => by
        rw [← HS.out] at hx
        obtain ⟨i, hi, hxi⟩ := entL_mem ((sortI_perm _).mem_iff.1 hx)
        exact HI.out i hi x hxi)
      have HLh := hidp L
      have HFR := hidp FR
      have HAP := hidp AP
      have HA := hidp hA
      have HbA := hidp hbA
      rw [HS.out] at SO
      clear L FR AP hA hbA c3 hlt hk
      go_wp2_with fail
      refine SO.mono ?_
      rintro e v ⟨rfl, ho, ht⟩
      have L2 := HLh.out.turned ht HbA.out HAP.out
      have P0 : Hid (Pl2 w b o T cs m { m with ds := entDs m.ds m.ds.length, Fd := Fd, lab := lab } S A c 0 v) := hidp ⟨by rw [HSl.out]; exact ho, _, ⟨cs, L2, ⟨rfl, fun _ _ => rfl, HFR.out.turned.trans ht (fun i hi => .inr (HA.out i hi)), HFR.out.fps⟩⟩, rfl, rfl, rfl, rfl, by simp, by simp, HAP.out⟩
      clear L2 ho ht SO
      go_wp2_with fail
      go_loopg [25] n (fun g i wr => ∃ j : Nat, j + g = n ∧ i = .int .i64 j ∧ Hid (Pl2 w b o T cs m { m with ds := entDs m.ds m.ds.length, Fd := Fd, lab := lab } S A c j wr))
      case atStart => exact ⟨0, by omega, rfl, P0⟩
      case round =>
        obtain ⟨j, hj, rfl, PJ⟩ := hrel
        by_cases hjn : j < n
        · obtain ⟨m', ⟨cs', L, FR⟩, PR, l1, l2, l3, l4, l5, AP⟩ := PJ.out.lk
          have hjS : j < S.length := by rw [HSl.out]; exact hjn
          obtain ⟨g, off, hA0, hc⟩ := (Lies.row (B := wr.heap.size) (Lies.of_own PJ.out.own.1)).resolve_left (by intro e; rw [e] at hjS; simp at hjS)
          have hxm := HSm.out (S.getD j 0) (by simp [List.getD, hjS])
          obtain ⟨x, HX⟩ : ∃ x : Nat, Hid (S.getD j 0 = (x : Int)) := ⟨(S.getD j 0).toNat, hidp (by omega)⟩
          have cx := hc j hjS
          rw [HX.out] at hxm cx
          have PL := lplace_any L (n := x) (by rw [l1]; omega) (by
            have h1 := HRM.out
            have h2 := HSl.out
            have h3 := E.out.own.2.1
            rw [l2, l3]; omega) (by rw [l2]; exact HR.out) (by have := HP.out; have := HSl.out; have := hEl; have := E.out.own.2.1; rw [l4]; omega) (by have := HPL.out; have := HSl.out; have := hEl; have := E.out.own.2.1; rw [l5]; omega)
          have HLL := hidp L
          have HFR2 := hidp FR
          have HPR := hidp PR
          have HAP2 := hidp AP
          have Hl1 := hidp l1
          have Hl2 := hidp l2
          have Hl3 := hidp l3
          have Hl4 := hidp l4
          have Hl5 := hidp l5
          have HhjS := hidp hjS
          have hdj : decide (n ≤ j) = false := decide_eq_false (by omega)
          clear L FR PR AP l1 l2 l3 l4 l5 hc hxm hjS
          subst hA0
          go_wp2_with fail
          refine PL.mono ?_
          rintro e v3 ⟨rfl, A9, c9, cs9, L9, F9⟩
          go_wp2_with fail
          go_roundg (gk - 1)
          case measure => omega
          case rel =>
            have hown := PJ.out.own
            have hAlt : ∀ q ∈ fp (some (⟨g, off, none⟩ : Addr)), w.heap.size ≤ q ∧ q < wr.heap.size := fun q hq => own_fp hown.1 q hq
            have PS := HPR.out.snoc (x := (x : Int)) (A := A9) (c := c9)
            rw [Int.toNat_natCast, ← HX.out, ← take_snoc S j HhjS.out] at PS
            refine ⟨j + 1, by omega, by go_num, hidp ⟨hown.turned F9.turned (fun q hq hm => ?_), _, ⟨cs9, L9, HFR2.out.trans F9⟩, PS, ?_, Hl2.out, ?_, ?_, ?_, fun q hq hm => ?_⟩⟩
            · rcases List.mem_cons.1 hm with rfl | hm
              · have := (hAlt _ hq).1; have := HB.out; omega
              · exact HAP2.out q hm hq
            · show (m'.ask.set x _).length = _
              rw [List.length_set]; exact Hl1.out
            · show (riseL (m'.l ++ [_]) m'.l.length).length = _
              rw [riseL_len _ _ (by simp), List.length_append, Hl3.out]; simp; omega
            · show m'.P + 1 = _
              rw [Hl4.out]; push_cast; omega
            · show m'.places + 1 = _
              rw [Hl5.out]; push_cast; omega
            · rcases F9.fps q hq with h1 | h1
              · exact HAP2.out q h1 hm
              · have := (hAlt q hm).2; omega
        · obtain rfl : j = n := by omega
          go_wp2
          try rw [Exit.noGoto_ret]
          refine ⟨rfl, _, results_none rfl _ _ _, ?_⟩
          obtain ⟨m', LT, PR, -, -, -, -, -, -⟩ := PJ.out.lk
          rw [← HSl.out, List.take_length, ← HS.out] at PR
          exact ⟨rfl, Fd, lab, m', PR, LT⟩
end
end Go.Proofs.YtppgameimddimaaGreat

namespace Go.Proofs.YtppgameimddimaaGreat
open Go.ChangeShapes Go.WideShapes Go.ChangeAt Go.RowKit Go.Conc
set_option linter.unusedVariables false
set_option linter.unusedSimpArgs false
def keyOf (m : LkM) (x : Nat) : Nat := m.ks.getD (m.ask.getD x default).res.toNat 0
/-- a task takes its key and leaves the row -/
def takeM (m : LkM) (x : Nat) : LkM := ((m.putK (keyOf m x) false).putA x { m.ask.getD x default with holds := true }).putR m.P (dropL m.l x) m.Ar m.cr
def grant1 (s : LkM × List Int) (x : Int) : LkM × List Int := if s.1.fr (keyOf s.1 x.toNat) = true then (takeM s.1 x.toNat, s.2 ++ [x]) else s
/-- who of the row gets a key, in that order -/
def grantM (m : LkM) (xs : List Int) : LkM × List Int := xs.foldl grant1 (m, [])
theorem grant_snoc (m : LkM) (xs : List Int) (x : Int) : grantM m (xs ++ [x]) = grant1 (grantM m xs) x := by unfold grantM; rw [List.foldl_append]; rfl
theorem dropL_le (l : List EntM) (id : Int) : (dropL l id).length ≤ l.length := by
  unfold dropL
  split
  · exact Nat.le_refl _
  · rename_i f hf
    rw [removeL_len (bestE_lt _ hf)]; omega
/-- what stays as it is, whoever is granted -/
structure GrI (m m' : LkM) : Prop where
  ks : m'.ks = m.ks
  len : m'.ask.length = m.ask.length
  res : ∀ i, (m'.ask.getD i default).res = (m.ask.getD i default).res
  l : m'.l.length ≤ m.l.length
theorem GrI.refl (m : LkM) : GrI m m := ⟨rfl, rfl, fun _ => rfl, Nat.le_refl _⟩
theorem GrI.take {m m' : LkM} (h : GrI m m') {x : Nat} (hx : x < m'.ask.length) : GrI m (takeM m' x) := by
  refine ⟨h.ks, ?_, fun i => ?_, Nat.le_trans (dropL_le _ _) h.l⟩
  · show (m'.ask.set x _).length = _
    rw [List.length_set]; exact h.len
  · rw [← h.res i]
    show ((m'.ask.set x { m'.ask.getD x default with holds := true }).getD i default).res = _
    by_cases e : i = x
    · subst e; simp [List.getD, hx]
    · simp [List.getD, List.getElem?_set_ne (Ne.symm e)]
end Go.Proofs.YtppgameimddimaaGreat

namespace Go.Proofs.YtppgameimddimaaGreat
open Go.ChangeShapes Go.WideShapes Go.ChangeAt Go.RowKit Go.Conc
set_option linter.unusedVariables false
set_option linter.unusedSimpArgs false
/-- a round's state -/
structure GrW (w : World) (b o : Nat) (T : TypeId) (cs : Array Value) (m m1 : LkM) (ids : List Int) (B : Nat) (AS : Option Addr) (cS j n : Nat) (A : Option Addr) (c : Nat) (wr : World) : Prop where
  src : NumsAt B wr AS ids.length cS ids
  own : OwnInts w.heap.size wr A n c (grantM m1 (ids.take j)).2
  inv : GrI m1 (grantM m1 (ids.take j)).1
  lk : LkTo w b o T cs m wr (grantM m1 (ids.take j)).1
  ap : ∀ q ∈ fpm (grantM m1 (ids.take j)).1, q ∉ fp A ∧ q ∉ fp AS
  ss : ∀ q ∈ fp A, q ∉ fp AS
def GrantPost (w : World) (b o : Nat) (T : TypeId) (cs : Array Value) (m : LkM) (G : LkM → Prop) (e : Ending) (w' : World) : Prop :=
  ∃ m1 S A n c, G m1 ∧ S.Perm m1.l ∧ SortedE S ∧ e = .returned (.slice A n c) ∧ OwnInts w.heap.size w' A n c (sortI (grantM m1 (S.map EntM.id)).2) ∧ LkTo w b o T cs m w' (grantM m1 (S.map EntM.id)).1 ∧ ∀ q ∈ fpm (grantM m1 (S.map EntM.id)).1, q ∉ fp A
theorem sel_res (c : Nat) (v : Value) (ok : Bool) : commResult #[rcase c (.agg #[])] .select ((0 : Nat) : Int) v ok = .tuple #[goInt 0, .bool ok, v] := by simp [commResult, rcase]
theorem sel_res_d (c : Nat) (v : Value) (ok : Bool) : commResult #[rcase c (.agg #[])] .select (-1) v ok = .tuple #[goInt (-1), .bool ok, .agg #[]] := by simp [commResult, rcase]
section
variable {w : World} {b o : Nat} {T : TypeId} {cs : Array Value} {m : LkM} {G : LkM → Prop}
theorem GrW.skip {m1 : LkM} {ids : List Int} {B : Nat} {AS : Option Addr} {cS j n : Nat} {A : Option Addr} {c x : Nat} {wr v : World} (h : GrW w b o T cs m m1 ids B AS cS j n A c wr) (hj : j < ids.length) (hx : ids.getD j 0 = (x : Int)) (hf : (grantM m1 (ids.take j)).1.fr (keyOf (grantM m1 (ids.take j)).1 x) = false) (hb : Below wr.heap.size wr v) : GrW w b o T cs m m1 ids B AS cS (j + 1) n A c v := by
  have e : grantM m1 (ids.take (j + 1)) = grantM m1 (ids.take j) := by
    rw [take_snoc ids j hj, hx, grant_snoc]
    unfold grant1
    rw [Int.toNat_natCast, hf]
    simp
  obtain ⟨csx, L, F⟩ := h.lk
  exact ⟨⟨own_turned h.src.own (Turned.of_below hb []) (by simp), h.src.len, h.src.cap, h.src.nil⟩, by rw [e]; exact h.own.turned (Turned.of_below hb []) (by simp), by rw [e]; exact h.inv, by rw [e]; exact ⟨csx, L.over hb, F.trans (FrL.below hb)⟩, by rw [e]; exact h.ap, h.ss⟩
theorem GrW.hit {m1 mm : LkM} {ids : List Int} {B : Nat} {AS : Option Addr} {cS j n : Nat} {A A' : Option Addr} {c c' x : Nat} {wr v w5 : World} {cs' cs2 : Array Value} (h : GrW w b o T cs m m1 ids B AS cS j n A c wr) (hj : j < ids.length) (hx : ids.getD j 0 = (x : Int)) (hm : (grantM m1 (ids.take j)).1 = mm) (hxl : x < mm.ask.length) (hf : mm.fr (keyOf mm x) = true)
    (hF : FrL w b o 8 T cs (fpm m) wr cs' (fpm mm)) (hb : b < w.heap.size) (hBw : b < B) (hL : Lk v b o T cs2 (takeM mm x)) (hV : FrL wr b o 8 T cs' (fpm mm) v cs2 (fpm (takeM mm x)))
    (happ : App w.heap.size 3 1 v A A' (n + 1) c' ((grantM m1 (ids.take j)).2.map (Value.int .i64) ++ [.int .i64 (x : Int)]) w5) : GrW w b o T cs m m1 ids B AS cS (j + 1) (n + 1) A' c' w5 := by
  have e : grantM m1 (ids.take (j + 1)) = (takeM mm x, (grantM m1 (ids.take j)).2 ++ [(x : Int)]) := by
    rw [take_snoc ids j hj, hx, grant_snoc]
    unfold grant1
    rw [Int.toNat_natCast, hm, hf]
    simp
  have hap := h.ap
  have hinv := h.inv
  rw [hm] at hap hinv
  have hAw : ∀ q ∈ fp A, w.heap.size ≤ q ∧ q < wr.heap.size := fun q hq => own_fp h.own.1 q hq
  have hSw : ∀ q ∈ fp AS, B ≤ q ∧ q < wr.heap.size := fun q hq => own_fp h.src.own q hq
  have hbA : b ∉ fp A := fun hm => by have := (hAw b hm).1; omega
  have hbS : b ∉ fp AS := fun hm => by have := (hSw b hm).1; omega
  have hvs := hV.turned.size
  have hS1 : ∀ q ∈ fp AS, q ∉ b :: fpm mm := fun q hq hm => by
    rcases List.mem_cons.1 hm with rfl | hm
    · exact hbS hq
    · exact (hap q hm).2 hq
  have hf2 : ∀ q ∈ fpm (takeM mm x), q ∉ fp A ∧ q ∉ fp AS := fun q hq => by
    rcases hV.fps q hq with h1 | h1
    · exact hap q h1
    · exact ⟨fun hm => by have := (hAw q hm).2; omega, fun hm => by have := (hSw q hm).2; omega⟩
  have hlv := hL.lt
  refine ⟨⟨own_turned (own_turned h.src.own hV.turned hS1) happ.turned (fun q hq hm => h.ss q hm hq), h.src.len, h.src.cap, h.src.nil⟩, ?_, by rw [e]; exact hinv.take hxl, ?_, ?_, fun q hq hm => ?_⟩
  · rw [e]
    refine ⟨?_, ?_, happ.cap.1, happ.cap.2, happ.nil⟩
    · simpa using happ.own
    · simp; exact h.own.2.1
  · rw [e]
    exact ⟨cs2, hL.turned happ.turned hbA (fun q hq => (hf2 q hq).1), (hF.trans hV).size, (hF.trans hV).out, (hF.trans hV).turned.trans happ.turned (fun i hi => .inr (hAw i hi).1), (hF.trans hV).fps⟩
  · rw [e]
    refine fun q hq => ⟨fun hm => ?_, (hf2 q hq).2⟩
    rcases happ.fps q hm with h1 | h1
    · exact (hf2 q hq).1 h1
    · have := hlv q hq; omega
  · rcases happ.fps q hq with h1 | h1
    · exact h.ss q h1 hm
    · have := (hSw q hm).2; omega
set_option maxHeartbeats 4000000 in
set_option maxRecDepth 100000 in
theorem lgrant_any (CE : Calls Tryz.prog 37 #[.pointer (some ⟨b, o, none⟩)] w fun e w' => e = .returned (.tuple #[]) ∧ ∃ m1, LkTo w b o T cs m w' m1 ∧ G m1)
    (hG : ∀ m1, G m1 → m1.l.length ≤ 40 ∧ (∀ e ∈ m1.l, 0 ≤ e.id ∧ e.id < (m1.ask.length : Int)) ∧ ∀ e ∈ m1.l, 0 ≤ (m1.ask.getD e.id.toNat default).res ∧ (m1.ask.getD e.id.toNat default).res < (m1.ks.length : Int)) (hb : b < w.heap.size) (hfp : ∀ q ∈ fpm m, q < w.heap.size) :
    Calls Tryz.prog 15 #[.pointer (some ⟨b, o, none⟩)] w (GrantPost w b o T cs m G) := by
  obtain ⟨i0, hi0, hz0, hz1, hz2⟩ := info_parts infoInt
  have HG := hidp hG
  have HB := hidp hb
  clear hG
  go_enter Tryz.func15, Tryz.ntmps15
  go_wp2
  go_step3
  go_wp2_with fail
  refine CE.mono ?_
  rintro e w1 ⟨rfl, m1, ⟨cs1, L1, F1⟩, hG1⟩
  obtain ⟨hl40, hids, hres⟩ := HG.out m1 hG1
  have CA := rkall_any L1.row (by omega)
  have HL1 := hidp L1
  have HF1 := hidp F1
  have HG1 := hidp hG1
  clear L1 F1 hG1
  go_wp2
  go_step3
  go_wp2_with fail
  refine CA.mono ?_
  rintro e w2 ⟨AS, cS, S, hperm, hsrt, rfl, hnum, hb2⟩
  obtain ⟨ids, HIds⟩ : ∃ ids, Hid (S.map EntM.id = ids) := ⟨_, hidp rfl⟩
  rw [HIds.out] at hnum
  have hln := hnum.len
  obtain ⟨N, HNn⟩ : ∃ N, Hid (m1.l.length = N) := ⟨_, hidp rfl⟩
  rw [HNn.out] at hnum hln ⊢
  have HIN : Hid (∀ j, j < N → ∃ x : Nat, ids.getD j 0 = (x : Int) ∧ x < m1.ask.length ∧ 0 ≤ (m1.ask.getD x default).res ∧ (m1.ask.getD x default).res < (m1.ks.length : Int)) := hidp (fun j hj => by
    have hm : ids.getD j 0 ∈ ids := by simp [List.getD, show j < ids.length by omega]
    rw [← HIds.out] at hm
    obtain ⟨e, he, he2⟩ := List.mem_map.1 hm
    have := hids e (hperm.mem_iff.1 he)
    have h7 := hres e (hperm.mem_iff.1 he)
    rw [HIds.out] at he2
    rw [he2] at h7
    exact ⟨(ids.getD j 0).toNat, by omega, by omega, h7⟩)
  have HP0 := hidp hperm
  have HS0 := hidp hsrt
  have G0 : Hid (GrW w b o T cs m m1 ids w1.heap.size AS cS 0 0 none 0 w2) := hidp ⟨by rw [← hln]; exact hnum, ⟨World.ownsRow_nil _ _ _ _, rfl, Nat.le_refl _, by decide, fun _ => ⟨rfl, rfl⟩⟩, GrI.refl m1, ⟨cs1, HL1.out.over hb2, HF1.out.trans (FrL.below hb2)⟩, fun q hq => ⟨by simp [fp], fun hm => by
    have h1 := HL1.out.lt q hq
    have h2 := (own_fp hnum.own q hm).1
    omega⟩, by simp [fp]⟩
  have hN40 : N ≤ 40 := by rw [← HNn.out]; exact hl40
  have HLN := hidp hln
  clear hnum hb2 hperm hsrt hids hres hl40 CA CE hln
  go_wp2_with fail
  go_loopg [3, 14] N (fun g a i wr => ∃ (j n : Nat) (A : Option Addr) (c : Nat), j + g = N ∧ i = .int .i64 j ∧ a = .slice A n c ∧ n ≤ j ∧ Hid (GrW w b o T cs m m1 ids w1.heap.size AS cS j n A c wr))
  case atStart => exact ⟨0, 0, none, 0, by omega, rfl, rfl, by omega, G0⟩
  case round =>
    obtain ⟨j, n, A, c, hj, rfl, rfl, hnj, GJ⟩ := hrel
    by_cases hjn : j < N
    · obtain ⟨cs', L, FR⟩ := GJ.out.lk
      obtain ⟨mm, HM⟩ : ∃ mm, Hid ((grantM m1 (ids.take j)).1 = mm) := ⟨_, hidp rfl⟩
      have hinv := GJ.out.inv
      rw [HM.out] at L FR hinv
      obtain ⟨x, hx, hxl, hrr⟩ := HIN.out j hjn
      have hxm : x < mm.ask.length := by rw [hinv.len]; exact hxl
      rw [← hinv.res x, ← hinv.ks] at hrr
      obtain ⟨r, hr⟩ : ∃ r : Nat, (mm.ask.getD x default).res = (r : Int) := ⟨(mm.ask.getD x default).res.toNat, by omega⟩
      have hrl : r < mm.ks.length := by omega
      have Hr := hidp hr
      obtain ⟨q, HQ⟩ : ∃ q, Hid (mm.ks.getD r 0 = q) := ⟨_, hidp rfl⟩
      have hqm : q ∈ mm.ks := by rw [← HQ.out]; simp [List.getD, hrl]
      have HKey : Hid (keyOf mm x = q) := hidp (by unfold keyOf; rw [Hr.out, Int.toNat_natCast]; exact HQ.out)
      -- the cells that are read
      have hsN : j < ids.length := by rw [← HLN.out]; exact hjn
      obtain ⟨gs, off, hA0, hc⟩ := (Lies.row (B := wr.heap.size) (Lies.of_own GJ.out.src.own)).resolve_left (by intro e; rw [e] at hsN; simp at hsN)
      have cx := hc j hsN
      rw [hx] at cx
      have HXx := hidp hx
      obtain ⟨g, hg, _, _⟩ := L.askers.at_ (by omega)
      have Hg := hidp hg
      have hk : OwnK 0 wr (some ⟨g, 0, none⟩) mm.ask.length mm.ca mm.ask := hg ▸ L.askers
      obtain ⟨x0, x1, x2, x3, x4, x5⟩ := hk.cells hxm
      rw [hr] at x4
      have c1 : wr.cell? ⟨b, o + 1, none⟩ = some (.slice (some ⟨g, 0, none⟩) mm.ask.length mm.ca) := by
        have := L.ac
        rw [hg] at this; exact this
      obtain ⟨gq, hgk, _, _⟩ := ownE_at L.keys (by omega)
      have hkk := L.keys
      rw [hgk] at hkk
      have c2 : wr.cell? ⟨b, o + 2, none⟩ = some (.slice (some ⟨gq, 0, none⟩) mm.ks.length mm.ck) := by
        have := (L.blk.cell _).trans L.c2
        rw [hgk] at this; exact this
      have ckey : wr.cell? ⟨gq, r, none⟩ = some (.chan (some q)) := by
        rcases Lies.of_own hkk with h1 | ⟨b', off', e, _, hcc⟩
        · have h2 : mm.ks = [] := by simpa [keyV] using h1
          rw [h2] at hrl
          simp at hrl
        · injection e with e
          injection e with e1 e2
          subst e1; subst e2
          have := hcc r (.chan (some q)) (by rw [← HQ.out]; simp [keyV, List.getD, hrl])
          simpa using this
      obtain ⟨s, rc, hch⟩ := L.chans q hqm
      have hd1 : decide (N ≤ j) = false := decide_eq_false (by omega)
      have hd2 : decide (mm.ask.length ≤ x) = false := decide_eq_false (by omega)
      have hd3 : decide (mm.ks.length ≤ r) = false := decide_eq_false (by omega)
      have HLm := hidp L
      have HFR := hidp FR
      have Hinv := hidp hinv
      have Hqm := hidp hqm
      clear L FR hinv hqm hk hkk hrr hr hg hgk hx hc x0 x1 x2 x5
      subst hA0
      go_wp2_with fail
      go_quiet (fail)
      go_upto_region 8 with fail
      refine wpS_region [0, 1, 2] (by rfl) ?_
      have hbd : Below wr.heap.size wr (wr.drewN nq) := below_drewN (Below.refl _ _) nq
      by_cases hfr : mm.fr q = true
      · rw [if_pos hfr] at hch
        have hch' : (wr.drewN nq).heap[q]? = some (.chan 1 #[.agg #[]] false s rc false) := hch
        have HLd := hidp (HLm.out.over hbd)
        obtain ⟨cs2, L2, F2⟩ := HLd.out.toK (s := s) (r := rc + 1) (v := false) Hqm.out
        obtain ⟨v, hv⟩ : ∃ v, (wr.drewN nq).setChan q 1 (#[Value.agg #[]].extract 1 #[Value.agg #[]].size) false s (rc + 1) false = v := ⟨_, rfl⟩
        have L2 : Lk v b o T cs2 (mm.putK q false) := hv ▸ L2
        have F2 : FrL (wr.drewN nq) b o 8 T cs' (fpm mm) v cs2 (fpm (mm.putK q false)) := hv ▸ F2
        obtain ⟨cs3, L3, F3⟩ := L2.toA (g := g) (i := x) (f := 3) Hg.out hxm (by decide) (v := .bool true) (x := { mm.ask.getD x default with holds := true }) rfl (L2.wf (mm.ask.getD x default) (by show mm.ask.getD x default ∈ mm.ask; simp [List.getD, hxm]))
        have hk2 : OwnK 0 v (some ⟨g, 0, none⟩) mm.ask.length mm.ca mm.ask := Hg.out ▸ L2.askers
        have z3 := (hk2.cells hxm).2.2.2.1
        have f3 : v.frozen? ⟨g, x * 6 + 3, none⟩ = false := ownE_frozen hk2.own _
        have hl64 : mm.l.length ≤ 64 := by have h1 := Hinv.out.l; have h2 := HNn.out; omega
        have DR := drop_any (id := (x : Int)) L3.row hl64
        have HL3 := hidp L3
        have HF2 := hidp F2
        have HF3 := hidp F3
        clear L2 F2 L3 F3 hk2
        refine wpS_sel_recv (w1 := wr.drewN nq) (blocking := false) (cases := #[rcase q (.agg #[])]) (c := q) (z := .agg #[]) (cap := 1) (buf := #[.agg #[]]) (closed := false) (s := s) (r := rc) (tm := false) 0 rfl rfl (by simp [go_sem, execOp, rcase, Act.eval]) rfl (fun j cc hj hcc => ?_) hch' (by simp) ?_
        · rcases j with _ | j
          · exact absurd rfl hj
          · simp at hcc
        rw [sel_res, hv]
        simp only [Act.put, List.setIfInBounds_toArray, List.set_cons_zero, List.set_cons_succ, List.getElem_toArray, List.getElem_cons_zero, List.getElem_cons_succ]
        clear hv cx c1 c2 ckey x3 x4 hch hch'
        refine wpS_list 1 (L := _) (by simp only [List.drop_succ_cons, List.drop_zero]; rfl) (by rfl) ?_
        go_wp2_with fail
        refine DR.mono ?_
        rintro e v4 ⟨rfl, hr4, ht4⟩
        obtain ⟨cs4, L4, F4⟩ := HL3.out.toR hr4 ht4 (fun k hk => .inl hk)
        have HV : Hid (FrL wr b o 8 T cs' (fpm mm) v4 cs4 (fpm (takeM mm x))) := hidp (by
          have := (FrL.below (b := b) (o := o) (n := 8) (T := T) (cs := cs') (F := fpm mm) hbd).trans (HF2.out.trans (HF3.out.trans F4))
          unfold takeM
          rw [HKey.out]
          exact this)
        have HL4 : Hid (Lk v4 b o T cs4 (takeM mm x)) := hidp (by unfold takeM; rw [HKey.out]; exact L4)
        have hAw : ∀ z ∈ fp A, w.heap.size ≤ z ∧ z < wr.heap.size := fun z hz => own_fp GJ.out.own.1 z hz
        have ow := (GJ.out.own.turned HV.out.turned (fun z hz hm => by
          rcases List.mem_cons.1 hm with rfl | hm
          · have := (hAw _ hz).1; have := HB.out; omega
          · exact (GJ.out.ap z (by rw [HM.out]; exact hm)).1 hz)).1
        have Hws := hidp (Nat.le_trans HFR.out.turned.size HV.out.turned.size)
        have L1 := hidp (Lies.new1 v4 (.int .i64 (x : Int)) 3)
        have hown2 := ow.alloc (.cells #[.int .i64 (x : Int)] 3)
        have K1 : Hid (∀ u ∈ [Value.int .i64 (x : Int)], u.oneCell' = true) := hidp (by simp; rfl)
        have K5 : Hid (n + 1 ≤ maxLen) := hidp (by unfold maxLen; omega)
        have K6 : Hid ((n + 1) * 8 ≤ 140737488355328) := hidp (by omega)
        have Hsz : Hid (w.heap.size ≤ (v4.alloc (.cells #[.int .i64 (x : Int)] 3)).heap.size) := hidp (by have := Hws.out; simp; omega)
        clear L4 F4 hr4 ht4 DR hAw ow z3 f3
        go_wp2_with (at_builtin; refine wpList_app2 _ rfl (.tmp 45) (.tmp 47) 22 rfl w.heap.size 3 i0 (.int .i64 0) 1 8 Tryz.underlying22 hi0 hz0 hz1 hz2 rfl (by decide) A n c _ rfl hown2 _ _ 1 1 [.int .i64 (x : Int)] rfl (by simp) rfl L1.out K1.out K5.out K6.out Hsz.out ?_; intro A' c' w5 happ)
        go_roundg (gk - 1)
        case measure => omega
        case rel =>
          have hba : Below v4.heap.size v4 (v4.alloc (.cells #[.int .i64 (x : Int)] 3)) := (Below.refl _ _).alloc (Nat.le_refl _) _
          have hBw : b < w1.heap.size := Nat.lt_of_lt_of_le HB.out HF1.out.turned.size
          exact ⟨j + 1, n + 1, A', c', by omega, by go_num, rfl, by omega, hidp (GJ.out.hit hsN HXx.out HM.out hxm (by rw [HKey.out]; exact hfr) HFR.out HB.out hBw (HL4.out.over hba) (HV.out.trans (FrL.below hba)) happ)⟩
      · have hfr' : mm.fr q = false := by simpa using hfr
        rw [if_neg hfr] at hch
        have hch' : (wr.drewN nq).heap[q]? = some (.chan 1 #[] false s rc false) := hch
        have GN := hidp (GJ.out.skip hsN HXx.out (by rw [HM.out, HKey.out]; exact hfr') hbd)
        refine wpS_sel_default (w1 := wr.drewN nq) (cases := #[rcase q (.agg #[])]) rfl rfl (by simp [go_sem, execOp, rcase, Act.eval]) (fun cc hcc => ?_) ?_
        · simp only [List.mem_toArray, List.mem_cons, List.not_mem_nil, or_false] at hcc
          subst hcc
          exact noWay_recv hch'
        rw [sel_res_d]
        simp only [Act.put, List.setIfInBounds_toArray, List.set_cons_zero, List.set_cons_succ, List.getElem_toArray, List.getElem_cons_zero, List.getElem_cons_succ]
        refine wpS_list 1 (L := _) (by simp only [List.drop_succ_cons, List.drop_zero]; rfl) (by rfl) ?_
        go_wp2_with fail
        go_roundg (gk - 1)
        case measure => omega
        case rel => exact ⟨j + 1, n, A, c, by omega, by go_num, rfl, by omega, GN⟩
    · obtain rfl : j = N := by omega
      have hAw : ∀ z ∈ fp A, w.heap.size ≤ z := fun z hz => (own_fp GJ.out.own.1 z hz).1
      have SO := sort_own_any GJ.out.own (by have := GJ.out.own.2.1; omega)
      have HAw := hidp hAw
      have hde : decide (j < j) = false := by simp
      clear hAw
      go_wp2_with fail
      refine SO.mono ?_
      rintro e v ⟨rfl, ho, ht⟩
      obtain ⟨csx, L, F⟩ := GJ.out.lk
      have hbA : b ∉ fp A := fun hm => by have := HAw.out b hm; have := HB.out; omega
      have LV := hidp (L.turned ht hbA (fun z hz => (GJ.out.ap z hz).1))
      have FV := hidp (F.turned.trans ht (fun i hi => .inr (HAw.out i hi)))
      have Fsz := hidp F.size
      have Fout := hidp F.out
      have Ffps := hidp F.fps
      have HO := hidp ho
      clear L F ho ht SO
      go_wp2_with fail
      try rw [Exit.noGoto_ret]
      go_ret
      have et : ids.take j = ids := by rw [HLN.out]; exact List.take_length
      have h1 := HO.out
      have h2 := LV.out
      have h3 := FV.out
      have h4 := Ffps.out
      have h5 := GJ.out.ap
      rw [et] at h1 h2 h4 h5
      refine ⟨m1, S, A, n, c, HG1.out, HP0.out, HS0.out, rfl, ?_, ?_, ?_⟩
      · rw [HIds.out]; exact h1
      · rw [HIds.out]; exact ⟨csx, h2, Fsz.out, Fout.out, h3, h4⟩
      · rw [HIds.out]; exact fun z hz => (h5 z hz).1
end
end Go.Proofs.YtppgameimddimaaGreat

namespace Go.Proofs.YtppgameimddimaaGreat
open Go.ChangeShapes Go.WideShapes Go.ChangeAt Go.RowKit
set_option linter.unusedVariables false
set_option linter.unusedSimpArgs false
def askOf (s : Ls) (i : Int) : AskM := match s.get i with
  | none => ⟨s.pri i, s.cls i, false, false, 0, 0⟩
  | some a => ⟨s.pri i, s.cls i, true, a.holds, a.res, if s.proto = 2 then 0 else a.place⟩
def keE (e : EntM) : Int × Int := (e.key, e.id)
def keS (s : Ls) (a : AL) : Int × Int := (keyS s a, a.task)
structure LkR0 (m : LkM) (s : Ls) : Prop where
  proto : m.proto = s.proto
  alen : m.ask.length = s.prio.length
  klen : m.ks.length = s.homes.length
  ask : ∀ i, i < m.ask.length → m.ask.getD i default = askOf s i
  keys : ∀ r q, r < m.ks.length → q < m.ks.length → (m.ks.getD r 0 = m.ks.getD q 0 ↔ sameK s r q = true)
  fr : ∀ r, r < m.ks.length → m.fr (m.ks.getD r 0) = !heldS s r
  room : (s.prio.length : Int) ≤ m.R ∧ m.R ≤ 64
  P : m.P = s.count
  l : (m.l.map keE).Perm ((waitG s).map (keS s))
  places : s.proto ≠ 2 → m.places = s.count
  placesA : 0 ≤ m.places ∧ m.places ≤ s.count
structure LkRD (ds : List DrM) (s : Ls) : Prop where
  len : ds.length = s.cores.length
  at_ : ∀ c, c < ds.length → (ds.getD c default).cores = s.cores.getD c 0 ∧ (ds.getD c default).outs = outsS s c ∧ (s.proto = 3 → (ds.getD c default).ins.Perm (insS s c)) ∧ (s.proto ≠ 3 → (ds.getD c default).ins = [])
theorem LkR0.ids {m : LkM} {s : Ls} (h : LkR0 m s) : (m.l.map EntM.id).Perm ((waitG s).map AL.task) := by
  have := h.l.map Prod.snd
  simpa [List.map_map, Function.comp_def, keE, keS] using this
theorem LkR0.ids_nd {m : LkM} {s : Ls} (h : LkR0 m s) (ho : LsOk s) : (m.l.map EntM.id).Nodup := h.ids.nodup_iff.2 (ho.nd.sublist (List.filter_sublist.map _))
theorem LkR0.l_len {m : LkM} {s : Ls} (h : LkR0 m s) : m.l.length = (waitG s).length := by simpa using h.l.length_eq
theorem waitG_lt {s : Ls} (ho : LsOk s) {t : Int} (ht : s.has t) (hw : ∀ a ∈ waitG s, a.task ≠ t) : (waitG s).length < s.prio.length := by
  have h1 := len_sub (l := t :: (waitG s).map AL.task) (m := (List.range s.prio.length).map fun n : Nat => (n : Int)) ?_ ?_
  · simp at h1; omega
  · rw [List.nodup_cons]
    refine ⟨fun hm => ?_, ho.nd.sublist (List.filter_sublist.map _)⟩
    obtain ⟨a, ha, e⟩ := List.mem_map.1 hm
    exact hw a ha e
  · intro x hx
    have hx' : s.has x := by
      rcases List.mem_cons.1 hx with rfl | hx
      · exact ht
      · obtain ⟨a, ha, rfl⟩ := List.mem_map.1 hx
        exact ho.tk a (mem_waitG.1 ha).1
    unfold Ls.has at hx'
    exact List.mem_map.2 ⟨x.toNat, by rw [List.mem_range]; omega, by omega⟩
/-- what a row without id is -/
theorem dropL_perm {l : List EntM} {id : Int} (hn : (l.map EntM.id).Nodup) : ((dropL l id).map keE).Perm ((l.map keE).filter fun p => !(p.2 == id)) := by
  unfold dropL
  cases hb : bestE l id l.length with
  | none =>
    have h1 := bestE_none l.length hb
    rw [List.filter_eq_self.2]
    intro p hp
    obtain ⟨e, he, rfl⟩ := List.mem_map.1 hp
    obtain ⟨i, hi, rfl⟩ := List.getElem_of_mem he
    have := h1 i hi
    rw [atE_get hi] at this
    simpa [keE] using this
  | some f =>
    have hf := bestE_lt _ hb
    have h1 := bestE_id _ _ hb
    have hp := remove_perm_at hf
    have h2 := (hp.map keE).filter (fun p => !(p.2 == id))
    rw [List.map_cons, List.filter_cons_of_neg (by show ¬ (!((atE l f).id == id)) = true; rw [h1]; simp)] at h2
    have hnn : ((atE l f :: removeL l f).map EntM.id).Nodup := (hp.map EntM.id).nodup_iff.2 hn
    rw [List.map_cons, List.nodup_cons] at hnn
    rw [List.filter_eq_self.2] at h2
    · exact h2
    · intro p hp2
      obtain ⟨e, he, rfl⟩ := List.mem_map.1 hp2
      have : e.id ≠ id := fun e2 => hnn.1 (by rw [h1, ← e2]; exact List.mem_map_of_mem he)
      simpa [keE] using this
theorem keyS_same {s s' : Ls} (h : SameLs s s') (a : AL) : keyS s' a = keyS s a := by unfold keyS Ls.pri; rw [h.proto, h.prio]
theorem keS_same {s s' : Ls} (h : SameLs s s') : keS s' = keS s := by funext a; unfold keS; rw [keyS_same h]
theorem sameK_same {s s' : Ls} (h : SameLs s s') (r q : Int) : sameK s' r q = sameK s r q := by unfold sameK Ls.home; rw [h.proto, h.homes]
theorem ent_filter (s : Ls) (t : Int) (L : List AL) : (L.map (keS s)).filter (fun p => !(p.2 == t)) = (L.filter fun a => !(a.task == t)).map (keS s) := by
  rw [List.filter_map]; rfl
section
variable {m : LkM} {s : Ls}
theorem LkR0.asked (h : LkR0 m s) {n : Nat} (hn : n < m.ask.length) : (m.ask.getD n default).asked = (s.get n).isSome := by
  rw [h.ask n hn]
  unfold askOf
  cases s.get n <;> rfl
theorem LkR0.has (h : LkR0 m s) (n : Nat) : n < m.ask.length ↔ s.has n := by unfold Ls.has; rw [h.alen]; omega
/-- fair, token: a place behind all; what is waited for is there -/
theorem LkR0.placed (h : LkR0 m s) (ho : LsOk s) {a : AL} (ha : a ∈ s.L) (h0 : a.place = 0) (hp : s.proto ≠ 2) (A : Option Addr) (c : Nat) : LkR0 (placeM m a.task.toNat A c) (placeS s a.task) := by
  have hs : SameLs s (placeS s a.task) := ⟨rfl, rfl, rfl, rfl, rfl⟩
  have ht := ho.tk a ha
  have hn : a.task.toNat < m.ask.length := (h.has _).2 (by unfold Ls.has at *; omega)
  have hpl := h.places hp
  have ec : ((a.task.toNat : Nat) : Int) = a.task := by unfold Ls.has at ht; omega
  have hwn : a.waits = false := by simp [AL.waits, h0]
  have hc := ho.c0
  refine ⟨h.proto, ?_, h.klen, fun i hi => ?_, h.keys, fun r hr => ?_, h.room, ?_, ?_, fun _ => ?_, ?_⟩
  · show (m.ask.set _ _).length = _
    rw [List.length_set]; exact h.alen
  · have hi' : i < m.ask.length := by have : i < (m.ask.set _ _).length := hi; rwa [List.length_set] at this
    show (m.ask.set a.task.toNat _).getD i default = _
    rw [getD_set' hn]
    have e1 := h.ask _ hi'
    have en := h.ask _ hn
    unfold askOf at e1 en ⊢
    rw [get_place]
    split
    · rename_i e
      subst e
      rw [ec, ho.get_of ha] at en ⊢
      rw [en]
      have : placeF a.task (s.count + 1) a = { a with place := s.count + 1 } := by unfold placeF; rw [if_pos rfl]
      simp only [Option.map_some, this]
      rw [if_neg (show (placeS s a.task).proto ≠ 2 from hp), hpl]
      rfl
    · rename_i e
      rw [e1]
      cases hg : s.get i with
      | none => rfl
      | some b =>
        obtain ⟨_, hb⟩ := get_mem hg
        have : placeF a.task (s.count + 1) b = b := by unfold placeF; rw [if_neg (by omega)]
        simp only [Option.map_some, this]
        rfl
  · rw [heldS_place]; exact h.fr r hr
  · show m.P + 1 = s.count + 1
    rw [h.P]
  · have hlen : m.l.length < (m.l ++ [(⟨m.places + 1, m.P, a.task.toNat⟩ : EntM)]).length := by simp
    refine ((riseL_perm _ _ hlen).map keE).trans ?_
    rw [List.map_append]
    refine (h.l.append_right _).trans ?_
    refine List.Perm.trans ?_ (((waitG_place s ho ha h0).map _).symm)
    rw [keS_same hs, List.map_append]
    have : [(⟨m.places + 1, m.P, a.task.toNat⟩ : EntM)].map keE = [placeF a.task (s.count + 1) a].map (keS s) := by
      have e2 : placeF a.task (s.count + 1) a = { a with place := s.count + 1 } := by unfold placeF; rw [if_pos rfl]
      rw [e2]
      simp only [List.map_cons, List.map_nil, keE, keS, keyS, if_neg hp, hpl, ec]
    rw [this]
  · show m.places + 1 = s.count + 1
    rw [hpl]
  · show 0 ≤ m.places + 1 ∧ m.places + 1 ≤ s.count + 1
    have := h.placesA; omega
theorem askOf_app {s s' : Ls} (hs : SameLs s s') {x : AL} (hL : s'.L = s.L ++ [x]) (hn : s.get x.task = none) (i : Int) : askOf s' i = if i = x.task then ⟨s.pri i, s.cls i, true, x.holds, x.res, if s.proto = 2 then 0 else x.place⟩ else askOf s i := by
  have hg : s'.get i = if i = x.task then some x else s.get i := by
    have := get_app s x i hn
    unfold Ls.get at *
    rw [hL]; exact this
  unfold askOf
  rw [hg]
  have e1 : s'.pri i = s.pri i := by unfold Ls.pri; rw [hs.prio]
  have e2 : s'.cls i = s.cls i := by unfold Ls.cls; rw [hs.cl]
  rw [e1, e2, hs.proto]
  by_cases e : i = x.task
  · rw [if_pos e, if_pos e]
  · rw [if_neg e, if_neg e]
theorem askOf_none {s : Ls} {i : Int} (h : s.get i = none) : askOf s i = ⟨s.pri i, s.cls i, false, false, 0, 0⟩ := by unfold askOf; rw [h]
theorem LkR0.askFair (h : LkR0 m s) (ho : LsOk s) {n : Nat} {r : Int} (hn : n < m.ask.length) (hr : s.hasR r) (hg : s.get n = none) (hp2 : s.proto ≠ 2) (hp3 : s.proto ≠ 3) (A : Option Addr) (c : Nat) : LkR0 (placeM (askM m n r) n A c) (askN s n r) := by
  have hs : SameLs s (askN s n r) := by unfold askN; split <;> exact ⟨rfl, rfl, rfl, rfl, rfl⟩
  have eL : (askN s n r).L = s.L ++ [⟨n, r, s.count + 1, false⟩] := by unfold askN; rw [if_neg hp3]
  have eC : (askN s n r).count = s.count + 1 := by unfold askN; rw [if_neg hp3]
  have hpl := h.places hp2
  have hc := ho.c0
  have e0 := h.ask n hn
  rw [askOf_none hg] at e0
  have hlA : (askM m n r).ask.length = m.ask.length := askM_len n r
  refine ⟨h.proto.trans hs.proto.symm, ?_, h.klen.trans (by rw [hs.homes]), fun i hi => ?_, fun a b ha hb => by rw [sameK_same hs]; exact h.keys a b ha hb, fun q hq => ?_, by rw [hs.prio]; exact h.room, ?_, ?_, fun _ => ?_, ?_⟩
  · show ((m.ask.set _ _).set _ _).length = _
    rw [List.length_set, List.length_set, hs.prio]; exact h.alen
  · have hi' : i < m.ask.length := by have : i < ((m.ask.set _ _).set _ _).length := hi; rwa [List.length_set, List.length_set] at this
    rw [askOf_app hs eL hg]
    show ((m.ask.set n { m.ask.getD n default with asked := true, res := r }).set n { (m.ask.set n { m.ask.getD n default with asked := true, res := r }).getD n default with place := m.places + 1 }).getD i default = _
    rw [getD_set' (by rw [List.length_set]; exact hn), getD_set' hn, getD_set' hn, if_pos rfl, e0]
    by_cases e : i = n
    · subst e
      rw [if_pos rfl, if_pos rfl, if_neg hp2, hpl]
    · rw [if_neg e, if_neg e, if_neg (show ¬ (i : Int) = n by omega)]
      exact h.ask i hi'
  · rw [heldS_ask]; exact h.fr q hq
  · rw [eC]; show m.P + 1 = _; rw [h.P]
  · have hlen : m.l.length < (m.l ++ [(⟨m.places + 1, m.P, n⟩ : EntM)]).length := by simp
    refine ((riseL_perm _ _ hlen).map keE).trans ?_
    rw [waitG_ask s _ _ hc, if_neg hp3, keS_same hs, List.map_append, List.map_append]
    have : [(⟨m.places + 1, m.P, n⟩ : EntM)].map keE = [(⟨n, r, s.count + 1, false⟩ : AL)].map (keS s) := by
      simp only [List.map_cons, List.map_nil, keE, keS, keyS, if_neg hp2, hpl]
    rw [this]
    exact h.l.append_right _
  · rw [eC]; show m.places + 1 = s.count + 1; rw [hpl]
  · rw [eC]; show 0 ≤ m.places + 1 ∧ m.places + 1 ≤ s.count + 1
    have := h.placesA; omega
theorem LkR0.askAgent (h : LkR0 m s) (ho : LsOk s) {n : Nat} {r : Int} (hn : n < m.ask.length) (hr : s.hasR r) (hg : s.get n = none) (hp2 : s.proto = 2) (A : Option Addr) (c : Nat) : LkR0 ((askM m n r).putR (m.P + 1) (riseL (m.l ++ [⟨(m.ask.getD n default).prio, m.P, n⟩]) m.l.length) A c) (askN s n r) := by
  have hp3 : s.proto ≠ 3 := by omega
  have hs : SameLs s (askN s n r) := by unfold askN; split <;> exact ⟨rfl, rfl, rfl, rfl, rfl⟩
  have eL : (askN s n r).L = s.L ++ [⟨n, r, s.count + 1, false⟩] := by unfold askN; rw [if_neg hp3]
  have eC : (askN s n r).count = s.count + 1 := by unfold askN; rw [if_neg hp3]
  have hc := ho.c0
  have e0 := h.ask n hn
  rw [askOf_none hg] at e0
  refine ⟨h.proto.trans hs.proto.symm, ?_, h.klen.trans (by rw [hs.homes]), fun i hi => ?_, fun a b ha hb => by rw [sameK_same hs]; exact h.keys a b ha hb, fun q hq => ?_, by rw [hs.prio]; exact h.room, ?_, ?_, fun hx => absurd (hs.proto.trans hp2) hx, ?_⟩
  · show (m.ask.set _ _).length = _
    rw [List.length_set, hs.prio]; exact h.alen
  · have hi' : i < m.ask.length := by have : i < (m.ask.set _ _).length := hi; rwa [List.length_set] at this
    rw [askOf_app hs eL hg]
    show (m.ask.set n { m.ask.getD n default with asked := true, res := r }).getD i default = _
    rw [getD_set' hn, e0]
    by_cases e : i = n
    · subst e
      rw [if_pos rfl, if_pos rfl, if_pos hp2]
    · rw [if_neg e, if_neg (show ¬ (i : Int) = n by omega)]
      exact h.ask i hi'
  · rw [heldS_ask]; exact h.fr q hq
  · rw [eC]; show m.P + 1 = _; rw [h.P]
  · have hlen : m.l.length < (m.l ++ [(⟨(m.ask.getD n default).prio, m.P, n⟩ : EntM)]).length := by simp
    refine ((riseL_perm _ _ hlen).map keE).trans ?_
    rw [waitG_ask s _ _ hc, if_neg hp3, keS_same hs, List.map_append, List.map_append]
    have : [(⟨(m.ask.getD n default).prio, m.P, n⟩ : EntM)].map keE = [(⟨n, r, s.count + 1, false⟩ : AL)].map (keS s) := by
      rw [e0]
      simp only [List.map_cons, List.map_nil, keE, keS, keyS, if_pos hp2]
    rw [this]
    exact h.l.append_right _
  · rw [eC]; show 0 ≤ m.places ∧ m.places ≤ s.count + 1
    have := h.placesA; omega
theorem LkR0.askToken (h : LkR0 m s) (ho : LsOk s) {n k : Nat} {r : Int} (hn : n < m.ask.length) (hr : s.hasR r) (hg : s.get n = none) (hp3 : s.proto = 3) (d : DrM) (F : List Nat) : LkR0 ((askM m n r).putD k d F) (askN s n r) := by
  have hp2 : s.proto ≠ 2 := by omega
  have hs : SameLs s (askN s n r) := by unfold askN; split <;> exact ⟨rfl, rfl, rfl, rfl, rfl⟩
  have eL : (askN s n r).L = s.L ++ [⟨n, r, 0, false⟩] := by unfold askN; rw [if_pos hp3]
  have eC : (askN s n r).count = s.count := by unfold askN; rw [if_pos hp3]
  have hc := ho.c0
  have e0 := h.ask n hn
  rw [askOf_none hg] at e0
  refine ⟨h.proto.trans hs.proto.symm, ?_, h.klen.trans (by rw [hs.homes]), fun i hi => ?_, fun a b ha hb => by rw [sameK_same hs]; exact h.keys a b ha hb, fun q hq => ?_, by rw [hs.prio]; exact h.room, by rw [eC]; exact h.P, ?_, fun _ => by rw [eC]; exact h.places hp2, by rw [eC]; exact h.placesA⟩
  · show (m.ask.set _ _).length = _
    rw [List.length_set, hs.prio]; exact h.alen
  · have hi' : i < m.ask.length := by have : i < (m.ask.set _ _).length := hi; rwa [List.length_set] at this
    rw [askOf_app hs eL hg]
    show (m.ask.set n { m.ask.getD n default with asked := true, res := r }).getD i default = _
    rw [getD_set' hn, e0]
    by_cases e : i = n
    · subst e
      rw [if_pos rfl, if_pos rfl, if_neg hp2]
    · rw [if_neg e, if_neg (show ¬ (i : Int) = n by omega)]
      exact h.ask i hi'
  · rw [heldS_ask]; exact h.fr q hq
  · rw [waitG_ask s _ _ hc, if_pos hp3, keS_same hs]
    exact h.l
/-- a task has gone; it waited, or it held and gave its key back -/
theorem LkR0.gone (h : LkR0 m s) (ho : LsOk s) {a : AL} (ha : a ∈ s.L) (k : Nat) (F : List Nat) {m1 : LkM} (hm1 : m1 = if a.holds = true then m.putK (m.ks.getD a.res.toNat 0) true else m) : LkR0 (goneM m1 a.task.toNat k F) (leaveS s a.task) := by
  have hs : SameLs s (leaveS s a.task) := ⟨rfl, rfl, rfl, rfl, rfl⟩
  have ht := ho.tk a ha
  have hn : a.task.toNat < m.ask.length := (h.has _).2 (by unfold Ls.has at *; omega)
  have ec : ((a.task.toNat : Nat) : Int) = a.task := by unfold Ls.has at ht; omega
  have en := h.ask _ hn
  rw [ec] at en
  unfold askOf at en
  rw [ho.get_of ha] at en
  have e1 : m1.proto = m.proto ∧ m1.ask = m.ask ∧ m1.ks = m.ks ∧ m1.R = m.R ∧ m1.P = m.P ∧ m1.l = m.l ∧ m1.places = m.places := by
    subst hm1; split <;> exact ⟨rfl, rfl, rfl, rfl, rfl, rfl, rfl⟩
  obtain ⟨q1, q2, q3, q4, q5, q6, q7⟩ := e1
  refine ⟨q1.trans h.proto, ?_, ?_, fun i hi => ?_, ?_, fun r hr => ?_, ?_, q5.trans h.P, ?_, fun hp => q7.trans (h.places hp), ?_⟩
  · show (m1.ask.set _ _).length = _
    rw [List.length_set, q2]; exact h.alen
  · show m1.ks.length = _
    rw [q3]; exact h.klen
  · have hi' : i < m.ask.length := by have : i < (m1.ask.set _ _).length := hi; rwa [List.length_set, q2] at this
    show (m1.ask.set a.task.toNat _).getD i default = _
    rw [q2, getD_set' hn]
    have e1 := h.ask _ hi'
    unfold askOf at e1 ⊢
    rw [get_leave]
    split
    · rename_i e
      subst e
      rw [ec, if_pos rfl, en]
      rfl
    · rename_i e
      rw [if_neg (by omega), e1]
      rfl
  · intro r q hr hq
    have hr' : r < m.ks.length := by have : r < m1.ks.length := hr; rwa [q3] at this
    have hq' : q < m.ks.length := by have : q < m1.ks.length := hq; rwa [q3] at this
    show (m1.ks.getD r 0 = m1.ks.getD q 0 ↔ _)
    rw [q3]
    exact h.keys r q hr' hq'
  · have hr' : r < m.ks.length := by have : r < m1.ks.length := hr; rwa [q3] at this
    show m1.fr (m1.ks.getD r 0) = _
    rw [q3]
    have hra := ho.rs a ha
    have hal : a.res.toNat < m.ks.length := by rw [h.klen]; unfold Ls.hasR at hra; omega
    have eca : ((a.res.toNat : Nat) : Int) = a.res := by unfold Ls.hasR at hra; omega
    by_cases hh : a.holds = true
    · rw [if_pos hh] at hm1
      rw [hm1, heldS_leave_holds ho ha hh]
      show (if m.ks.getD r 0 = m.ks.getD a.res.toNat 0 then true else m.fr (m.ks.getD r 0)) = _
      have hk := h.keys r _ hr' hal
      rw [eca] at hk
      by_cases ek : m.ks.getD r 0 = m.ks.getD a.res.toNat 0
      · rw [if_pos ek]
        have := hk.1 ek
        rw [sameK_symm] at this
        rw [this]; simp
      · rw [if_neg ek, h.fr r hr']
        have : sameK s a.res r = false := by
          cases e : sameK s a.res r with
          | false => rfl
          | true => exact absurd (hk.2 (by rw [sameK_symm]; exact e)) ek
        rw [this]; simp
    · rw [if_neg hh] at hm1
      rw [hm1, heldS_leave_waits ho ha (by simpa using hh)]
      exact h.fr r hr'
  · show _ ≤ m1.R ∧ m1.R ≤ _
    rw [q4]; exact h.room
  · show ((dropL m1.l _).map keE).Perm _
    rw [q6, ec, waitG_leave, keS_same hs]
    refine (dropL_perm (h.ids_nd ho)).trans ?_
    rw [← ent_filter]
    exact h.l.filter _
  · show 0 ≤ m1.places ∧ m1.places ≤ _
    rw [q7]; exact h.placesA
/-- a task takes its key -/
theorem LkR0.take (h : LkR0 m s) (ho : LsOk s) {a : AL} (ha : a ∈ s.L) : LkR0 (takeM m a.task.toNat) (holdS s a.task) := by
  have hs : SameLs s (holdS s a.task) := ⟨rfl, rfl, rfl, rfl, rfl⟩
  have ht := ho.tk a ha
  have hn : a.task.toNat < m.ask.length := (h.has _).2 (by unfold Ls.has at *; omega)
  have ec : ((a.task.toNat : Nat) : Int) = a.task := by unfold Ls.has at ht; omega
  have en := h.ask _ hn
  rw [ec] at en
  unfold askOf at en
  rw [ho.get_of ha] at en
  have hra := ho.rs a ha
  have hal : a.res.toNat < m.ks.length := by rw [h.klen]; unfold Ls.hasR at hra; omega
  have eca : ((a.res.toNat : Nat) : Int) = a.res := by unfold Ls.hasR at hra; omega
  refine ⟨h.proto, ?_, h.klen, fun i hi => ?_, h.keys, fun r hr => ?_, h.room, h.P, ?_, h.places, h.placesA⟩
  · show (m.ask.set _ _).length = _
    rw [List.length_set]; exact h.alen
  · have hi' : i < m.ask.length := by have : i < (m.ask.set _ _).length := hi; rwa [List.length_set] at this
    show (m.ask.set a.task.toNat { m.ask.getD a.task.toNat default with holds := true }).getD i default = _
    rw [getD_set' hn]
    have e1 := h.ask _ hi'
    unfold askOf at e1 ⊢
    rw [get_hold]
    split
    · rename_i e
      subst e
      rw [ec, ho.get_of ha, en]
      have : holdF a.task a = { a with holds := true } := by unfold holdF; rw [if_pos rfl]
      simp only [Option.map_some, this]
      rfl
    · rename_i e
      rw [e1]
      cases hg : s.get i with
      | none => rfl
      | some b =>
        obtain ⟨_, hb⟩ := get_mem hg
        have : holdF a.task b = b := by unfold holdF; rw [if_neg (by omega)]
        simp only [Option.map_some, this]
        rfl
  · show (if m.ks.getD r 0 = keyOf m a.task.toNat then false else m.fr (m.ks.getD r 0)) = _
    have ek : keyOf m a.task.toNat = m.ks.getD a.res.toNat 0 := by unfold keyOf; rw [en]
    rw [ek, heldS_hold ho ha]
    have hk := h.keys r _ hr hal
    rw [eca] at hk
    by_cases e : m.ks.getD r 0 = m.ks.getD a.res.toNat 0
    · rw [if_pos e]
      have := hk.1 e
      rw [sameK_symm] at this
      rw [this]; simp
    · rw [if_neg e, h.fr r hr]
      have : sameK s a.res r = false := by
        cases e2 : sameK s a.res r with
        | false => rfl
        | true => exact absurd (hk.2 (by rw [sameK_symm]; exact e2)) e
      rw [this]; simp
  · show ((dropL m.l _).map keE).Perm _
    rw [ec, waitG_hold, keS_same hs]
    refine (dropL_perm (h.ids_nd ho)).trans ?_
    rw [← ent_filter]
    exact h.l.filter _
end
end Go.Proofs.YtppgameimddimaaGreat

namespace Go.Proofs.YtppgameimddimaaGreat
open Go.ChangeShapes Go.WideShapes Go.ChangeAt Go.RowKit
set_option linter.unusedVariables false
set_option linter.unusedSimpArgs false
theorem filter_one {l : List Int} {t : Int} (h : t ∉ l) : (l.filter fun x => !(x == t)) = l := List.filter_eq_self.2 fun x hx => by
  have : x ≠ t := fun e => h (e ▸ hx)
  simpa using this
theorem dropI_filter {l : List Int} (h : l.Nodup) (t : Int) : dropI l t = l.filter fun x => !(x == t) := by
  unfold dropI plK plN
  by_cases hm : t ∈ l
  · rw [if_pos (by simpa using hm), if_pos hm]
    induction l with
    | nil => simp at hm
    | cons x l ih =>
      obtain ⟨h1, h2⟩ := List.nodup_cons.1 h
      by_cases e : x = t
      · subst e
        rw [List.idxOf_cons_self, List.eraseIdx_cons_zero, List.filter_cons_of_neg (by simp), filter_one h1]
      · have hm2 : t ∈ l := by
          rcases List.mem_cons.1 hm with h3 | h3
          · exact absurd h3.symm e
          · exact h3
        have e2 : (x :: l).idxOf t = l.idxOf t + 1 := by
          have e3 : (x == t) = false := by simpa using e
          rw [List.idxOf_cons, e3]; rfl
        rw [e2, List.eraseIdx_cons_succ, List.filter_cons_of_pos (by simpa using e), ih h2 hm2]
  · rw [if_neg (by simpa using hm), filter_one hm]
section
variable {ds : List DrM} {s : Ls}
theorem LkRD.askOther (h : LkRD ds s) (ho : LsOk s) (hp : s.proto ≠ 3) (t r : Int) : LkRD ds (askN s t r) := by
  have hs : SameLs s (askN s t r) := by unfold askN; split <;> exact ⟨rfl, rfl, rfl, rfl, rfl⟩
  refine ⟨h.len.trans (by rw [hs.cores]), fun c hc => ?_⟩
  obtain ⟨h1, h2, h3, h4⟩ := h.at_ c hc
  rw [hs.cores, hs.proto, outsS_ask s t r c ho.c0, if_neg (fun h => hp h.1)]
  exact ⟨h1, h2, fun hx => absurd hx hp, h4⟩
theorem LkRD.askToken (h : LkRD ds s) (ho : LsOk s) (hp : s.proto = 3) {t : Int} {k : Nat} (hk : k < ds.length) (hc : s.cls t = (k : Int)) (r : Int) : LkRD (ds.set k { ds.getD k default with outs := (ds.getD k default).outs ++ [t] }) (askN s t r) := by
  have hs : SameLs s (askN s t r) := by unfold askN; split <;> exact ⟨rfl, rfl, rfl, rfl, rfl⟩
  refine ⟨by rw [List.length_set, hs.cores]; exact h.len, fun c hc' => ?_⟩
  rw [List.length_set] at hc'
  obtain ⟨h1, h2, h3, h4⟩ := h.at_ c hc'
  rw [hs.cores, hs.proto, outsS_ask s t r c ho.c0, insS_ask s t r c hp, getD_set' hk]
  by_cases e : c = k
  · subst e
    rw [if_pos rfl, if_pos ⟨hp, hc⟩]
    exact ⟨h1, by show _ ++ _ = _; rw [h2], h3, fun hx => absurd hp hx⟩
  · rw [if_neg e, if_neg (fun hx => e (by have := hx.2; omega))]
    exact ⟨h1, h2, h3, h4⟩
theorem LkRD.leave (h : LkRD ds s) (ho : LsOk s) {a : AL} (ha : a ∈ s.L) {k : Nat} (hk : k < ds.length) (hc : s.cls a.task = (k : Int)) : LkRD (ds.set k (leaveD (ds.getD k default) a.task)) (leaveS s a.task) := by
  refine ⟨by rw [List.length_set]; exact h.len, fun c hc' => ?_⟩
  rw [List.length_set] at hc'
  obtain ⟨h1, h2, h3, h4⟩ := h.at_ c hc'
  rw [outsS_leave, insS_leave, getD_set' hk]
  by_cases e : c = k
  · subst e
    rw [if_pos rfl]
    refine ⟨h1, ?_, fun hp => ?_, fun hp => ?_⟩
    · show dropI _ _ = _
      rw [h2, dropI_filter (outsS_nd ho c)]
    · exact (h3 hp).filter _
    · show besides _ _ = _
      unfold besides
      rw [h4 hp]; rfl
  · rw [if_neg e]
    have n1 : a.task ∉ outsS s c := fun hm => by
      obtain ⟨_, _, e1, _, e2⟩ := mem_outsS.1 hm
      omega
    have n2 : a.task ∉ insS s c := fun hm => by
      obtain ⟨b, hb, e1⟩ := List.mem_map.1 hm
      have := (List.mem_filter.1 hb).2
      simp only [AL.inAt, Bool.and_eq_true, beq_iff_eq] at this
      rw [e1] at this
      omega
    rw [filter_one n1, filter_one n2]
    exact ⟨h1, h2, h3, h4⟩
theorem LkRD.hold (h : LkRD ds s) (t : Int) : LkRD ds (holdS s t) := by
  refine ⟨h.len, fun c hc => ?_⟩
  obtain ⟨h1, h2, h3, h4⟩ := h.at_ c hc
  rw [outsS_hold, insS_hold]
  exact ⟨h1, h2, h3, h4⟩
theorem entDs_all (ds : List DrM) : entDs ds ds.length = ds.map entF := by simp [entDs]
theorem LkRD.num (h : LkRD ds s) (ho : LsOk s) {c : Nat} (hc : c < ds.length) : enterN (ds.getD c default) = numS s c := by
  obtain ⟨h1, h2, h3, h4⟩ := h.at_ c hc
  unfold enterN numS
  rw [h1, h2]
  by_cases hp : s.proto = 3
  · rw [(h3 hp).length_eq]
  · have : outsS s c = [] := by
      rcases hz : outsS s c with _ | ⟨x, l⟩
      · rfl
      · obtain ⟨a, ha, _, h0, _⟩ := mem_outsS.1 (show x ∈ outsS s c by rw [hz]; simp)
        have := ho.tok hp a ha
        omega
    rw [this]; simp
theorem LkRD.let_ (h : LkRD ds s) (ho : LsOk s) : LkRD (entDs ds ds.length) (letS s) := by
  have hs : SameLs s (letS s) := same_place _ s
  rw [entDs_all]
  refine ⟨by rw [List.length_map, hs.cores]; exact h.len, fun c hc => ?_⟩
  rw [List.length_map] at hc
  obtain ⟨h1, h2, h3, h4⟩ := h.at_ c hc
  have e : (ds.map entF).getD c default = entF (ds.getD c default) := by simp [List.getD, hc]
  have hcc : c < s.cores.length := by rw [← h.len]; exact hc
  have hnum := h.num ho hc
  rw [e, hs.cores, hs.proto]
  unfold entF
  rw [hnum]
  refine ⟨h1, ?_, fun hp => ?_, fun hp => ?_⟩
  · show List.drop _ _ = _
    rw [h2, outsS_let ho hcc]
  · show List.Perm (_ ++ List.take _ _) _
    rw [h2]
    exact ((h3 hp).append_right _).trans (insS_let ho hcc).symm
  · show _ ++ List.take _ _ = _
    have : outsS s c = [] := by
      rcases hz : outsS s c with _ | ⟨x, l⟩
      · rfl
      · obtain ⟨a, ha, _, h0, _⟩ := mem_outsS.1 (show x ∈ outsS s c by rw [hz]; simp)
        have := ho.tok hp a ha
        omega
    rw [h2, this, h4 hp]; simp
theorem map_range (l : List DrM) : (List.range l.length).map (fun c => l.getD c default) = l := by
  refine List.ext_getElem (by simp) fun i h1 h2 => ?_
  simp [List.getD, h2]
theorem flat_range {β : Type} (l : List DrM) (f : DrM → List β) : l.flatMap f = (List.range l.length).flatMap fun c => f (l.getD c default) := by
  conv => lhs; rw [← map_range l]
  rw [List.flatMap_map]
theorem LkRD.news (h : LkRD ds s) (ho : LsOk s) : sortI (entL ds ds.length) = newS s := by
  unfold sortI newS entL
  rw [List.take_length, flat_range, h.len]
  congr 1
  rw [List.flatMap_def, List.flatMap_def]
  congr 1
  refine List.map_congr_left fun c hc => ?_
  rw [List.mem_range, ← h.len] at hc
  rw [h.num ho hc, (h.at_ c hc).2.1]
end
/-- all of these placed -/
theorem fold_PlR (xs : List Int) : ∀ {m m' : LkM} {s : Ls}, PlR m xs m' → LkR0 m s → LsOk s → (xs = [] ∨ s.proto = 3) → xs.Nodup → (∀ t ∈ xs, ∃ a ∈ s.L, a.task = t ∧ a.place = 0) → LkR0 m' (xs.foldl placeS s) ∧ m'.ds = m.ds := by
  induction xs with
  | nil =>
    intro m m' s hp h ho _ _ _
    have e : m' = m := hp
    subst e
    exact ⟨h, rfl⟩
  | cons x xs ih =>
    intro m m' s hp h ho h3 hn hx
    obtain ⟨A, c, hp2⟩ := hp
    have hp3 : s.proto = 3 := h3.resolve_left (by simp)
    obtain ⟨ht, hn2⟩ := List.nodup_cons.1 hn
    obtain ⟨a, ha, e, h0⟩ := hx x (by simp)
    subst e
    have h1 := h.placed ho ha h0 (by omega) A c
    obtain ⟨i1, i2⟩ := ih hp2 h1 (ho.place _ hp3) (.inr hp3) hn2 fun u hu => by
      obtain ⟨b, hb, e2, h2⟩ := hx u (List.mem_cons_of_mem _ hu)
      have hne : b.task ≠ a.task := fun e3 => ht (by rw [← e3, e2]; exact hu)
      exact ⟨b, placeS_out hb hne, e2, h2⟩
    exact ⟨i1, i2.trans rfl⟩
/-- what is to be granted comes in the row's order -/
theorem cand_ids {m : LkM} {s : Ls} (h : LkR0 m s) (ho : LsOk s) {S : List EntM} (hp : S.Perm m.l) (hs : SortedE S) : S.map EntM.id = (candS s).map AL.task := by
  have hpk : (S.map keE).Perm ((candS s).map (keS s)) := ((hp.map keE).trans h.l).trans ((List.mergeSort_perm _ _).symm.map _)
  have h1 : (S.map keE).Pairwise (fun p q => p.1 ≤ q.1) := by
    rw [List.pairwise_map, List.pairwise_iff_getElem]
    intro i j hi hj hij
    have := hs i j hij hj
    rw [atE_get hi, atE_get hj] at this
    unfold lessE at this
    rw [Bool.or_eq_false_iff] at this
    have := of_decide_eq_false this.1
    show S[i].key ≤ S[j].key
    omega
  have h2 : ((candS s).map (keS s)).Pairwise (fun p q => p.1 ≤ q.1) := by
    rw [List.pairwise_map]
    have := List.pairwise_mergeSort (le := fun a b => decide (keyS s a ≤ keyS s b)) (fun a b c h1 h2 => by simp at *; omega) (fun a b => by simp; omega) (waitG s)
    exact this.imp fun h => by simpa [keS] using h
  have hc : ∀ a, a ∈ candS s ↔ a ∈ waitG s := fun a => (List.mergeSort_perm _ _).mem_iff
  have e : S.map keE = (candS s).map (keS s) := by
    refine List.Perm.eq_of_pairwise (le := fun p q => p.1 ≤ q.1) ?_ h1 h2 hpk
    intro p q hp hq h3 h4
    obtain ⟨a, ha, rfl⟩ := List.mem_map.1 (hpk.mem_iff.1 hp)
    obtain ⟨b, hb, rfl⟩ := List.mem_map.1 hq
    rw [hc, mem_waitG] at ha hb
    have hk : keyS s a = keyS s b := by simp only [keS] at h3 h4; omega
    have ht : a.task = b.task := by
      unfold keyS at hk
      split at hk
      · rename_i hp2
        exact ho.pri hp2 _ _ (ho.tk a ha.1) (ho.tk b hb.1) hk
      · exact ho.pd a ha.1 b hb.1 ha.2.2 hk
    rw [ho.uniq ha.1 hb.1 ht]
  have := congrArg (List.map Prod.snd) e
  simpa [List.map_map, Function.comp_def, keE, keS] using this
theorem grant_fold (al : List AL) : ∀ {m : LkM} {s : Ls} {out : List Int}, LkR0 m s → LsOk s → (∀ a ∈ al, AskIn s a) → LkR0 ((al.map AL.task).foldl grant1 (m, out)).1 (al.foldl try1 (s, out)).1 ∧ ((al.map AL.task).foldl grant1 (m, out)).2 = (al.foldl try1 (s, out)).2 ∧ ((al.map AL.task).foldl grant1 (m, out)).1.ds = m.ds := by
  induction al with
  | nil => exact fun h _ _ => ⟨h, rfl, rfl⟩
  | cons a al ih =>
    intro m s out h ho hx
    obtain ⟨b, hb, h1, h2, h3, h4⟩ := hx a (by simp)
    have ht := ho.tk b hb
    have hn : b.task.toNat < m.ask.length := (h.has _).2 (by unfold Ls.has at *; omega)
    have ec : ((b.task.toNat : Nat) : Int) = b.task := by unfold Ls.has at ht; omega
    have hra := ho.rs b hb
    have hal : b.res.toNat < m.ks.length := by rw [h.klen]; unfold Ls.hasR at hra; omega
    have eca : ((b.res.toNat : Nat) : Int) = b.res := by unfold Ls.hasR at hra; omega
    have ek : keyOf m a.task.toNat = m.ks.getD b.res.toNat 0 := by
      have en := h.ask _ hn
      rw [ec] at en
      unfold askOf at en
      rw [ho.get_of hb] at en
      unfold keyOf
      rw [← h1, en]
    have hf : m.fr (m.ks.getD b.res.toNat 0) = !heldS s a.res := by
      have := h.fr _ hal
      rw [eca] at this
      rw [this, h2]
    rw [List.map_cons, List.foldl_cons, List.foldl_cons]
    have hq := try1_ok (l := out) ho (hx a (by simp))
    by_cases hh : heldS s a.res = true
    · have e1 : try1 (s, out) a = (s, out) := by unfold try1; rw [if_pos hh]
      have e2 : grant1 (m, out) a.task = (m, out) := by unfold grant1; rw [ek, hf, hh]; rfl
      rw [e1, e2]
      exact ih h ho fun c hc => hx c (List.mem_cons_of_mem _ hc)
    · have e1 : try1 (s, out) a = (holdS s a.task, out ++ [a.task]) := by unfold try1; rw [if_neg hh]
      have e2 : grant1 (m, out) a.task = (takeM m a.task.toNat, out ++ [a.task]) := by unfold grant1; rw [ek, hf]; simp [hh]
      rw [e1] at hq
      rw [e1, e2]
      have ht := h.take ho hb
      rw [h1] at ht
      exact ih ht hq.1 fun c hc => hq.2 c (hx c (List.mem_cons_of_mem _ hc))
end Go.Proofs.YtppgameimddimaaGreat

namespace Go.Proofs.YtppgameimddimaaGreat
open Go.ChangeShapes Go.WideShapes Go.ChangeAt Go.RowKit Go.Conc
set_option linter.unusedVariables false
set_option linter.unusedSimpArgs false
/-- the plain locks of a set, of which nothing is asked for -/
def lsNew (s : SetR) : Ls := ⟨s.proto, s.tasks.map TaskR.prio, s.tasks.map TaskR.cl, s.cores, s.homes, [], 0⟩
def askNew (t : TaskR) : AskM := ⟨t.prio, t.cl, false, false, 0, 0⟩
structure NewM (m : LkM) (p : Int) (ks : List Nat) (al : List AskM) (cl : List Int) : Prop where
  proto : m.proto = p
  ks : m.ks = ks
  fr : ∀ c, m.fr c = true
  ask : m.ask = al
  ds : m.ds.length = cl.length ∧ ∀ c, c < m.ds.length → (m.ds.getD c default).cores = cl.getD c 0 ∧ (m.ds.getD c default).outs = [] ∧ (m.ds.getD c default).ins = []
  R : m.R = 6
  P : m.P = 0
  l : m.l = []
  pl : m.places = 0
theorem NewM.first (p : Int) (ks : List Nat) (Ak : Option Addr) (ck b : Nat) : NewM (LkM.new p ks Ak ck b) p ks [] [] := ⟨rfl, rfl, fun _ => rfl, rfl, ⟨rfl, fun c hc => absurd hc (by simp [LkM.new])⟩, rfl, rfl, rfl, rfl⟩
theorem NewM.addA {m : LkM} {p : Int} {ks : List Nat} {al : List AskM} {cl : List Int} (h : NewM m p ks al cl) (x : AskM) (A : Option Addr) (c : Nat) : NewM (m.addA x A c) p ks (al ++ [x]) cl :=
  ⟨h.proto, h.ks, h.fr, by show m.ask ++ [x] = _; rw [h.ask], h.ds, h.R, h.P, h.l, h.pl⟩
theorem NewM.addD {m : LkM} {p : Int} {ks : List Nat} {al : List AskM} {cl : List Int} (h : NewM m p ks al cl) (n : Int) (g l : Nat) (F : List Nat) (A : Option Addr) (c : Nat) : NewM (m.addD ⟨n, [], [], g, l⟩ F A c) p ks al (cl ++ [n]) := by
  refine ⟨h.proto, h.ks, h.fr, h.ask, ⟨?_, fun i hi => ?_⟩, h.R, h.P, h.l, h.pl⟩
  · show (m.ds ++ [_]).length = _
    rw [List.length_append, List.length_append, h.ds.1]; rfl
  · have hi : i < (m.ds ++ [(⟨n, [], [], g, l⟩ : DrM)]).length := hi
    rw [List.length_append, List.length_singleton] at hi
    show ((m.ds ++ [(⟨n, [], [], g, l⟩ : DrM)]).getD i default).cores = _ ∧ ((m.ds ++ [(⟨n, [], [], g, l⟩ : DrM)]).getD i default).outs = _ ∧ ((m.ds ++ [(⟨n, [], [], g, l⟩ : DrM)]).getD i default).ins = _
    rcases Nat.lt_succ_iff_lt_or_eq.1 hi with h1 | rfl
    · have e : (m.ds ++ [(⟨n, [], [], g, l⟩ : DrM)]).getD i default = m.ds.getD i default := by simp [List.getD, List.getElem?_append_left h1]
      have e2 : (cl ++ [n]).getD i 0 = cl.getD i 0 := by simp [List.getD, List.getElem?_append_left (show i < cl.length by rw [← h.ds.1]; exact h1)]
      rw [e, e2]
      exact h.ds.2 i h1
    · have e : (m.ds ++ [(⟨n, [], [], g, l⟩ : DrM)]).getD m.ds.length default = ⟨n, [], [], g, l⟩ := by simp [List.getD]
      have e2 : (cl ++ [n]).getD m.ds.length 0 = n := by rw [h.ds.1]; simp [List.getD]
      rw [e, e2]
      exact ⟨rfl, rfl, rfl⟩
theorem NewM.rel {m : LkM} {s : SetR} {ks : List Nat} (h : NewM m s.proto ks (s.tasks.map askNew) s.cores) (hk : KeysAre s.proto s.homes ks s.homes.length) (ht : s.tasks.length ≤ 6) : LkR0 m (lsNew s) ∧ LkRD m.ds (lsNew s) := by
  refine ⟨⟨h.proto, ?_, ?_, fun i hi => ?_, fun r q hr hq => ?_, fun r hr => ?_, ?_, h.P, ?_, fun _ => h.pl, ?_⟩, ⟨h.ds.1, fun c hc => ?_⟩⟩
  · rw [h.ask]; simp [lsNew]
  · rw [h.ks]; exact hk.1
  · rw [h.ask] at hi ⊢
    have hi' : i < s.tasks.length := by simpa using hi
    simp [askOf, Ls.get, lsNew, Ls.pri, Ls.cls, List.getD, hi', askNew]
  · rw [h.ks] at hr hq ⊢
    rw [hk.1] at hr hq
    rw [hk.2 r q hr hq]
    simp only [sameK, lsNew, Ls.home, Bool.or_eq_true, Bool.and_eq_true, beq_iff_eq, Int.toNat_natCast]
    constructor
    · rintro (rfl | h1)
      · exact .inl rfl
      · exact .inr h1
    · rintro (h1 | h1)
      · exact .inl (by omega)
      · exact .inr h1
  · rw [h.fr]; simp [heldS, lsNew]
  · rw [h.R]; simp [lsNew]; omega
  · rw [h.l]; simp [waitG, lsNew]
  · rw [h.pl]; exact ⟨Int.le_refl _, Int.le_refl _⟩
  · obtain ⟨h1, h2, h3⟩ := h.ds.2 c hc
    refine ⟨h1, ?_, fun _ => ?_, fun _ => h3⟩
    · rw [h2]; simp [outsS, lsNew]
    · rw [h3]; simp [insS, lsNew]
def NewP (s : SetR) (w : World) (e : Ending) (w' : World) : Prop := ∃ bl cs m, e = .returned (.pointer (some ⟨bl, 0, none⟩)) ∧ Lk w' bl 0 67 cs m ∧ w.heap.size ≤ bl ∧ (∀ k ∈ fpm m, w.heap.size ≤ k) ∧ Below w.heap.size w w' ∧ LkR0 m (lsNew s) ∧ LkRD m.ds (lsNew s)
def setB (s : SetR) : Array Value := #[.int .i64 s.proto, .slice s.ca s.cores.length s.cc, .slice s.ha s.homes.length s.hc, .slice s.ta s.tasks.length s.tc]
set_option maxHeartbeats 4000000 in
set_option maxRecDepth 100000 in
theorem lnew_any {w : World} (s : SetR) (hs : SetOk w s) (ho : okS s = true) : Calls Tryz.prog 10 #[.agg #[.int .i64 s.proto, .slice s.ca s.cores.length s.cc, .slice s.ha s.homes.length s.hc, .slice s.ta s.tasks.length s.tc]] w (NewP s w) := by
  have he : chkE s = 0 := by simpa [okS] using ho
  have hg := hidp (Good.of ho)
  have hb := (Below.refl w.heap.size w).alloc (Nat.le_refl _) (.cells #[.int .i64 s.proto, .slice s.ca s.cores.length s.cc, .slice s.ha s.homes.length s.hc, .slice s.ta s.tasks.length s.tc] 25)
  have HB := hidp hb
  have BK := hidp (Bk.new w 25 (setB s))
  have HS := hidp (hs.keep (Keeps.of_below hb))
  have HSW := hidp hs
  have CC := check_any s _ HS.out
  rw [he] at CC
  obtain ⟨ca0, hca⟩ : ∃ x, chkAt s = x := ⟨_, rfl⟩
  rw [hca] at CC
  obtain ⟨i0, hi0, hz0, hz1, hz2⟩ := info_parts infoAsk
  obtain ⟨j0, hj0, hy0, hy1, hy2⟩ := info_parts infoDoor
  clear hca hs hb ho he
  have h1 := hg.out.ncores.2
  have h2 := hg.out.nhomes
  have h3 := hg.out.ntasks.2
  have HFin : Hid (∀ (bl : Nat) (cs : Array Value) (m : LkM) (ks : List Nat) (w' : World), KeysAre s.proto s.homes ks s.homes.length → Lk w' bl 0 67 cs m → NewM m s.proto ks (s.tasks.map askNew) s.cores → w.heap.size ≤ bl → (∀ k ∈ fpm m, w.heap.size ≤ k) → Below w.heap.size w w' → NewP s w (.returned (.pointer (some ⟨bl, 0, none⟩))) w') :=
    hidp fun bl cs m ks w' hk hl hm hbl hf hbw => ⟨bl, cs, m, rfl, hl, hbl, hf, hbw, (hm.rel hk h3).1, (hm.rel hk h3).2⟩
  obtain ⟨S, hS⟩ : ∃ S, S = s := ⟨_, rfl⟩
  have HSS := hidp hS
  clear hS
  obtain ⟨proto, ca, cc, cores, ha, hc, homes, ta, tc, tasks⟩ := s
  dsimp only at *
  go_enter Tryz.func10, Tryz.ntmps10
  go_wp2_with fail
  refine CC.mono ?_
  rintro e w2 ⟨rfl, hb2⟩
  have HB2 := hidp (HB.out.trans (hb2.mono HB.out.size))
  have BK2 := hidp (BK.out.turned (Turned.of_below hb2 []) (by simp))
  have HS2 := hidp (HS.out.keep (Keeps.of_below hb2))
  have c0 : w2.cell? ⟨w.heap.size, 0, none⟩ = some (.int .i64 proto) := BK2.out.cell 0
  have c1 : w2.cell? ⟨w.heap.size, 1, none⟩ = some (.slice ca cores.length cc) := BK2.out.cell 1
  have c2 : w2.cell? ⟨w.heap.size, 2, none⟩ = some (.slice ha homes.length hc) := BK2.out.cell 2
  have c3 : w2.cell? ⟨w.heap.size, 3, none⟩ = some (.slice ta tasks.length tc) := BK2.out.cell 3
  have hs : w2.drew.cell? ⟨w.heap.size, 0, none⟩ = some (.int .i64 proto) ∧ w2.drew.cell? ⟨w.heap.size, 1, none⟩ = some (.slice ca cores.length cc) ∧ w2.drew.cell? ⟨w.heap.size, 2, none⟩ = some (.slice ha homes.length hc) ∧ w2.drew.cell? ⟨w.heap.size, 3, none⟩ = some (.slice ta tasks.length tc) := ⟨c0, c1, c2, c3⟩
  clear hb2 c0 c1 c2 c3
  go_wp2_with fail
  refine wp_region_held_drew (S := fun w' => w'.cell? ⟨w.heap.size, 0, none⟩ = some (.int .i64 proto) ∧ w'.cell? ⟨w.heap.size, 1, none⟩ = some (.slice ca cores.length cc) ∧ w'.cell? ⟨w.heap.size, 2, none⟩ = some (.slice ha homes.length hc) ∧ w'.cell? ⟨w.heap.size, 3, none⟩ = some (.slice ta tasks.length tc)) (by kernel_rfl) ?_ (fun hHeld => ?_)
  · exact hs
  refine wpAnyH_take (i := 0) (v := ?_) rfl (by kernel_rfl) (by kernel_rfl) (by kernel_rfl) (fun _ _ _ h => h) (Or.inl ⟨by rfl, ?_⟩) (by assumption) ?_
  rotate_left 1
  · ((intro w hSw; (try dsimp only at hSw); go_simp); (try with_reducible rfl))
  simp only [Act.put, List.setIfInBounds_toArray, List.set_cons_zero, List.set_cons_succ, List.getElem_toArray, List.getElem_cons_zero, List.getElem_cons_succ]
  refine wpAnyH_take (i := 1) (v := ?_) rfl (by kernel_rfl) (by kernel_rfl) (by kernel_rfl) (fun _ _ _ h => h) (Or.inl ⟨by rfl, ?_⟩) (by assumption) ?_
  rotate_left 1
  · ((intro w hSw; (try dsimp only at hSw); go_simp); (try with_reducible rfl))
  simp only [Act.put, List.setIfInBounds_toArray, List.set_cons_zero, List.set_cons_succ, List.getElem_toArray, List.getElem_cons_zero, List.getElem_cons_succ]
  refine wpAnyH_take (i := 2) (v := ?_) rfl (by kernel_rfl) (by kernel_rfl) (by kernel_rfl) (fun _ _ _ h => h) (Or.inl ⟨by rfl, ?_⟩) (by assumption) ?_
  rotate_left 1
  · ((intro w hSw; (try dsimp only at hSw); go_simp); (try with_reducible rfl))
  simp only [Act.put, List.setIfInBounds_toArray, List.set_cons_zero, List.set_cons_succ, List.getElem_toArray, List.getElem_cons_zero, List.getElem_cons_succ]
  refine wpAnyH_ready (rs := [3]) (by kernel_rfl) (by simp) ?_
  refine AllReadyH.cons rfl (fun K hK => ?_) AllReadyH.nil
  go_simp
  refine (keys_any ⟨proto, ca, cc, cores, ha, hc, homes, ta, tc, tasks⟩ (HS2.out.keep (Keeps.of_below (Below.refl _ _).drew)) h1 h2 (fun h hh => by have := hg.out.homes h hh; dsimp only at this ⊢; omega)).mono ?_
  rintro e v ⟨Ak, nk, ck, ks, rfl, hK, hKA, hbv⟩
  have HBV := hidp hbv
  have HK := hidp hK
  have HKA := hidp hKA
  have hd := (Below.refl w2.heap.size w2).drew
  have HDV := hidp (hd.trans hbv)
  have hsv : v.cell? ⟨w.heap.size, 0, none⟩ = some (.int .i64 proto) ∧ v.cell? ⟨w.heap.size, 1, none⟩ = some (.slice ca cores.length cc) ∧ v.cell? ⟨w.heap.size, 2, none⟩ = some (.slice ha homes.length hc) ∧ v.cell? ⟨w.heap.size, 3, none⟩ = some (.slice ta tasks.length tc) := ⟨Keeps.of_below hbv _ _ hs.1, Keeps.of_below hbv _ _ hs.2.1, Keeps.of_below hbv _ _ hs.2.2.1, Keeps.of_below hbv _ _ hs.2.2.2⟩
  clear hK hKA hbv hd hs hHeld
  refine hK.out _ _ ?_ (fun hHeld => ?_)
  · exact hsv
  clear hK K
  try simp only [Act.put, List.setIfInBounds_toArray, List.set_cons_zero, List.set_cons_succ, List.getElem_toArray, List.getElem_cons_zero, List.getElem_cons_succ]
  refine wpAnyH_ready (rs := [4]) (by kernel_rfl) (by simp) ?_
  refine AllReadyH.cons rfl (fun K hK => ?_) AllReadyH.nil
  go_simp
  have CR := rnew_any 6 v (by unfold I64; omega)
  have e6 : roomR 6 = 6 := by decide
  rw [e6] at CR
  refine CR.mono ?_
  rintro e v2 ⟨rfl, rfl⟩
  have kr := Keeps.alloc v (.cells #[.int .i64 6, .int .i64 0, .slice none 0 0] 65)
  have hsr : (v.alloc (.cells #[.int .i64 6, .int .i64 0, .slice none 0 0] 65)).cell? ⟨w.heap.size, 0, none⟩ = some (.int .i64 proto) ∧ (v.alloc (.cells #[.int .i64 6, .int .i64 0, .slice none 0 0] 65)).cell? ⟨w.heap.size, 1, none⟩ = some (.slice ca cores.length cc) ∧ (v.alloc (.cells #[.int .i64 6, .int .i64 0, .slice none 0 0] 65)).cell? ⟨w.heap.size, 2, none⟩ = some (.slice ha homes.length hc) ∧ (v.alloc (.cells #[.int .i64 6, .int .i64 0, .slice none 0 0] 65)).cell? ⟨w.heap.size, 3, none⟩ = some (.slice ta tasks.length tc) := ⟨kr _ _ hsv.1, kr _ _ hsv.2.1, kr _ _ hsv.2.2.1, kr _ _ hsv.2.2.2⟩
  have bkr := Bk.new v 65 #[.int .i64 6, .int .i64 0, .slice none 0 0]
  have r0 : (v.alloc (.cells #[.int .i64 6, .int .i64 0, .slice none 0 0] 65)).cell? ⟨v.heap.size, 0, none⟩ = some (.int .i64 6) := bkr.cell 0
  have r1 : (v.alloc (.cells #[.int .i64 6, .int .i64 0, .slice none 0 0] 65)).cell? ⟨v.heap.size, 1, none⟩ = some (.int .i64 0) := bkr.cell 1
  have r2 : (v.alloc (.cells #[.int .i64 6, .int .i64 0, .slice none 0 0] 65)).cell? ⟨v.heap.size, 2, none⟩ = some (.slice none 0 0) := bkr.cell 2
  clear bkr CR e6 hsv kr
  refine hK.out _ _ ?_ (fun hHeld => ?_)
  · exact hsr
  clear hK K
  try simp only [Act.put, List.setIfInBounds_toArray, List.set_cons_zero, List.set_cons_succ, List.getElem_toArray, List.getElem_cons_zero, List.getElem_cons_succ]
  refine wpAnyH_mono (S' := fun w' => (w'.cell? ⟨w.heap.size, 0, none⟩ = some (.int .i64 proto) ∧ w'.cell? ⟨w.heap.size, 1, none⟩ = some (.slice ca cores.length cc) ∧ w'.cell? ⟨w.heap.size, 2, none⟩ = some (.slice ha homes.length hc) ∧ w'.cell? ⟨w.heap.size, 3, none⟩ = some (.slice ta tasks.length tc)) ∧ w'.cell? ⟨v.heap.size, 0, none⟩ = some (.int .i64 6) ∧ w'.cell? ⟨v.heap.size, 1, none⟩ = some (.int .i64 0) ∧ w'.cell? ⟨v.heap.size, 2, none⟩ = some (.slice none 0 0)) (fun _ h => h.1) _ _ _ _ ?_
  have hHeld2 := And.intro hsr (And.intro r0 (And.intro r1 r2))
  refine wpAnyH_take (i := 5) (v := ?_) rfl (by kernel_rfl) (by kernel_rfl) (by kernel_rfl) (fun _ _ _ h => h) (Or.inl ⟨by rfl, ?_⟩) (by assumption) ?_
  rotate_left 1
  · ((intro w hSw; (try dsimp only at hSw); go_simp); (try with_reducible rfl))
  simp only [Act.put, List.setIfInBounds_toArray, List.set_cons_zero, List.set_cons_succ, List.getElem_toArray, List.getElem_cons_zero, List.getElem_cons_succ]
  refine wpAnyH_take (i := 6) (v := ?_) rfl (by kernel_rfl) (by kernel_rfl) (by kernel_rfl) (fun _ _ _ h => h) (Or.inl ⟨by rfl, ?_⟩) (by assumption) ?_
  rotate_left 1
  · ((intro w hSw; (try dsimp only at hSw); go_simp); (try with_reducible rfl))
  simp only [Act.put, List.setIfInBounds_toArray, List.set_cons_zero, List.set_cons_succ, List.getElem_toArray, List.getElem_cons_zero, List.getElem_cons_succ]
  refine wpAnyH_take (i := 7) (v := ?_) rfl (by kernel_rfl) (by kernel_rfl) (by kernel_rfl) (fun _ _ _ h => h) (Or.inl ⟨by rfl, ?_⟩) (by assumption) ?_
  rotate_left 1
  · ((intro w hSw; (try dsimp only at hSw); go_simp); (try with_reducible rfl))
  simp only [Act.put, List.setIfInBounds_toArray, List.set_cons_zero, List.set_cons_succ, List.getElem_toArray, List.getElem_cons_zero, List.getElem_cons_succ]
  refine wpAnyH_ready (rs := [8]) (by kernel_rfl) (by simp) ?_
  refine AllReadyH.cons rfl (fun K hK => ?_) AllReadyH.nil
  go_simp
  have kl := Keeps.alloc (v.alloc (.cells #[.int .i64 6, .int .i64 0, .slice none 0 0] 65)) (.cells #[.int .i64 proto, .slice none 0 0, .slice Ak nk ck, .slice none 0 0, .int .i64 6, .int .i64 0, .slice none 0 0, .int .i64 0] 67)
  have hs3 := And.intro (And.intro (kl _ _ hsr.1) (And.intro (kl _ _ hsr.2.1) (And.intro (kl _ _ hsr.2.2.1) (kl _ _ hsr.2.2.2)))) (And.intro (kl _ _ r0) (And.intro (kl _ _ r1) (kl _ _ r2)))
  refine hK.out _ _ ?_ (fun hHeld => ?_)
  · exact hs3
  clear hK K
  try simp only [Act.put, List.setIfInBounds_toArray, List.set_cons_zero, List.set_cons_succ, List.getElem_toArray, List.getElem_cons_zero, List.getElem_cons_succ]
  refine wpAnyH_take (i := 9) (v := ?_) rfl (by kernel_rfl) (by kernel_rfl) (by kernel_rfl) (fun _ _ _ h => h) (Or.inl ⟨by rfl, ?_⟩) (by assumption) ?_
  rotate_left 1
  · ((intro w hSw; (try dsimp only at hSw); go_simp); (try with_reducible rfl))
  simp only [Act.put, List.setIfInBounds_toArray, List.set_cons_zero, List.set_cons_succ, List.getElem_toArray, List.getElem_cons_zero, List.getElem_cons_succ]
  refine wpAnyH_done (by kernel_rfl) ?_ _
  have T3 := hidp ((((Below.refl v.heap.size v).alloc (Nat.le_refl _) (.cells #[.int .i64 6, .int .i64 0, .slice none 0 0] 65)).alloc (by simp) (.cells #[.int .i64 proto, .slice none 0 0, .slice Ak nk ck, .slice none 0 0, .int .i64 6, .int .i64 0, .slice none 0 0, .int .i64 0] 67)))
  have eb : (v.alloc (.cells #[.int .i64 6, .int .i64 0, .slice none 0 0] 65)).heap.size = v.heap.size + 1 := by simp
  have bkl := Bk.new (v.alloc (.cells #[.int .i64 6, .int .i64 0, .slice none 0 0] 65)) 67 #[.int .i64 proto, .slice none 0 0, .slice Ak nk ck, .slice none 0 0, .int .i64 6, .int .i64 0, .slice none 0 0, .int .i64 0]
  rw [eb] at bkl
  have BKL := hidp bkl
  obtain ⟨x, hx⟩ : ∃ x, (v.alloc (.cells #[.int .i64 6, .int .i64 0, .slice none 0 0] 65)).alloc (.cells #[.int .i64 proto, .slice none 0 0, .slice Ak nk ck, .slice none 0 0, .int .i64 6, .int .i64 0, .slice none 0 0, .int .i64 0] 67) = x := ⟨_, rfl⟩
  rw [hx] at T3 BKL hs3 ⊢
  obtain ⟨bl, hbl⟩ : ∃ bl, v.heap.size + 1 = bl := ⟨_, rfl⟩
  rw [hbl] at BKL ⊢
  have HBL := hidp hbl
  clear hx hbl bkl eb kl hsr r0 r1 r2 hHeld2
  have g3 := hs3.1.2.2.2
  have g1 := hs3.1.2.1
  have hkA : ∀ k ∈ fp Ak, w2.heap.size ≤ k ∧ k < v.heap.size := fun k hk => own_fp HK.out.own k hk
  have hkK : ∀ k ∈ ks, w2.heap.size ≤ k ∧ k < v.heap.size := fun k hk => ⟨(HK.out.keys k hk).2.1, (HK.out.keys k hk).1.lt⟩
  have hw2 := BK2.out.lt
  have hlk := hidp (Lk.first BKL.out (HK.out.over T3.out) (fun hm => by have := hkA _ hm; have := HBL.out; omega) (fun hm => by have := hkK _ hm; have := HBL.out; omega))
  have hbl0 : Hid (w.heap.size < bl) := hidp (by have := HBL.out; have := HDV.out.size; omega)
  have hfm : Hid (∀ k ∈ fpm (LkM.new proto ks Ak ck bl), w.heap.size < k) := hidp (fun k hk => by
    rcases mem_fpm.1 hk with h1 | h1 | h1 | h1 | h1 | ⟨i, hi, h1⟩
    · exact absurd h1 (by simp [LkM.new, fp])
    · have := hkA k h1; omega
    · have := hkK k h1; omega
    · exact absurd h1 (by simp [LkM.new, fp])
    · exact absurd h1 (by simp [LkM.new, fp])
    · exact absurd hi (by simp [LkM.new]))
  have HX := hidp (HB2.out.trans ((HDV.out.trans (T3.out.mono HDV.out.size)).mono HB2.out.size))
  have BKX := hidp (BK2.out.turned ((Turned.of_below (HDV.out.trans (T3.out.mono HDV.out.size)) [])) (by simp))
  have HSx2 := hidp HSW.out.tasks.at_
  have HSx3 := hidp HSW.out.cores.at_
  have HOk := hidp HSW.out.tasks.ok
  clear hkA hkK hw2 T3 hs3
  go_wp2
  go_loopg [31] tasks.length (fun g i wr => ∃ (k : Nat) (cs : Array Value) (m : LkM), k + g = tasks.length ∧ i = .int .i64 k ∧ Hid (Lk wr bl 0 67 cs m) ∧ Hid (NewM m proto ks ((tasks.take k).map askNew) []) ∧ Hid (∀ j ∈ fpm m, w.heap.size < j) ∧ Hid (Bk wr w.heap.size 25 (setB ⟨proto, ca, cc, cores, ha, hc, homes, ta, tc, tasks⟩)) ∧ Below w.heap.size w wr)
  case atStart => exact ⟨0, _, _, by omega, rfl, hlk, hidp (NewM.first _ _ _ _ _), hfm, BKX, HX.out⟩
  case round =>
    obtain ⟨k, cs, m, hk, rfl, L, NM, FM, BKr, hbw⟩ := hrel
    by_cases hlt : k < tasks.length
    · obtain ⟨g, off, hA, hcl⟩ := HSx2.out.resolve_left (by intro e; rw [e] at hlt; simp at hlt)
      subst hA
      obtain ⟨t, HT⟩ : ∃ t, Hid (tasks.getD k default = t) := ⟨_, rfl⟩
      have tcl := (HT.out ▸ hcl k hlt).keep (Keeps.of_below hbw)
      have hm : t ∈ tasks := HT.out ▸ getD_mem hlt
      have hpw : Hid (I64 t.prio ∧ I64 t.cl) := hidp ⟨(HOk.out t hm).prio, (HOk.out t hm).cl⟩
      have Hs : Hid ((tasks.take (k + 1)).map askNew = (tasks.take k).map askNew ++ [askNew t]) := hidp (by
        rw [take_snocD tasks k hlt, List.map_append, HT.out]; rfl)
      have hd3 : decide (tasks.length ≤ k) = false := decide_eq_false (by omega)
      clear hcl hm
      obtain ⟨d0, d1, d2, d3, d4, d5⟩ := tcl
      have HBW := hidp hbw
      have L1 := hidp (L.out.over ((Below.refl wr.heap.size wr).alloc (Nat.le_refl _) (.cells #[.string t.name, .int .i64 t.per, .int .i64 t.dl, .int .i64 t.prio, .int .i64 t.cl, .slice t.pa t.parts.length t.pc] 57)))
      have BT := hidp (Bk.new wr 57 #[.string t.name, .int .i64 t.per, .int .i64 t.dl, .int .i64 t.prio, .int .i64 t.cl, .slice t.pa t.parts.length t.pc])
      have BKr1 := hidp (BKr.out.alloc (.cells #[.string t.name, .int .i64 t.per, .int .i64 t.dl, .int .i64 t.prio, .int .i64 t.cl, .slice t.pa t.parts.length t.pc] 57))
      have B1 := hidp (hbw.alloc hbw.size (.cells #[.string t.name, .int .i64 t.per, .int .i64 t.dl, .int .i64 t.prio, .int .i64 t.cl, .slice t.pa t.parts.length t.pc] 57))
      have hlen : Hid (m.ask.length = k) := hidp (by rw [NM.out.ask]; simp; omega)
      have cA := (L1.out.blk.cell 1).trans L1.out.c1
      rw [hlen.out] at cA
      have hown := L1.out.askers
      rw [hlen.out] at hown
      obtain ⟨A, hAa⟩ : ∃ A, m.Aa = A := ⟨_, rfl⟩
      obtain ⟨c, hca⟩ : ∃ c, m.ca = c := ⟨_, rfl⟩
      rw [hAa, hca] at cA hown
      have HAa := hidp hAa
      have Hca := hidp hca
      have HO := hidp hown
      clear hbw hAa hca hown
      have hs : (wr.alloc (.cells #[.string t.name, .int .i64 t.per, .int .i64 t.dl, .int .i64 t.prio, .int .i64 t.cl, .slice t.pa t.parts.length t.pc] 57)).drew.cell? ⟨bl, 1, none⟩ = some (.slice A k c) ∧ (wr.alloc (.cells #[.string t.name, .int .i64 t.per, .int .i64 t.dl, .int .i64 t.prio, .int .i64 t.cl, .slice t.pa t.parts.length t.pc] 57)).drew.cell? ⟨wr.heap.size, 3, none⟩ = some (.int .i64 t.prio) ∧ (wr.alloc (.cells #[.string t.name, .int .i64 t.per, .int .i64 t.dl, .int .i64 t.prio, .int .i64 t.cl, .slice t.pa t.parts.length t.pc] 57)).drew.cell? ⟨wr.heap.size, 4, none⟩ = some (.int .i64 t.cl) := ⟨cA, BT.out.cell 3, BT.out.cell 4⟩
      clear cA
      go_wp2_with fail
      refine wp_region_c_drew 14 (S := fun w' => w'.cell? ⟨bl, 1, none⟩ = some (.slice A k c) ∧ w'.cell? ⟨wr.heap.size, 3, none⟩ = some (.int .i64 t.prio) ∧ w'.cell? ⟨wr.heap.size, 4, none⟩ = some (.int .i64 t.cl)) (by kernel_rfl) ?_ (fun hHeld => ?_)
      · exact hs
      have U1 := hidp ((Below.refl (wr.alloc (.cells #[.string t.name, .int .i64 t.per, .int .i64 t.dl, .int .i64 t.prio, .int .i64 t.cl, .slice t.pa t.parts.length t.pc] 57)).heap.size (wr.alloc (.cells #[.string t.name, .int .i64 t.per, .int .i64 t.dl, .int .i64 t.prio, .int .i64 t.cl, .slice t.pa t.parts.length t.pc] 57))).drew)
      have W1 := hidp (((Below.refl wr.heap.size wr).alloc (Nat.le_refl _) (.cells #[.string t.name, .int .i64 t.per, .int .i64 t.dl, .int .i64 t.prio, .int .i64 t.cl, .slice t.pa t.parts.length t.pc] 57)).drew)
      obtain ⟨u0, hu0⟩ : ∃ u0, wr.alloc (.cells #[.string t.name, .int .i64 t.per, .int .i64 t.dl, .int .i64 t.prio, .int .i64 t.cl, .slice t.pa t.parts.length t.pc] 57) = u0 := ⟨_, rfl⟩
      rw [hu0] at U1 W1 hs L1 BT BKr1 B1 HO ⊢
      obtain ⟨u, hu⟩ : ∃ u, u0.drew = u := ⟨_, rfl⟩
      rw [hu] at hs U1 W1 ⊢
      have hwu : Hid (wr.heap.size < u.heap.size) := hidp (by have := BT.out.lt; have := U1.out.size; omega)
      have BTu := hidp (BT.out.turned (Turned.of_below U1.out []) (by simp))
      have LU := hidp (L1.out.over U1.out)
      have hal := (Below.refl u.heap.size u).alloc (Nat.le_refl _) (.cells #[.int .i64 t.prio, .int .i64 t.cl, .bool false, .bool false, .int .i64 0, .int .i64 0] 72)
      have LU2 := hidp (LU.out.over hal)
      have ka := Keeps.of_below hal
      have hs1 : (u.alloc (.cells #[.int .i64 t.prio, .int .i64 t.cl, .bool false, .bool false, .int .i64 0, .int .i64 0] 72)).cell? ⟨bl, 1, none⟩ = some (.slice A k c) ∧ (u.alloc (.cells #[.int .i64 t.prio, .int .i64 t.cl, .bool false, .bool false, .int .i64 0, .int .i64 0] 72)).cell? ⟨wr.heap.size, 3, none⟩ = some (.int .i64 t.prio) ∧ (u.alloc (.cells #[.int .i64 t.prio, .int .i64 t.cl, .bool false, .bool false, .int .i64 0, .int .i64 0] 72)).cell? ⟨wr.heap.size, 4, none⟩ = some (.int .i64 t.cl) := ⟨ka _ _ hs.1, ka _ _ hs.2.1, ka _ _ hs.2.2⟩
      have oo := own_turned (own_turned HO.out.own (Turned.of_below U1.out []) (by simp)) (Turned.of_below hal []) (by simp)
      have S2 := hidp (new_lies u [.int .i64 t.prio, .int .i64 t.cl, .bool false, .bool false, .int .i64 0, .int .i64 0] 72)
      have O2 : Hid (∀ uu ∈ [Value.int .i64 t.prio, .int .i64 t.cl, .bool false, .bool false, .int .i64 0, .int .i64 0], uu.oneCell' = true) := hidp (by simp; exact ⟨rfl, rfl, rfl, rfl⟩)
      have N2 : Hid (k + 1 ≤ maxLen) := hidp (by unfold maxLen; omega)
      have T2 : Hid ((k + 1) * 40 ≤ 140737488355328) := hidp (by omega)
      have HAL := hidp hal
      clear hu hu0 hal ka
      refine wpAnyC_take (i := 0) (v := ?_) rfl rfl (by kernel_rfl) (by decide) (by kernel_rfl) (by kernel_rfl) (by kernel_rfl) (fun _ _ _ h => h) (Or.inl ⟨by rfl, ?_⟩) (by assumption) ?_
      rotate_left 1
      · ((intro w hSw; (try dsimp only at hSw); go_simp); (try with_reducible rfl))
      simp only [Act.put, List.setIfInBounds_toArray, List.set_cons_zero, List.set_cons_succ, List.getElem_toArray, List.getElem_cons_zero, List.getElem_cons_succ]
      refine wpAnyC_take (i := 1) (v := ?_) rfl rfl (by kernel_rfl) (by decide) (by kernel_rfl) (by kernel_rfl) (by kernel_rfl) (fun _ _ _ h => h) (Or.inl ⟨by rfl, ?_⟩) (by assumption) ?_
      rotate_left 1
      · ((intro w hSw; (try dsimp only at hSw); go_simp); (try with_reducible rfl))
      simp only [Act.put, List.setIfInBounds_toArray, List.set_cons_zero, List.set_cons_succ, List.getElem_toArray, List.getElem_cons_zero, List.getElem_cons_succ]
      refine wpAnyC_take (i := 2) (v := ?_) rfl rfl (by kernel_rfl) (by decide) (by kernel_rfl) (by kernel_rfl) (by kernel_rfl) (fun _ _ _ h => h) (Or.inl ⟨by rfl, ?_⟩) (by assumption) ?_
      rotate_left 1
      · ((intro w hSw; (try dsimp only at hSw); go_simp); (try with_reducible rfl))
      simp only [Act.put, List.setIfInBounds_toArray, List.set_cons_zero, List.set_cons_succ, List.getElem_toArray, List.getElem_cons_zero, List.getElem_cons_succ]
      refine wpAnyC_take (i := 3) (v := ?_) rfl rfl (by kernel_rfl) (by decide) (by kernel_rfl) (by kernel_rfl) (by kernel_rfl) (fun _ _ _ h => h) (Or.inl ⟨by rfl, ?_⟩) (by assumption) ?_
      rotate_left 1
      · ((intro w hSw; (try dsimp only at hSw); go_simp); (try with_reducible rfl))
      simp only [Act.put, List.setIfInBounds_toArray, List.set_cons_zero, List.set_cons_succ, List.getElem_toArray, List.getElem_cons_zero, List.getElem_cons_succ]
      refine wpAnyC_take (i := 4) (v := ?_) rfl rfl (by kernel_rfl) (by decide) (by kernel_rfl) (by kernel_rfl) (by kernel_rfl) (fun _ _ _ h => h) (Or.inl ⟨by rfl, ?_⟩) (by assumption) ?_
      rotate_left 1
      · ((intro w hSw; (try dsimp only at hSw); go_simp); (try with_reducible rfl))
      simp only [Act.put, List.setIfInBounds_toArray, List.set_cons_zero, List.set_cons_succ, List.getElem_toArray, List.getElem_cons_zero, List.getElem_cons_succ]
      refine wpAnyC_take (i := 5) (v := ?_) rfl rfl (by kernel_rfl) (by decide) (by kernel_rfl) (by kernel_rfl) (by kernel_rfl) (fun _ _ _ h => h) (Or.inl ⟨by rfl, ?_⟩) (by assumption) ?_
      rotate_left 1
      · ((intro w hSw; (try dsimp only at hSw); go_simp); (try with_reducible rfl))
      simp only [Act.put, List.setIfInBounds_toArray, List.set_cons_zero, List.set_cons_succ, List.getElem_toArray, List.getElem_cons_zero, List.getElem_cons_succ]
      refine wpAnyC_take (i := 6) (v := ?_) rfl rfl (by kernel_rfl) (by decide) (by kernel_rfl) (by kernel_rfl) (by kernel_rfl) (fun _ _ _ h => h) (Or.inl ⟨by rfl, ?_⟩) (by assumption) ?_
      rotate_left 1
      · ((intro w hSw; (try dsimp only at hSw); go_simp); (try with_reducible rfl))
      simp only [Act.put, List.setIfInBounds_toArray, List.set_cons_zero, List.set_cons_succ, List.getElem_toArray, List.getElem_cons_zero, List.getElem_cons_succ]
      refine wpAnyC_take (i := 7) (v := ?_) rfl rfl (by kernel_rfl) (by decide) (by kernel_rfl) (by kernel_rfl) (by kernel_rfl) (fun _ _ _ h => h) (Or.inl ⟨by rfl, ?_⟩) (by assumption) ?_
      rotate_left 1
      · ((intro w hSw; (try dsimp only at hSw); go_simp); (try with_reducible rfl))
      simp only [Act.put, List.setIfInBounds_toArray, List.set_cons_zero, List.set_cons_succ, List.getElem_toArray, List.getElem_cons_zero, List.getElem_cons_succ]
      refine wpAnyC_take (i := 8) (v := ?_) rfl rfl (by kernel_rfl) (by decide) (by kernel_rfl) (by kernel_rfl) (by kernel_rfl) (fun _ _ _ h => h) (Or.inl ⟨by rfl, ?_⟩) (by assumption) ?_
      rotate_left 1
      · ((intro w hSw; (try dsimp only at hSw); go_simp); (try with_reducible rfl))
      simp only [Act.put, List.setIfInBounds_toArray, List.set_cons_zero, List.set_cons_succ, List.getElem_toArray, List.getElem_cons_zero, List.getElem_cons_succ]
      refine wpAnyC_take (i := 9) (v := ?_) rfl rfl (by kernel_rfl) (by decide) (by kernel_rfl) (by kernel_rfl) (by kernel_rfl) (fun _ _ _ h => h) (Or.inl ⟨by rfl, ?_⟩) (by assumption) ?_
      rotate_left 1
      · ((intro w hSw; (try dsimp only at hSw); go_simp); (try with_reducible rfl))
      simp only [Act.put, List.setIfInBounds_toArray, List.set_cons_zero, List.set_cons_succ, List.getElem_toArray, List.getElem_cons_zero, List.getElem_cons_succ]
      refine wpAnyC_ready (rs := [10]) (by kernel_rfl) (by simp) ?_
      refine AllReadyC.cons rfl (fun K hK => ?_) AllReadyC.nil
      go_simp
      refine hK.out _ _ ?_ (fun hHeld => ?_)
      · exact hs1
      clear hK K
      try simp only [Act.put, List.setIfInBounds_toArray, List.set_cons_zero, List.set_cons_succ, List.getElem_toArray, List.getElem_cons_zero, List.getElem_cons_succ]
      refine wpAnyC_ready (rs := [11]) (by kernel_rfl) (by simp) ?_
      refine AllReadyC.cons rfl (fun K hK => ?_) AllReadyC.nil
      refine step_app2 _ rfl (.tmp 39) (.tmp 45) 60 rfl 0 72 i0 _ 6 40 Tryz.underlying60 hi0 hz0 hz1 hz2 rfl (by decide) A k c _ rfl oo _ _ 1 1 [.int .i64 t.prio, .int .i64 t.cl, .bool false, .bool false, .int .i64 0, .int .i64 0] rfl (by simp) rfl S2.out O2.out N2.out T2.out (Nat.zero_le _) ?_
      intro A' c' w5 happ
      have hblA : Hid (bl ∉ fp A) := hidp (fun hm => by have h5 := L.out.la bl (by rw [HAa.out]; exact hm); have := L.out.lb; omega)
      have bb := LU2.out.blk.turned happ.turned hblA.out
      have hwA : ∀ j ∈ fp A, j < wr.heap.size := fun j hj => by have := (own_fp L.out.askers.own j (by rw [HAa.out]; exact hj)).2; omega
      have htw : wr.heap.size ∉ fp A := fun hm => by have := hwA _ hm; omega
      have bt := (BTu.out.turned (Turned.of_below HAL.out []) (by simp)).turned happ.turned htw
      have cb : w5.cell? ⟨bl, 1, none⟩ = some (.slice A k c) := by
        have h7 := (bb.cell 1).trans LU2.out.c1
        rw [HAa.out, hlen.out, Hca.out] at h7
        exact h7
      have hs2 : w5.cell? ⟨bl, 1, none⟩ = some (.slice A k c) ∧ w5.cell? ⟨wr.heap.size, 3, none⟩ = some (.int .i64 t.prio) ∧ w5.cell? ⟨wr.heap.size, 4, none⟩ = some (.int .i64 t.cl) := ⟨cb, bt.cell 3, bt.cell 4⟩
      have fz := bb.frozen 1
      clear bb bt cb
      refine hK.out _ _ ?_ (fun hHeld => ?_)
      · exact hs2
      clear hK K
      try simp only [Act.put, List.setIfInBounds_toArray, List.set_cons_zero, List.set_cons_succ, List.getElem_toArray, List.getElem_cons_zero, List.getElem_cons_succ]
      refine wpAnyC_ready (rs := [12]) (by kernel_rfl) (by simp) ?_
      refine AllReadyC.cons rfl (fun K hK => ?_) AllReadyC.nil
      go_simp
      refine hK.out _ _ ?_ (fun hHeld => ?_)
      · exact hs2
      clear hK K
      try simp only [Act.put, List.setIfInBounds_toArray, List.set_cons_zero, List.set_cons_succ, List.getElem_toArray, List.getElem_cons_zero, List.getElem_cons_succ]
      refine wpAnyC_ready (rs := [13]) (by kernel_rfl) (by simp) ?_
      refine AllReadyC.cons rfl (fun K hK => ?_) AllReadyC.nil
      go_simp
      refine hK.out _ _ ?_ (fun hHeld => ?_)
      · exact hs2
      clear hK K
      try simp only [Act.put, List.setIfInBounds_toArray, List.set_cons_zero, List.set_cons_succ, List.getElem_toArray, List.getElem_cons_zero, List.getElem_cons_succ]
      refine wpAnyC_ready (rs := [14]) (by kernel_rfl) (by simp) ?_
      refine AllReadyC.last rfl (fun K hK => ?_)
      go_simp
      refine hK.out _ _ ?_
      clear hK K
      refine wpAnyC_done (by kernel_rfl) ?_ _
      have hap2 : App 0 72 6 (u.alloc (.cells #[.int .i64 t.prio, .int .i64 t.cl, .bool false, .bool false, .int .i64 0, .int .i64 0] 72)) m.Aa A' (m.ask.length + 1) c' (akc m.ask ++ akc [askNew t]) w5 := by rw [HAa.out, hlen.out]; exact happ
      have L5 := LU2.out.addA hap2 (x := askNew t) ⟨hpw.out.1, hpw.out.2, by show I64 0; unfold I64; omega, by show I64 0; unfold I64; omega⟩
      rw [hlen.out] at L5
      have HL5 := hidp L5
      have HN5 : Hid (NewM (m.addA (askNew t) A' c') proto ks ((tasks.take (k + 1)).map askNew) []) := hidp (by rw [Hs.out]; exact NM.out.addA _ _ _)
      have TT : Turned (bl :: fp A) wr (w5.setCell ⟨bl, 1, none⟩ (.slice A' (k + 1) c')) := (((Turned.of_below (W1.out.trans (HAL.out.mono W1.out.size)) (bl :: fp A)).trans happ.turned (fun i hi => .inl (List.mem_cons_of_mem _ hi)))).setCell (.inl (by simp)) _
      have hwb := BKr.out.lt
      have hnb : w.heap.size ∉ bl :: fp A := fun hm => by
        rcases List.mem_cons.1 hm with e | hm
        · have := hbl0.out; omega
        · have := FM.out _ (mem_fpm.2 (.inl (by rw [HAa.out]; exact hm))); omega
      have q1 := hidp (BKr.out.turned TT hnb)
      have q2 := HBW.out.trans (TT.below HBW.out.size (fun i hi => by
        rcases List.mem_cons.1 hi with rfl | hi
        · have := hbl0.out; omega
        · have := FM.out _ (mem_fpm.2 (.inl (by rw [HAa.out]; exact hi))); omega))
      have q3 : Hid (∀ j ∈ fpm (m.addA (askNew t) A' c'), w.heap.size < j) := hidp (fun j hj => by
        rcases fpm_addA hj with h1 | h1
        · rcases happ.fps j h1 with h2 | h2
          · exact FM.out _ (mem_fpm.2 (.inl (by rw [HAa.out]; exact h2)))
          · have := HAL.out.size; have := hwu.out; omega
        · exact FM.out j h1)
      clear TT hnb hap2 L5 happ hs2 hs hs1 oo fz hwA htw hHeld d0 d1 d2 d3 d4 d5
      go_wp2
      go_roundg (gk - 1)
      case measure => omega
      case rel => exact ⟨k + 1, _, _, by omega, by go_num, HL5, HN5, q3, q1, q2⟩
    · obtain rfl : k = tasks.length := by omega
      have NM1 : Hid (NewM m proto ks (tasks.map askNew) []) := hidp (by have := NM.out; rw [List.take_length] at this; exact this)
      have c1 : wr.cell? ⟨w.heap.size, 1, none⟩ = some (.slice ca cores.length cc) := BKr.out.cell 1
      have LK1 := L
      have FM1 := FM
      have BK1 := BKr
      have HBW1 := hidp hbw
      clear hbw
      go_wp2
      go_loopg [53] cores.length (fun g i wr => ∃ (k : Nat) (cs : Array Value) (m : LkM), k + g = cores.length ∧ i = .int .i64 k ∧ Hid (Lk wr bl 0 67 cs m) ∧ Hid (NewM m proto ks (tasks.map askNew) (cores.take k)) ∧ Hid (∀ j ∈ fpm m, w.heap.size < j) ∧ Below w.heap.size w wr)
      case atStart => exact ⟨0, _, _, by omega, rfl, LK1, NM1, FM1, HBW1.out⟩
      case round =>
        obtain ⟨j, csj, m2, hj, rfl, L2, NM2, FM2, hbj⟩ := hrel
        by_cases hlj : j < cores.length
        · obtain ⟨g', off', hA', hcl⟩ := HSx3.out.resolve_left (by intro e; rw [e] at hlj; simp at hlj)
          subst hA'
          obtain ⟨n, HN⟩ : ∃ n, Hid (cores.getD j 0 = n) := ⟨_, rfl⟩
          have cn := Keeps.of_below hbj _ _ (HN.out ▸ hcl j hlj)
          have hn : Hid (1 ≤ n ∧ n ≤ 3) := hidp (hg.out.cores n (by rw [← HN.out]; simp [List.getD, hlj]))
          have Hs : Hid (cores.take (j + 1) = cores.take j ++ [n]) := hidp (by
            rw [take_snoc cores j hlj, HN.out])
          have hd3 : decide (cores.length ≤ j) = false := decide_eq_false (by omega)
          have HBW := hidp hbj
          have hlen : Hid (m2.ds.length = j) := hidp (by rw [NM2.out.ds.1]; simp; omega)
          have cA := (L2.out.blk.cell 3).trans L2.out.c3
          rw [hlen.out] at cA
          obtain ⟨A, hAa⟩ : ∃ A, m2.Ad = A := ⟨_, rfl⟩
          obtain ⟨c, hca⟩ : ∃ c, m2.cd = c := ⟨_, rfl⟩
          rw [hAa, hca] at cA
          have HAa := hidp hAa
          have Hca := hidp hca
          have hs : wr.drew.cell? ⟨bl, 3, none⟩ = some (.slice A j c) := cA
          clear hcl hbj hAa hca cA
          go_wp2_with fail
          refine wp_region_c_drew 11 (S := fun w' => w'.cell? ⟨bl, 3, none⟩ = some (.slice A j c)) (by kernel_rfl) ?_ (fun hHeld => ?_)
          · exact hs
          have U1 := hidp ((Below.refl wr.heap.size wr).drew)
          obtain ⟨u, hu⟩ : ∃ u, wr.drew = u := ⟨_, rfl⟩
          rw [hu] at hs U1 ⊢
          clear hu
          refine wpAnyC_take (i := 0) (v := ?_) rfl rfl (by kernel_rfl) (by decide) (by kernel_rfl) (by kernel_rfl) (by kernel_rfl) (fun _ _ _ h => h) (Or.inl ⟨by rfl, ?_⟩) (by assumption) ?_
          rotate_left 1
          · ((intro w hSw; (try dsimp only at hSw); go_simp); (try with_reducible rfl))
          simp only [Act.put, List.setIfInBounds_toArray, List.set_cons_zero, List.set_cons_succ, List.getElem_toArray, List.getElem_cons_zero, List.getElem_cons_succ]
          refine wpAnyC_take (i := 1) (v := ?_) rfl rfl (by kernel_rfl) (by decide) (by kernel_rfl) (by kernel_rfl) (by kernel_rfl) (fun _ _ _ h => h) (Or.inl ⟨by rfl, ?_⟩) (by assumption) ?_
          rotate_left 1
          · ((intro w hSw; (try dsimp only at hSw); go_simp); (try with_reducible rfl))
          simp only [Act.put, List.setIfInBounds_toArray, List.set_cons_zero, List.set_cons_succ, List.getElem_toArray, List.getElem_cons_zero, List.getElem_cons_succ]
          refine wpAnyC_take (i := 2) (v := ?_) rfl rfl (by kernel_rfl) (by decide) (by kernel_rfl) (by kernel_rfl) (by kernel_rfl) (fun _ _ _ h => h) (Or.inl ⟨by rfl, ?_⟩) (by assumption) ?_
          rotate_left 1
          · ((intro w hSw; (try dsimp only at hSw); go_simp); (try with_reducible rfl))
          simp only [Act.put, List.setIfInBounds_toArray, List.set_cons_zero, List.set_cons_succ, List.getElem_toArray, List.getElem_cons_zero, List.getElem_cons_succ]
          refine wpAnyC_take (i := 3) (v := ?_) rfl rfl (by kernel_rfl) (by decide) (by kernel_rfl) (by kernel_rfl) (by kernel_rfl) (fun _ _ _ h => h) (Or.inl ⟨by rfl, ?_⟩) (by assumption) ?_
          rotate_left 1
          · ((intro w hSw; (try dsimp only at hSw); go_simp); (try with_reducible rfl))
          simp only [Act.put, List.setIfInBounds_toArray, List.set_cons_zero, List.set_cons_succ, List.getElem_toArray, List.getElem_cons_zero, List.getElem_cons_succ]
          refine wpAnyC_take (i := 4) (v := ?_) rfl rfl (by kernel_rfl) (by decide) (by kernel_rfl) (by kernel_rfl) (by kernel_rfl) (fun _ _ _ h => h) (Or.inl ⟨by rfl, ?_⟩) (by assumption) ?_
          rotate_left 1
          · ((intro w hSw; (try dsimp only at hSw); go_simp); (try with_reducible rfl))
          simp only [Act.put, List.setIfInBounds_toArray, List.set_cons_zero, List.set_cons_succ, List.getElem_toArray, List.getElem_cons_zero, List.getElem_cons_succ]
          refine wpAnyC_take (i := 5) (v := ?_) rfl rfl (by kernel_rfl) (by decide) (by kernel_rfl) (by kernel_rfl) (by kernel_rfl) (fun _ _ _ h => h) (Or.inl ⟨by rfl, ?_⟩) (by assumption) ?_
          rotate_left 1
          · ((intro w hSw; (try dsimp only at hSw); go_simp); (try with_reducible rfl))
          simp only [Act.put, List.setIfInBounds_toArray, List.set_cons_zero, List.set_cons_succ, List.getElem_toArray, List.getElem_cons_zero, List.getElem_cons_succ]
          refine wpAnyC_ready (rs := [6]) (by kernel_rfl) (by simp) ?_
          refine AllReadyC.cons rfl (fun K hK => ?_) AllReadyC.nil
          go_simp
          refine (newDoor_any n u hn.out).mono ?_
          rintro e v ⟨gd, ld, F, rfl, hD, hU⟩
          have hbv := hU.below
          have HFu : Hid (∀ i ∈ F, wr.heap.size ≤ i) := hidp (fun i hi => by have := hU.blocks i hi; have := U1.out.size; omega)
          have hal := (Below.refl v.heap.size v).alloc (Nat.le_refl _) (.cells #[.int .i64 n, .pointer (some ⟨gd, 0, none⟩), .pointer (some ⟨ld, 0, none⟩)] 76)
          have HUV := hidp (U1.out.trans (hbv.mono U1.out.size))
          have HUA := hidp (HUV.out.trans (hal.mono HUV.out.size))
          have LU := hidp (L2.out.over HUA.out)
          have HDr := hidp (hD.over hal)
          have hs1 : v.cell? ⟨bl, 3, none⟩ = some (.slice A j c) := Keeps.of_below hbv _ _ hs
          have hs3 : (v.alloc (.cells #[.int .i64 n, .pointer (some ⟨gd, 0, none⟩), .pointer (some ⟨ld, 0, none⟩)] 76)).cell? ⟨bl, 3, none⟩ = some (.slice A j c) := Keeps.of_below hal _ _ hs1
          have oo := LU.out.doors
          rw [hlen.out, HAa.out, Hca.out] at oo
          have S2 := hidp (new_lies v [.int .i64 n, .pointer (some ⟨gd, 0, none⟩), .pointer (some ⟨ld, 0, none⟩)] 76)
          have O2 : Hid (∀ uu ∈ [Value.int .i64 n, .pointer (some ⟨gd, 0, none⟩), .pointer (some ⟨ld, 0, none⟩)], uu.oneCell' = true) := hidp (by simp; exact ⟨rfl, rfl, rfl⟩)
          have N2 : Hid (j + 1 ≤ maxLen) := hidp (by unfold maxLen; omega)
          have T2 : Hid ((j + 1) * 24 ≤ 140737488355328) := hidp (by omega)
          have HAL := hidp hal
          clear hal hU hbv hD
          refine hK.out _ _ ?_ (fun hHeld => ?_)
          · exact hs1
          clear hK K
          try simp only [Act.put, List.setIfInBounds_toArray, List.set_cons_zero, List.set_cons_succ, List.getElem_toArray, List.getElem_cons_zero, List.getElem_cons_succ]
          refine wpAnyC_ready (rs := [7]) (by kernel_rfl) (by simp) ?_
          refine AllReadyC.cons rfl (fun K hK => ?_) AllReadyC.nil
          go_simp
          refine hK.out _ _ ?_ (fun hHeld => ?_)
          · exact hs3
          clear hK K
          try simp only [Act.put, List.setIfInBounds_toArray, List.set_cons_zero, List.set_cons_succ, List.getElem_toArray, List.getElem_cons_zero, List.getElem_cons_succ]
          refine wpAnyC_ready (rs := [8]) (by kernel_rfl) (by simp) ?_
          refine AllReadyC.cons rfl (fun K hK => ?_) AllReadyC.nil
          refine step_app2 _ rfl (.tmp 61) (.tmp 64) 62 rfl 0 76 j0 _ 3 24 Tryz.underlying62 hj0 hy0 hy1 hy2 rfl (by decide) A j c _ rfl oo _ _ 1 1 [.int .i64 n, .pointer (some ⟨gd, 0, none⟩), .pointer (some ⟨ld, 0, none⟩)] rfl (by simp) rfl S2.out O2.out N2.out T2.out (Nat.zero_le _) ?_
          intro A' c' w5 happ
          have hblA : Hid (bl ∉ fp A) := hidp (fun hm => by have h5 := L2.out.ld bl (by rw [HAa.out]; exact hm); have := L2.out.lb; omega)
          have bb := LU.out.blk.turned happ.turned hblA.out
          have hs2 : w5.cell? ⟨bl, 3, none⟩ = some (.slice A j c) := by
            have h7 := (bb.cell 3).trans LU.out.c3
            rw [HAa.out, hlen.out, Hca.out] at h7
            exact h7
          have fz := bb.frozen 3
          clear bb
          refine hK.out _ _ ?_ (fun hHeld => ?_)
          · exact hs2
          clear hK K
          try simp only [Act.put, List.setIfInBounds_toArray, List.set_cons_zero, List.set_cons_succ, List.getElem_toArray, List.getElem_cons_zero, List.getElem_cons_succ]
          refine wpAnyC_ready (rs := [9]) (by kernel_rfl) (by simp) ?_
          refine AllReadyC.cons rfl (fun K hK => ?_) AllReadyC.nil
          go_simp
          refine hK.out _ _ ?_ (fun hHeld => ?_)
          · exact hs2
          clear hK K
          try simp only [Act.put, List.setIfInBounds_toArray, List.set_cons_zero, List.set_cons_succ, List.getElem_toArray, List.getElem_cons_zero, List.getElem_cons_succ]
          refine wpAnyC_ready (rs := [10]) (by kernel_rfl) (by simp) ?_
          refine AllReadyC.cons rfl (fun K hK => ?_) AllReadyC.nil
          go_simp
          refine hK.out _ _ ?_ (fun hHeld => ?_)
          · exact hs2
          clear hK K
          try simp only [Act.put, List.setIfInBounds_toArray, List.set_cons_zero, List.set_cons_succ, List.getElem_toArray, List.getElem_cons_zero, List.getElem_cons_succ]
          refine wpAnyC_ready (rs := [11]) (by kernel_rfl) (by simp) ?_
          refine AllReadyC.last rfl (fun K hK => ?_)
          go_simp
          refine hK.out _ _ ?_
          clear hK K
          refine wpAnyC_done (by kernel_rfl) ?_ _
          have hap2 : App 0 76 3 (v.alloc (.cells #[.int .i64 n, .pointer (some ⟨gd, 0, none⟩), .pointer (some ⟨ld, 0, none⟩)] 76)) m2.Ad A' (m2.ds.length + 1) c' (drc m2.ds ++ drc [⟨n, [], [], gd, ld⟩]) w5 := by rw [HAa.out, hlen.out]; exact happ
          have L5 := LU.out.addD HDr.out (fun i hi => ⟨fun e => by have := HFu.out i hi; have := L2.out.blk.lt; omega, fun hm => by have := HFu.out i hi; have := L2.out.lt i hm; omega⟩) hap2
          rw [hlen.out] at L5
          have HL5 := hidp L5
          have HN5 : Hid (NewM (m2.addD ⟨n, [], [], gd, ld⟩ F A' c') proto ks (tasks.map askNew) (cores.take (j + 1))) := hidp (by rw [Hs.out]; exact NM2.out.addD _ _ _ _ _ _)
          have TT : Turned (bl :: fp A) wr (w5.setCell ⟨bl, 3, none⟩ (.slice A' (j + 1) c')) := (((Turned.of_below HUA.out (bl :: fp A)).trans happ.turned (fun i hi => .inl (List.mem_cons_of_mem _ hi)))).setCell (.inl (by simp)) _
          have q2 := HBW.out.trans (TT.below HBW.out.size (fun i hi => by
            rcases List.mem_cons.1 hi with rfl | hi
            · have := hbl0.out; omega
            · have := FM2.out _ (mem_fpm.2 (.inr (.inr (.inr (.inl (by rw [HAa.out]; exact hi)))))); omega))
          have q3 : Hid (∀ i ∈ fpm (m2.addD ⟨n, [], [], gd, ld⟩ F A' c'), w.heap.size < i) := hidp (fun i hi => by
            rcases fpm_addD hi with h1 | h1 | h1
            · rcases happ.fps i h1 with h2 | h2
              · exact FM2.out _ (mem_fpm.2 (.inr (.inr (.inr (.inl (by rw [HAa.out]; exact h2))))))
              · have h2 : (v.alloc (.cells #[.int .i64 n, .pointer (some ⟨gd, 0, none⟩), .pointer (some ⟨ld, 0, none⟩)] 76)).heap.size ≤ i := h2
                have := HUA.out.size; have := BK1.out.lt; have := HBW.out.size; have := hbl0.out; have := L2.out.blk.lt; omega
            · have := HFu.out i h1; have := L2.out.blk.lt; have := hbl0.out; omega
            · exact FM2.out i h1)
          clear TT hap2 L5 happ hs2 hs hs1 hs3 oo fz hHeld
          go_wp2
          go_roundg (gk - 1)
          case measure => omega
          case rel => exact ⟨j + 1, _, _, by omega, by go_num, HL5, HN5, q3, q2⟩
        · obtain rfl : j = cores.length := by omega
          go_wp2
          go_ret
          refine HFin.out bl csj m2 ks _ HKA.out L2.out ?_ (by have := hbl0.out; omega) (fun i hi => by have := FM2.out i hi; omega) hbj
          have := NM2.out
          rw [List.take_length] at this
          exact this
end Go.Proofs.YtppgameimddimaaGreat

namespace Go.Proofs.YtppgameimddimaaGreat
open Go.ChangeShapes Go.WideShapes Go.ChangeAt Go.RowKit Go.Conc
set_option linter.unusedVariables false
set_option linter.unusedSimpArgs false
structure LkRel (m : LkM) (s : Ls) : Prop where
  r0 : LkR0 m s
  rd : LkRD m.ds s
  ok : LsOk s
/-- these plain locks lie in the cells o to o + 7 of block b; F: what else is theirs -/
def Lx (w : World) (b o : Nat) (T : TypeId) (cs : Array Value) (s : Ls) (F : List Nat) : Prop := ∃ m, Lk w b o T cs m ∧ LkRel m s ∧ F = fpm m
def LxTo (w : World) (b o : Nat) (T : TypeId) (cs : Array Value) (F : List Nat) (w' : World) (s' : Ls) : Prop := ∃ cs' F', Lx w' b o T cs' s' F' ∧ FrL w b o 8 T cs F w' cs' F'
section
variable {w w' : World} {b o : Nat} {T : TypeId} {cs : Array Value} {m : LkM} {s s' : Ls} {F : List Nat}
theorem Lx.turned {G : List Nat} (h : Lx w b o T cs s F) (ht : Turned G w w') (hb : b ∉ G) (hF : ∀ k ∈ F, k ∉ G) : Lx w' b o T cs s F := by
  obtain ⟨m, h1, h2, rfl⟩ := h
  exact ⟨m, h1.turned ht hb hF, h2, rfl⟩
theorem Lx.over (h : Lx w b o T cs s F) (hb : Below w.heap.size w w') : Lx w' b o T cs s F := h.turned (Turned.of_below hb []) (by simp) (by simp)
theorem Lx.lt (h : Lx w b o T cs s F) : ∀ k ∈ F, k < w.heap.size := by
  obtain ⟨m, h1, h2, rfl⟩ := h
  exact h1.lt
theorem Lx.ok (h : Lx w b o T cs s F) : LsOk s := by
  obtain ⟨m, h1, h2, rfl⟩ := h
  exact h2.ok
theorem Lx.bk (h : Lx w b o T cs s F) : Bk w b T cs := by
  obtain ⟨m, h1, h2, rfl⟩ := h
  exact h1.blk
theorem Lx.apart (h : Lx w b o T cs s F) : b ∉ F := by
  obtain ⟨m, h1, h2, rfl⟩ := h
  intro hm
  have h0 := h1.lb
  rcases mem_fpm.1 hm with h3 | h3 | h3 | h3 | h3 | ⟨i, hi, h3⟩
  · have := h1.la b h3; omega
  · have := h1.lk b h3; omega
  · have := h1.lc b h3; omega
  · have := h1.ld b h3; omega
  · have := h1.lr b h3; omega
  · have := h1.lf i hi b h3; omega
theorem Lk.to {m1 : LkM} (h : LkTo w b o T cs m w' m1) (hr : LkRel m1 s') : LxTo w b o T cs (fpm m) w' s' := by
  obtain ⟨cs', h1, h2⟩ := h
  exact ⟨cs', fpm m1, ⟨m1, h1, hr, rfl⟩, h2⟩
theorem Lx.still (h : Lx w b o T cs s F) (hb : Below w.heap.size w w') : LxTo w b o T cs F w' s := ⟨cs, F, h.over hb, FrL.below hb⟩
theorem get_out (ho : LsOk s) {t : Int} (h : ¬ s.has t) : s.get t = none := get_none.2 fun a ha e => h (e ▸ ho.tk a ha)
theorem LkRel.holds (h : LkRel m s) (t : Int) : holdsB m t = holdsS s t := by
  unfold holdsB holdsS
  by_cases ht : s.has t
  · have hn : t.toNat < m.ask.length := (h.r0.has _).2 (by unfold Ls.has at *; omega)
    have ec : ((t.toNat : Nat) : Int) = t := by unfold Ls.has at ht; omega
    have h1 : thereB m t = true := by unfold thereB; unfold Ls.has at ht; have := h.r0.alen; simp; omega
    rw [h1, h.r0.ask _ hn, ec, Bool.true_and]
    unfold askOf
    cases s.get t <;> rfl
  · rw [get_out h.ok ht]
    have h1 : thereB m t = false := by
      unfold thereB
      unfold Ls.has at ht
      have := h.r0.alen
      simp; omega
    rw [h1]; rfl
theorem LkRel.boost (h : LkRel m s) (t : Int) : boostV m t = boostS s t := by
  unfold boostV
  rw [h.holds t]
  unfold holdsS boostS
  by_cases ht : s.has t
  · have hn : t.toNat < m.ask.length := (h.r0.has _).2 (by unfold Ls.has at *; omega)
    have ec : ((t.toNat : Nat) : Int) = t := by unfold Ls.has at ht; omega
    rw [h.r0.ask _ hn, ec, h.r0.proto]
    unfold askOf
    cases hg : s.get t with
    | none => rfl
    | some a =>
      dsimp only
      split
      · split <;> simp_all
      · rfl
  · rw [get_out h.ok ht]; rfl
theorem LkRel.waits (h : LkRel m s) : waitW m.ask m.ask.length = waitS s := by
  unfold waitW waitS
  rw [h.r0.alen]
  congr 1
  refine List.filter_congr fun i hi => ?_
  rw [List.mem_range] at hi
  rw [h.r0.ask i (by rw [h.r0.alen]; exact hi)]
  unfold askOf
  cases s.get i <;> rfl
theorem LkRel.holder (h : LkRel m s) (r : Int) : holdV m.ask r = holderV s r := by
  have at_ : ∀ i, i < m.ask.length → (((m.ask.getD i default).holds && (m.ask.getD i default).res == r) = true ↔ ∃ a ∈ s.L, a.task = (i : Int) ∧ a.holds = true ∧ a.res = r) := fun i hi => by
    rw [h.r0.ask i hi]
    unfold askOf
    cases hg : s.get i with
    | none =>
      have := get_none.1 hg
      simp
      exact fun a ha e => absurd e (this a ha)
    | some a =>
      obtain ⟨ha, e⟩ := get_mem hg
      simp only [Bool.and_eq_true, beq_iff_eq]
      constructor
      · exact fun ⟨h1, h2⟩ => ⟨a, ha, e, h1, h2⟩
      · rintro ⟨b, hb, e2, h1, h2⟩
        obtain rfl := h.ok.uniq hb ha (e2.trans e.symm)
        exact ⟨h1, h2⟩
  unfold holderV holderS
  cases hf : s.L.find? fun a => a.holds && a.res == r with
  | none =>
    refine holdR_none fun j hj => ?_
    cases hx : ((m.ask.getD j default).holds && (m.ask.getD j default).res == r) with
    | false => rfl
    | true =>
      obtain ⟨a, ha, _, h1, h2⟩ := (at_ j hj).1 hx
      have := List.find?_eq_none.1 hf a ha
      simp [h1, h2] at this
  | some a =>
    have hm := List.mem_of_find?_eq_some hf
    have hp := List.find?_some hf
    simp only [Bool.and_eq_true, beq_iff_eq] at hp
    have ht := h.ok.tk a hm
    have hn : a.task.toNat < m.ask.length := (h.r0.has _).2 (by unfold Ls.has at *; omega)
    have ec : ((a.task.toNat : Nat) : Int) = a.task := by unfold Ls.has at ht; omega
    have h9 := holdR_hit (l := m.ask) (res := r) (k := a.task.toNat) hn (fun j hj => ?_) ((at_ _ hn).2 ⟨a, hm, ec.symm, hp.1, hp.2⟩)
    · rw [h9]
      simp only [Option.map_some, ec]
    · cases hx : ((m.ask.getD j default).holds && (m.ask.getD j default).res == r) with
      | false => rfl
      | true =>
        obtain ⟨b2, hb2, e, h1, h2⟩ := (at_ j (by omega)).1 hx
        have := h.ok.ex b2 hb2 a hm h1 hp.1 (by rw [h2, hp.2]; exact sameK_refl _ _)
        omega
theorem lx_holds (h : Lx w b o T cs s F) (t : Int) : Calls Tryz.prog 21 #[.pointer (some ⟨b, o, none⟩), .int .i64 t] w fun e w' => e = .returned (.bool (holdsS s t)) ∧ w = w' := by
  obtain ⟨m, h1, h2, rfl⟩ := h
  rw [← h2.holds]; exact lholds_any h1 t
theorem lx_boost (h : Lx w b o T cs s F) (t : Int) : Calls Tryz.prog 26 #[.pointer (some ⟨b, o, none⟩), .int .i64 t] w fun e w' => e = .returned (.int .i64 (boostS s t)) ∧ w = w' := by
  obtain ⟨m, h1, h2, rfl⟩ := h
  rw [← h2.boost]; exact lboost_any h1 t
theorem lx_holder (h : Lx w b o T cs s F) (r : Int) : Calls Tryz.prog 24 #[.pointer (some ⟨b, o, none⟩), .int .i64 r] w fun e w' => e = .returned (holderV s r) ∧ Below w.heap.size w w' := by
  obtain ⟨m, h1, h2, rfl⟩ := h
  rw [← h2.holder]; exact lholder_any h1 (by rw [h2.r0.alen]; exact h2.ok.n6) r
theorem lx_waiting (h : Lx w b o T cs s F) : Calls Tryz.prog 25 #[.pointer (some ⟨b, o, none⟩)] w fun e w' => ∃ A n c, e = .returned (.slice A n c) ∧ OwnInts w.heap.size w' A n c (waitS s) ∧ Below w.heap.size w w' := by
  obtain ⟨m, h1, h2, rfl⟩ := h
  rw [← h2.waits]; exact lwaiting_any h1 (by rw [h2.r0.alen]; exact h2.ok.n6)
theorem outs_lt (ho : LsOk s) {t : Int} (ht : s.has t) (hn : s.get t = none) (c : Int) : (outsS s c).length < s.prio.length := by
  have h1 := len_sub (l := t :: outsS s c) (m := (List.range s.prio.length).map fun n : Nat => (n : Int)) ?_ ?_
  · simp at h1; omega
  · rw [List.nodup_cons]
    refine ⟨fun hm => ?_, outsS_nd ho c⟩
    obtain ⟨a, ha, e, _⟩ := mem_outsS.1 hm
    exact get_none.1 hn a ha e
  · intro x hx
    have hx' : s.has x := by
      rcases List.mem_cons.1 hx with rfl | hx
      · exact ht
      · obtain ⟨a, ha, rfl, _⟩ := mem_outsS.1 hx
        exact ho.tk a ha
    unfold Ls.has at hx'
    exact List.mem_map.2 ⟨x.toNat, by rw [List.mem_range]; omega, by omega⟩
theorem outs_len (ho : LsOk s) (c : Int) : (outsS s c).length ≤ 6 := by
  have h1 := len_sub (m := s.L.map AL.task) (outsS_nd ho c) fun t ht => by
    obtain ⟨a, ha, e, _⟩ := mem_outsS.1 ht
    exact e ▸ List.mem_map_of_mem ha
  have := tasks_le ho
  have := ho.n6
  simp at h1; omega
theorem lx_ask (h : Lx w b o T cs s F) {t r : Int} (hr : I64 r) (hc : s.count < 800000) (hp : s.proto = 1 ∨ s.proto = 2 ∨ s.proto = 3 ∨ s.prio.length = 0) : Calls Tryz.prog 12 #[.pointer (some ⟨b, o, none⟩), .int .i64 t, .int .i64 r] w fun e w' => e = .returned (.int .i64 (askC s t r)) ∧ LxTo w b o T cs F w' (askS s t r) := by
  have hx := h
  obtain ⟨m, h1, h2, rfl⟩ := h
  have e1 : thereB m t = true ↔ s.has t := by
    unfold thereB Ls.has
    rw [h2.r0.alen]; simp
  by_cases ht : s.has t
  · have htb := e1.2 ht
    by_cases hrr : s.hasR r
    · have hr2 : 0 ≤ r ∧ r < (m.ks.length : Int) := by rw [h2.r0.klen]; exact hrr
      obtain ⟨n, rfl⟩ : ∃ n : Nat, t = (n : Int) := ⟨t.toNat, by unfold Ls.has at ht; omega⟩
      have hn : n < m.ask.length := (h2.r0.has n).2 ht
      have hak := h2.r0.asked hn
      cases hg : s.get n with
      | some a =>
        have ec : askC s n r = 17 := by unfold askC; rw [if_neg (by simpa using ht), if_neg (by simpa using hrr), hg]; rfl
        have es : askS s n r = s := by unfold askS; rw [if_neg (by rw [ec]; decide)]
        rw [ec, es]
        refine (lask_twice h1 hn hr2 (by rw [hak, hg]; rfl)).mono ?_
        rintro e w' ⟨rfl, rfl⟩
        exact ⟨rfl, hx.still (Below.refl _ _)⟩
      | none =>
        rw [hg] at hak
        have ec : askC s n r = 0 := by unfold askC; rw [if_neg (by simpa using ht), if_neg (by simpa using hrr), hg]; rfl
        have es : askS s n r = askN s n r := by unfold askS; rw [if_pos ec]
        rw [ec, es]
        have ok2 := h2.ok.ask ht hrr hg
        have n6 := h2.ok.n6
        have al := h2.r0.alen
        have hPe := h2.r0.P
        have hpl := h2.r0.placesA
        have c0 := h2.ok.c0
        have hroom : (m.l.length : Int) < m.R := by
          have := waitG_lt h2.ok ht (fun a ha => get_none.1 hg a (mem_waitG.1 ha).1)
          have := h2.r0.room.1
          rw [h2.r0.l_len]; omega
        rcases hp with hp | hp | hp | hp
        · refine (lask_fair h1 hn hr2 hr hak (h2.r0.proto.trans hp) hroom h2.r0.room.2 (by omega) (by omega)).mono ?_
          rintro e w' ⟨rfl, A, c, hto⟩
          exact ⟨rfl, Lk.to hto ⟨h2.r0.askFair h2.ok hn hrr hg (by omega) (by omega) A c, h2.rd.askOther h2.ok (by omega) n r, ok2⟩⟩
        · refine (lask_agent h1 hn hr2 hr hak (h2.r0.proto.trans hp) hroom h2.r0.room.2 (by omega)).mono ?_
          rintro e w' ⟨rfl, A, c, hto⟩
          exact ⟨rfl, Lk.to hto ⟨h2.r0.askAgent h2.ok hn hrr hg hp A c, h2.rd.askOther h2.ok (by omega) n r, ok2⟩⟩
        · have hcl := h2.ok.clo n ht
          obtain ⟨k, hk⟩ : ∃ k : Nat, s.cls n = (k : Int) := ⟨(s.cls n).toNat, by omega⟩
          have hkl : k < m.ds.length := by rw [h2.rd.len]; omega
          have hac : (m.ask.getD n default).cluster = (k : Int) := by rw [h2.r0.ask n hn, askOf_none hg]; exact hk
          have hol : (m.ds.getD k default).outs.length < 6 := by
            rw [(h2.rd.at_ k hkl).2.1]
            have := outs_lt h2.ok ht hg k
            omega
          refine (lask_token h1 hn hr2 hr hak (h2.r0.proto.trans hp) hac hkl hol (by unfold I64; omega)).mono ?_
          rintro e w' ⟨rfl, F2, hto⟩
          exact ⟨rfl, Lk.to hto ⟨h2.r0.askToken h2.ok hn hrr hg hp _ F2, h2.rd.askToken h2.ok hp hkl hk r, ok2⟩⟩
        · unfold Ls.has at ht; omega
    · have ec : askC s t r = 16 := by unfold askC; rw [if_neg (by simpa using ht), if_pos hrr]
      have es : askS s t r = s := by unfold askS; rw [if_neg (by rw [ec]; decide)]
      rw [ec, es]
      refine (lask_place h1 htb (by have := h2.r0.klen; unfold Ls.hasR at hrr; omega)).mono ?_
      rintro e w' ⟨rfl, rfl⟩
      exact ⟨rfl, hx.still (Below.refl _ _)⟩
  · have ec : askC s t r = 14 := by unfold askC; rw [if_pos ht]
    have es : askS s t r = s := by unfold askS; rw [if_neg (by rw [ec]; decide)]
    rw [ec, es]
    refine (lask_task h1 (by cases hb : thereB m t with | false => rfl | true => exact absurd (e1.1 hb) ht)).mono ?_
    rintro e w' ⟨rfl, rfl⟩
    exact ⟨rfl, hx.still (Below.refl _ _)⟩
theorem lx_leave (h : Lx w b o T cs s F) (t : Int) : Calls Tryz.prog 17 #[.pointer (some ⟨b, o, none⟩), .int .i64 t] w fun e w' => e = .returned (.int .i64 (leaveC s t)) ∧ LxTo w b o T cs F w' (leaveS s t) := by
  have hx := h
  obtain ⟨m, h1, h2, rfl⟩ := h
  cases hg : s.get t with
  | none =>
    have ec : leaveC s t = 13 := by unfold leaveC; rw [hg]; rfl
    have es : leaveS s t = s := by
      unfold leaveS
      rw [List.filter_eq_self.2 (fun a ha => by have := get_none.1 hg a ha; simpa using this)]
    rw [ec, es]
    refine (lleave_none h1 (t := t) ?_).mono ?_
    · by_cases ht : s.has t
      · have hn : t.toNat < m.ask.length := (h2.r0.has _).2 (by unfold Ls.has at *; omega)
        have ec : ((t.toNat : Nat) : Int) = t := by unfold Ls.has at ht; omega
        right
        rw [h2.r0.asked hn, ec, hg]; rfl
      · left
        unfold thereB
        unfold Ls.has at ht
        have := h2.r0.alen
        simp; omega
    · rintro e w' ⟨rfl, rfl⟩
      exact ⟨rfl, hx.still (Below.refl _ _)⟩
  | some a =>
    obtain ⟨ha, rfl⟩ := get_mem hg
    have ht := h2.ok.tk a ha
    have hn : a.task.toNat < m.ask.length := (h2.r0.has _).2 (by unfold Ls.has at *; omega)
    have et : ((a.task.toNat : Nat) : Int) = a.task := by unfold Ls.has at ht; omega
    have ec : leaveC s a.task = 0 := by unfold leaveC; rw [hg]; rfl
    rw [ec]
    have hak := h2.r0.ask _ hn
    rw [et] at hak
    unfold askOf at hak
    rw [hg] at hak
    have hcl := h2.ok.clo _ ht
    obtain ⟨k, hk⟩ : ∃ k : Nat, s.cls a.task = (k : Int) := ⟨(s.cls a.task).toNat, by omega⟩
    have hkl : k < m.ds.length := by rw [h2.rd.len]; omega
    have n6 := h2.ok.n6
    have al := h2.r0.alen
    have hl64 : m.l.length ≤ 64 := by
      rw [h2.r0.l_len]
      have h3 := List.length_filter_le AL.waits s.L
      have := tasks_le h2.ok
      unfold waitG
      omega
    have hrd : LkRD (m.ds.set k (leaveD (m.ds.getD k default) a.task)) (leaveS s a.task) := h2.rd.leave h2.ok ha hkl hk
    have hra := h2.ok.rs a ha
    cases hh : a.holds with
    | false =>
      have hc := lleave_waits h1 hn (by rw [hak]) (by rw [hak]; exact hh) (by rw [hak]; exact hk) hkl hl64 (by unfold I64; omega)
      rw [et] at hc
      refine hc.mono ?_
      rintro e w' ⟨rfl, F2, hto⟩
      refine ⟨rfl, Lk.to hto ⟨h2.r0.gone h2.ok ha k F2 (by simp [hh]), ?_, h2.ok.leave _⟩⟩
      show LkRD (m.ds.set k (leaveD (m.ds.getD k default) ((a.task.toNat : Nat) : Int))) _
      rw [et]; exact hrd
    | true =>
      have hrl : a.res.toNat < m.ks.length := by rw [h2.r0.klen]; unfold Ls.hasR at hra; omega
      have er : ((a.res.toNat : Nat) : Int) = a.res := by unfold Ls.hasR at hra; omega
      have hfr : m.fr (m.ks.getD a.res.toNat 0) = false := by
        rw [h2.r0.fr _ hrl, er]
        have : heldS s a.res = true := heldS_true.2 ⟨a, ha, hh, sameK_refl _ _⟩
        rw [this]; rfl
      have hc := lleave_holds h1 hn (by rw [hak]) (by rw [hak]; exact hh) (by rw [hak]; exact hk) hkl hl64 (by unfold I64; omega) (r := a.res.toNat) (by rw [hak]; exact er.symm) hrl hfr
      rw [et] at hc
      refine hc.mono ?_
      rintro e w' ⟨rfl, F2, hto⟩
      refine ⟨rfl, Lk.to hto ⟨h2.r0.gone h2.ok ha k F2 (by simp [hh]), ?_, h2.ok.leave _⟩⟩
      show LkRD (m.ds.set k (leaveD (m.ds.getD k default) ((a.task.toNat : Nat) : Int))) _
      rw [et]; exact hrd
end
end Go.Proofs.YtppgameimddimaaGreat

namespace Go.Proofs.YtppgameimddimaaGreat
open Go.ChangeShapes Go.WideShapes Go.ChangeAt Go.RowKit Go.Conc
set_option linter.unusedVariables false
set_option linter.unusedSimpArgs false
section
variable {w w' : World} {b o : Nat} {T : TypeId} {cs : Array Value} {m : LkM} {s s' : Ls} {F : List Nat}
set_option maxHeartbeats 4000000 in
set_option maxRecDepth 100000 in
/-- nobody stands at no door -/
theorem lenter_no (h : Lk w b o T cs m) (h0 : m.ds.length = 0) : Calls Tryz.prog 37 #[.pointer (some ⟨b, o, none⟩)] w fun e w' => e = .returned (.tuple #[]) ∧ LkTo w b o T cs m w' m := by
  have c3 := (h.blk.cell _).trans h.c3
  rw [h0] at c3
  have HL := hidp h
  have SO := sort_own_any (w := w) (B := w.heap.size) (A := none) (n := 0) (c := 0) (zs := []) ⟨World.ownsRow_nil _ _ _ _, rfl, Nat.le_refl _, by decide, fun _ => ⟨rfl, rfl⟩⟩ (by simp)
  clear h h0
  go_enter Tryz.func37, Tryz.ntmps37
  go_wp2
  go_loopg [2, 12] 0 (fun g a i wr => i = .int .i64 0 ∧ a = .slice none 0 0 ∧ wr = w)
  case atStart => exact ⟨rfl, rfl, rfl⟩
  case round =>
    obtain ⟨rfl, rfl, rfl⟩ := hrel
    go_wp2_with fail
    refine SO.mono ?_
    rintro e w2 ⟨rfl, ho, ht⟩
    have hto := hidp (LkTo.below HL.out (ht.below (Nat.le_refl _) (by simp [fp])))
    clear ho ht
    go_wp2_with fail
    go_loopg [25] 0 (fun g i wr => i = .int .i64 0 ∧ wr = w2)
    case atStart => exact ⟨rfl, rfl⟩
    case round =>
      obtain ⟨rfl, rfl⟩ := hrel
      go_wp2_with fail
      refine ⟨rfl, _, results_none rfl _ _ _, ?_⟩
      exact ⟨rfl, hto.out⟩
def GrG (s : Ls) (m1 : LkM) : Prop := LkR0 m1 (letS s) ∧ LkRD m1.ds (letS s)
theorem two_le (ho : LsOk s) : (waitG s).length + (newS s).length ≤ s.prio.length := by
  have h1 := len_sub (l := (waitG s).map AL.task ++ newS s) (m := (List.range s.prio.length).map fun n : Nat => (n : Int)) ?_ ?_
  · simp at h1; omega
  · rw [List.nodup_append]
    refine ⟨ho.nd.sublist (List.filter_sublist.map _), newS_nd ho, fun x hx y hy e => ?_⟩
    subst e
    obtain ⟨a, ha, rfl⟩ := List.mem_map.1 hx
    obtain ⟨b, hb, e, h0⟩ := newS_out hy
    obtain rfl := ho.uniq hb (mem_waitG.1 ha).1 e
    have := (mem_waitG.1 ha).2.2
    omega
  · intro x hx
    have hx' : s.has x := by
      rcases List.mem_append.1 hx with hx | hx
      · obtain ⟨a, ha, rfl⟩ := List.mem_map.1 hx
        exact ho.tk a (mem_waitG.1 ha).1
      · obtain ⟨a, ha, rfl, _⟩ := newS_out hx
        exact ho.tk a ha
    unfold Ls.has at hx'
    exact List.mem_map.2 ⟨x.toNat, by rw [List.mem_range]; omega, by omega⟩
theorem entL_len {ds : List DrM} (h : LkRD ds s) (ho : LsOk s) : (entL ds ds.length).length = (newS s).length := by rw [← h.news ho, sortI_len]
theorem lx_enter (h : Lk w b o T cs m) (h2 : LkRel m s) (hc : s.count < 800000) : Calls Tryz.prog 37 #[.pointer (some ⟨b, o, none⟩)] w fun e w' => e = .returned (.tuple #[]) ∧ ∃ m1, LkTo w b o T cs m w' m1 ∧ GrG s m1 := by
  have hlet := h2.rd.let_ h2.ok
  have hnw := h2.rd.news h2.ok
  by_cases h0 : m.ds.length = 0
  · refine (lenter_no h h0).mono ?_
    rintro e w' ⟨rfl, hto⟩
    have hds : m.ds = [] := List.eq_nil_of_length_eq_zero h0
    have hn0 : newS s = [] := by rw [← hnw, hds]; simp [entL, sortI]
    have el : letS s = s := by unfold letS; rw [hn0]; rfl
    exact ⟨rfl, m, hto, by unfold GrG; rw [el]; exact ⟨h2.r0, h2.rd⟩⟩
  · have n6 := h2.ok.n6
    have al := h2.r0.alen
    have hPe := h2.r0.P
    have hpl := h2.r0.placesA
    have c0 := h2.ok.c0
    have hrm := h2.r0.room
    have h3 := h2.ok.c3
    refine (lenter_any h (by omega) (by rw [h2.rd.len]; exact h3) (fun i hi => ?_) (fun i hi => ?_) (fun i hi x hx => ?_) hrm.2 (by omega) (by omega) ?_).mono ?_
    · obtain ⟨_, e2, e3, e4⟩ := h2.rd.at_ i hi
      rw [e2]
      by_cases hp : s.proto = 3
      · exact ((e3 hp).append_right _).nodup_iff.2 (both_nd h2.ok i)
      · rw [e4 hp]; exact outsS_nd h2.ok i
    · rw [(h2.rd.at_ i hi).2.1]; exact outs_len h2.ok i
    · rw [(h2.rd.at_ i hi).2.1] at hx
      obtain ⟨a, ha, rfl, _⟩ := mem_outsS.1 hx
      have := h2.ok.tk a ha
      unfold Ls.has at this
      rw [al]; exact this
    · rw [entL_len h2.rd h2.ok, h2.r0.l_len]
      have := two_le h2.ok
      omega
    · rintro e w' ⟨rfl, Fd, lab, m', hpl2, hto⟩
      rw [hnw] at hpl2
      have h0' : LkR0 ({ m with ds := entDs m.ds m.ds.length, Fd := Fd, lab := lab } : LkM) s := ⟨h2.r0.proto, h2.r0.alen, h2.r0.klen, h2.r0.ask, h2.r0.keys, h2.r0.fr, h2.r0.room, h2.r0.P, h2.r0.l, h2.r0.places, h2.r0.placesA⟩
      obtain ⟨q1, q2⟩ := fold_PlR (newS s) hpl2 h0' h2.ok (by
        by_cases hp : s.proto = 3
        · exact .inr hp
        · exact .inl (newS_nil h2.ok hp)) (newS_nd h2.ok) fun t ht => newS_out ht
      exact ⟨rfl, m', hto, q1, by rw [q2]; exact hlet⟩
theorem grant_ds (xs : List AL) : ∀ (ds : List DrM) (s : Ls) (l : List Int), LkRD ds s → LkRD ds (xs.foldl try1 (s, l)).1 := by
  induction xs with
  | nil => exact fun ds s l h => h
  | cons a xs ih =>
    intro ds s l h
    rw [List.foldl_cons]
    refine ih ds (try1 (s, l) a).1 (try1 (s, l) a).2 ?_
    unfold try1
    split
    · exact h
    · exact h.hold _
theorem lx_grant (h : Lx w b o T cs s F) (hc : s.count < 800000) : Calls Tryz.prog 15 #[.pointer (some ⟨b, o, none⟩)] w fun e w' => ∃ A n c cs' F', e = .returned (.slice A n c) ∧ OwnInts w.heap.size w' A n c (grantL s) ∧ Lx w' b o T cs' (grantS s) F' ∧ FrL w b o 8 T cs F w' cs' F' ∧ ∀ q ∈ F', q ∉ fp A := by
  obtain ⟨m, h1, h2, rfl⟩ := h
  have lok := (letS_all h2.ok).1
  have hsm : SameLs s (letS s) := same_place _ s
  refine (lgrant_any (G := GrG s) (lx_enter h1 h2 hc) (fun m1 hG => ⟨?_, fun e he => ?_, fun e he => ?_⟩) h1.blk.lt h1.lt).mono ?_
  · rw [hG.1.l_len]
    have h3 := List.length_filter_le AL.waits (letS s).L
    have := tasks_le lok
    have := lok.n6
    unfold waitG
    omega
  · have hm : e.id ∈ (waitG (letS s)).map AL.task := hG.1.ids.mem_iff.1 (List.mem_map_of_mem he)
    obtain ⟨a, ha, e2⟩ := List.mem_map.1 hm
    have := lok.tk a (mem_waitG.1 ha).1
    rw [e2] at this
    rw [hG.1.alen]; exact this
  · have hm : e.id ∈ (waitG (letS s)).map AL.task := hG.1.ids.mem_iff.1 (List.mem_map_of_mem he)
    obtain ⟨a, ha, e2⟩ := List.mem_map.1 hm
    have ham := (mem_waitG.1 ha).1
    have ht := lok.tk a ham
    rw [e2] at ht
    have hn : e.id.toNat < m1.ask.length := (hG.1.has _).2 (by unfold Ls.has at *; omega)
    have ec : ((e.id.toNat : Nat) : Int) = e.id := by unfold Ls.has at ht; omega
    have en := hG.1.ask _ hn
    rw [ec, ← e2] at en
    unfold askOf at en
    rw [lok.get_of ham] at en
    rw [← e2, en]
    have := lok.rs a ham
    rw [hG.1.klen]; exact this
  · rintro e w' ⟨m1, S, A, n, c, hG, hp, hs, rfl, hown, hto, hap⟩
    have eids := cand_ids hG.1 lok hp hs
    rw [eids] at hown hto hap
    obtain ⟨q1, q2, q3⟩ := grant_fold (candS (letS s)) (out := []) hG.1 lok (fun a ha => candS_in ha)
    obtain ⟨cs', L, FR⟩ := hto
    refine ⟨A, n, c, cs', _, rfl, ?_, ⟨_, L, ⟨q1, ?_, h2.ok.grant⟩, rfl⟩, FR, hap⟩
    · have e1 : grantL s = sortI (grantM m1 ((candS (letS s)).map AL.task)).2 := by
        unfold grantL grantP sortI grantM
        rw [q2]
      rw [e1]; exact hown
    · show LkRD (((candS (letS s)).map AL.task).foldl grant1 (m1, [])).1.ds _
      rw [q3]
      exact grant_ds _ _ _ _ hG.2
end
end Go.Proofs.YtppgameimddimaaGreat

namespace Go.Proofs.YtppgameimddimaaGreat
open Go.ChangeShapes Go.WideShapes Go.ChangeAt Go.RowKit Go.Conc
set_option linter.unusedVariables false
set_option linter.unusedSimpArgs false
def lsZero : Ls := ⟨0, [], [], [], [], [], 0⟩
def lsOf (s : SetR) : Ls := if okS s = true then lsNew s else lsZero
theorem lsZero_ok : LsOk lsZero := by
  have hh : ∀ t, ¬ lsZero.has t := fun t h => by unfold Ls.has lsZero at h; simp at h; omega
  refine ⟨by decide, rfl, by decide, fun t h => absurd h (hh t), by simp [lsZero], by simp [lsZero], by simp [lsZero], by simp [lsZero], by simp [lsZero], fun h => absurd h (by decide), by simp [lsZero], by simp [lsZero], by simp [lsZero], Int.le_refl _⟩
theorem lsNew_ok {s : SetR} (hg : Good s) : LsOk (lsNew s) := by
  refine ⟨by simpa [lsNew] using hg.ntasks.2, by simp [lsNew], hg.ncores.2, fun t h => ?_, by simp [lsNew], by simp [lsNew], by simp [lsNew], by simp [lsNew], by simp [lsNew], fun hp t u ht hu e => ?_, by simp [lsNew], by simp [lsNew], by simp [lsNew], Int.le_refl _⟩
  · unfold Ls.has lsNew at h
    simp only [List.length_map] at h
    have hl : t.toNat < s.tasks.length := by omega
    have e : (lsNew s).cls t = (s.tasks.getD t.toNat default).cl := by simp [lsNew, Ls.cls, List.getD, hl]
    have := hg.place _ (getD_mem hl)
    rw [e]
    show _ ∧ _ < (s.cores.length : Int)
    omega
  · unfold Ls.has lsNew at ht hu
    simp only [List.length_map] at ht hu
    have key : ∀ i j : Nat, j < s.tasks.length → i < j → (s.tasks.getD i default).prio ≠ (s.tasks.getD j default).prio := fun i j hj hij e => by
      have h1 := hg.apart j hj
      unfold takenB at h1
      rw [List.any_eq_false] at h1
      have hm : s.tasks.getD i default ∈ s.tasks.take j := by
        have : i < (s.tasks.take j).length := by simp; omega
        have h2 := getD_mem this
        have e2 : (s.tasks.take j).getD i default = s.tasks.getD i default := by simp [List.getD, List.getElem?_take, hij]
        rw [e2] at h2; exact h2
      have h3 := h1 _ hm
      unfold likeB at h3
      rw [e] at h3
      simp at h3
    have e1 : (lsNew s).pri t = (s.tasks.getD t.toNat default).prio := by simp [lsNew, Ls.pri, List.getD, show t.toNat < s.tasks.length by omega]
    have e2 : (lsNew s).pri u = (s.tasks.getD u.toNat default).prio := by simp [lsNew, Ls.pri, List.getD, show u.toNat < s.tasks.length by omega]
    rw [e1, e2] at e
    rcases Nat.lt_trichotomy t.toNat u.toNat with h1 | h1 | h1
    · exact absurd e (key _ _ (by omega) h1)
    · omega
    · exact absurd e.symm (key _ _ (by omega) h1)
def zeroM : LkM := ⟨0, [], [], fun _ => true, [], 0, 0, [], 0, none, 0, none, 0, none, 0, none, 0, fun _ => [], fun _ => 0⟩
theorem zero_lk {w : World} {b : Nat} (hb : Bk w b 67 #[.int .i64 0, .slice none 0 0, .slice none 0 0, .slice none 0 0, .int .i64 0, .int .i64 0, .slice none 0 0, .int .i64 0]) : Lx w b 0 67 #[.int .i64 0, .slice none 0 0, .slice none 0 0, .slice none 0 0, .int .i64 0, .int .i64 0, .slice none 0 0, .int .i64 0] lsZero [] := by
  refine ⟨zeroM, ⟨hb, rfl, rfl, rfl, rfl, rfl, ⟨hb, rfl, rfl, rfl, ⟨World.ownsRow_nil _ _ _ _, rfl, by decide, fun _ => ⟨rfl, rfl⟩⟩, by simp [zeroM, fp]⟩, OwnK.empty _ _, World.ownsRow_nil _ _ _ _, by simp [zeroM], World.ownsRow_nil _ _ _ _, fun i hi => absurd hi (by simp [zeroM]), by simp [zeroM], rfl, by simp [zeroM, fp], by simp [zeroM, fp], by simp [zeroM], by simp [zeroM, fp], by simp [zeroM, fp], fun i hi => absurd hi (by simp [zeroM])⟩, ⟨⟨rfl, rfl, rfl, fun i hi => absurd hi (by simp [zeroM]), fun r q hr => absurd hr (by simp [zeroM]), fun r hr => absurd hr (by simp [zeroM]), by decide, rfl, by simp [zeroM, waitG, lsZero], fun _ => rfl, by decide⟩, ⟨rfl, fun c hc => absurd hc (by simp [zeroM])⟩, lsZero_ok⟩, rfl⟩
def NewX (s : SetR) (w : World) (e : Ending) (w' : World) : Prop := ∃ bl cs F, e = .returned (.pointer (some ⟨bl, 0, none⟩)) ∧ Lx w' bl 0 67 cs (lsOf s) F ∧ w.heap.size ≤ bl ∧ (∀ k ∈ F, w.heap.size ≤ k) ∧ Below w.heap.size w w'
set_option maxHeartbeats 4000000 in
set_option maxRecDepth 100000 in
theorem lx_new {w : World} (s : SetR) (hs : SetOk w s) : Calls Tryz.prog 10 #[.agg #[.int .i64 s.proto, .slice s.ca s.cores.length s.cc, .slice s.ha s.homes.length s.hc, .slice s.ta s.tasks.length s.tc]] w (NewX s w) := by
  by_cases ho : okS s = true
  · refine (lnew_any s hs ho).mono ?_
    rintro e w' ⟨bl, cs, m, rfl, hl, h1, h2, h3, h4, h5⟩
    refine ⟨bl, cs, fpm m, rfl, ?_, h1, h2, h3⟩
    unfold lsOf
    rw [if_pos ho]
    exact ⟨m, hl, ⟨h4, h5, lsNew_ok (Good.of ho)⟩, rfl⟩
  · have hb := (Below.refl w.heap.size w).alloc (Nat.le_refl _) (.cells #[.int .i64 s.proto, .slice s.ca s.cores.length s.cc, .slice s.ha s.homes.length s.hc, .slice s.ta s.tasks.length s.tc] 25)
    have HB := hidp hb
    have HS := hidp (hs.keep (Keeps.of_below hb))
    have CC := check_any s _ HS.out
    have hne : ¬ chkE s = 0 := by simpa [okS] using ho
    have HE : Hid (lsOf s = lsZero) := hidp (by unfold lsOf; rw [if_neg ho])
    obtain ⟨x, hx⟩ : ∃ x, chkE s = x := ⟨_, rfl⟩
    obtain ⟨y, hy⟩ : ∃ y, chkAt s = y := ⟨_, rfl⟩
    rw [hx, hy] at CC
    rw [hx] at hne
    clear hx hy hs hb ho
    have hne2 : (x != 0) = true := by simpa using hne
    clear hne
    go_enter Tryz.func10, Tryz.ntmps10
    go_wp2_with fail
    refine CC.mono ?_
    rintro e w2 ⟨rfl, hb2⟩
    have HB2 := hidp (HB.out.trans (hb2.mono HB.out.size))
    have BK := Bk.new w2 67 #[.int .i64 0, .slice none 0 0, .slice none 0 0, .slice none 0 0, .int .i64 0, .int .i64 0, .slice none 0 0, .int .i64 0]
    have HZ := hidp (zero_lk BK)
    clear hb2 BK
    go_wp2_with fail
    go_ret
    refine ⟨w2.heap.size, _, [], rfl, by rw [HE.out]; exact HZ.out, HB2.out.size, by simp, HB2.out.alloc HB2.out.size _⟩
end Go.Proofs.YtppgameimddimaaGreat

namespace Go.Proofs.YtppgameimddimaaGreat
open Go.ChangeShapes Go.WideShapes Go.ChangeAt Go.RowKit Go.Conc
set_option linter.unusedVariables false
set_option linter.unusedSimpArgs false
/-- the plain locks s lie in block bl, made since world w0; F: what else is theirs -/
structure LxI (w0 w : World) (bl : Nat) (s : Ls) (F : List Nat) : Prop where
  lx : ∃ cs, Lx w bl 0 67 cs s F
  base : w0.heap.size ≤ bl
  news : ∀ k ∈ F, w0.heap.size ≤ k
  below : Below w0.heap.size w0 w
/-- what a call leaves of all else -/
structure Stp (w : World) (bl : Nat) (F : List Nat) (w' : World) (F' : List Nat) : Prop where
  turned : Turned (bl :: F) w w'
  fps : ∀ k ∈ F', k ∈ F ∨ w.heap.size ≤ k
section
variable {w0 w w' : World} {bl : Nat} {s s' : Ls} {F F' : List Nat}
theorem LxI.ok (h : LxI w0 w bl s F) : LsOk s := by
  obtain ⟨⟨cs, h1⟩, _⟩ := h
  exact h1.ok
theorem LxI.lt (h : LxI w0 w bl s F) : ∀ k ∈ bl :: F, k < w.heap.size := by
  obtain ⟨⟨cs, h1⟩, _⟩ := h
  intro k hk
  rcases List.mem_cons.1 hk with rfl | hk
  · exact h1.bk.lt
  · exact h1.lt k hk
theorem LxI.over (h : LxI w0 w bl s F) (hb : Below w.heap.size w w') : LxI w0 w' bl s F := by
  obtain ⟨⟨cs, h1⟩, h2, h3, h4⟩ := h
  exact ⟨⟨cs, h1.over hb⟩, h2, h3, h4.trans (hb.mono h4.size)⟩
/-- another writes elsewhere -/
theorem LxI.turned {G : List Nat} (h : LxI w0 w bl s F) (ht : Turned G w w') (hd : ∀ k ∈ bl :: F, k ∉ G) (hG : ∀ k ∈ G, w0.heap.size ≤ k) : LxI w0 w' bl s F := by
  obtain ⟨⟨cs, h1⟩, h2, h3, h4⟩ := h
  exact ⟨⟨cs, h1.turned ht (hd bl (by simp)) (fun k hk => hd k (List.mem_cons_of_mem _ hk))⟩, h2, h3, h4.trans (ht.below h4.size hG)⟩
theorem LxI.step {T : TypeId} {cs cs' : Array Value} (h : LxI w0 w bl s F) (h1 : Lx w' bl 0 67 cs' s' F') (h2 : FrL w bl 0 8 67 cs F w' cs' F') : LxI w0 w' bl s' F' ∧ Stp w bl F w' F' := by
  refine ⟨⟨⟨cs', h1⟩, h.base, fun k hk => ?_, h.below.trans (h2.turned.below h.below.size (fun k hk => ?_))⟩, h2.turned, h2.fps⟩
  · rcases h2.fps k hk with h3 | h3
    · exact h.news k h3
    · have := h.below.size; omega
  · rcases List.mem_cons.1 hk with rfl | hk
    · exact h.base
    · exact h.news k hk
theorem Stp.same (hb : Below w.heap.size w w') : Stp w bl F w' F := ⟨Turned.of_below hb _, fun k hk => .inl hk⟩
theorem li_new (w0 w : World) (s : SetR) (hs : SetOk w s) (h0 : Below w0.heap.size w0 w) : Calls Tryz.prog 10 #[.agg #[.int .i64 s.proto, .slice s.ca s.cores.length s.cc, .slice s.ha s.homes.length s.hc, .slice s.ta s.tasks.length s.tc]] w fun e w' => ∃ bl F, e = .returned (.pointer (some ⟨bl, 0, none⟩)) ∧ LxI w0 w' bl (lsOf s) F ∧ w.heap.size ≤ bl ∧ (∀ k ∈ F, w.heap.size ≤ k) ∧ Below w.heap.size w w' := by
  refine (lx_new s hs).mono ?_
  rintro e w' ⟨bl, cs, F, rfl, h1, h2, h3, h4⟩
  have := h0.size
  exact ⟨bl, F, rfl, ⟨⟨cs, h1⟩, by omega, fun k hk => by have := h3 k hk; omega, h0.trans (h4.mono h0.size)⟩, h2, h3, h4⟩
theorem li_ask (h : LxI w0 w bl s F) {t r : Int} (hr : I64 r) (hc : s.count < 800000) (hp : s.proto = 1 ∨ s.proto = 2 ∨ s.proto = 3 ∨ s.prio.length = 0) : Calls Tryz.prog 12 #[.pointer (some ⟨bl, 0, none⟩), .int .i64 t, .int .i64 r] w fun e w' => e = .returned (.int .i64 (askC s t r)) ∧ ∃ F', LxI w0 w' bl (askS s t r) F' ∧ Stp w bl F w' F' := by
  obtain ⟨cs, h1⟩ := h.lx
  refine (lx_ask h1 hr hc hp).mono ?_
  rintro e w' ⟨rfl, cs', F', h2, h3⟩
  exact ⟨rfl, F', h.step (T := 67) h2 h3⟩
theorem li_ask_no (h : LxI w0 w bl s F) {t r : Int} (hc : askC s t r ≠ 0) : Calls Tryz.prog 12 #[.pointer (some ⟨bl, 0, none⟩), .int .i64 t, .int .i64 r] w fun e w' => e = .returned (.int .i64 (askC s t r)) ∧ w = w' := by
  obtain ⟨cs, m, h1, h2, rfl⟩ := h.lx
  have e1 : thereB m t = true ↔ s.has t := by
    unfold thereB Ls.has
    rw [h2.r0.alen]; simp
  by_cases ht : s.has t
  · have htb := e1.2 ht
    by_cases hrr : s.hasR r
    · have hr2 : 0 ≤ r ∧ r < (m.ks.length : Int) := by rw [h2.r0.klen]; exact hrr
      obtain ⟨n, rfl⟩ : ∃ n : Nat, t = (n : Int) := ⟨t.toNat, by unfold Ls.has at ht; omega⟩
      have hn : n < m.ask.length := (h2.r0.has n).2 ht
      have hak := h2.r0.asked hn
      cases hg : s.get n with
      | some a =>
        have ec : askC s n r = 17 := by unfold askC; rw [if_neg (by simpa using ht), if_neg (by simpa using hrr), hg]; rfl
        rw [ec]
        exact lask_twice h1 hn hr2 (by rw [hak, hg]; rfl)
      | none =>
        have ec : askC s n r = 0 := by unfold askC; rw [if_neg (by simpa using ht), if_neg (by simpa using hrr), hg]; rfl
        exact absurd ec hc
    · have ec : askC s t r = 16 := by unfold askC; rw [if_neg (by simpa using ht), if_pos hrr]
      rw [ec]
      exact lask_place h1 htb (by have := h2.r0.klen; unfold Ls.hasR at hrr; omega)
  · have ec : askC s t r = 14 := by unfold askC; rw [if_pos ht]
    rw [ec]
    exact lask_task h1 (by cases hb : thereB m t with | false => rfl | true => exact absurd (e1.1 hb) ht)
theorem li_leave (h : LxI w0 w bl s F) (t : Int) : Calls Tryz.prog 17 #[.pointer (some ⟨bl, 0, none⟩), .int .i64 t] w fun e w' => e = .returned (.int .i64 (leaveC s t)) ∧ ∃ F', LxI w0 w' bl (leaveS s t) F' ∧ Stp w bl F w' F' := by
  obtain ⟨cs, h1⟩ := h.lx
  refine (lx_leave h1 t).mono ?_
  rintro e w' ⟨rfl, cs', F', h2, h3⟩
  exact ⟨rfl, F', h.step (T := 67) h2 h3⟩
theorem li_grant (h : LxI w0 w bl s F) (hc : s.count < 800000) : Calls Tryz.prog 15 #[.pointer (some ⟨bl, 0, none⟩)] w fun e w' => ∃ A n c F', e = .returned (.slice A n c) ∧ OwnInts w.heap.size w' A n c (grantL s) ∧ LxI w0 w' bl (grantS s) F' ∧ Stp w bl F w' F' ∧ ∀ q ∈ bl :: F', q ∉ fp A := by
  obtain ⟨cs, h1⟩ := h.lx
  have hlt := h1.bk.lt
  refine (lx_grant h1 hc).mono ?_
  rintro e w' ⟨A, n, c, cs', F', rfl, ho, h2, h3, h4⟩
  obtain ⟨h5, h6⟩ := h.step (T := 67) h2 h3
  refine ⟨A, n, c, F', rfl, ho, h5, h6, fun q hq => ?_⟩
  rcases List.mem_cons.1 hq with rfl | hq
  · intro hm
    have := (own_fp ho.1 q hm).1
    omega
  · exact h4 q hq
theorem li_holds (h : LxI w0 w bl s F) (t : Int) : Calls Tryz.prog 21 #[.pointer (some ⟨bl, 0, none⟩), .int .i64 t] w fun e w' => e = .returned (.bool (holdsS s t)) ∧ w = w' := by
  obtain ⟨cs, h1⟩ := h.lx
  exact lx_holds h1 t
theorem li_boost (h : LxI w0 w bl s F) (t : Int) : Calls Tryz.prog 26 #[.pointer (some ⟨bl, 0, none⟩), .int .i64 t] w fun e w' => e = .returned (.int .i64 (boostS s t)) ∧ w = w' := by
  obtain ⟨cs, h1⟩ := h.lx
  exact lx_boost h1 t
theorem li_holder (h : LxI w0 w bl s F) (r : Int) : Calls Tryz.prog 24 #[.pointer (some ⟨bl, 0, none⟩), .int .i64 r] w fun e w' => e = .returned (holderV s r) ∧ Below w.heap.size w w' := by
  obtain ⟨cs, h1⟩ := h.lx
  exact lx_holder h1 r
theorem li_waiting (h : LxI w0 w bl s F) : Calls Tryz.prog 25 #[.pointer (some ⟨bl, 0, none⟩)] w fun e w' => ∃ A n c, e = .returned (.slice A n c) ∧ OwnInts w.heap.size w' A n c (waitS s) ∧ Below w.heap.size w w' := by
  obtain ⟨cs, h1⟩ := h.lx
  exact lx_waiting h1
/-- a row apart from the locks stays so -/
theorem Stp.row {B n c : Nat} {A : Option Addr} {zs : List Int} (h : Stp w bl F w' F') (ho : OwnInts B w A n c zs) (ha : ∀ q ∈ bl :: F, q ∉ fp A) : OwnInts B w' A n c zs ∧ ∀ q ∈ bl :: F', q ∉ fp A := by
  refine ⟨ho.turned h.turned (fun k hk hm => ha k hm hk), fun q hq => ?_⟩
  rcases List.mem_cons.1 hq with rfl | hq
  · exact ha q (by simp)
  · rcases h.fps q hq with h1 | h1
    · exact ha q (List.mem_cons_of_mem _ h1)
    · intro hm
      have := (own_fp ho.1 q hm).2
      omega
theorem own_cell {B n c : Nat} {A : Option Addr} {zs : List Int} (h : OwnInts B w A n c zs) {i : Nat} (hi : i < zs.length) : ∃ g, A = some ⟨g, 0, none⟩ ∧ w.cell? ⟨g, i, none⟩ = some (.int .i64 (zs.getD i 0)) := by
  obtain ⟨g, hg, _, _⟩ := ownE_at h.1 (by have := h.2.1; omega)
  refine ⟨g, hg, ?_⟩
  have hu := h.1
  rw [hg] at hu
  rcases Lies.of_own hu with h1 | ⟨b', off, e, _, hcc⟩
  · have := congrArg List.length h1
    rw [List.length_map, List.length_nil] at this
    omega
  · injection e with e
    injection e with e1 e2
    subst e1; subst e2
    have := hcc i (.int .i64 (zs.getD i 0)) (by simp [List.getD, hi])
    simpa using this
end
end Go.Proofs.YtppgameimddimaaGreat
