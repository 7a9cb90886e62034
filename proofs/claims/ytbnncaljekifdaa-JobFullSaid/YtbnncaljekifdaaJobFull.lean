/- JobFull: without a tape each part takes as long as it may: all of them together. No condition. -/
import Derived.Test.YtbnncaljekifdaaKnown21
set_option maxHeartbeats 2000000
set_option linter.unusedSimpArgs false
namespace Go.Proofs.Ytbnncaljekifdaa
def fullP (zs : List Int) (i : Nat) : PartM := ⟨1 + (i : Int) % 3, zs.getD i 0 % 60 + 1, 0⟩
def fulls (zs : List Int) (n : Nat) : List PartM := (List.range n).map (fullP zs)
theorem fulls_len (zs : List Int) (n : Nat) : (fulls zs n).length = n := by simp [fulls]
theorem fulls_snoc (zs : List Int) (n : Nat) : fulls zs (n + 1) = fulls zs n ++ [fullP zs n] := by simp [fulls, List.range_succ]
theorem fulls_at (zs : List Int) (n k : Nat) (h : k < n) : (fulls zs n).getD k default = fullP zs k := by simp [fulls, List.getD, h]
def totP : List PartM → Int
  | [] => 0
  | p :: l => p.len + totP l
theorem totP_append (a b : List PartM) : totP (a ++ b) = totP a + totP b := by
  induction a with
  | nil => simp [totP]
  | cons p a ih => simp [totP, ih]; omega
theorem totP_drop (ps : List PartM) (k : Nat) (h : k < ps.length) : totP (ps.drop k) = (ps.getD k default).len + totP (ps.drop (k + 1)) := by
  rw [List.drop_eq_getElem_cons h]; simp [totP, List.getD, h]
theorem totP_bd {ps : List PartM} (h : ∀ p ∈ ps, 1 ≤ p.len ∧ p.len ≤ 60) : 0 ≤ totP ps ∧ totP ps ≤ 60 * (ps.length : Int) := by
  induction ps with
  | nil => simp [totP]
  | cons p l ih =>
    have h1 := ih (fun q hq => h q (by simp [hq]))
    have h2 := h p (by simp)
    simp only [totP, List.length_cons]; omega
theorem fulls_good {zs : List Int} (n : Nat) : ∀ p ∈ fulls zs n, 1 ≤ p.len ∧ p.len ≤ 60 := by
  intro p hp
  obtain ⟨i, _, rfl⟩ := List.mem_map.1 hp
  unfold fullP; dsimp only
  have := Int.emod_nonneg (zs.getD i 0) (show (60 : Int) ≠ 0 by decide)
  have := Int.emod_lt_of_pos (zs.getD i 0) (show (0 : Int) < 60 by decide)
  omega
theorem fulls_wf {zs : List Int} (n : Nat) : ∀ p ∈ fulls zs n, p.wf := by
  intro p hp
  have h1 := fulls_good n p hp
  obtain ⟨i, hi, rfl⟩ := List.mem_map.1 hp
  unfold fullP at *; dsimp only at *
  have := Int.emod_nonneg (i : Int) (show (3 : Int) ≠ 0 by decide)
  have := Int.emod_lt_of_pos (i : Int) (show (0 : Int) < 3 by decide)
  unfold PartM.wf I64; dsimp only; omega
/-- how many ticks are still to come -/
def remV (ps : List PartM) (pt : Nat) (lf : Int) : Int := if pt < ps.length then lf + totP (ps.drop (pt + 1)) else 0
theorem beginL_full (us : Nat) (ps : List PartM) (pt : Nat) (h : pt < ps.length) : beginL [] us ps pt = (ps.getD pt default).len := by
  unfold beginL pickV; rw [if_pos h, if_pos (.inr rfl)]
theorem rem_begin (us : Nat) (ps : List PartM) (pt : Nat) : remV ps pt (beginL [] us ps pt) = totP (ps.drop pt) := by
  unfold remV
  split
  · rename_i h; rw [beginL_full _ _ _ h, totP_drop _ _ h]
  · rename_i h; rw [List.drop_eq_nil_of_le (by omega)]; rfl
end Go.Proofs.Ytbnncaljekifdaa
namespace Go.Proofs.Ytbnncaljekifdaa.jobFull
open Go.ChangeShapes Go.WideShapes Go.ChangeAt Go.RowKit
open Go.ChangeMaps (open_string shut_string)
set_option linter.unusedVariables false

/-- THE WALK: the Go text returns true, and writes nothing that was there. -/
theorem walk (a0 : Option Addr) (len0 cap0 : Nat) (z0 : List Int) (a1 : Int) (w : World) (w0 : IsRow .u8 w a0 len0 cap0 z0) (w1 : (Lit.int .u16 a1).wf = true) :
    Calls Try.prog 8 #[.slice a0 len0 cap0, .int .u16 a1] w fun e w' => e = .returned (.bool true) ∧ Below w.heap.size w w' := by
  have p1 : 0 ≤ a1 ∧ a1 ≤ 65535 := by simp [Lit.wf, IntKind.min, IntKind.max, IntKind.signed, IntKind.bits] at w1; omega
  obtain ⟨p1, p1'⟩ := p1
  have hr := RdB.of_row w0
  generalize z0.take len0 = zs at hr
  clear w0 w1
  by_cases h1 : len0 < 1
  · go_enter Try.func8, Try.ntmps8
    go_wp2_with fail
    refine (known21_any _).mono ?_
    rintro e w1 ⟨rfl, hb1⟩
    go_wp2_with fail
    go_ret
    exact ⟨rfl, hb1⟩
  · by_cases h6 : 6 < len0
    · go_enter Try.func8, Try.ntmps8
      go_wp2_with fail
      refine (known21_any _).mono ?_
      rintro e w1 ⟨rfl, hb1⟩
      go_wp2_with fail
      go_ret
      exact ⟨rfl, hb1⟩
    · obtain ⟨i0, hi0, hy0, hy1, hy2⟩ := info_parts infoPart
      have HL := hidp hr.len
      have Hr := hidp hr
      clear hr
      go_enter Try.func8, Try.ntmps8
      go_wp2_with fail
      refine (known21_any _).mono ?_
      rintro e w1 ⟨rfl, hb1⟩
      have b0 := Bk.new w1 38 (zt none 0 0)
      have hb0 := hb1.alloc hb1.size (.cells (zt none 0 0) 38)
      have hT := hb1.size
      have hT1 : w1.heap.size + 1 ≤ (w1.alloc (.cells (zt none 0 0) 38)).heap.size := by simp
      clear hb1
      go_wp2_with fail
      go_loopg [6, 7] len0 (fun g s6 s7 wr => ∃ (i c : Nat) (al : Int) (A : Option Addr), i + g = len0 ∧ s7 = .int .i64 i ∧ s6 = .int .i64 al ∧ Hid (totP (fulls zs i) = al) ∧ OwnP (w1.heap.size + 1) wr A i c (fulls zs i) ∧ Bk wr w1.heap.size 38 (zt A i c) ∧ Below w.heap.size w wr ∧ w1.heap.size + 1 ≤ wr.heap.size)
      case atStart => exact ⟨0, 0, 0, none, by omega, rfl, rfl, hidp rfl, OwnP.none _ _, b0, hb0, hT1⟩
      case round =>
        clear b0 hb0 hT1
        obtain ⟨i, c, al, A, hk, rfl, rfl, Hal, ho, b1, hb, hz⟩ := hrel
        obtain ⟨al0, al1⟩ : 0 ≤ al ∧ al ≤ 60 * (i : Int) := by
          have := totP_bd (fulls_good (zs := zs) i)
          rw [fulls_len, Hal.out] at this; exact this
        by_cases hlt : i < len0
        · obtain ⟨x, HX⟩ : ∃ x, Hid (zs.getD i 0 = x) := ⟨_, rfl⟩
          have hil : i < zs.length := by rw [← HL.out]; exact hlt
          obtain ⟨x1, x2⟩ : 0 ≤ x ∧ x ≤ 255 := by
            have := HX.out
            simp only [List.getD, List.getElem?_eq_getElem hil, Option.getD_some] at this
            rw [← this]; exact Hr.out.fit _ (List.getElem_mem hil)
          obtain ⟨g, off, hA, hc⟩ := (Hr.out.row.below hb).resolve_left (by intro e; rw [e] at hil; simp at hil)
          subst hA
          have cx : wr.cell? ⟨g, off + i, none⟩ = some (.int .u8 x) := HX.out ▸ hc i hil
          clear hc hil
          have Hs : Hid (fulls zs (i + 1) = fulls zs i ++ [⟨1 + (i : Int) % 3, x % 60 + 1, 0⟩]) := hidp (by rw [fulls_snoc]; unfold fullP; rw [HX.out])
          have Ha2 : Hid (totP (fulls zs (i + 1)) = al + (x % 60 + 1)) := hidp (by rw [Hs.out, totP_append, Hal.out]; simp [totP])
          have hown2 := World.ownsRow.alloc ho.own (.cells (ptc [⟨1 + (i : Int) % 3, x % 60 + 1, 0⟩]).toArray 49)
          have S2 := hidp (Lies.newCells' wr (ptc [⟨1 + (i : Int) % 3, x % 60 + 1, 0⟩]) 49)
          have O2 := hidp (ptc_one [⟨1 + (i : Int) % 3, x % 60 + 1, 0⟩])
          have N2 : Hid (i + 1 ≤ maxLen) := hidp (by unfold maxLen; omega)
          have T2 : Hid ((i + 1) * 24 ≤ 140737488355328) := hidp (by omega)
          have Z2 : Hid (w1.heap.size + 1 ≤ (wr.alloc (.cells (ptc [⟨1 + (i : Int) % 3, x % 60 + 1, 0⟩]).toArray 49)).heap.size) := hidp (Nat.le_trans hz (by simp))
          have b2 := b1.alloc (.cells (ptc [⟨1 + (i : Int) % 3, x % 60 + 1, 0⟩]).toArray 49)
          have hb2 := hb.alloc hb.size (.cells (ptc [⟨1 + (i : Int) % 3, x % 60 + 1, 0⟩]).toArray 49)
          have Hfp := hidp (own_fp ho.own)
          obtain ⟨-, -, -, -, -, x5⟩ := ZT _ _ _ _ _ _ b1
          go_wp2_with (at_builtin; (refine wpList_app2 _ rfl (.tmp 36) (.tmp 42) 36 rfl (w1.heap.size + 1) 49 i0 _ 3 24 Try.underlying36 hi0 hy0 hy1 hy2 rfl (by decide) A i c _ rfl hown2 _ _ 1 1 (ptc [⟨1 + (i : Int) % 3, x % 60 + 1, 0⟩]) rfl (by simp) rfl S2.out O2.out N2.out T2.out Z2.out ?_; intro A' c' w2 happ; have b3 := b2.turned happ.turned (fun hf => by have := (Hfp.out _ hf).1; omega); have z5 := (ZF b3).2.2.2.2.2; have z6 := (ZT _ _ _ _ _ _ b3).2.2.2.2.2))
          have hTS := (Turned.refl [w1.heap.size] w2).setCell (p := ⟨w1.heap.size, 5, none⟩) (.inl (by simp)) (.slice A' (i + 1) c')
          have ho3 := ho.app (ps := [⟨1 + (i : Int) % 3, x % 60 + 1, 0⟩]) happ rfl
          have hF3 := own_fp ho3.own
          rw [← Hs.out] at ho3
          go_roundg (gk - 1)
          case measure => omega
          case rel => exact ⟨i + 1, c', al + (x % 60 + 1), A', by omega, by go_num, rfl, Ha2, ho3.turned hTS (fun j hj hm => by simp at hm; subst hm; have := (hF3 _ hj).1; omega), b3.put 5 _, (hb2.trans (happ.turned.below hb2.size (fun j hj => by have := (Hfp.out _ hj).1; omega))).trans (hTS.below (Nat.le_trans hb2.size happ.turned.size) (by simp; omega)), Nat.le_trans (Nat.le_trans Z2.out happ.turned.size) hTS.size⟩
        · obtain rfl : i = len0 := by omega
          obtain ⟨ps, HPS⟩ : ∃ ps, Hid (fulls zs i = ps) := ⟨_, rfl⟩
          have Hlen : Hid (ps.length = i) := hidp (by rw [← HPS.out, fulls_len])
          have Hgood : Hid (∀ p ∈ ps, 1 ≤ p.len ∧ p.len ≤ 60) := hidp (by rw [← HPS.out]; exact fulls_good i)
          have Hwf : Hid (∀ p ∈ ps, p.wf) := hidp (by rw [← HPS.out]; exact fulls_wf i)
          have Hkind : Hid (∀ k, k < i → (ps.getD k default).kind = 1 + (k : Int) % 3) := hidp (fun k hk => by rw [← HPS.out, fulls_at _ _ _ hk]; rfl)
          rw [HPS.out] at ho Hal
          have hsl : SlOk A ps.length c := ⟨fun e => by rw [Hlen.out]; exact ho.nil e, by rw [Hlen.out]; exact ho.cap⟩
          have hpa := ho.parts
          have Hlow := hidp (own_fp ho.own)
          replace b1 : Bk wr.drew w1.heap.size 38 (zt A i c) := b1.drewN 1
          replace hb : Below w.heap.size w wr.drew := below_drewN hb 1
          replace hpa : PartsAt wr.drew A ps := hpa.keep (Keeps.drew wr)
          replace hz : w1.heap.size + 1 ≤ wr.drew.heap.size := hz
          replace Hlow : Hid (∀ k ∈ fp A, w1.heap.size + 1 ≤ k ∧ k < wr.drew.heap.size) := Hlow
          obtain ⟨aN, HaN⟩ : ∃ aN : Nat, al = aN := ⟨al.toNat, by omega⟩
          subst HaN
          clear ho
          have hs := Z6 b1
          go_wp2_with fail
          refine wp_region_held_drew (S := fun w' => w'.cell? ⟨w1.heap.size, 0, none⟩ = some (.string ⟨#[]⟩) ∧ w'.cell? ⟨w1.heap.size, 1, none⟩ = some (.int .i64 0) ∧ w'.cell? ⟨w1.heap.size, 2, none⟩ = some (.int .i64 0) ∧ w'.cell? ⟨w1.heap.size, 3, none⟩ = some (.int .i64 0) ∧ w'.cell? ⟨w1.heap.size, 4, none⟩ = some (.int .i64 0) ∧ w'.cell? ⟨w1.heap.size, 5, none⟩ = some (.slice A i c)) (by kernel_rfl) ?_ (fun hHeld => ?_)
          · exact hs
          refine wpAnyH_take (i := 0) (v := ?_) rfl (by kernel_rfl) (by kernel_rfl) (by kernel_rfl) (fun _ _ _ h => h) (Or.inl ⟨by rfl, ?_⟩) (by assumption) ?_
          rotate_left 1
          · ((intro w hSw; (try dsimp only at hSw); go_simp); (try with_reducible rfl))
          simp only [Act.put, List.setIfInBounds_toArray, List.set_cons_zero, List.set_cons_succ, List.getElem_toArray, List.getElem_cons_zero, List.getElem_cons_succ]
          refine wpAnyH_take (i := 1) (v := ?_) rfl (by kernel_rfl) (by kernel_rfl) (by kernel_rfl) (fun _ _ _ h => h) (Or.inl ⟨by rfl, ?_⟩) (by assumption) ?_
          rotate_left 1
          · ((intro w hSw; (try dsimp only at hSw); go_simp); (try with_reducible rfl))
          simp only [Act.put, List.setIfInBounds_toArray, List.set_cons_zero, List.set_cons_succ, List.getElem_toArray, List.getElem_cons_zero, List.getElem_cons_succ]
          refine wpAnyH_take (i := 2) (v := ?_) rfl (by kernel_rfl) (by kernel_rfl) (by kernel_rfl) (fun _ _ _ h => h) (Or.inl ⟨by rfl, ?_⟩) (by assumption) ?_
          rotate_left 1
          · ((intro w hSw; (try dsimp only at hSw); go_simp); (try with_reducible rfl))
          simp only [Act.put, List.setIfInBounds_toArray, List.set_cons_zero, List.set_cons_succ, List.getElem_toArray, List.getElem_cons_zero, List.getElem_cons_succ]
          refine wpAnyH_ready (rs := [3]) (by kernel_rfl) (by simp) ?_
          refine AllReadyH.cons rfl (fun K hK => ?_) AllReadyH.nil
          go_simp
          refine (tnew_any (RdB.none_ _) (by decide)).mono ?_
          rintro e w3 ⟨tb, F, rfl, ht, u⟩
          have htb : w1.heap.size + 1 ≤ tb := Nat.le_trans hz (u.blocks _ ht.head)
          have HtA : Hid (∀ k ∈ fp A, k ≠ tb) := hidp fun k hk e => by have h1 := (Hlow.out k hk).2; have h2 := u.blocks _ ht.head; omega
          replace b1 := b1.below u.below
          replace hb := below0 hb u.below
          replace hpa := hpa.keep (Keeps.of_below u.below)
          have Hlow3 : Hid (∀ k ∈ fp A, k < w3.heap.size) := hidp fun k hk => Nat.lt_of_lt_of_le (Hlow.out k hk).2 u.below.size
          replace hz := Nat.le_trans hz u.below.size
          replace hs := Z6 b1
          clear hHeld u
          go_wp2_with fail
          refine hK.out _ _ ?_ (fun hHeld => ?_)
          · exact hs
          clear hK K
          try simp only [Act.put, List.setIfInBounds_toArray, List.set_cons_zero, List.set_cons_succ, List.getElem_toArray, List.getElem_cons_zero, List.getElem_cons_succ]
          refine wpAnyH_ready (rs := [4]) (by kernel_rfl) (by simp) ?_
          refine AllReadyH.cons rfl (fun K hK => ?_) AllReadyH.nil
          go_simp
          refine (newj_any (ps := ps) Hlen.out.symm hpa hsl Hwf.out (by rw [Hlen.out]; omega) ht (by decide)).mono ?_
          rintro e w4 ⟨b, A2, c2, rfl, h, t, hbk⟩
          rw [show IntKind.i64.wrap a1 = a1 from IntWalk.i64_in _ (by omega)] at h
          have hbb : w1.heap.size + 1 ≤ b := Nat.le_trans hz (hbk b (by simp))
          have HbA : Hid (∀ k ∈ fp A, k ∉ [b, tb]) := hidp fun k hk hm => by
            have h1 := Hlow3.out k hk
            have h2 := hbk b (by simp)
            have h3 := HtA.out k hk
            simp at hm; omega
          replace b1 := b1.turned t (by simp; omega)
          replace hpa := hpa.turned' t (fun k hk => by simpa using HtA.out k hk)
          replace hb := below1 hb t (by omega)
          replace hs := Z6 b1
          clear hHeld t hbk ht hz Hlow3 HtA
          go_wp2_with fail
          refine hK.out _ _ ?_ (fun hHeld => ?_)
          · exact hs
          clear hK K
          try simp only [Act.put, List.setIfInBounds_toArray, List.set_cons_zero, List.set_cons_succ, List.getElem_toArray, List.getElem_cons_zero, List.getElem_cons_succ]
          refine wpAnyH_take (i := 5) (v := ?_) rfl (by kernel_rfl) (by kernel_rfl) (by kernel_rfl) (fun _ _ _ h => h) (Or.inl ⟨by rfl, ?_⟩) (by assumption) ?_
          rotate_left 1
          · ((intro w hSw; (try dsimp only at hSw); go_simp); (try with_reducible rfl))
          simp only [Act.put, List.setIfInBounds_toArray, List.set_cons_zero, List.set_cons_succ, List.getElem_toArray, List.getElem_cons_zero, List.getElem_cons_succ]
          refine wpAnyH_done (by kernel_rfl) ?_ _
          have hu0 := beginU_le 0 ps 0
          have Hrem : Hid (((0 : Nat) : Int) + remV ps 0 (beginL [] 0 ps 0) = aN) := hidp (by rw [rem_begin]; simpa using Hal.out)
          have Hlf0 : Hid (0 < i → 1 ≤ beginL [] 0 ps 0 ∧ beginL [] 0 ps 0 ≤ (ps.getD 0 default).len) := hidp fun hh => by
            have := Hgood.out _ (partsD_mem (show 0 < ps.length by rw [Hlen.out]; exact hh))
            rw [beginL_full _ _ _ (by rw [Hlen.out]; exact hh)]; omega
          generalize beginL [] 0 ps 0 = lf0 at h Hrem Hlf0
          generalize beginU 0 ps 0 = us0 at h hu0
          clear hs hHeld
          go_wp2_with fail
          go_loopg [10] (aN + 1) (fun g s10 wr => ∃ (nn pt us : Nat) (lf : Int), nn + g = aN + 1 ∧ s10 = .int .i64 nn ∧ JT wr b ps a1 pt lf A2 c2 tb [] us F ∧ us ≤ pt + 1 ∧ pt ≤ i ∧ Hid ((nn : Int) + remV ps pt lf = aN) ∧ Hid (pt < i → 1 ≤ lf ∧ lf ≤ (ps.getD pt default).len) ∧ Bk wr w1.heap.size 38 (zt A i c) ∧ PartsAt wr A ps ∧ Below w.heap.size w wr)
          case atStart => exact ⟨0, 0, us0, lf0, by omega, rfl, h, by omega, by omega, Hrem, Hlf0, b1, hpa, hb⟩
          case round =>
            clear h b1 hpa hb Hrem Hlf0 hu0
            obtain ⟨nn, pt, us, lf, hg, rfl, h, hus, hpt, Hrem, Hlf, b1, hpa, hb⟩ := hrel
            by_cases hlt2 : pt < i
            · obtain ⟨f1, f2⟩ := Hlf.out hlt2
              have hptl : pt < ps.length := by rw [Hlen.out]; exact hlt2
              obtain ⟨ln, HLN⟩ : ∃ ln, Hid ((ps.getD pt default).len = ln) := ⟨_, rfl⟩
              have f3 := (Hgood.out _ (partsD_mem hptl)).2
              rw [HLN.out] at f2 f3
              have Hkd : Hid ((partV ps pt).kind = 1 + (pt : Int) % 3) := hidp (by unfold partV; rw [if_pos hptl]; exact Hkind.out pt hlt2)
              have hov : overB ps pt = false := by unfold overB; rw [Hlen.out]; simp; omega
              have hrm : lf + totP (ps.drop (pt + 1)) + nn = aN := by have := Hrem.out; unfold remV at this; rw [if_pos hptl] at this; omega
              have htn := (totP_bd (ps := ps.drop (pt + 1)) (fun p hp => Hgood.out p (List.mem_of_mem_drop hp))).1
              have hnn : (nn : Int) ≤ (aN : Int) := by omega
              have O := over_any h.job
              rw [hov] at O
              go_wp2_with fail
              refine O.mono ?_
              rintro e w5 ⟨rfl, q5⟩
              replace h : JT w5.drew b ps a1 pt lf A2 c2 tb [] us F := (h.over q5.b).turned ((Turned.refl [] w5).drew) (by simp) (by simp) (by simp)
              replace b1 : Bk w5.drew w1.heap.size 38 (zt A i c) := (b1.below q5.b).drewN 1
              replace hpa : PartsAt w5.drew A ps := (hpa.keep (Keeps.of_below q5.b)).keep (Keeps.drew w5)
              replace hb : Below w.heap.size w w5.drew := below_drewN (below0 hb q5.b) 1
              clear O q5
              obtain ⟨g, off, hA, hc⟩ := id (hpa.resolve_left (by intro e; rw [e] at hptl; simp at hptl))
              subst hA
              obtain ⟨-, cl1, -⟩ := hc pt hptl
              rw [HLN.out] at cl1
              have hs : w5.drew.cell? ⟨w1.heap.size, 5, none⟩ = some (.slice (some ⟨g, off, none⟩) i c) ∧ w5.drew.cell? ⟨g, off + pt * 3 + 1, none⟩ = some (.int .i64 ln) := ⟨(Z6 b1).2.2.2.2.2, cl1⟩
              clear cl1 hc
              have hq1 : (0 : Int) ≤ (pt : Int) % 3 := Int.emod_nonneg _ (by decide)
              have hq2 : (pt : Int) % 3 < 3 := Int.emod_lt_of_pos _ (by decide)
              have hd1 : decide (lf < 1) = false := by simp; omega
              have hd2 : decide (ln < lf) = false := by simp; omega
              have ht1 : ((pt : Int)).tmod 3 = (pt : Int) % 3 := Int.tmod_eq_emod_of_nonneg (by omega)
              have ht2 : IntKind.i64.wrap (1 + (pt : Int) % 3) = 1 + (pt : Int) % 3 := IntWalk.i64_in _ (by omega)
              go_wp2_with fail
              refine wp_region_held_drew (S := fun w' => w'.cell? ⟨w1.heap.size, 5, none⟩ = some (.slice (some ⟨g, off, none⟩) i c) ∧ w'.cell? ⟨g, off + pt * 3 + 1, none⟩ = some (.int .i64 ln)) (by kernel_rfl) ?_ (fun hHeld => ?_)
              · exact hs
              refine wpAnyH_take (i := 0) (v := ?_) rfl (by kernel_rfl) (by kernel_rfl) (by kernel_rfl) (fun _ _ _ h => h) (Or.inl ⟨by rfl, ?_⟩) (by assumption) ?_
              rotate_left 1
              · ((intro w hSw; (try dsimp only at hSw); go_simp); (try with_reducible rfl))
              simp only [Act.put, List.setIfInBounds_toArray, List.set_cons_zero, List.set_cons_succ, List.getElem_toArray, List.getElem_cons_zero, List.getElem_cons_succ]
              refine wpAnyH_take (i := 2) (v := ?_) rfl (by kernel_rfl) (by kernel_rfl) (by kernel_rfl) (fun _ _ _ h => h) (Or.inl ⟨by rfl, ?_⟩) (by assumption) ?_
              rotate_left 1
              · ((intro w hSw; (try dsimp only at hSw); go_simp); (try with_reducible rfl))
              simp only [Act.put, List.setIfInBounds_toArray, List.set_cons_zero, List.set_cons_succ, List.getElem_toArray, List.getElem_cons_zero, List.getElem_cons_succ]
              refine wpAnyH_ready (rs := [1]) (by kernel_rfl) (by simp) ?_
              refine AllReadyH.cons rfl (fun K hK => ?_) AllReadyH.nil
              go_simp
              refine (kind_any h.job).mono ?_
              rw [Hkd.out]
              rintro e w6 ⟨rfl, b6⟩
              replace h := h.over b6
              replace hs : w6.cell? ⟨w1.heap.size, 5, none⟩ = some (.slice (some ⟨g, off, none⟩) i c) ∧ w6.cell? ⟨g, off + pt * 3 + 1, none⟩ = some (.int .i64 ln) := ⟨Keeps.of_below b6 _ _ hs.1, Keeps.of_below b6 _ _ hs.2⟩
              replace b1 := b1.below b6
              replace hpa := hpa.keep (Keeps.of_below b6)
              replace hb := below0 hb b6
              clear hHeld b6
              go_wp2_with fail
              refine hK.out _ _ ?_ (fun hHeld => ?_)
              · exact hs
              clear hK K
              try simp only [Act.put, List.setIfInBounds_toArray, List.set_cons_zero, List.set_cons_succ, List.getElem_toArray, List.getElem_cons_zero, List.getElem_cons_succ]
              refine wpAnyH_ready (rs := [3]) (by kernel_rfl) (by simp) ?_
              refine AllReadyH.cons rfl (fun K hK => ?_) AllReadyH.nil
              go_simp
              refine (part_any h.job).mono ?_
              rintro e w' ⟨rfl, rfl⟩
              go_wp2_with fail
              refine hK.out _ _ ?_ (fun hHeld => ?_)
              · exact hs
              clear hK K
              try simp only [Act.put, List.setIfInBounds_toArray, List.set_cons_zero, List.set_cons_succ, List.getElem_toArray, List.getElem_cons_zero, List.getElem_cons_succ]
              refine wpAnyH_take (i := 4) (v := ?_) rfl (by kernel_rfl) (by kernel_rfl) (by kernel_rfl) (fun _ _ _ h => h) (Or.inl ⟨by rfl, ?_⟩) (by assumption) ?_
              rotate_left 1
              · ((intro w hSw; (try dsimp only at hSw); go_simp); (try with_reducible rfl))
              simp only [Act.put, List.setIfInBounds_toArray, List.set_cons_zero, List.set_cons_succ, List.getElem_toArray, List.getElem_cons_zero, List.getElem_cons_succ]
              refine wpAnyH_take (i := 5) (v := ?_) rfl (by kernel_rfl) (by kernel_rfl) (by kernel_rfl) (fun _ _ _ h => h) (Or.inl ⟨by rfl, ?_⟩) (by assumption) ?_
              rotate_left 1
              · ((intro w hSw; (try dsimp only at hSw); go_simp); (try with_reducible rfl))
              simp only [Act.put, List.setIfInBounds_toArray, List.set_cons_zero, List.set_cons_succ, List.getElem_toArray, List.getElem_cons_zero, List.getElem_cons_succ]
              refine wpAnyH_take (i := 6) (v := ?_) rfl (by kernel_rfl) (by kernel_rfl) (by kernel_rfl) (fun _ _ _ h => h) (Or.inl ⟨by rfl, ?_⟩) (by assumption) ?_
              rotate_left 1
              · ((intro w hSw; (try dsimp only at hSw); go_simp); (try with_reducible rfl))
              simp only [Act.put, List.setIfInBounds_toArray, List.set_cons_zero, List.set_cons_succ, List.getElem_toArray, List.getElem_cons_zero, List.getElem_cons_succ]
              refine wpAnyH_take (i := 7) (v := ?_) rfl (by kernel_rfl) (by kernel_rfl) (by kernel_rfl) (fun _ _ _ h => h) (Or.inl ⟨by rfl, ?_⟩) (by assumption) ?_
              rotate_left 1
              · ((intro w hSw; (try dsimp only at hSw); go_simp); (try with_reducible rfl))
              simp only [Act.put, List.setIfInBounds_toArray, List.set_cons_zero, List.set_cons_succ, List.getElem_toArray, List.getElem_cons_zero, List.getElem_cons_succ]
              refine wpAnyH_take (i := 8) (v := ?_) rfl (by kernel_rfl) (by kernel_rfl) (by kernel_rfl) (fun _ _ _ h => h) (Or.inl ⟨by rfl, ?_⟩) (by assumption) ?_
              rotate_left 1
              · ((intro w hSw; (try dsimp only at hSw); go_simp); (try with_reducible rfl))
              simp only [Act.put, List.setIfInBounds_toArray, List.set_cons_zero, List.set_cons_succ, List.getElem_toArray, List.getElem_cons_zero, List.getElem_cons_succ]
              refine wpAnyH_ready (rs := [9]) (by kernel_rfl) (by simp) ?_
              refine AllReadyH.cons rfl (fun K hK => ?_) AllReadyH.nil
              go_simp
              refine (left_any h.job).mono ?_
              rintro e w' ⟨rfl, rfl⟩
              go_wp2_with fail
              refine hK.out _ _ ?_ (fun hHeld => ?_)
              · exact hs
              clear hK K
              try simp only [Act.put, List.setIfInBounds_toArray, List.set_cons_zero, List.set_cons_succ, List.getElem_toArray, List.getElem_cons_zero, List.getElem_cons_succ]
              refine wpAnyH_take (i := 10) (v := ?_) rfl (by kernel_rfl) (by kernel_rfl) (by kernel_rfl) (fun _ _ _ h => h) (Or.inl ⟨by rfl, ?_⟩) (by assumption) ?_
              rotate_left 1
              · ((intro w hSw; (try dsimp only at hSw); go_simp); (try with_reducible rfl))
              simp only [Act.put, List.setIfInBounds_toArray, List.set_cons_zero, List.set_cons_succ, List.getElem_toArray, List.getElem_cons_zero, List.getElem_cons_succ]
              refine wpAnyH_take (i := 11) (v := ?_) rfl (by kernel_rfl) (by kernel_rfl) (by kernel_rfl) (fun _ _ _ h => h) (Or.inl ⟨by rfl, ?_⟩) (by assumption) ?_
              rotate_left 1
              · ((intro w hSw; (try dsimp only at hSw); go_simp); (try with_reducible rfl))
              simp only [Act.put, List.setIfInBounds_toArray, List.set_cons_zero, List.set_cons_succ, List.getElem_toArray, List.getElem_cons_zero, List.getElem_cons_succ]
              refine wpAnyH_take (i := 12) (v := ?_) rfl (by kernel_rfl) (by kernel_rfl) (by kernel_rfl) (fun _ _ _ h => h) (Or.inl ⟨by rfl, ?_⟩) (by assumption) ?_
              rotate_left 1
              · ((intro w hSw; (try dsimp only at hSw); go_simp); (try with_reducible rfl))
              simp only [Act.put, List.setIfInBounds_toArray, List.set_cons_zero, List.set_cons_succ, List.getElem_toArray, List.getElem_cons_zero, List.getElem_cons_succ]
              refine wpAnyH_take (i := 13) (v := ?_) rfl (by kernel_rfl) (by kernel_rfl) (by kernel_rfl) (fun _ _ _ h => h) (Or.inl ⟨by rfl, ?_⟩) (by assumption) ?_
              rotate_left 1
              · ((intro w hSw; (try dsimp only at hSw); go_simp); (try with_reducible rfl))
              simp only [Act.put, List.setIfInBounds_toArray, List.set_cons_zero, List.set_cons_succ, List.getElem_toArray, List.getElem_cons_zero, List.getElem_cons_succ]
              refine wpAnyH_take (i := 15) (v := ?_) rfl (by kernel_rfl) (by kernel_rfl) (by kernel_rfl) (fun _ _ _ h => h) (Or.inl ⟨by rfl, ?_⟩) (by assumption) ?_
              rotate_left 1
              · ((intro w hSw; (try dsimp only at hSw); go_simp); (try with_reducible rfl))
              simp only [Act.put, List.setIfInBounds_toArray, List.set_cons_zero, List.set_cons_succ, List.getElem_toArray, List.getElem_cons_zero, List.getElem_cons_succ]
              refine wpAnyH_take (i := 16) (v := ?_) rfl (by kernel_rfl) (by kernel_rfl) (by kernel_rfl) (fun _ _ _ h => h) (Or.inl ⟨by rfl, ?_⟩) (by assumption) ?_
              rotate_left 1
              · ((intro w hSw; (try dsimp only at hSw); go_simp); (try with_reducible rfl))
              simp only [Act.put, List.setIfInBounds_toArray, List.set_cons_zero, List.set_cons_succ, List.getElem_toArray, List.getElem_cons_zero, List.getElem_cons_succ]
              refine wpAnyH_take (i := 17) (v := ?_) rfl (by kernel_rfl) (by kernel_rfl) (by kernel_rfl) (fun _ _ _ h => h) (Or.inl ⟨by rfl, ?_⟩) (by assumption) ?_
              rotate_left 1
              · ((intro w hSw; (try dsimp only at hSw); go_simp); (try with_reducible rfl))
              simp only [Act.put, List.setIfInBounds_toArray, List.set_cons_zero, List.set_cons_succ, List.getElem_toArray, List.getElem_cons_zero, List.getElem_cons_succ]
              refine wpAnyH_ready (rs := [14]) (by kernel_rfl) (by simp) ?_
              refine AllReadyH.cons rfl (fun K hK => ?_) AllReadyH.nil
              go_simp
              refine (left_any h.job).mono ?_
              rintro e w' ⟨rfl, rfl⟩
              go_wp2_with fail
              refine hK.out _ _ ?_ (fun hHeld => ?_)
              · exact hs
              clear hK K
              try simp only [Act.put, List.setIfInBounds_toArray, List.set_cons_zero, List.set_cons_succ, List.getElem_toArray, List.getElem_cons_zero, List.getElem_cons_succ]
              refine wpAnyH_ready (rs := [18]) (by kernel_rfl) (by simp) ?_
              refine AllReadyH.cons rfl (fun K hK => ?_) AllReadyH.nil
              go_simp
              refine (part_any h.job).mono ?_
              rintro e w' ⟨rfl, rfl⟩
              go_wp2_with fail
              refine hK.out _ _ ?_ (fun hHeld => ?_)
              · exact hs
              clear hK K
              try simp only [Act.put, List.setIfInBounds_toArray, List.set_cons_zero, List.set_cons_succ, List.getElem_toArray, List.getElem_cons_zero, List.getElem_cons_succ]
              refine wpAnyH_take (i := 19) (v := ?_) rfl (by kernel_rfl) (by kernel_rfl) (by kernel_rfl) (fun _ _ _ h => h) (Or.inl ⟨by rfl, ?_⟩) (by assumption) ?_
              rotate_left 1
              · ((intro w hSw; (try dsimp only at hSw); go_simp); (try with_reducible rfl))
              simp only [Act.put, List.setIfInBounds_toArray, List.set_cons_zero, List.set_cons_succ, List.getElem_toArray, List.getElem_cons_zero, List.getElem_cons_succ]
              refine wpAnyH_take (i := 20) (v := ?_) rfl (by kernel_rfl) (by kernel_rfl) (by kernel_rfl) (fun _ _ _ h => h) (Or.inl ⟨by rfl, ?_⟩) (by assumption) ?_
              rotate_left 1
              · ((intro w hSw; (try dsimp only at hSw); go_simp); (try with_reducible rfl))
              simp only [Act.put, List.setIfInBounds_toArray, List.set_cons_zero, List.set_cons_succ, List.getElem_toArray, List.getElem_cons_zero, List.getElem_cons_succ]
              refine wpAnyH_take (i := 21) (v := ?_) rfl (by kernel_rfl) (by kernel_rfl) (by kernel_rfl) (fun _ _ _ h => h) (Or.inl ⟨by rfl, ?_⟩) (by assumption) ?_
              rotate_left 1
              · ((intro w hSw; (try dsimp only at hSw); go_simp); (try with_reducible rfl))
              simp only [Act.put, List.setIfInBounds_toArray, List.set_cons_zero, List.set_cons_succ, List.getElem_toArray, List.getElem_cons_zero, List.getElem_cons_succ]
              refine wpAnyH_take (i := 22) (v := ?_) rfl (by kernel_rfl) (by kernel_rfl) (by kernel_rfl) (fun _ _ _ h => h) (Or.inl ⟨by rfl, ?_⟩) (by assumption) ?_
              rotate_left 1
              · ((intro w hSw; (try dsimp only at hSw); go_simp); (try with_reducible rfl))
              simp only [Act.put, List.setIfInBounds_toArray, List.set_cons_zero, List.set_cons_succ, List.getElem_toArray, List.getElem_cons_zero, List.getElem_cons_succ]
              refine wpAnyH_take (i := 23) (v := ?_) rfl (by kernel_rfl) (by kernel_rfl) (by kernel_rfl) (fun _ _ _ h => h) (Or.inl ⟨by rfl, ?_⟩) (by assumption) ?_
              rotate_left 1
              · ((intro w hSw; (try dsimp only at hSw); go_simp); (try with_reducible rfl))
              simp only [Act.put, List.setIfInBounds_toArray, List.set_cons_zero, List.set_cons_succ, List.getElem_toArray, List.getElem_cons_zero, List.getElem_cons_succ]
              refine wpAnyH_done (by kernel_rfl) ?_ _
              clear hs hHeld ht1 ht2 hd1 hd2
              by_cases hmid : 1 < lf
              · go_wp2_with fail
                refine (tick_mid h hov hmid (by omega)).mono ?_
                rintro e w7 ⟨rfl, h7, t7⟩
                have hrm2 : Hid (((nn + 1 : Nat) : Int) + remV ps pt (lf - 1) = aN) := hidp (by unfold remV; rw [if_pos hptl]; omega)
                have Hlf2 : Hid (pt < i → 1 ≤ lf - 1 ∧ lf - 1 ≤ (ps.getD pt default).len) := hidp fun _ => by rw [HLN.out]; omega
                have b7 := b1.turned t7 (by simp; omega)
                have hp7 := hpa.turned' t7 HbA.out
                have hb7 := below2 hb t7 (by omega) (by omega)
                clear h hov hrm htn b1 hpa hb t7
                go_wp2_with fail
                go_roundg (gk - 1)
                case measure => omega
                case rel => exact ⟨nn + 1, pt, us, lf - 1, by omega, by go_num, h7, hus, hpt, hrm2, Hlf2, b7, hp7, hb7⟩
              · have g1 : lf ≤ 1 := by omega
                have g2 : 0 ≤ lf := by omega
                go_wp2_with fail
                refine (tick_end h hov g1 g2 (by omega)).mono ?_
                rintro e w7 ⟨rfl, h7, t7⟩
                have hu2 := beginU_le us ps (pt + 1)
                have hrm2 : Hid (((nn + 1 : Nat) : Int) + remV ps (pt + 1) (beginL [] us ps (pt + 1)) = aN) := hidp (by rw [rem_begin]; omega)
                have Hlf2 : Hid (pt + 1 < i → 1 ≤ beginL [] us ps (pt + 1) ∧ beginL [] us ps (pt + 1) ≤ (ps.getD (pt + 1) default).len) := hidp fun hh => by
                  have := Hgood.out _ (partsD_mem (show pt + 1 < ps.length by rw [Hlen.out]; exact hh))
                  rw [beginL_full _ _ _ (by rw [Hlen.out]; exact hh)]; omega
                generalize beginL [] us ps (pt + 1) = l2 at h7 hrm2 Hlf2
                generalize beginU us ps (pt + 1) = u2 at h7 hu2
                have b7 := b1.turned t7 (by simp; omega)
                have hp7 := hpa.turned' t7 HbA.out
                have hb7 := below2 hb t7 (by omega) (by omega)
                clear h hov hrm htn b1 hpa hb t7
                go_wp2_with fail
                go_roundg (gk - 1)
                case measure => omega
                case rel => exact ⟨nn + 1, pt + 1, u2, l2, by omega, by go_num, h7, by omega, by omega, hrm2, Hlf2, b7, hp7, hb7⟩
            · obtain rfl : pt = i := by omega
              have hov : overB ps pt = true := by unfold overB; rw [Hlen.out]; simp
              have hnn : nn = aN := by have := Hrem.out; unfold remV at this; rw [if_neg (by rw [Hlen.out]; omega)] at this; omega
              subst hnn
              have O := over_any h.job
              rw [hov] at O
              go_wp2_with fail
              refine O.mono ?_
              rintro e w5 ⟨rfl, q5⟩
              replace h := h.over q5.b
              replace hb := below0 hb q5.b
              clear O q5 b1 hpa
              go_wp2_with fail
              refine (release_any h.job).mono ?_
              rintro e w' ⟨rfl, rfl⟩
              go_wp2_with fail
              refine (part_any h.job).mono ?_
              rintro e w' ⟨rfl, rfl⟩
              go_wp2_with fail
              go_ret
              exact ⟨rfl, hb⟩

theorem own : ownKnob Try.prog.godebug = none := by kernel_rfl
theorem laidOut : laidOutB Try.prog = true := by kernel_rfl

/-! THE ROW's STEP -/
set_option maxRecDepth 100000 in
theorem lifted (os : Os) (started : os.Started) (H : Type) (enc : TypeId × Value → H) :
    ReturnsInHanded {} Try.checked os 8 .any (Rows.jobFullSpec.pre6 enc Try.prog Try.f8 Rows.jobFullRow.domain false) (Rows.jobFullSpec.post enc Try.prog Try.f8 false true false false) := by
  refine returnsInHanded_of_change (C := Try.checked) own started (by kernel_rfl) Try.func8
    (ChangeSpec.witness6 (enc := enc) (C := Try.checked) false ⟨#[], #[.slice none 0 0, .int .u16 0], []⟩ 8 (by kernel_rfl) (by kernel_rfl) (by kernel_rfl) (by kernel_rfl)) ?_
  intro W base args ds gs before hval0 hW hcnd _
  have hval : ∀ (j : Nat) t v, Try.f8.params[j]? = some t → args[j]? = some v → Value.okWide Try.prog W .any base t v := hval0
  have hW' := hW
  obtain ⟨p, q, hA0, hV, rfl, hfz, hnd⟩ := hW
  have hA : DataW.TrodAll enc Try.prog W 0 (fun _ => true) true Try.f8.params.toList args.toList ds p := hA0
  rw [Try.params8] at hA hval
  obtain ⟨v0, vs0, d0, ds0, p0, q0, hargs, rfl, rfl, h0, r0⟩ := trodAll_cons hA
  obtain ⟨v1, vs1, d1, ds1, p1, q1, rfl, rfl, rfl, h1, r1⟩ := trodAll_cons r0
  obtain ⟨rfl, rfl, rfl⟩ := trodAll_nil r1
  obtain rfl : args = #[v0, v1] := by cases args; simp_all
  obtain ⟨rfl, rfl⟩ := trodVars_none hV
  obtain ⟨a0, len0, cap0, rfl⟩ := okWide_slice Try.underlying22 (hval 0 22 v0 rfl rfl)
  have k0 := h0
  have lt0 : ∀ x ∈ p0, x.block < W.heap.size := by obtain ⟨m, hm⟩ := k0; exact DataW.trod_lt m _ _ _ hm
  obtain ⟨z0, w0⟩ : ∃ zs, IsRow .u8 W a0 len0 cap0 zs := by
    obtain ⟨fuel, hf⟩ := h0
    rcases open_ints Try.underlying22 Try.underlying5 (by kernel_rfl) hf with ⟨hcs, _⟩ | ⟨x, l, c, zs, hcs, _, hl, hm, hz, _, hcell, hwz⟩
    · simp [Value.cells] at hcs
      obtain ⟨rfl, rfl, rfl⟩ := hcs
      exact ⟨[], .inl ⟨rfl, rfl, rfl, rfl⟩⟩
    · simp [Value.cells] at hcs
      obtain ⟨rfl, rfl, rfl⟩ := hcs
      exact ⟨zs, .inr ⟨_, rfl, hl, hm, by simpa using hz, hcell, hwz⟩⟩
  obtain ⟨a1, rfl, rfl, rfl, w1⟩ := open_int Try.underlying51 (hval 1 51 v1 rfl rfl) h1
  clear hA0 hval0
  refine (walk a0 len0 cap0 z0 a1 W w0 w1).mono fun e W' ⟨he, bel⟩ => ?_
  subst he
  exact ⟨_, rfl, _, _, _, [], _, [], hW', trodAll_mk1 (shut_bool Try.underlying4 _), (trodAll_cons_mk (Below.trod laidOut (by kernel_rfl) (of_decide_eq_true (by kernel_rfl)) k0 bel lt0) (trodAll_cons_mk (shut_int Try.underlying51 w1) trodAll_mk0)), rfl, bel.frame _, fun h => by cases h⟩

theorem over : Rows.jobFullRow.holds Try.pinned (OpenSpec.ofChange Rows.jobFullSpec) :=
  OpenClaim.holds_of_wide 8 Try.f8 rfl rfl rfl rfl rfl rfl rfl ⟨rfl, rfl, rfl, rfl, rfl⟩ rfl rfl rfl rfl rfl (by kernel_rfl) Try.func8 (by kernel_rfl)
    (of_decide_eq_true (by kernel_rfl)) (by unfold Func.isWrapper; first | (rw [if_pos (by decide +kernel)]; kernel_rfl) | (rw [if_neg (by decide +kernel)]; exact ⟨rfl, rfl⟩))
    (fun os started H enc _ => lifted os started H enc)

/-- THE STATEMENT -/
theorem proved : Rows.JobFullSaid := over
#print axioms proved
end Go.Proofs.Ytbnncaljekifdaa.jobFull

