/- swingbridgeref2.Rank: Drop. -/
import Derived.Test.YtpcbonljbfbdmaaRankRef2
import Derived.Deep.RegionLaw
namespace Go.Proofs.Ytpcbonljbfbdmaa
open Go.ChangeShapes Go.WideShapes Go.ChangeAt Go.RowKit
set_option linter.unusedVariables false
set_option linter.unusedSimpArgs false
theorem fdrop_not {w : World} {b : Nat} {R : Int} {ps : List (Int × Int)} {A : Option Addr} {c : Nat} {id : Int} (h : Rr w b R ps A c) (hk : id ∉ ps.map Prod.snd) : Calls Try.prog 15 #[.pointer (some ⟨b, 0, none⟩), .int .i64 id] w fun e w' => e = .returned (.bool false) ∧ Below w.heap.size w w' := by
  have hl := h.len
  have Hl : Hid (ps.length ≤ 64) := hidp (by omega)
  have HA := hidp (fall_any h)
  have H1 : Hid (atF (ps.map Prod.snd) id = -1) := hidp (by unfold atF; rw [if_neg hk])
  clear h hk hl
  go_enter Try.func15, Try.ntmps15
  go_wp2_with fail
  refine HA.out.mono ?_
  rintro e w1 ⟨A1, c1, rfl, hn, hb⟩
  have HR := hidp hn.rowI
  have HB := hidp hb
  have HL : Hid (ps.length = (ps.map Prod.snd).length) := hidp (by simp)
  clear hn hb
  go_wp2_with fail
  refine (fat_any (id := id) HR.out HL.out (by rw [← HL.out]; have := Hl.out; omega)).mono ?_
  rintro e u ⟨rfl, rfl⟩
  rw [H1.out]
  go_wp2_with fail
  go_ret
  exact ⟨rfl, HB.out⟩
theorem two_apps {u w1 w2 : World} {B1 : Option Addr} (h1 : Turned (fp none) u.drew w1) (f1 : ∀ k ∈ fp B1, k ∈ fp none ∨ u.drew.heap.size ≤ k) (h2 : Turned (fp B1) w1 w2) : Turned [] u w2 :=
  ((Turned.refl [] u).drew.trans (h1.mono (G := []) (fun k hk => by simp [fp] at hk)) (fun i hi => .inl hi)).trans h2 (fun i hi => by
    rcases f1 i hi with h | h
    · simp [fp] at h
    · right; simpa using h)
set_option maxHeartbeats 4000000 in
theorem fdrop_yes {w : World} {b : Nat} {R : Int} {ps : List (Int × Int)} {A : Option Addr} {c k : Nat} {id : Int} (h : Rr w b R ps A c) (hk : k < ps.length) (hat : atF (ps.map Prod.snd) id = (k : Int)) : Calls Try.prog 15 #[.pointer (some ⟨b, 0, none⟩), .int .i64 id] w (RrPost w b R A (ps.eraseIdx k) (.returned (.bool true))) := by
  obtain ⟨i0, hi0, hz0, hz1, hz2⟩ := info_parts infoItem
  have hl := h.len
  have Hl : Hid (ps.length ≤ 64) := hidp (by omega)
  have HA := hidp (fall_any h)
  have H1 := hidp hat
  have HH := hidp h
  clear h hat hl
  go_enter Try.func15, Try.ntmps15
  go_wp2_with fail
  refine HA.out.mono ?_
  rintro e u ⟨A1, c1, rfl, hn, hb⟩
  have HR := hidp hn.rowI
  have HB := hidp hb
  have HL : Hid (ps.length = (ps.map Prod.snd).length) := hidp (by simp)
  clear hn hb HA
  go_wp2_with fail
  refine (fat_any (id := id) HR.out HL.out (by rw [← HL.out]; have := Hl.out; omega)).mono ?_
  rintro e u' ⟨rfl, rfl⟩
  rw [H1.out]
  have hu : Rr u b R ps A c := HH.out.turned (F := []) (Turned.of_below HB.out []) (by simp) (by simp)
  obtain ⟨g, off, rfl⟩ := hu.rd.some_ (by omega)
  have c0 : u.drew.cell? ⟨b, 0, none⟩ = some (.slice (some ⟨g, off, none⟩) ps.length c) := hu.blk.cell 0
  have hcap := hu.rd.cap
  have hm := hcap.2
  unfold maxLen at hm
  have hcut := hu.rd.cut (k + 1) (by omega)
  obtain ⟨A2, hA2, Hcut⟩ : ∃ A2, (if c = k + 1 then some (⟨g, off, none⟩ : Addr) else some ⟨g, off + (k + 1) * 2, none⟩) = A2 ∧ Hid (RdI u A2 (ps.length - (k + 1)) (c - (k + 1)) (ps.drop (k + 1))) := ⟨_, rfl, hidp hcut⟩
  have S1 := hidp (hu.rd.head k (by omega)).lies.drew
  have L1 : Hid ((pcs (ps.take k)).length = k * 2) := hidp (by rw [pcs_len, List.length_take]; omega)
  have O1 := hidp (pcs_one (ps.take k))
  have M1 : Hid (0 + k ≤ maxLen) := hidp (by unfold maxLen; omega)
  have Hl64 := Hl.out
  have N1 : Hid ((0 + k) * 16 ≤ 140737488355328) := hidp (by omega)
  have S2 := hidp Hcut.out.lies.drew
  have hwr : IntKind.i64.wrap ((k : Int) + 1) = (k : Int) + 1 := IntWalk.i64_in _ (by omega)
  have hw0 : (0 : Int) ≤ (k : Int) + 1 := by omega
  have hw1 : ((k : Int) + 1).toNat = k + 1 := by omega
  have hw2 : (k : Int) + 1 ≤ (ps.length : Int) := by omega
  have hk0 : (0 : Int) ≤ (k : Int) := by omega
  have P2 : Hid (A2 = none → ps.length - (k + 1) = 0 ∧ c - (k + 1) = 0) := hidp fun e => ⟨by have := (Hcut.out.nil e).1; have h2 := congrArg List.length this; simpa using h2, (Hcut.out.nil e).2⟩
  have L2 : Hid ((pcs (ps.drop (k + 1))).length = (ps.length - (k + 1)) * 2) := hidp (by rw [pcs_len, List.length_drop])
  have O2 := hidp (pcs_one (ps.drop (k + 1)))
  have M2 : Hid (k + (ps.length - (k + 1)) ≤ maxLen) := hidp (by unfold maxLen; omega)
  have N2 : Hid ((k + (ps.length - (k + 1))) * 16 ≤ 140737488355328) := hidp (by omega)
  have hn0 := World.ownsRow_nil u.drew u.heap.size 62 2
  have hkc : k ≤ c := by omega
  have hkc1 : k + 1 ≤ c := by omega
  have hkn : k + 1 ≤ ps.length := by omega
  have HU := hidp hu
  have Hk := hidp hk
  have Hcap := hidp hcap
  clear hu hcut hk hcap Hl64 HH
  go_wp2_with fail
  go_region_law (first | ((with_reducible refine step_app2 _ rfl (.const (.slice none 0 0)) (.tmp 18) 54 rfl u.heap.size 62 i0 (.agg #[.int .i64 0, .int .i64 0]) 2 16 Try.underlying54 hi0 hz0 hz1 hz2 rfl (by decide) none 0 0 [] (by simp [Act.eval]) hn0 _ _ k c _ ?_ (by simp) L1.out S1.out O1.out M1.out N1.out (Nat.le_refl _) ?_); (simp [Act.eval, Act.put]); intro B1 k1 w1 happ; simp only [Nat.zero_add, List.nil_append] at happ; have S3 := hidp (S2.out.turned (w' := w1) happ.turned (by simp [fp])); have c3 := happ.turned.cell c0 (by simp [fp]); have Sz : Hid (u.heap.size ≤ w1.heap.size) := hidp happ.turned.size) | ((with_reducible refine step_app2 _ rfl (.tmp 19) (.tmp 26) 54 rfl u.heap.size 62 i0 (.agg #[.int .i64 0, .int .i64 0]) 2 16 Try.underlying54 hi0 hz0 hz1 hz2 rfl (by decide) B1 k k1 _ ?_ happ.own _ _ (ps.length - (k + 1)) (c - (k + 1)) _ ?_ P2.out L2.out S3.out O2.out M2.out N2.out Sz.out ?_); (simp [Act.eval, Act.put]); (simp [Act.eval, Act.put]); intro B2 k2 w2 happ2; have t2 := two_apps happ.turned happ.fps happ2.turned; have hb2 := HU.out.blk.turned t2 List.not_mem_nil; have d0 : w2.cell? ⟨b, 0, none⟩ = some (.slice (some ⟨g, off, none⟩) ps.length c) := hb2.cell 0; have d1 := hb2.frozen 0))
  all_goals
    have He : Hid (ps.eraseIdx k = ps.take k ++ ps.drop (k + 1)) := hidp (List.eraseIdx_eq_take_drop_succ ..)
    have Hfp : Hid (∀ i ∈ fp B2, u.heap.size ≤ i ∧ i < w2.heap.size) := hidp (fun i hi => ⟨(own_fp happ2.own i hi).1, (own_fp happ2.own i hi).2⟩)
    have Hrd : Hid (RdI w2 B2 (k + (ps.length - (k + 1))) k2 (ps.eraseIdx k)) := hidp (by
      refine RdI.of_own (B := u.heap.size) ⟨?_, ?_, happ2.cap, happ2.nil, fun p hp => HU.out.rd.fit p (List.mem_of_mem_eraseIdx hp)⟩
      · rw [He.out, pcs_append]; exact happ2.own
      · rw [List.length_eraseIdx]; have := Hk.out; rw [if_pos this]; omega)
    have Hb2 := hidp hb2
    have Ht2 := hidp t2
    clear happ happ2 hb2 t2 c3 hn0
    go_wp2_with fail
    go_ret
    have hsz := HB.out.size
    have hbl := HU.out.blk.lt
    refine ⟨rfl, B2, k2, Rr.store Hb2.out Hrd.out (fun hk => by have := (Hfp.out b hk).1; omega) ?_ (fun i hi => (Hfp.out i hi).2), ((((Turned.of_below HB.out []).trans Ht2.out (by simp)).mono (G := [b]) (by simp)).setCell (p := ⟨b, 0, none⟩) (.inl (by simp)) _), fun i hi => .inr (Nat.le_trans hsz (Hfp.out i hi).1)⟩
    have h1 := HU.out.len
    have h2 := List.length_eraseIdx_le ps k
    omega
end Go.Proofs.Ytpcbonljbfbdmaa
