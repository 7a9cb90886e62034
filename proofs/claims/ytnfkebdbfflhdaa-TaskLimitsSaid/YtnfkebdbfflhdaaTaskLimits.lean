/- TaskLimits: as many tasks, parts, clusters, cores, resources as may be, and one more. No condition. -/
import Derived.Test.YtnfkebdbfflhdaaKnown8
import Derived.Test.YtnfkebdbfflhdaaLimNums
import Derived.Test.YtnfkebdbfflhdaaRegC
import Derived.Test.YtnfkebdbfflhdaaCanon1
set_option linter.unusedSimpArgs false
set_option maxHeartbeats 16000000
set_option maxRecDepth 100000
namespace Go.Proofs.Ytnfkebdbfflhdaa.taskLimits
open Go.ChangeShapes Go.WideShapes Go.ChangeAt Go.RowKit
open Go.ChangeMaps (open_string shut_string)
set_option linter.unusedVariables false

/-- THE WALK: the Go text returns true, and writes nothing that was there. -/
theorem walk (a0 : Int) (a1 : Int) (a2 : Int) (a3 : Int) (a4 : Int) (w : World) (w0 : (Lit.int .u8 a0).wf = true) (w1 : (Lit.int .u8 a1).wf = true) (w2 : (Lit.int .u8 a2).wf = true) (w3 : (Lit.int .u8 a3).wf = true) (w4 : (Lit.int .u8 a4).wf = true) :
    Calls Try.prog 6 #[.int .u8 a0, .int .u8 a1, .int .u8 a2, .int .u8 a3, .int .u8 a4] w fun e w' => e = .returned (.bool true) ∧ Below w.heap.size w w' := by
  obtain ⟨x, x0, x1, hx⟩ := mod_u8 3 w0 (by decide)
  obtain ⟨y, y0, y1, hy⟩ := mod_u8 3 w1 (by decide)
  obtain ⟨z, z0, z1, hz⟩ := mod_u8 3 w2 (by decide)
  obtain ⟨p, p0, p1, hp⟩ := mod_u8 3 w3 (by decide)
  obtain ⟨q, q0', q1', hq⟩ := mod_u8 3 w4 (by decide)
  obtain ⟨N, hN⟩ : ∃ N : Nat, 5 + x = N := ⟨(5 + x).toNat, by omega⟩
  obtain ⟨M, hM⟩ : ∃ M : Nat, 5 + y = M := ⟨(5 + y).toNat, by omega⟩
  obtain ⟨C, hC⟩ : ∃ C : Nat, 2 + z = C := ⟨(2 + z).toNat, by omega⟩
  obtain ⟨K, hK⟩ : ∃ K : Nat, 2 + p = K := ⟨(2 + p).toNat, by omega⟩
  obtain ⟨R, hR⟩ : ∃ R : Nat, 3 + q = R := ⟨(3 + q).toNat, by omega⟩
  have N0 : 5 ≤ N ∧ N ≤ 7 := by omega
  have M0 : 5 ≤ M ∧ M ≤ 7 := by omega
  have C0 : 2 ≤ C ∧ C ≤ 4 := by omega
  have K0 : 2 ≤ K ∧ K ≤ 4 := by omega
  have R0 : 3 ≤ R ∧ R ≤ 5 := by omega
  obtain ⟨i0, hi0, hy0, hy1, hy2⟩ := info_parts infoC
  obtain ⟨j0, hj0, hk0, hk1, hk2⟩ := info_parts infoTask
  obtain ⟨q0, hq0, hr0, hr1, hr2⟩ := info_parts infoPart
  go_enter Try.func6, Try.ntmps6
  go_wp2_with fail
  refine (known8_any _).mono ?_
  rintro e u1 ⟨rfl, hb⟩
  obtain ⟨v1, HV1, b1, hb1, hg1⟩ : ∃ v, Hid (u1.alloc (.cells #[.int .i64 3, .slice none 0 0, .slice none 0 0, .slice none 0 0] 25) = v) ∧ Bk v u1.heap.size 25 #[.int .i64 3, .slice none 0 0, .slice none 0 0, .slice none 0 0] ∧ Below w.heap.size w v ∧ v.heap.size = u1.heap.size + 1 :=
    ⟨_, hidp rfl, Bk.new u1 _ _, hb.alloc hb.size _, by simp⟩
  have hgw : w.heap.size ≤ u1.heap.size := hb.size
  go_wp2_with fail
  rw [HV1.out]
  obtain ⟨g, hg⟩ : ∃ g, u1.heap.size = g := ⟨_, rfl⟩
  rw [hg] at b1 hg1 hgw ⊢
  clear hg hx hy hz hp hq hN hM hC hK hR x0 x1 y0 y1 z0 z1 p0 p1 q0' q1' hb
  have HG1 := hidp hg1
  have HGW := hidp hgw
  clear hg1
  have CI : (2 : Int) ≤ (C : Int) ∧ (C : Int) ≤ 4 := by omega
  have KI : (2 : Int) ≤ (K : Int) ∧ (K : Int) ≤ 4 := by omega
  -- the cores
  go_loopg [17] C (fun gg i wr => ∃ (k : Nat) (D : Option Addr) (d : Nat), k + gg = C ∧ i = .int .i64 k ∧ OwnN v1.heap.size wr D k d (List.replicate k (K : Int)) ∧ Bk wr g 25 #[.int .i64 3, .slice D k d, .slice none 0 0, .slice none 0 0] ∧ Turned [g] v1 wr)
  case atStart => exact ⟨0, none, 0, by omega, rfl, OwnN.zero _ _, b1, Turned.refl _ _⟩
  case round =>
    clear b1
    obtain ⟨k, D, d, hk, rfl, o, b, ht⟩ := hrel
    by_cases hlt : k < C
    · obtain ⟨e0, e1, e2, e3⟩ := Z4 b
      have hown2 := World.ownsRow.alloc o.own (.cells #[.int .i64 (K : Int)] 3)
      have S2 := hidp (Lies.new1 wr (.int .i64 (K : Int)) 3)
      have O2 := hidp (ints_oneI [(K : Int)])
      have N2 : Hid (k + 1 ≤ maxLen) := hidp (by unfold maxLen; omega)
      have T2 : Hid ((k + 1) * 8 ≤ 140737488355328) := hidp (by omega)
      have TL : Turned [] wr (wr.alloc (.cells #[.int .i64 (K : Int)] 3)) := (Turned.refl [] wr).alloc _
      have Z2 : Hid (v1.heap.size ≤ (wr.alloc (.cells #[.int .i64 (K : Int)] 3)).heap.size) := hidp (Nat.le_trans ht.size TL.size)
      have hF := hidp (own_fp o.own)
      have G5 : Hid (g ∉ fp D) := hidp (fun h => by have := (hF.out _ h).1; have := HG1.out; omega)
      have ba := b.turned TL (by simp)
      have oa := hidp (o.turned TL (by simp))
      go_wp2_with (at_builtin; go_loud (refine wpList_app2 _ rfl (.tmp 53) (.tmp 55) 22 rfl v1.heap.size 3 i0 _ 1 8 Try.underlying22 hi0 hy0 hy1 hy2 rfl (by decide) D k d _ rfl hown2 _ _ 1 1 [.int .i64 (K : Int)] rfl (by simp) rfl S2.out O2.out N2.out T2.out Z2.out ?_); intro A' c' w1 happ; have bb := ba.turned happ.turned G5.out; have fz := bb.frozen 1; have cz : w1.cell? ⟨g, 1, none⟩ = some (.slice D k d) := bb.cell 1)
      have TS : Turned [g] w1 (w1.setCell ⟨g, 1, none⟩ (.slice A' (k + 1) c')) := (Turned.refl [g] w1).setCell (p := ⟨g, 1, none⟩) (.inl (by simp)) _
      have o2 := oa.out.app (zs := [(K : Int)]) happ rfl
      have hF2 := own_fp o2.own
      have hg1 := HG1.out
      have o3 := o2.turned TS (fun j hj hm => by simp at hm; subst hm; have := (hF2 _ hj).1; omega)
      rw [show List.replicate k (K : Int) ++ [(K : Int)] = List.replicate (k + 1) (K : Int) by rw [List.replicate_succ']] at o3
      have b3 : Bk (w1.setCell ⟨g, 1, none⟩ (.slice A' (k + 1) c')) g 25 #[.int .i64 3, .slice A' (k + 1) c', .slice none 0 0, .slice none 0 0] := bb.put 1 (.slice A' (k + 1) c')
      have t3 : Turned [g] v1 (w1.setCell ⟨g, 1, none⟩ (.slice A' (k + 1) c')) := ((ht.trans TL (by simp)).trans happ.turned (fun i hi => .inr (hF.out i hi).1)).trans TS (fun i hi => .inl hi)
      go_roundg (gk - 1)
      case measure => omega
      case rel => exact ⟨k + 1, A', c', by omega, by go_num, o3, b3, t3⟩
    · obtain rfl : k = C := by omega
      have hb2 := hb1.trans (ht.below hb1.size (by simp; omega))
      have FC : Hid (∀ j ∈ fp D, j ≠ g) := hidp (fun j hj => by have := (own_fp o.own j hj).1; have := HG1.out; omega)
      obtain ⟨DC, hDC⟩ : ∃ DC, D = DC := ⟨_, rfl⟩
      obtain ⟨dC, hdC⟩ : ∃ dC, d = dC := ⟨_, rfl⟩
      rw [hDC] at o b FC
      rw [hdC] at o b
      obtain ⟨v2, hv2⟩ : ∃ v, wr = v := ⟨_, rfl⟩
      rw [hv2] at o b hb2
      have OC := hidp o
      have gv2 : g < v2.heap.size := b.lt
      have HB2 := hidp hb2
      clear hlt hDC hdC o ht hk hb1 hb2 hgw
      go_wp2_with fail
      try rw [hv2]
      clear hv2
      have C0' : ¬ k = 0 := by omega
      have C0I : ¬ (k : Int) = 0 := by omega
      -- the homes
      go_loopg [18] R (fun gg i wr => ∃ (n : Nat) (D : Option Addr) (d : Nat), n + gg = R ∧ i = .int .i64 n ∧ OwnN v2.heap.size wr D n d (limHs k n) ∧ Bk wr g 25 #[.int .i64 3, .slice DC k dC, .slice D n d, .slice none 0 0] ∧ Turned [g] v2 wr)
      case atStart => exact ⟨0, none, 0, by omega, rfl, OwnN.zero _ _, b, Turned.refl _ _⟩
      case round =>
        clear b
        obtain ⟨n, D, d, hn, rfl, o, b, ht⟩ := hrel
        by_cases hlt : n < R
        · obtain ⟨r, HR⟩ : ∃ r, Hid (n % k = r) := ⟨_, rfl⟩
          have hr1 : r < k := by rw [← HR.out]; exact Nat.mod_lt _ (by omega)
          have tm : (n : Int).tmod (k : Int) = (r : Int) := by rw [Int.tmod_eq_emod_of_nonneg (by omega), ← HR.out]; simp
          have wr1 : IntKind.i64.wrap (r : Int) = (r : Int) := IntWalk.i64_in _ (by omega)
          have Hsn : Hid (limHs k (n + 1) = limHs k n ++ [(r : Int)]) := hidp (by rw [limHs_snoc, HR.out])
          have od := o.turned (Turned.refl [] wr).drew (by simp)
          have bd : Bk wr.drew g _ _ := b.drewN 1
          have td := ht.drew
          have hs : wr.drew.cell? ⟨g, 2, none⟩ = some (.slice D n d) := bd.cell 2
          clear o b ht
          go_wp2_with fail
          refine wp_region_c_drew 8 (S := fun w' => w'.cell? ⟨g, 2, none⟩ = some (.slice D n d)) (by kernel_rfl) ?_ (fun hHeld => ?_)
          · exact hs
          generalize wr.drew = u at *
          have TL : Turned [] u (u.alloc (.cells #[.int .i64 (r : Int)] 3)) := (Turned.refl [] u).alloc _
          have oa := od.turned TL (by simp)
          have ba := bd.turned TL (by simp)
          have hs1 : (u.alloc (.cells #[.int .i64 (r : Int)] 3)).cell? ⟨g, 2, none⟩ = some (.slice D n d) := ba.cell 2
          have S2 := hidp (Lies.new1 u (.int .i64 (r : Int)) 3)
          have O2 := hidp (ints_oneI [(r : Int)])
          have N2 : Hid (n + 1 ≤ maxLen) := hidp (by unfold maxLen; omega)
          have T2 : Hid ((n + 1) * 8 ≤ 140737488355328) := hidp (by omega)
          have Z2 : Hid (v2.heap.size ≤ (u.alloc (.cells #[.int .i64 (r : Int)] 3)).heap.size) := hidp (Nat.le_trans td.size TL.size)
          have hF := hidp (own_fp od.own)
          have G5 : Hid (g ∉ fp D) := hidp (fun h => by have := (hF.out _ h).1; omega)
          have TD := hidp (td.trans TL (by simp))
          clear td od bd TL
          refine wpAnyC_take (i := 0) (v := ?_) rfl rfl (by kernel_rfl) (by decide) (by kernel_rfl) (by kernel_rfl) (by kernel_rfl) (fun _ _ _ h => h) (Or.inl ⟨by rfl, ?_⟩) (by assumption) ?_
          rotate_left 1
          · ((intro w hSw; (try dsimp only at hSw); go_simp); (try with_reducible rfl))
          simp only [Act.put, List.setIfInBounds_toArray, List.set_cons_zero, List.set_cons_succ, List.getElem_toArray, List.getElem_cons_zero, List.getElem_cons_succ]
          refine wpAnyC_take (i := 1) (v := ?_) rfl rfl (by kernel_rfl) (by decide) (by kernel_rfl) (by kernel_rfl) (by kernel_rfl) (fun _ _ _ h => h) (Or.inl ⟨by rfl, ?_⟩) (by assumption) ?_
          rotate_left 1
          · ((intro w hSw; (try dsimp only at hSw); go_simp); (try with_reducible rfl))
          simp only [Act.put, List.setIfInBounds_toArray, List.set_cons_zero, List.set_cons_succ, List.getElem_toArray, List.getElem_cons_zero, List.getElem_cons_succ]
          refine wpAnyC_take (i := 2) (v := ?_) rfl rfl (by kernel_rfl) (by decide) (by kernel_rfl) (by kernel_rfl) (by kernel_rfl) (fun _ _ _ h => h) (Or.inl ⟨by rfl, ?_⟩) (by assumption) ?_
          rotate_left 1
          · ((intro w hSw; (try dsimp only at hSw); go_simp); (try with_reducible rfl))
          simp only [Act.put, List.setIfInBounds_toArray, List.set_cons_zero, List.set_cons_succ, List.getElem_toArray, List.getElem_cons_zero, List.getElem_cons_succ]
          refine wpAnyC_take (i := 3) (v := ?_) rfl rfl (by kernel_rfl) (by decide) (by kernel_rfl) (by kernel_rfl) (by kernel_rfl) (fun _ _ _ h => h) (Or.inl ⟨by rfl, ?_⟩) (by assumption) ?_
          rotate_left 1
          · ((intro w hSw; (try dsimp only at hSw); go_simp); (try with_reducible rfl))
          simp only [Act.put, List.setIfInBounds_toArray, List.set_cons_zero, List.set_cons_succ, List.getElem_toArray, List.getElem_cons_zero, List.getElem_cons_succ]
          refine wpAnyC_take (i := 4) (v := ?_) rfl rfl (by kernel_rfl) (by decide) (by kernel_rfl) (by kernel_rfl) (by kernel_rfl) (fun _ _ _ h => h) (Or.inl ⟨by rfl, ?_⟩) (by assumption) ?_
          rotate_left 1
          · ((intro w hSw; (try dsimp only at hSw); go_simp); (try with_reducible rfl))
          simp only [Act.put, List.setIfInBounds_toArray, List.set_cons_zero, List.set_cons_succ, List.getElem_toArray, List.getElem_cons_zero, List.getElem_cons_succ]
          refine wpAnyC_ready (rs := [5]) (by kernel_rfl) (by simp) ?_
          refine AllReadyC.cons rfl (fun K hK => ?_) AllReadyC.nil
          go_simp
          refine hK.out _ _ ?_ (fun hHeld => ?_)
          · exact hs1
          clear hK K
          try simp only [Act.put, List.setIfInBounds_toArray, List.set_cons_zero, List.set_cons_succ, List.getElem_toArray, List.getElem_cons_zero, List.getElem_cons_succ]
          refine wpAnyC_ready (rs := [6]) (by kernel_rfl) (by simp) ?_
          refine AllReadyC.cons rfl (fun K hK => ?_) AllReadyC.nil
          refine step_app2 _ rfl (.tmp 64) (.tmp 68) 22 rfl v2.heap.size 3 i0 _ 1 8 Try.underlying22 hi0 hy0 hy1 hy2 rfl (by decide) D n d _ rfl oa.own _ _ 1 1 [.int .i64 (r : Int)] rfl (by simp) rfl S2.out O2.out N2.out T2.out Z2.out ?_
          intro A' c' w1 happ
          have bb := ba.turned happ.turned G5.out
          have hs2 : w1.cell? ⟨g, 2, none⟩ = some (.slice D n d) := bb.cell 2
          have fz := bb.frozen 2
          refine hK.out _ _ ?_ (fun hHeld => ?_)
          · exact hs2
          clear hK K
          try simp only [Act.put, List.setIfInBounds_toArray, List.set_cons_zero, List.set_cons_succ, List.getElem_toArray, List.getElem_cons_zero, List.getElem_cons_succ]
          refine wpAnyC_take (i := 7) (v := ?_) rfl rfl (by kernel_rfl) (by decide) (by kernel_rfl) (by kernel_rfl) (by kernel_rfl) (fun _ _ _ h => h) (Or.inl ⟨by rfl, ?_⟩) (by assumption) ?_
          rotate_left 1
          · ((intro w hSw; (try dsimp only at hSw); go_simp); (try with_reducible rfl))
          simp only [Act.put, List.setIfInBounds_toArray, List.set_cons_zero, List.set_cons_succ, List.getElem_toArray, List.getElem_cons_zero, List.getElem_cons_succ]
          refine wpAnyC_ready (rs := [8]) (by kernel_rfl) (by simp) ?_
          refine AllReadyC.last rfl (fun K hK => ?_)
          go_simp
          refine hK.out _ _ ?_
          clear hK K
          refine wpAnyC_done (by kernel_rfl) ?_ _
          have TS : Turned [g] w1 (w1.setCell ⟨g, 2, none⟩ (.slice A' (n + 1) c')) := (Turned.refl [g] w1).setCell (p := ⟨g, 2, none⟩) (.inl (by simp)) _
          have o2 := oa.app (zs := [(r : Int)]) happ rfl
          rw [← Hsn.out] at o2
          have hF2 := own_fp o2.own
          have o3 := o2.turned TS (fun j hj hm => by simp at hm; subst hm; have := (hF2 _ hj).1; omega)
          have b3 : Bk (w1.setCell ⟨g, 2, none⟩ (.slice A' (n + 1) c')) g 25 #[.int .i64 3, .slice DC k dC, .slice A' (n + 1) c', .slice none 0 0] := bb.put 2 (.slice A' (n + 1) c')
          have t3 : Turned [g] v2 (w1.setCell ⟨g, 2, none⟩ (.slice A' (n + 1) c')) := (TD.out.trans happ.turned (fun i hi => .inr (hF.out i hi).1)).trans TS (fun i hi => .inl hi)
          clear hs hs1 hs2 fz hHeld tm wr1 bb ba oa happ TS o2
          go_wp2_with fail
          go_roundg (gk - 1)
          case measure => omega
          case rel => exact ⟨n + 1, A', c', by omega, by go_num, o3, b3, t3⟩
        · obtain rfl : n = R := by omega
          have FH : Hid (∀ j ∈ fp D, j ≠ g) := hidp (fun j hj => by have := (own_fp o.own j hj).1; omega)
          have hgw : w.heap.size ≤ g := HGW.out
          have hb3 := HB2.out.trans (ht.below HB2.out.size (by simp; omega))
          have oc3 := OC.out.turned ht (fun j hj hm => by simp at hm; exact FC.out j hj hm)
          obtain ⟨DH, hDH⟩ : ∃ DC, D = DC := ⟨_, rfl⟩
          obtain ⟨dH, hdH⟩ : ∃ dC, d = dC := ⟨_, rfl⟩
          rw [hDH] at o b FH
          rw [hdH] at o b
          obtain ⟨v3, hv3⟩ : ∃ v, wr = v := ⟨_, rfl⟩
          rw [hv3] at o b hb3 oc3
          have OC3 := hidp oc3
          have OH3 := hidp o
          have B3 := hidp b
          have HB3 := hidp hb3
          clear hlt hDH hdH o ht hn b hb3 oc3 OC HB2
          go_wp2_with fail
          try rw [hv3]
          clear hv3
          -- the parts
          have B3l := B3.out.lt
          go_loopg [19, 20] M (fun gg l i wr => ∃ (m : Nat) (L : Option Addr) (d : Nat), m + gg = M ∧ i = .int .i64 m ∧ l = .slice L m d ∧ OwnP v3.heap.size wr L m d (limPs m) ∧ Below v3.heap.size v3 wr)
          case atStart => exact ⟨0, none, 0, by omega, rfl, rfl, OwnP.none _ _, Below.refl _ _⟩
          case round =>
            obtain ⟨m, L, d, hm, rfl, rfl, o, hbv⟩ := hrel
            by_cases hlt : m < M
            · obtain ⟨r, HR⟩ : ∃ r : Int, (m : Int) % 2 = r := ⟨_, rfl⟩
              have hr1 : 0 ≤ r ∧ r < 2 := by omega
              have Hsn : Hid (limPs (m + 1) = limPs m ++ [⟨1 + r, 60, 0⟩]) := hidp (by rw [limPs_snoc]; unfold limPart; rw [← HR]; simp)
              have tm : (m : Int).tmod 2 = r := by rw [Int.tmod_eq_emod_of_nonneg (by omega)]; exact HR
              obtain ⟨rr2, rr3⟩ := hr1
              have hown2 := World.ownsRow.alloc o.own (.cells (ptc [⟨1 + r, 60, 0⟩]).toArray 40)
              have S2 := hidp (Lies.newCells' wr (ptc [⟨1 + r, 60, 0⟩]) 40)
              have O2 := hidp (ptc_one [⟨1 + r, 60, 0⟩])
              have N2 : Hid (m + 1 ≤ maxLen) := hidp (by unfold maxLen; omega)
              have T2 : Hid ((m + 1) * 24 ≤ 140737488355328) := hidp (by omega)
              have hb2 := hbv.alloc hbv.size (.cells (ptc [⟨1 + r, 60, 0⟩]).toArray 40)
              have Z2 := hidp hb2.size
              have hF := hidp (own_fp o.own)
              have oa := hidp o
              go_wp2_with (at_builtin; go_loud (refine wpList_app2 _ rfl (.tmp 76) (.tmp 81) 35 rfl v3.heap.size 40 q0 _ 3 24 Try.underlying35 hq0 hr0 hr1 hr2 rfl (by decide) L m d _ rfl hown2 _ _ 1 1 (ptc [⟨1 + r, 60, 0⟩]) rfl (by simp) rfl S2.out O2.out N2.out T2.out Z2.out ?_); intro A' c' w1 happ)
              have o2 := oa.out.app (ps := [⟨1 + r, 60, 0⟩]) happ rfl
              rw [← Hsn.out] at o2
              have hb3 := hb2.trans (happ.turned.below hb2.size (fun j hj => (hF.out _ hj).1))
              go_roundg (gk - 1)
              case measure => omega
              case rel => exact ⟨m + 1, A', c', by omega, by go_num, rfl, o2, hb3⟩
            · obtain rfl : m = M := by omega
              obtain ⟨v4, hv4⟩ : ∃ v, wr = v := ⟨_, rfl⟩
              rw [hv4] at o hbv
              have b := B3.out.below hbv
              have OC4 := hidp (OC3.out.turned (Turned.of_below hbv []) (by simp))
              have OH4 := hidp (OH3.out.turned (Turned.of_below hbv []) (by simp))
              have HB4 := hidp (HB3.out.trans (hbv.mono HB3.out.size))
              have gv4 := b.lt
              have FL : Hid (∀ j ∈ fp L, v3.heap.size ≤ j ∧ j < v4.heap.size) := hidp (own_fp o.own)
              have OL := hidp o
              have HG3 := hidp B3.out.lt
              clear hlt hm o hbv OC3 OH3 B3 HB3 B3l
              go_wp2_with fail
              try rw [hv4]
              clear hv4
              -- the tasks
              go_loopg [21] N (fun gg i wr => ∃ (a : Nat) (D : Option Addr) (d4 : Nat), a + gg = N ∧ i = .int .i64 a ∧ OwnT v4.heap.size wr D a d4 (limTs L d m k a) ∧ Bk wr g 25 #[.int .i64 3, .slice DC k dC, .slice DH n dH, .slice D a d4] ∧ Turned [g] v4 wr)
              case atStart => exact ⟨0, none, 0, by omega, rfl, OwnT.none _ _, b, Turned.refl _ _⟩
              case round =>
                clear b
                obtain ⟨a, D, d4, ha, rfl, o, b, ht⟩ := hrel
                by_cases hlt : a < N
                · obtain ⟨r, HR⟩ : ∃ r, Hid (a % k = r) := ⟨_, rfl⟩
                  have hr1 : r < k := by rw [← HR.out]; exact Nat.mod_lt _ (by omega)
                  have tm : (a : Int).tmod (k : Int) = (r : Int) := by rw [Int.tmod_eq_emod_of_nonneg (by omega), ← HR.out]; simp
                  have wr1 : IntKind.i64.wrap (r : Int) = (r : Int) := IntWalk.i64_in _ (by omega)
                  have wr2 : IntKind.i64.wrap (97 + (a : Int)) = 97 + (a : Int) := IntWalk.i64_in _ (by omega)
                  have wr3 : IntKind.i64.wrap (1000 - (a : Int)) = 1000 - (a : Int) := IntWalk.i64_in _ (by omega)
                  have hw8 : IntKind.u8.wrap (97 + (a : Int)) = 97 + a := by
                    have : a = 0 ∨ a = 1 ∨ a = 2 ∨ a = 3 ∨ a = 4 ∨ a = 5 ∨ a = 6 := by omega
                    rcases this with rfl | rfl | rfl | rfl | rfl | rfl | rfl <;> decide
                  have Hsn : Hid (limTs L d m k (a + 1) = limTs L d m k a ++ [⟨letter a, 3000, 3000, 1000 - (a : Int), (r : Int), L, d, limPs m⟩]) := hidp (by rw [limTs_snoc]; unfold limTask; rw [HR.out])
                  obtain ⟨t, Ht⟩ : ∃ t : TaskR, Hid (t = ⟨letter a, 3000, 3000, 1000 - (a : Int), (r : Int), L, d, limPs m⟩) := ⟨_, hidp rfl⟩
                  have HLT : Hid ((.cells (ttc [t]).toArray 37 : Obj) = .cells #[.string (letter a), .int .i64 3000, .int .i64 3000, .int .i64 (1000 - (a : Int)), .int .i64 (r : Int), .slice L m d] 37) := hidp (by rw [Ht.out]; simp [ttc, limPs_len])
                  have od := o.turned (Turned.refl [] wr).drew (by simp)
                  have bd : Bk wr.drew g _ _ := b.drewN 1
                  have td := ht.drew
                  have hs : wr.drew.cell? ⟨g, 3, none⟩ = some (.slice D a d4) := bd.cell 3
                  clear o b ht
                  go_wp2_with fail
                  refine wp_region_c_drew 17 (S := fun w' => w'.cell? ⟨g, 3, none⟩ = some (.slice D a d4)) (by kernel_rfl) ?_ (fun hHeld => ?_)
                  · exact hs
                  generalize wr.drew = u at *
                  have hcb := run_convert_bytes_back (P := Try.prog) (u.alloc (.cells #[.int .u8 (97 + (a : Int))] 5)) 41 9 5 ⟨u.heap.size, 0, none⟩ 1 [UInt8.ofNat (97 + a)] Try.underlying41 Try.underlying5 Try.underlying9 (lim_bytes a (by omega) u 5)
                  change (convert 41 9 (.slice (some ⟨u.heap.size, 0, none⟩) 1 1)).run Try.prog _ = .ok (.string (letter a)) _ at hcb
                  have TL0 : Turned [] u (u.alloc (.cells #[.int .u8 (97 + (a : Int))] 5)) := (Turned.refl [] u).alloc _
                  have TLT : Turned [] (u.alloc (.cells #[.int .u8 (97 + (a : Int))] 5)) ((u.alloc (.cells #[.int .u8 (97 + (a : Int))] 5)).alloc (.cells #[.string (letter a), .int .i64 3000, .int .i64 3000, .int .i64 (1000 - (a : Int)), .int .i64 (r : Int), .slice L m d] 37)) := (Turned.refl [] _).alloc _
                  have TL := TL0.trans TLT (by simp)
                  have b0 := bd.turned TL0 (by simp)
                  have hs0 : (u.alloc (.cells #[.int .u8 (97 + (a : Int))] 5)).cell? ⟨g, 3, none⟩ = some (.slice D a d4) := b0.cell 3
                  have oa := od.turned TL (by simp)
                  have ba := bd.turned TL (by simp)
                  have hs1 : ((u.alloc (.cells #[.int .u8 (97 + (a : Int))] 5)).alloc (.cells #[.string (letter a), .int .i64 3000, .int .i64 3000, .int .i64 (1000 - (a : Int)), .int .i64 (r : Int), .slice L m d] 37)).cell? ⟨g, 3, none⟩ = some (.slice D a d4) := ba.cell 3
                  have S2 := Lies.newCells' (u.alloc (.cells #[.int .u8 (97 + (a : Int))] 5)) (ttc [t]) 37
                  rw [HLT.out, show (u.alloc (.cells #[.int .u8 (97 + (a : Int))] 5)).heap.size = u.heap.size + 1 by simp] at S2
                  replace S2 := hidp S2
                  have O2 := hidp (ttc_one [t])
                  have L2 : Hid ((ttc [t]).length = 1 * 6) := hidp (ttc_len _)
                  have N2 : Hid (a + 1 ≤ maxLen) := hidp (by unfold maxLen; omega)
                  have T2 : Hid ((a + 1) * 72 ≤ 140737488355328) := hidp (by omega)
                  have Z2 : Hid (v4.heap.size ≤ ((u.alloc (.cells #[.int .u8 (97 + (a : Int))] 5)).alloc (.cells #[.string (letter a), .int .i64 3000, .int .i64 3000, .int .i64 (1000 - (a : Int)), .int .i64 (r : Int), .slice L m d] 37)).heap.size) := hidp (Nat.le_trans td.size TL.size)
                  have hF := hidp (own_fp od.own)
                  have G5 : Hid (g ∉ fp D) := hidp (fun h => by have := (hF.out _ h).1; omega)
                  have TD := hidp (td.trans TL (by simp))
                  clear td od bd TL TL0 TLT b0
                  refine wpAnyC_take (i := 0) (v := ?_) rfl rfl (by kernel_rfl) (by decide) (by kernel_rfl) (by kernel_rfl) (by kernel_rfl) (fun _ _ _ h => h) (Or.inl ⟨by rfl, ?_⟩) (by assumption) ?_
                  rotate_left 1
                  · ((intro w hSw; (try dsimp only at hSw); go_simp); (try with_reducible rfl))
                  simp only [Act.put, List.setIfInBounds_toArray, List.set_cons_zero, List.set_cons_succ, List.getElem_toArray, List.getElem_cons_zero, List.getElem_cons_succ]
                  refine wpAnyC_take (i := 1) (v := ?_) rfl rfl (by kernel_rfl) (by decide) (by kernel_rfl) (by kernel_rfl) (by kernel_rfl) (fun _ _ _ h => h) (Or.inl ⟨by rfl, ?_⟩) (by assumption) ?_
                  rotate_left 1
                  · ((intro w hSw; (try dsimp only at hSw); go_simp); (try with_reducible rfl))
                  simp only [Act.put, List.setIfInBounds_toArray, List.set_cons_zero, List.set_cons_succ, List.getElem_toArray, List.getElem_cons_zero, List.getElem_cons_succ]
                  refine wpAnyC_take (i := 2) (v := ?_) rfl rfl (by kernel_rfl) (by decide) (by kernel_rfl) (by kernel_rfl) (by kernel_rfl) (fun _ _ _ h => h) (Or.inl ⟨by rfl, ?_⟩) (by assumption) ?_
                  rotate_left 1
                  · ((intro w hSw; (try dsimp only at hSw); go_simp); (try with_reducible rfl))
                  simp only [Act.put, List.setIfInBounds_toArray, List.set_cons_zero, List.set_cons_succ, List.getElem_toArray, List.getElem_cons_zero, List.getElem_cons_succ]
                  refine wpAnyC_take (i := 3) (v := ?_) rfl rfl (by kernel_rfl) (by decide) (by kernel_rfl) (by kernel_rfl) (by kernel_rfl) (fun _ _ _ h => h) (Or.inl ⟨by rfl, ?_⟩) (by assumption) ?_
                  rotate_left 1
                  · ((intro w hSw; (try dsimp only at hSw); go_simp); (try with_reducible rfl))
                  simp only [Act.put, List.setIfInBounds_toArray, List.set_cons_zero, List.set_cons_succ, List.getElem_toArray, List.getElem_cons_zero, List.getElem_cons_succ]
                  refine wpAnyC_take (i := 4) (v := ?_) rfl rfl (by kernel_rfl) (by decide) (by kernel_rfl) (by kernel_rfl) (by kernel_rfl) (fun _ _ _ h => h) (Or.inl ⟨by rfl, ?_⟩) (by assumption) ?_
                  rotate_left 1
                  · ((intro w hSw; (try dsimp only at hSw); go_simp); (try with_reducible rfl))
                  simp only [Act.put, List.setIfInBounds_toArray, List.set_cons_zero, List.set_cons_succ, List.getElem_toArray, List.getElem_cons_zero, List.getElem_cons_succ]
                  refine wpAnyC_take (i := 7) (v := ?_) rfl rfl (by kernel_rfl) (by decide) (by kernel_rfl) (by kernel_rfl) (by kernel_rfl) (fun _ _ _ h => h) (Or.inl ⟨by rfl, ?_⟩) (by assumption) ?_
                  rotate_left 1
                  · ((intro w hSw; (try dsimp only at hSw); go_simp); (try with_reducible rfl))
                  simp only [Act.put, List.setIfInBounds_toArray, List.set_cons_zero, List.set_cons_succ, List.getElem_toArray, List.getElem_cons_zero, List.getElem_cons_succ]
                  refine wpAnyC_take (i := 8) (v := ?_) rfl rfl (by kernel_rfl) (by decide) (by kernel_rfl) (by kernel_rfl) (by kernel_rfl) (fun _ _ _ h => h) (Or.inl ⟨by rfl, ?_⟩) (by assumption) ?_
                  rotate_left 1
                  · ((intro w hSw; (try dsimp only at hSw); go_simp); (try with_reducible rfl))
                  simp only [Act.put, List.setIfInBounds_toArray, List.set_cons_zero, List.set_cons_succ, List.getElem_toArray, List.getElem_cons_zero, List.getElem_cons_succ]
                  refine wpAnyC_take (i := 9) (v := ?_) rfl rfl (by kernel_rfl) (by decide) (by kernel_rfl) (by kernel_rfl) (by kernel_rfl) (fun _ _ _ h => h) (Or.inl ⟨by rfl, ?_⟩) (by assumption) ?_
                  rotate_left 1
                  · ((intro w hSw; (try dsimp only at hSw); go_simp); (try with_reducible rfl))
                  simp only [Act.put, List.setIfInBounds_toArray, List.set_cons_zero, List.set_cons_succ, List.getElem_toArray, List.getElem_cons_zero, List.getElem_cons_succ]
                  refine wpAnyC_take (i := 10) (v := ?_) rfl rfl (by kernel_rfl) (by decide) (by kernel_rfl) (by kernel_rfl) (by kernel_rfl) (fun _ _ _ h => h) (Or.inl ⟨by rfl, ?_⟩) (by assumption) ?_
                  rotate_left 1
                  · ((intro w hSw; (try dsimp only at hSw); go_simp); (try with_reducible rfl))
                  simp only [Act.put, List.setIfInBounds_toArray, List.set_cons_zero, List.set_cons_succ, List.getElem_toArray, List.getElem_cons_zero, List.getElem_cons_succ]
                  refine wpAnyC_take (i := 11) (v := ?_) rfl rfl (by kernel_rfl) (by decide) (by kernel_rfl) (by kernel_rfl) (by kernel_rfl) (fun _ _ _ h => h) (Or.inl ⟨by rfl, ?_⟩) (by assumption) ?_
                  rotate_left 1
                  · ((intro w hSw; (try dsimp only at hSw); go_simp); (try with_reducible rfl))
                  simp only [Act.put, List.setIfInBounds_toArray, List.set_cons_zero, List.set_cons_succ, List.getElem_toArray, List.getElem_cons_zero, List.getElem_cons_succ]
                  refine wpAnyC_take (i := 12) (v := ?_) rfl rfl (by kernel_rfl) (by decide) (by kernel_rfl) (by kernel_rfl) (by kernel_rfl) (fun _ _ _ h => h) (Or.inl ⟨by rfl, ?_⟩) (by assumption) ?_
                  rotate_left 1
                  · ((intro w hSw; (try dsimp only at hSw); go_simp); (try with_reducible rfl))
                  simp only [Act.put, List.setIfInBounds_toArray, List.set_cons_zero, List.set_cons_succ, List.getElem_toArray, List.getElem_cons_zero, List.getElem_cons_succ]
                  refine wpAnyC_ready (rs := [5]) (by kernel_rfl) (by simp) ?_
                  refine AllReadyC.cons rfl (fun K hK => ?_) AllReadyC.nil
                  go_simp
                  refine hK.out _ _ ?_ (fun hHeld => ?_)
                  · exact hs0
                  clear hK K
                  try simp only [Act.put, List.setIfInBounds_toArray, List.set_cons_zero, List.set_cons_succ, List.getElem_toArray, List.getElem_cons_zero, List.getElem_cons_succ]
                  refine wpAnyC_ready (rs := [6]) (by kernel_rfl) (by simp) ?_
                  refine AllReadyC.cons rfl (fun K hK => ?_) AllReadyC.nil
                  go_simp
                  refine hK.out _ _ ?_ (fun hHeld => ?_)
                  · exact hs0
                  clear hK K
                  try simp only [Act.put, List.setIfInBounds_toArray, List.set_cons_zero, List.set_cons_succ, List.getElem_toArray, List.getElem_cons_zero, List.getElem_cons_succ]
                  refine wpAnyC_take (i := 13) (v := ?_) rfl rfl (by kernel_rfl) (by decide) (by kernel_rfl) (by kernel_rfl) (by kernel_rfl) (fun _ _ _ h => h) (Or.inl ⟨by rfl, ?_⟩) (by assumption) ?_
                  rotate_left 1
                  · ((intro w hSw; (try dsimp only at hSw); go_simp); (try with_reducible rfl))
                  simp only [Act.put, List.setIfInBounds_toArray, List.set_cons_zero, List.set_cons_succ, List.getElem_toArray, List.getElem_cons_zero, List.getElem_cons_succ]
                  refine wpAnyC_ready (rs := [14]) (by kernel_rfl) (by simp) ?_
                  refine AllReadyC.cons rfl (fun K hK => ?_) AllReadyC.nil
                  go_simp
                  refine hK.out _ _ ?_ (fun hHeld => ?_)
                  · exact hs1
                  clear hK K
                  try simp only [Act.put, List.setIfInBounds_toArray, List.set_cons_zero, List.set_cons_succ, List.getElem_toArray, List.getElem_cons_zero, List.getElem_cons_succ]
                  refine wpAnyC_ready (rs := [15]) (by kernel_rfl) (by simp) ?_
                  refine AllReadyC.cons rfl (fun K hK => ?_) AllReadyC.nil
                  refine step_app2 _ rfl (.tmp 89) (.tmp 102) 23 rfl v4.heap.size 37 j0 _ 6 72 Try.underlying23 hj0 hk0 hk1 hk2 rfl (by decide) D a d4 _ rfl oa.own _ _ 1 1 (ttc [t]) rfl (by simp) L2.out S2.out O2.out N2.out T2.out Z2.out ?_
                  intro A' c' w1 happ
                  have bb := ba.turned happ.turned G5.out
                  have hs2 : w1.cell? ⟨g, 3, none⟩ = some (.slice D a d4) := bb.cell 3
                  have fz := bb.frozen 3
                  refine hK.out _ _ ?_ (fun hHeld => ?_)
                  · exact hs2
                  clear hK K
                  try simp only [Act.put, List.setIfInBounds_toArray, List.set_cons_zero, List.set_cons_succ, List.getElem_toArray, List.getElem_cons_zero, List.getElem_cons_succ]
                  refine wpAnyC_take (i := 16) (v := ?_) rfl rfl (by kernel_rfl) (by decide) (by kernel_rfl) (by kernel_rfl) (by kernel_rfl) (fun _ _ _ h => h) (Or.inl ⟨by rfl, ?_⟩) (by assumption) ?_
                  rotate_left 1
                  · ((intro w hSw; (try dsimp only at hSw); go_simp); (try with_reducible rfl))
                  simp only [Act.put, List.setIfInBounds_toArray, List.set_cons_zero, List.set_cons_succ, List.getElem_toArray, List.getElem_cons_zero, List.getElem_cons_succ]
                  refine wpAnyC_ready (rs := [17]) (by kernel_rfl) (by simp) ?_
                  refine AllReadyC.last rfl (fun K hK => ?_)
                  go_simp
                  refine hK.out _ _ ?_
                  clear hK K
                  refine wpAnyC_done (by kernel_rfl) ?_ _
                  have TS : Turned [g] w1 (w1.setCell ⟨g, 3, none⟩ (.slice A' (a + 1) c')) := (Turned.refl [g] w1).setCell (p := ⟨g, 3, none⟩) (.inl (by simp)) _
                  have o2 := oa.app (ts := [t]) happ rfl
                  rw [Ht.out, ← Hsn.out] at o2
                  have hF2 := own_fp o2.own
                  have o3 := o2.turned TS (fun j hj hm => by simp at hm; subst hm; have := (hF2 _ hj).1; omega)
                  have b3 : Bk (w1.setCell ⟨g, 3, none⟩ (.slice A' (a + 1) c')) g 25 #[.int .i64 3, .slice DC k dC, .slice DH n dH, .slice A' (a + 1) c'] := bb.put 3 (.slice A' (a + 1) c')
                  have t3 : Turned [g] v4 (w1.setCell ⟨g, 3, none⟩ (.slice A' (a + 1) c')) := (TD.out.trans happ.turned (fun i hi => .inr (hF.out i hi).1)).trans TS (fun i hi => .inl hi)
                  clear hs hs0 hs1 hs2 fz hHeld tm wr1 wr2 wr3 hw8 hcb bb ba oa happ TS o2
                  go_wp2_with fail
                  go_roundg (gk - 1)
                  case measure => omega
                  case rel => exact ⟨a + 1, A', c', by omega, by go_num, o3, b3, t3⟩
                · obtain rfl : a = N := by omega
                  obtain ⟨e0, e1, e2, e3⟩ := Z4 b
                  have oc := OC4.out.turned ht (fun j hj hm => by simp at hm; exact FC.out j hj hm)
                  have oh := OH4.out.turned ht (fun j hj hm => by simp at hm; exact FH.out j hj hm)
                  have ol := OL.out.turned ht (fun j hj hm => by simp at hm; have h1 := (FL.out j hj).1; have h2 := HG3.out; omega)
                  have hbf := hidp (HB4.out.trans (ht.below HB4.out.size (by simp; omega)))
                  have hs : SetOk wr ⟨3, DC, dC, List.replicate k (K : Int), DH, dH, limHs k n, D, d4, limTs L d m k a⟩ := by
                    refine ⟨by show I64 3; decide, oc.ok (fun z hz => by rw [(List.mem_replicate.1 hz).2]; unfold I64; omega), oh.ok (limHs_wf k n (by omega)), ⟨?_, o.tasks, fun t ht' => ?_⟩⟩
                    · exact o.sl
                    · obtain ⟨i, hi, rfl⟩ := List.mem_map.1 ht'
                      have hi := List.mem_range.1 hi
                      have hm := Nat.mod_lt i (show 0 < k by omega)
                      have hol : m = (limPs m).length := (limPs_len m).symm
                      refine ⟨by show 1 ≤ maxLen; decide, by show I64 3000; decide, by show I64 3000; decide, by show I64 (1000 - (i : Int)); unfold I64; omega, by show I64 ((i % k : Nat) : Int); unfold I64; omega, ?_, ol.parts, limPs_wf m⟩
                      exact ⟨fun e => by show (limPs m).length = 0 ∧ d = 0; rw [limPs_len]; exact ol.nil e, by show (limPs m).length ≤ d ∧ d ≤ maxLen; rw [limPs_len]; exact ol.cap⟩
                  have TO := hidp (lim_told (S := ⟨3, DC, dC, List.replicate k (K : Int), DH, dH, limHs k n, D, d4, limTs L d m k a⟩) (C := k) (K := K) (R := n) (M := m) (N := a) (d := d) (L := L) rfl rfl rfl rfl (by omega) (by omega) (by omega) (by omega))
                  have CC := check_any ⟨3, DC, dC, List.replicate k (K : Int), DH, dH, limHs k n, D, d4, limTs L d m k a⟩ wr hs
                  dsimp only at CC
                  obtain ⟨V, HV⟩ : ∃ V, Hid (chkAt ⟨3, DC, dC, List.replicate k (K : Int), DH, dH, limHs k n, D, d4, limTs L d m k a⟩ = V) := ⟨_, hidp rfl⟩
                  obtain ⟨E, HE⟩ : ∃ E, Hid (chkE ⟨3, DC, dC, List.replicate k (K : Int), DH, dH, limHs k n, D, d4, limTs L d m k a⟩ = E) := ⟨_, hidp rfl⟩
                  rw [HV.out, HE.out] at CC
                  simp only [List.length_replicate, limHs_len, limTs_len] at CC
                  have T1 := TO.out
                  rw [HV.out, HE.out] at T1
                  have TT := hidp T1
                  clear T1 TO HV HE hs oc oh ol o b ht OC4 OH4 HB4 OL FL FH FC
                  by_cases h : 3 < k
                  · obtain ⟨hv, he⟩ := TT.out.1 (.inl h)
                    subst hv
                    subst he
                    have f_k : (3 : Int) < (k : Int) := by omega
                    have g_k : decide ((3 : Int) < (k : Int)) = true := by simp; omega
                    clear TT
                    go_wp2_with fail
                    refine CC.mono ?_
                    rintro e u9 ⟨rfl, hb9⟩
                    clear CC
                    go_wp2_with fail
                    go_ret
                    exact ⟨rfl, hbf.out.trans (hb9.mono hbf.out.size)⟩
                  · by_cases h : 3 < K
                    · obtain ⟨hv, he⟩ := TT.out.1 (.inr (.inl h))
                      subst hv
                      subst he
                      have f_k : ¬ (3 : Int) < (k : Int) := by omega
                      have g_k : decide ((3 : Int) < (k : Int)) = false := by simp; omega
                      have f_K : (3 : Int) < (K : Int) := by omega
                      have g_K : decide ((3 : Int) < (K : Int)) = true := by simp; omega
                      clear TT
                      go_wp2_with fail
                      refine CC.mono ?_
                      rintro e u9 ⟨rfl, hb9⟩
                      clear CC
                      go_wp2_with fail
                      go_ret
                      exact ⟨rfl, hbf.out.trans (hb9.mono hbf.out.size)⟩
                    · by_cases h : 4 < n
                      · obtain ⟨hv, he⟩ := TT.out.1 (.inr (.inr h))
                        subst hv
                        subst he
                        have f_k : ¬ (3 : Int) < (k : Int) := by omega
                        have g_k : decide ((3 : Int) < (k : Int)) = false := by simp; omega
                        have f_K : ¬ (3 : Int) < (K : Int) := by omega
                        have g_K : decide ((3 : Int) < (K : Int)) = false := by simp; omega
                        have f_n : (4 : Int) < (n : Int) := by omega
                        have g_n : decide ((4 : Int) < (n : Int)) = true := by simp; omega
                        clear TT
                        go_wp2_with fail
                        refine CC.mono ?_
                        rintro e u9 ⟨rfl, hb9⟩
                        clear CC
                        go_wp2_with fail
                        go_ret
                        exact ⟨rfl, hbf.out.trans (hb9.mono hbf.out.size)⟩
                      · by_cases h : 6 < a
                        · obtain ⟨hv, he⟩ := TT.out.2.1 (by omega) h
                          subst hv
                          subst he
                          have f_k : ¬ (3 : Int) < (k : Int) := by omega
                          have g_k : decide ((3 : Int) < (k : Int)) = false := by simp; omega
                          have f_K : ¬ (3 : Int) < (K : Int) := by omega
                          have g_K : decide ((3 : Int) < (K : Int)) = false := by simp; omega
                          have f_n : ¬ (4 : Int) < (n : Int) := by omega
                          have g_n : decide ((4 : Int) < (n : Int)) = false := by simp; omega
                          have f_a : (6 : Int) < (a : Int) := by omega
                          have g_a : decide ((6 : Int) < (a : Int)) = true := by simp; omega
                          clear TT
                          go_wp2_with fail
                          refine CC.mono ?_
                          rintro e u9 ⟨rfl, hb9⟩
                          clear CC
                          go_wp2_with fail
                          go_ret
                          exact ⟨rfl, hbf.out.trans (hb9.mono hbf.out.size)⟩
                        · by_cases h : 6 < m
                          · obtain ⟨hv, he⟩ := TT.out.2.2.1 (by omega) (by omega) h
                            subst hv
                            subst he
                            have f_k : ¬ (3 : Int) < (k : Int) := by omega
                            have g_k : decide ((3 : Int) < (k : Int)) = false := by simp; omega
                            have f_K : ¬ (3 : Int) < (K : Int) := by omega
                            have g_K : decide ((3 : Int) < (K : Int)) = false := by simp; omega
                            have f_n : ¬ (4 : Int) < (n : Int) := by omega
                            have g_n : decide ((4 : Int) < (n : Int)) = false := by simp; omega
                            have f_a : ¬ (6 : Int) < (a : Int) := by omega
                            have g_a : decide ((6 : Int) < (a : Int)) = false := by simp; omega
                            have f_m : (6 : Int) < (m : Int) := by omega
                            have g_m : decide ((6 : Int) < (m : Int)) = true := by simp; omega
                            clear TT
                            go_wp2_with fail
                            refine CC.mono ?_
                            rintro e u9 ⟨rfl, hb9⟩
                            clear CC
                            go_wp2_with fail
                            go_ret
                            exact ⟨rfl, hbf.out.trans (hb9.mono hbf.out.size)⟩
                          · obtain ⟨hv, he⟩ := TT.out.2.2.2 (by omega) (by omega) (by omega)
                            subst hv
                            subst he
                            have f_k : ¬ (3 : Int) < (k : Int) := by omega
                            have g_k : decide ((3 : Int) < (k : Int)) = false := by simp; omega
                            have f_K : ¬ (3 : Int) < (K : Int) := by omega
                            have g_K : decide ((3 : Int) < (K : Int)) = false := by simp; omega
                            have f_n : ¬ (4 : Int) < (n : Int) := by omega
                            have g_n : decide ((4 : Int) < (n : Int)) = false := by simp; omega
                            have f_a : ¬ (6 : Int) < (a : Int) := by omega
                            have g_a : decide ((6 : Int) < (a : Int)) = false := by simp; omega
                            have f_m : ¬ (6 : Int) < (m : Int) := by omega
                            have g_m : decide ((6 : Int) < (m : Int)) = false := by simp; omega
                            clear TT
                            go_wp2_with fail
                            refine CC.mono ?_
                            rintro e u9 ⟨rfl, hb9⟩
                            clear CC
                            go_wp2_with fail
                            go_ret
                            exact ⟨rfl, hbf.out.trans (hb9.mono hbf.out.size)⟩

theorem own : ownKnob Try.prog.godebug = none := by kernel_rfl
theorem laidOut : laidOutB Try.prog = true := by kernel_rfl

/-! THE ROW's STEP -/
set_option maxRecDepth 100000 in
theorem lifted (os : Os) (started : os.Started) (H : Type) (enc : TypeId × Value → H) :
    ReturnsInHanded {} Try.checked os 6 .any (Rows.taskLimitsSpec.pre6 enc Try.prog Try.f6 Rows.taskLimitsRow.domain false) (Rows.taskLimitsSpec.post enc Try.prog Try.f6 false true false false) := by
  refine returnsInHanded_of_change (C := Try.checked) own started (by kernel_rfl) Try.func6
    (ChangeSpec.witness6 (enc := enc) (C := Try.checked) false ⟨#[], #[.int .u8 0, .int .u8 0, .int .u8 0, .int .u8 0, .int .u8 0], []⟩ 8 (by kernel_rfl) (by kernel_rfl) (by kernel_rfl) (by kernel_rfl)) ?_
  intro W base args ds gs before hval0 hW hcnd _
  have hval : ∀ (j : Nat) t v, Try.f6.params[j]? = some t → args[j]? = some v → Value.okWide Try.prog W .any base t v := hval0
  have hW' := hW
  obtain ⟨p, q, hA0, hV, rfl, hfz, hnd⟩ := hW
  have hA : DataW.TrodAll enc Try.prog W 0 (fun _ => true) true Try.f6.params.toList args.toList ds p := hA0
  rw [Try.params6] at hA hval
  obtain ⟨v0, vs0, d0, ds0, p0, q0, hargs, rfl, rfl, h0, r0⟩ := trodAll_cons hA
  obtain ⟨v1, vs1, d1, ds1, p1, q1, rfl, rfl, rfl, h1, r1⟩ := trodAll_cons r0
  obtain ⟨v2, vs2, d2, ds2, p2, q2, rfl, rfl, rfl, h2, r2⟩ := trodAll_cons r1
  obtain ⟨v3, vs3, d3, ds3, p3, q3, rfl, rfl, rfl, h3, r3⟩ := trodAll_cons r2
  obtain ⟨v4, vs4, d4, ds4, p4, q4, rfl, rfl, rfl, h4, r4⟩ := trodAll_cons r3
  obtain ⟨rfl, rfl, rfl⟩ := trodAll_nil r4
  obtain rfl : args = #[v0, v1, v2, v3, v4] := by cases args; simp_all
  obtain ⟨rfl, rfl⟩ := trodVars_none hV
  obtain ⟨a0, rfl, rfl, rfl, w0⟩ := open_int Try.underlying5 (hval 0 5 v0 rfl rfl) h0
  obtain ⟨a1, rfl, rfl, rfl, w1⟩ := open_int Try.underlying5 (hval 1 5 v1 rfl rfl) h1
  obtain ⟨a2, rfl, rfl, rfl, w2⟩ := open_int Try.underlying5 (hval 2 5 v2 rfl rfl) h2
  obtain ⟨a3, rfl, rfl, rfl, w3⟩ := open_int Try.underlying5 (hval 3 5 v3 rfl rfl) h3
  obtain ⟨a4, rfl, rfl, rfl, w4⟩ := open_int Try.underlying5 (hval 4 5 v4 rfl rfl) h4
  clear hA0 hval0
  refine (walk a0 a1 a2 a3 a4 W w0 w1 w2 w3 w4).mono fun e W' ⟨he, bel⟩ => ?_
  subst he
  exact ⟨_, rfl, _, _, _, [], _, [], hW', trodAll_mk1 (shut_bool Try.underlying4 _), (trodAll_cons_mk (shut_int Try.underlying5 w0) (trodAll_cons_mk (shut_int Try.underlying5 w1) (trodAll_cons_mk (shut_int Try.underlying5 w2) (trodAll_cons_mk (shut_int Try.underlying5 w3) (trodAll_cons_mk (shut_int Try.underlying5 w4) trodAll_mk0))))), rfl, bel.frame _, fun h => by cases h⟩

theorem over : Rows.taskLimitsRow.holds Try.pinned (OpenSpec.ofChange Rows.taskLimitsSpec) :=
  OpenClaim.holds_of_wide 6 Try.f6 rfl rfl rfl rfl rfl rfl rfl ⟨rfl, rfl, rfl, rfl, rfl⟩ rfl rfl rfl rfl rfl (by kernel_rfl) Try.func6 (by kernel_rfl)
    (of_decide_eq_true (by kernel_rfl)) (by unfold Func.isWrapper; first | (rw [if_pos (by decide +kernel)]; kernel_rfl) | (rw [if_neg (by decide +kernel)]; exact ⟨rfl, rfl⟩))
    (fun os started H enc _ => lifted os started H enc)

/-- THE STATEMENT -/
theorem proved : Rows.TaskLimitsSaid := over
#print axioms proved
end Go.Proofs.Ytnfkebdbfflhdaa.taskLimits

