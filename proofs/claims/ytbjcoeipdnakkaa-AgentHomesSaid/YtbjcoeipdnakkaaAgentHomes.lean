/- AgentHomes: requests at other clusters' agents play no part; lower ones at one's own by the longest alone. No condition. -/
import Derived.Test.YtbjcoeipdnakkaaKnown14
import Derived.Test.YtbjcoeipdnakkaaOk3
namespace Go.Proofs.Ytbjcoeipdnakkaa
def HomesS (S : SetR) (x y z v : Int) : Prop := S.proto = 2 ∧ S.cores = [1, 1] ∧ S.homes = [0, 1] ∧ ∃ (a1 a2 a3 : Option Addr) (c1 c2 c3 : Nat), S.tasks = [⟨⟨#[97]⟩, 1000, 1000, 1, 0, a1, c1, [⟨3, x + 1, 0⟩]⟩, ⟨⟨#[98]⟩, 1000, 1000, 2, 0, a2, c2, [⟨3, y + 1, 0⟩, ⟨3, z + 1, 0⟩]⟩, ⟨⟨#[99]⟩, 1000, 1000, 3, 0, a3, c3, [⟨3, v + 1, 1⟩]⟩]
theorem homes_ok {S : SetR} {x y z v : Int} (h : HomesS S x y z v) (hx : 0 ≤ x ∧ x < 50) (hy : 0 ≤ y ∧ y < 50) (hz : 0 ≤ z ∧ z < 50) (hv : 0 ≤ v ∧ v < 50) : okS S = true := by
  obtain ⟨p1, p2, p3, a1, a2, a3, c1, c2, c3, p4⟩ := h
  refine okS_all (by rw [p1]; decide) (by rw [p2]; decide) (by rw [p2]; decide) (by rw [p3]; decide) (by rw [p3, p2]; decide) (by rw [p4]; simp) (fun k hk => ?_) (fun i k hi hk => ?_)
  · rw [p4] at hk ⊢
    rw [p2, p3]
    match k, hk with
    | 0, _ => exact ⟨formB_mk nameA (by simp) (by simp) (by simp), by simp, partsB_mk (by simp) (fun p hp => by
        simp at hp; subst hp; exact partB_lock (by omega) (by simp))⟩
    | 1, _ => exact ⟨formB_mk nameBb (by simp) (by simp) (by simp), by simp, partsB_mk (by simp) (fun p hp => by
        simp at hp; rcases hp with rfl | rfl
        · exact partB_lock (by omega) (by simp)
        · exact partB_lock (by omega) (by simp))⟩
    | 2, _ => exact ⟨formB_mk nameC (by simp) (by simp) (by simp), by simp, partsB_mk (by simp) (fun p hp => by
        simp at hp; subst hp; exact partB_lock (by omega) (by simp))⟩
  · rw [p4] at hk ⊢
    have h3 : (i = 0 ∧ k = 1) ∨ (i = 0 ∧ k = 2) ∨ (i = 1 ∧ k = 2) := by simp at hk; omega
    rcases h3 with ⟨rfl, rfl⟩ | ⟨rfl, rfl⟩ | ⟨rfl, rfl⟩
    · exact ⟨namesAB, rfl⟩
    · exact ⟨namesAC, rfl⟩
    · exact ⟨namesBC, rfl⟩
theorem homes_vals {S : SetR} {x y z v : Int} (h : HomesS S x y z v) (hx : 0 ≤ x ∧ x < 50) (hy : 0 ≤ y ∧ y < 50) (hz : 0 ≤ z ∧ z < 50) (hv : 0 ≤ v ∧ v < 50) :
    (agentV S [100, 200, 100] 0 0 = x + 1 + max (y + 1) (z + 1) ∧ agentK S [100, 200, 100] 0 0 = true) ∧ (agentV S [100, 200, 100] 1 0 = y + 1 + (x + 1) ∧ agentK S [100, 200, 100] 1 0 = true) ∧
    (agentV S [100, 200, 100] 2 0 = v + 1 ∧ agentK S [100, 200, 100] 2 0 = true) ∧ lowerV S 0 1 = v + 1 ∧ higherV S [100, 200, 100] 2 0 10 = x + 1 + (y + 1) + (z + 1) ∧ higherV S [100, 200, 100] 0 0 10 = 0 := by
  have hok := homes_ok h hx hy hz hv
  obtain ⟨p1, p2, p3, a1, a2, a3, c1, c2, c3, p4⟩ := h
  have ht : ∀ k : Nat, k < 3 → thereB S k = true := fun k hk => thereB_true.2 ⟨hok, by omega, by rw [p4]; simp; omega⟩
  have hl : ([100, 200, 100] : List Int).length = S.tasks.length := by rw [p4]; rfl
  have ht0 : thereB S 0 = true := ht 0 (by decide)
  have ht1 : thereB S 1 = true := ht 1 (by decide)
  have ht2 : thereB S 2 = true := ht 2 (by decide)
  have sr : ∀ (i : Nat) (c : Int), i < 3 → srv S i c = (S.tasks.getD i default).parts.filter (srvB [0, 1] c) := fun i c hi => by rw [srv_in hok (by rw [p4]; simpa using hi), p3]
  have sr0 : ∀ c, srv S 0 c = [PartM.mk 3 (x + 1) 0].filter (srvB [0, 1] c) := fun c => by have := sr 0 c (by decide); rw [p4] at this; exact this
  have sr1 : ∀ c, srv S 1 c = [PartM.mk 3 (y + 1) 0, ⟨3, z + 1, 0⟩].filter (srvB [0, 1] c) := fun c => by have := sr 1 c (by decide); rw [p4] at this; exact this
  have sr2 : ∀ c, srv S 2 c = [PartM.mk 3 (v + 1) 1].filter (srvB [0, 1] c) := fun c => by have := sr 2 c (by decide); rw [p4] at this; exact this
  have A0 : atV S 0 0 = x + 1 := by unfold atV; rw [sr0]; simp [List.filter, srvB, sumK]
  have A1 : atV S 0 1 = 0 := by unfold atV; rw [sr0]; simp [List.filter, srvB, sumK]
  have B0 : atV S 1 0 = y + 1 + (z + 1) := by unfold atV; rw [sr1]; simp [List.filter, srvB, sumK]
  have B1 : atV S 1 1 = 0 := by unfold atV; rw [sr1]; simp [List.filter, srvB, sumK]
  have mB : mostV S 1 0 = max (y + 1) (z + 1) := by unfold mostV; rw [sr1]; simp [List.filter, srvB, maxL]; omega
  have mB1 : mostV S 1 1 = 0 := by unfold mostV; rw [sr1]; simp [List.filter, srvB, maxL]
  have mC : mostV S 2 0 = 0 := by unfold mostV; rw [sr2]; simp [List.filter, srvB, maxL]
  have mC1 : mostV S 2 1 = v + 1 := by unfold mostV; rw [sr2]; simp [List.filter, srvB, maxL]; omega
  have q0 : partAt S 0 0 = ⟨3, x + 1, 0⟩ := by unfold partAt; rw [p4]; rfl
  have q1 : partAt S 1 0 = ⟨3, y + 1, 0⟩ := by unfold partAt; rw [p4]; rfl
  have q2 : partAt S 2 0 = ⟨3, v + 1, 1⟩ := by unfold partAt; rw [p4]; rfl
  have h0 : homeV S 0 0 = 0 := by unfold homeV; rw [q0, p3]; rfl
  have h1 : homeV S 1 0 = 0 := by unfold homeV; rw [q1, p3]; rfl
  have h2 : homeV S 2 0 = 1 := by unfold homeV; rw [q2, p3]; rfl
  have P0 : prioOf S 0 = 1 := by unfold prioOf; rw [p4]; rfl
  have P1 : prioOf S 1 = 2 := by unfold prioOf; rw [p4]; rfl
  have P2 : prioOf S 2 = 3 := by unfold prioOf; rw [p4]; rfl
  have L00 : lowerV S 0 0 = max (y + 1) (z + 1) := by unfold lowerV; rw [if_pos ht0, P0, p4]; simp [lowL, mB, mC]; omega
  have L01 : lowerV S 0 1 = v + 1 := by unfold lowerV; rw [if_pos ht0, P0, p4]; simp [lowL, mB1, mC1]; omega
  have L10 : lowerV S 1 0 = 0 := by unfold lowerV; rw [if_pos ht1, P1, p4]; simp [lowL, mC]
  have L21 : lowerV S 2 1 = 0 := by unfold lowerV; rw [if_pos ht2, P2, p4]; simp [lowL]
  have R0 : ∀ c, rivL S [100, 200, 100] 1 c 0 S.tasks = [] := fun c => by rw [p4]; simp [rivL]
  have R1 : rivL S [100, 200, 100] 2 0 0 S.tasks = [⟨100, 1000, x + 1⟩] := by rw [p4]; simp [rivL, A0]
  have R2 : rivL S [100, 200, 100] 3 0 0 S.tasks = [⟨100, 1000, x + 1⟩, ⟨200, 1000, y + 1 + (z + 1)⟩] := by rw [p4]; simp [rivL, A0, B0]
  have R21 : rivL S [100, 200, 100] 3 1 0 S.tasks = [⟨100, 1000, 0⟩, ⟨200, 1000, 0⟩] := by rw [p4]; simp [rivL, A1, B1]
  have jb : ∀ w b : Int, 1 ≤ w → 0 ≤ b → w + b ≤ 1000 → jobV w b 1000 = 1 := fun w b h1 h2 h3 => by
    rw [jobV_in (by omega)]; omega
  have e0 := agent_yes (s := S) (bs := [100, 200, 100]) (of := 0) (part := 0) ht0 hl (by decide) (by rw [p4]; show (0 : Int) < 1; decide) (by rw [q0])
  have e1 := agent_yes (s := S) (bs := [100, 200, 100]) (of := 1) (part := 0) ht1 hl (by decide) (by rw [p4]; show (0 : Int) < 2; decide) (by rw [q1])
  have e2 := agent_yes (s := S) (bs := [100, 200, 100]) (of := 2) (part := 0) ht2 hl (by decide) (by rw [p4]; show (0 : Int) < 1; decide) (by rw [q2])
  have f0 : leastV S 0 0 = x + 1 + max (y + 1) (z + 1) := by unfold leastV; rw [q0, h0, L00]
  have f1 : leastV S 1 0 = y + 1 := by unfold leastV; rw [q1, h1, L10]; simp
  have f2 : leastV S 2 0 = v + 1 := by unfold leastV; rw [q2, h2, L21]; simp
  rw [f0, P0, h0, R0] at e0
  rw [f1, P1, h1, R1] at e1
  rw [f2, P2, h2, R21] at e2
  have x0 : fixO (winF (x + 1 + max (y + 1) (z + 1)) []) (x + 1 + max (y + 1) (z + 1)) = some (x + 1 + max (y + 1) (z + 1)) := fix_now (by omega) (by simp [winF, workS, capV]; omega)
  have w1 : ∀ w : Int, 1 ≤ w → w ≤ 900 → winF (y + 1) [⟨100, 1000, x + 1⟩] w = y + 1 + (x + 1) := fun w h1 h2 => by
    simp only [winF, workS, capV, workV]; rw [jb w 100 h1 (by decide) (by omega)]; omega
  have x1 : fixO (winF (y + 1) [⟨100, 1000, x + 1⟩]) (y + 1) = some (y + 1 + (x + 1)) := fixO_at (by omega) (by omega) (w1 _ (by omega) (by omega)) (fun u h1 h2 => by rw [w1 u (by omega) (by omega)]; omega)
  have x2 : fixO (winF (v + 1) [⟨100, 1000, 0⟩, ⟨200, 1000, 0⟩]) (v + 1) = some (v + 1) := fix_now (by omega) (by simp [winF, workS, capV, workV]; omega)
  unfold setV setK at e0 e1 e2
  rw [x0] at e0
  rw [x1] at e1
  rw [x2] at e2
  refine ⟨e0, e1, e2, L01, ?_, ?_⟩
  · unfold higherV
    rw [if_pos (show higherB S [100, 200, 100] 2 = true from higherB_true.2 ⟨ht2, hl⟩), P2, R2]
    simp only [workS, capV, workV]
    rw [jb 10 100 (by decide) (by decide) (by decide), jb 10 200 (by decide) (by decide) (by decide)]
    omega
  · unfold higherV
    rw [if_pos (show higherB S [100, 200, 100] 0 = true from higherB_true.2 ⟨ht0, hl⟩), P0, R0]
    rfl
end Go.Proofs.Ytbjcoeipdnakkaa
set_option maxHeartbeats 4000000
set_option maxRecDepth 100000
namespace Go.Proofs.Ytbjcoeipdnakkaa.agentHomes
open Go.ChangeShapes Go.WideShapes Go.ChangeAt Go.RowKit
open Go.ChangeMaps (open_string shut_string)
set_option linter.unusedVariables false

/-- THE WALK: the Go text returns true, and writes nothing that was there. -/
theorem walk (a0 : Int) (a1 : Int) (a2 : Int) (a3 : Int) (w : World) (w0 : (Lit.int .u8 a0).wf = true) (w1 : (Lit.int .u8 a1).wf = true) (w2 : (Lit.int .u8 a2).wf = true) (w3 : (Lit.int .u8 a3).wf = true) :
    Calls Try.prog 8 #[.int .u8 a0, .int .u8 a1, .int .u8 a2, .int .u8 a3] w fun e w' => e = .returned (.bool true) ∧ Below w.heap.size w w' := by
  obtain ⟨x, x0, x1, hx⟩ := mod_u8 50 w0 (by decide)
  obtain ⟨y, y0, y1, hy⟩ := mod_u8 50 w1 (by decide)
  obtain ⟨z, z0, z1, hz⟩ := mod_u8 50 w2 (by decide)
  obtain ⟨v, v0, v1, hv⟩ := mod_u8 50 w3 (by decide)
  have W : ∀ k l r : Int, 0 ≤ k ∧ k < 4 → 0 ≤ l ∧ l < 51 → 0 ≤ r ∧ r < 4 → PartM.wf ⟨k, l, r⟩ := fun k l r h1 h2 h3 => ⟨by unfold I64; dsimp only; omega, by unfold I64; dsimp only; omega, by unfold I64; dsimp only; omega⟩
  have HW := hidp W
  obtain ⟨mm, hmm⟩ : ∃ mm, (if y < z then z + 1 else y + 1) = mm := ⟨_, rfl⟩
  have mm0 : 1 ≤ mm := by rw [← hmm]; split <;> omega
  have mm1 : mm ≤ 50 := by rw [← hmm]; split <;> omega
  have Hmm : Hid (max (y + 1) (z + 1) = mm) := hidp (by rw [← hmm]; split <;> omega)
  clear W
  go_enter Try.func8, Try.ntmps8
  have hb := Below.refl w.heap.size w
  go_wp2_with fail
  refine (known14_any _).mono ?_
  rintro e u1 ⟨rfl, hb2⟩
  replace hb := hb.trans (hb2.mono hb.size)
  clear hb2
  have B0 := Bk.at_ (w := u1) (g := u1.heap.size) (t := 3) (cs := ([1, 1].map (Value.int .i64)).toArray) (by first | rfl | simp) rfl
  replace hb := hb.alloc hb.size (.cells ([1, 1].map (Value.int .i64)).toArray 3)
  replace B0 := B0.alloc (.cells ([0, 1].map (Value.int .i64)).toArray 3)
  have B1 := Bk.at_ (w := (u1.alloc (.cells ([1, 1].map (Value.int .i64)).toArray 3))) (g := u1.heap.size + 1) (t := 3) (cs := ([0, 1].map (Value.int .i64)).toArray) (by first | rfl | simp) rfl
  replace hb := hb.alloc hb.size (.cells ([0, 1].map (Value.int .i64)).toArray 3)
  replace B0 := B0.alloc (.cells (ptc [⟨3, x + 1, 0⟩]).toArray 29)
  replace B1 := B1.alloc (.cells (ptc [⟨3, x + 1, 0⟩]).toArray 29)
  have B2 := Bk.at_ (w := ((u1.alloc (.cells ([1, 1].map (Value.int .i64)).toArray 3)).alloc (.cells ([0, 1].map (Value.int .i64)).toArray 3))) (g := u1.heap.size + 1 + 1) (t := 29) (cs := (ptc [⟨3, x + 1, 0⟩]).toArray) (by first | rfl | simp) rfl
  replace hb := hb.alloc hb.size (.cells (ptc [⟨3, x + 1, 0⟩]).toArray 29)
  replace B0 := B0.alloc (.cells (ptc [⟨3, y + 1, 0⟩, ⟨3, z + 1, 0⟩]).toArray 29)
  replace B1 := B1.alloc (.cells (ptc [⟨3, y + 1, 0⟩, ⟨3, z + 1, 0⟩]).toArray 29)
  replace B2 := B2.alloc (.cells (ptc [⟨3, y + 1, 0⟩, ⟨3, z + 1, 0⟩]).toArray 29)
  have B3 := Bk.at_ (w := (((u1.alloc (.cells ([1, 1].map (Value.int .i64)).toArray 3)).alloc (.cells ([0, 1].map (Value.int .i64)).toArray 3)).alloc (.cells (ptc [⟨3, x + 1, 0⟩]).toArray 29))) (g := u1.heap.size + 1 + 1 + 1) (t := 29) (cs := (ptc [⟨3, y + 1, 0⟩, ⟨3, z + 1, 0⟩]).toArray) (by first | rfl | simp) rfl
  replace hb := hb.alloc hb.size (.cells (ptc [⟨3, y + 1, 0⟩, ⟨3, z + 1, 0⟩]).toArray 29)
  replace B0 := B0.alloc (.cells (ptc [⟨3, v + 1, 1⟩]).toArray 29)
  replace B1 := B1.alloc (.cells (ptc [⟨3, v + 1, 1⟩]).toArray 29)
  replace B2 := B2.alloc (.cells (ptc [⟨3, v + 1, 1⟩]).toArray 29)
  replace B3 := B3.alloc (.cells (ptc [⟨3, v + 1, 1⟩]).toArray 29)
  have B4 := Bk.at_ (w := ((((u1.alloc (.cells ([1, 1].map (Value.int .i64)).toArray 3)).alloc (.cells ([0, 1].map (Value.int .i64)).toArray 3)).alloc (.cells (ptc [⟨3, x + 1, 0⟩]).toArray 29)).alloc (.cells (ptc [⟨3, y + 1, 0⟩, ⟨3, z + 1, 0⟩]).toArray 29))) (g := u1.heap.size + 1 + 1 + 1 + 1) (t := 29) (cs := (ptc [⟨3, v + 1, 1⟩]).toArray) (by first | rfl | simp) rfl
  replace hb := hb.alloc hb.size (.cells (ptc [⟨3, v + 1, 1⟩]).toArray 29)
  replace B0 := B0.alloc (.cells (ttc [⟨⟨#[97]⟩, 1000, 1000, 1, 0, some ⟨u1.heap.size + 1 + 1, 0, none⟩, 1, [⟨3, x + 1, 0⟩]⟩, ⟨⟨#[98]⟩, 1000, 1000, 2, 0, some ⟨u1.heap.size + 1 + 1 + 1, 0, none⟩, 2, [⟨3, y + 1, 0⟩, ⟨3, z + 1, 0⟩]⟩, ⟨⟨#[99]⟩, 1000, 1000, 3, 0, some ⟨u1.heap.size + 1 + 1 + 1 + 1, 0, none⟩, 1, [⟨3, v + 1, 1⟩]⟩]).toArray 32)
  replace B1 := B1.alloc (.cells (ttc [⟨⟨#[97]⟩, 1000, 1000, 1, 0, some ⟨u1.heap.size + 1 + 1, 0, none⟩, 1, [⟨3, x + 1, 0⟩]⟩, ⟨⟨#[98]⟩, 1000, 1000, 2, 0, some ⟨u1.heap.size + 1 + 1 + 1, 0, none⟩, 2, [⟨3, y + 1, 0⟩, ⟨3, z + 1, 0⟩]⟩, ⟨⟨#[99]⟩, 1000, 1000, 3, 0, some ⟨u1.heap.size + 1 + 1 + 1 + 1, 0, none⟩, 1, [⟨3, v + 1, 1⟩]⟩]).toArray 32)
  replace B2 := B2.alloc (.cells (ttc [⟨⟨#[97]⟩, 1000, 1000, 1, 0, some ⟨u1.heap.size + 1 + 1, 0, none⟩, 1, [⟨3, x + 1, 0⟩]⟩, ⟨⟨#[98]⟩, 1000, 1000, 2, 0, some ⟨u1.heap.size + 1 + 1 + 1, 0, none⟩, 2, [⟨3, y + 1, 0⟩, ⟨3, z + 1, 0⟩]⟩, ⟨⟨#[99]⟩, 1000, 1000, 3, 0, some ⟨u1.heap.size + 1 + 1 + 1 + 1, 0, none⟩, 1, [⟨3, v + 1, 1⟩]⟩]).toArray 32)
  replace B3 := B3.alloc (.cells (ttc [⟨⟨#[97]⟩, 1000, 1000, 1, 0, some ⟨u1.heap.size + 1 + 1, 0, none⟩, 1, [⟨3, x + 1, 0⟩]⟩, ⟨⟨#[98]⟩, 1000, 1000, 2, 0, some ⟨u1.heap.size + 1 + 1 + 1, 0, none⟩, 2, [⟨3, y + 1, 0⟩, ⟨3, z + 1, 0⟩]⟩, ⟨⟨#[99]⟩, 1000, 1000, 3, 0, some ⟨u1.heap.size + 1 + 1 + 1 + 1, 0, none⟩, 1, [⟨3, v + 1, 1⟩]⟩]).toArray 32)
  replace B4 := B4.alloc (.cells (ttc [⟨⟨#[97]⟩, 1000, 1000, 1, 0, some ⟨u1.heap.size + 1 + 1, 0, none⟩, 1, [⟨3, x + 1, 0⟩]⟩, ⟨⟨#[98]⟩, 1000, 1000, 2, 0, some ⟨u1.heap.size + 1 + 1 + 1, 0, none⟩, 2, [⟨3, y + 1, 0⟩, ⟨3, z + 1, 0⟩]⟩, ⟨⟨#[99]⟩, 1000, 1000, 3, 0, some ⟨u1.heap.size + 1 + 1 + 1 + 1, 0, none⟩, 1, [⟨3, v + 1, 1⟩]⟩]).toArray 32)
  have B5 := Bk.at_ (w := (((((u1.alloc (.cells ([1, 1].map (Value.int .i64)).toArray 3)).alloc (.cells ([0, 1].map (Value.int .i64)).toArray 3)).alloc (.cells (ptc [⟨3, x + 1, 0⟩]).toArray 29)).alloc (.cells (ptc [⟨3, y + 1, 0⟩, ⟨3, z + 1, 0⟩]).toArray 29)).alloc (.cells (ptc [⟨3, v + 1, 1⟩]).toArray 29))) (g := u1.heap.size + 1 + 1 + 1 + 1 + 1) (t := 32) (cs := (ttc [⟨⟨#[97]⟩, 1000, 1000, 1, 0, some ⟨u1.heap.size + 1 + 1, 0, none⟩, 1, [⟨3, x + 1, 0⟩]⟩, ⟨⟨#[98]⟩, 1000, 1000, 2, 0, some ⟨u1.heap.size + 1 + 1 + 1, 0, none⟩, 2, [⟨3, y + 1, 0⟩, ⟨3, z + 1, 0⟩]⟩, ⟨⟨#[99]⟩, 1000, 1000, 3, 0, some ⟨u1.heap.size + 1 + 1 + 1 + 1, 0, none⟩, 1, [⟨3, v + 1, 1⟩]⟩]).toArray) (by first | rfl | simp) rfl
  replace hb := hb.alloc hb.size (.cells (ttc [⟨⟨#[97]⟩, 1000, 1000, 1, 0, some ⟨u1.heap.size + 1 + 1, 0, none⟩, 1, [⟨3, x + 1, 0⟩]⟩, ⟨⟨#[98]⟩, 1000, 1000, 2, 0, some ⟨u1.heap.size + 1 + 1 + 1, 0, none⟩, 2, [⟨3, y + 1, 0⟩, ⟨3, z + 1, 0⟩]⟩, ⟨⟨#[99]⟩, 1000, 1000, 3, 0, some ⟨u1.heap.size + 1 + 1 + 1 + 1, 0, none⟩, 1, [⟨3, v + 1, 1⟩]⟩]).toArray 32)
  replace B0 := B0.alloc (.cells #[.int .i64 2, .slice (some ⟨u1.heap.size, 0, none⟩) 2 2, .slice (some ⟨u1.heap.size + 1, 0, none⟩) 2 2, .slice (some ⟨u1.heap.size + 1 + 1 + 1 + 1 + 1, 0, none⟩) 3 3] 26)
  replace B1 := B1.alloc (.cells #[.int .i64 2, .slice (some ⟨u1.heap.size, 0, none⟩) 2 2, .slice (some ⟨u1.heap.size + 1, 0, none⟩) 2 2, .slice (some ⟨u1.heap.size + 1 + 1 + 1 + 1 + 1, 0, none⟩) 3 3] 26)
  replace B2 := B2.alloc (.cells #[.int .i64 2, .slice (some ⟨u1.heap.size, 0, none⟩) 2 2, .slice (some ⟨u1.heap.size + 1, 0, none⟩) 2 2, .slice (some ⟨u1.heap.size + 1 + 1 + 1 + 1 + 1, 0, none⟩) 3 3] 26)
  replace B3 := B3.alloc (.cells #[.int .i64 2, .slice (some ⟨u1.heap.size, 0, none⟩) 2 2, .slice (some ⟨u1.heap.size + 1, 0, none⟩) 2 2, .slice (some ⟨u1.heap.size + 1 + 1 + 1 + 1 + 1, 0, none⟩) 3 3] 26)
  replace B4 := B4.alloc (.cells #[.int .i64 2, .slice (some ⟨u1.heap.size, 0, none⟩) 2 2, .slice (some ⟨u1.heap.size + 1, 0, none⟩) 2 2, .slice (some ⟨u1.heap.size + 1 + 1 + 1 + 1 + 1, 0, none⟩) 3 3] 26)
  replace B5 := B5.alloc (.cells #[.int .i64 2, .slice (some ⟨u1.heap.size, 0, none⟩) 2 2, .slice (some ⟨u1.heap.size + 1, 0, none⟩) 2 2, .slice (some ⟨u1.heap.size + 1 + 1 + 1 + 1 + 1, 0, none⟩) 3 3] 26)
  have B6 := Bk.at_ (w := ((((((u1.alloc (.cells ([1, 1].map (Value.int .i64)).toArray 3)).alloc (.cells ([0, 1].map (Value.int .i64)).toArray 3)).alloc (.cells (ptc [⟨3, x + 1, 0⟩]).toArray 29)).alloc (.cells (ptc [⟨3, y + 1, 0⟩, ⟨3, z + 1, 0⟩]).toArray 29)).alloc (.cells (ptc [⟨3, v + 1, 1⟩]).toArray 29)).alloc (.cells (ttc [⟨⟨#[97]⟩, 1000, 1000, 1, 0, some ⟨u1.heap.size + 1 + 1, 0, none⟩, 1, [⟨3, x + 1, 0⟩]⟩, ⟨⟨#[98]⟩, 1000, 1000, 2, 0, some ⟨u1.heap.size + 1 + 1 + 1, 0, none⟩, 2, [⟨3, y + 1, 0⟩, ⟨3, z + 1, 0⟩]⟩, ⟨⟨#[99]⟩, 1000, 1000, 3, 0, some ⟨u1.heap.size + 1 + 1 + 1 + 1, 0, none⟩, 1, [⟨3, v + 1, 1⟩]⟩]).toArray 32))) (g := u1.heap.size + 1 + 1 + 1 + 1 + 1 + 1) (t := 26) (cs := #[.int .i64 2, .slice (some ⟨u1.heap.size, 0, none⟩) 2 2, .slice (some ⟨u1.heap.size + 1, 0, none⟩) 2 2, .slice (some ⟨u1.heap.size + 1 + 1 + 1 + 1 + 1, 0, none⟩) 3 3]) (by first | rfl | simp) rfl
  replace hb := hb.alloc hb.size (.cells #[.int .i64 2, .slice (some ⟨u1.heap.size, 0, none⟩) 2 2, .slice (some ⟨u1.heap.size + 1, 0, none⟩) 2 2, .slice (some ⟨u1.heap.size + 1 + 1 + 1 + 1 + 1, 0, none⟩) 3 3] 26)
  replace B0 := B0.alloc (.cells ([100, 200, 100].map (Value.int .i64)).toArray 3)
  replace B1 := B1.alloc (.cells ([100, 200, 100].map (Value.int .i64)).toArray 3)
  replace B2 := B2.alloc (.cells ([100, 200, 100].map (Value.int .i64)).toArray 3)
  replace B3 := B3.alloc (.cells ([100, 200, 100].map (Value.int .i64)).toArray 3)
  replace B4 := B4.alloc (.cells ([100, 200, 100].map (Value.int .i64)).toArray 3)
  replace B5 := B5.alloc (.cells ([100, 200, 100].map (Value.int .i64)).toArray 3)
  replace B6 := B6.alloc (.cells ([100, 200, 100].map (Value.int .i64)).toArray 3)
  have B7 := Bk.at_ (w := (((((((u1.alloc (.cells ([1, 1].map (Value.int .i64)).toArray 3)).alloc (.cells ([0, 1].map (Value.int .i64)).toArray 3)).alloc (.cells (ptc [⟨3, x + 1, 0⟩]).toArray 29)).alloc (.cells (ptc [⟨3, y + 1, 0⟩, ⟨3, z + 1, 0⟩]).toArray 29)).alloc (.cells (ptc [⟨3, v + 1, 1⟩]).toArray 29)).alloc (.cells (ttc [⟨⟨#[97]⟩, 1000, 1000, 1, 0, some ⟨u1.heap.size + 1 + 1, 0, none⟩, 1, [⟨3, x + 1, 0⟩]⟩, ⟨⟨#[98]⟩, 1000, 1000, 2, 0, some ⟨u1.heap.size + 1 + 1 + 1, 0, none⟩, 2, [⟨3, y + 1, 0⟩, ⟨3, z + 1, 0⟩]⟩, ⟨⟨#[99]⟩, 1000, 1000, 3, 0, some ⟨u1.heap.size + 1 + 1 + 1 + 1, 0, none⟩, 1, [⟨3, v + 1, 1⟩]⟩]).toArray 32)).alloc (.cells #[.int .i64 2, .slice (some ⟨u1.heap.size, 0, none⟩) 2 2, .slice (some ⟨u1.heap.size + 1, 0, none⟩) 2 2, .slice (some ⟨u1.heap.size + 1 + 1 + 1 + 1 + 1, 0, none⟩) 3 3] 26))) (g := u1.heap.size + 1 + 1 + 1 + 1 + 1 + 1 + 1) (t := 3) (cs := ([100, 200, 100].map (Value.int .i64)).toArray) (by first | rfl | simp) rfl
  replace hb := hb.alloc hb.size (.cells ([100, 200, 100].map (Value.int .i64)).toArray 3)
  have hs := set_bks (proto := 2) B0 B1 B5 (fun t ht => by
    simp at ht
    rcases ht with rfl | rfl | rfl
    · exact task_bk B2 (by decide) (by decide) (by decide) (by decide) (by decide) (by show 1 ≤ maxLen; decide) (fun p hp => by simp at hp; subst hp; exact HW.out _ _ _ (by omega) (by omega) (by omega))
    · exact task_bk B3 (by decide) (by decide) (by decide) (by decide) (by decide) (by show 2 ≤ maxLen; decide) (fun p hp => by simp at hp; rcases hp with rfl | rfl <;> exact HW.out _ _ _ (by omega) (by omega) (by omega))
    · exact task_bk B4 (by decide) (by decide) (by decide) (by decide) (by decide) (by show 1 ≤ maxLen; decide) (fun p hp => by simp at hp; subst hp; exact HW.out _ _ _ (by omega) (by omega) (by omega))) (by decide) (by decide) (by decide) (by decide) (by decide) (by show 3 ≤ maxLen; decide)
  have hB : IntsOk _ _ 3 [100, 200, 100] := ⟨⟨(fun e => by cases e), by decide, by decide⟩, ints_lit B7, by decide⟩
  obtain ⟨S, hS, hSv⟩ : ∃ S : SetR, S = ⟨2, some ⟨u1.heap.size, 0, none⟩, 2, [1, 1], some ⟨u1.heap.size + 1, 0, none⟩, 2, [0, 1], some ⟨u1.heap.size + 1 + 1 + 1 + 1 + 1, 0, none⟩, 3, [⟨⟨#[97]⟩, 1000, 1000, 1, 0, some ⟨u1.heap.size + 1 + 1, 0, none⟩, 1, [⟨3, x + 1, 0⟩]⟩, ⟨⟨#[98]⟩, 1000, 1000, 2, 0, some ⟨u1.heap.size + 1 + 1 + 1, 0, none⟩, 2, [⟨3, y + 1, 0⟩, ⟨3, z + 1, 0⟩]⟩, ⟨⟨#[99]⟩, 1000, 1000, 3, 0, some ⟨u1.heap.size + 1 + 1 + 1 + 1, 0, none⟩, 1, [⟨3, v + 1, 1⟩]⟩]⟩ ∧ HomesS S x y z v := ⟨_, rfl, rfl, rfl, rfl, _, _, _, _, _, _, rfl⟩
  obtain ⟨⟨k1, k2⟩, ⟨k3, k4⟩, ⟨k5, k6⟩, k7, k8, k9⟩ := homes_vals hSv ⟨x0, x1⟩ ⟨y0, y1⟩ ⟨z0, z1⟩ ⟨v0, v1⟩
  rw [Hmm.out] at k1
  have K1 := hidp k1
  have K2 := hidp k2
  have K3 := hidp k3
  have K4 := hidp k4
  have K5 := hidp k5
  have K6 := hidp k6
  have K7 := hidp k7
  have K8 := hidp k8
  have K9 := hidp k9
  clear k1 k2 k3 k4 k5 k6 k7 k8 k9 hSv B0 B1 B2 B3 B4 B5
  have sc := Z4 B6
  have hs2 := setok_eq hs hS
  have HS := hidp hS
  clear hS hs
  go_wp2_with fail
  have CC := apart_any S [100, 200, 100] _ 3 0 0 _ hs2 hB
  rw [K1.out, K2.out, HS.out] at CC
  refine CC.mono ?_
  rintro e u2 ⟨rfl, hb2⟩
  clear CC
  replace hb := hb.trans (hb2.mono hb.size)
  replace sc := And.intro (Keeps.of_below hb2 _ _ sc.1) (And.intro (Keeps.of_below hb2 _ _ sc.2.1) (And.intro (Keeps.of_below hb2 _ _ sc.2.2.1) (Keeps.of_below hb2 _ _ sc.2.2.2)))
  replace hs2 := hs2.keep (Keeps.of_below hb2)
  replace hB := hB.keep (Keeps.of_below hb2)
  clear hb2
  obtain ⟨sc_0, sc_1, sc_2, sc_3⟩ := id sc
  go_wp2_with fail
  have CC := apart_any S [100, 200, 100] _ 3 1 0 _ hs2 hB
  rw [K3.out, K4.out, HS.out] at CC
  refine CC.mono ?_
  rintro e u3 ⟨rfl, hb2⟩
  clear CC
  replace hb := hb.trans (hb2.mono hb.size)
  replace sc := And.intro (Keeps.of_below hb2 _ _ sc.1) (And.intro (Keeps.of_below hb2 _ _ sc.2.1) (And.intro (Keeps.of_below hb2 _ _ sc.2.2.1) (Keeps.of_below hb2 _ _ sc.2.2.2)))
  replace hs2 := hs2.keep (Keeps.of_below hb2)
  replace hB := hB.keep (Keeps.of_below hb2)
  clear hb2
  clear sc_0 sc_1 sc_2 sc_3
  obtain ⟨sc_0, sc_1, sc_2, sc_3⟩ := id sc
  go_wp2_with fail
  have CC := apart_any S [100, 200, 100] _ 3 2 0 _ hs2 hB
  rw [K5.out, K6.out, HS.out] at CC
  refine CC.mono ?_
  rintro e u4 ⟨rfl, hb2⟩
  clear CC
  replace hb := hb.trans (hb2.mono hb.size)
  replace sc := And.intro (Keeps.of_below hb2 _ _ sc.1) (And.intro (Keeps.of_below hb2 _ _ sc.2.1) (And.intro (Keeps.of_below hb2 _ _ sc.2.2.1) (Keeps.of_below hb2 _ _ sc.2.2.2)))
  replace hs2 := hs2.keep (Keeps.of_below hb2)
  replace hB := hB.keep (Keeps.of_below hb2)
  clear hb2
  clear sc_0 sc_1 sc_2 sc_3
  obtain ⟨sc_0, sc_1, sc_2, sc_3⟩ := id sc
  go_wp2_with fail
  have CC := lower_any S 0 1 _ hs2
  rw [K7.out, HS.out] at CC
  refine CC.mono ?_
  rintro e u5 ⟨rfl, hb2⟩
  clear CC
  replace hb := hb.trans (hb2.mono hb.size)
  replace sc := And.intro (Keeps.of_below hb2 _ _ sc.1) (And.intro (Keeps.of_below hb2 _ _ sc.2.1) (And.intro (Keeps.of_below hb2 _ _ sc.2.2.1) (Keeps.of_below hb2 _ _ sc.2.2.2)))
  replace hs2 := hs2.keep (Keeps.of_below hb2)
  replace hB := hB.keep (Keeps.of_below hb2)
  clear hb2
  clear sc_0 sc_1 sc_2 sc_3
  obtain ⟨sc_0, sc_1, sc_2, sc_3⟩ := id sc
  go_wp2_with fail
  have CC := higher_any S [100, 200, 100] _ 3 2 0 10 _ hs2 hB (by decide)
  rw [K8.out, HS.out] at CC
  refine CC.mono ?_
  rintro e u6 ⟨rfl, hb2⟩
  clear CC
  replace hb := hb.trans (hb2.mono hb.size)
  replace sc := And.intro (Keeps.of_below hb2 _ _ sc.1) (And.intro (Keeps.of_below hb2 _ _ sc.2.1) (And.intro (Keeps.of_below hb2 _ _ sc.2.2.1) (Keeps.of_below hb2 _ _ sc.2.2.2)))
  replace hs2 := hs2.keep (Keeps.of_below hb2)
  replace hB := hB.keep (Keeps.of_below hb2)
  clear hb2
  clear sc_0 sc_1 sc_2 sc_3
  obtain ⟨sc_0, sc_1, sc_2, sc_3⟩ := id sc
  go_wp2_with fail
  have CC := higher_any S [100, 200, 100] _ 3 0 0 10 _ hs2 hB (by decide)
  rw [K9.out, HS.out] at CC
  refine CC.mono ?_
  rintro e u7 ⟨rfl, hb2⟩
  clear CC
  replace hb := hb.trans (hb2.mono hb.size)
  clear hb2
  clear sc_0 sc_1 sc_2 sc_3
  go_wp2_with fail
  go_ret
  exact ⟨rfl, hb⟩

theorem own : ownKnob Try.prog.godebug = none := by kernel_rfl
theorem laidOut : laidOutB Try.prog = true := by kernel_rfl

/-! THE ROW's STEP -/
set_option maxRecDepth 100000 in
theorem lifted (os : Os) (started : os.Started) (H : Type) (enc : TypeId × Value → H) :
    ReturnsInHanded {} Try.checked os 8 .any (Rows.agentHomesSpec.pre6 enc Try.prog Try.f8 Rows.agentHomesRow.domain false) (Rows.agentHomesSpec.post enc Try.prog Try.f8 false true false false) := by
  refine returnsInHanded_of_change (C := Try.checked) own started (by kernel_rfl) Try.func8
    (ChangeSpec.witness6 (enc := enc) (C := Try.checked) false ⟨#[], #[.int .u8 0, .int .u8 0, .int .u8 0, .int .u8 0], []⟩ 8 (by kernel_rfl) (by kernel_rfl) (by kernel_rfl) (by kernel_rfl)) ?_
  intro W base args ds gs before hval0 hW hcnd _
  have hval : ∀ (j : Nat) t v, Try.f8.params[j]? = some t → args[j]? = some v → Value.okWide Try.prog W .any base t v := hval0
  have hW' := hW
  obtain ⟨p, q, hA0, hV, rfl, hfz, hnd⟩ := hW
  have hA : DataW.TrodAll enc Try.prog W 0 (fun _ => true) true Try.f8.params.toList args.toList ds p := hA0
  rw [Try.params8] at hA hval
  obtain ⟨v0, vs0, d0, ds0, p0, q0, hargs, rfl, rfl, h0, r0⟩ := trodAll_cons hA
  obtain ⟨v1, vs1, d1, ds1, p1, q1, rfl, rfl, rfl, h1, r1⟩ := trodAll_cons r0
  obtain ⟨v2, vs2, d2, ds2, p2, q2, rfl, rfl, rfl, h2, r2⟩ := trodAll_cons r1
  obtain ⟨v3, vs3, d3, ds3, p3, q3, rfl, rfl, rfl, h3, r3⟩ := trodAll_cons r2
  obtain ⟨rfl, rfl, rfl⟩ := trodAll_nil r3
  obtain rfl : args = #[v0, v1, v2, v3] := by cases args; simp_all
  obtain ⟨rfl, rfl⟩ := trodVars_none hV
  obtain ⟨a0, rfl, rfl, rfl, w0⟩ := open_int Try.underlying5 (hval 0 5 v0 rfl rfl) h0
  obtain ⟨a1, rfl, rfl, rfl, w1⟩ := open_int Try.underlying5 (hval 1 5 v1 rfl rfl) h1
  obtain ⟨a2, rfl, rfl, rfl, w2⟩ := open_int Try.underlying5 (hval 2 5 v2 rfl rfl) h2
  obtain ⟨a3, rfl, rfl, rfl, w3⟩ := open_int Try.underlying5 (hval 3 5 v3 rfl rfl) h3
  clear hA0 hval0
  refine (walk a0 a1 a2 a3 W w0 w1 w2 w3).mono fun e W' ⟨he, bel⟩ => ?_
  subst he
  exact ⟨_, rfl, _, _, _, [], _, [], hW', trodAll_mk1 (shut_bool Try.underlying4 _), (trodAll_cons_mk (shut_int Try.underlying5 w0) (trodAll_cons_mk (shut_int Try.underlying5 w1) (trodAll_cons_mk (shut_int Try.underlying5 w2) (trodAll_cons_mk (shut_int Try.underlying5 w3) trodAll_mk0)))), rfl, bel.frame _, fun h => by cases h⟩

theorem over : Rows.agentHomesRow.holds Try.pinned (OpenSpec.ofChange Rows.agentHomesSpec) :=
  OpenClaim.holds_of_wide 8 Try.f8 rfl rfl rfl rfl rfl rfl rfl ⟨rfl, rfl, rfl, rfl, rfl⟩ rfl rfl rfl rfl rfl (by kernel_rfl) Try.func8 (by kernel_rfl)
    (of_decide_eq_true (by kernel_rfl)) (by unfold Func.isWrapper; first | (rw [if_pos (by decide +kernel)]; kernel_rfl) | (rw [if_neg (by decide +kernel)]; exact ⟨rfl, rfl⟩))
    (fun os started H enc _ => lifted os started H enc)

/-- THE STATEMENT -/
theorem proved : Rows.AgentHomesSaid := over
#print axioms proved
end Go.Proofs.Ytbjcoeipdnakkaa.agentHomes

