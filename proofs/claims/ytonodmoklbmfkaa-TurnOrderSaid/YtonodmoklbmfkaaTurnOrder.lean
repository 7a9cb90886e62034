/- TurnOrder: of two that are unlike one is ahead, and it goes on; who is first is ahead of all that aren't. No condition. Printed by tools/turn/order.py. -/
import Derived.Test.YtonodmoklbmfkaaKnown22
import Derived.Test.YtonodmoklbmfkaaTurnOrdN
import Derived.Test.YtonodmoklbmfkaaTurn11
import Derived.Test.YtonodmoklbmfkaaTurnTells
import Derived.Deep.RegionHeld3
import Derived.Deep.CutRange
import Derived.Laws.MakeOwn
set_option linter.unusedSimpArgs false
set_option linter.unusedVariables false
set_option maxHeartbeats 8000000
set_option maxRecDepth 100000
namespace Go.Proofs.Ytonodmoklbmfkaa.turnOrder
open Go.ChangeShapes Go.WideShapes Go.ChangeAt Go.RowKit
open Go.ChangeMaps (open_string shut_string)
set_option linter.unusedVariables false

/-- THE WALK: the Go text returns true, and writes nothing that was there. -/
theorem walk (x0 y0 u0 : Int) (x1 y1 u1 : Int) (x2 y2 u2 : Int) (a3 : Option Addr) (len3 cap3 : Nat) (z3 : List (Int × Int × Int)) (a4 : Int) (w : World) (w0 : I64 x0 ∧ I64 y0 ∧ I64 u0) (w1 : I64 x1 ∧ I64 y1 ∧ I64 u1) (w2 : I64 x2 ∧ I64 y2 ∧ I64 u2) (w3 : IsTrips w a3 len3 cap3 z3) (w4 : (Lit.int .u8 a4).wf = true) :
    Calls Try.prog 4 #[.agg #[.int .i64 x0, .int .i64 y0, .int .i64 u0], .agg #[.int .i64 x1, .int .i64 y1, .int .i64 u1], .agg #[.int .i64 x2, .int .i64 y2, .int .i64 u2], .slice a3 len3 cap3, .int .u8 a4] w fun e w' => e = .returned (.bool true) ∧ Below w.heap.size w w' := by
  have HL := hidp (whos_trips w3)
  have hlen : len3 = (z3.map ofTrip).length := by rw [List.length_map]; exact w3.hlen
  obtain ⟨l, hl⟩ : ∃ l, z3.map ofTrip = l := ⟨_, rfl⟩
  rw [hl] at HL hlen
  have HLN := hidp hlen
  have h0 : WhoM.wf ⟨x0, y0, u0⟩ := w0
  have h1 : WhoM.wf ⟨x1, y1, u1⟩ := w1
  have h2 : WhoM.wf ⟨x2, y2, u2⟩ := w2
  have hb := (((Below.refl w.heap.size w).alloc (Nat.le_refl _) (.cells #[.int .i64 x0, .int .i64 y0, .int .i64 u0] 23)).alloc (by simp) (.cells #[.int .i64 x1, .int .i64 y1, .int .i64 u1] 23)).alloc (by simp; omega) (.cells #[.int .i64 x2, .int .i64 y2, .int .i64 u2] 23)
  have B0 := W3 (((Bk.new w 23 #[.int .i64 x0, .int .i64 y0, .int .i64 u0]).alloc (.cells #[.int .i64 x1, .int .i64 y1, .int .i64 u1] 23)).alloc (.cells #[.int .i64 x2, .int .i64 y2, .int .i64 u2] 23))
  have B1 := W3 ((Bk.at3 (w := w.alloc (.cells #[.int .i64 x0, .int .i64 y0, .int .i64 u0] 23)) (g := w.heap.size + 1) (t := 23) (cs := #[.int .i64 x1, .int .i64 y1, .int .i64 u1]) (by simp)).alloc (.cells #[.int .i64 x2, .int .i64 y2, .int .i64 u2] 23))
  have B2 := W3 (Bk.at3 (w := (w.alloc (.cells #[.int .i64 x0, .int .i64 y0, .int .i64 u0] 23)).alloc (.cells #[.int .i64 x1, .int .i64 y1, .int .i64 u1] 23)) (g := w.heap.size + 2) (t := 23) (cs := #[.int .i64 x2, .int .i64 y2, .int .i64 u2]) (by simp))
  obtain ⟨kk, hk0, hk1, hk⟩ := nat_mod40 w4
  clear w0 w1 w2 w3 w4 hl hlen
  go_enter Try.func4, Try.ntmps4
  go_wp2_with fail
  refine (known22_any _).mono ?_
  rintro e v1 ⟨rfl, hb2⟩
  have k2 := Keeps2 hb2
  have c0 := And.intro (k2 _ _ B0.1) (And.intro (k2 _ _ B0.2.1) (k2 _ _ B0.2.2))
  have c1 := And.intro (k2 _ _ B1.1) (And.intro (k2 _ _ B1.2.1) (k2 _ _ B1.2.2))
  have c2 := And.intro (k2 _ _ B2.1) (And.intro (k2 _ _ B2.2.1) (k2 _ _ B2.2.2))
  replace hb := hb.trans (hb2.mono hb.size)
  clear hb2 k2 B0 B1 B2
  by_cases h30 : (30 : Int) < (len3 : Int)
  · clear c0 c1 c2
    go_wp2_with fail
    go_ret
    exact ⟨rfl, hb⟩
  obtain ⟨X, HX⟩ : ∃ V, Hid (aheadB ⟨x0, y0, u0⟩ ⟨x1, y1, u1⟩ = V) := ⟨_, hidp rfl⟩
  obtain ⟨Y, HY⟩ : ∃ V, Hid (aheadB ⟨x1, y1, u1⟩ ⟨x0, y0, u0⟩ = V) := ⟨_, hidp rfl⟩
  obtain ⟨P, HP⟩ : ∃ V, Hid (aheadB ⟨x1, y1, u1⟩ ⟨x2, y2, u2⟩ = V) := ⟨_, hidp rfl⟩
  obtain ⟨Q, HQ⟩ : ∃ V, Hid (aheadB ⟨x0, y0, u0⟩ ⟨x2, y2, u2⟩ = V) := ⟨_, hidp rfl⟩
  have HB := hidp (below_drewN hb 1)
  have hS : v1.drew.cell? ⟨w.heap.size, 0, none⟩ = some (.int .i64 x0) ∧ v1.drew.cell? ⟨w.heap.size, 1, none⟩ = some (.int .i64 y0) ∧ v1.drew.cell? ⟨w.heap.size, 2, none⟩ = some (.int .i64 u0) ∧ v1.drew.cell? ⟨w.heap.size + 1, 0, none⟩ = some (.int .i64 x1) ∧ v1.drew.cell? ⟨w.heap.size + 1, 1, none⟩ = some (.int .i64 y1) ∧ v1.drew.cell? ⟨w.heap.size + 1, 2, none⟩ = some (.int .i64 u1) ∧ v1.drew.cell? ⟨w.heap.size + 2, 0, none⟩ = some (.int .i64 x2) ∧ v1.drew.cell? ⟨w.heap.size + 2, 1, none⟩ = some (.int .i64 y2) ∧ v1.drew.cell? ⟨w.heap.size + 2, 2, none⟩ = some (.int .i64 u2) := ⟨c0.1, c0.2.1, c0.2.2, c1.1, c1.2.1, c1.2.2, c2.1, c2.2.1, c2.2.2⟩
  clear c0 c1 c2 hb
  go_wp2_with fail
  go_region_held3 (fun w' => w'.cell? ⟨w.heap.size, 0, none⟩ = some (.int .i64 x0) ∧ w'.cell? ⟨w.heap.size, 1, none⟩ = some (.int .i64 y0) ∧ w'.cell? ⟨w.heap.size, 2, none⟩ = some (.int .i64 u0) ∧ w'.cell? ⟨w.heap.size + 1, 0, none⟩ = some (.int .i64 x1) ∧ w'.cell? ⟨w.heap.size + 1, 1, none⟩ = some (.int .i64 y1) ∧ w'.cell? ⟨w.heap.size + 1, 2, none⟩ = some (.int .i64 u1) ∧ w'.cell? ⟨w.heap.size + 2, 0, none⟩ = some (.int .i64 x2) ∧ w'.cell? ⟨w.heap.size + 2, 1, none⟩ = some (.int .i64 y2) ∧ w'.cell? ⟨w.heap.size + 2, 2, none⟩ = some (.int .i64 u2)) (exact hS)
    (first
      | (go_at_call 6; (with_reducible refine (ahead_any ⟨x0, y0, u0⟩ ⟨x1, y1, u1⟩ _ h0 h1).mono ?_); rintro e uw ⟨rfl, hb3⟩; have k3 := Keeps2 hb3; have hS := (And.intro (k3 _ _ hS.1) (And.intro (k3 _ _ hS.2.1) (And.intro (k3 _ _ hS.2.2.1) (And.intro (k3 _ _ hS.2.2.2.1) (And.intro (k3 _ _ hS.2.2.2.2.1) (And.intro (k3 _ _ hS.2.2.2.2.2.1) (And.intro (k3 _ _ hS.2.2.2.2.2.2.1) (And.intro (k3 _ _ hS.2.2.2.2.2.2.2.1) (k3 _ _ hS.2.2.2.2.2.2.2.2))))))))); have HB := hidp (HB.out.trans (hb3.mono HB.out.size)); clear k3 hb3; rw [HX.out])
      | (go_at_call 6; (with_reducible refine (ahead_any ⟨x1, y1, u1⟩ ⟨x0, y0, u0⟩ _ h1 h0).mono ?_); rintro e uw ⟨rfl, hb3⟩; have k3 := Keeps2 hb3; have hS := (And.intro (k3 _ _ hS.1) (And.intro (k3 _ _ hS.2.1) (And.intro (k3 _ _ hS.2.2.1) (And.intro (k3 _ _ hS.2.2.2.1) (And.intro (k3 _ _ hS.2.2.2.2.1) (And.intro (k3 _ _ hS.2.2.2.2.2.1) (And.intro (k3 _ _ hS.2.2.2.2.2.2.1) (And.intro (k3 _ _ hS.2.2.2.2.2.2.2.1) (k3 _ _ hS.2.2.2.2.2.2.2.2))))))))); have HB := hidp (HB.out.trans (hb3.mono HB.out.size)); clear k3 hb3; rw [HY.out]))
  go_upto_region 6 with fail
  go_cut [62] from 30 to 62 (fun c wx => c = .bool false ∧ Hid (Below w.heap.size w wx))
  case first =>
    cases X
    · cases Y
      · have ht : x0 = x1 := ahead_none HX.out HY.out
        have e1 : (x0 != x1) = false := by simp [ht]
        have Ht := hidp ht
        clear ht
        obtain ⟨q0, q1, q2, q3, q4, q5, q6, q7, q8⟩ := id hS
        clear hS
        go_wp2_with fail
        go_meet
        exact ⟨rfl, HB.out⟩
      · by_cases ht : x0 = x1
        · have e1 : (x0 != x1) = false := by simp [ht]
          have Ht := hidp ht
          clear ht
          obtain ⟨q0, q1, q2, q3, q4, q5, q6, q7, q8⟩ := id hS
          clear hS
          go_wp2_with fail
          go_meet
          exact ⟨rfl, HB.out⟩
        · have e1 : (x0 != x1) = true := by simpa using ht
          have Ht := hidp ht
          clear ht
          obtain ⟨q0, q1, q2, q3, q4, q5, q6, q7, q8⟩ := id hS
          clear hS
          go_wp2_with fail
          go_meet
          exact ⟨rfl, HB.out⟩
    · cases Y
      · cases P
        · by_cases ht : x0 = x1
          · have e1 : (x0 != x1) = false := by simp [ht]
            have Ht := hidp ht
            clear ht
            obtain ⟨q0, q1, q2, q3, q4, q5, q6, q7, q8⟩ := id hS
            go_wp2_with fail
            refine (ahead_any ⟨x1, y1, u1⟩ ⟨x2, y2, u2⟩ _ h1 h2).mono ?_
            rintro e uw ⟨rfl, hb3⟩
            have k3 := Keeps2 hb3
            have hS := (And.intro (k3 _ _ hS.1) (And.intro (k3 _ _ hS.2.1) (And.intro (k3 _ _ hS.2.2.1) (And.intro (k3 _ _ hS.2.2.2.1) (And.intro (k3 _ _ hS.2.2.2.2.1) (And.intro (k3 _ _ hS.2.2.2.2.2.1) (And.intro (k3 _ _ hS.2.2.2.2.2.2.1) (And.intro (k3 _ _ hS.2.2.2.2.2.2.2.1) (k3 _ _ hS.2.2.2.2.2.2.2.2)))))))))
            have HB := hidp (HB.out.trans (hb3.mono HB.out.size))
            clear k3 hb3 q0 q1 q2 q3 q4 q5 q6 q7 q8
            rw [HP.out]
            obtain ⟨q0, q1, q2, q3, q4, q5, q6, q7, q8⟩ := id hS
            clear hS
            go_wp2_with fail
            go_meet
            exact ⟨rfl, HB.out⟩
          · have e1 : (x0 != x1) = true := by simpa using ht
            have Ht := hidp ht
            clear ht
            obtain ⟨q0, q1, q2, q3, q4, q5, q6, q7, q8⟩ := id hS
            go_wp2_with fail
            refine (ahead_any ⟨x1, y1, u1⟩ ⟨x2, y2, u2⟩ _ h1 h2).mono ?_
            rintro e uw ⟨rfl, hb3⟩
            have k3 := Keeps2 hb3
            have hS := (And.intro (k3 _ _ hS.1) (And.intro (k3 _ _ hS.2.1) (And.intro (k3 _ _ hS.2.2.1) (And.intro (k3 _ _ hS.2.2.2.1) (And.intro (k3 _ _ hS.2.2.2.2.1) (And.intro (k3 _ _ hS.2.2.2.2.2.1) (And.intro (k3 _ _ hS.2.2.2.2.2.2.1) (And.intro (k3 _ _ hS.2.2.2.2.2.2.2.1) (k3 _ _ hS.2.2.2.2.2.2.2.2)))))))))
            have HB := hidp (HB.out.trans (hb3.mono HB.out.size))
            clear k3 hb3 q0 q1 q2 q3 q4 q5 q6 q7 q8
            rw [HP.out]
            obtain ⟨q0, q1, q2, q3, q4, q5, q6, q7, q8⟩ := id hS
            clear hS
            go_wp2_with fail
            go_meet
            exact ⟨rfl, HB.out⟩
        · cases Q
          · exact absurd ((ahead_tr HX.out HP.out).symm.trans HQ.out) (by decide)
          · by_cases ht : x0 = x1
            · have e1 : (x0 != x1) = false := by simp [ht]
              have Ht := hidp ht
              clear ht
              obtain ⟨q0, q1, q2, q3, q4, q5, q6, q7, q8⟩ := id hS
              go_wp2_with fail
              refine (ahead_any ⟨x1, y1, u1⟩ ⟨x2, y2, u2⟩ _ h1 h2).mono ?_
              rintro e uw ⟨rfl, hb3⟩
              have k3 := Keeps2 hb3
              have hS := (And.intro (k3 _ _ hS.1) (And.intro (k3 _ _ hS.2.1) (And.intro (k3 _ _ hS.2.2.1) (And.intro (k3 _ _ hS.2.2.2.1) (And.intro (k3 _ _ hS.2.2.2.2.1) (And.intro (k3 _ _ hS.2.2.2.2.2.1) (And.intro (k3 _ _ hS.2.2.2.2.2.2.1) (And.intro (k3 _ _ hS.2.2.2.2.2.2.2.1) (k3 _ _ hS.2.2.2.2.2.2.2.2)))))))))
              have HB := hidp (HB.out.trans (hb3.mono HB.out.size))
              clear k3 hb3 q0 q1 q2 q3 q4 q5 q6 q7 q8
              rw [HP.out]
              obtain ⟨q0, q1, q2, q3, q4, q5, q6, q7, q8⟩ := id hS
              go_wp2_with fail
              refine (ahead_any ⟨x0, y0, u0⟩ ⟨x2, y2, u2⟩ _ h0 h2).mono ?_
              rintro e uw ⟨rfl, hb3⟩
              have k3 := Keeps2 hb3
              have hS := (And.intro (k3 _ _ hS.1) (And.intro (k3 _ _ hS.2.1) (And.intro (k3 _ _ hS.2.2.1) (And.intro (k3 _ _ hS.2.2.2.1) (And.intro (k3 _ _ hS.2.2.2.2.1) (And.intro (k3 _ _ hS.2.2.2.2.2.1) (And.intro (k3 _ _ hS.2.2.2.2.2.2.1) (And.intro (k3 _ _ hS.2.2.2.2.2.2.2.1) (k3 _ _ hS.2.2.2.2.2.2.2.2)))))))))
              have HB := hidp (HB.out.trans (hb3.mono HB.out.size))
              clear k3 hb3 q0 q1 q2 q3 q4 q5 q6 q7 q8
              rw [HQ.out]
              obtain ⟨q0, q1, q2, q3, q4, q5, q6, q7, q8⟩ := id hS
              clear hS
              go_wp2_with fail
              go_meet
              exact ⟨rfl, HB.out⟩
            · have e1 : (x0 != x1) = true := by simpa using ht
              have Ht := hidp ht
              clear ht
              obtain ⟨q0, q1, q2, q3, q4, q5, q6, q7, q8⟩ := id hS
              go_wp2_with fail
              refine (ahead_any ⟨x1, y1, u1⟩ ⟨x2, y2, u2⟩ _ h1 h2).mono ?_
              rintro e uw ⟨rfl, hb3⟩
              have k3 := Keeps2 hb3
              have hS := (And.intro (k3 _ _ hS.1) (And.intro (k3 _ _ hS.2.1) (And.intro (k3 _ _ hS.2.2.1) (And.intro (k3 _ _ hS.2.2.2.1) (And.intro (k3 _ _ hS.2.2.2.2.1) (And.intro (k3 _ _ hS.2.2.2.2.2.1) (And.intro (k3 _ _ hS.2.2.2.2.2.2.1) (And.intro (k3 _ _ hS.2.2.2.2.2.2.2.1) (k3 _ _ hS.2.2.2.2.2.2.2.2)))))))))
              have HB := hidp (HB.out.trans (hb3.mono HB.out.size))
              clear k3 hb3 q0 q1 q2 q3 q4 q5 q6 q7 q8
              rw [HP.out]
              obtain ⟨q0, q1, q2, q3, q4, q5, q6, q7, q8⟩ := id hS
              go_wp2_with fail
              refine (ahead_any ⟨x0, y0, u0⟩ ⟨x2, y2, u2⟩ _ h0 h2).mono ?_
              rintro e uw ⟨rfl, hb3⟩
              have k3 := Keeps2 hb3
              have hS := (And.intro (k3 _ _ hS.1) (And.intro (k3 _ _ hS.2.1) (And.intro (k3 _ _ hS.2.2.1) (And.intro (k3 _ _ hS.2.2.2.1) (And.intro (k3 _ _ hS.2.2.2.2.1) (And.intro (k3 _ _ hS.2.2.2.2.2.1) (And.intro (k3 _ _ hS.2.2.2.2.2.2.1) (And.intro (k3 _ _ hS.2.2.2.2.2.2.2.1) (k3 _ _ hS.2.2.2.2.2.2.2.2)))))))))
              have HB := hidp (HB.out.trans (hb3.mono HB.out.size))
              clear k3 hb3 q0 q1 q2 q3 q4 q5 q6 q7 q8
              rw [HQ.out]
              obtain ⟨q0, q1, q2, q3, q4, q5, q6, q7, q8⟩ := id hS
              clear hS
              go_wp2_with fail
              go_meet
              exact ⟨rfl, HB.out⟩
      · exact absurd ((ahead_asym HX.out).symm.trans HY.out) (by decide)
  case rest =>
    obtain ⟨rfl, HB⟩ := hcut
    obtain ⟨i0, hi0, hy0, hy1, hy2⟩ := info_parts infoWho
    obtain ⟨n, hn⟩ : ∃ n, l.length = n := ⟨_, rfl⟩
    have Hn := hidp hn
    have hlen : len3 = n := HLN.out.trans hn
    have hn30 : n ≤ 30 := by omega
    subst hlen
    have HLc := hidp (HL.out.over HB.out)
    have HWF := hidp HL.out.wf
    have Q2 : Hid (a3 = none → len3 = 0 ∧ cap3 = 0) := hidp (fun e => by have := HL.out.nil e; rw [Hn.out] at this; exact this)
    have L2 : Hid ((wtc l).length = len3 * 3) := hidp (by rw [wtc_len, Hn.out])
    have O2 := hidp (wtc_one l)
    have N2 : Hid (0 + len3 ≤ maxLen) := hidp (by unfold maxLen; omega)
    have T2 : Hid ((0 + len3) * 24 ≤ 140737488355328) := hidp (by omega)
    have S2 := hidp HLc.out.lies
    have Z2 : Hid (wc.heap.size ≤ wc.heap.size) := hidp (Nat.le_refl _)
    clear hn h0 h1 h2 hS
    go_wp2_with (at_builtin; refine wpList_app2 _ rfl (.const (.slice none 0 0)) (.tmp 63) 24 rfl wc.heap.size 23 i0 _ 3 24 Try.underlying24 hi0 hy0 hy1 hy2 rfl (by decide) none 0 0 [] rfl (World.ownsRow_nil _ _ _ _) wc.heap.size a3 len3 cap3 (wtc l) rfl Q2.out L2.out S2.out O2.out N2.out T2.out Z2.out ?_; intro A' c' w4 happ)
    rw [Nat.zero_add, List.nil_append] at happ
    have HO : Hid (OwnW wc.heap.size w4 A' len3 c' (numW l 0)) := hidp (by rw [numW_zero]; exact ⟨happ.own, Hn.out.symm, happ.cap, happ.nil⟩)
    have HB4 : Hid (Below wc.heap.size wc w4) := hidp (happ.turned.below (Nat.le_refl _) (by simp [fp]))
    have HFp := hidp (own_fp happ.own)
    have ho := HO.out
    have ht0 := Turned.refl (fp A') w4
    try simp only [Nat.zero_add]
    clear happ Q2 L2 O2 N2 T2 S2 Z2 HO
    go_wp2
    go_loopg [14] len3 (fun gg i wr => ∃ m : Nat, m + gg = len3 ∧ i = .int .i64 m ∧ OwnW wc.heap.size wr A' len3 c' (numW l m) ∧ Turned (fp A') w4 wr)
    case atStart => exact ⟨0, by omega, rfl, ho, ht0⟩
    case round =>
      clear ho ht0
      obtain ⟨m, hm, rfl, ho, ht⟩ := hrel
      by_cases hlt : m < len3
      · obtain ⟨g, rfl, hg1, hg2⟩ := who_own ho.own (by omega)
        have hml : m < l.length := by rw [Hn.out]; exact hlt
        have hmL : m < (numW l m).length := by rw [← ho.len]; exact hlt
        have cx := ho.at_ hmL
        have f0 := ho.free (m * 3)
        have mI : (m : Int) < (len3 : Int) := by omega
        have m0 : (0 : Int) ≤ (m : Int) := by omega
        have wm : IntKind.i64.wrap ((m : Int) + 1) = (m : Int) + 1 := IntWalk.i64_in _ (by omega)
        have HO2 : Hid (OwnW wc.heap.size (wr.setCell ⟨g, m * 3, none⟩ (.int .i64 m)) (some ⟨g, 0, none⟩) len3 c' (numW l (m + 1))) := hidp (by
          have h1 := who_put ho.own (m * 3) (by omega) (.int .i64 m)
          rw [numW_put hml] at h1
          exact ⟨h1, by rw [numW_len]; exact Hn.out.symm, ho.cap, ho.nil⟩)
        have HT2 : Hid (Turned (fp (some ⟨g, 0, none⟩)) w4 (wr.setCell ⟨g, m * 3, none⟩ (.int .i64 m))) := hidp (ht.setCell (.inl (by simp [fp])) _)
        have cx0 := cx.1
        clear ho ht hg1 hg2 cx hml hmL
        go_wp2
        go_roundg (gk - 1)
        case measure => omega
        case rel => exact ⟨m + 1, by omega, by go_num, HO2.out, HT2.out⟩
      · obtain rfl : m = len3 := by omega
        have HO := hidp ho
        have HT := hidp ht
        have mI : ¬ (m : Int) < (m : Int) := by omega
        have hN : numW l m = numM l := by unfold numW; rw [List.take_of_length_le (by rw [Hn.out]; exact Nat.le_refl _), List.drop_eq_nil_of_le (by rw [Hn.out]; exact Nat.le_refl _), List.append_nil]
        rw [hN] at HO
        have HBr : Hid (Below wc.heap.size wc wr) := hidp (HB4.out.trans (HT.out.below HB4.out.size (fun k hk => (HFp.out k hk).1)))
        have hNl : (numM l).length = m := by rw [numM_len, Hn.out]
        obtain ⟨N, HNN⟩ : ∃ N, Hid (numM l = N) := ⟨_, hidp rfl⟩
        rw [HNN.out] at HO hNl
        have HWN : Hid (∀ x ∈ N, x.wf) := hidp (fun x hx => by
          rw [← HNN.out] at hx
          obtain ⟨i, hi, rfl⟩ := List.mem_mapIdx.1 hx
          have hw := HWF.out _ (List.getElem_mem hi)
          have hil : i < m := by rw [← Hn.out]; exact hi
          exact ⟨by unfold I64; dsimp only; omega, hw.2.1, hw.2.2⟩)
        have HNl := hidp hNl
        have Wok : Hid (WhosOk wr A' c' N) := hidp ⟨lies_own HO.out, fun e => by rw [HNl.out]; exact HO.out.nil e, by rw [HNl.out]; exact HO.out.cap, HWN.out⟩
        have C := first40_any A' c' N (kk : Int) wr Wok.out (by omega)
        rw [hNl] at C
        have HC := hidp C
        have wk : IntKind.i64.wrap (kk : Int) = (kk : Int) := IntWalk.i64_in _ (by omega)
        have wk8 : IntKind.u8.wrap (kk : Int) = (kk : Int) := IntWalk.u8_in _ (by omega)
        have hmk := make_bools m (by omega)
        clear ho ht hN hNl C
        go_wp2_with fail
        refine HC.out.mono ?_
        rintro e w5 ⟨F, cf, rfl, r5, nF, cF, hb5, hfF⟩
        have eF := firstV_len N (kk : Int)
        rw [HNl.out, Int.max_eq_left (by omega)] at eF
        obtain ⟨Z, HZ⟩ : ∃ Z, Hid (firstV N (kk : Int) = Z) := ⟨_, hidp rfl⟩
        rw [HZ.out] at eF r5 nF cF ⊢
        obtain ⟨zl, hzl⟩ : ∃ zl, Z.length = zl := ⟨_, rfl⟩
        rw [hzl] at eF nF cF ⊢
        have hmin : (if kk < m then (kk : Int) else (m : Int)) = (zl : Int) := by rw [eF]; split <;> omega
        have Hzl := hidp hzl
        have HZm : Hid (zl ≤ m) := hidp (by omega)
        have HR5 := hidp r5
        have HB5 := hidp (HBr.out.trans (hb5.mono HBr.out.size))
        have HN5 := hidp (HO.out.turned (Turned.of_below hb5 []) (by simp))
        have HNF := hidp (And.intro nF (And.intro cF hfF))
        have FF := first_facts (N := N) (kk := (kk : Int)) (m := m) (by intro i hi; rw [← HNN.out] at hi ⊢; exact numM_task hi) HNl.out
        rw [HZ.out, hzl] at FF
        have FJ := hidp FF.1
        have FD := hidp FF.2.1
        have FS := hidp FF.2.2.1
        have FB := hidp FF.2.2.2
        clear r5 nF cF hb5 hfF HC eF hzl FF
        go_wp2_with fail
        have b0 : Bk (w5.alloc (.cells (Array.replicate m (Value.bool false)) 4)) w5.heap.size 4 (Array.replicate m (Value.bool false)) := Bk.new w5 _ _
        go_loopg [17] zl (fun gg i wr => ∃ j : Nat, j + gg = zl ∧ i = .int .i64 j ∧ Bk wr w5.heap.size 4 (seenA Z m j) ∧ Turned [w5.heap.size] (w5.alloc (.cells (Array.replicate m (Value.bool false)) 4)) wr)
        case atStart => exact ⟨0, by omega, rfl, by rw [seenA_zero]; exact b0, Turned.refl _ _⟩
        case round =>
          clear b0
          obtain ⟨j, hj, rfl, hbk, ht5⟩ := hrel
          have hbw : Below w5.heap.size w5 wr := ((Below.refl w5.heap.size w5).alloc (Nat.le_refl _) _).trans (ht5.below (by simp) (by simp))
          obtain ⟨gB, hgB⟩ : ∃ gB, w5.heap.size = gB := ⟨_, rfl⟩
          have HGB := hidp hgB
          by_cases hlt : j < zl
          · have hm0 : 0 < m := by have := HZm.out; omega
            obtain ⟨g, rfl, hg1, hg2⟩ := who_own HN5.out.own hm0
            obtain ⟨t, ht, hZt, hNt⟩ := FJ.out j hlt
            have hjZ : j < Z.length := by rw [Hzl.out]; exact hlt
            obtain ⟨gF, oF, rfl, hcF⟩ := (HR5.out.mono (Keeps2 hbw)).resolve_left (by intro e; rw [e] at hjZ; simp at hjZ)
            have cF := hcF j hjZ
            rw [hZt] at cF
            have hnd : decide ((t : Int) ∈ Z.take j) = false := by rw [← hZt]; exact decide_eq_false (FD.out j hlt)
            have cB : wr.cell? ⟨w5.heap.size, t, none⟩ = some (.bool false) := by
              rw [hbk.cell t]
              exact seenA_at ht hnd
            have fB := hbk.frozen t
            have HPut : Hid (Bk (wr.setCell ⟨w5.heap.size, t, none⟩ (.bool true)) w5.heap.size 4 (seenA Z m (j + 1))) := hidp (by
              have := hbk.put t (.bool true)
              rw [seenA_put (j := j) ht hjZ hZt] at this
              exact this)
            have HT6 : Hid (Turned [w5.heap.size] (w5.alloc (.cells (Array.replicate m (Value.bool false)) 4)) (wr.drew.setCell ⟨w5.heap.size, t, none⟩ (.bool true))) := hidp (ht5.drew.setCell (.inl (by simp)) _)
            have hNw := HN5.out.turned (Turned.of_below hbw []) (by simp)
            have j0 : (0 : Int) ≤ (j : Int) := by omega
            have j1 : (j : Int) < (zl : Int) := by omega
            have t0 : (0 : Int) ≤ (t : Int) := by omega
            have t1 : (t : Int) < (m : Int) := by omega
            have tn : ¬ (t : Int) < 0 := by omega
            have tn2 : decide ((t : Int) < 0) = false := decide_eq_false tn
            have tm : ¬ (m : Int) ≤ (t : Int) := by omega
            have tm2 : decide (m ≤ t) = false := by simpa using ht
            have wj : IntKind.i64.wrap ((j : Int) + 1) = (j : Int) + 1 := IntWalk.i64_in _ (by have := HZm.out; omega)
            by_cases hj0 : j = 0
            · subst hj0
              have cF0 : wr.cell? ⟨gF, oF, none⟩ = some (.int .i64 (t : Int)) := by simpa using cF
              have jN : 0 < zl := hlt
              have hS : wr.drew.cell? ⟨gF, oF, none⟩ = some (.int .i64 (t : Int)) ∧ wr.drew.cell? ⟨w5.heap.size, t, none⟩ = some (.bool false) := ⟨cF0, cB⟩
              have Hj := hidp hj
              have jz2 : decide (0 < 0) = false := rfl
              clear hbk ht5 hbw hgB hg1 hg2 hZt hNt hjZ hcF hnd hNw hlt hj cF
              go_wp2_with fail
              refine wp_region_held_drew (S := fun w' => w'.cell? ⟨gF, oF, none⟩ = some (.int .i64 (t : Int)) ∧ w'.cell? ⟨w5.heap.size, t, none⟩ = some (.bool false)) (by kernel_rfl) ?_ (fun hHeld => ?_)
              · exact hS
              refine wpAnyH_take (i := 0) (v := ?_) rfl (by kernel_rfl) (by kernel_rfl) (by kernel_rfl) (fun _ _ _ h => h) (Or.inl ⟨by rfl, ?_⟩) (by assumption) ?_
              rotate_left 1
              · ((intro w hSw; (try dsimp only at hSw); go_simp); (try with_reducible rfl))
              simp only [Act.put, List.setIfInBounds_toArray, List.set_cons_zero, List.set_cons_succ, List.getElem_toArray, List.getElem_cons_zero, List.getElem_cons_succ]
              refine wpAnyH_take (i := 1) (v := ?_) rfl (by kernel_rfl) (by kernel_rfl) (by kernel_rfl) (fun _ _ _ h => h) (Or.inl ⟨by rfl, ?_⟩) (by assumption) ?_
              rotate_left 1
              · ((intro w hSw; (try dsimp only at hSw); go_simp); (try with_reducible rfl))
              simp only [Act.put, List.setIfInBounds_toArray, List.set_cons_zero, List.set_cons_succ, List.getElem_toArray, List.getElem_cons_zero, List.getElem_cons_succ]
              refine wpAnyH_take (i := 2) (v := ?_) rfl (by kernel_rfl) (by kernel_rfl) (by kernel_rfl) (fun _ _ _ h => h) (Or.inl ⟨by rfl, ?_⟩) (by assumption) ?_
              rotate_left 1
              · ((intro w hSw; (try dsimp only at hSw); go_simp); (try with_reducible rfl))
              simp only [Act.put, List.setIfInBounds_toArray, List.set_cons_zero, List.set_cons_succ, List.getElem_toArray, List.getElem_cons_zero, List.getElem_cons_succ]
              refine wpAnyH_take (i := 3) (v := ?_) rfl (by kernel_rfl) (by kernel_rfl) (by kernel_rfl) (fun _ _ _ h => h) (Or.inl ⟨by rfl, ?_⟩) (by assumption) ?_
              rotate_left 1
              · ((intro w hSw; (try dsimp only at hSw); go_simp); (try with_reducible rfl))
              simp only [Act.put, List.setIfInBounds_toArray, List.set_cons_zero, List.set_cons_succ, List.getElem_toArray, List.getElem_cons_zero, List.getElem_cons_succ]
              refine wpAnyH_take (i := 4) (v := ?_) rfl (by kernel_rfl) (by kernel_rfl) (by kernel_rfl) (fun _ _ _ h => h) (Or.inl ⟨by rfl, ?_⟩) (by assumption) ?_
              rotate_left 1
              · ((intro w hSw; (try dsimp only at hSw); go_simp); (try with_reducible rfl))
              simp only [Act.put, List.setIfInBounds_toArray, List.set_cons_zero, List.set_cons_succ, List.getElem_toArray, List.getElem_cons_zero, List.getElem_cons_succ]
              refine wpAnyH_take (i := 5) (v := ?_) rfl (by kernel_rfl) (by kernel_rfl) (by kernel_rfl) (fun _ _ _ h => h) (Or.inl ⟨by rfl, ?_⟩) (by assumption) ?_
              rotate_left 1
              · ((intro w hSw; (try dsimp only at hSw); go_simp); (try with_reducible rfl))
              simp only [Act.put, List.setIfInBounds_toArray, List.set_cons_zero, List.set_cons_succ, List.getElem_toArray, List.getElem_cons_zero, List.getElem_cons_succ]
              refine wpAnyH_take (i := 6) (v := ?_) rfl (by kernel_rfl) (by kernel_rfl) (by kernel_rfl) (fun _ _ _ h => h) (Or.inl ⟨by rfl, ?_⟩) (by assumption) ?_
              rotate_left 1
              · ((intro w hSw; (try dsimp only at hSw); go_simp); (try with_reducible rfl))
              simp only [Act.put, List.setIfInBounds_toArray, List.set_cons_zero, List.set_cons_succ, List.getElem_toArray, List.getElem_cons_zero, List.getElem_cons_succ]
              refine wpAnyH_take (i := 7) (v := ?_) rfl (by kernel_rfl) (by kernel_rfl) (by kernel_rfl) (fun _ _ _ h => h) (Or.inl ⟨by rfl, ?_⟩) (by assumption) ?_
              rotate_left 1
              · ((intro w hSw; (try dsimp only at hSw); go_simp); (try with_reducible rfl))
              simp only [Act.put, List.setIfInBounds_toArray, List.set_cons_zero, List.set_cons_succ, List.getElem_toArray, List.getElem_cons_zero, List.getElem_cons_succ]
              refine wpAnyH_take (i := 8) (v := ?_) rfl (by kernel_rfl) (by kernel_rfl) (by kernel_rfl) (fun _ _ _ h => h) (Or.inl ⟨by rfl, ?_⟩) (by assumption) ?_
              rotate_left 1
              · ((intro w hSw; (try dsimp only at hSw); go_simp); (try with_reducible rfl))
              simp only [Act.put, List.setIfInBounds_toArray, List.set_cons_zero, List.set_cons_succ, List.getElem_toArray, List.getElem_cons_zero, List.getElem_cons_succ]
              refine wpAnyH_take (i := 9) (v := ?_) rfl (by kernel_rfl) (by kernel_rfl) (by kernel_rfl) (fun _ _ _ h => h) (Or.inl ⟨by rfl, ?_⟩) (by assumption) ?_
              rotate_left 1
              · ((intro w hSw; (try dsimp only at hSw); go_simp); (try with_reducible rfl))
              simp only [Act.put, List.setIfInBounds_toArray, List.set_cons_zero, List.set_cons_succ, List.getElem_toArray, List.getElem_cons_zero, List.getElem_cons_succ]
              refine wpAnyH_take (i := 10) (v := ?_) rfl (by kernel_rfl) (by kernel_rfl) (by kernel_rfl) (fun _ _ _ h => h) (Or.inl ⟨by rfl, ?_⟩) (by assumption) ?_
              rotate_left 1
              · ((intro w hSw; (try dsimp only at hSw); go_simp); (try with_reducible rfl))
              simp only [Act.put, List.setIfInBounds_toArray, List.set_cons_zero, List.set_cons_succ, List.getElem_toArray, List.getElem_cons_zero, List.getElem_cons_succ]
              refine wpAnyH_take (i := 11) (v := ?_) rfl (by kernel_rfl) (by kernel_rfl) (by kernel_rfl) (fun _ _ _ h => h) (Or.inl ⟨by rfl, ?_⟩) (by assumption) ?_
              rotate_left 1
              · ((intro w hSw; (try dsimp only at hSw); go_simp); (try with_reducible rfl))
              simp only [Act.put, List.setIfInBounds_toArray, List.set_cons_zero, List.set_cons_succ, List.getElem_toArray, List.getElem_cons_zero, List.getElem_cons_succ]
              refine wpAnyH_take (i := 12) (v := ?_) rfl (by kernel_rfl) (by kernel_rfl) (by kernel_rfl) (fun _ _ _ h => h) (Or.inl ⟨by rfl, ?_⟩) (by assumption) ?_
              rotate_left 1
              · ((intro w hSw; (try dsimp only at hSw); go_simp); (try with_reducible rfl))
              simp only [Act.put, List.setIfInBounds_toArray, List.set_cons_zero, List.set_cons_succ, List.getElem_toArray, List.getElem_cons_zero, List.getElem_cons_succ]
              refine wpAnyH_take (i := 13) (v := ?_) rfl (by kernel_rfl) (by kernel_rfl) (by kernel_rfl) (fun _ _ _ h => h) (Or.inl ⟨by rfl, ?_⟩) (by assumption) ?_
              rotate_left 1
              · ((intro w hSw; (try dsimp only at hSw); go_simp); (try with_reducible rfl))
              simp only [Act.put, List.setIfInBounds_toArray, List.set_cons_zero, List.set_cons_succ, List.getElem_toArray, List.getElem_cons_zero, List.getElem_cons_succ]
              refine wpAnyH_take (i := 14) (v := ?_) rfl (by kernel_rfl) (by kernel_rfl) (by kernel_rfl) (fun _ _ _ h => h) (Or.inl ⟨by rfl, ?_⟩) (by assumption) ?_
              rotate_left 1
              · ((intro w hSw; (try dsimp only at hSw); go_simp); (try with_reducible rfl))
              simp only [Act.put, List.setIfInBounds_toArray, List.set_cons_zero, List.set_cons_succ, List.getElem_toArray, List.getElem_cons_zero, List.getElem_cons_succ]
              refine wpAnyH_take (i := 15) (v := ?_) rfl (by kernel_rfl) (by kernel_rfl) (by kernel_rfl) (fun _ _ _ h => h) (Or.inl ⟨by rfl, ?_⟩) (by assumption) ?_
              rotate_left 1
              · ((intro w hSw; (try dsimp only at hSw); go_simp); (try with_reducible rfl))
              simp only [Act.put, List.setIfInBounds_toArray, List.set_cons_zero, List.set_cons_succ, List.getElem_toArray, List.getElem_cons_zero, List.getElem_cons_succ]
              refine wpAnyH_take (i := 16) (v := ?_) rfl (by kernel_rfl) (by kernel_rfl) (by kernel_rfl) (fun _ _ _ h => h) (Or.inl ⟨by rfl, ?_⟩) (by assumption) ?_
              rotate_left 1
              · ((intro w hSw; (try dsimp only at hSw); go_simp); (try with_reducible rfl))
              simp only [Act.put, List.setIfInBounds_toArray, List.set_cons_zero, List.set_cons_succ, List.getElem_toArray, List.getElem_cons_zero, List.getElem_cons_succ]
              refine wpAnyH_take (i := 17) (v := ?_) rfl (by kernel_rfl) (by kernel_rfl) (by kernel_rfl) (fun _ _ _ h => h) (Or.inl ⟨by rfl, ?_⟩) (by assumption) ?_
              rotate_left 1
              · ((intro w hSw; (try dsimp only at hSw); go_simp); (try with_reducible rfl))
              simp only [Act.put, List.setIfInBounds_toArray, List.set_cons_zero, List.set_cons_succ, List.getElem_toArray, List.getElem_cons_zero, List.getElem_cons_succ]
              refine wpAnyH_take (i := 18) (v := ?_) rfl (by kernel_rfl) (by kernel_rfl) (by kernel_rfl) (fun _ _ _ h => h) (Or.inl ⟨by rfl, ?_⟩) (by assumption) ?_
              rotate_left 1
              · ((intro w hSw; (try dsimp only at hSw); go_simp); (try with_reducible rfl))
              simp only [Act.put, List.setIfInBounds_toArray, List.set_cons_zero, List.set_cons_succ, List.getElem_toArray, List.getElem_cons_zero, List.getElem_cons_succ]
              refine wpAnyH_take (i := 19) (v := ?_) rfl (by kernel_rfl) (by kernel_rfl) (by kernel_rfl) (fun _ _ _ h => h) (Or.inl ⟨by rfl, ?_⟩) (by assumption) ?_
              rotate_left 1
              · ((intro w hSw; (try dsimp only at hSw); go_simp); (try with_reducible rfl))
              simp only [Act.put, List.setIfInBounds_toArray, List.set_cons_zero, List.set_cons_succ, List.getElem_toArray, List.getElem_cons_zero, List.getElem_cons_succ]
              refine wpAnyH_take (i := 20) (v := ?_) rfl (by kernel_rfl) (by kernel_rfl) (by kernel_rfl) (fun _ _ _ h => h) (Or.inl ⟨by rfl, ?_⟩) (by assumption) ?_
              rotate_left 1
              · ((intro w hSw; (try dsimp only at hSw); go_simp); (try with_reducible rfl))
              simp only [Act.put, List.setIfInBounds_toArray, List.set_cons_zero, List.set_cons_succ, List.getElem_toArray, List.getElem_cons_zero, List.getElem_cons_succ]
              refine wpAnyH_take (i := 21) (v := ?_) rfl (by kernel_rfl) (by kernel_rfl) (by kernel_rfl) (fun _ _ _ h => h) (Or.inl ⟨by rfl, ?_⟩) (by assumption) ?_
              rotate_left 1
              · ((intro w hSw; (try dsimp only at hSw); go_simp); (try with_reducible rfl))
              simp only [Act.put, List.setIfInBounds_toArray, List.set_cons_zero, List.set_cons_succ, List.getElem_toArray, List.getElem_cons_zero, List.getElem_cons_succ]
              refine wpAnyH_take (i := 22) (v := ?_) rfl (by kernel_rfl) (by kernel_rfl) (by kernel_rfl) (fun _ _ _ h => h) (Or.inl ⟨by rfl, ?_⟩) (by assumption) ?_
              rotate_left 1
              · ((intro w hSw; (try dsimp only at hSw); go_simp); (try with_reducible rfl))
              simp only [Act.put, List.setIfInBounds_toArray, List.set_cons_zero, List.set_cons_succ, List.getElem_toArray, List.getElem_cons_zero, List.getElem_cons_succ]
              refine wpAnyH_take (i := 23) (v := ?_) rfl (by kernel_rfl) (by kernel_rfl) (by kernel_rfl) (fun _ _ _ h => h) (Or.inl ⟨by rfl, ?_⟩) (by assumption) ?_
              rotate_left 1
              · ((intro w hSw; (try dsimp only at hSw); go_simp); (try with_reducible rfl))
              simp only [Act.put, List.setIfInBounds_toArray, List.set_cons_zero, List.set_cons_succ, List.getElem_toArray, List.getElem_cons_zero, List.getElem_cons_succ]
              refine wpAnyH_take (i := 24) (v := ?_) rfl (by kernel_rfl) (by kernel_rfl) (by kernel_rfl) (fun _ _ _ h => h) (Or.inl ⟨by rfl, ?_⟩) (by assumption) ?_
              rotate_left 1
              · ((intro w hSw; (try dsimp only at hSw); go_simp); (try with_reducible rfl))
              simp only [Act.put, List.setIfInBounds_toArray, List.set_cons_zero, List.set_cons_succ, List.getElem_toArray, List.getElem_cons_zero, List.getElem_cons_succ]
              refine wpAnyH_take (i := 25) (v := ?_) rfl (by kernel_rfl) (by kernel_rfl) (by kernel_rfl) (fun _ _ _ h => h) (Or.inl ⟨by rfl, ?_⟩) (by assumption) ?_
              rotate_left 1
              · ((intro w hSw; (try dsimp only at hSw); go_simp); (try with_reducible rfl))
              simp only [Act.put, List.setIfInBounds_toArray, List.set_cons_zero, List.set_cons_succ, List.getElem_toArray, List.getElem_cons_zero, List.getElem_cons_succ]
              refine wpAnyH_take (i := 26) (v := ?_) rfl (by kernel_rfl) (by kernel_rfl) (by kernel_rfl) (fun _ _ _ h => h) (Or.inl ⟨by rfl, ?_⟩) (by assumption) ?_
              rotate_left 1
              · ((intro w hSw; (try dsimp only at hSw); go_simp); (try with_reducible rfl))
              simp only [Act.put, List.setIfInBounds_toArray, List.set_cons_zero, List.set_cons_succ, List.getElem_toArray, List.getElem_cons_zero, List.getElem_cons_succ]
              refine wpAnyH_take (i := 27) (v := undef) rfl (by kernel_rfl) (by kernel_rfl) (by kernel_rfl) (fun _ _ _ h => h) (Or.inr ⟨by rfl, rfl⟩) (by assumption) ?_
              simp only [Act.put, List.setIfInBounds_toArray, List.set_cons_zero, List.set_cons_succ, List.getElem_toArray, List.getElem_cons_zero, List.getElem_cons_succ]
              refine wpAnyH_take (i := 28) (v := undef) rfl (by kernel_rfl) (by kernel_rfl) (by kernel_rfl) (fun _ _ _ h => h) (Or.inr ⟨by rfl, rfl⟩) (by assumption) ?_
              simp only [Act.put, List.setIfInBounds_toArray, List.set_cons_zero, List.set_cons_succ, List.getElem_toArray, List.getElem_cons_zero, List.getElem_cons_succ]
              refine wpAnyH_take (i := 29) (v := undef) rfl (by kernel_rfl) (by kernel_rfl) (by kernel_rfl) (fun _ _ _ h => h) (Or.inr ⟨by rfl, rfl⟩) (by assumption) ?_
              simp only [Act.put, List.setIfInBounds_toArray, List.set_cons_zero, List.set_cons_succ, List.getElem_toArray, List.getElem_cons_zero, List.getElem_cons_succ]
              refine wpAnyH_take (i := 30) (v := undef) rfl (by kernel_rfl) (by kernel_rfl) (by kernel_rfl) (fun _ _ _ h => h) (Or.inr ⟨by rfl, rfl⟩) (by assumption) ?_
              simp only [Act.put, List.setIfInBounds_toArray, List.set_cons_zero, List.set_cons_succ, List.getElem_toArray, List.getElem_cons_zero, List.getElem_cons_succ]
              refine wpAnyH_take (i := 31) (v := undef) rfl (by kernel_rfl) (by kernel_rfl) (by kernel_rfl) (fun _ _ _ h => h) (Or.inr ⟨by rfl, rfl⟩) (by assumption) ?_
              simp only [Act.put, List.setIfInBounds_toArray, List.set_cons_zero, List.set_cons_succ, List.getElem_toArray, List.getElem_cons_zero, List.getElem_cons_succ]
              refine wpAnyH_take (i := 32) (v := undef) rfl (by kernel_rfl) (by kernel_rfl) (by kernel_rfl) (fun _ _ _ h => h) (Or.inr ⟨by rfl, rfl⟩) (by assumption) ?_
              simp only [Act.put, List.setIfInBounds_toArray, List.set_cons_zero, List.set_cons_succ, List.getElem_toArray, List.getElem_cons_zero, List.getElem_cons_succ]
              refine wpAnyH_take (i := 33) (v := undef) rfl (by kernel_rfl) (by kernel_rfl) (by kernel_rfl) (fun _ _ _ h => h) (Or.inr ⟨by rfl, rfl⟩) (by assumption) ?_
              simp only [Act.put, List.setIfInBounds_toArray, List.set_cons_zero, List.set_cons_succ, List.getElem_toArray, List.getElem_cons_zero, List.getElem_cons_succ]
              refine wpAnyH_take (i := 34) (v := undef) rfl (by kernel_rfl) (by kernel_rfl) (by kernel_rfl) (fun _ _ _ h => h) (Or.inr ⟨by rfl, rfl⟩) (by assumption) ?_
              simp only [Act.put, List.setIfInBounds_toArray, List.set_cons_zero, List.set_cons_succ, List.getElem_toArray, List.getElem_cons_zero, List.getElem_cons_succ]
              refine wpAnyH_take (i := 35) (v := undef) rfl (by kernel_rfl) (by kernel_rfl) (by kernel_rfl) (fun _ _ _ h => h) (Or.inr ⟨by rfl, rfl⟩) (by assumption) ?_
              simp only [Act.put, List.setIfInBounds_toArray, List.set_cons_zero, List.set_cons_succ, List.getElem_toArray, List.getElem_cons_zero, List.getElem_cons_succ]
              refine wpAnyH_take (i := 36) (v := undef) rfl (by kernel_rfl) (by kernel_rfl) (by kernel_rfl) (fun _ _ _ h => h) (Or.inr ⟨by rfl, rfl⟩) (by assumption) ?_
              simp only [Act.put, List.setIfInBounds_toArray, List.set_cons_zero, List.set_cons_succ, List.getElem_toArray, List.getElem_cons_zero, List.getElem_cons_succ]
              refine wpAnyH_take (i := 37) (v := undef) rfl (by kernel_rfl) (by kernel_rfl) (by kernel_rfl) (fun _ _ _ h => h) (Or.inr ⟨by rfl, rfl⟩) (by assumption) ?_
              simp only [Act.put, List.setIfInBounds_toArray, List.set_cons_zero, List.set_cons_succ, List.getElem_toArray, List.getElem_cons_zero, List.getElem_cons_succ]
              refine wpAnyH_take (i := 38) (v := undef) rfl (by kernel_rfl) (by kernel_rfl) (by kernel_rfl) (fun _ _ _ h => h) (Or.inr ⟨by rfl, rfl⟩) (by assumption) ?_
              simp only [Act.put, List.setIfInBounds_toArray, List.set_cons_zero, List.set_cons_succ, List.getElem_toArray, List.getElem_cons_zero, List.getElem_cons_succ]
              refine wpAnyH_take (i := 39) (v := undef) rfl (by kernel_rfl) (by kernel_rfl) (by kernel_rfl) (fun _ _ _ h => h) (Or.inr ⟨by rfl, rfl⟩) (by assumption) ?_
              simp only [Act.put, List.setIfInBounds_toArray, List.set_cons_zero, List.set_cons_succ, List.getElem_toArray, List.getElem_cons_zero, List.getElem_cons_succ]
              refine wpAnyH_take (i := 40) (v := undef) rfl (by kernel_rfl) (by kernel_rfl) (by kernel_rfl) (fun _ _ _ h => h) (Or.inr ⟨by rfl, rfl⟩) (by assumption) ?_
              simp only [Act.put, List.setIfInBounds_toArray, List.set_cons_zero, List.set_cons_succ, List.getElem_toArray, List.getElem_cons_zero, List.getElem_cons_succ]
              refine wpAnyH_take (i := 41) (v := undef) rfl (by kernel_rfl) (by kernel_rfl) (by kernel_rfl) (fun _ _ _ h => h) (Or.inr ⟨by rfl, rfl⟩) (by assumption) ?_
              simp only [Act.put, List.setIfInBounds_toArray, List.set_cons_zero, List.set_cons_succ, List.getElem_toArray, List.getElem_cons_zero, List.getElem_cons_succ]
              refine wpAnyH_take (i := 42) (v := undef) rfl (by kernel_rfl) (by kernel_rfl) (by kernel_rfl) (fun _ _ _ h => h) (Or.inr ⟨by rfl, rfl⟩) (by assumption) ?_
              simp only [Act.put, List.setIfInBounds_toArray, List.set_cons_zero, List.set_cons_succ, List.getElem_toArray, List.getElem_cons_zero, List.getElem_cons_succ]
              refine wpAnyH_take (i := 43) (v := undef) rfl (by kernel_rfl) (by kernel_rfl) (by kernel_rfl) (fun _ _ _ h => h) (Or.inr ⟨by rfl, rfl⟩) (by assumption) ?_
              simp only [Act.put, List.setIfInBounds_toArray, List.set_cons_zero, List.set_cons_succ, List.getElem_toArray, List.getElem_cons_zero, List.getElem_cons_succ]
              refine wpAnyH_take (i := 44) (v := ?_) rfl (by kernel_rfl) (by kernel_rfl) (by kernel_rfl) (fun _ _ _ h => h) (Or.inl ⟨by rfl, ?_⟩) (by assumption) ?_
              rotate_left 1
              · ((intro w hSw; (try dsimp only at hSw); go_simp); (try with_reducible rfl))
              simp only [Act.put, List.setIfInBounds_toArray, List.set_cons_zero, List.set_cons_succ, List.getElem_toArray, List.getElem_cons_zero, List.getElem_cons_succ]
              refine wpAnyH_take (i := 45) (v := ?_) rfl (by kernel_rfl) (by kernel_rfl) (by kernel_rfl) (fun _ _ _ h => h) (Or.inl ⟨by rfl, ?_⟩) (by assumption) ?_
              rotate_left 1
              · ((intro w hSw; (try dsimp only at hSw); go_simp); (try with_reducible rfl))
              simp only [Act.put, List.setIfInBounds_toArray, List.set_cons_zero, List.set_cons_succ, List.getElem_toArray, List.getElem_cons_zero, List.getElem_cons_succ]
              refine wpAnyH_done (by kernel_rfl) ?_ _
              clear hHeld
              go_wp2_with fail
              go_roundg (zl - 1)
              case measure => have := Hj.out; omega
              case rel => exact ⟨1, by have := Hj.out; omega, by go_num, HPut.out, HT6.out⟩
            · obtain ⟨p, hp⟩ : ∃ p : Nat, (j : Int) - 1 = (p : Int) := ⟨j - 1, by omega⟩
              have hpj : p + 1 = j := by omega
              obtain ⟨t', ht', hZp, hNp⟩ := FJ.out p (by omega)
              have cP := hcF p (by omega)
              rw [hZp] at cP
              have HA := hidp (FS.out p (by omega))
              rw [hpj, ← hNp, ← hNt] at HA
              obtain ⟨a, Ha⟩ : ∃ a, Hid (N.getD t' default = a) := ⟨_, hidp rfl⟩
              obtain ⟨b, Hb⟩ : ∃ b, Hid (N.getD t default = b) := ⟨_, hidp rfl⟩
              rw [Ha.out, Hb.out] at HA
              have ca := hNw.at_ (i := t') (by rw [HNl.out]; exact ht')
              have cb := hNw.at_ (i := t) (by rw [HNl.out]; exact ht)
              rw [Ha.out] at ca
              rw [Hb.out] at cb
              have wa : a.wf := by rw [← Ha.out]; exact HWN.out _ (whos_mem (by rw [HNl.out]; exact ht'))
              have wb : b.wf := by rw [← Hb.out]; exact HWN.out _ (whos_mem (by rw [HNl.out]; exact ht))
              obtain ⟨xa, ya, ua⟩ := a
              obtain ⟨xb, yb, ub⟩ := b
              have hS : wr.drew.cell? ⟨gF, oF + j, none⟩ = some (.int .i64 (t : Int)) ∧ wr.drew.cell? ⟨w5.heap.size, t, none⟩ = some (.bool false) ∧ wr.drew.cell? ⟨gF, oF + p, none⟩ = some (.int .i64 (t' : Int)) ∧ wr.drew.cell? ⟨g, t' * 3, none⟩ = some (.int .i64 xa) ∧ wr.drew.cell? ⟨g, t' * 3 + 1, none⟩ = some (.int .i64 ya) ∧ wr.drew.cell? ⟨g, t' * 3 + 2, none⟩ = some (.int .i64 ua) ∧ wr.drew.cell? ⟨g, t * 3, none⟩ = some (.int .i64 xb) ∧ wr.drew.cell? ⟨g, t * 3 + 1, none⟩ = some (.int .i64 yb) ∧ wr.drew.cell? ⟨g, t * 3 + 2, none⟩ = some (.int .i64 ub) := ⟨cF, cB, cP, ca.1, ca.2.1, ca.2.2, cb.1, cb.2.1, cb.2.2⟩
              have jp : (0 : Int) < (j : Int) := by omega
              have jz2 : decide (0 < j) = true := by simpa using hpj ▸ Nat.succ_pos p
              have wp : IntKind.i64.wrap ((j : Int) - 1) = (p : Int) := by rw [hp]; exact IntWalk.i64_in _ (by have := HZm.out; omega)
              have p0 : (0 : Int) ≤ (p : Int) := by omega
              have p1 : (p : Int) < (zl : Int) := by omega
              have u0 : (0 : Int) ≤ (t' : Int) := by omega
              have u1 : (t' : Int) < (m : Int) := by omega
              have Hj := hidp hj
              have HBK := hidp hbk
              have HT5 := hidp ht5
              have Hjz := hidp hjZ
              have HZt := hidp hZt
              have Htm := hidp ht
              clear hbk ht5 hbw hgB hg1 hg2 hZt hNt hjZ hcF hnd hNw hlt hj cF cB cP ca cb ht ht' hp hpj hZp hNp fB HPut HT6 hj0
              go_wp2_with fail
              refine wp_region_held_drew (S := fun w' => w'.cell? ⟨gF, oF + j, none⟩ = some (.int .i64 (t : Int)) ∧ w'.cell? ⟨w5.heap.size, t, none⟩ = some (.bool false) ∧ w'.cell? ⟨gF, oF + p, none⟩ = some (.int .i64 (t' : Int)) ∧ w'.cell? ⟨g, t' * 3, none⟩ = some (.int .i64 xa) ∧ w'.cell? ⟨g, t' * 3 + 1, none⟩ = some (.int .i64 ya) ∧ w'.cell? ⟨g, t' * 3 + 2, none⟩ = some (.int .i64 ua) ∧ w'.cell? ⟨g, t * 3, none⟩ = some (.int .i64 xb) ∧ w'.cell? ⟨g, t * 3 + 1, none⟩ = some (.int .i64 yb) ∧ w'.cell? ⟨g, t * 3 + 2, none⟩ = some (.int .i64 ub)) (by kernel_rfl) ?_ (fun hHeld => ?_)
              · exact hS
              refine wpAnyH_take (i := 0) (v := ?_) rfl (by kernel_rfl) (by kernel_rfl) (by kernel_rfl) (fun _ _ _ h => h) (Or.inl ⟨by rfl, ?_⟩) (by assumption) ?_
              rotate_left 1
              · ((intro w hSw; (try dsimp only at hSw); go_simp); (try with_reducible rfl))
              simp only [Act.put, List.setIfInBounds_toArray, List.set_cons_zero, List.set_cons_succ, List.getElem_toArray, List.getElem_cons_zero, List.getElem_cons_succ]
              refine wpAnyH_take (i := 1) (v := ?_) rfl (by kernel_rfl) (by kernel_rfl) (by kernel_rfl) (fun _ _ _ h => h) (Or.inl ⟨by rfl, ?_⟩) (by assumption) ?_
              rotate_left 1
              · ((intro w hSw; (try dsimp only at hSw); go_simp); (try with_reducible rfl))
              simp only [Act.put, List.setIfInBounds_toArray, List.set_cons_zero, List.set_cons_succ, List.getElem_toArray, List.getElem_cons_zero, List.getElem_cons_succ]
              refine wpAnyH_take (i := 2) (v := ?_) rfl (by kernel_rfl) (by kernel_rfl) (by kernel_rfl) (fun _ _ _ h => h) (Or.inl ⟨by rfl, ?_⟩) (by assumption) ?_
              rotate_left 1
              · ((intro w hSw; (try dsimp only at hSw); go_simp); (try with_reducible rfl))
              simp only [Act.put, List.setIfInBounds_toArray, List.set_cons_zero, List.set_cons_succ, List.getElem_toArray, List.getElem_cons_zero, List.getElem_cons_succ]
              refine wpAnyH_take (i := 3) (v := ?_) rfl (by kernel_rfl) (by kernel_rfl) (by kernel_rfl) (fun _ _ _ h => h) (Or.inl ⟨by rfl, ?_⟩) (by assumption) ?_
              rotate_left 1
              · ((intro w hSw; (try dsimp only at hSw); go_simp); (try with_reducible rfl))
              simp only [Act.put, List.setIfInBounds_toArray, List.set_cons_zero, List.set_cons_succ, List.getElem_toArray, List.getElem_cons_zero, List.getElem_cons_succ]
              refine wpAnyH_take (i := 4) (v := ?_) rfl (by kernel_rfl) (by kernel_rfl) (by kernel_rfl) (fun _ _ _ h => h) (Or.inl ⟨by rfl, ?_⟩) (by assumption) ?_
              rotate_left 1
              · ((intro w hSw; (try dsimp only at hSw); go_simp); (try with_reducible rfl))
              simp only [Act.put, List.setIfInBounds_toArray, List.set_cons_zero, List.set_cons_succ, List.getElem_toArray, List.getElem_cons_zero, List.getElem_cons_succ]
              refine wpAnyH_take (i := 5) (v := ?_) rfl (by kernel_rfl) (by kernel_rfl) (by kernel_rfl) (fun _ _ _ h => h) (Or.inl ⟨by rfl, ?_⟩) (by assumption) ?_
              rotate_left 1
              · ((intro w hSw; (try dsimp only at hSw); go_simp); (try with_reducible rfl))
              simp only [Act.put, List.setIfInBounds_toArray, List.set_cons_zero, List.set_cons_succ, List.getElem_toArray, List.getElem_cons_zero, List.getElem_cons_succ]
              refine wpAnyH_take (i := 6) (v := ?_) rfl (by kernel_rfl) (by kernel_rfl) (by kernel_rfl) (fun _ _ _ h => h) (Or.inl ⟨by rfl, ?_⟩) (by assumption) ?_
              rotate_left 1
              · ((intro w hSw; (try dsimp only at hSw); go_simp); (try with_reducible rfl))
              simp only [Act.put, List.setIfInBounds_toArray, List.set_cons_zero, List.set_cons_succ, List.getElem_toArray, List.getElem_cons_zero, List.getElem_cons_succ]
              refine wpAnyH_take (i := 7) (v := ?_) rfl (by kernel_rfl) (by kernel_rfl) (by kernel_rfl) (fun _ _ _ h => h) (Or.inl ⟨by rfl, ?_⟩) (by assumption) ?_
              rotate_left 1
              · ((intro w hSw; (try dsimp only at hSw); go_simp); (try with_reducible rfl))
              simp only [Act.put, List.setIfInBounds_toArray, List.set_cons_zero, List.set_cons_succ, List.getElem_toArray, List.getElem_cons_zero, List.getElem_cons_succ]
              refine wpAnyH_take (i := 8) (v := ?_) rfl (by kernel_rfl) (by kernel_rfl) (by kernel_rfl) (fun _ _ _ h => h) (Or.inl ⟨by rfl, ?_⟩) (by assumption) ?_
              rotate_left 1
              · ((intro w hSw; (try dsimp only at hSw); go_simp); (try with_reducible rfl))
              simp only [Act.put, List.setIfInBounds_toArray, List.set_cons_zero, List.set_cons_succ, List.getElem_toArray, List.getElem_cons_zero, List.getElem_cons_succ]
              refine wpAnyH_take (i := 9) (v := ?_) rfl (by kernel_rfl) (by kernel_rfl) (by kernel_rfl) (fun _ _ _ h => h) (Or.inl ⟨by rfl, ?_⟩) (by assumption) ?_
              rotate_left 1
              · ((intro w hSw; (try dsimp only at hSw); go_simp); (try with_reducible rfl))
              simp only [Act.put, List.setIfInBounds_toArray, List.set_cons_zero, List.set_cons_succ, List.getElem_toArray, List.getElem_cons_zero, List.getElem_cons_succ]
              refine wpAnyH_take (i := 10) (v := ?_) rfl (by kernel_rfl) (by kernel_rfl) (by kernel_rfl) (fun _ _ _ h => h) (Or.inl ⟨by rfl, ?_⟩) (by assumption) ?_
              rotate_left 1
              · ((intro w hSw; (try dsimp only at hSw); go_simp); (try with_reducible rfl))
              simp only [Act.put, List.setIfInBounds_toArray, List.set_cons_zero, List.set_cons_succ, List.getElem_toArray, List.getElem_cons_zero, List.getElem_cons_succ]
              refine wpAnyH_take (i := 11) (v := ?_) rfl (by kernel_rfl) (by kernel_rfl) (by kernel_rfl) (fun _ _ _ h => h) (Or.inl ⟨by rfl, ?_⟩) (by assumption) ?_
              rotate_left 1
              · ((intro w hSw; (try dsimp only at hSw); go_simp); (try with_reducible rfl))
              simp only [Act.put, List.setIfInBounds_toArray, List.set_cons_zero, List.set_cons_succ, List.getElem_toArray, List.getElem_cons_zero, List.getElem_cons_succ]
              refine wpAnyH_take (i := 12) (v := ?_) rfl (by kernel_rfl) (by kernel_rfl) (by kernel_rfl) (fun _ _ _ h => h) (Or.inl ⟨by rfl, ?_⟩) (by assumption) ?_
              rotate_left 1
              · ((intro w hSw; (try dsimp only at hSw); go_simp); (try with_reducible rfl))
              simp only [Act.put, List.setIfInBounds_toArray, List.set_cons_zero, List.set_cons_succ, List.getElem_toArray, List.getElem_cons_zero, List.getElem_cons_succ]
              refine wpAnyH_take (i := 13) (v := ?_) rfl (by kernel_rfl) (by kernel_rfl) (by kernel_rfl) (fun _ _ _ h => h) (Or.inl ⟨by rfl, ?_⟩) (by assumption) ?_
              rotate_left 1
              · ((intro w hSw; (try dsimp only at hSw); go_simp); (try with_reducible rfl))
              simp only [Act.put, List.setIfInBounds_toArray, List.set_cons_zero, List.set_cons_succ, List.getElem_toArray, List.getElem_cons_zero, List.getElem_cons_succ]
              refine wpAnyH_take (i := 14) (v := ?_) rfl (by kernel_rfl) (by kernel_rfl) (by kernel_rfl) (fun _ _ _ h => h) (Or.inl ⟨by rfl, ?_⟩) (by assumption) ?_
              rotate_left 1
              · ((intro w hSw; (try dsimp only at hSw); go_simp); (try with_reducible rfl))
              simp only [Act.put, List.setIfInBounds_toArray, List.set_cons_zero, List.set_cons_succ, List.getElem_toArray, List.getElem_cons_zero, List.getElem_cons_succ]
              refine wpAnyH_take (i := 15) (v := ?_) rfl (by kernel_rfl) (by kernel_rfl) (by kernel_rfl) (fun _ _ _ h => h) (Or.inl ⟨by rfl, ?_⟩) (by assumption) ?_
              rotate_left 1
              · ((intro w hSw; (try dsimp only at hSw); go_simp); (try with_reducible rfl))
              simp only [Act.put, List.setIfInBounds_toArray, List.set_cons_zero, List.set_cons_succ, List.getElem_toArray, List.getElem_cons_zero, List.getElem_cons_succ]
              refine wpAnyH_take (i := 16) (v := ?_) rfl (by kernel_rfl) (by kernel_rfl) (by kernel_rfl) (fun _ _ _ h => h) (Or.inl ⟨by rfl, ?_⟩) (by assumption) ?_
              rotate_left 1
              · ((intro w hSw; (try dsimp only at hSw); go_simp); (try with_reducible rfl))
              simp only [Act.put, List.setIfInBounds_toArray, List.set_cons_zero, List.set_cons_succ, List.getElem_toArray, List.getElem_cons_zero, List.getElem_cons_succ]
              refine wpAnyH_take (i := 17) (v := ?_) rfl (by kernel_rfl) (by kernel_rfl) (by kernel_rfl) (fun _ _ _ h => h) (Or.inl ⟨by rfl, ?_⟩) (by assumption) ?_
              rotate_left 1
              · ((intro w hSw; (try dsimp only at hSw); go_simp); (try with_reducible rfl))
              simp only [Act.put, List.setIfInBounds_toArray, List.set_cons_zero, List.set_cons_succ, List.getElem_toArray, List.getElem_cons_zero, List.getElem_cons_succ]
              refine wpAnyH_take (i := 18) (v := ?_) rfl (by kernel_rfl) (by kernel_rfl) (by kernel_rfl) (fun _ _ _ h => h) (Or.inl ⟨by rfl, ?_⟩) (by assumption) ?_
              rotate_left 1
              · ((intro w hSw; (try dsimp only at hSw); go_simp); (try with_reducible rfl))
              simp only [Act.put, List.setIfInBounds_toArray, List.set_cons_zero, List.set_cons_succ, List.getElem_toArray, List.getElem_cons_zero, List.getElem_cons_succ]
              refine wpAnyH_take (i := 19) (v := ?_) rfl (by kernel_rfl) (by kernel_rfl) (by kernel_rfl) (fun _ _ _ h => h) (Or.inl ⟨by rfl, ?_⟩) (by assumption) ?_
              rotate_left 1
              · ((intro w hSw; (try dsimp only at hSw); go_simp); (try with_reducible rfl))
              simp only [Act.put, List.setIfInBounds_toArray, List.set_cons_zero, List.set_cons_succ, List.getElem_toArray, List.getElem_cons_zero, List.getElem_cons_succ]
              refine wpAnyH_take (i := 20) (v := ?_) rfl (by kernel_rfl) (by kernel_rfl) (by kernel_rfl) (fun _ _ _ h => h) (Or.inl ⟨by rfl, ?_⟩) (by assumption) ?_
              rotate_left 1
              · ((intro w hSw; (try dsimp only at hSw); go_simp); (try with_reducible rfl))
              simp only [Act.put, List.setIfInBounds_toArray, List.set_cons_zero, List.set_cons_succ, List.getElem_toArray, List.getElem_cons_zero, List.getElem_cons_succ]
              refine wpAnyH_take (i := 21) (v := ?_) rfl (by kernel_rfl) (by kernel_rfl) (by kernel_rfl) (fun _ _ _ h => h) (Or.inl ⟨by rfl, ?_⟩) (by assumption) ?_
              rotate_left 1
              · ((intro w hSw; (try dsimp only at hSw); go_simp); (try with_reducible rfl))
              simp only [Act.put, List.setIfInBounds_toArray, List.set_cons_zero, List.set_cons_succ, List.getElem_toArray, List.getElem_cons_zero, List.getElem_cons_succ]
              refine wpAnyH_take (i := 22) (v := ?_) rfl (by kernel_rfl) (by kernel_rfl) (by kernel_rfl) (fun _ _ _ h => h) (Or.inl ⟨by rfl, ?_⟩) (by assumption) ?_
              rotate_left 1
              · ((intro w hSw; (try dsimp only at hSw); go_simp); (try with_reducible rfl))
              simp only [Act.put, List.setIfInBounds_toArray, List.set_cons_zero, List.set_cons_succ, List.getElem_toArray, List.getElem_cons_zero, List.getElem_cons_succ]
              refine wpAnyH_take (i := 23) (v := ?_) rfl (by kernel_rfl) (by kernel_rfl) (by kernel_rfl) (fun _ _ _ h => h) (Or.inl ⟨by rfl, ?_⟩) (by assumption) ?_
              rotate_left 1
              · ((intro w hSw; (try dsimp only at hSw); go_simp); (try with_reducible rfl))
              simp only [Act.put, List.setIfInBounds_toArray, List.set_cons_zero, List.set_cons_succ, List.getElem_toArray, List.getElem_cons_zero, List.getElem_cons_succ]
              refine wpAnyH_take (i := 24) (v := ?_) rfl (by kernel_rfl) (by kernel_rfl) (by kernel_rfl) (fun _ _ _ h => h) (Or.inl ⟨by rfl, ?_⟩) (by assumption) ?_
              rotate_left 1
              · ((intro w hSw; (try dsimp only at hSw); go_simp); (try with_reducible rfl))
              simp only [Act.put, List.setIfInBounds_toArray, List.set_cons_zero, List.set_cons_succ, List.getElem_toArray, List.getElem_cons_zero, List.getElem_cons_succ]
              refine wpAnyH_take (i := 25) (v := ?_) rfl (by kernel_rfl) (by kernel_rfl) (by kernel_rfl) (fun _ _ _ h => h) (Or.inl ⟨by rfl, ?_⟩) (by assumption) ?_
              rotate_left 1
              · ((intro w hSw; (try dsimp only at hSw); go_simp); (try with_reducible rfl))
              simp only [Act.put, List.setIfInBounds_toArray, List.set_cons_zero, List.set_cons_succ, List.getElem_toArray, List.getElem_cons_zero, List.getElem_cons_succ]
              refine wpAnyH_take (i := 26) (v := ?_) rfl (by kernel_rfl) (by kernel_rfl) (by kernel_rfl) (fun _ _ _ h => h) (Or.inl ⟨by rfl, ?_⟩) (by assumption) ?_
              rotate_left 1
              · ((intro w hSw; (try dsimp only at hSw); go_simp); (try with_reducible rfl))
              simp only [Act.put, List.setIfInBounds_toArray, List.set_cons_zero, List.set_cons_succ, List.getElem_toArray, List.getElem_cons_zero, List.getElem_cons_succ]
              refine wpAnyH_take (i := 27) (v := ?_) rfl (by kernel_rfl) (by kernel_rfl) (by kernel_rfl) (fun _ _ _ h => h) (Or.inl ⟨by rfl, ?_⟩) (by assumption) ?_
              rotate_left 1
              · ((intro w hSw; (try dsimp only at hSw); go_simp); (try with_reducible rfl))
              simp only [Act.put, List.setIfInBounds_toArray, List.set_cons_zero, List.set_cons_succ, List.getElem_toArray, List.getElem_cons_zero, List.getElem_cons_succ]
              refine wpAnyH_take (i := 28) (v := ?_) rfl (by kernel_rfl) (by kernel_rfl) (by kernel_rfl) (fun _ _ _ h => h) (Or.inl ⟨by rfl, ?_⟩) (by assumption) ?_
              rotate_left 1
              · ((intro w hSw; (try dsimp only at hSw); go_simp); (try with_reducible rfl))
              simp only [Act.put, List.setIfInBounds_toArray, List.set_cons_zero, List.set_cons_succ, List.getElem_toArray, List.getElem_cons_zero, List.getElem_cons_succ]
              refine wpAnyH_take (i := 29) (v := ?_) rfl (by kernel_rfl) (by kernel_rfl) (by kernel_rfl) (fun _ _ _ h => h) (Or.inl ⟨by rfl, ?_⟩) (by assumption) ?_
              rotate_left 1
              · ((intro w hSw; (try dsimp only at hSw); go_simp); (try with_reducible rfl))
              simp only [Act.put, List.setIfInBounds_toArray, List.set_cons_zero, List.set_cons_succ, List.getElem_toArray, List.getElem_cons_zero, List.getElem_cons_succ]
              refine wpAnyH_take (i := 30) (v := ?_) rfl (by kernel_rfl) (by kernel_rfl) (by kernel_rfl) (fun _ _ _ h => h) (Or.inl ⟨by rfl, ?_⟩) (by assumption) ?_
              rotate_left 1
              · ((intro w hSw; (try dsimp only at hSw); go_simp); (try with_reducible rfl))
              simp only [Act.put, List.setIfInBounds_toArray, List.set_cons_zero, List.set_cons_succ, List.getElem_toArray, List.getElem_cons_zero, List.getElem_cons_succ]
              refine wpAnyH_take (i := 31) (v := ?_) rfl (by kernel_rfl) (by kernel_rfl) (by kernel_rfl) (fun _ _ _ h => h) (Or.inl ⟨by rfl, ?_⟩) (by assumption) ?_
              rotate_left 1
              · ((intro w hSw; (try dsimp only at hSw); go_simp); (try with_reducible rfl))
              simp only [Act.put, List.setIfInBounds_toArray, List.set_cons_zero, List.set_cons_succ, List.getElem_toArray, List.getElem_cons_zero, List.getElem_cons_succ]
              refine wpAnyH_take (i := 32) (v := ?_) rfl (by kernel_rfl) (by kernel_rfl) (by kernel_rfl) (fun _ _ _ h => h) (Or.inl ⟨by rfl, ?_⟩) (by assumption) ?_
              rotate_left 1
              · ((intro w hSw; (try dsimp only at hSw); go_simp); (try with_reducible rfl))
              simp only [Act.put, List.setIfInBounds_toArray, List.set_cons_zero, List.set_cons_succ, List.getElem_toArray, List.getElem_cons_zero, List.getElem_cons_succ]
              refine wpAnyH_take (i := 33) (v := ?_) rfl (by kernel_rfl) (by kernel_rfl) (by kernel_rfl) (fun _ _ _ h => h) (Or.inl ⟨by rfl, ?_⟩) (by assumption) ?_
              rotate_left 1
              · ((intro w hSw; (try dsimp only at hSw); go_simp); (try with_reducible rfl))
              simp only [Act.put, List.setIfInBounds_toArray, List.set_cons_zero, List.set_cons_succ, List.getElem_toArray, List.getElem_cons_zero, List.getElem_cons_succ]
              refine wpAnyH_take (i := 34) (v := ?_) rfl (by kernel_rfl) (by kernel_rfl) (by kernel_rfl) (fun _ _ _ h => h) (Or.inl ⟨by rfl, ?_⟩) (by assumption) ?_
              rotate_left 1
              · ((intro w hSw; (try dsimp only at hSw); go_simp); (try with_reducible rfl))
              simp only [Act.put, List.setIfInBounds_toArray, List.set_cons_zero, List.set_cons_succ, List.getElem_toArray, List.getElem_cons_zero, List.getElem_cons_succ]
              refine wpAnyH_take (i := 35) (v := ?_) rfl (by kernel_rfl) (by kernel_rfl) (by kernel_rfl) (fun _ _ _ h => h) (Or.inl ⟨by rfl, ?_⟩) (by assumption) ?_
              rotate_left 1
              · ((intro w hSw; (try dsimp only at hSw); go_simp); (try with_reducible rfl))
              simp only [Act.put, List.setIfInBounds_toArray, List.set_cons_zero, List.set_cons_succ, List.getElem_toArray, List.getElem_cons_zero, List.getElem_cons_succ]
              refine wpAnyH_take (i := 36) (v := ?_) rfl (by kernel_rfl) (by kernel_rfl) (by kernel_rfl) (fun _ _ _ h => h) (Or.inl ⟨by rfl, ?_⟩) (by assumption) ?_
              rotate_left 1
              · ((intro w hSw; (try dsimp only at hSw); go_simp); (try with_reducible rfl))
              simp only [Act.put, List.setIfInBounds_toArray, List.set_cons_zero, List.set_cons_succ, List.getElem_toArray, List.getElem_cons_zero, List.getElem_cons_succ]
              refine wpAnyH_take (i := 37) (v := ?_) rfl (by kernel_rfl) (by kernel_rfl) (by kernel_rfl) (fun _ _ _ h => h) (Or.inl ⟨by rfl, ?_⟩) (by assumption) ?_
              rotate_left 1
              · ((intro w hSw; (try dsimp only at hSw); go_simp); (try with_reducible rfl))
              simp only [Act.put, List.setIfInBounds_toArray, List.set_cons_zero, List.set_cons_succ, List.getElem_toArray, List.getElem_cons_zero, List.getElem_cons_succ]
              refine wpAnyH_take (i := 38) (v := ?_) rfl (by kernel_rfl) (by kernel_rfl) (by kernel_rfl) (fun _ _ _ h => h) (Or.inl ⟨by rfl, ?_⟩) (by assumption) ?_
              rotate_left 1
              · ((intro w hSw; (try dsimp only at hSw); go_simp); (try with_reducible rfl))
              simp only [Act.put, List.setIfInBounds_toArray, List.set_cons_zero, List.set_cons_succ, List.getElem_toArray, List.getElem_cons_zero, List.getElem_cons_succ]
              refine wpAnyH_take (i := 39) (v := ?_) rfl (by kernel_rfl) (by kernel_rfl) (by kernel_rfl) (fun _ _ _ h => h) (Or.inl ⟨by rfl, ?_⟩) (by assumption) ?_
              rotate_left 1
              · ((intro w hSw; (try dsimp only at hSw); go_simp); (try with_reducible rfl))
              simp only [Act.put, List.setIfInBounds_toArray, List.set_cons_zero, List.set_cons_succ, List.getElem_toArray, List.getElem_cons_zero, List.getElem_cons_succ]
              refine wpAnyH_take (i := 40) (v := ?_) rfl (by kernel_rfl) (by kernel_rfl) (by kernel_rfl) (fun _ _ _ h => h) (Or.inl ⟨by rfl, ?_⟩) (by assumption) ?_
              rotate_left 1
              · ((intro w hSw; (try dsimp only at hSw); go_simp); (try with_reducible rfl))
              simp only [Act.put, List.setIfInBounds_toArray, List.set_cons_zero, List.set_cons_succ, List.getElem_toArray, List.getElem_cons_zero, List.getElem_cons_succ]
              refine wpAnyH_take (i := 41) (v := ?_) rfl (by kernel_rfl) (by kernel_rfl) (by kernel_rfl) (fun _ _ _ h => h) (Or.inl ⟨by rfl, ?_⟩) (by assumption) ?_
              rotate_left 1
              · ((intro w hSw; (try dsimp only at hSw); go_simp); (try with_reducible rfl))
              simp only [Act.put, List.setIfInBounds_toArray, List.set_cons_zero, List.set_cons_succ, List.getElem_toArray, List.getElem_cons_zero, List.getElem_cons_succ]
              refine wpAnyH_ready (rs := [42]) (by kernel_rfl) (by simp) ?_
              refine AllReadyH.cons rfl (fun K hK => ?_) AllReadyH.nil
              go_simp
              refine (ahead_any ⟨xa, ya, ua⟩ ⟨xb, yb, ub⟩ _ wa wb).mono ?_
              rintro e uw ⟨rfl, hb3⟩
              rw [HA.out]
              have k3 := Keeps2 hb3
              replace hS := (And.intro (k3 _ _ hS.1) (And.intro (k3 _ _ hS.2.1) (And.intro (k3 _ _ hS.2.2.1) (And.intro (k3 _ _ hS.2.2.2.1) (And.intro (k3 _ _ hS.2.2.2.2.1) (And.intro (k3 _ _ hS.2.2.2.2.2.1) (And.intro (k3 _ _ hS.2.2.2.2.2.2.1) (And.intro (k3 _ _ hS.2.2.2.2.2.2.2.1) (k3 _ _ hS.2.2.2.2.2.2.2.2)))))))))
              clear hHeld k3
              go_wp2_with fail
              refine hK.out _ _ ?_ (fun hHeld => ?_)
              · exact hS
              clear hK K
              try simp only [Act.put, List.setIfInBounds_toArray, List.set_cons_zero, List.set_cons_succ, List.getElem_toArray, List.getElem_cons_zero, List.getElem_cons_succ]
              refine wpAnyH_take (i := 43) (v := ?_) rfl (by kernel_rfl) (by kernel_rfl) (by kernel_rfl) (fun _ _ _ h => h) (Or.inl ⟨by rfl, ?_⟩) (by assumption) ?_
              rotate_left 1
              · ((intro w hSw; (try dsimp only at hSw); go_simp); (try with_reducible rfl))
              simp only [Act.put, List.setIfInBounds_toArray, List.set_cons_zero, List.set_cons_succ, List.getElem_toArray, List.getElem_cons_zero, List.getElem_cons_succ]
              refine wpAnyH_take (i := 44) (v := ?_) rfl (by kernel_rfl) (by kernel_rfl) (by kernel_rfl) (fun _ _ _ h => h) (Or.inl ⟨by rfl, ?_⟩) (by assumption) ?_
              rotate_left 1
              · ((intro w hSw; (try dsimp only at hSw); go_simp); (try with_reducible rfl))
              simp only [Act.put, List.setIfInBounds_toArray, List.set_cons_zero, List.set_cons_succ, List.getElem_toArray, List.getElem_cons_zero, List.getElem_cons_succ]
              refine wpAnyH_take (i := 45) (v := ?_) rfl (by kernel_rfl) (by kernel_rfl) (by kernel_rfl) (fun _ _ _ h => h) (Or.inl ⟨by rfl, ?_⟩) (by assumption) ?_
              rotate_left 1
              · ((intro w hSw; (try dsimp only at hSw); go_simp); (try with_reducible rfl))
              simp only [Act.put, List.setIfInBounds_toArray, List.set_cons_zero, List.set_cons_succ, List.getElem_toArray, List.getElem_cons_zero, List.getElem_cons_succ]
              refine wpAnyH_done (by kernel_rfl) ?_ _
              clear hHeld
              have hbk0 : Bk wr.drew w5.heap.size 4 (seenA Z m j) := HBK.out
              have hbk := hbk0.turned (Turned.of_below hb3 []) (by simp)
              have ht5 := HT5.out.drew.trans (Turned.of_below hb3 []) (by simp)
              have HPut : Hid (Bk (uw.setCell ⟨w5.heap.size, t, none⟩ (.bool true)) w5.heap.size 4 (seenA Z m (j + 1))) := hidp (by
                have := hbk.put t (.bool true)
                rw [seenA_put (j := j) Htm.out Hjz.out HZt.out] at this
                exact this)
              have HT6 : Hid (Turned [w5.heap.size] (w5.alloc (.cells (Array.replicate m (Value.bool false)) 4)) (uw.setCell ⟨w5.heap.size, t, none⟩ (.bool true))) := hidp (ht5.setCell (.inl (by simp)) _)
              have fB := hbk.frozen t
              obtain ⟨cF, cB, cZ⟩ := hS
              clear hbk hbk0 ht5 hb3 cZ
              go_wp2_with fail
              go_roundg (zl - j - 1)
              case measure => have := Hj.out; omega
              case rel => exact ⟨j + 1, by have := Hj.out; omega, by go_num, HPut.out, HT6.out⟩
          · obtain rfl : j = zl := by omega
            have HBK := hidp hbk
            have HBW := hidp hbw
            have jI : ¬ (j : Int) < (j : Int) := by omega
            have hbl := Below.refl wr.heap.size wr
            clear hbk ht5 hbw hgB hj
            obtain ⟨wo, rfl⟩ : ∃ wo, wo = wr := ⟨_, rfl⟩
            go_wp2
            go_loopg [18] m (fun gg i wx => ∃ q : Nat, q + gg = m ∧ i = .int .i64 q ∧ Below wo.heap.size wo wx)
            case atStart => exact ⟨0, by omega, rfl, hbl⟩
            case round =>
              clear hbl
              obtain ⟨q, hq, rfl, hbq⟩ := hrel
              by_cases hqm : q < m
              · have qI : (q : Int) < (m : Int) := by omega
                by_cases hz0 : 0 < j
                · have zI : (0 : Int) < (j : Int) := by omega
                  have zN : decide (0 < j) = true := by simpa using hz0
                  obtain ⟨g, rfl, hg1, hg2⟩ := who_own HN5.out.own (by omega)
                  have hbx := HBW.out.trans (hbq.mono HBW.out.size)
                  obtain ⟨sb, hsb⟩ : ∃ b, decide ((q : Int) ∈ Z.take j) = b := ⟨_, rfl⟩
                  have cS : wr.cell? ⟨w5.heap.size, q, none⟩ = some (.bool sb) := by
                    rw [(HBK.out.turned (Turned.of_below hbq []) (by simp)).cell q]
                    exact seenA_at hqm hsb
                  have q0 : (0 : Int) ≤ (q : Int) := by omega
                  have wq : IntKind.i64.wrap ((q : Int) + 1) = (q : Int) + 1 := IntWalk.i64_in _ (by omega)
                  cases sb with
                  | true =>
                    have HBQ := hidp hbq.drew
                    have Hq := hidp hq
                    clear hbq hbx hq hg1 hg2 hsb hlt
                    go_wp2_with fail
                    refine wp_region_held_drew (S := fun w' => w'.cell? ⟨w5.heap.size, q, none⟩ = some (.bool true)) (by kernel_rfl) ?_ (fun hHeld => ?_)
                    · exact cS
                    refine wpAnyH_take (i := 0) (v := ?_) rfl (by kernel_rfl) (by kernel_rfl) (by kernel_rfl) (fun _ _ _ h => h) (Or.inl ⟨by rfl, ?_⟩) (by assumption) ?_
                    rotate_left 1
                    · ((intro w hSw; (try dsimp only at hSw); go_simp); (try with_reducible rfl))
                    simp only [Act.put, List.setIfInBounds_toArray, List.set_cons_zero, List.set_cons_succ, List.getElem_toArray, List.getElem_cons_zero, List.getElem_cons_succ]
                    refine wpAnyH_take (i := 1) (v := ?_) rfl (by kernel_rfl) (by kernel_rfl) (by kernel_rfl) (fun _ _ _ h => h) (Or.inl ⟨by rfl, ?_⟩) (by assumption) ?_
                    rotate_left 1
                    · ((intro w hSw; (try dsimp only at hSw); go_simp); (try with_reducible rfl))
                    simp only [Act.put, List.setIfInBounds_toArray, List.set_cons_zero, List.set_cons_succ, List.getElem_toArray, List.getElem_cons_zero, List.getElem_cons_succ]
                    refine wpAnyH_take (i := 2) (v := ?_) rfl (by kernel_rfl) (by kernel_rfl) (by kernel_rfl) (fun _ _ _ h => h) (Or.inl ⟨by rfl, ?_⟩) (by assumption) ?_
                    rotate_left 1
                    · ((intro w hSw; (try dsimp only at hSw); go_simp); (try with_reducible rfl))
                    simp only [Act.put, List.setIfInBounds_toArray, List.set_cons_zero, List.set_cons_succ, List.getElem_toArray, List.getElem_cons_zero, List.getElem_cons_succ]
                    refine wpAnyH_take (i := 3) (v := ?_) rfl (by kernel_rfl) (by kernel_rfl) (by kernel_rfl) (fun _ _ _ h => h) (Or.inl ⟨by rfl, ?_⟩) (by assumption) ?_
                    rotate_left 1
                    · ((intro w hSw; (try dsimp only at hSw); go_simp); (try with_reducible rfl))
                    simp only [Act.put, List.setIfInBounds_toArray, List.set_cons_zero, List.set_cons_succ, List.getElem_toArray, List.getElem_cons_zero, List.getElem_cons_succ]
                    refine wpAnyH_take (i := 4) (v := ?_) rfl (by kernel_rfl) (by kernel_rfl) (by kernel_rfl) (fun _ _ _ h => h) (Or.inl ⟨by rfl, ?_⟩) (by assumption) ?_
                    rotate_left 1
                    · ((intro w hSw; (try dsimp only at hSw); go_simp); (try with_reducible rfl))
                    simp only [Act.put, List.setIfInBounds_toArray, List.set_cons_zero, List.set_cons_succ, List.getElem_toArray, List.getElem_cons_zero, List.getElem_cons_succ]
                    refine wpAnyH_take (i := 5) (v := ?_) rfl (by kernel_rfl) (by kernel_rfl) (by kernel_rfl) (fun _ _ _ h => h) (Or.inl ⟨by rfl, ?_⟩) (by assumption) ?_
                    rotate_left 1
                    · ((intro w hSw; (try dsimp only at hSw); go_simp); (try with_reducible rfl))
                    simp only [Act.put, List.setIfInBounds_toArray, List.set_cons_zero, List.set_cons_succ, List.getElem_toArray, List.getElem_cons_zero, List.getElem_cons_succ]
                    refine wpAnyH_take (i := 6) (v := undef) rfl (by kernel_rfl) (by kernel_rfl) (by kernel_rfl) (fun _ _ _ h => h) (Or.inr ⟨by rfl, rfl⟩) (by assumption) ?_
                    simp only [Act.put, List.setIfInBounds_toArray, List.set_cons_zero, List.set_cons_succ, List.getElem_toArray, List.getElem_cons_zero, List.getElem_cons_succ]
                    refine wpAnyH_take (i := 7) (v := undef) rfl (by kernel_rfl) (by kernel_rfl) (by kernel_rfl) (fun _ _ _ h => h) (Or.inr ⟨by rfl, rfl⟩) (by assumption) ?_
                    simp only [Act.put, List.setIfInBounds_toArray, List.set_cons_zero, List.set_cons_succ, List.getElem_toArray, List.getElem_cons_zero, List.getElem_cons_succ]
                    refine wpAnyH_take (i := 8) (v := undef) rfl (by kernel_rfl) (by kernel_rfl) (by kernel_rfl) (fun _ _ _ h => h) (Or.inr ⟨by rfl, rfl⟩) (by assumption) ?_
                    simp only [Act.put, List.setIfInBounds_toArray, List.set_cons_zero, List.set_cons_succ, List.getElem_toArray, List.getElem_cons_zero, List.getElem_cons_succ]
                    refine wpAnyH_take (i := 9) (v := undef) rfl (by kernel_rfl) (by kernel_rfl) (by kernel_rfl) (fun _ _ _ h => h) (Or.inr ⟨by rfl, rfl⟩) (by assumption) ?_
                    simp only [Act.put, List.setIfInBounds_toArray, List.set_cons_zero, List.set_cons_succ, List.getElem_toArray, List.getElem_cons_zero, List.getElem_cons_succ]
                    refine wpAnyH_take (i := 10) (v := undef) rfl (by kernel_rfl) (by kernel_rfl) (by kernel_rfl) (fun _ _ _ h => h) (Or.inr ⟨by rfl, rfl⟩) (by assumption) ?_
                    simp only [Act.put, List.setIfInBounds_toArray, List.set_cons_zero, List.set_cons_succ, List.getElem_toArray, List.getElem_cons_zero, List.getElem_cons_succ]
                    refine wpAnyH_take (i := 11) (v := undef) rfl (by kernel_rfl) (by kernel_rfl) (by kernel_rfl) (fun _ _ _ h => h) (Or.inr ⟨by rfl, rfl⟩) (by assumption) ?_
                    simp only [Act.put, List.setIfInBounds_toArray, List.set_cons_zero, List.set_cons_succ, List.getElem_toArray, List.getElem_cons_zero, List.getElem_cons_succ]
                    refine wpAnyH_take (i := 12) (v := undef) rfl (by kernel_rfl) (by kernel_rfl) (by kernel_rfl) (fun _ _ _ h => h) (Or.inr ⟨by rfl, rfl⟩) (by assumption) ?_
                    simp only [Act.put, List.setIfInBounds_toArray, List.set_cons_zero, List.set_cons_succ, List.getElem_toArray, List.getElem_cons_zero, List.getElem_cons_succ]
                    refine wpAnyH_take (i := 13) (v := undef) rfl (by kernel_rfl) (by kernel_rfl) (by kernel_rfl) (fun _ _ _ h => h) (Or.inr ⟨by rfl, rfl⟩) (by assumption) ?_
                    simp only [Act.put, List.setIfInBounds_toArray, List.set_cons_zero, List.set_cons_succ, List.getElem_toArray, List.getElem_cons_zero, List.getElem_cons_succ]
                    refine wpAnyH_take (i := 14) (v := undef) rfl (by kernel_rfl) (by kernel_rfl) (by kernel_rfl) (fun _ _ _ h => h) (Or.inr ⟨by rfl, rfl⟩) (by assumption) ?_
                    simp only [Act.put, List.setIfInBounds_toArray, List.set_cons_zero, List.set_cons_succ, List.getElem_toArray, List.getElem_cons_zero, List.getElem_cons_succ]
                    refine wpAnyH_take (i := 15) (v := undef) rfl (by kernel_rfl) (by kernel_rfl) (by kernel_rfl) (fun _ _ _ h => h) (Or.inr ⟨by rfl, rfl⟩) (by assumption) ?_
                    simp only [Act.put, List.setIfInBounds_toArray, List.set_cons_zero, List.set_cons_succ, List.getElem_toArray, List.getElem_cons_zero, List.getElem_cons_succ]
                    refine wpAnyH_take (i := 16) (v := undef) rfl (by kernel_rfl) (by kernel_rfl) (by kernel_rfl) (fun _ _ _ h => h) (Or.inr ⟨by rfl, rfl⟩) (by assumption) ?_
                    simp only [Act.put, List.setIfInBounds_toArray, List.set_cons_zero, List.set_cons_succ, List.getElem_toArray, List.getElem_cons_zero, List.getElem_cons_succ]
                    refine wpAnyH_take (i := 17) (v := undef) rfl (by kernel_rfl) (by kernel_rfl) (by kernel_rfl) (fun _ _ _ h => h) (Or.inr ⟨by rfl, rfl⟩) (by assumption) ?_
                    simp only [Act.put, List.setIfInBounds_toArray, List.set_cons_zero, List.set_cons_succ, List.getElem_toArray, List.getElem_cons_zero, List.getElem_cons_succ]
                    refine wpAnyH_take (i := 18) (v := undef) rfl (by kernel_rfl) (by kernel_rfl) (by kernel_rfl) (fun _ _ _ h => h) (Or.inr ⟨by rfl, rfl⟩) (by assumption) ?_
                    simp only [Act.put, List.setIfInBounds_toArray, List.set_cons_zero, List.set_cons_succ, List.getElem_toArray, List.getElem_cons_zero, List.getElem_cons_succ]
                    refine wpAnyH_take (i := 19) (v := undef) rfl (by kernel_rfl) (by kernel_rfl) (by kernel_rfl) (fun _ _ _ h => h) (Or.inr ⟨by rfl, rfl⟩) (by assumption) ?_
                    simp only [Act.put, List.setIfInBounds_toArray, List.set_cons_zero, List.set_cons_succ, List.getElem_toArray, List.getElem_cons_zero, List.getElem_cons_succ]
                    refine wpAnyH_take (i := 20) (v := ?_) rfl (by kernel_rfl) (by kernel_rfl) (by kernel_rfl) (fun _ _ _ h => h) (Or.inl ⟨by rfl, ?_⟩) (by assumption) ?_
                    rotate_left 1
                    · ((intro w hSw; (try dsimp only at hSw); go_simp); (try with_reducible rfl))
                    simp only [Act.put, List.setIfInBounds_toArray, List.set_cons_zero, List.set_cons_succ, List.getElem_toArray, List.getElem_cons_zero, List.getElem_cons_succ]
                    refine wpAnyH_done (by kernel_rfl) ?_ _
                    clear hHeld
                    go_wp2_with fail
                    go_roundg (m - q - 1)
                    case measure => have := Hq.out; omega
                    case rel => exact ⟨q + 1, by have := Hq.out; omega, by go_num, HBQ.out⟩
                  | false =>
                    obtain ⟨p, hp⟩ : ∃ p : Nat, (j : Int) - 1 = (p : Int) := ⟨j - 1, by omega⟩
                    have hpj : p + 1 = j := by omega
                    have hjz : Z.length = j := Hzl.out
                    obtain ⟨gF, oF, rfl, hcF⟩ := (HR5.out.mono (Keeps2 hbx)).resolve_left (by intro e; rw [e] at hjz; simp at hjz; omega)
                    obtain ⟨t', ht', hZp, hNp⟩ := FJ.out p (by omega)
                    have cP := hcF p (by omega)
                    rw [hZp] at cP
                    have HA := hidp (FB.out q hqm (by rw [List.take_of_length_le (by omega)] at hsb; exact of_decide_eq_false hsb) hz0)
                    rw [show j - 1 = p by omega, ← hNp] at HA
                    obtain ⟨a, Ha⟩ : ∃ a, Hid (N.getD q default = a) := ⟨_, hidp rfl⟩
                    obtain ⟨b, Hb⟩ : ∃ b, Hid (N.getD t' default = b) := ⟨_, hidp rfl⟩
                    rw [Ha.out, Hb.out] at HA
                    have hNw := HN5.out.turned (Turned.of_below hbx []) (by simp)
                    have ca := hNw.at_ (i := q) (by rw [HNl.out]; exact hqm)
                    have cb := hNw.at_ (i := t') (by rw [HNl.out]; exact ht')
                    rw [Ha.out] at ca
                    rw [Hb.out] at cb
                    have wa : a.wf := by rw [← Ha.out]; exact HWN.out _ (whos_mem (by rw [HNl.out]; exact hqm))
                    have wb : b.wf := by rw [← Hb.out]; exact HWN.out _ (whos_mem (by rw [HNl.out]; exact ht'))
                    obtain ⟨xa, ya, ua⟩ := a
                    obtain ⟨xb, yb, ub⟩ := b
                    have hS : wr.drew.cell? ⟨w5.heap.size, q, none⟩ = some (.bool false) ∧ wr.drew.cell? ⟨gF, oF + p, none⟩ = some (.int .i64 (t' : Int)) ∧ wr.drew.cell? ⟨g, q * 3, none⟩ = some (.int .i64 xa) ∧ wr.drew.cell? ⟨g, q * 3 + 1, none⟩ = some (.int .i64 ya) ∧ wr.drew.cell? ⟨g, q * 3 + 2, none⟩ = some (.int .i64 ua) ∧ wr.drew.cell? ⟨g, t' * 3, none⟩ = some (.int .i64 xb) ∧ wr.drew.cell? ⟨g, t' * 3 + 1, none⟩ = some (.int .i64 yb) ∧ wr.drew.cell? ⟨g, t' * 3 + 2, none⟩ = some (.int .i64 ub) := ⟨cS, cP, ca.1, ca.2.1, ca.2.2, cb.1, cb.2.1, cb.2.2⟩
                    have wp : IntKind.i64.wrap ((j : Int) - 1) = (p : Int) := by rw [hp]; exact IntWalk.i64_in _ (by have := HZm.out; omega)
                    have p0 : (0 : Int) ≤ (p : Int) := by omega
                    have p1 : (p : Int) < (j : Int) := by omega
                    have u0 : (0 : Int) ≤ (t' : Int) := by omega
                    have u1 : (t' : Int) < (m : Int) := by omega
                    have HBQ := hidp hbq.drew
                    have Hq := hidp hq
                    clear hbq hbx hq hg1 hg2 hsb hlt hp hpj hjz hcF ht' hZp hNp cP hNw ca cb cS
                    go_wp2_with fail
                    refine wp_region_held_drew (S := fun w' => w'.cell? ⟨w5.heap.size, q, none⟩ = some (.bool false) ∧ w'.cell? ⟨gF, oF + p, none⟩ = some (.int .i64 (t' : Int)) ∧ w'.cell? ⟨g, q * 3, none⟩ = some (.int .i64 xa) ∧ w'.cell? ⟨g, q * 3 + 1, none⟩ = some (.int .i64 ya) ∧ w'.cell? ⟨g, q * 3 + 2, none⟩ = some (.int .i64 ua) ∧ w'.cell? ⟨g, t' * 3, none⟩ = some (.int .i64 xb) ∧ w'.cell? ⟨g, t' * 3 + 1, none⟩ = some (.int .i64 yb) ∧ w'.cell? ⟨g, t' * 3 + 2, none⟩ = some (.int .i64 ub)) (by kernel_rfl) ?_ (fun hHeld => ?_)
                    · exact hS
                    refine wpAnyH_take (i := 0) (v := ?_) rfl (by kernel_rfl) (by kernel_rfl) (by kernel_rfl) (fun _ _ _ h => h) (Or.inl ⟨by rfl, ?_⟩) (by assumption) ?_
                    rotate_left 1
                    · ((intro w hSw; (try dsimp only at hSw); go_simp); (try with_reducible rfl))
                    simp only [Act.put, List.setIfInBounds_toArray, List.set_cons_zero, List.set_cons_succ, List.getElem_toArray, List.getElem_cons_zero, List.getElem_cons_succ]
                    refine wpAnyH_take (i := 1) (v := ?_) rfl (by kernel_rfl) (by kernel_rfl) (by kernel_rfl) (fun _ _ _ h => h) (Or.inl ⟨by rfl, ?_⟩) (by assumption) ?_
                    rotate_left 1
                    · ((intro w hSw; (try dsimp only at hSw); go_simp); (try with_reducible rfl))
                    simp only [Act.put, List.setIfInBounds_toArray, List.set_cons_zero, List.set_cons_succ, List.getElem_toArray, List.getElem_cons_zero, List.getElem_cons_succ]
                    refine wpAnyH_take (i := 2) (v := ?_) rfl (by kernel_rfl) (by kernel_rfl) (by kernel_rfl) (fun _ _ _ h => h) (Or.inl ⟨by rfl, ?_⟩) (by assumption) ?_
                    rotate_left 1
                    · ((intro w hSw; (try dsimp only at hSw); go_simp); (try with_reducible rfl))
                    simp only [Act.put, List.setIfInBounds_toArray, List.set_cons_zero, List.set_cons_succ, List.getElem_toArray, List.getElem_cons_zero, List.getElem_cons_succ]
                    refine wpAnyH_take (i := 3) (v := ?_) rfl (by kernel_rfl) (by kernel_rfl) (by kernel_rfl) (fun _ _ _ h => h) (Or.inl ⟨by rfl, ?_⟩) (by assumption) ?_
                    rotate_left 1
                    · ((intro w hSw; (try dsimp only at hSw); go_simp); (try with_reducible rfl))
                    simp only [Act.put, List.setIfInBounds_toArray, List.set_cons_zero, List.set_cons_succ, List.getElem_toArray, List.getElem_cons_zero, List.getElem_cons_succ]
                    refine wpAnyH_take (i := 4) (v := ?_) rfl (by kernel_rfl) (by kernel_rfl) (by kernel_rfl) (fun _ _ _ h => h) (Or.inl ⟨by rfl, ?_⟩) (by assumption) ?_
                    rotate_left 1
                    · ((intro w hSw; (try dsimp only at hSw); go_simp); (try with_reducible rfl))
                    simp only [Act.put, List.setIfInBounds_toArray, List.set_cons_zero, List.set_cons_succ, List.getElem_toArray, List.getElem_cons_zero, List.getElem_cons_succ]
                    refine wpAnyH_take (i := 5) (v := ?_) rfl (by kernel_rfl) (by kernel_rfl) (by kernel_rfl) (fun _ _ _ h => h) (Or.inl ⟨by rfl, ?_⟩) (by assumption) ?_
                    rotate_left 1
                    · ((intro w hSw; (try dsimp only at hSw); go_simp); (try with_reducible rfl))
                    simp only [Act.put, List.setIfInBounds_toArray, List.set_cons_zero, List.set_cons_succ, List.getElem_toArray, List.getElem_cons_zero, List.getElem_cons_succ]
                    refine wpAnyH_take (i := 6) (v := ?_) rfl (by kernel_rfl) (by kernel_rfl) (by kernel_rfl) (fun _ _ _ h => h) (Or.inl ⟨by rfl, ?_⟩) (by assumption) ?_
                    rotate_left 1
                    · ((intro w hSw; (try dsimp only at hSw); go_simp); (try with_reducible rfl))
                    simp only [Act.put, List.setIfInBounds_toArray, List.set_cons_zero, List.set_cons_succ, List.getElem_toArray, List.getElem_cons_zero, List.getElem_cons_succ]
                    refine wpAnyH_take (i := 7) (v := ?_) rfl (by kernel_rfl) (by kernel_rfl) (by kernel_rfl) (fun _ _ _ h => h) (Or.inl ⟨by rfl, ?_⟩) (by assumption) ?_
                    rotate_left 1
                    · ((intro w hSw; (try dsimp only at hSw); go_simp); (try with_reducible rfl))
                    simp only [Act.put, List.setIfInBounds_toArray, List.set_cons_zero, List.set_cons_succ, List.getElem_toArray, List.getElem_cons_zero, List.getElem_cons_succ]
                    refine wpAnyH_take (i := 8) (v := ?_) rfl (by kernel_rfl) (by kernel_rfl) (by kernel_rfl) (fun _ _ _ h => h) (Or.inl ⟨by rfl, ?_⟩) (by assumption) ?_
                    rotate_left 1
                    · ((intro w hSw; (try dsimp only at hSw); go_simp); (try with_reducible rfl))
                    simp only [Act.put, List.setIfInBounds_toArray, List.set_cons_zero, List.set_cons_succ, List.getElem_toArray, List.getElem_cons_zero, List.getElem_cons_succ]
                    refine wpAnyH_take (i := 9) (v := ?_) rfl (by kernel_rfl) (by kernel_rfl) (by kernel_rfl) (fun _ _ _ h => h) (Or.inl ⟨by rfl, ?_⟩) (by assumption) ?_
                    rotate_left 1
                    · ((intro w hSw; (try dsimp only at hSw); go_simp); (try with_reducible rfl))
                    simp only [Act.put, List.setIfInBounds_toArray, List.set_cons_zero, List.set_cons_succ, List.getElem_toArray, List.getElem_cons_zero, List.getElem_cons_succ]
                    refine wpAnyH_take (i := 10) (v := ?_) rfl (by kernel_rfl) (by kernel_rfl) (by kernel_rfl) (fun _ _ _ h => h) (Or.inl ⟨by rfl, ?_⟩) (by assumption) ?_
                    rotate_left 1
                    · ((intro w hSw; (try dsimp only at hSw); go_simp); (try with_reducible rfl))
                    simp only [Act.put, List.setIfInBounds_toArray, List.set_cons_zero, List.set_cons_succ, List.getElem_toArray, List.getElem_cons_zero, List.getElem_cons_succ]
                    refine wpAnyH_take (i := 11) (v := ?_) rfl (by kernel_rfl) (by kernel_rfl) (by kernel_rfl) (fun _ _ _ h => h) (Or.inl ⟨by rfl, ?_⟩) (by assumption) ?_
                    rotate_left 1
                    · ((intro w hSw; (try dsimp only at hSw); go_simp); (try with_reducible rfl))
                    simp only [Act.put, List.setIfInBounds_toArray, List.set_cons_zero, List.set_cons_succ, List.getElem_toArray, List.getElem_cons_zero, List.getElem_cons_succ]
                    refine wpAnyH_take (i := 12) (v := ?_) rfl (by kernel_rfl) (by kernel_rfl) (by kernel_rfl) (fun _ _ _ h => h) (Or.inl ⟨by rfl, ?_⟩) (by assumption) ?_
                    rotate_left 1
                    · ((intro w hSw; (try dsimp only at hSw); go_simp); (try with_reducible rfl))
                    simp only [Act.put, List.setIfInBounds_toArray, List.set_cons_zero, List.set_cons_succ, List.getElem_toArray, List.getElem_cons_zero, List.getElem_cons_succ]
                    refine wpAnyH_take (i := 13) (v := ?_) rfl (by kernel_rfl) (by kernel_rfl) (by kernel_rfl) (fun _ _ _ h => h) (Or.inl ⟨by rfl, ?_⟩) (by assumption) ?_
                    rotate_left 1
                    · ((intro w hSw; (try dsimp only at hSw); go_simp); (try with_reducible rfl))
                    simp only [Act.put, List.setIfInBounds_toArray, List.set_cons_zero, List.set_cons_succ, List.getElem_toArray, List.getElem_cons_zero, List.getElem_cons_succ]
                    refine wpAnyH_take (i := 14) (v := ?_) rfl (by kernel_rfl) (by kernel_rfl) (by kernel_rfl) (fun _ _ _ h => h) (Or.inl ⟨by rfl, ?_⟩) (by assumption) ?_
                    rotate_left 1
                    · ((intro w hSw; (try dsimp only at hSw); go_simp); (try with_reducible rfl))
                    simp only [Act.put, List.setIfInBounds_toArray, List.set_cons_zero, List.set_cons_succ, List.getElem_toArray, List.getElem_cons_zero, List.getElem_cons_succ]
                    refine wpAnyH_take (i := 15) (v := ?_) rfl (by kernel_rfl) (by kernel_rfl) (by kernel_rfl) (fun _ _ _ h => h) (Or.inl ⟨by rfl, ?_⟩) (by assumption) ?_
                    rotate_left 1
                    · ((intro w hSw; (try dsimp only at hSw); go_simp); (try with_reducible rfl))
                    simp only [Act.put, List.setIfInBounds_toArray, List.set_cons_zero, List.set_cons_succ, List.getElem_toArray, List.getElem_cons_zero, List.getElem_cons_succ]
                    refine wpAnyH_take (i := 16) (v := ?_) rfl (by kernel_rfl) (by kernel_rfl) (by kernel_rfl) (fun _ _ _ h => h) (Or.inl ⟨by rfl, ?_⟩) (by assumption) ?_
                    rotate_left 1
                    · ((intro w hSw; (try dsimp only at hSw); go_simp); (try with_reducible rfl))
                    simp only [Act.put, List.setIfInBounds_toArray, List.set_cons_zero, List.set_cons_succ, List.getElem_toArray, List.getElem_cons_zero, List.getElem_cons_succ]
                    refine wpAnyH_take (i := 17) (v := ?_) rfl (by kernel_rfl) (by kernel_rfl) (by kernel_rfl) (fun _ _ _ h => h) (Or.inl ⟨by rfl, ?_⟩) (by assumption) ?_
                    rotate_left 1
                    · ((intro w hSw; (try dsimp only at hSw); go_simp); (try with_reducible rfl))
                    simp only [Act.put, List.setIfInBounds_toArray, List.set_cons_zero, List.set_cons_succ, List.getElem_toArray, List.getElem_cons_zero, List.getElem_cons_succ]
                    refine wpAnyH_take (i := 18) (v := ?_) rfl (by kernel_rfl) (by kernel_rfl) (by kernel_rfl) (fun _ _ _ h => h) (Or.inl ⟨by rfl, ?_⟩) (by assumption) ?_
                    rotate_left 1
                    · ((intro w hSw; (try dsimp only at hSw); go_simp); (try with_reducible rfl))
                    simp only [Act.put, List.setIfInBounds_toArray, List.set_cons_zero, List.set_cons_succ, List.getElem_toArray, List.getElem_cons_zero, List.getElem_cons_succ]
                    refine wpAnyH_ready (rs := [19]) (by kernel_rfl) (by simp) ?_
                    refine AllReadyH.cons rfl (fun K hK => ?_) AllReadyH.nil
                    go_simp
                    refine (ahead_any ⟨xa, ya, ua⟩ ⟨xb, yb, ub⟩ _ wa wb).mono ?_
                    rintro e uw ⟨rfl, hb3⟩
                    rw [HA.out]
                    have k3 := Keeps2 hb3
                    replace hS := (And.intro (k3 _ _ hS.1) (And.intro (k3 _ _ hS.2.1) (And.intro (k3 _ _ hS.2.2.1) (And.intro (k3 _ _ hS.2.2.2.1) (And.intro (k3 _ _ hS.2.2.2.2.1) (And.intro (k3 _ _ hS.2.2.2.2.2.1) (And.intro (k3 _ _ hS.2.2.2.2.2.2.1) (k3 _ _ hS.2.2.2.2.2.2.2))))))))
                    clear hHeld k3
                    go_wp2_with fail
                    refine hK.out _ _ ?_ (fun hHeld => ?_)
                    · exact hS
                    clear hK K
                    try simp only [Act.put, List.setIfInBounds_toArray, List.set_cons_zero, List.set_cons_succ, List.getElem_toArray, List.getElem_cons_zero, List.getElem_cons_succ]
                    refine wpAnyH_take (i := 20) (v := ?_) rfl (by kernel_rfl) (by kernel_rfl) (by kernel_rfl) (fun _ _ _ h => h) (Or.inl ⟨by rfl, ?_⟩) (by assumption) ?_
                    rotate_left 1
                    · ((intro w hSw; (try dsimp only at hSw); go_simp); (try with_reducible rfl))
                    simp only [Act.put, List.setIfInBounds_toArray, List.set_cons_zero, List.set_cons_succ, List.getElem_toArray, List.getElem_cons_zero, List.getElem_cons_succ]
                    refine wpAnyH_done (by kernel_rfl) ?_ _
                    clear hHeld hS
                    have HBV := hidp (HBQ.out.trans (hb3.mono HBQ.out.size))
                    clear hb3
                    go_wp2_with fail
                    go_roundg (m - q - 1)
                    case measure => have := Hq.out; omega
                    case rel => exact ⟨q + 1, by have := Hq.out; omega, by go_num, HBV.out⟩
                · obtain rfl : j = 0 := by omega
                  have HF := hidp (HB.out.trans ((HB5.out.trans ((HBW.out.trans (hbq.mono HBW.out.size)).mono HB5.out.size)).mono HB.out.size))
                  clear hbq hq hlt hz0
                  go_wp2_with fail
                  go_ret
                  exact ⟨rfl, HF.out⟩
              · have qI : ¬ (q : Int) < (m : Int) := by omega
                have HF := hidp (HB.out.trans ((HB5.out.trans ((HBW.out.trans (hbq.mono HBW.out.size)).mono HB5.out.size)).mono HB.out.size))
                clear hbq hq hlt
                go_wp2_with fail
                go_ret
                exact ⟨rfl, HF.out⟩

theorem own : ownKnob Try.prog.godebug = none := by kernel_rfl
theorem laidOut : laidOutB Try.prog = true := by kernel_rfl

/-! THE ROW's STEP -/
set_option maxRecDepth 100000 in
theorem lifted (os : Os) (started : os.Started) (H : Type) (enc : TypeId × Value → H) :
    ReturnsInHanded {} Try.checked os 4 .any (Rows.turnOrderSpec.pre6 enc Try.prog Try.f4 Rows.turnOrderRow.domain false) (Rows.turnOrderSpec.post enc Try.prog Try.f4 false true false false) := by
  refine returnsInHanded_of_change (C := Try.checked) own started (by kernel_rfl) Try.func4
    (ChangeSpec.witness6 (enc := enc) (C := Try.checked) false ⟨#[], #[.agg #[.int .i64 0, .int .i64 0, .int .i64 0], .agg #[.int .i64 0, .int .i64 0, .int .i64 0], .agg #[.int .i64 0, .int .i64 0, .int .i64 0], .slice none 0 0, .int .u8 0], []⟩ 8 (by kernel_rfl) (by kernel_rfl) (by kernel_rfl) (by kernel_rfl)) ?_
  intro W base args ds gs before hval0 hW hcnd _
  have hval : ∀ (j : Nat) t v, Try.f4.params[j]? = some t → args[j]? = some v → Value.okWide Try.prog W .any base t v := hval0
  have hW' := hW
  obtain ⟨p, q, hA0, hV, rfl, hfz, hnd⟩ := hW
  have hA : DataW.TrodAll enc Try.prog W 0 (fun _ => true) true Try.f4.params.toList args.toList ds p := hA0
  rw [Try.params4] at hA hval
  obtain ⟨v0, vs0, d0, ds0, p0, q0, hargs, rfl, rfl, h0, r0⟩ := trodAll_cons hA
  obtain ⟨v1, vs1, d1, ds1, p1, q1, rfl, rfl, rfl, h1, r1⟩ := trodAll_cons r0
  obtain ⟨v2, vs2, d2, ds2, p2, q2, rfl, rfl, rfl, h2, r2⟩ := trodAll_cons r1
  obtain ⟨v3, vs3, d3, ds3, p3, q3, rfl, rfl, rfl, h3, r3⟩ := trodAll_cons r2
  obtain ⟨v4, vs4, d4, ds4, p4, q4, rfl, rfl, rfl, h4, r4⟩ := trodAll_cons r3
  obtain ⟨rfl, rfl, rfl⟩ := trodAll_nil r4
  obtain rfl : args = #[v0, v1, v2, v3, v4] := by cases args; simp_all
  obtain ⟨rfl, rfl⟩ := trodVars_none hV
  obtain ⟨c0, rfl, hsz0⟩ := okWide_struct Try.underlying23 (hval 0 23 v0 rfl rfl)
  have k0 := h0
  have lt0 : ∀ x ∈ p0, x.block < W.heap.size := by obtain ⟨m, hm⟩ := k0; exact DataW.trod_lt m _ _ _ hm
  obtain ⟨x0, y0, u0, rfl, w0⟩ : ∃ x y u, c0 = #[.int .i64 x, .int .i64 y, .int .i64 u] ∧ I64 x ∧ I64 y ∧ I64 u := by
    obtain ⟨fuel, hf⟩ := h0
    obtain ⟨x, y, u, hcs, hz⟩ := open_trip Try.underlying23 (by kernel_rfl) (by kernel_rfl) Try.underlying3 Try.underlying3 Try.underlying3 hf
    refine ⟨x, y, u, ?_, hz⟩
    obtain ⟨l⟩ := c0
    have hl : l.length = 3 := hsz0
    simp [Value.cells] at hcs
    try rw [List.take_of_length_le (by omega)] at hcs
    rw [hcs]
  obtain ⟨c1, rfl, hsz1⟩ := okWide_struct Try.underlying23 (hval 1 23 v1 rfl rfl)
  have k1 := h1
  have lt1 : ∀ x ∈ p1, x.block < W.heap.size := by obtain ⟨m, hm⟩ := k1; exact DataW.trod_lt m _ _ _ hm
  obtain ⟨x1, y1, u1, rfl, w1⟩ : ∃ x y u, c1 = #[.int .i64 x, .int .i64 y, .int .i64 u] ∧ I64 x ∧ I64 y ∧ I64 u := by
    obtain ⟨fuel, hf⟩ := h1
    obtain ⟨x, y, u, hcs, hz⟩ := open_trip Try.underlying23 (by kernel_rfl) (by kernel_rfl) Try.underlying3 Try.underlying3 Try.underlying3 hf
    refine ⟨x, y, u, ?_, hz⟩
    obtain ⟨l⟩ := c1
    have hl : l.length = 3 := hsz1
    simp [Value.cells] at hcs
    try rw [List.take_of_length_le (by omega)] at hcs
    rw [hcs]
  obtain ⟨c2, rfl, hsz2⟩ := okWide_struct Try.underlying23 (hval 2 23 v2 rfl rfl)
  have k2 := h2
  have lt2 : ∀ x ∈ p2, x.block < W.heap.size := by obtain ⟨m, hm⟩ := k2; exact DataW.trod_lt m _ _ _ hm
  obtain ⟨x2, y2, u2, rfl, w2⟩ : ∃ x y u, c2 = #[.int .i64 x, .int .i64 y, .int .i64 u] ∧ I64 x ∧ I64 y ∧ I64 u := by
    obtain ⟨fuel, hf⟩ := h2
    obtain ⟨x, y, u, hcs, hz⟩ := open_trip Try.underlying23 (by kernel_rfl) (by kernel_rfl) Try.underlying3 Try.underlying3 Try.underlying3 hf
    refine ⟨x, y, u, ?_, hz⟩
    obtain ⟨l⟩ := c2
    have hl : l.length = 3 := hsz2
    simp [Value.cells] at hcs
    try rw [List.take_of_length_le (by omega)] at hcs
    rw [hcs]
  obtain ⟨a3, len3, cap3, rfl⟩ := okWide_slice Try.underlying24 (hval 3 24 v3 rfl rfl)
  have k3 := h3
  have lt3 : ∀ x ∈ p3, x.block < W.heap.size := by obtain ⟨m, hm⟩ := k3; exact DataW.trod_lt m _ _ _ hm
  obtain ⟨z3, w3⟩ : ∃ zs, IsTrips W a3 len3 cap3 zs := by
    obtain ⟨fuel, hf⟩ := h3
    obtain ⟨x1, x2, x3, zs, hcs, hz⟩ := open_trips Try.underlying24 Try.underlying23 (by kernel_rfl) (by kernel_rfl) Try.underlying3 Try.underlying3 Try.underlying3 hf
    simp [Value.cells] at hcs
    obtain ⟨rfl, rfl, rfl⟩ := hcs
    exact ⟨zs, hz⟩
  obtain ⟨a4, rfl, rfl, rfl, w4⟩ := open_int Try.underlying5 (hval 4 5 v4 rfl rfl) h4
  clear hA0 hval0
  refine (walk x0 y0 u0 x1 y1 u1 x2 y2 u2 a3 len3 cap3 z3 a4 W w0 w1 w2 w3 w4).mono fun e W' ⟨he, bel⟩ => ?_
  subst he
  exact ⟨_, rfl, _, _, _, [], _, [], hW', trodAll_mk1 (shut_bool Try.underlying4 _), (trodAll_cons_mk (Below.trod laidOut (by kernel_rfl) (of_decide_eq_true (by kernel_rfl)) k0 bel lt0) (trodAll_cons_mk (Below.trod laidOut (by kernel_rfl) (of_decide_eq_true (by kernel_rfl)) k1 bel lt1) (trodAll_cons_mk (Below.trod laidOut (by kernel_rfl) (of_decide_eq_true (by kernel_rfl)) k2 bel lt2) (trodAll_cons_mk (Below.trod laidOut (by kernel_rfl) (of_decide_eq_true (by kernel_rfl)) k3 bel lt3) (trodAll_cons_mk (shut_int Try.underlying5 w4) trodAll_mk0))))), rfl, bel.frame _, fun h => by cases h⟩

theorem over : Rows.turnOrderRow.holds Try.pinned (OpenSpec.ofChange Rows.turnOrderSpec) :=
  OpenClaim.holds_of_wide 4 Try.f4 rfl rfl rfl rfl rfl rfl rfl ⟨rfl, rfl, rfl, rfl, rfl⟩ rfl rfl rfl rfl rfl (by kernel_rfl) Try.func4 (by kernel_rfl)
    (of_decide_eq_true (by kernel_rfl)) (by unfold Func.isWrapper; first | (rw [if_pos (by decide +kernel)]; kernel_rfl) | (rw [if_neg (by decide +kernel)]; exact ⟨rfl, rfl⟩))
    (fun os started H enc _ => lifted os started H enc)

/-- THE STATEMENT -/
theorem proved : Rows.TurnOrderSaid := over
#print axioms proved
end Go.Proofs.Ytonodmoklbmfkaa.turnOrder

