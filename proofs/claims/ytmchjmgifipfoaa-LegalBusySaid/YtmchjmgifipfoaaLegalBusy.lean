/- LegalBusy: who ran at a cluster in a tick is told in order, and no one else. No condition. -/
import Derived.Test.YtmchjmgifipfoaaKnown25
import Derived.Test.YtmchjmgifipfoaaOwnS
import Derived.Test.YtmchjmgifipfoaaLit
import Derived.Test.YtmchjmgifipfoaaUp
import Derived.Test.YtmchjmgifipfoaaOk3
import Derived.Deep.CutBlock
set_option linter.unusedSimpArgs false
namespace Go.Proofs.Ytmchjmgifipfoaa
open Go.ChangeShapes Go.WideShapes Go.ChangeAt Go.RowKit
theorem busy_add (time cl : Int) (xs : List SlotM) (x : SlotM) : busyL time cl (xs ++ [x]) = busyL time cl xs ++ if busyB time cl x then [x.task] else [] := by
  unfold busyL
  rw [List.filter_append, List.map_append]
  congr 1
  by_cases h : busyB time cl x = true
  · simp only [List.filter_cons, h, if_true]; rfl
  · rw [List.filter_cons, if_neg h, if_neg h]; rfl
def bT (sa : Option Addr) (sc : Nat) (xs : List SlotM) : TraceR := ⟨0, sa, sc, xs, none, 0, [], none, 0, []⟩
theorem bt_ok {w : World} {B : Nat} {sa : Option Addr} {n sc : Nat} {xs : List SlotM} (h : OwnS B w sa n sc xs) (hw : ∀ x ∈ xs, x.wf) : TraceOk w (bT sa sc xs) :=
  ⟨by show I64 0; decide, h.sl, h.slots, hw, ⟨fun _ => ⟨rfl, rfl⟩, by show 0 ≤ 0; decide, by show 0 ≤ maxLen; decide⟩, .inl rfl, (fun x hx => by cases hx), ⟨fun _ => ⟨rfl, rfl⟩, by show 0 ≤ 0; decide, by show 0 ≤ maxLen; decide⟩, .inl rfl, (fun x hx => by cases hx)⟩
/-- what a round begins with: the trace's box X, its row, the row of who is wanted -/
structure BusyR (U wr : World) (X : Nat) (tm cl : Int) (k : Nat) (A : Option Addr) (c : Nat) (l : List Int) (sa : Option Addr) (sc : Nat) (xs : List SlotM) : Prop where
  bx : Bk wr X 38 #[.int .i64 0, .slice sa k sc, .slice none 0 0, .slice none 0 0]
  os : OwnS (X + 1) wr sa k sc xs
  on : OwnN (X + 1) wr A l.length c l
  apart : ∀ i ∈ fp sa, i ∉ fp A
  is : busyL tm cl xs = l
  wf : ∀ x ∈ xs, x.wf
  b : Below U.heap.size U wr
end Go.Proofs.Ytmchjmgifipfoaa
set_option maxHeartbeats 8000000
set_option maxRecDepth 100000
namespace Go.Proofs.Ytmchjmgifipfoaa.legalBusy
open Go.ChangeShapes Go.WideShapes Go.ChangeAt Go.RowKit
open Go.ChangeMaps (open_string shut_string)
set_option linter.unusedVariables false

/-- THE WALK: the Go text returns true, and writes nothing that was there. -/
theorem walk (a0 : Option Addr) (len0 cap0 : Nat) (z0 : List Int) (a1 : Option Addr) (len1 cap1 : Nat) (z1 : List Int) (a2 : Int) (a3 : Int) (w : World) (w0 : IsRow .u8 w a0 len0 cap0 z0) (w1 : IsRow .u8 w a1 len1 cap1 z1) (w2 : (Lit.int .u8 a2).wf = true) (w3 : (Lit.int .u8 a3).wf = true) :
    Calls Try.prog 5 #[.slice a0 len0 cap0, .slice a1 len1 cap1, .int .u8 a2, .int .u8 a3] w fun e w' => e = .returned (.bool true) ∧ Below w.heap.size w w' := by
  obtain ⟨hr0, hl0, hm0, hz0⟩ := w0.row
  obtain ⟨hr1, hl1, hm1, hz1⟩ := w1.row
  obtain ⟨bs, hbs⟩ : ∃ ls, z0.take len0 = ls := ⟨_, rfl⟩
  obtain ⟨ps, hps⟩ : ∃ ls, z1.take len1 = ls := ⟨_, rfl⟩
  rw [hbs] at hr0 hl0 hz0
  rw [hps] at hr1 hl1 hz1
  subst hl0
  subst hl1
  unfold maxLen at hm0 hm1
  have B8 := hidp hz0
  have P8 := hidp hz1
  obtain ⟨tm, tm0, tm1, htm⟩ := mod_u8 6 w2 (by decide)
  obtain ⟨cl, cl0, cl1, hcl⟩ := mod_u8 3 w3 (by decide)
  clear w0 w1 hz0 hz1 hbs hps
  have Htm := hidp htm
  have Hcl := hidp hcl
  clear htm hcl
  go_enter Try.func5, Try.ntmps5
  go_wp2_with fail
  refine (known25_any w).mono ?_
  rintro e u1 ⟨rfl, hb⟩
  replace hr0 := hr0.keep (Keeps.of_below hb)
  replace hr1 := hr1.keep (Keeps.of_below hb)
  by_cases h40 : 40 < bs.length
  · have h40' : (40 : Int) < (bs.length : Int) := by omega
    go_wp2_with fail
    go_ret
    exact ⟨rfl, hb⟩
  by_cases hlt : ps.length < bs.length
  · have h40' : ¬ (40 : Int) < (bs.length : Int) := by omega
    have hlt' : (ps.length : Int) < (bs.length : Int) := by omega
    go_wp2_with fail
    go_ret
    exact ⟨rfl, hb⟩
  have h40' : ¬ (40 : Int) < (bs.length : Int) := by omega
  have hlt' : ¬ (ps.length : Int) < (bs.length : Int) := by omega
  have HR0 := hidp hr0
  have HR1 := hidp hr1
  obtain ⟨X, hX⟩ : ∃ x, u1.heap.size = x := ⟨_, rfl⟩
  have B0 : Bk (u1.alloc (.cells #[.int .i64 0, .slice none 0 0, .slice none 0 0, .slice none 0 0] 38)) X 38 #[.int .i64 0, .slice none 0 0, .slice none 0 0, .slice none 0 0] := Bk.at_ hX rfl
  have HB0 : Hid (BusyR u1 (u1.alloc (.cells #[.int .i64 0, .slice none 0 0, .slice none 0 0, .slice none 0 0] 38)) X tm cl 0 none 0 [] none 0 []) := hidp ⟨B0, OwnS.none _ _, ownN_none5 _ _, by simp [fp], rfl, (fun x hx => by cases hx), (Below.refl _ _).alloc (Nat.le_refl _) _⟩
  obtain ⟨i0, hi0, hy0, hy1, hy2⟩ := info_parts infoInt5
  obtain ⟨j0, hj0, hq0, hq1, hq2⟩ := info_parts infoSlot
  have H1 := hidp hb
  have HX := hidp hX
  clear hr0 hr1 hb B0
  go_wp2_with fail
  clear hX
  go_loopg [10, 11] bs.length (fun gg a i wr => ∃ (k c sc : Nat) (A sa : Option Addr) (l : List Int) (xs : List SlotM), k + gg = bs.length ∧ i = .int .i64 k ∧ a = .slice A l.length c ∧ Hid (BusyR u1 wr X tm cl k A c l sa sc xs))
  case atStart => exact ⟨0, 0, 0, none, none, [], [], by omega, rfl, rfl, HB0⟩
  case round =>
    obtain ⟨k, c, sc, A, sa, l, xs, hk, rfl, rfl, HR⟩ := hrel
    clear HB0
    obtain ⟨bx, os, on, apart, is_, wf, hbr⟩ := HR.out
    have XB : u1.heap.size ≤ X := by rw [HX.out]; exact Nat.le_refl _
    by_cases hkl : k < bs.length
    · have hkp : k < ps.length := by omega
      obtain ⟨g0, q0, e0, hc0⟩ := (HR0.out.keep (Keeps.of_below hbr)).resolve_left (by intro e; rw [e] at hkl; simp at hkl)
      obtain ⟨g1, q1, e1, hc1⟩ := (HR1.out.keep (Keeps.of_below hbr)).resolve_left (by intro e; rw [e] at hkp; simp at hkp)
      subst e0
      subst e1
      obtain ⟨x, Hx⟩ : ∃ x, Hid (bs.getD k 0 = x) := ⟨_, rfl⟩
      obtain ⟨p, Hp⟩ : ∃ x, Hid (ps.getD k 0 = x) := ⟨_, rfl⟩
      have x0 := Hx.out ▸ hc0 k hkl
      have p0 := Hp.out ▸ hc1 k hkp
      obtain ⟨y, y0, y1, hy⟩ := mod_u8 6 (B8.out x (by rw [← Hx.out]; simp [List.getD, hkl])) (by decide)
      obtain ⟨z, zz0, z1, hz⟩ := mod_u8 3 (P8.out p (by rw [← Hp.out]; simp [List.getD, hkp])) (by decide)
      have wy : IntKind.i64.wrap y = y := IntWalk.i64_in _ (by omega)
      have wz : IntKind.i64.wrap z = z := IntWalk.i64_in _ (by omega)
      have kI : (k : Int) < (bs.length : Int) := by omega
      have kP : (k : Int) < (ps.length : Int) := by omega
      have d0 : decide (bs.length ≤ k) = false := by simp; omega
      have d1 : decide (ps.length ≤ k) = false := by simp; omega
      clear hc0 hc1
      go_wp2
      go_quiet (fail)
      clear wy wz x0 p0 d0 d1 kI kP hy hz
      obtain ⟨v, hv⟩ : ∃ v, wr.drewN nq = v := ⟨_, rfl⟩
      have bxv := hv ▸ Bk.drewN bx nq
      have Tq := hv ▸ (Turned.refl [] wr).drewN nq
      have osv := os.turned Tq (by simp)
      have onv := on.turned Tq (by simp)
      have hbv := hv ▸ below_drewN hbr nq
      have HRv : Hid (busyL tm cl xs = l ∧ (∀ x ∈ xs, x.wf) ∧ ∀ i ∈ fp sa, i ∉ fp A) := hidp ⟨is_, wf, apart⟩
      rw [hv]
      clear hv Tq bx os on hbr is_ wf apart HR
      have XW : X < v.heap.size := bxv.lt
      have HA := hidp (own_fp onv.own)
      have HSf := hidp (own_fp osv.own)
      have N1 : Hid (k + 1 ≤ maxLen) := hidp (by unfold maxLen; omega)
      have M1 : Hid ((k + 1) * 32 ≤ 140737488355328) := hidp (by omega)
      have hlk : l.length ≤ k := by rw [← HRv.out.1]; have h1 := busy_len tm cl xs; have h2 := osv.len; omega
      have N2 : Hid (l.length + 1 ≤ maxLen) := hidp (by unfold maxLen; omega)
      have M2 : Hid ((l.length + 1) * 8 ≤ 140737488355328) := hidp (by omega)
      have bx1 := bxv.alloc (.cells (stc [⟨y, z, k, false⟩]).toArray 29)
      have T0 := (Turned.refl [] v).alloc (.cells (stc [⟨y, z, k, false⟩]).toArray 29)
      have os1 := osv.turned T0 (by simp)
      have on1 := onv.turned T0 (by simp)
      have S1 := hidp (Lies.newCells' v (stc [⟨y, z, k, false⟩]) 29)
      have O1 := hidp (stc_one [⟨y, z, k, false⟩])
      have Z1 : Hid (X + 1 ≤ (v.alloc (.cells (stc [⟨y, z, k, false⟩]).toArray 29)).heap.size) := hidp (by simp; omega)
      have Zv : Hid ((v.alloc (.cells (stc [⟨y, z, k, false⟩]).toArray 29)).heap.size = v.heap.size + 1) := hidp (by simp)
      have hb1 := hbv.alloc hbv.size (.cells (stc [⟨y, z, k, false⟩]).toArray 29)
      have t1 := bxv.cell 1
      have hXs : X ∉ fp sa := fun h => by have := (HSf.out X h).1; omega
      have HXs := hidp hXs
      clear hXs hlk T0 osv onv bxv hbv
      go_upto_region 12 with (at_builtin; refine wpList_app2 _ rfl (.tmp 48) (.tmp 53) 30 rfl (X + 1) 29 j0 _ 4 32 Try.underlying30 hj0 hq0 hq1 hq2 rfl (by decide) sa k sc _ rfl os1.own _ _ 1 1 (stc [⟨y, z, k, false⟩]) rfl (by simp) rfl S1.out O1.out N1.out M1.out Z1.out ?_; intro sa' sc' v2 happ; have bx2 := bx1.turned happ.turned HXs.out; have c1 := bx2.cell 1; have f1 := bx2.frozen 1)
      have hz2 := happ.turned.size
      have TX : Turned [X] v2 (v2.setCell ⟨X, 1, none⟩ (.slice sa' (k + 1) sc')) := (Turned.refl [X] v2).setCell (.inl (by simp)) _
      have hfs' : ∀ i ∈ fp sa', i ∉ fp A ∧ X + 1 ≤ i := fun i hi => by
        rcases happ.fps i hi with h | h
        · exact ⟨HRv.out.2.2 i h, (HSf.out i h).1⟩
        · have h : v.heap.size + 1 ≤ i := by simpa using h
          exact ⟨fun h2 => by have := (HA.out i h2).2; omega, by omega⟩
      have os3 := (OwnS.app (ps := [⟨y, z, k, false⟩]) os1 happ rfl).turned TX (fun i hi => by have := (hfs' i hi).2; simp; omega)
      have on3 := (on1.turned happ.turned (fun i hi h => HRv.out.2.2 i h hi)).turned TX (fun i hi => by have := (HA.out i hi).1; simp; omega)
      have bx3 : Bk (v2.setCell ⟨X, 1, none⟩ (.slice sa' (k + 1) sc')) X 38 #[.int .i64 0, .slice sa' ((k + 1 : Nat)) sc', .slice none 0 0, .slice none 0 0] := bx2.put 1 _
      have hz2' : v.heap.size + 1 ≤ v2.heap.size := by simpa using hz2
      have hxz2 : u1.heap.size ≤ v2.heap.size := by omega
      have hb3 := (hb1.trans (happ.turned.below hb1.size (fun i hi => by have := (HSf.out i hi).1; omega))).trans (TX.below hxz2 (fun i hi => by simp at hi; omega))
      have hz3 := TX.size
      obtain ⟨v3, hv3⟩ : ∃ v3, v2.setCell ⟨X, 1, none⟩ (.slice sa' (k + 1) sc') = v3 := ⟨_, rfl⟩
      rw [hv3] at os3 on3 bx3 hb3 hz3 ⊢
      have XW3 : X < v3.heap.size := bx3.lt
      have hA3 : ∀ i ∈ fp A, i < v3.heap.size := fun i hi => (own_fp on3.own i hi).2
      have hS3 : ∀ i ∈ fp sa', i < v3.heap.size := fun i hi => (own_fp os3.own i hi).2
      have HFs := hidp (And.intro hfs' (And.intro hA3 hS3))
      have HW3 : Hid (∀ x ∈ xs ++ [⟨y, z, (k : Int), false⟩], x.wf) := hidp (fun x hx => by
        rcases List.mem_append.1 hx with hx | hx
        · exact HRv.out.2.1 x hx
        · simp at hx; subst hx; exact ⟨by unfold I64; dsimp only; omega, by unfold I64; dsimp only; omega, by unfold I64; dsimp only; omega⟩)
      clear hv3 TX hfs' hA3 hS3 happ bx1 bx2 os1 on1 hb1 c1 f1 hz2 hz2' hxz2 hz3 t1 S1 O1 N1 M1 Z1 Zv HSf HXs XW
      have htm := Htm.out
      have hcl := Hcl.out
      by_cases ey : y = tm
      · have e1 : (y == tm) = true := by simpa using ey
        by_cases ez : z = cl
        · have e2 : (z == cl) = true := by simpa using ez
          have HI : Hid (busyL tm cl (xs ++ [⟨y, z, (k : Int), false⟩]) = l ++ [(k : Int)]) := hidp (by rw [busy_add, HRv.out.1]; unfold busyB; simp [ey, ez])
          have on4 := on3.turned ((Turned.refl [] v3).alloc (.cells #[.int .i64 (k : Int)] 3)) (by simp)
          have S2 := hidp (Lies.newCells' v3 [.int .i64 (k : Int)] 3)
          have O2 := hidp (ints_one5 (k : Int))
          have Z2 : Hid (X + 1 ≤ (v3.alloc (.cells #[.int .i64 (k : Int)] 3)).heap.size) := hidp (by simp; omega)
          have HR5 : Hid (∀ (A' : Option Addr) (c' : Nat) (v5 : World), App (X + 1) 3 1 (v3.alloc (.cells #[.int .i64 (k : Int)] 3)) A A' (l.length + 1) c' (l.map (Value.int .i64) ++ [(k : Int)].map (Value.int .i64)) v5 → BusyR u1 v5 X tm cl (k + 1) A' c' (l ++ [(k : Int)]) sa' sc' (xs ++ [⟨y, z, (k : Int), false⟩])) := hidp (fun A' c' v5 happ => by
            have T4 := (Turned.refl [] v3).alloc (.cells #[.int .i64 (k : Int)] 3)
            have zz : (v3.alloc (.cells #[.int .i64 (k : Int)] 3)).heap.size = v3.heap.size + 1 := by simp
            refine ⟨(bx3.turned T4 (by simp)).turned happ.turned (fun h => by have := (HA.out X h).1; omega), ?_, ?_, fun i hi h => ?_, HI.out, HW3.out, (hb3.alloc hb3.size _).trans (happ.turned.below (hb3.alloc hb3.size _).size (fun i hi => by have := (HA.out i hi).1; omega))⟩
            · exact (os3.turned T4 (by simp)).turned happ.turned (fun i hi => (HFs.out.1 i hi).1)
            · have := ownN_app5 (ps := [(k : Int)]) on4 happ rfl
              rw [List.length_append]
              exact this
            · rcases happ.fps i h with h | h
              · exact (HFs.out.1 i hi).1 h
              · have := HFs.out.2.2 i hi; omega)
          clear ey ez on3 os3 bx3 hb3
          go_wp2_with (at_builtin; refine wpList_app2 _ rfl (.tmp 68) (.tmp 70) 23 rfl (X + 1) 3 i0 _ 1 8 Try.underlying23 hi0 hy0 hy1 hy2 rfl (by decide) A l.length c _ rfl on4.own _ _ 1 1 [.int .i64 (k : Int)] rfl (by simp) rfl S2.out O2.out N2.out M2.out Z2.out ?_; intro A' c' v5 happ)
          go_roundg (gk - 1)
          case measure => omega
          case rel => exact ⟨k + 1, c', sc', A', sa', l ++ [(k : Int)], _, by omega, by go_num, by rw [List.length_append]; rfl, hidp (HR5.out A' c' v5 happ)⟩
        · have e2 : (z == cl) = false := by simpa using ez
          have HI : Hid (busyL tm cl (xs ++ [⟨y, z, (k : Int), false⟩]) = l) := hidp (by rw [busy_add, HRv.out.1]; unfold busyB; simp [ey, ez])
          have HR5 : Hid (BusyR u1 v3 X tm cl (k + 1) A c l sa' sc' (xs ++ [⟨y, z, (k : Int), false⟩])) := hidp ⟨bx3, os3, on3, fun i hi => (HFs.out.1 i hi).1, HI.out, HW3.out, hb3⟩
          clear ey ez on3 os3 bx3 hb3
          go_wp2_with fail
          go_roundg (gk - 1)
          case measure => omega
          case rel => exact ⟨k + 1, c, sc', A, sa', l, _, by omega, by go_num, rfl, HR5⟩
      · have e1 : (y == tm) = false := by simpa using ey
        have HI : Hid (busyL tm cl (xs ++ [⟨y, z, (k : Int), false⟩]) = l) := hidp (by rw [busy_add, HRv.out.1]; unfold busyB; simp [ey])
        have HR5 : Hid (BusyR u1 v3 X tm cl (k + 1) A c l sa' sc' (xs ++ [⟨y, z, (k : Int), false⟩])) := hidp ⟨bx3, os3, on3, fun i hi => (HFs.out.1 i hi).1, HI.out, HW3.out, hb3⟩
        clear ey on3 os3 bx3 hb3
        go_wp2_with fail
        go_roundg (gk - 1)
        case measure => omega
        case rel => exact ⟨k + 1, c, sc', A, sa', l, _, by omega, by go_num, rfl, HR5⟩
    · have hkn : k = bs.length := by omega
      have ht := bt_ok os wf
      have x0 := bx.cell 0
      have x1 := bx.cell 1
      have x2 := bx.cell 2
      have x3 := bx.cell 3
      have hlen := os.len
      have hxl : xs.length ≤ 1000 := by omega
      have His := hidp is_
      have CB := lbusy_any (bT sa sc xs) tm cl wr ht hxl
      have e1 : busyL tm cl (bT sa sc xs).slots = l := is_
      rw [e1] at CB
      change Calls Try.prog 13 #[.agg #[.int .i64 0, .slice sa xs.length sc, .slice none 0 0, .slice none 0 0], .int .i64 tm, .int .i64 cl] _ _ at CB
      rw [← hlen] at CB
      have HO := hidp on.row
      have Hbr := hidp hbr
      have hll : l.length ≤ 1000 := by rw [← is_]; have := busy_len tm cl xs; omega
      have htm := Htm.out
      have hcl := Hcl.out
      clear e1 ht hlen hxl os wf bx on apart is_ hkn hbr HR
      go_wp2_with fail
      refine CB.mono ?_
      rintro e v ⟨⟨A2, c2, rfl, ho2⟩, hb2⟩
      have HO2 := hidp ho2.row
      replace HO := hidp (HO.out.keep (Keeps.of_below hb2))
      have HB := hidp (Hbr.out.trans (hb2.mono Hbr.out.size))
      clear CB ho2 hb2 Hbr x0 x1 x2 x3 htm hcl hk hkl
      go_wp2_with fail
      go_loopg [15] l.length (fun gg i wr => ∃ j : Nat, j + gg = l.length ∧ i = .int .i64 j ∧ Qt v wr)
      case atStart => exact ⟨0, by omega, rfl, Qt.refl _⟩
      case round =>
        obtain ⟨j, hj, rfl, hq⟩ := hrel
        by_cases hjl : j < l.length
        · obtain ⟨g1, q1, e1, c1⟩ := (HO.out.keep (Keeps.of_qt hq)).resolve_left (by intro e; rw [e] at hjl; simp at hjl)
          obtain ⟨g2, q2, e2, c2'⟩ := (HO2.out.keep (Keeps.of_qt hq)).resolve_left (by intro e; rw [e] at hjl; simp at hjl)
          subst e1
          subst e2
          obtain ⟨x, Hx⟩ : ∃ x, Hid (l.getD j 0 = x) := ⟨_, rfl⟩
          have d1 := Hx.out ▸ c1 j hjl
          have d2 := Hx.out ▸ c2' j hjl
          have kI : (j : Int) < (l.length : Int) := by omega
          have dd : decide (l.length ≤ j) = false := by simp; omega
          clear c1 c2'
          go_wp2
          go_quiet (fail)
          go_wp2_with fail
          go_roundg (gk - 1)
          case measure => omega
          case rel => exact ⟨j + 1, by omega, by go_num, hq.add _⟩
        · go_wp2_with fail
          go_ret
          exact ⟨rfl, H1.out.trans ((hq.below HB.out).mono H1.out.size)⟩

theorem own : ownKnob Try.prog.godebug = none := by kernel_rfl
theorem laidOut : laidOutB Try.prog = true := by kernel_rfl

/-! THE ROW's STEP -/
set_option maxRecDepth 100000 in
theorem lifted (os : Os) (started : os.Started) (H : Type) (enc : TypeId × Value → H) :
    ReturnsInHanded {} Try.checked os 5 .any (Rows.legalBusySpec.pre6 enc Try.prog Try.f5 Rows.legalBusyRow.domain false) (Rows.legalBusySpec.post enc Try.prog Try.f5 false true false false) := by
  refine returnsInHanded_of_change (C := Try.checked) own started (by kernel_rfl) Try.func5
    (ChangeSpec.witness6 (enc := enc) (C := Try.checked) false ⟨#[], #[.slice none 0 0, .slice none 0 0, .int .u8 0, .int .u8 0], []⟩ 8 (by kernel_rfl) (by kernel_rfl) (by kernel_rfl) (by kernel_rfl)) ?_
  intro W base args ds gs before hval0 hW hcnd _
  have hval : ∀ (j : Nat) t v, Try.f5.params[j]? = some t → args[j]? = some v → Value.okWide Try.prog W .any base t v := hval0
  have hW' := hW
  obtain ⟨p, q, hA0, hV, rfl, hfz, hnd⟩ := hW
  have hA : DataW.TrodAll enc Try.prog W 0 (fun _ => true) true Try.f5.params.toList args.toList ds p := hA0
  rw [Try.params5] at hA hval
  obtain ⟨v0, vs0, d0, ds0, p0, q0, hargs, rfl, rfl, h0, r0⟩ := trodAll_cons hA
  obtain ⟨v1, vs1, d1, ds1, p1, q1, rfl, rfl, rfl, h1, r1⟩ := trodAll_cons r0
  obtain ⟨v2, vs2, d2, ds2, p2, q2, rfl, rfl, rfl, h2, r2⟩ := trodAll_cons r1
  obtain ⟨v3, vs3, d3, ds3, p3, q3, rfl, rfl, rfl, h3, r3⟩ := trodAll_cons r2
  obtain ⟨rfl, rfl, rfl⟩ := trodAll_nil r3
  obtain rfl : args = #[v0, v1, v2, v3] := by cases args; simp_all
  obtain ⟨rfl, rfl⟩ := trodVars_none hV
  obtain ⟨a0, len0, cap0, rfl⟩ := okWide_slice Try.underlying44 (hval 0 44 v0 rfl rfl)
  have k0 := h0
  have lt0 : ∀ x ∈ p0, x.block < W.heap.size := by obtain ⟨m, hm⟩ := k0; exact DataW.trod_lt m _ _ _ hm
  obtain ⟨z0, w0⟩ : ∃ zs, IsRow .u8 W a0 len0 cap0 zs := by
    obtain ⟨fuel, hf⟩ := h0
    rcases open_ints Try.underlying44 Try.underlying5 (by kernel_rfl) hf with ⟨hcs, _⟩ | ⟨x, l, c, zs, hcs, _, hl, hm, hz, _, hcell, hwz⟩
    · simp [Value.cells] at hcs
      obtain ⟨rfl, rfl, rfl⟩ := hcs
      exact ⟨[], .inl ⟨rfl, rfl, rfl, rfl⟩⟩
    · simp [Value.cells] at hcs
      obtain ⟨rfl, rfl, rfl⟩ := hcs
      exact ⟨zs, .inr ⟨_, rfl, hl, hm, by simpa using hz, hcell, hwz⟩⟩
  obtain ⟨a1, len1, cap1, rfl⟩ := okWide_slice Try.underlying44 (hval 1 44 v1 rfl rfl)
  have k1 := h1
  have lt1 : ∀ x ∈ p1, x.block < W.heap.size := by obtain ⟨m, hm⟩ := k1; exact DataW.trod_lt m _ _ _ hm
  obtain ⟨z1, w1⟩ : ∃ zs, IsRow .u8 W a1 len1 cap1 zs := by
    obtain ⟨fuel, hf⟩ := h1
    rcases open_ints Try.underlying44 Try.underlying5 (by kernel_rfl) hf with ⟨hcs, _⟩ | ⟨x, l, c, zs, hcs, _, hl, hm, hz, _, hcell, hwz⟩
    · simp [Value.cells] at hcs
      obtain ⟨rfl, rfl, rfl⟩ := hcs
      exact ⟨[], .inl ⟨rfl, rfl, rfl, rfl⟩⟩
    · simp [Value.cells] at hcs
      obtain ⟨rfl, rfl, rfl⟩ := hcs
      exact ⟨zs, .inr ⟨_, rfl, hl, hm, by simpa using hz, hcell, hwz⟩⟩
  obtain ⟨a2, rfl, rfl, rfl, w2⟩ := open_int Try.underlying5 (hval 2 5 v2 rfl rfl) h2
  obtain ⟨a3, rfl, rfl, rfl, w3⟩ := open_int Try.underlying5 (hval 3 5 v3 rfl rfl) h3
  clear hA0 hval0
  refine (walk a0 len0 cap0 z0 a1 len1 cap1 z1 a2 a3 W w0 w1 w2 w3).mono fun e W' ⟨he, bel⟩ => ?_
  subst he
  exact ⟨_, rfl, _, _, _, [], _, [], hW', trodAll_mk1 (shut_bool Try.underlying4 _), (trodAll_cons_mk (Below.trod laidOut (by kernel_rfl) (of_decide_eq_true (by kernel_rfl)) k0 bel lt0) (trodAll_cons_mk (Below.trod laidOut (by kernel_rfl) (of_decide_eq_true (by kernel_rfl)) k1 bel lt1) (trodAll_cons_mk (shut_int Try.underlying5 w2) (trodAll_cons_mk (shut_int Try.underlying5 w3) trodAll_mk0)))), rfl, bel.frame _, fun h => by cases h⟩

theorem over : Rows.legalBusyRow.holds Try.pinned (OpenSpec.ofChange Rows.legalBusySpec) :=
  OpenClaim.holds_of_wide 5 Try.f5 rfl rfl rfl rfl rfl rfl rfl ⟨rfl, rfl, rfl, rfl, rfl⟩ rfl rfl rfl rfl rfl (by kernel_rfl) Try.func5 (by kernel_rfl)
    (of_decide_eq_true (by kernel_rfl)) (by unfold Func.isWrapper; first | (rw [if_pos (by decide +kernel)]; kernel_rfl) | (rw [if_neg (by decide +kernel)]; exact ⟨rfl, rfl⟩))
    (fun os started H enc _ => lifted os started H enc)

/-- THE STATEMENT -/
theorem proved : Rows.LegalBusySaid := over
#print axioms proved
end Go.Proofs.Ytmchjmgifipfoaa.legalBusy

