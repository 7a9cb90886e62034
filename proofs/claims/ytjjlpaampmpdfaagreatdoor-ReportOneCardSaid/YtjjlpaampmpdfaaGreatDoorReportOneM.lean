/- ReportOne: a task alone is told with its bound, its deadline, what each Lock may take, or that it is late. No condition. -/
import Derived.Test.YtjjlpaampmpdfaaGreatDoorRefCanonM
import Derived.Test.YtjjlpaampmpdfaaGreatDoorKnown19M
import Derived.Test.YtjjlpaampmpdfaaGreatDoorLit
import Derived.Test.YtjjlpaampmpdfaaGreatDoorOwnPut
set_option linter.unusedSimpArgs false
set_option linter.unusedVariables false
namespace Go.Proofs.YtjjlpaampmpdfaaGreatDoor
open Go.ChangeShapes Go.WideShapes Go.ChangeAt Go.RowKit
theorem tok_vals {S : SetR} {per dl a b c : Int} {a1 : Option Addr} {c1 : Nat} (p1 : S.proto = 3) (p2 : S.cores = [1]) (p3 : S.homes = [0]) (p4 : S.tasks = [⟨⟨#[97]⟩, per, dl, 1, 0, a1, c1, [⟨1, a, 0⟩, ⟨3, b, 0⟩, ⟨3, c, 0⟩]⟩])
    (hper : 1 ≤ per ∧ per ≤ 3000) (hdl : 1 ≤ dl ∧ dl ≤ per) (ha : 1 ≤ a ∧ a ≤ 60) (hb : 1 ≤ b ∧ b ≤ 60) (hc : 1 ≤ c ∧ c ≤ 60) (x : Int) :
    okS S = true ∧ waitsL S [x] 0 = [0, b, c] ∧ nextK S [x] 0 = true ∧ nextV S [x] 0 = a + b + c := by
  have hn : S.tasks.length = 1 := by rw [p4]; rfl
  have hok : okS S = true := by
    refine okS_all (by rw [p1]; decide) (by rw [p2]; simp) (by rw [p2]; intro z hz; simp at hz; omega) (by rw [p3]; decide) (by rw [p3, p2]; intro z hz; simp at hz; subst hz; simp) (by rw [p4]; simp) (fun k hk => ?_) (fun i k hi hk => ?_)
    · rw [p4] at hk ⊢
      rw [p2, p3]
      simp only [List.length_cons, List.length_nil] at hk
      obtain rfl : k = 0 := by omega
      refine ⟨formB_mk nameA (by simp; omega) (by simp; omega) (by simp), by simp, partsB_mk (by simp) (fun q hq => ?_)⟩
      simp at hq
      rcases hq with rfl | rfl | rfl
      · exact partB_run (.inl rfl) ha
      · have e1 : inB b 1 60 = true := inB_true.2 hb
        have e2 : inB 0 0 0 = true := by decide
        simp [partB, e1, e2]
      · have e1 : inB c 1 60 = true := inB_true.2 hc
        have e2 : inB 0 0 0 = true := by decide
        simp [partB, e1, e2]
    · rw [hn] at hk; omega
  have ht0 : thereB S 0 = true := thereB_true.2 ⟨hok, by decide, by rw [hn]; decide⟩
  have hl : ([x] : List Int).length = S.tasks.length := by rw [hn]; rfl
  have m0 : ¬ maxL [⟨1, a, 0⟩, ⟨3, b, 0⟩, ⟨3, c, 0⟩] = 0 := by simp [maxL]; omega
  have hcv : coresV S = 1 := by unfold coresV; rw [if_pos hok, p2]; rfl
  have hbes : ∀ k, besV S k = 0 := fun k => by
    unfold besV
    rw [hcv, show (1 : Int) - 1 = 0 from rfl]
    have e0 : ∀ zs : List Int, tops zs 0 = [] := fun zs => by
      unfold tops
      rw [show clampN 0 zs.length = 0 by unfold clampN; omega]
      rfl
    rw [e0]; rfl
  have ha' : askersV S 0 = 1 := by unfold askersV; rw [if_pos hok, p4]; simp [askN, sumK]; omega
  have hr : rndV S 0 = 0 := by unfold rndV coreAt; rw [ha', p2]; decide
  have ho0 : outV S 0 = 0 := by
    unfold outV
    rw [if_pos ⟨ht0, by rw [p4]; exact m0⟩]
    have e : (S.tasks.getD (0 : Int).toNat default).cl = 0 := by rw [p4]; rfl
    rw [e, hr]; omega
  have hw : ∀ (i : Nat) (z : Int), 1 ≤ i → i ≤ 2 → partAt S 0 (i : Int) = ⟨3, z, 0⟩ → waitV S [x] 0 (i : Int) = z ∧ waitK S [x] 0 (i : Int) = true := fun i z h1 h2 q0 => by
    have k0 : fairK S 0 (i : Int) = true := fairK_iff.2 ⟨ht0, by omega, by rw [p4]; show (i : Int) < 3; omega, by rw [q0]⟩
    have i0 : insV S 0 (i : Int) = z := by unfold insV; rw [if_pos k0, hbes, q0]; simp
    have f0 : tokV S 0 (i : Int) = z := by unfold tokV; rw [if_pos k0, i0, ho0]; omega
    exact ⟨by unfold waitV; rw [if_pos hl, if_neg (by omega), if_neg (by omega), f0], by unfold waitK; rw [if_pos hl, if_neg (by omega), k0]⟩
  have g1 : partAt S 0 ((1 : Nat) : Int) = ⟨3, b, 0⟩ := by unfold partAt; rw [p4]; rfl
  have g2 : partAt S 0 ((2 : Nat) : Int) = ⟨3, c, 0⟩ := by unfold partAt; rw [p4]; rfl
  have g0 : (partAt S 0 (0 : Nat)).kind = 1 := by unfold partAt; rw [p4]; rfl
  obtain ⟨v1, k1⟩ := hw 1 b (by decide) (by decide) g1
  obtain ⟨v2, k2⟩ := hw 2 c (by decide) (by decide) g2
  have hp0 : partsOf S 0 = [⟨1, a, 0⟩, ⟨3, b, 0⟩, ⟨3, c, 0⟩] := by unfold partsOf; rw [p4]; rfl
  obtain ⟨y1, y2⟩ := waits_yes (s := S) (bs := [x]) (of := 0) ht0 (by
    rw [hp0]; intro k hk2
    match k, hk2 with
    | 0, _ => unfold pK; rw [if_neg (by rw [g0]; decide)]
    | 1, _ => unfold pK; rw [if_pos (by rw [g1])]; exact k1
    | 2, _ => unfold pK; rw [if_pos (by rw [g2])]; exact k2)
  have y3 : waitsL S [x] 0 = [0, b, c] := by
    rw [y2, hp0]
    show [pW S [x] 0 0, pW S [x] 0 1, pW S [x] 0 2] = _
    have e0 : pW S [x] 0 0 = 0 := by unfold pW; rw [if_neg (by rw [g0]; decide)]
    have e1 : pW S [x] 0 1 = b := by unfold pW; rw [if_pos (by rw [g1])]; exact v1
    have e2 : pW S [x] 0 2 = c := by unfold pW; rw [if_pos (by rw [g2])]; exact v2
    rw [e0, e1, e2]
  have hk : nextK S [x] 0 = true := nextK_true.2 ⟨y1, hl⟩
  have ho : ∀ wd, othersV S [x] 0 wd = 0 := fun wd => by
    unfold othersV
    split
    · rw [show othW S [x] 0 wd 0 S.tasks = 0 by rw [p4]; simp [othW]]
      exact Int.zero_ediv _
    · rfl
  refine ⟨hok, y3, hk, ?_⟩
  have hpp : (taskAt S 0).parts = [⟨1, a, 0⟩, ⟨3, b, 0⟩, ⟨3, c, 0⟩] := hp0
  unfold nextV ownV
  rw [if_pos hk, if_pos y1, ho, y3, hpp]
  simp [sumK, tot]
  try omega
theorem tok_admit {S : SetR} {per dl a b c : Int} {a1 : Option Addr} {c1 : Nat} (p1 : S.proto = 3) (p2 : S.cores = [1]) (p3 : S.homes = [0]) (p4 : S.tasks = [⟨⟨#[97]⟩, per, dl, 1, 0, a1, c1, [⟨1, a, 0⟩, ⟨3, b, 0⟩, ⟨3, c, 0⟩]⟩])
    (hper : 1 ≤ per ∧ per ≤ 3000) (hdl : 1 ≤ dl ∧ dl ≤ per) (ha : 1 ≤ a ∧ a ≤ 60) (hb : 1 ≤ b ∧ b ≤ 60) (hc : 1 ≤ c ∧ c ≤ 60) :
    (a + b + c ≤ dl → anE S = 0 ∧ anB S = [a + b + c] ∧ anW S = [[0, b, c]]) ∧ (¬ a + b + c ≤ dl → anE S = 19) := by
  obtain ⟨hok, hw, hk, hv⟩ := tok_vals p1 p2 p3 p4 hper hdl ha hb hc (a + b + c)
  have hn : S.tasks.length = 1 := by rw [p4]; rfl
  have hso : soonL S = [a + b + c] := by unfold soonL; rw [p4]; simp [allK]; omega
  have hnx : nextRow S [a + b + c] = [a + b + c] := by unfold nextRow; rw [hn]; show [nextV S [a + b + c] 0] = _; rw [hv]
  have hst : stepB S [a + b + c] 0 = decide (a + b + c ≤ dl) := by
    unfold stepB
    rw [p4]
    show (nextK S [a + b + c] 0 && decide (nextV S [a + b + c] 0 ≤ dl)) = _
    rw [hk, hv]; rfl
  have hro : roundB S [a + b + c] = decide (a + b + c ≤ dl) := by
    unfold roundB
    rw [hn]
    by_cases e : a + b + c ≤ dl
    · rw [decide_eq_true e] at hst ⊢
      rw [upTo_iff]
      intro k hk
      obtain rfl : k = 0 := by omega
      exact hst
    · rw [decide_eq_false e] at hst ⊢
      exact upTo_not (k := 0) (by decide) hst
  have hset : settle S = if a + b + c ≤ dl then ([a + b + c], 0) else ([], 19) := by
    unfold settle
    rw [hso, show (200 : Nat) = 199 + 1 from rfl, setL_succ, hro]
    by_cases e : a + b + c ≤ dl
    · rw [decide_eq_true e, if_pos rfl, if_pos hnx, if_pos e]
    · rw [decide_eq_false e, if_neg (by decide), if_neg e]
  have hE : anE S = (settle S).2 := by unfold anE; rw [if_pos ((okS_chk S).1 hok)]
  refine ⟨fun e => ?_, fun e => ?_⟩
  · rw [if_pos e] at hset
    have h0 : anE S = 0 := by rw [hE, hset]
    refine ⟨h0, by unfold anB; rw [if_pos h0, hset], ?_⟩
    unfold anW
    rw [if_pos h0, hset, hn]
    show [waitsL S [a + b + c] 0] = _
    rw [hw]
  · rw [if_neg e] at hset
    rw [hE, hset]
theorem rt_one (n : Int) (hn : I64 n) : ∃ r : ByteArray, Hid (bl r = textL n) ∧ r.size ≤ 7 ∧ Hid (∀ v, Calls Tryz.prog 14 #[.int .i64 n] v fun e w' => e = .returned (.string r) ∧ Below v.heap.size v w') :=
  ⟨textV n, hidp rfl, by rw [← bl_len]; exact textL_len n, hidp (fun v => rtext_any n v hn)⟩
/-- what is told of it -/
theorem tok_rep {S : SetR} {per dl a b c : Int} {a1 : Option Addr} {c1 : Nat} (p1 : S.proto = 3) (p2 : S.cores = [1]) (p3 : S.homes = [0]) (p4 : S.tasks = [⟨⟨#[97]⟩, per, dl, 1, 0, a1, c1, [⟨1, a, 0⟩, ⟨3, b, 0⟩, ⟨3, c, 0⟩]⟩])
    (hper : 1 ≤ per ∧ per ≤ 3000) (hdl : 1 ≤ dl ∧ dl ≤ per) (ha : 1 ≤ a ∧ a ≤ 60) (hb : 1 ≤ b ∧ b ≤ 60) (hc : 1 ≤ c ∧ c ≤ 60) :
    repE S = 0 ∧ (a + b + c ≤ dl → repV S = [wAdm, 97 :: 32 :: (textL (a + b + c) ++ 32 :: (textL dl ++ 32 :: (textL b ++ 32 :: textL c)))]) ∧ (¬ a + b + c ≤ dl → repV S = [wLate]) := by
  obtain ⟨h1, h2⟩ := tok_admit p1 p2 p3 p4 hper hdl ha hb hc
  by_cases e : a + b + c ≤ dl
  · obtain ⟨e0, eB, eW⟩ := h1 e
    refine ⟨by unfold repE; rw [if_pos (.inl e0)], fun _ => ?_, fun h => absurd e h⟩
    unfold repV
    rw [if_pos e0]
    unfold repL
    rw [eB, eW]
    have ho : ordL S.tasks = [0] := by rw [p4]; rfl
    rw [ho]
    show [wAdm, lineR S [a + b + c] [[0, b, c]] 0] = _
    have ht : S.tasks.getD 0 default = ⟨⟨#[97]⟩, per, dl, 1, 0, a1, c1, [⟨1, a, 0⟩, ⟨3, b, 0⟩, ⟨3, c, 0⟩]⟩ := by rw [p4]; rfl
    have hL : locksL [⟨1, a, 0⟩, ⟨3, b, 0⟩, ⟨3, c, 0⟩] [0, b, c] 3 = [textL b, textL c] := by
      have e1 := locksL_no (ps := [⟨1, a, 0⟩, ⟨3, b, 0⟩, ⟨3, c, 0⟩]) (zs := [0, b, c]) (k := 0) (by show (1 : Int) ≠ 3; decide)
      have e2 := locksL_yes (ps := [⟨1, a, 0⟩, ⟨3, b, 0⟩, ⟨3, c, 0⟩]) (zs := [0, b, c]) (k := 1) rfl
      have e3 := locksL_yes (ps := [⟨1, a, 0⟩, ⟨3, b, 0⟩, ⟨3, c, 0⟩]) (zs := [0, b, c]) (k := 2) rfl
      have e0 : locksL [⟨1, a, 0⟩, ⟨3, b, 0⟩, ⟨3, c, 0⟩] [0, b, c] 0 = [] := rfl
      rw [show (3 : Nat) = 2 + 1 from rfl, e3, e2, e1, e0]
      rfl
    unfold lineR wordsR
    rw [ht]
    dsimp only
    rw [show ([⟨1, a, 0⟩, ⟨3, b, 0⟩, ⟨3, c, 0⟩] : List PartM).length = 3 from rfl, show ([[0, b, c]] : List (List Int)).getD 0 [] = [0, b, c] from rfl, hL, show ([a + b + c] : List Int).getD 0 0 = a + b + c from rfl]
    show [wAdm, joinT 32 ([97] :: _)] = _
    simp [joinT]
  · have e0 := h2 e
    refine ⟨by unfold repE; rw [if_pos (.inr (.inl e0))], fun h => absurd h e, fun _ => ?_⟩
    unfold repV
    rw [if_neg (by omega), if_pos e0]
end Go.Proofs.YtjjlpaampmpdfaaGreatDoor
set_option maxHeartbeats 4000000
set_option maxRecDepth 100000
namespace Go.Proofs.YtjjlpaampmpdfaaGreatDoor.reportOne
open Go.ChangeShapes Go.WideShapes Go.ChangeAt Go.RowKit
open Go.ChangeMaps (open_string shut_string)
set_option linter.unusedVariables false

/-- THE WALK: the Go text returns true, and writes nothing that was there. -/
theorem walk (a0 : Int) (a1 : Int) (a2 : Int) (a3 : Int) (w : World) (w0 : (Lit.int .u8 a0).wf = true) (w1 : (Lit.int .u8 a1).wf = true) (w2 : (Lit.int .u8 a2).wf = true) (w3 : (Lit.int .u8 a3).wf = true) (hTab : Go.Lib.TabIs Tryz.prog w "internal/strconv.uint64pow10" .u64 Go.Lib.pow10Tab) :
    Calls Tryz.prog 5 #[.int .u8 a0, .int .u8 a1, .int .u8 a2, .int .u8 a3] w fun e w' => e = .returned (.bool true) ∧ Below w.heap.size w w' := by
  have HT : Hid (∀ u, Below w.heap.size w u → Tab u) := hidp (fun u hu => Tab.over (show Tab w from hTab) hu)
  obtain ⟨a, x0, x1, hx⟩ := mod_u8 60 w0 (by decide)
  obtain ⟨b, y0, y1, hy⟩ := mod_u8 60 w1 (by decide)
  obtain ⟨c, z0, z1, hz⟩ := mod_u8 60 w2 (by decide)
  have b3 : 0 ≤ a3 ∧ a3 ≤ 255 := by simp [Lit.wf, IntKind.min, IntKind.max, IntKind.signed, IntKind.bits] at w3; omega
  have W : ∀ k l r : Int, 0 ≤ k ∧ k < 4 → 0 ≤ l ∧ l < 62 → 0 ≤ r ∧ r < 4 → PartM.wf ⟨k, l, r⟩ := fun k l r h1 h2 h3 => ⟨by unfold I64; dsimp only; omega, by unfold I64; dsimp only; omega, by unfold I64; dsimp only; omega⟩
  have HW := hidp W
  have hd64 : I64 (a3 + 1) := by unfold I64; omega
  have hwr : IntKind.i64.wrap a3 = a3 := IntWalk.i64_in _ (by omega)
  have hwr1 : IntKind.i64.wrap (a3 + 1) = a3 + 1 := IntWalk.i64_in _ (by omega)
  clear W hTab
  go_enter Tryz.func5, Tryz.ntmps5
  have hb := Below.refl w.heap.size w
  go_wp2_with fail
  refine (known19_any _ (fun x hx => HT.out x hx)).mono ?_
  rintro e u1 ⟨rfl, hb2⟩
  replace hb := hb.trans (hb2.mono hb.size)
  clear hb2
  have P0 := Bk.at_ (w := u1) (g := u1.heap.size) (t := 38) (cs := (ptc [⟨1, a + 1, 0⟩, ⟨3, b + 1, 0⟩, ⟨3, c + 1, 0⟩]).toArray) rfl rfl
  replace hb := hb.alloc hb.size (.cells (ptc [⟨1, a + 1, 0⟩, ⟨3, b + 1, 0⟩, ⟨3, c + 1, 0⟩]).toArray 38)
  have hzp : u1.heap.size < (u1.alloc (.cells (ptc [⟨1, a + 1, 0⟩, ⟨3, b + 1, 0⟩, ⟨3, c + 1, 0⟩]).toArray 38)).heap.size := by simp
  go_wp2_with fail
  refine (one19_any 3 (some ⟨u1.heap.size, 0, none⟩) 3 [⟨1, a + 1, 0⟩, ⟨3, b + 1, 0⟩, ⟨3, c + 1, 0⟩] _).mono ?_
  rintro e w3' ⟨⟨ca, ha, ta, cc, hc, tc, rfl, kc, kh, kt, n1, n2⟩, hb3⟩
  obtain ⟨g, hA, hg1, hg2⟩ := own_at kt.own (by simp)
  subst hA
  have X : SetCells (w3'.alloc (.cells #[.int .i64 3, .slice ca 1 cc, .slice ha 1 hc, .slice (some ⟨g, 0, none⟩) 1 tc] 25)) w3'.heap.size _ := (SetCells.new w3' ⟨3, ca, cc, [1], ha, hc, [0], some ⟨g, 0, none⟩, tc, [⟨⟨#[97]⟩, 100, 100, 1, 0, some ⟨u1.heap.size, 0, none⟩, 3, [⟨1, a + 1, 0⟩, ⟨3, b + 1, 0⟩, ⟨3, c + 1, 0⟩]⟩]⟩ 25)
  have T1 := (Turned.refl [] w3').alloc (.cells #[.int .i64 3, .slice ca 1 cc, .slice ha 1 hc, .slice (some ⟨g, 0, none⟩) 1 tc] 25)
  have hb4 := hb3.alloc hb3.size (.cells #[.int .i64 3, .slice ca 1 cc, .slice ha 1 hc, .slice (some ⟨g, 0, none⟩) 1 tc] 25)
  have kt1 := kt.turned T1 (by simp)
  have kc1 := kc.turned T1 (by simp)
  have kh1 := kh.turned T1 (by simp)
  replace n1 : ∀ k ∈ fp ca, k ∉ fp (some (⟨g, 0, none⟩ : Addr)) := fun k hk => (n1 k hk).1
  replace n2 : ∀ k ∈ fp ha, k ∉ fp (some (⟨g, 0, none⟩ : Addr)) := fun k hk => (n2 k hk).1
  have sx := X.2.2.2
  dsimp only at sx
  clear kt kc kh T1 hb3
  go_wp2_with fail
  obtain ⟨v, hv⟩ : ∃ v, w3'.alloc (.cells #[.int .i64 3, .slice ca 1 cc, .slice ha 1 hc, .slice (some ⟨g, 0, none⟩) 1 tc] 25) = v := ⟨_, rfl⟩
  obtain ⟨B, hB⟩ : ∃ B, w3'.heap.size = B := ⟨_, rfl⟩
  rw [hv] at X kt1 kc1 kh1 sx hb4 ⊢
  rw [hB] at X hg2 sx ⊢
  clear hv hB
  have TD := (Turned.refl [] v).drew
  have kt2 := kt1.turned TD (by simp)
  have kc2 := kc1.turned TD (by simp)
  have kh2 := kh1.turned TD (by simp)
  have X2 := X.turned TD (by simp)
  have sx2 := X2.2.2.2
  dsimp only at sx2
  have cz : v.drew.cell? ⟨g, 1, none⟩ = some (.int .i64 100) := by
    obtain ⟨b, off, e, h⟩ := (lies_tasks kt2.tasks).resolve_left (by simp [ttc])
    cases e
    have := h.2 1 (.int .i64 100) rfl
    rw [Nat.zero_add] at this
    exact this
  have fz := own_frozen kt2.own 1
  have T2 := (Turned.refl [g] v.drew).setCell (p := ⟨g, 1, none⟩) (.inl (by simp)) (.int .i64 300)
  have kt3 := ownT_put kt2 (i := 0) (by simp) (j := 1) (by decide) ⟨⟨#[97]⟩, 300, 100, 1, 0, some ⟨u1.heap.size, 0, none⟩, 3, [⟨1, a + 1, 0⟩, ⟨3, b + 1, 0⟩, ⟨3, c + 1, 0⟩]⟩ (.int .i64 300) rfl
  have fz3 := own_frozen kt1.own 2
  have cz3 : v.cell? ⟨g, 2, none⟩ = some (.int .i64 100) := by
    obtain ⟨b, off, e, h⟩ := (lies_tasks kt1.tasks).resolve_left (by simp [ttc])
    cases e
    have := h.2 2 (.int .i64 100) rfl
    rw [Nat.zero_add] at this
    exact this
  have T3 := T2.setCell (p := ⟨g, 2, none⟩) (.inl (by simp)) (.int .i64 (a3 + 1))
  have kt4 := ownT_put kt3 (i := 0) (by simp) (j := 2) (by decide) ⟨⟨#[97]⟩, 300, a3 + 1, 1, 0, some ⟨u1.heap.size, 0, none⟩, 3, [⟨1, a + 1, 0⟩, ⟨3, b + 1, 0⟩, ⟨3, c + 1, 0⟩]⟩ (.int .i64 (a3 + 1)) rfl
  have sx3 := (X2.turned T2 (by simp; omega)).2.2.2
  have sx4 := (X2.turned T3 (by simp; omega)).2.2.2
  dsimp only at sx3 sx4
  have hgF : ∀ k ∈ fp (some (⟨g, 0, none⟩ : Addr)), k = g := fun k hk => by simpa [fp] using hk
  have kc4 := kc2.turned T3 (fun k hk hm => by simp at hm; subst hm; exact n1 _ hk (by simp [fp]))
  have kh4 := kh2.turned T3 (fun k hk hm => by simp at hm; subst hm; exact n2 _ hk (by simp [fp]))
  have X4 := X2.turned T3 (by simp; omega)
  have hb5 := (below_drewN hb4 1).trans (T3.below hb4.size (by simpa using hg1))
  have P4 := P0.below hb5
  replace hb := hb.trans (hb5.mono hb.size)
  have hs : SetOk _ ⟨3, ca, cc, [1], ha, hc, [0], some ⟨g, 0, none⟩, tc, [⟨⟨#[97]⟩, 300, a3 + 1, 1, 0, some ⟨u1.heap.size, 0, none⟩, 3, [⟨1, a + 1, 0⟩, ⟨3, b + 1, 0⟩, ⟨3, c + 1, 0⟩]⟩]⟩ := ⟨by show I64 3; unfold I64; decide, kc4, kh4, ⟨kt4.sl, kt4.tasks, fun t ht => by
    simp at ht; subst ht
    exact task_bk (nm := ⟨#[97]⟩) P4 (by decide) (by decide) hd64 (by decide) (by decide) (by show 3 ≤ maxLen; decide) (fun q hq => by simp at hq; rcases hq with rfl | rfl | rfl <;> exact HW.out _ _ _ (by omega) (by omega) (by omega))⟩⟩
  have HV := hidp (tok_rep (per := 300) (dl := a3 + 1) (a := a + 1) (b := b + 1) (c := c + 1) (S := ⟨3, ca, cc, [1], ha, hc, [0], some ⟨g, 0, none⟩, tc, [⟨⟨#[97]⟩, 300, a3 + 1, 1, 0, some ⟨u1.heap.size, 0, none⟩, 3, [⟨1, a + 1, 0⟩, ⟨3, b + 1, 0⟩, ⟨3, c + 1, 0⟩]⟩]⟩) rfl rfl rfl rfl ⟨by decide, by decide⟩ ⟨by omega, by omega⟩ ⟨by omega, by omega⟩ ⟨by omega, by omega⟩ ⟨by omega, by omega⟩)
  have HTb : Hid (∀ u, Below _ _ u → Tab u) := hidp (fun u hu => HT.out u (hb.trans (hu.mono hb.size)))
  have CL := rlines19_any _ _ hs HTb.out
  unfold LinesPost at CL
  rw [HV.out.1] at CL
  have ew : (v.drew.setCell ⟨g, 1, none⟩ (.int .i64 300)).setCell ⟨g, 2, none⟩ (.int .i64 (a3 + 1)) = ((v.setCell ⟨g, 1, none⟩ (.int .i64 300)).setCell ⟨g, 2, none⟩ (.int .i64 (a3 + 1))).drew := rfl
  clear kt1 kc1 kh1 kt2 kc2 kh2 kt3 kt4 kc4 kh4 X X2 TD T2 T3 P4 hs hgF n1 n2 sx hb4 hb5 HTb
  refine wp_region_held_drew (S := fun w' => w'.cell? ⟨B, 3, none⟩ = some (.slice (some ⟨g, 0, none⟩) 1 tc)) (by kernel_rfl) ?_ (fun hHeld => ?_)
  · exact sx2
  refine wpAnyH_take (i := 0) (v := ?_) rfl (by kernel_rfl) (by kernel_rfl) (by kernel_rfl) (fun _ _ _ h => h) (Or.inl ⟨by rfl, ?_⟩) (by assumption) ?_
  rotate_left 1
  · ((intro w hSw; (try dsimp only at hSw); go_simp); (try with_reducible rfl))
  simp only [Act.put, List.setIfInBounds_toArray, List.set_cons_zero, List.set_cons_succ, List.getElem_toArray, List.getElem_cons_zero, List.getElem_cons_succ]
  refine wpAnyH_take (i := 1) (v := ?_) rfl (by kernel_rfl) (by kernel_rfl) (by kernel_rfl) (fun _ _ _ h => h) (Or.inl ⟨by rfl, ?_⟩) (by assumption) ?_
  rotate_left 1
  · ((intro w hSw; (try dsimp only at hSw); go_simp); (try with_reducible rfl))
  simp only [Act.put, List.setIfInBounds_toArray, List.set_cons_zero, List.set_cons_succ, List.getElem_toArray, List.getElem_cons_zero, List.getElem_cons_succ]
  refine wpAnyH_take (i := 2) (v := ?_) rfl (by kernel_rfl) (by kernel_rfl) (by kernel_rfl) (fun _ _ _ h => h) (Or.inl ⟨by rfl, ?_⟩) (by assumption) ?_
  rotate_left 1
  · ((intro w hSw; (try dsimp only at hSw); go_simp); (try with_reducible rfl))
  simp only [Act.put, List.setIfInBounds_toArray, List.set_cons_zero, List.set_cons_succ, List.getElem_toArray, List.getElem_cons_zero, List.getElem_cons_succ]
  refine wpAnyH_take (i := 3) (v := ?_) rfl (by kernel_rfl) (by kernel_rfl) (by kernel_rfl) (fun _ _ _ h => h) (Or.inl ⟨by rfl, ?_⟩) (by assumption) ?_
  rotate_left 1
  · ((intro w hSw; (try dsimp only at hSw); go_simp); (try with_reducible rfl))
  simp only [Act.put, List.setIfInBounds_toArray, List.set_cons_zero, List.set_cons_succ, List.getElem_toArray, List.getElem_cons_zero, List.getElem_cons_succ]
  refine wpAnyH_take (i := 4) (v := ?_) rfl (by kernel_rfl) (by kernel_rfl) (by kernel_rfl) (fun _ _ _ h => h) (Or.inl ⟨by rfl, ?_⟩) (by assumption) ?_
  rotate_left 1
  · ((intro w hSw; (try dsimp only at hSw); go_simp); (try with_reducible rfl))
  simp only [Act.put, List.setIfInBounds_toArray, List.set_cons_zero, List.set_cons_succ, List.getElem_toArray, List.getElem_cons_zero, List.getElem_cons_succ]
  refine wpAnyH_take (i := 5) (v := ?_) rfl (by kernel_rfl) (by kernel_rfl) (by kernel_rfl) (fun _ _ _ h => h) (Or.inl ⟨by rfl, ?_⟩) (by assumption) ?_
  rotate_left 1
  · ((intro w hSw; (try dsimp only at hSw); go_simp); (try with_reducible rfl))
  simp only [Act.put, List.setIfInBounds_toArray, List.set_cons_zero, List.set_cons_succ, List.getElem_toArray, List.getElem_cons_zero, List.getElem_cons_succ]
  refine wpAnyH_take (i := 6) (v := ?_) rfl (by kernel_rfl) (by kernel_rfl) (by kernel_rfl) (fun _ _ _ h => h) (Or.inl ⟨by rfl, ?_⟩) (by assumption) ?_
  rotate_left 1
  · ((intro w hSw; (try dsimp only at hSw); go_simp); (try with_reducible rfl))
  simp only [Act.put, List.setIfInBounds_toArray, List.set_cons_zero, List.set_cons_succ, List.getElem_toArray, List.getElem_cons_zero, List.getElem_cons_succ]
  refine wpAnyH_ready (rs := [7]) (by kernel_rfl) (by simp) ?_
  refine AllReadyH.cons rfl (fun K hK => ?_) AllReadyH.nil
  go_simp
  refine hK.out _ _ ?_ (fun hHeld => ?_)
  · exact sx3
  clear hK K
  try simp only [Act.put, List.setIfInBounds_toArray, List.set_cons_zero, List.set_cons_succ, List.getElem_toArray, List.getElem_cons_zero, List.getElem_cons_succ]
  refine wpAnyH_take (i := 8) (v := ?_) rfl (by kernel_rfl) (by kernel_rfl) (by kernel_rfl) (fun _ _ _ h => h) (Or.inl ⟨by rfl, ?_⟩) (by assumption) ?_
  rotate_left 1
  · ((intro w hSw; (try dsimp only at hSw); go_simp); (try with_reducible rfl))
  simp only [Act.put, List.setIfInBounds_toArray, List.set_cons_zero, List.set_cons_succ, List.getElem_toArray, List.getElem_cons_zero, List.getElem_cons_succ]
  refine wpAnyH_take (i := 9) (v := ?_) rfl (by kernel_rfl) (by kernel_rfl) (by kernel_rfl) (fun _ _ _ h => h) (Or.inl ⟨by rfl, ?_⟩) (by assumption) ?_
  rotate_left 1
  · ((intro w hSw; (try dsimp only at hSw); go_simp); (try with_reducible rfl))
  simp only [Act.put, List.setIfInBounds_toArray, List.set_cons_zero, List.set_cons_succ, List.getElem_toArray, List.getElem_cons_zero, List.getElem_cons_succ]
  refine wpAnyH_ready (rs := [10]) (by kernel_rfl) (by simp) ?_
  refine AllReadyH.cons rfl (fun K hK => ?_) AllReadyH.nil
  go_simp
  refine hK.out _ _ ?_ (fun hHeld => ?_)
  · exact sx4
  clear hK K
  try simp only [Act.put, List.setIfInBounds_toArray, List.set_cons_zero, List.set_cons_succ, List.getElem_toArray, List.getElem_cons_zero, List.getElem_cons_succ]
  refine wpAnyH_done (by kernel_rfl) ?_ _
  rw [ew] at CL hb
  have sc := X4
  rw [ew] at sc
  obtain ⟨sc_0, sc_1, sc_2, sc_3⟩ := sc
  dsimp only at sc_0 sc_1 sc_2 sc_3
  clear X4 ew fz cz fz3 cz3 sx2 sx3 sx4
  go_wp2_with fail
  refine CL.mono ?_
  rintro e w4 ⟨A, cA, rfl, hsl, hb6⟩
  have HB6 := hidp (hb.trans (hb6.mono hb.size))
  have HRV := HV.out.2
  clear CL sc_0 sc_1 sc_2 sc_3 P0 hzp
  obtain ⟨RV, hRV⟩ : ∃ RV, repV ⟨3, ca, cc, [1], ha, hc, [0], some ⟨g, 0, none⟩, tc, [⟨⟨#[97]⟩, 300, a3 + 1, 1, 0, some ⟨u1.heap.size, 0, none⟩, 3, [⟨1, a + 1, 0⟩, ⟨3, b + 1, 0⟩, ⟨3, c + 1, 0⟩]⟩]⟩ = RV := ⟨_, rfl⟩
  rw [hRV] at HRV hsl ⊢
  clear hRV HV
  have wab : IntKind.i64.wrap (a + 1 + (b + 1)) = a + 1 + (b + 1) := IntWalk.i64_in _ (by omega)
  have wabc : IntKind.i64.wrap (a + 1 + (b + 1) + (c + 1)) = a + 1 + (b + 1) + (c + 1) := IntWalk.i64_in _ (by omega)
  have HL1 : Hid (StrL w4.heap.size (w4.alloc (.cells #[.string ⟨#[108, 97, 116, 101]⟩] 9)) (some ⟨w4.heap.size, 0, none⟩) 1 1 [wLate]) := hidp (strL_lit w4 [⟨#[108, 97, 116, 101]⟩] (by intro x hx; rw [List.mem_singleton.1 hx]; decide) (by simp))
  have HB7 := hidp (HB6.out.alloc HB6.out.size (.cells #[.string ⟨#[108, 97, 116, 101]⟩] 9))
  have hq4 := (Below.refl w4.heap.size w4).alloc (Nat.le_refl _) (.cells #[.string ⟨#[108, 97, 116, 101]⟩] 9)
  have hsl7 := hsl.turned (Turned.of_below hq4 []) (by simp)
  by_cases hle : a + 1 + (b + 1) + (c + 1) ≤ a3 + 1
  · obtain rfl := HRV.1 hle
    obtain ⟨t1, h1, s1, C1⟩ := rt_one (a + 1 + (b + 1) + (c + 1)) (by unfold I64; omega)
    obtain ⟨t2, h2, s2, C2⟩ := rt_one (a3 + 1) hd64
    obtain ⟨t3, h3, s3, C3⟩ := rt_one (b + 1) (by unfold I64; omega)
    obtain ⟨t4, h4, s4, C4⟩ := rt_one (c + 1) (by unfold I64; omega)
    have m1 : ¬ 9223372036854775807 < 2 + t1.size := by omega
    have m2 : ¬ 9223372036854775807 < 2 + t1.size + 1 := by omega
    have m3 : ¬ 9223372036854775807 < 2 + t1.size + 1 + t2.size := by omega
    have m4 : ¬ 9223372036854775807 < 2 + t1.size + 1 + t2.size + 1 := by omega
    have m5 : ¬ 9223372036854775807 < 2 + t1.size + 1 + t2.size + 1 + t3.size := by omega
    have m6 : ¬ 9223372036854775807 < 2 + t1.size + 1 + t2.size + 1 + t3.size + 1 := by omega
    have m7 : ¬ 9223372036854775807 < 2 + t1.size + 1 + t2.size + 1 + t3.size + 1 + t4.size := by omega
    have HX : Hid (bl ((⟨#[97, 32]⟩ : ByteArray) ++ t1 ++ ⟨#[32]⟩ ++ t2 ++ ⟨#[32]⟩ ++ t3 ++ ⟨#[32]⟩ ++ t4) = 97 :: 32 :: (textL (a + 1 + (b + 1) + (c + 1)) ++ 32 :: (textL (a3 + 1) ++ 32 :: (textL (b + 1) ++ 32 :: textL (c + 1))))) := hidp (by
      simp only [bl_append, h1.out, h2.out, h3.out, h4.out]
      show [97, 32] ++ _ ++ [32] ++ _ ++ [32] ++ _ ++ [32] ++ _ = _
      simp)
    have HXz : Hid (((⟨#[97, 32]⟩ : ByteArray) ++ t1 ++ ⟨#[32]⟩ ++ t2 ++ ⟨#[32]⟩ ++ t3 ++ ⟨#[32]⟩ ++ t4).size ≤ 100) := hidp (by
      simp only [ByteArray.size_append]
      show 2 + t1.size + 1 + t2.size + 1 + t3.size + 1 + t4.size ≤ 100
      omega)
    have HSL := hidp hsl7
    clear HRV hsl hsl7 HL1 hq4
    go_wp2_with fail
    refine (C1.out _).mono ?_
    rintro e v1 ⟨rfl, q1⟩
    have HB8 := hidp (HB7.out.trans (q1.mono HB7.out.size))
    have HS1 := hidp (HSL.out.turned (Turned.of_below q1 []) (by simp))
    clear q1 HSL C1
    go_wp2_with fail
    refine (C2.out _).mono ?_
    rintro e v2 ⟨rfl, q2⟩
    have HB9 := hidp (HB8.out.trans (q2.mono HB8.out.size))
    have HS2 := hidp (HS1.out.turned (Turned.of_below q2 []) (by simp))
    clear q2 HS1 C2
    go_wp2_with fail
    refine (C3.out _).mono ?_
    rintro e v3 ⟨rfl, q3⟩
    have HB10 := hidp (HB9.out.trans (q3.mono HB9.out.size))
    have HS3 := hidp (HS2.out.turned (Turned.of_below q3 []) (by simp))
    clear q3 HS2 C3
    go_wp2_with fail
    refine (C4.out _).mono ?_
    rintro e v4 ⟨rfl, q4⟩
    have HB11 := hidp (HB10.out.trans (q4.mono HB10.out.size))
    have HS4 := hidp (HS3.out.turned (Turned.of_below q4 []) (by simp))
    clear q4 HS3 C4
    generalize hX : (⟨#[97, 32]⟩ : ByteArray) ++ t1 ++ ⟨#[32]⟩ ++ t2 ++ ⟨#[32]⟩ ++ t3 ++ ⟨#[32]⟩ ++ t4 = X at *
    have HB12 := hidp (HB11.out.alloc HB11.out.size (.cells #[.string ⟨#[97, 100, 109, 105, 116, 116, 101, 100]⟩, .string X] 9))
    have HS5 := hidp (HS4.out.turned (Turned.of_below ((Below.refl v4.heap.size v4).alloc (Nat.le_refl _) (.cells #[.string ⟨#[97, 100, 109, 105, 116, 116, 101, 100]⟩, .string X] 9)) []) (by simp))
    have HL2 := hidp (strL_lit v4 [⟨#[97, 100, 109, 105, 116, 116, 101, 100]⟩, X] (by
      intro x hx
      simp only [List.mem_cons, List.not_mem_nil, or_false] at hx
      rcases hx with rfl | rfl
      · decide
      · have := HXz.out; omega) (by simp))
    have CS : Calls Tryz.prog 11 #[.slice A 2 cA, .slice (some ⟨v4.heap.size, 0, none⟩) 2 2] _ _ := same19_yes HS5.out (L := _) (by
      have h := HL2.out
      simp only [List.map_cons, List.map_nil, HX.out] at h
      exact h) (by simp)
    have HCS := hidp CS
    clear CS HS4 m1 m2 m3 m4 m5 m6 m7 HL2
    go_wp2_with fail
    refine HCS.out.mono ?_
    rintro e v5 ⟨rfl, hq⟩
    have HBe := hidp (hq.below HB12.out)
    clear hq HCS
    go_wp2_with fail
    go_ret
    exact ⟨rfl, HBe.out⟩
  · obtain rfl := HRV.2 (by omega)
    have hlt : ¬ a + 1 + (b + 1) + (c + 1) ≤ a3 + 1 := hle
    have HCS := hidp (same19_yes hsl7 HL1.out (by simp))
    clear HRV hsl hsl7 HL1 hq4
    go_wp2_with fail
    refine HCS.out.mono ?_
    rintro e v5 ⟨rfl, hq⟩
    have HBe := hidp (hq.below HB7.out)
    clear hq HCS
    go_wp2_with fail
    go_ret
    exact ⟨rfl, HBe.out⟩

theorem own : ownKnob Tryz.prog.godebug = none := by kernel_rfl
theorem laidOut : laidOutB Tryz.prog = true := by kernel_rfl
def cellsD : DataW Unit → List Value
  | .agg ds => ds.flatMap fun
    | .lit (.int k z) => [Value.int k z]
    | .agg es => es.flatMap fun
      | .lit (.int k z) => [Value.int k z]
      | _ => []
    | _ => []
  | _ => []
def layTab (d : DataW Unit) : Obj → Obj
  | .cells _ t frozen => .cells (cellsD d).toArray t frozen
  | o => o
/-- a world in which the listed tables lie: the witness -/
noncomputable def laidWorld (os : Os) : World := { World.holding Tryz.prog os ⟨#[], #[], []⟩ with heap := ((((World.holding Tryz.prog os ⟨#[], #[], []⟩).heap.modify 2 (layTab Rows.laid_math_bits_deBruijn32tab)).modify 3 (layTab Rows.laid_math_bits_deBruijn64tab)).modify 1 (layTab Rows.laid_internal_strconv_uint64pow10)) }
theorem laid_met (os : Os) (args : Array Value) : laidMetH Tryz.prog Rows.reportOneRow.laid ((laidWorld os).forCall (fun _ _ => 0) ⟨#[], args, []⟩).memory :=
  laidMet_of_run' 8 (by kernel_rfl) (by kernel_rfl)
theorem witness_row (os : Os) {H : Type} (enc : TypeId × Value → H) :
    (OpenSpec.ofChange Rows.reportOneSpec).preRow enc Tryz.prog Tryz.f5 Rows.reportOneRow.domain false Rows.reportOneRow.laid ((laidWorld os).forCall (fun _ _ => 0) ⟨#[], #[.int .u8 0, .int .u8 0, .int .u8 0, .int .u8 0], []⟩).memory #[.int .u8 0, .int .u8 0, .int .u8 0, .int .u8 0] := by
  have hw : (DataW.whole enc Tryz.prog ((laidWorld os).forCall (fun _ _ => 0) ⟨#[], #[.int .u8 0, .int .u8 0, .int .u8 0, .int .u8 0], []⟩).memory Tryz.f5.params.toList (OpenSpec.ofChange Rows.reportOneSpec).vars false (#[.int .u8 0, .int .u8 0, .int .u8 0, .int .u8 0] : Array Value).toList 8).map (fun x => (x.1, x.2.1)) =
      some ([.lit (.int .u8 0), .lit (.int .u8 0), .lit (.int .u8 0), .lit (.int .u8 0)], []) := by kernel_rfl
  obtain ⟨⟨x1, x2, x3⟩, hx, hx1⟩ := Option.map_eq_some_iff.1 hw
  simp only [Prod.mk.injEq] at hx1
  obtain ⟨rfl, rfl⟩ := hx1
  exact OpenSpec.preRow_of_cond 8 hx (by kernel_rfl) (fun k hk => by cases hk) (by kernel_rfl) (laid_met os _)

set_option maxRecDepth 100000 in
theorem lifted (os : Os) (started : os.Started) (H : Type) (enc : TypeId × Value → H) (F0 : Stop.Interp) :
    ReturnsInHanded {} Tryz.checked os 5 .any ((OpenSpec.ofChange Rows.reportOneSpec).preRow enc Tryz.prog Tryz.f5 Rows.reportOneRow.domain false Rows.reportOneRow.laid) (((OpenSpec.ofChange Rows.reportOneSpec).at F0).post enc Tryz.prog Tryz.f5 false true false false) := by
  refine returnsInHanded_of_row (C := Tryz.checked) (s := OpenSpec.ofChange Rows.reportOneSpec) own started (by kernel_rfl) Tryz.func5
    (witness_row_at (enc := enc) (C := Tryz.checked) false (laidWorld os) #[.int .u8 0, .int .u8 0, .int .u8 0, .int .u8 0] rfl (by kernel_rfl) (by kernel_rfl) (by kernel_rfl) (witness_row os enc)) ?_
  intro W base args ds gs before hval0 hW _ _ _ hL hsh _
  have hTab : Go.Lib.TabIs Tryz.prog W "internal/strconv.uint64pow10" .u64 Go.Lib.pow10Tab := tabPow hL
  have hval : ∀ (j : Nat) t v, Tryz.f5.params[j]? = some t → args[j]? = some v → Value.okWide Tryz.prog W .any base t v := hval0
  have hW' := hW
  obtain ⟨p, q, hA0, hV, rfl, hfz, hnd⟩ := hW
  have hA : DataW.TrodAll enc Tryz.prog W 0 (fun _ => true) true Tryz.f5.params.toList args.toList ds p := hA0
  rw [Tryz.params5] at hA hval
  obtain ⟨v0, vs0, d0, ds0, p0, q0, hargs, rfl, rfl, h0, r0⟩ := trodAll_cons hA
  obtain ⟨v1, vs1, d1, ds1, p1, q1, rfl, rfl, rfl, h1, r1⟩ := trodAll_cons r0
  obtain ⟨v2, vs2, d2, ds2, p2, q2, rfl, rfl, rfl, h2, r2⟩ := trodAll_cons r1
  obtain ⟨v3, vs3, d3, ds3, p3, q3, rfl, rfl, rfl, h3, r3⟩ := trodAll_cons r2
  obtain ⟨rfl, rfl, rfl⟩ := trodAll_nil r3
  obtain rfl : args = #[v0, v1, v2, v3] := by cases args; simp_all
  obtain ⟨rfl, rfl⟩ := trodVars_none hV
  obtain ⟨a0, rfl, rfl, rfl, w0⟩ := open_int Tryz.underlying5 (hval 0 5 v0 rfl rfl) h0
  obtain ⟨a1, rfl, rfl, rfl, w1⟩ := open_int Tryz.underlying5 (hval 1 5 v1 rfl rfl) h1
  obtain ⟨a2, rfl, rfl, rfl, w2⟩ := open_int Tryz.underlying5 (hval 2 5 v2 rfl rfl) h2
  obtain ⟨a3, rfl, rfl, rfl, w3⟩ := open_int Tryz.underlying5 (hval 3 5 v3 rfl rfl) h3
  clear hA0 hval0
  refine (walk a0 a1 a2 a3  W w0 w1 w2 w3 hTab).mono fun e W' ⟨he, bel⟩ => ?_
  subst he
  exact ⟨_, rfl, _, _, _, [], _, [], hW', trodAll_mk1 (shut_bool Tryz.underlying4 _), (trodAll_cons_mk (shut_int Tryz.underlying5 w0) (trodAll_cons_mk (shut_int Tryz.underlying5 w1) (trodAll_cons_mk (shut_int Tryz.underlying5 w2) (trodAll_cons_mk (shut_int Tryz.underlying5 w3) trodAll_mk0)))), rfl, bel.frame _, fun h => by cases h⟩

theorem over : Rows.ReportOneSaid :=
  OpenClaim.holds_of_cond 5 Tryz.f5 rfl rfl rfl rfl rfl rfl rfl ⟨rfl, rfl, rfl, rfl, rfl⟩ rfl rfl rfl rfl rfl (by kernel_rfl) Tryz.func5 (by kernel_rfl)
    (of_decide_eq_true (by kernel_rfl)) (by unfold Func.isWrapper; first | (rw [if_pos (by decide +kernel)]; kernel_rfl) | (rw [if_neg (by decide +kernel)]; exact ⟨rfl, rfl⟩))
    (fun os started H enc _ F0 => by rw [OpenClaim.pre_eq_preRow]; exact lifted os started H enc F0)

/-- THE STATEMENT: the tied card -/
theorem proved : Rows.ReportOneCardSaid :=
  Claim7.holds_tied_plain_at .later [] [.data, .data, .data] true (true, "4ae43c0d88ae7c83191992ae37143b99eb28f5c9a732c1732e49016fc388c3c3") false
    over (fun _ h => by cases h) (by kernel_rfl) (fun _ h => by cases h) reportOne_row_tie rfl ⟨rfl, rfl⟩ (by kernel_rfl) rfl
    (fun f fn hf hfn => by
      obtain rfl : f = 5 := Option.some.inj ((show Tryz.prog.funcNamed Rows.reportOneRow.func = some 5 by kernel_rfl).symm.trans hf) |>.symm
      obtain rfl : fn = Tryz.f5 := (Option.some.inj (Tryz.func5.symm.trans hfn)).symm
      refine ⟨by kernel_rfl, fun j t ht => ?_⟩
      rw [Tryz.params5] at ht
      exact standIns _ (by kernel_rfl) j t ht)
    (by kernel_rfl)
#print axioms proved
end Go.Proofs.YtjjlpaampmpdfaaGreatDoor.reportOne

