/- lock: Holder, Waiting. -/
import Derived.Test.YtppgameimddimaaGreatLkR
namespace Go.Proofs.YtppgameimddimaaGreat
open Go.ChangeShapes Go.WideShapes Go.ChangeAt Go.RowKit Go.Conc
set_option linter.unusedVariables false
set_option linter.unusedSimpArgs false
/-- who holds res: the first one of the row -/
def holdR (l : List AskM) (res : Int) : Option Nat := l.findIdx? (fun a => a.holds && a.res == res)
def holdV (l : List AskM) (res : Int) : Value := match holdR l res with | some i => .tuple #[.int .i64 i, .bool true] | none => .tuple #[.int .i64 0, .bool false]
theorem holdR_hit {l : List AskM} {res : Int} {k : Nat} (hk : k < l.length) (hn : ∀ j, j < k → ((l.getD j default).holds && (l.getD j default).res == res) = false) (he : ((l.getD k default).holds && (l.getD k default).res == res) = true) : holdV l res = .tuple #[.int .i64 k, .bool true] := by
  have : holdR l res = some k := by
    unfold holdR
    rw [List.findIdx?_eq_some_iff_getElem]
    refine ⟨hk, by simpa [List.getD, hk] using he, fun j hj => ?_⟩
    have := hn j hj
    have hjl : j < l.length := by omega
    simpa [List.getD, hjl] using this
  unfold holdV
  rw [this]
theorem holdR_none {l : List AskM} {res : Int} (hn : ∀ j, j < l.length → ((l.getD j default).holds && (l.getD j default).res == res) = false) : holdV l res = .tuple #[.int .i64 0, .bool false] := by
  have : holdR l res = none := by
    unfold holdR
    rw [List.findIdx?_eq_none_iff]
    intro a ha
    obtain ⟨j, hj, rfl⟩ := List.getElem_of_mem ha
    have := hn j hj
    simpa [List.getD, hj] using this
  unfold holdV
  rw [this]
/-- who waits: the first k of the row -/
def waitW (l : List AskM) (k : Nat) : List Int := ((List.range k).filter (fun i => (l.getD i default).asked && !(l.getD i default).holds)).map (fun i : Nat => (i : Int))
theorem waitW_hit {l : List AskM} {k : Nat} (h : ((l.getD k default).asked && !(l.getD k default).holds) = true) : waitW l (k + 1) = waitW l k ++ [(k : Int)] := by
  unfold waitW
  rw [List.range_succ, List.filter_append, List.map_append]
  simp only [List.filter_cons, List.filter_nil, h, if_true, List.map_cons, List.map_nil]
theorem waitW_miss {l : List AskM} {k : Nat} (h : ((l.getD k default).asked && !(l.getD k default).holds) = false) : waitW l (k + 1) = waitW l k := by
  unfold waitW
  rw [List.range_succ, List.filter_append, List.map_append]
  simp only [List.filter_cons, List.filter_nil, h, if_false, List.map_nil, List.append_nil, Bool.false_eq_true]
theorem waitW_len (l : List AskM) (k : Nat) : (waitW l k).length ≤ k := by
  unfold waitW
  rw [List.length_map]
  exact Nat.le_trans (List.length_filter_le _ _) (by simp)
section
variable {w : World} {b o : Nat} {T : TypeId} {cs : Array Value} {m : LkM}
set_option maxHeartbeats 4000000 in
theorem lholder_any (h : Lk w b o T cs m) (hl : m.ask.length ≤ 6) (res : Int) : Calls Tryz.prog 24 #[.pointer (some ⟨b, o, none⟩), .int .i64 res] w fun e w' => e = .returned (holdV m.ask res) ∧ Below w.heap.size w w' := by
  have c1 := h.ac
  have HK := hidp h.askers
  obtain ⟨l, HL⟩ : ∃ l, Hid (m.ask = l) := ⟨_, hidp rfl⟩
  rw [HL.out] at HK c1 hl ⊢
  generalize hAa : m.Aa = Aa at HK c1
  clear hAa
  obtain ⟨Q, HQ⟩ : ∃ Q : Nat → Bool, Hid (∀ j, ((l.getD j default).holds && (l.getD j default).res == res) = Q j) := ⟨_, hidp (fun _ => rfl)⟩
  clear h
  go_enter Tryz.func24, Tryz.ntmps24
  go_wp2
  go_loopg [13] l.length (fun g i wr => ∃ k : Nat, k + g = l.length ∧ i = .int .i64 k ∧ Hid (∀ j, j < k → Q j = false) ∧ Below w.heap.size w wr)
  case atStart => exact ⟨0, by omega, rfl, hidp (fun j hj => by omega), Below.refl _ _⟩
  case round =>
    obtain ⟨k, hk, rfl, hn, hb⟩ := hrel
    by_cases hlt : k < l.length
    · obtain ⟨g, hg, _, hgs⟩ := HK.out.at_ (by omega)
      subst hg
      have hkk := HK.out
      obtain ⟨x0, x1, x2, x3, x4, x5⟩ := hkk.cells hlt
      obtain ⟨p, HP⟩ : ∃ p, Hid (l.getD k default = p) := ⟨_, hidp rfl⟩
      rw [HP.out] at x0 x1 x2 x3 x4 x5
      have hqk := HQ.out k
      rw [HP.out] at hqk
      obtain ⟨pr, cl, ak, ho, re, pl⟩ := p
      dsimp only at x0 x1 x2 x3 x4 x5 hqk
      have HQK := hidp hqk
      clear hqk hkk
      have y0 := (hb.cell (cell_lt x0)).trans x0
      have y1 := (hb.cell (cell_lt x1)).trans x1
      have y2 := (hb.cell (cell_lt x2)).trans x2
      have y3 := (hb.cell (cell_lt x3)).trans x3
      have y4 := (hb.cell (cell_lt x4)).trans x4
      have y5 := (hb.cell (cell_lt x5)).trans x5
      have hd : decide (l.length ≤ k) = false := decide_eq_false (by omega)
      have hbe := hidp (hb.alloc hb.size (.cells #[.int .i64 pr, .int .i64 cl, .bool ak, .bool ho, .int .i64 re, .int .i64 pl] 72))
      have B := Bk.new wr 72 #[.int .i64 pr, .int .i64 cl, .bool ak, .bool ho, .int .i64 re, .int .i64 pl]
      have z3 := B.cell 3
      have z4 := B.cell 4
      simp at z3 z4
      clear x0 x1 x2 x3 x4 x5 c1 B hb
      have Hn := hidp hn
      clear hn
      have step : Q k = false → ∀ j, j < k + 1 → Q j = false := fun h j hj => by
        by_cases e : j = k
        · subst e; exact h
        · exact Hn.out j (by omega)
      have HS := hidp step
      clear step
      cases ho with
      | false =>
        have Hq : Hid (Q k = false) := hidp (HQK.out.symm)
        go_wp2
        go_roundg (gk - 1)
        case measure => omega
        case rel => exact ⟨k + 1, by omega, by go_num, hidp (HS.out Hq.out), hbe.out⟩
      | true =>
        by_cases he : re = res
        · have he' : (re == res) = true := by simpa using he
          have Hq : Hid (Q k = true) := hidp (by rw [← HQK.out]; simpa using he)
          have Hv : Hid (holdV l res = .tuple #[.int .i64 k, .bool true]) := hidp (holdR_hit hlt (fun j hj => by rw [HQ.out]; exact Hn.out j hj) (by rw [HQ.out]; exact Hq.out))
          clear he
          go_wp2
          try rw [Exit.noGoto_ret]
          go_ret2
          exact ⟨by rw [Hv.out]; rfl, hbe.out⟩
        · have he' : (re == res) = false := by simpa using he
          have Hq : Hid (Q k = false) := hidp (by rw [← HQK.out]; simpa using he)
          clear he
          go_wp2
          go_roundg (gk - 1)
          case measure => omega
          case rel => exact ⟨k + 1, by omega, by go_num, hidp (HS.out Hq.out), hbe.out⟩
    · obtain rfl : k = l.length := by omega
      have Hv : Hid (holdV l res = .tuple #[.int .i64 0, .bool false]) := hidp (holdR_none (fun j hj => by rw [HQ.out]; exact hn.out j hj))
      have HB := hidp hb
      clear hb
      go_wp2
      try rw [Exit.noGoto_ret]
      go_ret2
      exact ⟨by rw [Hv.out]; rfl, HB.out⟩
def WaitPost (w : World) (l : List AskM) (e : Ending) (w' : World) : Prop := ∃ A n c, e = .returned (.slice A n c) ∧ OwnInts w.heap.size w' A n c (waitW l l.length) ∧ Below w.heap.size w w'
set_option maxHeartbeats 4000000 in
set_option maxRecDepth 100000 in
theorem lwaiting_any (h : Lk w b o T cs m) (hl : m.ask.length ≤ 6) : Calls Tryz.prog 25 #[.pointer (some ⟨b, o, none⟩)] w (WaitPost w m.ask) := by
  have c1 := h.ac
  have HK := hidp h.askers
  obtain ⟨l, HL⟩ : ∃ l, Hid (m.ask = l) := ⟨_, hidp rfl⟩
  rw [HL.out] at HK c1 hl ⊢
  generalize hAa : m.Aa = Aa at HK c1
  clear hAa
  obtain ⟨i0, hi0, hz0, hz1, hz2⟩ := info_parts infoInt
  clear h
  go_enter Tryz.func25, Tryz.ntmps25
  go_wp2
  go_loopg [3, 11] l.length (fun g a i wr => ∃ (k n : Nat) (A : Option Addr) (c : Nat), k + g = l.length ∧ i = .int .i64 k ∧ a = .slice A n c ∧ n ≤ 6 ∧ OwnInts w.heap.size wr A n c (waitW l k) ∧ Below w.heap.size w wr)
  case atStart => exact ⟨0, 0, none, 0, by omega, rfl, rfl, by omega, ⟨World.ownsRow_nil _ _ _ _, rfl, Nat.le_refl _, by decide, fun _ => ⟨rfl, rfl⟩⟩, Below.refl _ _⟩
  case round =>
    obtain ⟨k, n, A, c, hk, rfl, rfl, hn6, ho, hb⟩ := hrel
    by_cases hlt : k < l.length
    · obtain ⟨g, hg, _, hgs⟩ := HK.out.at_ (by omega)
      subst hg
      have hkk := HK.out
      obtain ⟨x0, x1, x2, x3, x4, x5⟩ := hkk.cells hlt
      obtain ⟨p, HP⟩ : ∃ p, Hid (l.getD k default = p) := ⟨_, hidp rfl⟩
      rw [HP.out] at x0 x1 x2 x3 x4 x5
      obtain ⟨pr, cl, ak, hd0, re, pl⟩ := p
      dsimp only at x0 x1 x2 x3 x4 x5
      clear hkk
      have y0 := (hb.cell (cell_lt x0)).trans x0
      have y1 := (hb.cell (cell_lt x1)).trans x1
      have y2 := (hb.cell (cell_lt x2)).trans x2
      have y3 := (hb.cell (cell_lt x3)).trans x3
      have y4 := (hb.cell (cell_lt x4)).trans x4
      have y5 := (hb.cell (cell_lt x5)).trans x5
      have hd : decide (l.length ≤ k) = false := decide_eq_false (by omega)
      have HBe := hidp (hb.alloc hb.size (.cells #[.int .i64 pr, .int .i64 cl, .bool ak, .bool hd0, .int .i64 re, .int .i64 pl] 72))
      have HO := hidp (ho.turned ((Turned.refl [] wr).alloc (.cells #[.int .i64 pr, .int .i64 cl, .bool ak, .bool hd0, .int .i64 re, .int .i64 pl] 72)) (by simp))
      have B := Bk.new wr 72 #[.int .i64 pr, .int .i64 cl, .bool ak, .bool hd0, .int .i64 re, .int .i64 pl]
      have z2 := B.cell 2
      have z3 := B.cell 3
      simp at z2 z3
      have Hwn := hidp ho.2.1
      have hn5 : n + 1 ≤ 6 := by have hwl := waitW_len l k; have := Hwn.out; omega
      clear x0 x1 x2 x3 x4 x5 c1 B hb ho
      cases ak with
      | false =>
        have Hw : Hid (waitW l (k + 1) = waitW l k) := hidp (waitW_miss (by rw [HP.out]; rfl))
        go_wp2
        go_roundg (gk - 1)
        case measure => omega
        case rel => exact ⟨k + 1, n, A, c, by omega, by go_num, rfl, by omega, by rw [Hw.out]; exact HO.out, HBe.out⟩
      | true =>
        cases hd0 with
        | true =>
          have Hw : Hid (waitW l (k + 1) = waitW l k) := hidp (waitW_miss (by rw [HP.out]; rfl))
          go_wp2
          go_roundg (gk - 1)
          case measure => omega
          case rel => exact ⟨k + 1, n, A, c, by omega, by go_num, rfl, by omega, by rw [Hw.out]; exact HO.out, HBe.out⟩
        | false =>
          have Hw : Hid (waitW l (k + 1) = waitW l k ++ [(k : Int)]) := hidp (waitW_hit (by rw [HP.out]; rfl))
          obtain ⟨v, Hv⟩ : ∃ v, Hid (v = wr.alloc (.cells #[.int .i64 pr, .int .i64 cl, .bool true, .bool false, .int .i64 re, .int .i64 pl] 72)) := ⟨_, hidp rfl⟩
          have L0 := Lies.new1 (wr.alloc (.cells #[.int .i64 pr, .int .i64 cl, .bool true, .bool false, .int .i64 re, .int .i64 pl] 72)) (.int .i64 (k : Int)) 3
          have es : (wr.alloc (.cells #[.int .i64 pr, .int .i64 cl, .bool true, .bool false, .int .i64 re, .int .i64 pl] 72)).heap.size = wr.heap.size + 1 := by simp
          rw [es] at L0
          have L1 := hidp L0
          clear L0 es
          have hown2 := HO.out.1.alloc (.cells #[.int .i64 (k : Int)] 3)
          have K1 : Hid (∀ u ∈ [Value.int .i64 (k : Int)], u.oneCell' = true) := hidp (by simp; rfl)
          have K5 : Hid (n + 1 ≤ maxLen) := hidp (by unfold maxLen; omega)
          have K6 : Hid ((n + 1) * 8 ≤ 140737488355328) := hidp (by omega)
          have Hsz : Hid (w.heap.size ≤ ((wr.alloc (.cells #[.int .i64 pr, .int .i64 cl, .bool true, .bool false, .int .i64 re, .int .i64 pl] 72)).alloc (.cells #[.int .i64 (k : Int)] 3)).heap.size) := hidp (by have := HBe.out.size; simp at this ⊢; omega)
          go_wp2_with (at_builtin; refine wpList_app2 _ rfl (.tmp 23) (.tmp 25) 22 rfl w.heap.size 3 i0 (.int .i64 0) 1 8 Tryz.underlying22 hi0 hz0 hz1 hz2 rfl (by decide) A n c _ rfl hown2 _ _ 1 1 [.int .i64 (k : Int)] rfl (by simp) rfl L1.out K1.out K5.out K6.out Hsz.out ?_; intro A' c' w5 happ)
          go_roundg (gk - 1)
          case measure => omega
          case rel =>
            refine ⟨k + 1, n + 1, A', c', by omega, by go_num, rfl, by omega, ⟨?_, ?_, happ.cap.1, happ.cap.2, happ.nil⟩, ?_⟩
            · rw [Hw.out]; simpa using happ.own
            · rw [Hw.out]; simp; exact Hwn.out
            · exact (HBe.out.alloc HBe.out.size _).trans (happ.turned.below Hsz.out (fun j hj => (own_fp HO.out.1 j hj).1))
    · obtain rfl : k = l.length := by omega
      have HB := hidp hb
      have HO := hidp ho
      clear hb ho
      go_wp2
      try rw [Exit.noGoto_ret]
      go_ret
      exact ⟨A, n, c, rfl, HO.out, HB.out⟩
end
end Go.Proofs.YtppgameimddimaaGreat
