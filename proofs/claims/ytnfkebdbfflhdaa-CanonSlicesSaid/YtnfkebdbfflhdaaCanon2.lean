/- canon.arranged, Canon, Move. -/
import Derived.Test.YtnfkebdbfflhdaaCanon1
import Derived.Test.YtnfkebdbfflhdaaReg
import Derived.Deep.Cut
import Derived.BigQuiet
namespace Go.Proofs.Ytnfkebdbfflhdaa
open Go.ChangeShapes Go.WideShapes Go.ChangeAt Go.RowKit
set_option linter.unusedVariables false
set_option linter.unusedSimpArgs false
set_option maxRecDepth 100000

/-- x's rows are its own, from block B on -/
structure OwnS (B : Nat) (w' : World) (x : SetR) : Prop where
  ot : OwnT B w' x.ta x.tasks.length x.tc x.tasks
  op : ∀ j, j < x.tasks.length → OwnP B w' (x.tasks.getD j default).pa (x.tasks.getD j default).parts.length (x.tasks.getD j default).pc (x.tasks.getD j default).parts
  ne : ∀ j, j < x.tasks.length → ∀ k ∈ fp (x.tasks.getD j default).pa, k ∉ fp x.ta
  c0 : ∀ k ∈ fp x.ca, B ≤ k ∧ k < w'.heap.size
  h0 : ∀ k ∈ fp x.ha, B ≤ k ∧ k < w'.heap.size
theorem OwnS.turned {B : Nat} {F : List Nat} {w w' : World} {x : SetR} (h : OwnS B w x) (ht : Turned F w w') (hF : ∀ k, B ≤ k → k < w.heap.size → k ∉ F) : OwnS B w' x :=
  ⟨h.ot.turned ht (fun k hk => hF k (own_fp h.ot.own k hk).1 (own_fp h.ot.own k hk).2), fun j hj => (h.op j hj).turned ht (fun k hk => hF k (own_fp (h.op j hj).own k hk).1 (own_fp (h.op j hj).own k hk).2), h.ne, fun k hk => ⟨(h.c0 k hk).1, Nat.lt_of_lt_of_le (h.c0 k hk).2 ht.size⟩, fun k hk => ⟨(h.h0 k hk).1, Nat.lt_of_lt_of_le (h.h0 k hk).2 ht.size⟩⟩
theorem OwnS.low {B B' : Nat} {w : World} {x : SetR} (h : OwnS B w x) (hB : B' ≤ B) : OwnS B' w x := ⟨h.ot.low hB, fun j hj => (h.op j hj).low hB, h.ne, fun k hk => ⟨Nat.le_trans hB (h.c0 k hk).1, (h.c0 k hk).2⟩, fun k hk => ⟨Nat.le_trans hB (h.h0 k hk).1, (h.h0 k hk).2⟩⟩
theorem OwnS.ok {B : Nat} {F : List Nat} {w w' : World} {x : SetR} (h : OwnS B w x) (hs : SetOk w x) (ht : Turned F w w') (hF : ∀ k, B ≤ k → k ∉ F) : SetOk w' x := by
  refine ⟨hs.proto, hs.cores.turned ht (fun k hk => hF k (h.c0 k hk).1), hs.homes.turned ht (fun k hk => hF k (h.h0 k hk).1), hs.tasks.sl, ?_, fun t ht' => ?_⟩
  · exact (h.ot.turned ht (fun k hk => hF k (own_fp h.ot.own k hk).1)).tasks
  · obtain ⟨j, hj, rfl⟩ := mem_getD ht'
    exact (hs.tasks.ok _ (getD_mem hj)).turned ht (fun k hk => hF k (own_fp (h.op j hj).own k hk).1)
/-- block g is none of x's rows -/
def Far (x : SetR) (g : Nat) : Prop := g ∉ fp x.ca ∧ g ∉ fp x.ha ∧ g ∉ fp x.ta ∧ ∀ j, j < x.tasks.length → g ∉ fp (x.tasks.getD j default).pa
theorem OwnS.far {B g : Nat} {w : World} {x : SetR} (h : OwnS B w x) (hg : g < B ∨ w.heap.size ≤ g) : Far x g := by
  refine ⟨fun hk => ?_, fun hk => ?_, fun hk => ?_, fun j hj hk => ?_⟩
  · have := h.c0 g hk; omega
  · have := h.h0 g hk; omega
  · have := own_fp h.ot.own g hk; omega
  · have := own_fp (h.op j hj).own g hk; omega
theorem SetOk.farF {F : List Nat} {w w' : World} {x : SetR} (h : SetOk w x) (ht : Turned F w w') (hF : ∀ g ∈ F, Far x g) : SetOk w' x := by
  refine ⟨h.proto, h.cores.turned ht (fun k hk hm => (hF k hm).1 hk), h.homes.turned ht (fun k hk hm => (hF k hm).2.1 hk), h.tasks.sl, ?_, fun t ht' => ?_⟩
  · rcases h.tasks.at_ with h0 | ⟨b, off, e, hc⟩
    · exact .inl h0
    · have hb : b ∉ F := fun hm => (hF b hm).2.2.1 (by rw [e]; simp [fp])
      exact .inr ⟨b, off, e, fun i hi => ⟨ht.cell (hc i hi).1 hb, ht.cell (hc i hi).2.1 hb, ht.cell (hc i hi).2.2.1 hb, ht.cell (hc i hi).2.2.2.1 hb, ht.cell (hc i hi).2.2.2.2.1 hb, ht.cell (hc i hi).2.2.2.2.2 hb⟩⟩
  · obtain ⟨j, hj, rfl⟩ := mem_getD ht'
    exact (h.tasks.ok _ (getD_mem hj)).turned ht (fun k hk hm => (hF k hm).2.2.2 j hj hk)
theorem OwnS.farF {B : Nat} {F : List Nat} {w w' : World} {x : SetR} (h : OwnS B w x) (ht : Turned F w w') (hF : ∀ g ∈ F, Far x g) : OwnS B w' x :=
  ⟨h.ot.turned ht (fun k hk hm => (hF k hm).2.2.1 hk), fun j hj => (h.op j hj).turned ht (fun k hk hm => (hF k hm).2.2.2 j hj hk), h.ne, fun k hk => ⟨(h.c0 k hk).1, Nat.lt_of_lt_of_le (h.c0 k hk).2 ht.size⟩, fun k hk => ⟨(h.h0 k hk).1, Nat.lt_of_lt_of_le (h.h0 k hk).2 ht.size⟩⟩
def ArrPost (w : World) (s : SetR) (zs : List Int) (e : Ending) (w' : World) : Prop := ∃ x, e = .returned (.agg #[.int .i64 x.proto, .slice x.ca x.cores.length x.cc, .slice x.ha x.homes.length x.hc, .slice x.ta x.tasks.length x.tc]) ∧ Arr s x zs ∧ OwnS w.heap.size w' x ∧ SetOk w' x ∧ Below w.heap.size w w'
/-- the tasks of these numbers -/
def pick (ts : List TaskR) (zs : List Int) : List TaskR := zs.map fun z => ts.getD z.toNat default
theorem pick_len (ts : List TaskR) (zs : List Int) : (pick ts zs).length = zs.length := by simp [pick]
theorem pick_getD (ts : List TaskR) {zs : List Int} {j : Nat} (hj : j < zs.length) : (pick ts zs).getD j default = ts.getD (zs.getD j 0).toNat default := by simp [pick, List.getD, hj]
theorem pick_snoc (ts : List TaskR) (zs : List Int) (k : Nat) (h : k < zs.length) : pick ts (zs.take (k + 1)) = pick ts (zs.take k) ++ [ts.getD (zs.getD k 0).toNat default] := by
  unfold pick; rw [List.take_succ_eq_append_getElem h, List.map_append]; simp [List.getD, h]
theorem pick_mem {ts : List TaskR} {zs : List Int} (hz : ∀ z ∈ zs, 0 ≤ z ∧ z < (ts.length : Int)) {t : TaskR} (h : t ∈ pick ts zs) : t ∈ ts := by
  obtain ⟨z, hz', rfl⟩ := List.mem_map.1 h
  have := hz z hz'
  exact getD_mem (by omega)
theorem zs_at {zs : List Int} {j n : Nat} (hz : ∀ z ∈ zs, 0 ≤ z ∧ z < (n : Int)) (hj : j < zs.length) : (zs.getD j 0).toNat < n := by
  have := hz (zs.getD j 0) (by simp [List.getD, hj])
  omega
theorem pick_arr {B : Nat} {w' : World} {s c : SetR} {zs : List Int} {A : Option Addr} {k : Nat} (h : CopyOf B w' s c) (hz : ∀ z ∈ zs, 0 ≤ z ∧ z < (s.tasks.length : Int)) : Arr s ⟨c.proto, c.ca, c.cc, c.cores, c.ha, c.hc, c.homes, A, k, pick c.tasks zs⟩ zs := by
  refine ⟨h.proto, h.cores, h.homes, ?_⟩
  dsimp only
  unfold pick
  rw [List.map_map]
  refine List.map_congr_left fun z hzz => ?_
  have := hz z hzz
  exact core_iff.1 (h.like z.toNat (by omega))

theorem CopyOf.low {B B' : Nat} {w' : World} {s x : SetR} (h : CopyOf B w' s x) (hB : B' ≤ B) : CopyOf B' w' s x :=
  ⟨h.proto, h.cores, h.homes, h.len, h.like, h.oc.low hB, h.oh.low hB, h.ot.low hB, fun j hj => (h.op j hj).low hB, h.s1, h.s2, h.s3, h.s4⟩
/-- what stands at the end of arranged -/
theorem arr_end {w w2 u : World} {s x : SetR} {zs : List Int} {D : Option Addr} {d : Nat} (cp : CopyOf (w.heap.size + 2) w2 s x) (ok : SetOk w2 x) (hz : ∀ z ∈ zs, 0 ≤ z ∧ z < (x.tasks.length : Int)) (hT : Turned [w2.heap.size, w.heap.size + 1] w2 u)
    {n : Nat} (hn : n = zs.length) (ho : OwnT (w2.heap.size + 1) u D n d (pick x.tasks zs)) (hw : w.heap.size ≤ w2.heap.size) : OwnS w.heap.size u ⟨x.proto, x.ca, x.cc, x.cores, x.ha, x.hc, x.homes, D, d, pick x.tasks zs⟩ ∧ SetOk u ⟨x.proto, x.ca, x.cc, x.cores, x.ha, x.hc, x.homes, D, d, pick x.tasks zs⟩ := by
  subst hn
  have pl := pick_len x.tasks zs
  have hop : ∀ j, j < x.tasks.length → ∀ k ∈ fp (x.tasks.getD j default).pa, w.heap.size + 2 ≤ k ∧ k < w2.heap.size := fun j hj k hk => own_fp (cp.op j hj).own k hk
  have hpj : ∀ j, j < (pick x.tasks zs).length → (zs.getD j 0).toNat < x.tasks.length ∧ (pick x.tasks zs).getD j default = x.tasks.getD (zs.getD j 0).toNat default := fun j hj => by
    rw [pl] at hj
    exact ⟨zs_at hz hj, pick_getD _ hj⟩
  refine ⟨⟨?_, fun j hj => ?_, fun j hj k hk hm => ?_, fun k hk => ?_, fun k hk => ?_⟩, ok.proto, ok.cores.turned hT (fun k hk => ?_), ok.homes.turned hT (fun k hk => ?_), ?_, ?_, fun t ht => ?_⟩
  · dsimp only; rw [pl]; exact ho.low (by omega)
  · obtain ⟨h1, h2⟩ := hpj j hj
    dsimp only at h2 ⊢
    rw [h2]
    exact ((cp.op _ h1).turned hT (fun k hk => by have := hop _ h1 k hk; simp; omega)).low (by omega)
  · obtain ⟨h1, h2⟩ := hpj j hj
    dsimp only at h2 hk hm
    rw [h2] at hk
    have h3 := hop _ h1 k hk
    have h4 := (own_fp ho.own k hm).1
    omega
  · have := own_fp cp.oc.own k hk; have := hT.size; omega
  · have := own_fp cp.oh.own k hk; have := hT.size; omega
  · have := own_fp cp.oc.own k hk; simp; omega
  · have := own_fp cp.oh.own k hk; simp; omega
  · dsimp only; exact ho.sl
  · dsimp only; exact ho.tasks
  · dsimp only at ht
    have hm := pick_mem hz ht
    obtain ⟨j, hj, rfl⟩ := mem_getD hm
    exact (ok.tasks.ok _ hm).turned hT (fun k hk => by have := hop _ hj k hk; simp; omega)
set_option maxHeartbeats 4000000 in
theorem arranged_any (s : SetR) (w : World) (hs : SetOk w s) (hf : FewS s) (A : Option Addr) (m c : Nat) (zs : List Int) (hr : Row w .i64 A zs) (hm : m = zs.length) (hl : m ≤ 800) (hz : ∀ z ∈ zs, 0 ≤ z ∧ z < (s.tasks.length : Int)) :
    Calls Try.prog 23 #[.agg #[.int .i64 s.proto, .slice s.ca s.cores.length s.cc, .slice s.ha s.homes.length s.hc, .slice s.ta s.tasks.length s.tc], .slice A m c] w (ArrPost w s zs) := by
  obtain ⟨j0, hj0, hk0, hk1, hk2⟩ := info_parts infoTask
  have hb1 := (Below.refl w.heap.size w).alloc (Nat.le_refl _) (.cells #[.int .i64 s.proto, .slice s.ca s.cores.length s.cc, .slice s.ha s.homes.length s.hc, .slice s.ta s.tasks.length s.tc] 25)
  have hb := hb1.alloc hb1.size (.cells #[.int .i64 0, .slice none 0 0, .slice none 0 0, .slice none 0 0] 25)
  have e1 : (w.alloc (.cells #[.int .i64 s.proto, .slice s.ca s.cores.length s.cc, .slice s.ha s.homes.length s.hc, .slice s.ta s.tasks.length s.tc] 25)).heap.size = w.heap.size + 1 := by simp
  have B2 : Bk ((w.alloc (.cells #[.int .i64 s.proto, .slice s.ca s.cores.length s.cc, .slice s.ha s.homes.length s.hc, .slice s.ta s.tasks.length s.tc] 25)).alloc (.cells #[.int .i64 0, .slice none 0 0, .slice none 0 0, .slice none 0 0] 25)) (w.heap.size + 1) 25 #[.int .i64 0, .slice none 0 0, .slice none 0 0, .slice none 0 0] := Bk.at_ e1 rfl
  have hsz : w.heap.size + 2 ≤ ((w.alloc (.cells #[.int .i64 s.proto, .slice s.ca s.cores.length s.cc, .slice s.ha s.homes.length s.hc, .slice s.ta s.tasks.length s.tc] 25)).alloc (.cells #[.int .i64 0, .slice none 0 0, .slice none 0 0, .slice none 0 0] 25)).heap.size := by simp
  have hs2 := hs.keep (Keeps.of_below hb)
  have HR := hidp hr
  have HM := hidp hm
  have HZ := hidp hz
  have HF := hidp hf
  clear hb1 e1 hr hz hf hs hm
  go_enter Try.func23, Try.ntmps23
  go_wp2_with fail
  refine (tcopy_any s _ hs2 HF.out).mono ?_
  rintro e w2 ⟨x, rfl, cp, hb2⟩
  replace B2 := B2.below hb2
  replace hsz := Nat.le_trans hsz hb2.size
  replace hb := hb.trans (hb2.mono hb.size)
  have HXL := hidp cp.len
  have cok := hidp (cp.ok hs2)
  have cpo := hidp (cp.low (B' := w.heap.size + 2) (by simp))
  clear hb2 hs2 cp
  obtain ⟨v, HV, bx, b2, hbw, tv, hsv⟩ : ∃ v, Hid (v = w2.alloc (.cells #[.int .i64 x.proto, .slice x.ca x.cores.length x.cc, .slice x.ha x.homes.length x.hc, .slice x.ta x.tasks.length x.tc] 25)) ∧ Bk v w2.heap.size 25 #[.int .i64 x.proto, .slice x.ca x.cores.length x.cc, .slice x.ha x.homes.length x.hc, .slice x.ta x.tasks.length x.tc] ∧ Bk v (w.heap.size + 1) 25 #[.int .i64 0, .slice none 0 0, .slice none 0 0, .slice none 0 0] ∧ Below w.heap.size w v ∧ Turned [] w2 v ∧ v.heap.size = w2.heap.size + 1 :=
    ⟨_, hidp rfl, Bk.new w2 25 #[.int .i64 x.proto, .slice x.ca x.cores.length x.cc, .slice x.ha x.homes.length x.hc, .slice x.ta x.tasks.length x.tc], B2.alloc (.cells #[.int .i64 x.proto, .slice x.ca x.cores.length x.cc, .slice x.ha x.homes.length x.hc, .slice x.ta x.tasks.length x.tc] 25), hb.alloc hb.size (.cells #[.int .i64 x.proto, .slice x.ca x.cores.length x.cc, .slice x.ha x.homes.length x.hc, .slice x.ta x.tasks.length x.tc] 25), (Turned.refl [] w2).alloc _, by simp⟩
  have HSV := hidp hsv
  have HSZ := hidp hsz
  clear hb B2 hsv hsz
  have C2 : Hid (j0.bytes * m ≤ 281474976710656) := hidp (by rw [hk2]; omega)
  have C3 : Hid (m ≤ maxLen) := hidp (by unfold maxLen; omega)
  have Z0 : Hid (v.heap.size ≤ (w2.alloc (.cells #[.int .i64 x.proto, .slice x.ca x.cores.length x.cc, .slice x.ha x.homes.length x.hc, .slice x.ta x.tasks.length x.tc] 25)).heap.size) := hidp (by rw [HV.out]; exact Nat.le_refl _)
  go_wp2_with (at_make; go_loud (refine wpList_make_own _ rfl _ _ 23 rfl v.heap.size 37 j0 _ 6 Try.underlying23 hj0 hk0 hk1 .i64 .i64 _ m rfl rfl rfl C2.out C3.out Z0.out ?_); intro w0 hown0 hgrow0)
  rw [← HV.out] at hgrow0
  have hb0 : Below v.heap.size v w0 := (Below.refl _ _).grown hgrow0 (Nat.le_refl _) (by simp)
  have ho0 : OwnT v.heap.size w0 (some ⟨w2.heap.size + 1, 0, none⟩) 0 m [] := ⟨by simpa [ttc] using hown0, rfl, ⟨Nat.zero_le _, C3.out⟩, fun e => by cases e⟩
  clear hown0 hgrow0
  go_loopg [6, 16] m (fun g r i wr => ∃ (k : Nat) (D : Option Addr) (d : Nat), k + g = m ∧ i = .int .i64 k ∧ r = .slice D k d ∧ OwnT v.heap.size wr D k d (pick x.tasks (zs.take k)) ∧ Below v.heap.size v wr)
  case atStart => exact ⟨0, _, _, by omega, rfl, rfl, ho0, hb0⟩
  case round =>
    clear hb0 ho0
    obtain ⟨k, D, d, hk, rfl, rfl, o, hbv⟩ := hrel
    have bxr := bx.below hbv
    obtain ⟨x0, x1, x2, x3⟩ := Z4 bxr
    by_cases hlt : k < m
    · have hkz : k < zs.length := by rw [← HM.out]; exact hlt
      obtain ⟨go, oo, hA, hc⟩ := HR.out.resolve_left (by intro e; rw [e] at hkz; simp at hkz)
      subst hA
      obtain ⟨z, HZ1⟩ : ∃ z, Hid (zs.getD k 0 = z) := ⟨_, rfl⟩
      have zc := ((Keeps.of_below hbw).trans (Keeps.of_below hbv)) _ _ (HZ1.out ▸ hc k hkz)
      have hz1 := HZ.out z (by rw [← HZ1.out]; simp [List.getD, hkz])
      obtain ⟨n, rfl⟩ : ∃ n : Nat, z = n := ⟨z.toNat, by omega⟩
      have hnx : n < x.tasks.length := by have := HXL.out; omega
      have Hsn : Hid (pick x.tasks (zs.take (k + 1)) = pick x.tasks (zs.take k) ++ [x.tasks.getD n default]) := hidp (by rw [pick_snoc _ _ _ hkz, HZ1.out]; simp)
      obtain ⟨t, HT⟩ : ∃ t, Hid (x.tasks.getD n default = t) := ⟨_, rfl⟩
      obtain ⟨g, off, hA, hcl⟩ := cok.out.tasks.at_.resolve_left (by intro e; rw [e] at hnx; simp at hnx)
      obtain ⟨d0, d1, d2, d3, d4, d5⟩ := ((HT.out ▸ hcl n hnx).keep (fun p v h => tv.cell h (by simp))).keep (Keeps.of_below hbv)
      rw [HT.out] at Hsn
      clear hc hcl hz1
      rw [hA] at x3
      have hown2 := World.ownsRow.alloc o.own (.cells (ttc [t]).toArray 37)
      have S2 := hidp (Lies.newCells' wr (ttc [t]) 37)
      have O2 := hidp (ttc_one [t])
      have N2 : Hid (k + 1 ≤ maxLen) := hidp (by unfold maxLen; omega)
      have T2 : Hid ((k + 1) * 72 ≤ 140737488355328) := hidp (by omega)
      have hbv2 := hbv.alloc hbv.size (.cells (ttc [t]).toArray 37)
      have Z2 := hidp hbv2.size
      have HA := hidp hA
      have hn0 : (0 : Int) ≤ (n : Int) := by omega
      have hn1 : (n : Int) < (x.tasks.length : Int) := by omega
      clear hA
      go_wp2_with (at_builtin; go_loud (refine wpList_app2 _ rfl (.tmp 20) (.tmp 26) 23 rfl v.heap.size 37 j0 _ 6 72 Try.underlying23 hj0 hk0 hk1 hk2 rfl (by decide) D k d _ rfl hown2 _ _ 1 1 (ttc [t]) rfl (by simp) rfl S2.out O2.out N2.out T2.out Z2.out ?_); intro A' c' w1 happ)
      have hF := own_fp o.own
      have o2 := o.app (ts := [t]) happ rfl
      rw [← Hsn.out] at o2
      have hb3 := hbv2.trans (happ.turned.below hbv2.size (fun j hj => (hF _ hj).1))
      go_roundg (gk - 1)
      case measure => omega
      case rel => exact ⟨k + 1, A', c', by omega, by go_num, rfl, o2, hb3⟩
    · obtain rfl : k = m := by omega
      rw [List.take_of_length_le (by rw [← HM.out]; exact Nat.le_refl _)] at o
      have b2r := b2.below hbv
      have TS : Turned [w2.heap.size] wr (wr.setCell ⟨w2.heap.size, 3, none⟩ (.slice D k d)) := (Turned.refl [w2.heap.size] wr).setCell (p := ⟨w2.heap.size, 3, none⟩) (.inl (by simp)) _
      have hne := HSZ.out
      have b2u := b2r.turned TS (by simp; omega)
      have bxu : Bk (wr.setCell ⟨w2.heap.size, 3, none⟩ (.slice D k d)) w2.heap.size 25 #[.int .i64 x.proto, .slice x.ca x.cores.length x.cc, .slice x.ha x.homes.length x.hc, .slice D k d] := bxr.put 3 (.slice D k d)
      obtain ⟨y0, y1, y2, y3⟩ := Z4 bxu
      obtain ⟨f0, f1, f2, f3⟩ := ZF4 b2u
      obtain ⟨z0, z1, z2, z3⟩ := Z4 b2u
      obtain ⟨-, -, -, xf3⟩ := ZF4 bxr
      have PB := put4_bk b2u (v0 := .int .i64 x.proto) (v1 := .slice x.ca x.cores.length x.cc) (v2 := .slice x.ha x.homes.length x.hc) (v3 := .slice D k d)
      have PT := put4_turned (wr.setCell ⟨w2.heap.size, 3, none⟩ (.slice D k d)) (w.heap.size + 1) (.int .i64 x.proto) (.slice x.ca x.cores.length x.cc) (.slice x.ha x.homes.length x.hc) (.slice D k d)
      have hF := own_fp o.own
      have hTT := (((tv.trans (Turned.of_below hbv []) (by simp)).mono (G := [w2.heap.size, w.heap.size + 1]) (by simp)).trans TS (fun i hi => by simp at hi; left; simp [hi])).trans PT (fun i hi => by simp at hi; left; simp [hi])
      have hsv := HSV.out
      have of := (o.turned TS (fun j hj hm => by simp at hm; subst hm; have := (hF _ hj).1; omega)).turned PT (fun j hj hm => by simp at hm; subst hm; have := (hF _ hj).1; omega)
      rw [hsv] at of
      have HE := hidp (arr_end cpo.out cok.out (fun z hz => by rw [HXL.out]; exact HZ.out z hz) hTT HM.out of (by omega))
      have HB : Hid (Below w.heap.size w (put4 (wr.setCell ⟨w2.heap.size, 3, none⟩ (.slice D k d)) (w.heap.size + 1) (.int .i64 x.proto) (.slice x.ca x.cores.length x.cc) (.slice x.ha x.homes.length x.hc) (.slice D k d))) := hidp ((hbw.trans ((hbv.mono hbw.size).trans (TS.below (Nat.le_trans hbw.size hbv.size) (by simp; omega)))).trans (PT.below (Nat.le_trans hbw.size (Nat.le_trans hbv.size TS.size)) (by simp)))
      have HAr : Hid (Arr s ⟨x.proto, x.ca, x.cc, x.cores, x.ha, x.hc, x.homes, D, d, pick x.tasks zs⟩ zs) := hidp (pick_arr cpo.out HZ.out)
      obtain ⟨r0, r1, r2, r3⟩ := Z4 PB
      unfold put4 at r0 r1 r2 r3 HE HB
      clear PB PT TS hTT of hF hsv hne o b2u bxu b2r bxr bx b2 hbw tv hbv
      go_wp2
      refine bodyPost_ret (v := .agg #[.int .i64 x.proto, .slice x.ca x.cores.length x.cc, .slice x.ha x.homes.length x.hc, .slice D k d]) (by simp [results, Try.results23, go_sem, r0, r1, r2, r3]) rfl ⟨⟨x.proto, x.ca, x.cc, x.cores, x.ha, x.hc, x.homes, D, d, pick x.tasks zs⟩, ?_, HAr.out, HE.out.1, HE.out.2, HB.out⟩
      dsimp only
      rw [pick_len, HM.out]
/-- loads of a set's box, as a condition held -/
def SetBox (w : World) (g : Nat) (s : SetR) : Prop := w.cell? ⟨g, 0, none⟩ = some (.int .i64 s.proto) ∧ w.cell? ⟨g, 1, none⟩ = some (.slice s.ca s.cores.length s.cc) ∧ w.cell? ⟨g, 2, none⟩ = some (.slice s.ha s.homes.length s.hc) ∧ w.cell? ⟨g, 3, none⟩ = some (.slice s.ta s.tasks.length s.tc)
set_option maxHeartbeats 4000000 in
theorem canon_any (s : SetR) (w : World) (hs : SetOk w s) (hf : FewS s) (hl : s.tasks.length ≤ 800) : Calls Try.prog 13 #[.agg #[.int .i64 s.proto, .slice s.ca s.cores.length s.cc, .slice s.ha s.homes.length s.hc, .slice s.ta s.tasks.length s.tc]] w (ArrPost w s (ordL s.tasks)) := by
  have hb1 := (Below.refl w.heap.size w).alloc (Nat.le_refl _) (.cells #[.int .i64 s.proto, .slice s.ca s.cores.length s.cc, .slice s.ha s.homes.length s.hc, .slice s.ta s.tasks.length s.tc] 25)
  have hb := hb1.alloc hb1.size (.cells #[.int .i64 0, .slice none 0 0, .slice none 0 0, .slice none 0 0] 25)
  have e1 : (w.alloc (.cells #[.int .i64 s.proto, .slice s.ca s.cores.length s.cc, .slice s.ha s.homes.length s.hc, .slice s.ta s.tasks.length s.tc] 25)).heap.size = w.heap.size + 1 := by simp
  have B2 : Bk ((w.alloc (.cells #[.int .i64 s.proto, .slice s.ca s.cores.length s.cc, .slice s.ha s.homes.length s.hc, .slice s.ta s.tasks.length s.tc] 25)).alloc (.cells #[.int .i64 0, .slice none 0 0, .slice none 0 0, .slice none 0 0] 25)) (w.heap.size + 1) 25 #[.int .i64 0, .slice none 0 0, .slice none 0 0, .slice none 0 0] := Bk.at_ e1 rfl
  have B1 := (Bk.new w 25 #[.int .i64 s.proto, .slice s.ca s.cores.length s.cc, .slice s.ha s.homes.length s.hc, .slice s.ta s.tasks.length s.tc]).alloc (.cells #[.int .i64 0, .slice none 0 0, .slice none 0 0, .slice none 0 0] 25)
  have hs2 := hs.keep (Keeps.of_below hb)
  have hsz : w.heap.size + 2 ≤ ((w.alloc (.cells #[.int .i64 s.proto, .slice s.ca s.cores.length s.cc, .slice s.ha s.homes.length s.hc, .slice s.ta s.tasks.length s.tc] 25)).alloc (.cells #[.int .i64 0, .slice none 0 0, .slice none 0 0, .slice none 0 0] 25)).heap.size := by simp
  have HF := hidp hf
  have HZ : Hid (∀ z ∈ ordL s.tasks, 0 ≤ z ∧ z < (s.tasks.length : Int)) := hidp fun z hz => ordL_in hz
  clear hb1 e1 hf hs
  go_enter Try.func13, Try.ntmps13
  go_wp2_with fail
  obtain ⟨v, hv⟩ : ∃ v, (w.alloc (.cells #[.int .i64 s.proto, .slice s.ca s.cores.length s.cc, .slice s.ha s.homes.length s.hc, .slice s.ta s.tasks.length s.tc] 25)).alloc (.cells #[.int .i64 0, .slice none 0 0, .slice none 0 0, .slice none 0 0] 25) = v := ⟨_, rfl⟩
  rw [hv] at hb B1 B2 hs2 hsz ⊢
  clear hv
  replace hb : Below w.heap.size w v.drew := below_drewN hb 1
  replace B1 := B1.drewN 1
  replace B2 := B2.drewN 1
  replace hs2 := hs2.keep (Keeps.drew v)
  replace hsz : w.heap.size + 2 ≤ v.drew.heap.size := hsz
  have sb : SetBox v.drew w.heap.size s := Z4 B1
  refine wp_region_held_drew (S := fun w' => w'.cell? ⟨w.heap.size, 0, none⟩ = some (.int .i64 s.proto) ∧ w'.cell? ⟨w.heap.size, 1, none⟩ = some (.slice s.ca s.cores.length s.cc) ∧ w'.cell? ⟨w.heap.size, 2, none⟩ = some (.slice s.ha s.homes.length s.hc) ∧ w'.cell? ⟨w.heap.size, 3, none⟩ = some (.slice s.ta s.tasks.length s.tc)) (by kernel_rfl) ?_ (fun hHeld => ?_)
  · exact sb
  clear B1
  refine wpAnyH_take (i := 0) (v := ?_) rfl (by kernel_rfl) (by kernel_rfl) (by kernel_rfl) (fun _ _ _ h => h) (Or.inl ⟨by rfl, ?_⟩) (by assumption) ?_
  rotate_left 1
  · ((intro w hSw; (try dsimp only at hSw); go_simp); (try with_reducible rfl))
  simp only [Act.put, List.setIfInBounds_toArray, List.set_cons_zero, List.set_cons_succ, List.getElem_toArray, List.getElem_cons_zero, List.getElem_cons_succ]
  refine wpAnyH_take (i := 1) (v := ?_) rfl (by kernel_rfl) (by kernel_rfl) (by kernel_rfl) (fun _ _ _ h => h) (Or.inl ⟨by rfl, ?_⟩) (by assumption) ?_
  rotate_left 1
  · ((intro w hSw; (try dsimp only at hSw); go_simp); (try with_reducible rfl))
  simp only [Act.put, List.setIfInBounds_toArray, List.set_cons_zero, List.set_cons_succ, List.getElem_toArray, List.getElem_cons_zero, List.getElem_cons_succ]
  refine wpAnyH_ready (rs := [2]) (by kernel_rfl) (by simp) ?_
  refine AllReadyH.cons rfl (fun K hK => ?_) AllReadyH.nil
  go_simp
  refine (order_any s _ hs2 hl).mono ?_
  rintro e u ⟨A, c, rfl, o, hb2⟩
  replace hb := hb.trans (hb2.mono hb.size)
  replace B2 := B2.below hb2
  replace sb : SetBox u w.heap.size s := ⟨(Keeps.of_below hb2) _ _ sb.1, (Keeps.of_below hb2) _ _ sb.2.1, (Keeps.of_below hb2) _ _ sb.2.2.1, (Keeps.of_below hb2) _ _ sb.2.2.2⟩
  replace hs2 := hs2.keep (Keeps.of_below hb2)
  replace hsz := Nat.le_trans hsz hb2.size
  have hrow := o.row
  clear hb2 hHeld o
  go_wp2_with fail
  refine hK.out _ _ ?_ (fun hHeld => ?_)
  · exact sb
  clear hK K
  try simp only [Act.put, List.setIfInBounds_toArray, List.set_cons_zero, List.set_cons_succ, List.getElem_toArray, List.getElem_cons_zero, List.getElem_cons_succ]
  refine wpAnyH_ready (rs := [3]) (by kernel_rfl) (by simp) ?_
  refine AllReadyH.cons rfl (fun K hK => ?_) AllReadyH.nil
  go_simp
  refine (arranged_any s _ hs2 HF.out A s.tasks.length c (ordL s.tasks) hrow (ordL_len _).symm hl HZ.out).mono ?_
  rintro e u2 ⟨x, rfl, har, ho, hok, hb2⟩
  replace hb := hb.trans (hb2.mono hb.size)
  replace B2 := B2.below hb2
  replace sb : SetBox u2 w.heap.size s := ⟨(Keeps.of_below hb2) _ _ sb.1, (Keeps.of_below hb2) _ _ sb.2.1, (Keeps.of_below hb2) _ _ sb.2.2.1, (Keeps.of_below hb2) _ _ sb.2.2.2⟩
  have HO := hidp ho
  have HK := hidp hok
  have HA := hidp har
  have HU := hidp hsz
  clear hb2 hHeld ho hok har hs2 hrow hsz
  go_wp2_with fail
  refine hK.out _ _ ?_ (fun hHeld => ?_)
  · exact sb
  clear hK K
  try simp only [Act.put, List.setIfInBounds_toArray, List.set_cons_zero, List.set_cons_succ, List.getElem_toArray, List.getElem_cons_zero, List.getElem_cons_succ]
  obtain ⟨f0, f1, f2, f3⟩ := ZF4 B2
  obtain ⟨z0, z1, z2, z3⟩ := Z4 B2
  have PB := put4_bk B2 (v0 := .int .i64 x.proto) (v1 := .slice x.ca x.cores.length x.cc) (v2 := .slice x.ha x.homes.length x.hc) (v3 := .slice x.ta x.tasks.length x.tc)
  have PT := put4_turned u2 (w.heap.size + 1) (.int .i64 x.proto) (.slice x.ca x.cores.length x.cc) (.slice x.ha x.homes.length x.hc) (.slice x.ta x.tasks.length x.tc)
  have hu := HU.out
  have HO2 := hidp (HO.out.turned PT (fun k h1 h2 => by simp; omega))
  have HK2 := hidp (HO.out.ok HK.out PT (fun k h1 => by simp; omega))
  have HB := hidp (hb.trans (PT.below hb.size (by simp)))
  obtain ⟨r0, r1, r2, r3⟩ := Z4 PB
  have sb2 : SetBox (put4 u2 (w.heap.size + 1) (.int .i64 x.proto) (.slice x.ca x.cores.length x.cc) (.slice x.ha x.homes.length x.hc) (.slice x.ta x.tasks.length x.tc)) w.heap.size s := ⟨PT.cell sb.1 (by simp), PT.cell sb.2.1 (by simp), PT.cell sb.2.2.1 (by simp), PT.cell sb.2.2.2 (by simp)⟩
  unfold put4 at r0 r1 r2 r3 HO2 HK2 HB sb2
  clear PB PT hu
  refine wpAnyH_ready (rs := [4]) (by kernel_rfl) (by simp) ?_
  refine AllReadyH.cons rfl (fun K hK => ?_) AllReadyH.nil
  go_simp
  refine hK.out _ _ ?_ (fun hHeld => ?_)
  · exact sb2
  clear hK K
  try simp only [Act.put, List.setIfInBounds_toArray, List.set_cons_zero, List.set_cons_succ, List.getElem_toArray, List.getElem_cons_zero, List.getElem_cons_succ]
  refine wpAnyH_done (by kernel_rfl) ?_ _
  clear hHeld sb sb2
  go_wp2_with fail
  refine bodyPost_ret (v := .agg #[.int .i64 x.proto, .slice x.ca x.cores.length x.cc, .slice x.ha x.homes.length x.hc, .slice x.ta x.tasks.length x.tc]) (by simp [results, Try.results13, go_sem, r0, r1, r2, r3]) rfl ⟨x, rfl, HA.out, HO2.out.low (by have := HU.out; omega), HK2.out, HB.out⟩
set_option maxHeartbeats 4000000 in
theorem move_any (s : SetR) (b : Int) (w : World) (hs : SetOk w s) (hf : FewS s) (hl : s.tasks.length ≤ 800) (hi : I64 b) : Calls Try.prog 15 #[.agg #[.int .i64 s.proto, .slice s.ca s.cores.length s.cc, .slice s.ha s.homes.length s.hc, .slice s.ta s.tasks.length s.tc], .int .i64 b] w (ArrPost w s (turL (startN b s.tasks.length) s.tasks.length s.tasks.length)) := by
  have hb1 := (Below.refl w.heap.size w).alloc (Nat.le_refl _) (.cells #[.int .i64 s.proto, .slice s.ca s.cores.length s.cc, .slice s.ha s.homes.length s.hc, .slice s.ta s.tasks.length s.tc] 25)
  have hb := hb1.alloc hb1.size (.cells #[.int .i64 0, .slice none 0 0, .slice none 0 0, .slice none 0 0] 25)
  have e1 : (w.alloc (.cells #[.int .i64 s.proto, .slice s.ca s.cores.length s.cc, .slice s.ha s.homes.length s.hc, .slice s.ta s.tasks.length s.tc] 25)).heap.size = w.heap.size + 1 := by simp
  have B2 : Bk ((w.alloc (.cells #[.int .i64 s.proto, .slice s.ca s.cores.length s.cc, .slice s.ha s.homes.length s.hc, .slice s.ta s.tasks.length s.tc] 25)).alloc (.cells #[.int .i64 0, .slice none 0 0, .slice none 0 0, .slice none 0 0] 25)) (w.heap.size + 1) 25 #[.int .i64 0, .slice none 0 0, .slice none 0 0, .slice none 0 0] := Bk.at_ e1 rfl
  have B1 := (Bk.new w 25 #[.int .i64 s.proto, .slice s.ca s.cores.length s.cc, .slice s.ha s.homes.length s.hc, .slice s.ta s.tasks.length s.tc]).alloc (.cells #[.int .i64 0, .slice none 0 0, .slice none 0 0, .slice none 0 0] 25)
  have hs2 := hs.keep (Keeps.of_below hb)
  have hsz : w.heap.size + 2 ≤ ((w.alloc (.cells #[.int .i64 s.proto, .slice s.ca s.cores.length s.cc, .slice s.ha s.homes.length s.hc, .slice s.ta s.tasks.length s.tc] 25)).alloc (.cells #[.int .i64 0, .slice none 0 0, .slice none 0 0, .slice none 0 0] 25)).heap.size := by simp
  have HF := hidp hf
  have HZ : Hid (∀ z ∈ turL (startN b s.tasks.length) s.tasks.length s.tasks.length, 0 ≤ z ∧ z < (s.tasks.length : Int)) := hidp fun z hz => by
    have h0 : 0 < s.tasks.length := by
      rcases Nat.eq_zero_or_pos s.tasks.length with e | e
      · rw [e] at hz; simp [turL] at hz
      · exact e
    exact turL_in h0 hz
  clear hb1 e1 hf hs
  go_enter Try.func15, Try.ntmps15
  go_wp2_with fail
  obtain ⟨v, hv⟩ : ∃ v, (w.alloc (.cells #[.int .i64 s.proto, .slice s.ca s.cores.length s.cc, .slice s.ha s.homes.length s.hc, .slice s.ta s.tasks.length s.tc] 25)).alloc (.cells #[.int .i64 0, .slice none 0 0, .slice none 0 0, .slice none 0 0] 25) = v := ⟨_, rfl⟩
  rw [hv] at hb B1 B2 hs2 hsz ⊢
  clear hv
  replace hb : Below w.heap.size w v.drew := below_drewN hb 1
  replace B1 := B1.drewN 1
  replace B2 := B2.drewN 1
  replace hs2 := hs2.keep (Keeps.drew v)
  replace hsz : w.heap.size + 2 ≤ v.drew.heap.size := hsz
  have sb : SetBox v.drew w.heap.size s := Z4 B1
  refine wp_region_held_drew (S := fun w' => w'.cell? ⟨w.heap.size, 0, none⟩ = some (.int .i64 s.proto) ∧ w'.cell? ⟨w.heap.size, 1, none⟩ = some (.slice s.ca s.cores.length s.cc) ∧ w'.cell? ⟨w.heap.size, 2, none⟩ = some (.slice s.ha s.homes.length s.hc) ∧ w'.cell? ⟨w.heap.size, 3, none⟩ = some (.slice s.ta s.tasks.length s.tc)) (by kernel_rfl) ?_ (fun hHeld => ?_)
  · exact sb
  clear B1
  refine wpAnyH_take (i := 0) (v := ?_) rfl (by kernel_rfl) (by kernel_rfl) (by kernel_rfl) (fun _ _ _ h => h) (Or.inl ⟨by rfl, ?_⟩) (by assumption) ?_
  rotate_left 1
  · ((intro w hSw; (try dsimp only at hSw); go_simp); (try with_reducible rfl))
  simp only [Act.put, List.setIfInBounds_toArray, List.set_cons_zero, List.set_cons_succ, List.getElem_toArray, List.getElem_cons_zero, List.getElem_cons_succ]
  refine wpAnyH_take (i := 1) (v := ?_) rfl (by kernel_rfl) (by kernel_rfl) (by kernel_rfl) (fun _ _ _ h => h) (Or.inl ⟨by rfl, ?_⟩) (by assumption) ?_
  rotate_left 1
  · ((intro w hSw; (try dsimp only at hSw); go_simp); (try with_reducible rfl))
  simp only [Act.put, List.setIfInBounds_toArray, List.set_cons_zero, List.set_cons_succ, List.getElem_toArray, List.getElem_cons_zero, List.getElem_cons_succ]
  refine wpAnyH_take (i := 2) (v := ?_) rfl (by kernel_rfl) (by kernel_rfl) (by kernel_rfl) (fun _ _ _ h => h) (Or.inl ⟨by rfl, ?_⟩) (by assumption) ?_
  rotate_left 1
  · ((intro w hSw; (try dsimp only at hSw); go_simp); (try with_reducible rfl))
  simp only [Act.put, List.setIfInBounds_toArray, List.set_cons_zero, List.set_cons_succ, List.getElem_toArray, List.getElem_cons_zero, List.getElem_cons_succ]
  refine wpAnyH_take (i := 3) (v := ?_) rfl (by kernel_rfl) (by kernel_rfl) (by kernel_rfl) (fun _ _ _ h => h) (Or.inl ⟨by rfl, ?_⟩) (by assumption) ?_
  rotate_left 1
  · ((intro w hSw; (try dsimp only at hSw); go_simp); (try with_reducible rfl))
  simp only [Act.put, List.setIfInBounds_toArray, List.set_cons_zero, List.set_cons_succ, List.getElem_toArray, List.getElem_cons_zero, List.getElem_cons_succ]
  refine wpAnyH_take (i := 4) (v := ?_) rfl (by kernel_rfl) (by kernel_rfl) (by kernel_rfl) (fun _ _ _ h => h) (Or.inl ⟨by rfl, ?_⟩) (by assumption) ?_
  rotate_left 1
  · ((intro w hSw; (try dsimp only at hSw); go_simp); (try with_reducible rfl))
  simp only [Act.put, List.setIfInBounds_toArray, List.set_cons_zero, List.set_cons_succ, List.getElem_toArray, List.getElem_cons_zero, List.getElem_cons_succ]
  refine wpAnyH_ready (rs := [5]) (by kernel_rfl) (by simp) ?_
  refine AllReadyH.cons rfl (fun K hK => ?_) AllReadyH.nil
  go_simp
  refine (turned_any b s.tasks.length _ hi hl).mono ?_
  rintro e u ⟨A, c, rfl, o, hb2⟩
  replace hb := hb.trans (hb2.mono hb.size)
  replace B2 := B2.below hb2
  replace sb : SetBox u w.heap.size s := ⟨(Keeps.of_below hb2) _ _ sb.1, (Keeps.of_below hb2) _ _ sb.2.1, (Keeps.of_below hb2) _ _ sb.2.2.1, (Keeps.of_below hb2) _ _ sb.2.2.2⟩
  replace hs2 := hs2.keep (Keeps.of_below hb2)
  replace hsz := Nat.le_trans hsz hb2.size
  have hrow := o.row
  clear hb2 hHeld o
  go_wp2_with fail
  refine hK.out _ _ ?_ (fun hHeld => ?_)
  · exact sb
  clear hK K
  try simp only [Act.put, List.setIfInBounds_toArray, List.set_cons_zero, List.set_cons_succ, List.getElem_toArray, List.getElem_cons_zero, List.getElem_cons_succ]
  refine wpAnyH_ready (rs := [6]) (by kernel_rfl) (by simp) ?_
  refine AllReadyH.cons rfl (fun K hK => ?_) AllReadyH.nil
  go_simp
  refine (arranged_any s _ hs2 HF.out A s.tasks.length c (turL (startN b s.tasks.length) s.tasks.length s.tasks.length) hrow (turL_len _ _ _).symm hl HZ.out).mono ?_
  rintro e u2 ⟨x, rfl, har, ho, hok, hb2⟩
  replace hb := hb.trans (hb2.mono hb.size)
  replace B2 := B2.below hb2
  replace sb : SetBox u2 w.heap.size s := ⟨(Keeps.of_below hb2) _ _ sb.1, (Keeps.of_below hb2) _ _ sb.2.1, (Keeps.of_below hb2) _ _ sb.2.2.1, (Keeps.of_below hb2) _ _ sb.2.2.2⟩
  have HO := hidp ho
  have HK := hidp hok
  have HA := hidp har
  have HU := hidp hsz
  clear hb2 hHeld ho hok har hs2 hrow hsz
  go_wp2_with fail
  refine hK.out _ _ ?_ (fun hHeld => ?_)
  · exact sb
  clear hK K
  try simp only [Act.put, List.setIfInBounds_toArray, List.set_cons_zero, List.set_cons_succ, List.getElem_toArray, List.getElem_cons_zero, List.getElem_cons_succ]
  obtain ⟨f0, f1, f2, f3⟩ := ZF4 B2
  obtain ⟨z0, z1, z2, z3⟩ := Z4 B2
  have PB := put4_bk B2 (v0 := .int .i64 x.proto) (v1 := .slice x.ca x.cores.length x.cc) (v2 := .slice x.ha x.homes.length x.hc) (v3 := .slice x.ta x.tasks.length x.tc)
  have PT := put4_turned u2 (w.heap.size + 1) (.int .i64 x.proto) (.slice x.ca x.cores.length x.cc) (.slice x.ha x.homes.length x.hc) (.slice x.ta x.tasks.length x.tc)
  have hu := HU.out
  have HO2 := hidp (HO.out.turned PT (fun k h1 h2 => by simp; omega))
  have HK2 := hidp (HO.out.ok HK.out PT (fun k h1 => by simp; omega))
  have HB := hidp (hb.trans (PT.below hb.size (by simp)))
  obtain ⟨r0, r1, r2, r3⟩ := Z4 PB
  have sb2 : SetBox (put4 u2 (w.heap.size + 1) (.int .i64 x.proto) (.slice x.ca x.cores.length x.cc) (.slice x.ha x.homes.length x.hc) (.slice x.ta x.tasks.length x.tc)) w.heap.size s := ⟨PT.cell sb.1 (by simp), PT.cell sb.2.1 (by simp), PT.cell sb.2.2.1 (by simp), PT.cell sb.2.2.2 (by simp)⟩
  unfold put4 at r0 r1 r2 r3 HO2 HK2 HB sb2
  clear PB PT hu
  refine wpAnyH_ready (rs := [7]) (by kernel_rfl) (by simp) ?_
  refine AllReadyH.cons rfl (fun K hK => ?_) AllReadyH.nil
  go_simp
  refine hK.out _ _ ?_ (fun hHeld => ?_)
  · exact sb2
  clear hK K
  try simp only [Act.put, List.setIfInBounds_toArray, List.set_cons_zero, List.set_cons_succ, List.getElem_toArray, List.getElem_cons_zero, List.getElem_cons_succ]
  refine wpAnyH_done (by kernel_rfl) ?_ _
  clear hHeld sb sb2
  go_wp2_with fail
  refine bodyPost_ret (v := .agg #[.int .i64 x.proto, .slice x.ca x.cores.length x.cc, .slice x.ha x.homes.length x.hc, .slice x.ta x.tasks.length x.tc]) (by simp [results, Try.results15, go_sem, r0, r1, r2, r3]) rfl ⟨x, rfl, HA.out, HO2.out.low (by have := HU.out; omega), HK2.out, HB.out⟩
end Go.Proofs.Ytnfkebdbfflhdaa
