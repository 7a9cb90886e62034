/- swingbridgeref7: With, Move. -/
import Derived.Test.YtnfkebdbfflhdaaRefCanon
namespace Go.Proofs.Ytnfkebdbfflhdaa
open Go.ChangeShapes Go.WideShapes Go.ChangeAt Go.RowKit
set_option linter.unusedVariables false
set_option linter.unusedSimpArgs false
set_option maxRecDepth 100000
theorem with_keep {w0 : Nat} {u u' : World} {F : List Nat} {g off go oo k n len tc : Nat} {t : TaskR}
    (h : u.cell? ⟨w0, 3, none⟩ = some (.slice (some ⟨g, off, none⟩) len tc) ∧ u.cell? ⟨go, oo + k, none⟩ = some (.int .i64 (n : Int)) ∧ u.cell? ⟨g, off + n * 6, none⟩ = some (.string t.name) ∧ u.cell? ⟨g, off + n * 6 + 1, none⟩ = some (.int .i64 t.per) ∧ u.cell? ⟨g, off + n * 6 + 2, none⟩ = some (.int .i64 t.dl) ∧ u.cell? ⟨g, off + n * 6 + 3, none⟩ = some (.int .i64 t.prio) ∧ u.cell? ⟨g, off + n * 6 + 4, none⟩ = some (.int .i64 t.cl) ∧ u.cell? ⟨g, off + n * 6 + 5, none⟩ = some (.slice t.pa t.parts.length t.pc))
    (ht : Turned F u u') (hF : w0 ∉ F ∧ go ∉ F ∧ g ∉ F) :
    u'.cell? ⟨w0, 3, none⟩ = some (.slice (some ⟨g, off, none⟩) len tc) ∧ u'.cell? ⟨go, oo + k, none⟩ = some (.int .i64 (n : Int)) ∧ u'.cell? ⟨g, off + n * 6, none⟩ = some (.string t.name) ∧ u'.cell? ⟨g, off + n * 6 + 1, none⟩ = some (.int .i64 t.per) ∧ u'.cell? ⟨g, off + n * 6 + 2, none⟩ = some (.int .i64 t.dl) ∧ u'.cell? ⟨g, off + n * 6 + 3, none⟩ = some (.int .i64 t.prio) ∧ u'.cell? ⟨g, off + n * 6 + 4, none⟩ = some (.int .i64 t.cl) ∧ u'.cell? ⟨g, off + n * 6 + 5, none⟩ = some (.slice t.pa t.parts.length t.pc) :=
  ⟨ht.cell h.1 hF.1, ht.cell h.2.1 hF.2.1, ht.cell h.2.2.1 hF.2.2, ht.cell h.2.2.2.1 hF.2.2, ht.cell h.2.2.2.2.1 hF.2.2, ht.cell h.2.2.2.2.2.1 hF.2.2, ht.cell h.2.2.2.2.2.2.1 hF.2.2, ht.cell h.2.2.2.2.2.2.2 hF.2.2⟩
def WithPost (w : World) (s : SetR) (zs : List Int) (e : Ending) (w' : World) : Prop := ∃ D d, e = .returned (.agg #[.int .i64 s.proto, .slice s.ca s.cores.length s.cc, .slice s.ha s.homes.length s.hc, .slice D zs.length d]) ∧ OwnT w.heap.size w' D zs.length d (pick s.tasks zs) ∧ Below w.heap.size w w'
theorem with_ok {B n : Nat} {w w' : World} {s : SetR} {zs : List Int} {D : Option Addr} {d : Nat} (hs : SetOk w s) (hz : ∀ z ∈ zs, 0 ≤ z ∧ z < (s.tasks.length : Int)) (hb : Below w.heap.size w w') (ho : OwnT B w' D n d (pick s.tasks zs)) : SetOk w' ⟨s.proto, s.ca, s.cc, s.cores, s.ha, s.hc, s.homes, D, d, pick s.tasks zs⟩ := by
  have hs1 := hs.keep (Keeps.of_below hb)
  exact ⟨hs1.proto, hs1.cores, hs1.homes, ⟨ho.sl, ho.tasks, fun t ht' => hs1.tasks.ok t (pick_mem hz ht')⟩⟩
theorem with_arr (s : SetR) (zs : List Int) (A : Option Addr) (k : Nat) : Arr s ⟨s.proto, s.ca, s.cc, s.cores, s.ha, s.hc, s.homes, A, k, pick s.tasks zs⟩ zs := ⟨rfl, rfl, rfl, by dsimp only; unfold pick; rw [List.map_map]; rfl⟩
set_option maxHeartbeats 8000000 in
theorem rwith_any (s : SetR) (w : World) (hs : SetOk w s) (A : Option Addr) (m c : Nat) (zs : List Int) (hr : Row w .i64 A zs) (hm : m = zs.length) (hl : m ≤ 800) (hz : ∀ z ∈ zs, 0 ≤ z ∧ z < (s.tasks.length : Int)) :
    Calls Try.prog 14 #[.agg #[.int .i64 s.proto, .slice s.ca s.cores.length s.cc, .slice s.ha s.homes.length s.hc, .slice s.ta s.tasks.length s.tc], .slice A m c] w (WithPost w s zs) := by
  obtain ⟨j0, hj0, hk0, hk1, hk2⟩ := info_parts infoTask
  obtain ⟨proto, ca, cc, cores, ha, hc, homes, ta, tc, tasks⟩ := s
  dsimp only at hz ⊢
  have HR := hidp hr
  have HM := hidp hm
  have HZ := hidp hz
  have HS := hidp hs
  have HTA0 := hidp hs.tasks.at_
  clear hr hm hz hs
  obtain ⟨v, HV, b1, b2, b5, hbw, hsv⟩ : ∃ v, Hid (((w.alloc (.cells #[.int .i64 proto, .slice ca cores.length cc, .slice ha homes.length hc, .slice ta tasks.length tc] 25)).alloc (.cells #[.int .i64 0, .slice none 0 0, .slice none 0 0, .slice none 0 0] 25)).alloc (.cells #[.int .i64 proto, .slice ca cores.length cc, .slice ha homes.length hc, .slice none 0 0] 25) = v) ∧
      Bk v w.heap.size 25 #[.int .i64 proto, .slice ca cores.length cc, .slice ha homes.length hc, .slice ta tasks.length tc] ∧ Bk v (w.heap.size + 1) 25 #[.int .i64 0, .slice none 0 0, .slice none 0 0, .slice none 0 0] ∧ Bk v (w.heap.size + 1 + 1) 25 #[.int .i64 proto, .slice ca cores.length cc, .slice ha homes.length hc, .slice none 0 0] ∧ Below w.heap.size w v ∧ v.heap.size = w.heap.size + 3 :=
    ⟨_, hidp rfl, ((Bk.new w 25 #[.int .i64 proto, .slice ca cores.length cc, .slice ha homes.length hc, .slice ta tasks.length tc]).alloc _).alloc _, (Bk.at_ (by simp) rfl).alloc _, Bk.at_ (by simp) rfl, (((Below.refl _ _).alloc (Nat.le_refl _) _).alloc (by simp) _).alloc (by simp; omega) _, by simp⟩
  have HSV := hidp hsv
  clear hsv
  go_enter Try.func14, Try.ntmps14
  go_wp2_with fail
  rw [HV.out]
  go_loopg [6] m (fun gg i wr => ∃ (k : Nat) (D : Option Addr) (d : Nat), k + gg = m ∧ i = .int .i64 k ∧ OwnT v.heap.size wr D k d (pick tasks (zs.take k)) ∧ Bk wr (w.heap.size + 1 + 1) 25 #[.int .i64 proto, .slice ca cores.length cc, .slice ha homes.length hc, .slice D k d] ∧ Turned [w.heap.size + 1 + 1] v wr)
  case atStart => exact ⟨0, none, 0, by omega, rfl, OwnT.none _ _, b5, Turned.refl _ _⟩
  case round =>
    clear b5
    obtain ⟨k, D, d, hk, rfl, o, b5, ht⟩ := hrel
    have kw : ∀ (p : Addr) (u : Value), w.cell? p = some u → wr.cell? p = some u := fun p u h => ht.cell ((Keeps.of_below hbw) _ _ h) (by have := cell_lt h; simp; omega)
    by_cases hlt : k < m
    · have hkz : k < zs.length := by rw [← HM.out]; exact hlt
      obtain ⟨go, oo, hA, hcz⟩ := HR.out.resolve_left (by intro e; rw [e] at hkz; simp at hkz)
      subst hA
      obtain ⟨z, HZ1⟩ : ∃ z, Hid (zs.getD k 0 = z) := ⟨_, rfl⟩
      have zc0 := HZ1.out ▸ hcz k hkz
      have hz1 := HZ.out z (by rw [← HZ1.out]; simp [List.getD, hkz])
      obtain ⟨n, rfl⟩ : ∃ n : Nat, z = n := ⟨z.toNat, by omega⟩
      have hnx : n < tasks.length := by omega
      obtain ⟨t, HT⟩ : ∃ t, Hid (tasks.getD n default = t) := ⟨_, rfl⟩
      have Hsn : Hid (pick tasks (zs.take (k + 1)) = pick tasks (zs.take k) ++ [t]) := hidp (by rw [pick_snoc _ _ _ hkz, HZ1.out]; simp only [Int.toNat_natCast]; rw [HT.out])
      obtain ⟨g, off, hA, hcl⟩ := HTA0.out.resolve_left (by intro e; rw [e] at hnx; simp at hnx)
      subst hA
      have dc0 := HT.out ▸ hcl n hnx
      have gl := cell_lt dc0.1
      have gol := cell_lt zc0
      have b1r := b1.turned ht (by simp; omega)
      have hs : wr.drew.cell? ⟨w.heap.size, 3, none⟩ = some (.slice (some ⟨g, off, none⟩) tasks.length tc) ∧ wr.drew.cell? ⟨go, oo + k, none⟩ = some (.int .i64 (n : Int)) ∧ wr.drew.cell? ⟨g, off + n * 6, none⟩ = some (.string t.name) ∧ wr.drew.cell? ⟨g, off + n * 6 + 1, none⟩ = some (.int .i64 t.per) ∧ wr.drew.cell? ⟨g, off + n * 6 + 2, none⟩ = some (.int .i64 t.dl) ∧ wr.drew.cell? ⟨g, off + n * 6 + 3, none⟩ = some (.int .i64 t.prio) ∧ wr.drew.cell? ⟨g, off + n * 6 + 4, none⟩ = some (.int .i64 t.cl) ∧ wr.drew.cell? ⟨g, off + n * 6 + 5, none⟩ = some (.slice t.pa t.parts.length t.pc) :=
        ⟨(Z4 b1r).2.2.2, kw _ _ zc0, kw _ _ dc0.1, kw _ _ dc0.2.1, kw _ _ dc0.2.2.1, kw _ _ dc0.2.2.2.1, kw _ _ dc0.2.2.2.2.1, kw _ _ dc0.2.2.2.2.2⟩
      have n0 : (0 : Int) ≤ (n : Int) := by omega
      have n1 : (n : Int) < (tasks.length : Int) := by omega
      have kI : (k : Int) < (m : Int) := by omega
      have o1 := o.turned (Turned.refl [] wr).drew (by simp)
      have b51 : Bk wr.drew (w.heap.size + 1 + 1) 25 #[.int .i64 proto, .slice ca cores.length cc, .slice ha homes.length hc, .slice D k d] := b5.drewN 1
      have ht1 := ht.drew
      clear o b5 ht kw b1r dc0 zc0 hcl hcz
      go_wp2_with fail
      refine wp_region_held_drew (S := fun w' => w'.cell? ⟨w.heap.size, 3, none⟩ = some (.slice (some ⟨g, off, none⟩) tasks.length tc) ∧ w'.cell? ⟨go, oo + k, none⟩ = some (.int .i64 (n : Int)) ∧ w'.cell? ⟨g, off + n * 6, none⟩ = some (.string t.name) ∧ w'.cell? ⟨g, off + n * 6 + 1, none⟩ = some (.int .i64 t.per) ∧ w'.cell? ⟨g, off + n * 6 + 2, none⟩ = some (.int .i64 t.dl) ∧ w'.cell? ⟨g, off + n * 6 + 3, none⟩ = some (.int .i64 t.prio) ∧ w'.cell? ⟨g, off + n * 6 + 4, none⟩ = some (.int .i64 t.cl) ∧ w'.cell? ⟨g, off + n * 6 + 5, none⟩ = some (.slice t.pa t.parts.length t.pc)) (by kernel_rfl) ?_ (fun hHeld => ?_)
      · exact hs
      generalize wr.drew = u1 at *
      have hb5 := (Z4 b51).2.2.2
      have tl : Turned [] u1 (u1.alloc (.cells (ttc [t]).toArray 37)) := (Turned.refl [] u1).alloc _
      have hs1 := with_keep hs tl (by simp)
      have b5a := b51.turned tl (by simp)
      have hb5a : (u1.alloc (.cells #[.string t.name, .int .i64 t.per, .int .i64 t.dl, .int .i64 t.prio, .int .i64 t.cl, .slice t.pa t.parts.length t.pc] 37)).cell? ⟨w.heap.size + 1 + 1, 3, none⟩ = some (.slice D k d) := (Z4 b5a).2.2.2
      have o1a := o1.turned tl (by simp)
      have hown2 := o1a.own
      have HO1 := hidp o1a
      have HTA := hidp (ht1.trans tl (by simp))
      have S2 := hidp (Lies.newCells' u1 (ttc [t]) 37)
      have O2 := hidp (ttc_one [t])
      have N2 : Hid (k + 1 ≤ maxLen) := hidp (by unfold maxLen; omega)
      have T2 : Hid ((k + 1) * 72 ≤ 140737488355328) := hidp (by omega)
      have Z2 : Hid (v.heap.size ≤ (u1.alloc (.cells (ttc [t]).toArray 37)).heap.size) := hidp HTA.out.size
      have HFP := hidp (own_fp o1a.own)
      have hgD : Hid (w.heap.size ∉ fp D ∧ go ∉ fp D ∧ g ∉ fp D) := hidp (by
        have := HSV.out
        refine ⟨fun h => ?_, fun h => ?_, fun h => ?_⟩ <;> (have h2 := (HFP.out _ h).1; omega))
      have hg2 : Hid (w.heap.size ∉ [w.heap.size + 1 + 1] ∧ go ∉ [w.heap.size + 1 + 1] ∧ g ∉ [w.heap.size + 1 + 1]) := hidp (by
        refine ⟨by simp; omega, by simp; omega, by simp; omega⟩)
      clear tl o1 o1a b51 ht1
      refine wpAnyH_take (i := 0) (v := ?_) rfl (by kernel_rfl) (by kernel_rfl) (by kernel_rfl) (fun _ _ _ h => h) (Or.inl ⟨by rfl, ?_⟩) (by assumption) ?_
      rotate_left 1
      · ((intro w hSw; (try dsimp only at hSw); go_simp); (try with_reducible rfl))
      simp only [Act.put, List.setIfInBounds_toArray, List.set_cons_zero, List.set_cons_succ, List.getElem_toArray, List.getElem_cons_zero, List.getElem_cons_succ]
      refine wpAnyH_take (i := 2) (v := ?_) rfl (by kernel_rfl) (by kernel_rfl) (by kernel_rfl) (fun _ _ _ h => h) (Or.inl ⟨by rfl, ?_⟩) (by assumption) ?_
      rotate_left 1
      · ((intro w hSw; (try dsimp only at hSw); go_simp); (try with_reducible rfl))
      simp only [Act.put, List.setIfInBounds_toArray, List.set_cons_zero, List.set_cons_succ, List.getElem_toArray, List.getElem_cons_zero, List.getElem_cons_succ]
      refine wpAnyH_take (i := 4) (v := ?_) rfl (by kernel_rfl) (by kernel_rfl) (by kernel_rfl) (fun _ _ _ h => h) (Or.inl ⟨by rfl, ?_⟩) (by assumption) ?_
      rotate_left 1
      · ((intro w hSw; (try dsimp only at hSw); go_simp); (try with_reducible rfl))
      simp only [Act.put, List.setIfInBounds_toArray, List.set_cons_zero, List.set_cons_succ, List.getElem_toArray, List.getElem_cons_zero, List.getElem_cons_succ]
      refine wpAnyH_take (i := 5) (v := ?_) rfl (by kernel_rfl) (by kernel_rfl) (by kernel_rfl) (fun _ _ _ h => h) (Or.inl ⟨by rfl, ?_⟩) (by assumption) ?_
      rotate_left 1
      · ((intro w hSw; (try dsimp only at hSw); go_simp); (try with_reducible rfl))
      simp only [Act.put, List.setIfInBounds_toArray, List.set_cons_zero, List.set_cons_succ, List.getElem_toArray, List.getElem_cons_zero, List.getElem_cons_succ]
      refine wpAnyH_take (i := 3) (v := ?_) rfl (by kernel_rfl) (by kernel_rfl) (by kernel_rfl) (fun _ _ _ h => h) (Or.inl ⟨by rfl, ?_⟩) (by assumption) ?_
      rotate_left 1
      · ((intro w hSw; (try dsimp only at hSw); go_simp); (try with_reducible rfl))
      simp only [Act.put, List.setIfInBounds_toArray, List.set_cons_zero, List.set_cons_succ, List.getElem_toArray, List.getElem_cons_zero, List.getElem_cons_succ]
      refine wpAnyH_take (i := 6) (v := ?_) rfl (by kernel_rfl) (by kernel_rfl) (by kernel_rfl) (fun _ _ _ h => h) (Or.inl ⟨by rfl, ?_⟩) (by assumption) ?_
      rotate_left 1
      · ((intro w hSw; (try dsimp only at hSw); go_simp); (try with_reducible rfl))
      simp only [Act.put, List.setIfInBounds_toArray, List.set_cons_zero, List.set_cons_succ, List.getElem_toArray, List.getElem_cons_zero, List.getElem_cons_succ]
      refine wpAnyH_take (i := 7) (v := ?_) rfl (by kernel_rfl) (by kernel_rfl) (by kernel_rfl) (fun _ _ _ h => h) (Or.inl ⟨by rfl, ?_⟩) (by assumption) ?_
      rotate_left 1
      · ((intro w hSw; (try dsimp only at hSw); go_simp); (try with_reducible rfl))
      simp only [Act.put, List.setIfInBounds_toArray, List.set_cons_zero, List.set_cons_succ, List.getElem_toArray, List.getElem_cons_zero, List.getElem_cons_succ]
      refine wpAnyH_take (i := 8) (v := ?_) rfl (by kernel_rfl) (by kernel_rfl) (by kernel_rfl) (fun _ _ _ h => h) (Or.inl ⟨by rfl, ?_⟩) (by assumption) ?_
      rotate_left 1
      · ((intro w hSw; (try dsimp only at hSw); go_simp); (try with_reducible rfl))
      simp only [Act.put, List.setIfInBounds_toArray, List.set_cons_zero, List.set_cons_succ, List.getElem_toArray, List.getElem_cons_zero, List.getElem_cons_succ]
      refine wpAnyH_take (i := 9) (v := ?_) rfl (by kernel_rfl) (by kernel_rfl) (by kernel_rfl) (fun _ _ _ h => h) (Or.inl ⟨by rfl, ?_⟩) (by assumption) ?_
      rotate_left 1
      · ((intro w hSw; (try dsimp only at hSw); go_simp); (try with_reducible rfl))
      simp only [Act.put, List.setIfInBounds_toArray, List.set_cons_zero, List.set_cons_succ, List.getElem_toArray, List.getElem_cons_zero, List.getElem_cons_succ]
      refine wpAnyH_ready (rs := [1, 10]) (by kernel_rfl) (by simp) ?_
      refine AllReadyH.cons rfl (fun K hK => ?_) (AllReadyH.cons rfl (fun K hK => ?_) AllReadyH.nil)
      · go_simp
        refine hK.out _ _ ?_ (fun hHeld => ?_)
        · exact hs
        clear hK K
        try simp only [Act.put, List.setIfInBounds_toArray, List.set_cons_zero, List.set_cons_succ, List.getElem_toArray, List.getElem_cons_zero, List.getElem_cons_succ]
        refine wpAnyH_ready (rs := [10]) (by kernel_rfl) (by simp) ?_
        refine AllReadyH.cons rfl (fun K hK => ?_) AllReadyH.nil
        go_simp
        refine hK.out _ _ ?_ (fun hHeld => ?_)
        · exact hs1
        clear hK K
        try simp only [Act.put, List.setIfInBounds_toArray, List.set_cons_zero, List.set_cons_succ, List.getElem_toArray, List.getElem_cons_zero, List.getElem_cons_succ]
        refine wpAnyH_ready (rs := [11]) (by kernel_rfl) (by simp) ?_
        refine AllReadyH.cons rfl (fun K hK => ?_) AllReadyH.nil
        refine step_app2 _ rfl (.tmp 16) (.tmp 25) 23 rfl v.heap.size 37 j0 _ 6 72 Try.underlying23 hj0 hk0 hk1 hk2 rfl (by decide) D k d _ rfl hown2 _ _ 1 1 (ttc [t]) rfl (by simp) rfl S2.out O2.out N2.out T2.out Z2.out ?_
        intro A2 c2 u2 happ
        have tu := happ.turned
        have hF := HFP.out
        have hs2 := with_keep hs1 tu hgD.out
        have b5u := b5a.turned tu (fun h => by have := (hF _ h).1; have := HSV.out; omega)
        refine hK.out _ _ ?_ (fun hHeld => ?_)
        · exact hs2
        clear hK K
        try simp only [Act.put, List.setIfInBounds_toArray, List.set_cons_zero, List.set_cons_succ, List.getElem_toArray, List.getElem_cons_zero, List.getElem_cons_succ]
        have f3 := b5u.frozen 3
        have z3 : u2.cell? ⟨w.heap.size + 1 + 1, 3, none⟩ = some (.slice D k d) := b5u.cell 3
        have TS : Turned [w.heap.size + 1 + 1] u2 (u2.setCell ⟨w.heap.size + 1 + 1, 3, none⟩ (.slice A2 (k + 1) c2)) := (Turned.refl [w.heap.size + 1 + 1] u2).setCell (p := ⟨w.heap.size + 1 + 1, 3, none⟩) (.inl (by simp)) _
        have hs3 := with_keep hs2 TS hg2.out
        refine wpAnyH_take (i := 12) (v := ?_) rfl (by kernel_rfl) (by kernel_rfl) (by kernel_rfl) (fun _ _ _ h => h) (Or.inl ⟨by rfl, ?_⟩) (by assumption) ?_
        rotate_left 1
        · ((intro w hSw; (try dsimp only at hSw); go_simp); (try with_reducible rfl))
        simp only [Act.put, List.setIfInBounds_toArray, List.set_cons_zero, List.set_cons_succ, List.getElem_toArray, List.getElem_cons_zero, List.getElem_cons_succ]
        refine wpAnyH_ready (rs := [13]) (by kernel_rfl) (by simp) ?_
        refine AllReadyH.cons rfl (fun K hK => ?_) AllReadyH.nil
        go_simp
        refine hK.out _ _ ?_ (fun hHeld => ?_)
        · exact hs3
        clear hK K
        try simp only [Act.put, List.setIfInBounds_toArray, List.set_cons_zero, List.set_cons_succ, List.getElem_toArray, List.getElem_cons_zero, List.getElem_cons_succ]
        refine wpAnyH_done (by kernel_rfl) ?_ _
        have b5n : Bk (u2.setCell ⟨w.heap.size + 1 + 1, 3, none⟩ (.slice A2 (k + 1) c2)) (w.heap.size + 1 + 1) 25 #[.int .i64 proto, .slice ca cores.length cc, .slice ha homes.length hc, .slice A2 (k + 1) c2] := b5u.put 3 (.slice A2 (k + 1) c2)
        have o2 := HO1.out.app (ts := [t]) happ rfl
        rw [← Hsn.out] at o2
        have hF2 := own_fp o2.own
        have o3 := o2.turned TS (fun j hj hm => by simp at hm; subst hm; have := (hF2 _ hj).1; have := HSV.out; omega)
        have t3 : Turned [w.heap.size + 1 + 1] v (u2.setCell ⟨w.heap.size + 1 + 1, 3, none⟩ (.slice A2 (k + 1) c2)) := (HTA.out.trans tu (fun i hi => .inr (hF i hi).1)).trans TS (fun i hi => .inl hi)
        clear hs hs1 hs2 hs3 hHeld TS f3 z3 b5u b5a o2 happ tu
        go_wp2_with fail
        go_roundg (gk - 1)
        case measure => omega
        case rel => exact ⟨k + 1, A2, c2, by omega, by go_num, o3, b5n, t3⟩
      · go_simp
        refine hK.out _ _ ?_ (fun hHeld => ?_)
        · exact hs1
        clear hK K
        try simp only [Act.put, List.setIfInBounds_toArray, List.set_cons_zero, List.set_cons_succ, List.getElem_toArray, List.getElem_cons_zero, List.getElem_cons_succ]
        refine wpAnyH_ready (rs := [1]) (by kernel_rfl) (by simp) ?_
        refine AllReadyH.cons rfl (fun K hK => ?_) AllReadyH.nil
        go_simp
        refine hK.out _ _ ?_ (fun hHeld => ?_)
        · exact hs1
        clear hK K
        try simp only [Act.put, List.setIfInBounds_toArray, List.set_cons_zero, List.set_cons_succ, List.getElem_toArray, List.getElem_cons_zero, List.getElem_cons_succ]
        refine wpAnyH_ready (rs := [11]) (by kernel_rfl) (by simp) ?_
        refine AllReadyH.cons rfl (fun K hK => ?_) AllReadyH.nil
        refine step_app2 _ rfl (.tmp 16) (.tmp 25) 23 rfl v.heap.size 37 j0 _ 6 72 Try.underlying23 hj0 hk0 hk1 hk2 rfl (by decide) D k d _ rfl hown2 _ _ 1 1 (ttc [t]) rfl (by simp) rfl S2.out O2.out N2.out T2.out Z2.out ?_
        intro A2 c2 u2 happ
        have tu := happ.turned
        have hF := HFP.out
        have hs2 := with_keep hs1 tu hgD.out
        have b5u := b5a.turned tu (fun h => by have := (hF _ h).1; have := HSV.out; omega)
        refine hK.out _ _ ?_ (fun hHeld => ?_)
        · exact hs2
        clear hK K
        try simp only [Act.put, List.setIfInBounds_toArray, List.set_cons_zero, List.set_cons_succ, List.getElem_toArray, List.getElem_cons_zero, List.getElem_cons_succ]
        have f3 := b5u.frozen 3
        have z3 : u2.cell? ⟨w.heap.size + 1 + 1, 3, none⟩ = some (.slice D k d) := b5u.cell 3
        have TS : Turned [w.heap.size + 1 + 1] u2 (u2.setCell ⟨w.heap.size + 1 + 1, 3, none⟩ (.slice A2 (k + 1) c2)) := (Turned.refl [w.heap.size + 1 + 1] u2).setCell (p := ⟨w.heap.size + 1 + 1, 3, none⟩) (.inl (by simp)) _
        have hs3 := with_keep hs2 TS hg2.out
        refine wpAnyH_take (i := 12) (v := ?_) rfl (by kernel_rfl) (by kernel_rfl) (by kernel_rfl) (fun _ _ _ h => h) (Or.inl ⟨by rfl, ?_⟩) (by assumption) ?_
        rotate_left 1
        · ((intro w hSw; (try dsimp only at hSw); go_simp); (try with_reducible rfl))
        simp only [Act.put, List.setIfInBounds_toArray, List.set_cons_zero, List.set_cons_succ, List.getElem_toArray, List.getElem_cons_zero, List.getElem_cons_succ]
        refine wpAnyH_ready (rs := [13]) (by kernel_rfl) (by simp) ?_
        refine AllReadyH.cons rfl (fun K hK => ?_) AllReadyH.nil
        go_simp
        refine hK.out _ _ ?_ (fun hHeld => ?_)
        · exact hs3
        clear hK K
        try simp only [Act.put, List.setIfInBounds_toArray, List.set_cons_zero, List.set_cons_succ, List.getElem_toArray, List.getElem_cons_zero, List.getElem_cons_succ]
        refine wpAnyH_done (by kernel_rfl) ?_ _
        have b5n : Bk (u2.setCell ⟨w.heap.size + 1 + 1, 3, none⟩ (.slice A2 (k + 1) c2)) (w.heap.size + 1 + 1) 25 #[.int .i64 proto, .slice ca cores.length cc, .slice ha homes.length hc, .slice A2 (k + 1) c2] := b5u.put 3 (.slice A2 (k + 1) c2)
        have o2 := HO1.out.app (ts := [t]) happ rfl
        rw [← Hsn.out] at o2
        have hF2 := own_fp o2.own
        have o3 := o2.turned TS (fun j hj hm => by simp at hm; subst hm; have := (hF2 _ hj).1; have := HSV.out; omega)
        have t3 : Turned [w.heap.size + 1 + 1] v (u2.setCell ⟨w.heap.size + 1 + 1, 3, none⟩ (.slice A2 (k + 1) c2)) := (HTA.out.trans tu (fun i hi => .inr (hF i hi).1)).trans TS (fun i hi => .inl hi)
        clear hs hs1 hs2 hs3 hHeld TS f3 z3 b5u b5a o2 happ tu
        go_wp2_with fail
        go_roundg (gk - 1)
        case measure => omega
        case rel => exact ⟨k + 1, A2, c2, by omega, by go_num, o3, b5n, t3⟩
    · obtain rfl : k = m := by omega
      rw [List.take_of_length_le (by rw [← HM.out]; exact Nat.le_refl _)] at o
      have b2r := b2.turned ht (by simp)
      obtain ⟨y0, y1, y2, y3⟩ := Z4 b5
      obtain ⟨f0, f1, f2, f3⟩ := ZF4 b2r
      obtain ⟨z0, z1, z2, z3⟩ := Z4 b2r
      have PB := put4_bk b2r (v0 := .int .i64 proto) (v1 := .slice ca cores.length cc) (v2 := .slice ha homes.length hc) (v3 := .slice D k d)
      have PT := put4_turned wr (w.heap.size + 1) (.int .i64 proto) (.slice ca cores.length cc) (.slice ha homes.length hc) (.slice D k d)
      have hF := own_fp o.own
      have of := o.turned PT (fun j hj hm => by simp at hm; subst hm; have := (hF _ hj).1; have := HSV.out; omega)
      have hsv := HSV.out
      have HB := hidp ((hbw.trans (ht.below hbw.size (by simp; omega))).trans (PT.below (Nat.le_trans hbw.size ht.size) (by simp)))
      have HO9 := hidp (of.low (B' := w.heap.size) (by omega))
      obtain ⟨r0, r1, r2, r3⟩ := Z4 PB
      unfold put4 at r0 r1 r2 r3 HO9 HB
      clear PB PT of hF hsv o b5 b2r ht b1 b2 hbw kw
      go_wp2
      refine bodyPost_ret (v := .agg #[.int .i64 proto, .slice ca cores.length cc, .slice ha homes.length hc, .slice D k d]) (by simp [results, Try.results14, go_sem, r0, r1, r2, r3]) rfl ⟨D, d, ?_, ?_, HB.out⟩
      · dsimp only; rw [HM.out]
      · dsimp only; rw [← HM.out]; exact HO9.out
theorem OwnN.fit_row {B : Nat} {w : World} {A : Option Addr} {n c : Nat} {zs : List Int} (h : OwnN B w A n c zs) : Row w .i64 A zs := h.row
set_option maxHeartbeats 8000000 in
theorem rmove_any (s : SetR) (b : Int) (w : World) (hs : SetOk w s) (hl : s.tasks.length ≤ 800) (hi : I64 b) : Calls Try.prog 16 #[.agg #[.int .i64 s.proto, .slice s.ca s.cores.length s.cc, .slice s.ha s.homes.length s.hc, .slice s.ta s.tasks.length s.tc], .int .i64 b] w (WithPost w s (turL (startN b s.tasks.length) s.tasks.length s.tasks.length)) := by
  obtain ⟨j0, hj0, hk0, hk1, hk2⟩ := info_parts infoC
  obtain ⟨n, HN⟩ : ∃ n, Hid (s.tasks.length = n) := ⟨_, rfl⟩
  rw [HN.out] at hl ⊢
  obtain ⟨K, HK⟩ : ∃ K, Hid (startN b n = K) := ⟨_, rfl⟩
  rw [HK.out]
  have hK : 0 < n → K < n ∧ (K : Int) = b % (n : Int) := fun h => ⟨by rw [← HK.out]; exact startN_lt h, by rw [← HK.out]; exact startN_eq h⟩
  have HKK := hidp hK
  clear hK
  obtain ⟨v, HV, b1, b2, hbw, hs2⟩ : ∃ v, Hid ((w.alloc (.cells #[.int .i64 s.proto, .slice s.ca s.cores.length s.cc, .slice s.ha s.homes.length s.hc, .slice s.ta n s.tc] 25)).alloc (.cells #[.int .i64 0, .slice none 0 0, .slice none 0 0, .slice none 0 0] 25) = v) ∧
      Bk v w.heap.size 25 #[.int .i64 s.proto, .slice s.ca s.cores.length s.cc, .slice s.ha s.homes.length s.hc, .slice s.ta n s.tc] ∧ Bk v (w.heap.size + 1) 25 #[.int .i64 0, .slice none 0 0, .slice none 0 0, .slice none 0 0] ∧ Below w.heap.size w v ∧ SetOk v s :=
    ⟨_, hidp rfl, (Bk.new w 25 #[.int .i64 s.proto, .slice s.ca s.cores.length s.cc, .slice s.ha s.homes.length s.hc, .slice s.ta n s.tc]).alloc _, Bk.at_ (by simp) rfl, ((Below.refl _ _).alloc (Nat.le_refl _) _).alloc (by simp) _, hs.keep ((Keeps.alloc _ _).trans (Keeps.alloc _ _))⟩
  have HS := hidp hs2
  have hsz : w.heap.size + 2 ≤ v.heap.size := by rw [← HV.out]; simp
  clear hs hs2
  go_enter Try.func16, Try.ntmps16
  go_wp2_with fail
  rw [HV.out]
  go_loopg [6, 7] n (fun g r i wr => ∃ (k : Nat) (D : Option Addr) (d : Nat), k + g = n ∧ i = .int .i64 k ∧ r = .slice D k d ∧ OwnN v.heap.size wr D k d (turL K n k) ∧ Below v.heap.size v wr)
  case atStart => exact ⟨0, none, 0, by omega, rfl, rfl, by simpa [turL] using OwnN.zero _ _, Below.refl _ _⟩
  case round =>
    obtain ⟨k, D, d, hk, rfl, rfl, o, hb⟩ := hrel
    by_cases hlt : k < n
    · obtain ⟨hKn, hKb⟩ := HKK.out (by omega)
      obtain ⟨q, HQ⟩ : ∃ q, Hid ((K + k) % n = q) := ⟨_, rfl⟩
      have hql : q < n := by rw [← HQ.out]; exact Nat.mod_lt _ (by omega)
      have hsn : Hid (turL K n (k + 1) = turL K n k ++ [(q : Int)]) := hidp (by rw [turL_snoc, HQ.out])
      have hr := rest_pos (b := b) (n := n) (by omega)
      have t1 := Int.lt_tmod_of_pos b (show (0 : Int) < (n : Int) by omega)
      have t2 := Int.tmod_lt_of_pos b (show (0 : Int) < (n : Int) by omega)
      rw [← hKb] at hr
      obtain ⟨r, hr0⟩ : ∃ r, b.tmod (n : Int) = r := ⟨_, rfl⟩
      rw [hr0] at hr t1 t2
      have hr2 : (r + (n : Int)) % (n : Int) = (K : Int) := by rw [← Int.tmod_eq_emod_of_nonneg (by omega)]; exact hr
      have hr3 : ((K : Int) + (k : Int)) % (n : Int) = (q : Int) := by rw [← HQ.out]; simp
      have hn0 : ¬ (n : Int) = 0 := by omega
      have hK800 : (K : Int) ≤ 800 := by omega
      have hown2 := World.ownsRow.alloc o.own (.cells #[.int .i64 (q : Int)] 3)
      have S2 := hidp (Lies.new1 wr (.int .i64 (q : Int)) 3)
      have O2 := hidp (ints_oneI [(q : Int)])
      have N2 : Hid (k + 1 ≤ maxLen) := hidp (by unfold maxLen; omega)
      have T2 : Hid ((k + 1) * 8 ≤ 140737488355328) := hidp (by omega)
      have hb2 := hb.alloc hb.size (.cells #[.int .i64 (q : Int)] 3)
      have Z2 := hidp hb2.size
      have hF := hidp (own_fp o.own)
      have HO := hidp o
      unfold I64 at hi
      clear o hKb hr
      go_wp2_with (at_builtin; go_loud (refine wpList_app2 _ rfl (.tmp 16) (.tmp 28) 22 rfl v.heap.size 3 j0 _ 1 8 Try.underlying22 hj0 hk0 hk1 hk2 rfl (by decide) D k d _ rfl hown2 _ _ 1 1 [.int .i64 (q : Int)] rfl (by simp) rfl S2.out O2.out N2.out T2.out Z2.out ?_); intro A' c' w1 happ)
      have o2 := HO.out.app (zs := [(q : Int)]) happ rfl
      rw [← hsn.out] at o2
      have hb3 := hb2.trans (happ.turned.below hb2.size (fun j hj => (hF.out _ hj).1))
      go_roundg (gk - 1)
      case measure => omega
      case rel => exact ⟨k + 1, A', c', by omega, by go_num, rfl, o2, hb3⟩
    · obtain rfl : k = n := by omega
      have hrow := hidp o.row
      have HZ : Hid (∀ z ∈ turL K k k, 0 ≤ z ∧ z < (s.tasks.length : Int)) := hidp fun z hz => by
        have h0 : 0 < k := by
          rcases Nat.eq_zero_or_pos k with e | e
          · rw [e] at hz; simp [turL] at hz
          · exact e
        rw [HN.out]; exact turL_in h0 hz
      have b1r := b1.below hb
      have b2r := b2.below hb
      have hsr := HS.out.keep (Keeps.of_below hb)
      have hbr := hbw.trans (hb.mono hbw.size)
      have hszr := Nat.le_trans hsz hb.size
      obtain ⟨x0, x1, x2, x3⟩ := Z4 b1r
      have CC := rwith_any s wr hsr D k d (turL K k k) hrow.out (turL_len _ _ _).symm hl HZ.out
      rw [HN.out] at CC
      clear b1r b1 b2 hbw hsz o hb HS
      go_wp2_with fail
      refine CC.mono ?_
      rintro e w2 ⟨D2, d2, rfl, ho, hb2⟩
      clear CC
      have B2 := b2r.below hb2
      have hb3 := hbr.trans (hb2.mono hbr.size)
      have HO5 := hidp ho
      have HZR := hidp hszr
      rw [turL_len]
      clear b2r hsr hbr hszr hb2 ho
      obtain ⟨f0, f1, f2, f3⟩ := ZF4 B2
      obtain ⟨z0, z1, z2, z3⟩ := Z4 B2
      have PB := put4_bk B2 (v0 := .int .i64 s.proto) (v1 := .slice s.ca s.cores.length s.cc) (v2 := .slice s.ha s.homes.length s.hc) (v3 := .slice D2 k d2)
      have PT := put4_turned w2 (w.heap.size + 1) (.int .i64 s.proto) (.slice s.ca s.cores.length s.cc) (.slice s.ha s.homes.length s.hc) (.slice D2 k d2)
      have HO6 := hidp ((HO5.out.turned PT (fun j hj hm => by simp at hm; subst hm; have := (own_fp HO5.out.own _ hj).1; have := HZR.out; omega)).low (B' := w.heap.size) (by have := HZR.out; omega))
      have HB := hidp (hb3.trans (PT.below hb3.size (by simp)))
      obtain ⟨r0, r1, r2, r3⟩ := Z4 PB
      unfold put4 at r0 r1 r2 r3 HO6 HB
      clear PB PT hb3 B2
      go_wp2_with fail
      refine bodyPost_ret (v := .agg #[.int .i64 s.proto, .slice s.ca s.cores.length s.cc, .slice s.ha s.homes.length s.hc, .slice D2 k d2]) (by simp [results, Try.results16, go_sem, r0, r1, r2, r3]) rfl ⟨D2, d2, by rw [turL_len], HO6.out, HB.out⟩
end Go.Proofs.Ytnfkebdbfflhdaa
