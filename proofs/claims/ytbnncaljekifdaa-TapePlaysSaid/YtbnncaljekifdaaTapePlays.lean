/- TapePlays: every row of choices: each answer, how many bytes were used, behind each; copies go their own way. No condition. -/
import Derived.Test.YtbnncaljekifdaaKnown20
import Derived.Test.YtbnncaljekifdaaRef20a
import Derived.Test.YtbnncaljekifdaaReg
set_option maxHeartbeats 1000000
set_option linter.unusedSimpArgs false
namespace Go.Proofs.Ytbnncaljekifdaa
theorem keepT2 {w w' : World} {b g1 g2 p1 p2 B : Nat} {x y : Value} (hs : w.cell? ⟨g1, p1, none⟩ = some x ∧ w.cell? ⟨g2, p2, none⟩ = some y) (ht : Turned [b] w w') (h1 : g1 < B) (h2 : g2 < B) (hb : B ≤ b) :
    w'.cell? ⟨g1, p1, none⟩ = some x ∧ w'.cell? ⟨g2, p2, none⟩ = some y :=
  ⟨ht.cell hs.1 (by simp; omega), ht.cell hs.2 (by simp; omega)⟩
theorem Up.one {B : Nat} {W w w' : World} {F : List Nat} {b : Nat} (h : Up B W w F) (ht : Turned [b] w w') (hb : B ≤ b) : Up B W w' F :=
  ⟨h.below.trans (ht.below (by have := h.below.size; have := h.base; omega) (fun k hk => by simp at hk; subst hk; exact hb)), h.blocks, h.base⟩
theorem RT.c1u {W w : World} {b : Nat} {A : Option Addr} {n c : Nat} {bs : List Int} {us : Nat} (h : RT W w b A n c bs us) : w.cell? ⟨b, 1, none⟩ = some (.int .i64 us) := h.c1
theorem RT.one {W w w' : World} {b b2 : Nat} {A : Option Addr} {n c : Nat} {bs : List Int} {us : Nat} {F : List Nat} (h : RT W w b A n c bs us) (ht : Turned [b2] w w') (hb : b2 ∈ F) (hR : b ∉ F) (hF : W.heap.size ≤ b2) : RT W w' b A n c bs us :=
  h.turned ht (fun hm => by simp at hm; exact hR (hm ▸ hb)) (fun k hk => by simp at hk; subst hk; exact hF)
theorem Tp.one {w w' : World} {b b2 : Nat} {bs : List Int} {us : Nat} {F : List Nat} (h : Tp w b bs us F) (ht : Turned [b2] w w') (hR : b2 ∉ F) : Tp w' b bs us F :=
  h.turned ht fun k hk hm => by simp at hm; subst hm; exact hR hk
end Go.Proofs.Ytbnncaljekifdaa
namespace Go.Proofs.Ytbnncaljekifdaa.tapePlays
open Go.ChangeShapes Go.WideShapes Go.ChangeAt Go.RowKit
open Go.ChangeMaps (open_string shut_string)
set_option linter.unusedVariables false

/-- THE WALK: the Go text returns true, and writes nothing that was there. -/
theorem walk (a0 : Option Addr) (len0 cap0 : Nat) (z0 : List Int) (a1 : Option Addr) (len1 cap1 : Nat) (z1 : List Int) (a2 : Option Addr) (len2 cap2 : Nat) (z2 : List Int) (w : World) (w0 : IsRow .u8 w a0 len0 cap0 z0) (w1 : IsRow .i64 w a1 len1 cap1 z1) (w2 : IsRow .i64 w a2 len2 cap2 z2) :
    Calls Try.prog 3 #[.slice a0 len0 cap0, .slice a1 len1 cap1, .slice a2 len2 cap2] w fun e w' => e = .returned (.bool true) ∧ Below w.heap.size w w' := by
  have hr := RdB.of_row w0
  generalize z0.take len0 = bs at hr
  clear w0
  obtain ⟨hr1, hl1, hm1, hz1⟩ := w1.row
  obtain ⟨hr2, hl2, hm2, hz2⟩ := w2.row
  clear w1 w2 hm1 hm2
  generalize z1.take len1 = xs at *
  generalize z2.take len2 = ys at *
  have hi1 : ∀ n ∈ xs, I64 n := fun n hn => i64_of (hz1 n hn)
  have hi2 : ∀ n ∈ ys, I64 n := fun n hn => i64_of (hz2 n hn)
  clear hz1 hz2
  have Hr1 := hidp hr1
  have Hr2 := hidp hr2
  have Hi1 := hidp hi1
  have Hi2 := hidp hi2
  have L1 := hidp hl1
  have L2 := hidp hl2
  clear hr1 hr2 hi1 hi2 hl1 hl2
  by_cases h1 : 100 < len0
  · go_enter Try.func3, Try.ntmps3
    go_wp2_with fail
    refine (known20_any _).mono ?_
    rintro e w1 ⟨rfl, hb1⟩
    go_wp2_with fail
    go_ret
    exact ⟨rfl, hb1⟩
  · by_cases h2 : 60 < len1
    · go_enter Try.func3, Try.ntmps3
      go_wp2_with fail
      refine (known20_any _).mono ?_
      rintro e w1 ⟨rfl, hb1⟩
      go_wp2_with fail
      go_ret
      exact ⟨rfl, hb1⟩
    · by_cases h3 : 60 < len2
      · go_enter Try.func3, Try.ntmps3
        go_wp2_with fail
        refine (known20_any _).mono ?_
        rintro e w1 ⟨rfl, hb1⟩
        go_wp2_with fail
        go_ret
        exact ⟨rfl, hb1⟩
      · have hl : len0 ≤ 1000000 := by omega
        have HL := hidp hr.len
        have Hbl : Hid (bs.length ≤ 1000000) := hidp (by rw [← HL.out]; exact hl)
        go_enter Try.func3, Try.ntmps3
        go_wp2_with fail
        refine (known20_any _).mono ?_
        rintro e w1 ⟨rfl, hb1⟩
        go_wp2_with fail
        refine (tnew_any (hr.below hb1) hl).mono ?_
        rintro e w2 ⟨b, F, rfl, h, u⟩
        replace u := u.since hb1
        have HR : RT w (w2.alloc (.cells #[.slice a0 len0 cap0, .int .i64 0] 29)) w2.heap.size a0 len0 cap0 bs 0 := ⟨Bk.new _ _ _, hr, u.below.alloc u.below.size _, u.below.size⟩
        have hRF : Hid (w2.heap.size ∉ F) := hidp fun hm => by have := h.lt _ hm; omega
        replace h := h.turned (Turned.alloc (Turned.refl [] w2) (.cells #[.slice a0 len0 cap0, .int .i64 0] 29)) (by simp)
        replace u := u.turned (Turned.alloc (Turned.refl [] w2) (.cells #[.slice a0 len0 cap0, .int .i64 0] 29)) (by simp)
        go_wp2_with fail
        generalize w2.heap.size = R at *
        go_loopg [7, 9] len1 (fun g t i wr => ∃ (k b us : Nat) (F : List Nat), k + g = len1 ∧ k ≤ len2 ∧ us ≤ k ∧ t = .pointer (some ⟨b, 0, none⟩) ∧ i = .int .i64 k ∧ Tp wr b bs us F ∧ Up w.heap.size w wr F ∧ RT w wr R a0 len0 cap0 bs us ∧ Hid (R ∉ F))
        case atStart => exact ⟨0, b, 0, F, by omega, by omega, by omega, rfl, rfl, h, u, HR, hRF⟩
        case round =>
          clear h u HR hRF
          obtain ⟨k, b, us, F, hk, hk2, hus, rfl, rfl, h, u, HR, hRF⟩ := hrel
          by_cases hlt : k < len1
          · by_cases hlt2 : k < len2
            · go_wp2_with fail
              refine (tcopy_any h Hbl.out).mono ?_
              rintro e w3 ⟨b3, F3, rfl, h3, u3⟩
              have A3 := h.new u3
              replace h := h.over u3.below
              have U3 := Up.since u.below u3
              replace u := u.over u3.below
              have hRF3 : Hid (R ∉ F3) := hidp fun hm => by have := u3.blocks _ hm; have := HR.blk.lt; omega
              replace HR := HR.over u3.below
              go_wp2_with fail
              refine (tpick_any (lo := 0) (hi := 9) h (by decide) (by decide) (by omega)).mono ?_
              rintro e w4 ⟨rfl, h4, t4⟩
              have hbF : b ∈ F := h.head
              replace h3 := h3.keep t4 hbF A3
              replace HR := HR.turned t4 (fun hm => by simp at hm; exact hRF.out (hm ▸ hbF)) (fun k hk => by simp at hk; subst hk; exact u.blocks _ hbF)
              have U4 : Up w.heap.size w w4 F3 := ⟨u.below.trans (t4.below u.below.size (fun k hk => by simp at hk; subst hk; exact u.blocks _ hbF)), U3.blocks, Nat.le_refl _⟩
              clear h h4 t4 u u3 U3 hbF A3 hRF
              obtain ⟨x, HX⟩ : ∃ x, Hid (xs.getD k 0 = x) := ⟨_, rfl⟩
              obtain ⟨y, HY⟩ : ∃ y, Hid (ys.getD k 0 = y) := ⟨_, rfl⟩
              have Ix : Hid (I64 x) := hidp (HX.out ▸ getD_i64 Hi1.out k)
              have Iy : Hid (I64 y) := hidp (HY.out ▸ getD_i64 Hi2.out k)
              obtain ⟨g1, o1, rfl, hc1⟩ := (Hr1.out.below U4.below).resolve_left (by intro e; subst e; have := L1.out; simp at this; omega)
              obtain ⟨g2, o2, rfl, hc2⟩ := (Hr2.out.below U4.below).resolve_left (by intro e; subst e; have := L2.out; simp at this; omega)
              have hx : w4.cell? ⟨g1, o1 + k, none⟩ = some (.int .i64 x) := HX.out ▸ hc1 k (by rw [L1.out]; exact hlt)
              have hy : w4.cell? ⟨g2, o2 + k, none⟩ = some (.int .i64 y) := HY.out ▸ hc2 k (by rw [L2.out]; exact hlt2)
              clear hc1 hc2
              have b1 : Hid (g1 < w.heap.size) := hidp (cell_lt (p := ⟨g1, o1 + k, none⟩) (by rcases Hr1.out with e | ⟨_, _, e, hc⟩; (· subst e; have := L1.out; simp at this; omega); injection e with e; injection e with e1 e2; subst e1; subst e2; exact hc k (by rw [L1.out]; exact hlt)))
              have b2 : Hid (g2 < w.heap.size) := hidp (cell_lt (p := ⟨g2, o2 + k, none⟩) (by rcases Hr2.out with e | ⟨_, _, e, hc⟩; (· subst e; have := L2.out; simp at this; omega); injection e with e; injection e with e1 e2; subst e1; subst e2; exact hc k (by rw [L2.out]; exact hlt2)))
              have bR : Hid (w.heap.size ≤ R) := hidp HR.hb
              have bF : Hid (w.heap.size ≤ b3) := hidp (U4.blocks _ h3.head)
              have hF3 : Hid (b3 ∈ F3) := hidp h3.head
              have Hu : Hid (us < 1000000000000) := hidp (by omega)
              have hs : w4.drew.cell? ⟨g1, o1 + k, none⟩ = some (.int .i64 x) ∧ w4.drew.cell? ⟨g2, o2 + k, none⟩ = some (.int .i64 y) := ⟨hx, hy⟩
              clear hx hy
              have h3' : Tp w4.drew b3 bs us F3 := h3.turned (Turned.drew (Turned.refl [] w4)) (by simp)
              have HR' : RT w w4.drew R a0 len0 cap0 bs us := HR.turned (Turned.drew (Turned.refl [] w4)) (by simp) (by simp)
              have U4' : Up w.heap.size w w4.drew F3 := U4.turned (Turned.drew (Turned.refl [] w4)) (by simp)
              clear h3 HR U4
              obtain ⟨v, HV⟩ : ∃ v, Hid (pickV bs us x y = v) := ⟨_, rfl⟩
              obtain ⟨us', HUS⟩ : ∃ v, Hid (usedV us x y = v) := ⟨_, rfl⟩
              go_wp2_with fail
              refine wp_region_held_drew (S := fun w' => w'.cell? ⟨g1, o1 + k, none⟩ = some (.int .i64 x) ∧ w'.cell? ⟨g2, o2 + k, none⟩ = some (.int .i64 y)) (by kernel_rfl) ?_ (fun hHeld => ?_)
              · exact hs
              refine wpAnyH_take (i := 0) (v := ?_) rfl (by kernel_rfl) (by kernel_rfl) (by kernel_rfl) (fun _ _ _ h => h) (Or.inl ⟨by rfl, ?_⟩) (by assumption) ?_
              rotate_left 1
              · ((intro w hSw; (try dsimp only at hSw); go_simp); (try with_reducible rfl))
              simp only [Act.put, List.setIfInBounds_toArray, List.set_cons_zero, List.set_cons_succ]
              refine wpAnyH_take (i := 1) (v := ?_) rfl (by kernel_rfl) (by kernel_rfl) (by kernel_rfl) (fun _ _ _ h => h) (Or.inl ⟨by rfl, ?_⟩) (by assumption) ?_
              rotate_left 1
              · ((intro w hSw; (try dsimp only at hSw); go_simp); (try with_reducible rfl))
              simp only [Act.put, List.setIfInBounds_toArray, List.set_cons_zero, List.set_cons_succ]
              refine wpAnyH_take (i := 2) (v := ?_) rfl (by kernel_rfl) (by kernel_rfl) (by kernel_rfl) (fun _ _ _ h => h) (Or.inl ⟨by rfl, ?_⟩) (by assumption) ?_
              rotate_left 1
              · ((intro w hSw; (try dsimp only at hSw); go_simp); (try with_reducible rfl))
              simp only [Act.put, List.setIfInBounds_toArray, List.set_cons_zero, List.set_cons_succ]
              refine wpAnyH_take (i := 3) (v := ?_) rfl (by kernel_rfl) (by kernel_rfl) (by kernel_rfl) (fun _ _ _ h => h) (Or.inl ⟨by rfl, ?_⟩) (by assumption) ?_
              rotate_left 1
              · ((intro w hSw; (try dsimp only at hSw); go_simp); (try with_reducible rfl))
              simp only [Act.put, List.setIfInBounds_toArray, List.set_cons_zero, List.set_cons_succ]
              refine wpAnyH_take (i := 4) (v := ?_) rfl (by kernel_rfl) (by kernel_rfl) (by kernel_rfl) (fun _ _ _ h => h) (Or.inl ⟨by rfl, ?_⟩) (by assumption) ?_
              rotate_left 1
              · ((intro w hSw; (try dsimp only at hSw); go_simp); (try with_reducible rfl))
              simp only [Act.put, List.setIfInBounds_toArray, List.set_cons_zero, List.set_cons_succ]
              refine wpAnyH_take (i := 5) (v := ?_) rfl (by kernel_rfl) (by kernel_rfl) (by kernel_rfl) (fun _ _ _ h => h) (Or.inl ⟨by rfl, ?_⟩) (by assumption) ?_
              rotate_left 1
              · ((intro w hSw; (try dsimp only at hSw); go_simp); (try with_reducible rfl))
              simp only [Act.put, List.setIfInBounds_toArray, List.set_cons_zero, List.set_cons_succ]
              refine wpAnyH_take (i := 6) (v := ?_) rfl (by kernel_rfl) (by kernel_rfl) (by kernel_rfl) (fun _ _ _ h => h) (Or.inl ⟨by rfl, ?_⟩) (by assumption) ?_
              rotate_left 1
              · ((intro w hSw; (try dsimp only at hSw); go_simp); (try with_reducible rfl))
              simp only [Act.put, List.setIfInBounds_toArray, List.set_cons_zero, List.set_cons_succ]
              refine wpAnyH_take (i := 7) (v := ?_) rfl (by kernel_rfl) (by kernel_rfl) (by kernel_rfl) (fun _ _ _ h => h) (Or.inl ⟨by rfl, ?_⟩) (by assumption) ?_
              rotate_left 1
              · ((intro w hSw; (try dsimp only at hSw); go_simp); (try with_reducible rfl))
              simp only [Act.put, List.setIfInBounds_toArray, List.set_cons_zero, List.set_cons_succ]
              refine wpAnyH_take (i := 8) (v := ?_) rfl (by kernel_rfl) (by kernel_rfl) (by kernel_rfl) (fun _ _ _ h => h) (Or.inl ⟨by rfl, ?_⟩) (by assumption) ?_
              rotate_left 1
              · ((intro w hSw; (try dsimp only at hSw); go_simp); (try with_reducible rfl))
              simp only [Act.put, List.setIfInBounds_toArray, List.set_cons_zero, List.set_cons_succ]
              refine wpAnyH_take (i := 10) (v := ?_) rfl (by kernel_rfl) (by kernel_rfl) (by kernel_rfl) (fun _ _ _ h => h) (Or.inl ⟨by rfl, ?_⟩) (by assumption) ?_
              rotate_left 1
              · ((intro w hSw; (try dsimp only at hSw); go_simp); (try with_reducible rfl))
              simp only [Act.put, List.setIfInBounds_toArray, List.set_cons_zero, List.set_cons_succ]
              refine wpAnyH_take (i := 11) (v := ?_) rfl (by kernel_rfl) (by kernel_rfl) (by kernel_rfl) (fun _ _ _ h => h) (Or.inl ⟨by rfl, ?_⟩) (by assumption) ?_
              rotate_left 1
              · ((intro w hSw; (try dsimp only at hSw); go_simp); (try with_reducible rfl))
              simp only [Act.put, List.setIfInBounds_toArray, List.set_cons_zero, List.set_cons_succ]
              refine wpAnyH_take (i := 12) (v := ?_) rfl (by kernel_rfl) (by kernel_rfl) (by kernel_rfl) (fun _ _ _ h => h) (Or.inl ⟨by rfl, ?_⟩) (by assumption) ?_
              rotate_left 1
              · ((intro w hSw; (try dsimp only at hSw); go_simp); (try with_reducible rfl))
              simp only [Act.put, List.setIfInBounds_toArray, List.set_cons_zero, List.set_cons_succ]
              refine wpAnyH_take (i := 13) (v := ?_) rfl (by kernel_rfl) (by kernel_rfl) (by kernel_rfl) (fun _ _ _ h => h) (Or.inl ⟨by rfl, ?_⟩) (by assumption) ?_
              rotate_left 1
              · ((intro w hSw; (try dsimp only at hSw); go_simp); (try with_reducible rfl))
              simp only [Act.put, List.setIfInBounds_toArray, List.set_cons_zero, List.set_cons_succ]
              refine wpAnyH_take (i := 14) (v := ?_) rfl (by kernel_rfl) (by kernel_rfl) (by kernel_rfl) (fun _ _ _ h => h) (Or.inl ⟨by rfl, ?_⟩) (by assumption) ?_
              rotate_left 1
              · ((intro w hSw; (try dsimp only at hSw); go_simp); (try with_reducible rfl))
              simp only [Act.put, List.setIfInBounds_toArray, List.set_cons_zero, List.set_cons_succ]
              refine wpAnyH_take (i := 15) (v := ?_) rfl (by kernel_rfl) (by kernel_rfl) (by kernel_rfl) (fun _ _ _ h => h) (Or.inl ⟨by rfl, ?_⟩) (by assumption) ?_
              rotate_left 1
              · ((intro w hSw; (try dsimp only at hSw); go_simp); (try with_reducible rfl))
              simp only [Act.put, List.setIfInBounds_toArray, List.set_cons_zero, List.set_cons_succ]
              refine wpAnyH_take (i := 16) (v := ?_) rfl (by kernel_rfl) (by kernel_rfl) (by kernel_rfl) (fun _ _ _ h => h) (Or.inl ⟨by rfl, ?_⟩) (by assumption) ?_
              rotate_left 1
              · ((intro w hSw; (try dsimp only at hSw); go_simp); (try with_reducible rfl))
              simp only [Act.put, List.setIfInBounds_toArray, List.set_cons_zero, List.set_cons_succ]
              refine wpAnyH_take (i := 17) (v := ?_) rfl (by kernel_rfl) (by kernel_rfl) (by kernel_rfl) (fun _ _ _ h => h) (Or.inl ⟨by rfl, ?_⟩) (by assumption) ?_
              rotate_left 1
              · ((intro w hSw; (try dsimp only at hSw); go_simp); (try with_reducible rfl))
              simp only [Act.put, List.setIfInBounds_toArray, List.set_cons_zero, List.set_cons_succ]
              refine wpAnyH_take (i := 18) (v := ?_) rfl (by kernel_rfl) (by kernel_rfl) (by kernel_rfl) (fun _ _ _ h => h) (Or.inl ⟨by rfl, ?_⟩) (by assumption) ?_
              rotate_left 1
              · ((intro w hSw; (try dsimp only at hSw); go_simp); (try with_reducible rfl))
              simp only [Act.put, List.setIfInBounds_toArray, List.set_cons_zero, List.set_cons_succ]
              refine wpAnyH_ready (rs := [9]) (by kernel_rfl) (by simp) ?_
              refine AllReadyH.cons rfl (fun K hK => ?_) AllReadyH.nil
              go_simp
              (with_reducible refine (tpick_any h3' Ix.out Iy.out Hu.out).mono ?_)
              rintro e u5 ⟨rfl, h5, t5⟩
              rw [HV.out]
              rw [HUS.out] at h5
              replace hs := keepT2 hs t5 b1.out b2.out bF.out
              replace HR' := HR'.one t5 hF3.out hRF3.out bF.out
              replace U4' := U4'.one t5 bF.out
              clear hHeld h3' t5
              go_wp2_with fail
              refine hK.out _ _ ?_ (fun hHeld => ?_)
              · exact hs
              clear hK K
              try simp only [Act.put, List.setIfInBounds_toArray, List.set_cons_zero, List.set_cons_succ]
              refine wpAnyH_ready (rs := [19]) (by kernel_rfl) (by simp) ?_
              refine AllReadyH.cons rfl (fun K hK => ?_) AllReadyH.nil
              go_simp
              (with_reducible refine (rpick_any HR' Ix.out Iy.out Hu.out).mono ?_)
              rintro e u6 ⟨rfl, h6, t6⟩
              rw [HV.out]
              rw [HUS.out] at h6
              replace hs := keepT2 hs t6 b1.out b2.out bR.out
              replace h5 := h5.one t6 hRF3.out
              replace U4' := U4'.one t6 bR.out
              have c6 := h6.c1u
              clear hHeld HR' t6
              go_wp2_with fail
              refine hK.out _ _ ?_ (fun hHeld => ?_)
              · exact hs
              clear hK K
              try simp only [Act.put, List.setIfInBounds_toArray, List.set_cons_zero, List.set_cons_succ]
              refine wpAnyH_mono (S' := fun w' => (w'.cell? ⟨g1, o1 + k, none⟩ = some (.int .i64 x) ∧ w'.cell? ⟨g2, o2 + k, none⟩ = some (.int .i64 y)) ∧ w'.cell? ⟨R, 1, none⟩ = some (.int .i64 us')) (fun _ h => h.1) _ _ _ _ ?_
              have hHeld2 := And.intro hs c6
              refine wpAnyH_take (i := 20) (v := ?_) rfl (by kernel_rfl) (by kernel_rfl) (by kernel_rfl) (fun _ _ _ h => h) (Or.inl ⟨by rfl, ?_⟩) (by assumption) ?_
              rotate_left 1
              · ((intro w hSw; (try dsimp only at hSw); go_simp); (try with_reducible rfl))
              simp only [Act.put, List.setIfInBounds_toArray, List.set_cons_zero, List.set_cons_succ]
              refine wpAnyH_take (i := 21) (v := ?_) rfl (by kernel_rfl) (by kernel_rfl) (by kernel_rfl) (fun _ _ _ h => h) (Or.inl ⟨by rfl, ?_⟩) (by assumption) ?_
              rotate_left 1
              · ((intro w hSw; (try dsimp only at hSw); go_simp); (try with_reducible rfl))
              simp only [Act.put, List.setIfInBounds_toArray, List.set_cons_zero, List.set_cons_succ]
              refine wpAnyH_take (i := 22) (v := ?_) rfl (by kernel_rfl) (by kernel_rfl) (by kernel_rfl) (fun _ _ _ h => h) (Or.inl ⟨by rfl, ?_⟩) (by assumption) ?_
              rotate_left 1
              · ((intro w hSw; (try dsimp only at hSw); go_simp); (try with_reducible rfl))
              simp only [Act.put, List.setIfInBounds_toArray, List.set_cons_zero, List.set_cons_succ]
              refine wpAnyH_take (i := 24) (v := ?_) rfl (by kernel_rfl) (by kernel_rfl) (by kernel_rfl) (fun _ _ _ h => h) (Or.inl ⟨by rfl, ?_⟩) (by assumption) ?_
              rotate_left 1
              · ((intro w hSw; (try dsimp only at hSw); go_simp); (try with_reducible rfl))
              simp only [Act.put, List.setIfInBounds_toArray, List.set_cons_zero, List.set_cons_succ]
              refine wpAnyH_take (i := 25) (v := ?_) rfl (by kernel_rfl) (by kernel_rfl) (by kernel_rfl) (fun _ _ _ h => h) (Or.inl ⟨by rfl, ?_⟩) (by assumption) ?_
              rotate_left 1
              · ((intro w hSw; (try dsimp only at hSw); go_simp); (try with_reducible rfl))
              simp only [Act.put, List.setIfInBounds_toArray, List.set_cons_zero, List.set_cons_succ]
              refine wpAnyH_take (i := 26) (v := ?_) rfl (by kernel_rfl) (by kernel_rfl) (by kernel_rfl) (fun _ _ _ h => h) (Or.inl ⟨by rfl, ?_⟩) (by assumption) ?_
              rotate_left 1
              · ((intro w hSw; (try dsimp only at hSw); go_simp); (try with_reducible rfl))
              simp only [Act.put, List.setIfInBounds_toArray, List.set_cons_zero, List.set_cons_succ]
              refine wpAnyH_take (i := 27) (v := ?_) rfl (by kernel_rfl) (by kernel_rfl) (by kernel_rfl) (fun _ _ _ h => h) (Or.inl ⟨by rfl, ?_⟩) (by assumption) ?_
              rotate_left 1
              · ((intro w hSw; (try dsimp only at hSw); go_simp); (try with_reducible rfl))
              simp only [Act.put, List.setIfInBounds_toArray, List.set_cons_zero, List.set_cons_succ]
              refine wpAnyH_ready (rs := [23]) (by kernel_rfl) (by simp) ?_
              refine AllReadyH.cons rfl (fun K hK => ?_) AllReadyH.nil
              go_simp
              (with_reducible refine (tused_any h5).mono ?_)
              rintro e u7 ⟨rfl, rfl⟩
              go_wp2_with fail
              refine hK.out _ _ ?_ (fun hHeld => ?_)
              · exact hHeld2
              clear hK K
              try simp only [Act.put, List.setIfInBounds_toArray, List.set_cons_zero, List.set_cons_succ]
              refine wpAnyH_take (i := 28) (v := ?_) rfl (by kernel_rfl) (by kernel_rfl) (by kernel_rfl) (fun _ _ _ h => h) (Or.inl ⟨by rfl, ?_⟩) (by assumption) ?_
              rotate_left 1
              · ((intro w hSw; (try dsimp only at hSw); go_simp); (try with_reducible rfl))
              simp only [Act.put, List.setIfInBounds_toArray, List.set_cons_zero, List.set_cons_succ]
              refine wpAnyH_take (i := 29) (v := ?_) rfl (by kernel_rfl) (by kernel_rfl) (by kernel_rfl) (fun _ _ _ h => h) (Or.inl ⟨by rfl, ?_⟩) (by assumption) ?_
              rotate_left 1
              · ((intro w hSw; (try dsimp only at hSw); go_simp); (try with_reducible rfl))
              simp only [Act.put, List.setIfInBounds_toArray, List.set_cons_zero, List.set_cons_succ]
              refine wpAnyH_done (by kernel_rfl) ?_ _
              have hus2 : us' ≤ us + 1 := by rw [← HUS.out]; unfold usedV; split <;> omega
              go_wp2_with fail
              go_roundg (gk - 1)
              case measure => omega
              case rel => exact ⟨k + 1, b3, us', F3, by omega, by omega, by omega, rfl, by go_num, h5, U4', h6, hRF3⟩
            · go_wp2_with fail
              go_ret
              exact ⟨rfl, u.below⟩
          · obtain rfl : k = len1 := by omega
            go_wp2_with fail
            go_ret
            exact ⟨rfl, u.below⟩

theorem own : ownKnob Try.prog.godebug = none := by kernel_rfl
theorem laidOut : laidOutB Try.prog = true := by kernel_rfl

/-! THE ROW's STEP -/
set_option maxRecDepth 100000 in
theorem lifted (os : Os) (started : os.Started) (H : Type) (enc : TypeId × Value → H) :
    ReturnsInHanded {} Try.checked os 3 .any (Rows.tapePlaysSpec.pre6 enc Try.prog Try.f3 Rows.tapePlaysRow.domain false) (Rows.tapePlaysSpec.post enc Try.prog Try.f3 false true false false) := by
  refine returnsInHanded_of_change (C := Try.checked) own started (by kernel_rfl) Try.func3
    (ChangeSpec.witness6 (enc := enc) (C := Try.checked) false ⟨#[], #[.slice none 0 0, .slice none 0 0, .slice none 0 0], []⟩ 8 (by kernel_rfl) (by kernel_rfl) (by kernel_rfl) (by kernel_rfl)) ?_
  intro W base args ds gs before hval0 hW hcnd _
  have hval : ∀ (j : Nat) t v, Try.f3.params[j]? = some t → args[j]? = some v → Value.okWide Try.prog W .any base t v := hval0
  have hW' := hW
  obtain ⟨p, q, hA0, hV, rfl, hfz, hnd⟩ := hW
  have hA : DataW.TrodAll enc Try.prog W 0 (fun _ => true) true Try.f3.params.toList args.toList ds p := hA0
  rw [Try.params3] at hA hval
  obtain ⟨v0, vs0, d0, ds0, p0, q0, hargs, rfl, rfl, h0, r0⟩ := trodAll_cons hA
  obtain ⟨v1, vs1, d1, ds1, p1, q1, rfl, rfl, rfl, h1, r1⟩ := trodAll_cons r0
  obtain ⟨v2, vs2, d2, ds2, p2, q2, rfl, rfl, rfl, h2, r2⟩ := trodAll_cons r1
  obtain ⟨rfl, rfl, rfl⟩ := trodAll_nil r2
  obtain rfl : args = #[v0, v1, v2] := by cases args; simp_all
  obtain ⟨rfl, rfl⟩ := trodVars_none hV
  obtain ⟨a0, len0, cap0, rfl⟩ := okWide_slice Try.underlying22 (hval 0 22 v0 rfl rfl)
  have k0 := h0
  have lt0 : ∀ x ∈ p0, x.block < W.heap.size := by obtain ⟨m, hm⟩ := k0; exact DataW.trod_lt m _ _ _ hm
  obtain ⟨z0, w0⟩ : ∃ zs, IsRow .u8 W a0 len0 cap0 zs := by
    obtain ⟨fuel, hf⟩ := h0
    rcases open_ints Try.underlying22 Try.underlying5 (by kernel_rfl) hf with ⟨hcs, _⟩ | ⟨x, l, c, zs, hcs, _, hl, hm, hz, _, hcell, hwz⟩
    · simp [Value.cells] at hcs
      obtain ⟨rfl, rfl, rfl⟩ := hcs
      exact ⟨[], .inl ⟨rfl, rfl, rfl, rfl⟩⟩
    · simp [Value.cells] at hcs
      obtain ⟨rfl, rfl, rfl⟩ := hcs
      exact ⟨zs, .inr ⟨_, rfl, hl, hm, by simpa using hz, hcell, hwz⟩⟩
  obtain ⟨a1, len1, cap1, rfl⟩ := okWide_slice Try.underlying23 (hval 1 23 v1 rfl rfl)
  have k1 := h1
  have lt1 : ∀ x ∈ p1, x.block < W.heap.size := by obtain ⟨m, hm⟩ := k1; exact DataW.trod_lt m _ _ _ hm
  obtain ⟨z1, w1⟩ : ∃ zs, IsRow .i64 W a1 len1 cap1 zs := by
    obtain ⟨fuel, hf⟩ := h1
    rcases open_ints Try.underlying23 Try.underlying3 (by kernel_rfl) hf with ⟨hcs, _⟩ | ⟨x, l, c, zs, hcs, _, hl, hm, hz, _, hcell, hwz⟩
    · simp [Value.cells] at hcs
      obtain ⟨rfl, rfl, rfl⟩ := hcs
      exact ⟨[], .inl ⟨rfl, rfl, rfl, rfl⟩⟩
    · simp [Value.cells] at hcs
      obtain ⟨rfl, rfl, rfl⟩ := hcs
      exact ⟨zs, .inr ⟨_, rfl, hl, hm, by simpa using hz, hcell, hwz⟩⟩
  obtain ⟨a2, len2, cap2, rfl⟩ := okWide_slice Try.underlying23 (hval 2 23 v2 rfl rfl)
  have k2 := h2
  have lt2 : ∀ x ∈ p2, x.block < W.heap.size := by obtain ⟨m, hm⟩ := k2; exact DataW.trod_lt m _ _ _ hm
  obtain ⟨z2, w2⟩ : ∃ zs, IsRow .i64 W a2 len2 cap2 zs := by
    obtain ⟨fuel, hf⟩ := h2
    rcases open_ints Try.underlying23 Try.underlying3 (by kernel_rfl) hf with ⟨hcs, _⟩ | ⟨x, l, c, zs, hcs, _, hl, hm, hz, _, hcell, hwz⟩
    · simp [Value.cells] at hcs
      obtain ⟨rfl, rfl, rfl⟩ := hcs
      exact ⟨[], .inl ⟨rfl, rfl, rfl, rfl⟩⟩
    · simp [Value.cells] at hcs
      obtain ⟨rfl, rfl, rfl⟩ := hcs
      exact ⟨zs, .inr ⟨_, rfl, hl, hm, by simpa using hz, hcell, hwz⟩⟩
  clear hA0 hval0
  refine (walk a0 len0 cap0 z0 a1 len1 cap1 z1 a2 len2 cap2 z2 W w0 w1 w2).mono fun e W' ⟨he, bel⟩ => ?_
  subst he
  exact ⟨_, rfl, _, _, _, [], _, [], hW', trodAll_mk1 (shut_bool Try.underlying4 _), (trodAll_cons_mk (Below.trod laidOut (by kernel_rfl) (of_decide_eq_true (by kernel_rfl)) k0 bel lt0) (trodAll_cons_mk (Below.trod laidOut (by kernel_rfl) (of_decide_eq_true (by kernel_rfl)) k1 bel lt1) (trodAll_cons_mk (Below.trod laidOut (by kernel_rfl) (of_decide_eq_true (by kernel_rfl)) k2 bel lt2) trodAll_mk0))), rfl, bel.frame _, fun h => by cases h⟩

theorem over : Rows.tapePlaysRow.holds Try.pinned (OpenSpec.ofChange Rows.tapePlaysSpec) :=
  OpenClaim.holds_of_wide 3 Try.f3 rfl rfl rfl rfl rfl rfl rfl ⟨rfl, rfl, rfl, rfl, rfl⟩ rfl rfl rfl rfl rfl (by kernel_rfl) Try.func3 (by kernel_rfl)
    (of_decide_eq_true (by kernel_rfl)) (by unfold Func.isWrapper; first | (rw [if_pos (by decide +kernel)]; kernel_rfl) | (rw [if_neg (by decide +kernel)]; exact ⟨rfl, rfl⟩))
    (fun os started H enc _ => lifted os started H enc)

/-- THE STATEMENT -/
theorem proved : Rows.TapePlaysSaid := over
#print axioms proved
end Go.Proofs.Ytbnncaljekifdaa.tapePlays

