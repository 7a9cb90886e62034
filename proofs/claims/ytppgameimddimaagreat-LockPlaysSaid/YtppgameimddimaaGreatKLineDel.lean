/- line.Line: Take and Drop, by the shelf's contract of slices.Delete. -/
import Derived.Test.YtppgameimddimaaGreatKLine
import Derived.Test.YtppgameimddimaaGreatShelf
import Derived.Lib.OwnBridge
namespace Go.Proofs.YtppgameimddimaaGreat
open Go.ChangeShapes Go.WideShapes Go.ChangeAt Go.RowKit
set_option linter.unusedVariables false

def LnDel (w : World) (A : Option Addr) (n c k : Nat) (zs : List Int) (e : Ending) (w' : World) : Prop :=
  e = .returned (.slice A (n - 1) c) ∧ w'.ownsRow 0 3 1 (.slice A (n - 1) c) (n - 1) ((zs.eraseIdx k).map (Value.int .i64)) ∧ Turned (fp A) w w'
theorem ln_del {w : World} {A : Option Addr} {n c k : Nat} {i j : Int} {zs : List Int} (hown : w.ownsRow 0 3 1 (.slice A n c) n (zs.map (Value.int .i64))) (hk : k < n) (hi : i = (k : Nat)) (hj : j = ((k + 1 : Nat) : Int)) :
    Calls Tryz.prog 100 #[.slice A n c, .int .i64 i, .int .i64 j] w (LnDel w A n c k zs) := by
  subst hi
  subst hj
  have hA : Value.slice A n c ≠ .slice none 0 0 := by intro h; injection h with _ h; omega
  obtain ⟨g, cap, hv, _, hlt, hnc, hcm, hlen, hH⟩ := Lib.holds_of_ownsRow hown hA
  injection hv with h1 _ h3
  subst h1; subst h3; subst hlen
  unfold maxLen at hcm
  refine (Tryz.slices_Delete_int g 0 c k (k + 1) zs w hH hnc (by omega) (by omega) (by omega)).mono ?_
  rintro e w' ⟨rfl, q, rfl⟩
  refine ⟨by rw [show zs.length - (k + 1 - k) = zs.length - 1 by omega], ?_, ?_⟩
  · have h := Lib.ownsRow_putRow (q := q) (k := zs.length - 1) (ys := zs.take k ++ zs.drop (k + 1) ++ List.replicate (k + 1 - k) 0) hown (by simp; omega) (by omega)
    have e1 : (zs.take k ++ zs.drop (k + 1) ++ List.replicate (k + 1 - k) 0).take (zs.length - 1) = zs.eraseIdx k := by
      rw [List.eraseIdx_eq_take_drop_succ, List.take_left' (by simp; omega)]
    rw [e1] at h
    exact h
  · refine ⟨rfl, rfl, rfl, by simp [Sort.ahead], fun i hi hn => ?_⟩
    have hne : g ≠ i := fun e => hn (by simp [fp, e])
    simp [Sort.putRow, Sort.mapBlock, Sort.ahead, Array.getElem?_modify, hne]

section
variable {w : World} {b o : Nat} {T : TypeId} {cs : Array Value} {R : Int} {zs : List Int} {A : Option Addr} {c : Nat}
theorem Ln.erase {k : Nat} (h : Ln w b o T cs R zs A c) (hk : k < zs.length) {w1 : World} (hown : w1.ownsRow 0 3 1 (.slice A (zs.length - 1) c) (zs.length - 1) ((zs.eraseIdx k).map (Value.int .i64))) (ht : Turned (fp A) w w1) (e0 : Ending) :
    LnPost w b o T cs R A (zs.eraseIdx k) e0 e0 (w1.setCell ⟨b, o + 1, none⟩ (.slice A (zs.length - 1) c)) := by
  have hc := h.cap
  have hl := h.len
  have hle : (zs.eraseIdx k).length = zs.length - 1 := List.length_eraseIdx_of_lt hk
  refine ⟨rfl, A, c, Ln.store (h.blk.turned ht h.ne) h.room h.ids hle.symm hown h.ne (by omega) (fun e => by have h1 := h.nil e; simp [h1.1] at hk) (fun n hn => h.fit n (List.mem_of_mem_eraseIdx hn)) (by omega), ?_, fun k hk => .inl hk⟩
  exact (ht.mono (fun k hk => .inl (List.mem_cons_of_mem _ hk))).setCell (p := ⟨b, o + 1, none⟩) (.inl List.mem_cons_self) _

theorem ln_hasEq {id : Int} {v : Bool} (h : Ln w b o T cs R zs A c) (hk : plK zs id = v) : Calls Tryz.prog 109 #[.pointer (some ⟨b, o, none⟩), .int .i64 id] w fun e w' => e = .returned (.bool v) ∧ w = w' := hk ▸ ln_has h
theorem ln_takeNil (h : Ln w b o T cs R [] A c) : Calls Tryz.prog 79 #[.pointer (some ⟨b, o, none⟩)] w fun e w' => e = .returned (.tuple #[.int .i64 0, .int .i64 13]) ∧ w = w' := by
  go_enter Tryz.func79, Tryz.ntmps79
  go_wp2_with (go_at_call 107; (with_reducible refine (ln_firstNil h).mono ?_); rintro e w' ⟨rfl, rfl⟩)
  go_ret2
  exact ⟨rfl, rfl⟩
theorem ln_takeCons {x : Int} (h : Ln w b o T cs R (x :: zs) A c) : Calls Tryz.prog 79 #[.pointer (some ⟨b, o, none⟩)] w (LnPost w b o T cs R A zs (.returned (.tuple #[.int .i64 x, .int .i64 0]))) := by
  have c1 := (h.blk.cell (o + 1)).trans h.ids
  have hd := ln_del (k := 0) h.own (by simp) (i := 0) (j := 1) (by simp) (by simp)
  simp only [List.length_cons] at c1 hd
  have hids := h.ids
  go_enter Tryz.func79, Tryz.ntmps79
  go_wp2_with (first | (go_at_call 107; (with_reducible refine (ln_firstCons h).mono ?_); rintro e w' ⟨rfl, rfl⟩) | (go_at_call 100; (with_reducible refine hd.mono ?_); rintro e w1 ⟨rfl, hown, ht⟩; have hb1 := h.blk.turned ht h.ne; have d1 := (hb1.cell (o + 1)).trans hids; have d2 := hb1.frozen (o + 1)))
  go_ret2
  exact h.erase (by simp) hown ht _
theorem ln_dropNot {id : Int} (h : Ln w b o T cs R zs A c) (hk : plK zs id = false) : Calls Tryz.prog 71 #[.pointer (some ⟨b, o, none⟩), .int .i64 id] w fun e w' => e = .returned (.bool false) ∧ w = w' := by
  go_enter Tryz.func71, Tryz.ntmps71
  go_wp2_with (go_at_call 99; (with_reducible refine (ln_place h).mono ?_); rintro e w' ⟨rfl, rfl⟩)
  go_ret
  exact ⟨rfl, rfl⟩
theorem ln_dropYes {id : Int} (h : Ln w b o T cs R zs A c) (hk : plK zs id = true) : Calls Tryz.prog 71 #[.pointer (some ⟨b, o, none⟩), .int .i64 id] w (LnPost w b o T cs R A (zs.eraseIdx (plN zs id)) (.returned (.bool true))) := by
  have c1 := (h.blk.cell (o + 1)).trans h.ids
  have hlt := plN_lt hk
  have hlen := h.len
  obtain ⟨k, Hk⟩ : ∃ k, Hid (plN zs id = k) := ⟨_, rfl⟩
  have hlt : k < zs.length := Hk.out ▸ hlt
  have hd := ln_del (k := k) h.own hlt (i := (k : Int)) (j := (k : Int) + 1) rfl (by omega)
  have hp := ln_place (id := id) h
  rw [Hk.out, hk] at hp
  rw [Hk.out]
  have hids := h.ids
  clear hk
  go_enter Tryz.func71, Tryz.ntmps71
  go_wp2_with (first | (go_at_call 99; (with_reducible refine hp.mono ?_); rintro e w' ⟨rfl, rfl⟩) | (go_at_call 100; (with_reducible refine hd.mono ?_); rintro e w1 ⟨rfl, hown, ht⟩; have hb1 := h.blk.turned ht h.ne; have d1 := (hb1.cell (o + 1)).trans hids; have d2 := hb1.frozen (o + 1)))
  go_ret
  exact h.erase hlt hown ht _
end
end Go.Proofs.YtppgameimddimaaGreat
