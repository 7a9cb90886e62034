/- sorted: Top, Sum (of rows of ints), as the model runs them. -/
import Derived.Test.YtjjlpaampmpdfaaGreatDoorSortMath
import Derived.Test.YtjjlpaampmpdfaaGreatDoorShelf
import Derived.Deep.LoopGhost
import Derived.Deep.QuietTactic
import Derived.BigQuiet
import Derived.Deep.RegionWith
import Derived.Deep.RegionHeld3
import Derived.Deep.RegionLaw
import Derived.IntWalk
import Derived.Sort.OwnSortedInts
import Derived.Lib.OwnBridge
namespace Go.Proofs.YtjjlpaampmpdfaaGreatDoor
set_option maxRecDepth 100000
open Go.ChangeShapes Go.WideShapes Go.ChangeAt Go.RowKit
set_option linter.unusedVariables false

/-! Top -/
theorem infoI64 : (Tryz.prog.info? 3).map (fun i => (i.zero, i.size, i.bytes)) = some (some (.int .i64 0), 1, 8) := by kernel_rfl
def cfD (x y : Int) : Int := Lib.compareInt y x
theorem ltD (x y : Int) : Go.Proofs.ltOf cfD x y = decide (y < x) := by
  unfold Go.Proofs.ltOf cfD Lib.compareInt
  by_cases h1 : y < x
  · simp [h1]
  · by_cases h2 : x < y <;> simp [h1, h2]
theorem swoD : Sort.SWO (Go.Proofs.ltOf cfD) where
  irrefl x := by rw [ltD]; simp
  trans x y z h1 h2 := by rw [ltD] at *; simp at *; omega
  ntrans x y z h1 h2 := by rw [ltD] at *; simp at *; omega
theorem top1_any (x y : Int) (W : World) : Calls Tryz.prog 140 #[.int .i64 x, .int .i64 y] W fun e w' => e = .returned (.int .i64 (cfD x y)) ∧ ∃ q, w' = W.drewN q := by
  have hc := fun w => Tryz.cmp_Compare_int y x w
  unfold cfD
  generalize Lib.compareInt y x = r at hc ⊢
  go_enter Tryz.func140, Tryz.ntmps140
  go_wp2_with (go_at_call 141; (with_reducible refine (hc _).mono ?_); rintro e w' ⟨rfl, rfl⟩)
  go_ret
  exact ⟨rfl, 0, rfl⟩
/-- the numbers, the greatest first -/
def desc (zs : List Int) : List Int := zs.mergeSort fun x y => decide (y ≤ x)
theorem desc_len (zs : List Int) : (desc zs).length = zs.length := (List.mergeSort_perm zs _).length_eq
theorem desc_perm (zs : List Int) : (desc zs).Perm zs := List.mergeSort_perm zs _
theorem desc_srt (zs : List Int) : (desc zs).Pairwise fun a b => b ≤ a := by
  have := List.pairwise_mergeSort (le := fun x y : Int => decide (y ≤ x)) (by intro a b c; simp; omega) (by intro a b; simp; omega) zs
  unfold desc; simpa using this
theorem geD : (fun x y : Int => !Go.Proofs.ltOf cfD y x) = fun x y => decide (y ≤ x) := by
  funext x y
  rw [ltD]
  by_cases h : y ≤ x
  · have h' : ¬ x < y := by omega
    simp [h, h']
  · have h' : x < y := by omega
    simp [h, h']

def SortfPost (A : Option Addr) (w : World) (n c : Nat) (zs : List Int) (e : Ending) (w' : World) : Prop := e = .returned (.tuple #[]) ∧ w'.ownsRow 0 3 1 (.slice A n c) n ((desc zs).map (Value.int .i64)) ∧ Turned (fp A) w w'
theorem sortf_any {w : World} {A : Option Addr} {n c : Nat} {zs : List Int} (hown : w.ownsRow 0 3 1 (.slice A n c) n (zs.map (Value.int .i64))) (hl : n ≤ 1000) :
    Calls Tryz.prog 139 #[.slice A n c, .func (.func 140) #[] #[]] w (SortfPost A w n c zs) := by
  have hlen : zs.length = n := by have := hown.1; simpa using this
  by_cases h0 : n = 0
  · subst h0
    have hz : zs = [] := List.eq_nil_of_length_eq_zero hlen
    subst hz
    refine (Tryz.slices_SortFunc_none (α := Int) A c _ w).mono ?_
    rintro e w' ⟨rfl, rfl⟩
    exact ⟨rfl, by simpa [desc] using hown, Turned.refl _ _⟩
  · have hA : Value.slice A n c ≠ .slice none 0 0 := by intro h; injection h with _ h; omega
    obtain ⟨g, cap, hv, _, hlt, hnc, hcm, _, hH⟩ := Lib.holds_of_ownsRow hown hA
    injection hv with h1 _ h3
    subst h1; subst h3
    have eg : ∀ args w, (callFunc 140 args).run Tryz.prog w = .ok (.enter 140 args) w := enters_of Tryz.func140 (by kernel_rfl) rfl
    have hcr : Go.Proofs.CmpReads Tryz.prog 140 #[] (Value.int .i64) cfD g 0 zs.toArray.size w := fun _ _ _ _ x y => top1_any x y _
    have h := Tryz.slices_SortFunc_total (Value.int .i64) (fun _ => rfl) cfD swoD 140 #[] g 0 c zs.toArray w eg hcr.lays hH hlt (by simp; omega) (fun x y h1 h2 => by rw [ltD] at h1 h2; simp at h1 h2; omega)
    rw [geD] at h
    have hsz : zs.toArray.size = n := by simpa using hlen
    rw [hsz] at h
    refine h.mono ?_
    rintro e w' ⟨rfl, q, os, rfl⟩
    have hg := grownBy_sortedI (w := w) (g := g) (n := q) (os := os) (desc zs).toArray
    refine ⟨rfl, ?_, (Turned.refl _ _).grown hg (fun k hk => by injection hk with hk; subst hk; left; simp [fp])⟩
    rcases hown.2 with ⟨hv, _⟩ | ⟨g', cap', cur, hv, hb, hgg, h5, h6, h7, h8⟩
    · exact absurd hv hA
    · injection hv with e1 _ e3
      injection e1 with e1
      injection e1 with e1
      subst e1; subst e3
      have := ownsRow_sortedI (w := w) (base := 0) (g := g) (cap := c) (n := q) (os := os) (ss := zs) (ts := desc zs) (desc_len zs) (Nat.zero_le _) hgg (by omega) h6 h7
      rw [hlen] at this
      exact this

/-- how many: k, held from 0 to n -/
def clampN (k : Int) (n : Nat) : Nat := (max 0 (min k (n : Int))).toNat
def tops (zs : List Int) (k : Int) : List Int := (desc zs).take (clampN k zs.length)
theorem clampN_le (k : Int) (n : Nat) : clampN k n ≤ n := by unfold clampN; omega
theorem tops_len (zs : List Int) (k : Int) : (tops zs k).length = clampN k zs.length := by
  unfold tops; rw [List.length_take, desc_len]; have := clampN_le k zs.length; omega
def TopPost (w : World) (n : Nat) (zs : List Int) (e : Ending) (w' : World) : Prop := ∃ A c, e = .returned (.slice A n c) ∧ Row w' .i64 A zs ∧ Below w.heap.size w w'
theorem top_any {w : World} {A : Option Addr} {n c : Nat} {zs : List Int} {k : Int} (hr : Row w .i64 A zs) (hn : n = zs.length) (hc : n ≤ c) (hnil : A = none → n = 0 ∧ c = 0) (hl : n ≤ 1000) (hk : I64 k) :
    Calls Tryz.prog 114 #[.slice A n c, .int .i64 k] w (TopPost w (clampN k n) (tops zs k)) := by
  have Hn := hidp hn
  clear hn
  have H1 := hidp hnil
  have H2 : Hid ((zs.map (Value.int .i64)).length = n * 1) := hidp (by simp [Hn.out])
  have H3 := hidp hr.lies
  have H4 : Hid (∀ u ∈ zs.map (Value.int .i64), u.oneCell' = true) := hidp fun u hu => by obtain ⟨n, _, rfl⟩ := List.mem_map.1 hu; rfl
  have H5 : Hid (0 + n ≤ maxLen) := hidp (by unfold maxLen; omega)
  have H6 : Hid ((0 + n) * 8 ≤ 140737488355328) := hidp (by omega)
  obtain ⟨i0, hi0, hz0, hz1, hz2⟩ := info_parts infoI64
  obtain ⟨m, Hm⟩ : ∃ m, Hid (clampN k n = m) := ⟨_, rfl⟩
  have hm : Hid (max 0 (min k (n : Int)) = (m : Int)) := hidp (by have := Hm.out; unfold clampN at this; omega)
  have hmn : m ≤ n := Hm.out ▸ clampN_le k n
  rw [Hm.out]
  have Htop : Hid (tops zs k = (desc zs).take m) := hidp (by unfold tops; rw [← Hn.out, Hm.out])
  unfold I64 at hk
  clear hnil hr
  go_enter Tryz.func114, Tryz.ntmps114
  go_wp2_with (at_builtin; refine wpList_app2 _ rfl (.const (.slice none 0 0)) (.tmp 6) 22 rfl w.heap.size 3 i0 (.int .i64 0) 1 8 Tryz.underlying22 hi0 hz0 hz1 hz2 rfl (by decide) none 0 0 [] rfl (World.ownsRow_nil _ _ _ _) w.heap.size A n c (zs.map (Value.int .i64)) rfl H1.out H2.out H3.out H4.out H5.out H6.out (Nat.le_refl _) ?_; intro A1 c1 w1 happ; simp only [Nat.zero_add, List.nil_append] at happ)
  refine (sortf_any (own_base (base' := 0) happ.own (fun _ _ => Nat.zero_le _)) hl).mono ?_
  rintro e w2 ⟨rfl, ho, ht⟩
  have hbe : Below w.heap.size w w2 := (happ.turned.below (Nat.le_refl _) (by simp [fp])).trans (ht.below happ.turned.size (fun k hk => (happ.fps k hk).elim (fun h => by simp [fp] at h) (fun h => h)))
  have hcap := happ.cap
  have hmc : m ≤ c1 := by omega
  have hcm := hcap.2
  unfold maxLen at hcm
  have hmo : max 0 (min k (n : Int)) = (m : Int) := hm.out
  have hmn2 : (m : Int) ≤ (c1 : Int) := by omega
  have hm0 : (0 : Int) ≤ (m : Int) := by omega
  go_wp2_with fail
  go_ret
  refine ⟨A1, m, rfl, ?_, hbe⟩
  rw [Htop.out]
  have hr2 := Lies.row (B := w2.heap.size) (Lies.of_own ho)
  rcases hr2 with h | ⟨g, off, e, hcl⟩
  · rw [h]; exact .inl (by simp)
  · refine .inr ⟨g, off, e, fun j hj => ?_⟩
    have hj2 : j < (desc zs).length := by simp at hj; omega
    have hj3 : j < m := by simp at hj; omega
    have := hcl j hj2
    rw [this]
    simp [List.getD, hj3]

/-- the sum, as ints go round -/
def sumW (l : List Int) : Int := l.foldl (fun a x => wrap64 (a + x)) 0
theorem sumW_snoc (l : List Int) (k : Nat) (h : k < l.length) : sumW (l.take (k + 1)) = wrap64 (sumW (l.take k) + l.getD k 0) := by
  unfold sumW; rw [take_snoc l k h, List.foldl_append]; rfl
theorem sumW_i64 (l : List Int) : I64 (sumW l) := by
  induction l using snoc_ind with
  | nil => decide
  | snoc m x ih => unfold sumW; rw [List.foldl_append]; exact i64_of (wrap64_wf _)
theorem ssum_any {w : World} {A : Option Addr} {n c : Nat} {zs : List Int} {k : Int} (hr : Row w .i64 A zs) (hn : n = zs.length) (hc : n ≤ c) (hnil : A = none → n = 0 ∧ c = 0) (hl : n ≤ 1000) (hk : I64 k) (hf : ∀ n ∈ zs, I64 n) :
    Calls Tryz.prog 82 #[.slice A n c, .int .i64 k] w fun e w' => e = .returned (.int .i64 (sumW (tops zs k))) ∧ Below w.heap.size w w' := by
  have hfit := hidp (fun x (hx : x ∈ tops zs k) => hf x ((desc_perm zs).mem_iff.1 (List.mem_of_mem_take hx)))
  have Ht := hidp (tops_len zs k)
  rw [← hn] at Ht
  have Hn := hidp hn
  clear hn
  have Hnil := hidp hnil
  clear hnil
  have Hf := hidp hf
  clear hf
  go_enter Tryz.func82, Tryz.ntmps82
  go_wp2_with fail
  refine (top_any hr Hn.out hc Hnil.out hl hk).mono ?_
  rintro e w1 ⟨A1, c1, rfl, hr1, hb1⟩
  obtain ⟨ts, Hts⟩ : ∃ ts, Hid (tops zs k = ts) := ⟨_, rfl⟩
  obtain ⟨m, Hm⟩ : ∃ m, Hid (clampN k n = m) := ⟨_, rfl⟩
  have hm1000 : m ≤ 1000 := by have := Hm.out; have := clampN_le k n; omega
  rw [Hts.out] at hr1 hfit Ht
  rw [Hm.out] at Ht ⊢
  clear hr hc hk
  go_wp2_with fail
  go_loopg [5, 12] m (fun g s i wr => ∃ k : Nat, k + g = m ∧ i = .int .i64 k ∧ s = .int .i64 (sumW (ts.take k)) ∧ w1 = wr)
  case atStart => exact ⟨0, by omega, rfl, by simp [sumW], rfl⟩
  case round =>
    obtain ⟨k, hk, rfl, rfl, rfl⟩ := hrel
    by_cases hlt : k < m
    · have hkt : k < ts.length := by rw [Ht.out]; exact hlt
      obtain ⟨g, off, rfl, hcl⟩ := hr1.resolve_left (by intro e; subst e; simp at hkt)
      obtain ⟨x, HX⟩ : ∃ x, Hid (ts.getD k 0 = x) := ⟨_, rfl⟩
      have ck : w1.cell? ⟨g, off + k, none⟩ = some (.int .i64 x) := HX.out ▸ hcl k hkt
      have H1 := hidp (sumW_snoc ts k hkt)
      rw [HX.out] at H1
      obtain ⟨s, Hs⟩ : ∃ s, Hid (sumW (ts.take k) = s) := ⟨_, rfl⟩
      rw [Hs.out] at H1 ⊢
      clear hcl hr1
      go_wp2
      go_roundg (gk - 1)
      case measure => omega
      case rel => exact ⟨k + 1, by omega, by go_num, by rw [H1.out], rfl⟩
    · obtain rfl : k = m := by omega
      have H1 : Hid (ts.take k = ts) := hidp (List.take_of_length_le (by rw [Ht.out]; exact Nat.le_refl _))
      rw [H1.out]
      go_wp2
      go_ret
      exact ⟨ret_int (by rw [Hts.out]), hb1⟩
end Go.Proofs.YtjjlpaampmpdfaaGreatDoor
