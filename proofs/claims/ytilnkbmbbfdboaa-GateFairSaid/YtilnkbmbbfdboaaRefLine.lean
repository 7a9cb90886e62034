/- swingbridgeref2.Line: what it is on the heap; NewLine, Put, Take, Drop; Without. -/
import Derived.Test.YtilnkbmbbfdboaaRefInts
import Derived.IntWalk
import Derived.Deep.RegionLaw
namespace Go.Proofs.Ytilnkbmbbfdboaa
open Go.ChangeShapes Go.WideShapes Go.ChangeAt Go.RowKit
set_option linter.unusedVariables false

/-- a slice of numbers somewhere, that is only read -/
structure Rd (w : World) (A : Option Addr) (n c : Nat) (zs : List Int) : Prop where
  row : Lies w.heap.size w A (zs.map (Value.int .i64))
  len : n = zs.length
  cap : zs.length ≤ c ∧ c ≤ maxLen
  nil : A = none → zs = [] ∧ c = 0
  fit : ∀ n ∈ zs, I64 n
  fps : ∀ k ∈ fp A, k < w.heap.size
  spot : ∀ a, A = some a → a.spot = none
section
variable {w w' : World} {A : Option Addr} {n c : Nat} {zs : List Int} {F : List Nat}
theorem Rd.turned (h : Rd w A n c zs) (ht : Turned F w w') (hF : ∀ k ∈ fp A, k ∉ F) : Rd w' A n c zs :=
  ⟨(h.row.turned ht hF).mono ht.size, h.len, h.cap, h.nil, h.fit, fun k hk => Nat.lt_of_lt_of_le (h.fps k hk) ht.size, h.spot⟩
theorem Rd.r (h : Rd w A n c zs) : Row w .i64 A zs := h.row.row
theorem Rd.of_own {B : Nat} (h : OwnInts B w A n c zs) (hf : ∀ n ∈ zs, I64 n) : Rd w A n c zs := by
  obtain ⟨h1, rfl, h2, h3, h4⟩ := h
  refine ⟨Lies.of_own h1, rfl, ⟨h2, h3⟩, fun e => ⟨List.eq_nil_of_length_eq_zero (h4 e).1, (h4 e).2⟩, hf, fun k hk => (own_fp h1 k hk).2, fun a ha => ?_⟩
  subst ha
  rcases h1.2 with ⟨hv, _⟩ | ⟨g, cap, cur, hv, _⟩
  · cases hv
  · injection hv with e; injection e with e; rw [e]
theorem Rd.one (h : ∀ u ∈ zs.map (Value.int .i64), True) : ∀ u ∈ zs.map (Value.int .i64), u.oneCell' = true := fun u hu => by obtain ⟨n, _, rfl⟩ := List.mem_map.1 hu; rfl
/-- what s[k:] is -/
theorem Rd.cut {g off : Nat} (h : Rd w (some ⟨g, off, none⟩) n c zs) (k : Nat) (hk : k ≤ zs.length) :
    Rd w (if c = k then some ⟨g, off, none⟩ else some ⟨g, off + k, none⟩) (n - k) (c - k) (zs.drop k) := by
  have hl := h.len
  have hc := h.cap
  subst hl
  refine ⟨?_, by simp, by simp; omega, (fun e => by split at e <;> cases e), fun n hn => h.fit n (List.mem_of_mem_drop hn), ?_, ?_⟩
  · rw [List.map_drop]
    by_cases e : c = k
    · rw [if_pos e, List.drop_eq_nil_of_le (by simp; omega)]; exact .inl rfl
    · rw [if_neg e]; exact h.row.drop k
  · intro i hi
    refine h.fps i ?_
    split at hi <;> simpa [fp] using hi
  · intro a ha
    split at ha <;> (injection ha with ha; subst ha; rfl)
end

theorem new_ne {w : World} {b : Nat} {T : TypeId} {cs : Array Value} (hb : Bk w b T cs) {A : Option Addr} (h : ∀ k ∈ fp A, k ∈ fp none ∨ w.heap.size ≤ k) : b ∉ fp A := fun hk => by
  rcases h b hk with h1 | h1
  · simp [fp] at h1
  · have := hb.lt; omega
section
variable {w : World} {A : Option Addr} {c : Nat} {zs : List Int}
def WithoutPost (w : World) (k : Nat) (zs : List Int) (e : Ending) (w' : World) : Prop :=
  ∃ A' n' c', e = .returned (.slice A' n' c') ∧ Rd w' A' n' c' (zs.eraseIdx k) ∧ Turned [] w w' ∧ ∀ i ∈ fp A', w.heap.size ≤ i
theorem without_any {n k : Nat} {i : Int} (h : Rd w A n c zs) (hk : k < zs.length) (hi : i = (k : Nat)) (hl : zs.length ≤ 1000) : Calls Try.prog 23 #[.slice A n c, .int .i64 i] w (WithoutPost w k zs) := by
  subst hi
  obtain rfl := h.len
  obtain ⟨g, off, rfl, hc⟩ := h.r.resolve_left (by intro e; subst e; simp at hk)
  clear hc
  have hcap := h.cap
  have hm := hcap.2
  unfold maxLen at hm
  have hcut := h.cut (k + 1) (by omega)
  have hlies := h.row
  obtain ⟨i0, hi0, hz0, hz1, hz2⟩ := info_parts infoInt
  obtain ⟨A1, hA1, Hcut⟩ : ∃ A1, (if c = k + 1 then some (⟨g, off, none⟩ : Addr) else some ⟨g, off + (k + 1), none⟩) = A1 ∧ Hid (Rd w A1 (zs.length - (k + 1)) (c - (k + 1)) (zs.drop (k + 1))) := ⟨_, rfl, hidp hcut⟩
  clear hcut
  have S1 := hidp (hlies.take k).drew
  have L1 : Hid (((zs.map (Value.int .i64)).take k).length = k * 1) := hidp (by simp; omega)
  have O1 : Hid (∀ u ∈ (zs.map (Value.int .i64)).take k, u.oneCell' = true) := hidp fun u hu => by obtain ⟨n, _, rfl⟩ := List.mem_map.1 (List.mem_of_mem_take hu); rfl
  have M1 : Hid (0 + k ≤ maxLen) := hidp (by unfold maxLen; omega)
  have N1 : Hid ((0 + k) * 8 ≤ 140737488355328) := hidp (by omega)
  have S2 := hidp Hcut.out.row.drew
  have hwr : IntKind.i64.wrap ((k : Int) + 1) = (k : Int) + 1 := IntWalk.i64_in _ (by omega)
  have hw0 : (0 : Int) ≤ (k : Int) + 1 := by omega
  have hw1 : ((k : Int) + 1).toNat = k + 1 := by omega
  have hw2 : (k : Int) + 1 ≤ (zs.length : Int) := by omega
  have P2 : Hid (A1 = none → zs.length - (k + 1) = 0 ∧ c - (k + 1) = 0) := hidp fun e => ⟨by have := (Hcut.out.nil e).1; have h2 := congrArg List.length this; simpa using h2, (Hcut.out.nil e).2⟩
  have L2 : Hid (((zs.drop (k + 1)).map (Value.int .i64)).length = (zs.length - (k + 1)) * 1) := hidp (by simp)
  have O2 : Hid (∀ u ∈ (zs.drop (k + 1)).map (Value.int .i64), u.oneCell' = true) := hidp fun u hu => by obtain ⟨n, _, rfl⟩ := List.mem_map.1 hu; rfl
  have M2 : Hid (k + (zs.length - (k + 1)) ≤ maxLen) := hidp (by unfold maxLen; omega)
  have N2 : Hid ((k + (zs.length - (k + 1))) * 8 ≤ 140737488355328) := hidp (by omega)
  have hn0 := World.ownsRow_nil w.drew w.heap.size 3 1
  have hkc : k ≤ c := by omega
  have hkc1 : k + 1 ≤ c := by omega
  have hkn : k + 1 ≤ zs.length := by omega
  have hfin : Hid (zs.eraseIdx k = zs.take k ++ zs.drop (k + 1)) := hidp (List.eraseIdx_eq_take_drop_succ ..)
  have hfit := hidp h.fit
  have hle : Hid (zs.length - 1 = k + (zs.length - (k + 1))) := hidp (by omega)
  clear h hlies
  go_enter Try.func23, Try.ntmps23
  go_wp2_with fail
  go_region_law (first | ((with_reducible refine step_app2 _ rfl (.const (.slice none 0 0)) (.tmp 7) 30 rfl w.heap.size 3 i0 (.int .i64 0) 1 8 Try.underlying30 hi0 hz0 hz1 hz2 rfl (by decide) none 0 0 [] (by simp [Act.eval]) hn0 _ _ k c _ ?_ (by simp) L1.out S1.out O1.out M1.out N1.out (Nat.le_refl _) ?_); (simp [Act.eval, Act.put]); intro B1 k1 w1 happ; simp only [Nat.zero_add, List.nil_append] at happ; have S3 := hidp (S2.out.turned (w' := w1) happ.turned (by simp [fp])); have Sz : Hid (w.heap.size ≤ w1.heap.size) := hidp happ.turned.size) | ((with_reducible refine step_app2 _ rfl (.tmp 8) (.tmp 12) 30 rfl w.heap.size 3 i0 (.int .i64 0) 1 8 Try.underlying30 hi0 hz0 hz1 hz2 rfl (by decide) B1 k k1 _ ?_ happ.own _ _ (zs.length - (k + 1)) (c - (k + 1)) _ ?_ P2.out L2.out S3.out O2.out M2.out N2.out Sz.out ?_); (simp [Act.eval]); (simp [Act.eval]); intro B2 k2 w2 happ2))
  all_goals
    go_wp2
    go_ret
    refine ⟨B2, _, k2, rfl, Rd.of_own (B := w.heap.size) ⟨?_, ?_, happ2.cap.1, happ2.cap.2, happ2.nil⟩ ?_, ?_, ?_⟩
    · rw [hfin.out]; simpa using happ2.own
    · rw [hfin.out]; simp; omega
    · intro n hn; exact hfit.out n (List.mem_of_mem_eraseIdx hn)
    · exact (((Turned.refl [] w).drew.trans (happ.turned.mono (G := []) (fun k hk => by simp [fp] at hk)) (fun i hi => .inl hi))).trans happ2.turned (fun i hi => by
        rcases happ.fps i hi with h2 | h2
        · simp [fp] at h2
        · right; simpa using h2)
    · intro i hi
      have hs1 := happ.turned.size
      simp at hs1
      rcases happ2.fps i hi with h1 | h1
      · rcases happ.fps i h1 with h2 | h2
        · simp [fp] at h2
        · simpa using h2
      · omega
end
end Go.Proofs.Ytilnkbmbbfdboaa
