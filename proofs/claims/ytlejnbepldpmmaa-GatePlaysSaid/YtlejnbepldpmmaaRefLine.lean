/- swingbridgeref2.Line: what it is on the heap; NewLine, Put, Take, Drop; Without. -/
import Derived.Test.YtlejnbepldpmmaaRefInts
import Derived.IntWalk
import Derived.Deep.RegionLaw
namespace Go.Proofs.Ytlejnbepldpmmaa
open Go.ChangeShapes Go.WideShapes Go.ChangeAt Go.RowKit
set_option linter.unusedVariables false

/-- a slice of numbers somewhere, that is only read -/
structure Rd (w : World) (A : Option Addr) (n c : Nat) (zs : List Int) : Prop where
  row : Lies w.heap.size w A (zs.map (Value.int .i64))
  len : n = zs.length
  cap : zs.length ≤ c ∧ c ≤ maxLen
  nil : A = none → zs = [] ∧ c = 0
  fit : ∀ n ∈ zs, I64 n
  fps : ∀ k ∈ fp A, k < w.heap.size
  spot : ∀ a, A = some a → a.spot = none
section
variable {w w' : World} {A : Option Addr} {n c : Nat} {zs : List Int} {F : List Nat}
theorem Rd.turned (h : Rd w A n c zs) (ht : Turned F w w') (hF : ∀ k ∈ fp A, k ∉ F) : Rd w' A n c zs :=
  ⟨(h.row.turned ht hF).mono ht.size, h.len, h.cap, h.nil, h.fit, fun k hk => Nat.lt_of_lt_of_le (h.fps k hk) ht.size, h.spot⟩
theorem Rd.r (h : Rd w A n c zs) : Row w .i64 A zs := h.row.row
theorem Rd.of_own {B : Nat} (h : OwnInts B w A n c zs) (hf : ∀ n ∈ zs, I64 n) : Rd w A n c zs := by
  obtain ⟨h1, rfl, h2, h3, h4⟩ := h
  refine ⟨Lies.of_own h1, rfl, ⟨h2, h3⟩, fun e => ⟨List.eq_nil_of_length_eq_zero (h4 e).1, (h4 e).2⟩, hf, fun k hk => (own_fp h1 k hk).2, fun a ha => ?_⟩
  subst ha
  rcases h1.2 with ⟨hv, _⟩ | ⟨g, cap, cur, hv, _⟩
  · cases hv
  · injection hv with e; injection e with e; rw [e]
theorem Rd.one (h : ∀ u ∈ zs.map (Value.int .i64), True) : ∀ u ∈ zs.map (Value.int .i64), u.oneCell' = true := fun u hu => by obtain ⟨n, _, rfl⟩ := List.mem_map.1 hu; rfl
/-- what s[k:] is -/
theorem Rd.cut {g off : Nat} (h : Rd w (some ⟨g, off, none⟩) n c zs) (k : Nat) (hk : k ≤ zs.length) :
    Rd w (if c = k then some ⟨g, off, none⟩ else some ⟨g, off + k, none⟩) (n - k) (c - k) (zs.drop k) := by
  have hl := h.len
  have hc := h.cap
  subst hl
  refine ⟨?_, by simp, by simp; omega, (fun e => by split at e <;> cases e), fun n hn => h.fit n (List.mem_of_mem_drop hn), ?_, ?_⟩
  · rw [List.map_drop]
    by_cases e : c = k
    · rw [if_pos e, List.drop_eq_nil_of_le (by simp; omega)]; exact .inl rfl
    · rw [if_neg e]; exact h.row.drop k
  · intro i hi
    refine h.fps i ?_
    split at hi <;> simpa [fp] using hi
  · intro a ha
    split at ha <;> (injection ha with ha; subst ha; rfl)
end

theorem new_ne {w : World} {b : Nat} {T : TypeId} {cs : Array Value} (hb : Bk w b T cs) {A : Option Addr} (h : ∀ k ∈ fp A, k ∈ fp none ∨ w.heap.size ≤ k) : b ∉ fp A := fun hk => by
  rcases h b hk with h1 | h1
  · simp [fp] at h1
  · have := hb.lt; omega
section
variable {w : World} {A : Option Addr} {c : Nat} {zs : List Int}
def WithoutPost (w : World) (k : Nat) (zs : List Int) (e : Ending) (w' : World) : Prop :=
  ∃ A' n' c', e = .returned (.slice A' n' c') ∧ Rd w' A' n' c' (zs.eraseIdx k) ∧ Turned [] w w' ∧ ∀ i ∈ fp A', w.heap.size ≤ i
def WithoutOwn (w : World) (k : Nat) (zs : List Int) (e : Ending) (w' : World) : Prop :=
  ∃ A' n' c', e = .returned (.slice A' n' c') ∧ OwnInts w.heap.size w' A' n' c' (zs.eraseIdx k) ∧ Turned [] w w' ∧ ∀ i ∈ fp A', w.heap.size ≤ i
theorem without_own {n k : Nat} {i : Int} (h : Rd w A n c zs) (hk : k < zs.length) (hi : i = (k : Nat)) (hl : zs.length ≤ 1000) : Calls Try.prog 61 #[.slice A n c, .int .i64 i] w (WithoutOwn w k zs) := by
  subst hi
  obtain rfl := h.len
  obtain ⟨g, off, rfl, hc⟩ := h.r.resolve_left (by intro e; subst e; simp at hk)
  clear hc
  have hcap := h.cap
  have hm := hcap.2
  unfold maxLen at hm
  have hcut := h.cut (k + 1) (by omega)
  have hlies := h.row
  obtain ⟨i0, hi0, hz0, hz1, hz2⟩ := info_parts infoInt
  obtain ⟨A1, hA1, Hcut⟩ : ∃ A1, (if c = k + 1 then some (⟨g, off, none⟩ : Addr) else some ⟨g, off + (k + 1), none⟩) = A1 ∧ Hid (Rd w A1 (zs.length - (k + 1)) (c - (k + 1)) (zs.drop (k + 1))) := ⟨_, rfl, hidp hcut⟩
  clear hcut
  have S1 := hidp (hlies.take k).drew
  have L1 : Hid (((zs.map (Value.int .i64)).take k).length = k * 1) := hidp (by simp; omega)
  have O1 : Hid (∀ u ∈ (zs.map (Value.int .i64)).take k, u.oneCell' = true) := hidp fun u hu => by obtain ⟨n, _, rfl⟩ := List.mem_map.1 (List.mem_of_mem_take hu); rfl
  have M1 : Hid (0 + k ≤ maxLen) := hidp (by unfold maxLen; omega)
  have N1 : Hid ((0 + k) * 8 ≤ 140737488355328) := hidp (by omega)
  have S2 := hidp Hcut.out.row.drew
  have hwr : IntKind.i64.wrap ((k : Int) + 1) = (k : Int) + 1 := IntWalk.i64_in _ (by omega)
  have hw0 : (0 : Int) ≤ (k : Int) + 1 := by omega
  have hw1 : ((k : Int) + 1).toNat = k + 1 := by omega
  have hw2 : (k : Int) + 1 ≤ (zs.length : Int) := by omega
  have P2 : Hid (A1 = none → zs.length - (k + 1) = 0 ∧ c - (k + 1) = 0) := hidp fun e => ⟨by have := (Hcut.out.nil e).1; have h2 := congrArg List.length this; simpa using h2, (Hcut.out.nil e).2⟩
  have L2 : Hid (((zs.drop (k + 1)).map (Value.int .i64)).length = (zs.length - (k + 1)) * 1) := hidp (by simp)
  have O2 : Hid (∀ u ∈ (zs.drop (k + 1)).map (Value.int .i64), u.oneCell' = true) := hidp fun u hu => by obtain ⟨n, _, rfl⟩ := List.mem_map.1 hu; rfl
  have M2 : Hid (k + (zs.length - (k + 1)) ≤ maxLen) := hidp (by unfold maxLen; omega)
  have N2 : Hid ((k + (zs.length - (k + 1))) * 8 ≤ 140737488355328) := hidp (by omega)
  have hn0 := World.ownsRow_nil w.drew w.heap.size 3 1
  have hkc : k ≤ c := by omega
  have hkc1 : k + 1 ≤ c := by omega
  have hkn : k + 1 ≤ zs.length := by omega
  have hfin : Hid (zs.eraseIdx k = zs.take k ++ zs.drop (k + 1)) := hidp (List.eraseIdx_eq_take_drop_succ ..)
  have hfit := hidp h.fit
  have hle : Hid (zs.length - 1 = k + (zs.length - (k + 1))) := hidp (by omega)
  clear h hlies
  go_enter Try.func61, Try.ntmps61
  go_wp2_with fail
  go_region_law (first | ((with_reducible refine step_app2 _ rfl (.const (.slice none 0 0)) (.tmp 7) 46 rfl w.heap.size 3 i0 (.int .i64 0) 1 8 Try.underlying46 hi0 hz0 hz1 hz2 rfl (by decide) none 0 0 [] (by simp [Act.eval]) hn0 _ _ k c _ ?_ (by simp) L1.out S1.out O1.out M1.out N1.out (Nat.le_refl _) ?_); (simp [Act.eval, Act.put]); intro B1 k1 w1 happ; simp only [Nat.zero_add, List.nil_append] at happ; have S3 := hidp (S2.out.turned (w' := w1) happ.turned (by simp [fp])); have Sz : Hid (w.heap.size ≤ w1.heap.size) := hidp happ.turned.size) | ((with_reducible refine step_app2 _ rfl (.tmp 8) (.tmp 12) 46 rfl w.heap.size 3 i0 (.int .i64 0) 1 8 Try.underlying46 hi0 hz0 hz1 hz2 rfl (by decide) B1 k k1 _ ?_ happ.own _ _ (zs.length - (k + 1)) (c - (k + 1)) _ ?_ P2.out L2.out S3.out O2.out M2.out N2.out Sz.out ?_); (simp [Act.eval]); (simp [Act.eval]); intro B2 k2 w2 happ2))
  all_goals
    go_wp2
    go_ret
    refine ⟨B2, _, k2, rfl, ⟨?_, ?_, happ2.cap.1, happ2.cap.2, happ2.nil⟩, ?_, ?_⟩
    · rw [hfin.out]; simpa using happ2.own
    · rw [hfin.out]; simp; omega
    · exact (((Turned.refl [] w).drew.trans (happ.turned.mono (G := []) (fun k hk => by simp [fp] at hk)) (fun i hi => .inl hi))).trans happ2.turned (fun i hi => by
        rcases happ.fps i hi with h2 | h2
        · simp [fp] at h2
        · right; simpa using h2)
    · intro i hi
      have hs1 := happ.turned.size
      simp at hs1
      rcases happ2.fps i hi with h1 | h1
      · rcases happ.fps i h1 with h2 | h2
        · simp [fp] at h2
        · simpa using h2
      · omega
theorem without_any {n k : Nat} {i : Int} (h : Rd w A n c zs) (hk : k < zs.length) (hi : i = (k : Nat)) (hl : zs.length ≤ 1000) : Calls Try.prog 61 #[.slice A n c, .int .i64 i] w (WithoutPost w k zs) :=
  (without_own h hk hi hl).mono fun e w' ⟨A', n', c', he, ho, ht, hf⟩ => ⟨A', n', c', he, Rd.of_own ho (fun n hn => h.fit n (List.mem_of_mem_eraseIdx hn)), ht, hf⟩
end
/-- a line of the reference in block b -/
structure Rf (w : World) (b : Nat) (R : Int) (zs : List Int) (A : Option Addr) (c : Nat) : Prop where
  blk : Bk w b 48 #[.slice A zs.length c, .int .i64 R]
  rd : Rd w A zs.length c zs
  ne : b ∉ fp A
  len : (zs.length : Int) ≤ R ∧ R ≤ 64
def RfPost (w : World) (b : Nat) (R : Int) (A : Option Addr) (zs : List Int) (e0 : Ending) (e : Ending) (w' : World) : Prop :=
  e = e0 ∧ ∃ A' c', Rf w' b R zs A' c' ∧ Turned [b] w w' ∧ ∀ k ∈ fp A', k ∈ fp A ∨ w.heap.size ≤ k
theorem Rf.turned {w w' : World} {b : Nat} {R : Int} {A : Option Addr} {c : Nat} {zs : List Int} {F : List Nat} (h : Rf w b R zs A c) (ht : Turned F w w') (hb : b ∉ F) (hF : ∀ k ∈ fp A, k ∉ F) : Rf w' b R zs A c :=
  ⟨h.blk.turned ht hb, h.rd.turned ht hF, h.ne, h.len⟩
theorem Rf.store {w : World} {b : Nat} {R : Int} {zs : List Int} {A : Option Addr} {c n : Nat} {v : Value} (hb : Bk w b 48 #[v, .int .i64 R]) (hr : Rd w A n c zs) (hne : b ∉ fp A) (hl : (zs.length : Int) ≤ R ∧ R ≤ 64) :
    Rf (w.setCell ⟨b, 0, none⟩ (.slice A n c)) b R zs A c := by
  obtain rfl := hr.len
  exact ⟨hb.put 0 _, hr.turned (F := [b]) ((Turned.refl _ _).setCell (p := ⟨b, 0, none⟩) (.inl (by simp)) _) (fun k hk hm => by simp at hm; subst hm; exact hne hk), hne, hl⟩

theorem newline_any (n : Int) (w : World) (hn : I64 n) :
    Calls Try.prog 15 #[.int .i64 n] w fun e w' => e = .returned (.pointer (some ⟨w.heap.size, 0, none⟩)) ∧ w' = w.alloc (.cells #[.slice none 0 0, .int .i64 (heldR n)] 48) := by
  unfold I64 at hn
  have H1 := hidp (show 64 < n → heldR n = 64 by intro h; unfold heldR; rw [if_neg (by omega), if_pos h])
  have H2 := hidp (show n ≤ 64 → 0 < n → heldR n = n by intro h g; unfold heldR; rw [if_neg (by omega), if_neg (by omega)])
  have H3 := hidp (show n ≤ 0 → heldR n = 0 by intro h; unfold heldR; rw [if_pos h])
  go_enter Try.func15, Try.ntmps15
  go_wp2
  · go_ret; exact ⟨rfl, by rw [H1.out (by assumption)]⟩
  · go_ret; exact ⟨rfl, by rw [H2.out (by assumption) (by assumption)]⟩
  · go_ret; exact ⟨rfl, by rw [H3.out (by assumption)]⟩
theorem Rf.new (w : World) (n : Int) : Rf (w.alloc (.cells #[.slice none 0 0, .int .i64 (heldR n)] 48)) w.heap.size (heldR n) [] none 0 :=
  ⟨Bk.new _ _ _, ⟨.inl rfl, rfl, by decide, fun _ => ⟨rfl, rfl⟩, by simp, by simp [fp], by simp⟩, by simp [fp], by have := heldR_bd n; simp; omega⟩

section
variable {w : World} {b : Nat} {R : Int} {zs : List Int} {A : Option Addr} {c : Nat}
theorem rput_full {id : Int} (h : Rf w b R zs A c) (hf : R ≤ (zs.length : Int)) : Calls Try.prog 17 #[.pointer (some ⟨b, 0, none⟩), .int .i64 id] w fun e w' => e = .returned (.int .i64 12) ∧ Qt w w' := by
  have c0 := h.blk.cell 0
  have c1 := h.blk.cell 1
  simp only [List.getElem?_toArray, List.getElem?_cons_zero, List.getElem?_cons_succ] at c0 c1
  have hl := h.len
  have hd : decide (R ≤ (zs.length : Int)) = true := by simpa using hf
  clear h
  go_enter Try.func17, Try.ntmps17
  go_wp2
  go_quiet (fail)
  go_wp2
  go_ret
  exact ⟨rfl, _, rfl⟩
theorem rput_ok {id : Int} (h : Rf w b R zs A c) (hf : (zs.length : Int) < R) (hi : I64 id) : Calls Try.prog 17 #[.pointer (some ⟨b, 0, none⟩), .int .i64 id] w (RfPost w b R A (zs ++ [id]) (.returned (.int .i64 0))) := by
  have c0 := h.blk.cell 0
  have c1 := h.blk.cell 1
  simp only [List.getElem?_toArray, List.getElem?_cons_zero, List.getElem?_cons_succ] at c0 c1
  have hne : decide (R ≤ (zs.length : Int)) = false := by simp; omega
  have hl := h.len
  obtain ⟨i0, hi0, hz0, hz1, hz2⟩ := info_parts infoInt
  have Hnil : Hid (A = none → zs.length = 0 ∧ c = 0) := hidp fun e => ⟨by rw [(h.rd.nil e).1]; rfl, (h.rd.nil e).2⟩
  have Hlen : Hid ((zs.map (Value.int .i64)).length = zs.length * 1) := hidp (by simp)
  have H1 : Hid (∀ u ∈ zs.map (Value.int .i64), u.oneCell' = true) := hidp fun u hu => by obtain ⟨n, _, rfl⟩ := List.mem_map.1 hu; rfl
  have H5 : Hid (0 + zs.length ≤ maxLen) := hidp (by unfold maxLen; omega)
  have H6 : Hid ((0 + zs.length) * 8 ≤ 140737488355328) := hidp (by omega)
  have K1 : Hid (∀ u ∈ [Value.int .i64 id], u.oneCell' = true) := hidp (by simp; rfl)
  have K5 : Hid (zs.length + 1 ≤ maxLen) := hidp (by unfold maxLen; omega)
  have K6 : Hid ((zs.length + 1) * 8 ≤ 140737488355328) := hidp (by omega)
  have hblk := h.blk
  have Hrow := hidp h.rd.row
  go_enter Try.func17, Try.ntmps17
  go_wp2
  go_quiet (fail)
  have Hrow2 := hidp (Hrow.out.drewN nq)
  have hblk2 := hblk.drewN nq
  have hn0 := World.ownsRow_nil (w.drewN nq) (w.drewN nq).heap.size 3 1
  go_wp2_with (first | (at_builtin; refine wpList_app2 _ rfl (.const (.slice none 0 0)) (.tmp 19) 46 rfl (w.drewN nq).heap.size 3 i0 (.int .i64 0) 1 8 Try.underlying46 hi0 hz0 hz1 hz2 rfl (by decide) none 0 0 [] rfl hn0 _ _ zs.length c (zs.map (Value.int .i64)) rfl Hnil.out Hlen.out Hrow2.out H1.out H5.out H6.out (Nat.le_refl _) ?_; intro A1 k1 w1 happ; simp only [Nat.zero_add, List.nil_append] at happ; have hx := new_ne hblk2 happ.fps; have hb1 := hblk2.turned happ.turned (by simp [fp]); have hown2 := happ.own.alloc (.cells #[.int .i64 id] 3); have L1 := hidp (Lies.new1 w1 (.int .i64 id) 3); have Hsz : Hid ((w.drewN nq).heap.size ≤ (w1.alloc (.cells #[.int .i64 id] 3)).heap.size) := hidp (Nat.le_trans happ.turned.size (by simp))) | (at_builtin; go_loud (refine wpList_app2 _ rfl (.tmp 20) (.tmp 22) 46 rfl (w.drewN nq).heap.size 3 i0 (.int .i64 0) 1 8 Try.underlying46 hi0 hz0 hz1 hz2 rfl (by decide) A1 zs.length k1 (zs.map (Value.int .i64)) rfl hown2 _ _ 1 1 [.int .i64 id] rfl (by simp) rfl L1.out K1.out K5.out K6.out Hsz.out ?_); intro A2 k2 w2 happ2; have hb2 := (hb1.alloc (.cells #[.int .i64 id] 3)).turned happ2.turned hx; have d1 := hb2.cell 0; have d2 := hb2.frozen 0; simp only [List.getElem?_toArray, List.getElem?_cons_zero] at d1))
  go_ret
  have hs1 := happ.turned.size
  have hs2 := happ2.turned.size
  simp at hs1 hs2
  have hlt := h.blk.lt
  have hfp2 : ∀ k ∈ fp A2, w.heap.size ≤ k := fun k hk => by
    rcases happ2.fps k hk with h1 | h1
    · rcases happ.fps k h1 with h2 | h2
      · simp [fp] at h2
      · simpa using h2
    · simp at h1; omega
  have hrd : Rd w2 A2 (zs.length + 1) k2 (zs ++ [id]) := by
    refine Rd.of_own (B := (w.drewN nq).heap.size) ⟨by simpa using happ2.own, by simp, happ2.cap.1, happ2.cap.2, happ2.nil⟩ ?_
    intro n hn
    rcases List.mem_append.1 hn with h1 | h1
    · exact h.rd.fit n h1
    · simp at h1; subst h1; exact hi
  refine ⟨rfl, A2, k2, Rf.store hb2 hrd (fun hk => by have := hfp2 b hk; omega) (by simp; omega), ?_, fun k hk => .inr (hfp2 k hk)⟩
  have t1 : Turned [b] w w1 := ((Turned.refl [b] w).drewN nq).trans (happ.turned.mono (G := [b]) (fun k hk => by simp [fp] at hk)) (fun i hi => .inl hi)
  have t2 : Turned [b] w w2 := ((t1.alloc (.cells #[.int .i64 id] 3)).trans happ2.turned (fun i hi => by
    rcases happ.fps i hi with h2 | h2
    · simp [fp] at h2
    · right; simpa using h2))
  exact t2.setCell (p := ⟨b, 0, none⟩) (.inl (by simp)) _
theorem rtake_nil (h : Rf w b R [] A c) : Calls Try.prog 19 #[.pointer (some ⟨b, 0, none⟩)] w fun e w' => e = .returned (.tuple #[.int .i64 0, .int .i64 13]) ∧ w = w' := by
  have c0 := h.blk.cell 0
  simp only [List.getElem?_toArray, List.getElem?_cons_zero, List.length_nil] at c0
  go_enter Try.func19, Try.ntmps19
  go_wp2
  go_ret2
  exact ⟨rfl, rfl⟩
theorem rtake_cons {x : Int} (h : Rf w b R (x :: zs) A c) : Calls Try.prog 19 #[.pointer (some ⟨b, 0, none⟩)] w (RfPost w b R A zs (.returned (.tuple #[.int .i64 x, .int .i64 0]))) := by
  have c0 := h.blk.cell 0
  have f0 := h.blk.frozen 0
  simp only [List.getElem?_toArray, List.getElem?_cons_zero, List.length_cons] at c0
  obtain ⟨g, off, rfl, hc⟩ := h.rd.r.resolve_left (by simp)
  have c2 := hc 0 (by simp)
  simp only [Nat.add_zero, List.getD_cons_zero] at c2
  have hl := h.len
  have hcap := h.rd.cap
  simp only [List.length_cons] at hl hcap
  have hm := hcap.2
  unfold maxLen at hm
  have hcut := h.rd.cut 1 (by simp)
  have hlt := h.blk.lt
  have hne := h.ne
  have hp := h.rd.fps
  clear hc
  obtain ⟨A1, hA1, Hcut, hx, hy⟩ : ∃ A1, (if c = 1 then some (⟨g, off, none⟩ : Addr) else some ⟨g, off + 1, none⟩) = A1 ∧ Hid (Rd w A1 zs.length (c - 1) zs) ∧ b ∉ fp A1 ∧ Hid (∀ k ∈ fp A1, k ∈ fp (some (⟨g, off, none⟩ : Addr))) := by
    refine ⟨_, rfl, hidp (by simpa using hcut), ?_, hidp fun k hk => ?_⟩
    · intro hk; refine hne ?_; split at hk <;> simpa [fp] using hk
    · split at hk <;> simpa [fp] using hk
  clear hcut hne
  go_enter Try.func19, Try.ntmps19
  go_wp2
  go_ret2
  exact ⟨rfl, A1, c - 1, Rf.store h.blk Hcut.out hx (by omega), (Turned.refl _ _).setCell (p := ⟨b, 0, none⟩) (.inl (by simp)) _, fun k hk => .inl (hy.out k hk)⟩

theorem rdrop_not {id : Int} (h : Rf w b R zs A c) (hk : plK zs id = false) : Calls Try.prog 21 #[.pointer (some ⟨b, 0, none⟩), .int .i64 id] w fun e w' => e = .returned (.bool false) ∧ w = w' := by
  have c0 := h.blk.cell 0
  simp only [List.getElem?_toArray, List.getElem?_cons_zero] at c0
  have ha := at_any (id := id) (c := c) h.rd.r h.rd.len (by have := h.len; omega)
  rw [atR_no hk] at ha
  go_enter Try.func21, Try.ntmps21
  go_wp2_with (go_at_call 27; (with_reducible refine ha.mono ?_); rintro e w' ⟨rfl, rfl⟩)
  go_ret
  exact ⟨rfl, rfl⟩
theorem rdrop_yes {id : Int} (h : Rf w b R zs A c) (hk : plK zs id = true) : Calls Try.prog 21 #[.pointer (some ⟨b, 0, none⟩), .int .i64 id] w (RfPost w b R A (zs.eraseIdx (plN zs id)) (.returned (.bool true))) := by
  have c0 := h.blk.cell 0
  simp only [List.getElem?_toArray, List.getElem?_cons_zero] at c0
  have hlen := h.len
  have ha := at_any (id := id) (c := c) h.rd.r h.rd.len (by omega)
  rw [atR_yes hk] at ha
  have hlt := plN_lt hk
  obtain ⟨k, Hk⟩ : ∃ k, Hid (plN zs id = k) := ⟨_, rfl⟩
  rw [Hk.out] at ha hlt ⊢
  have hwo := without_any (k := k) (i := (k : Int)) h.rd hlt rfl (by omega)
  clear hk
  go_enter Try.func21, Try.ntmps21
  go_wp2_with (first | (go_at_call 27; (with_reducible refine ha.mono ?_); rintro e w' ⟨rfl, rfl⟩) | (go_at_call 61; (with_reducible refine hwo.mono ?_); rintro e w1 ⟨A1, n1, k1, rfl, hrd, ht, hf⟩; have hb1 := h.blk.turned ht (by simp); have d1 := hb1.cell 0; have d2 := hb1.frozen 0; simp only [List.getElem?_toArray, List.getElem?_cons_zero] at d1))
  go_ret
  have hl2 := h.blk.lt
  refine ⟨rfl, A1, k1, Rf.store hb1 hrd (fun hb => by have := hf b hb; omega) ?_, ?_, fun k hk => .inr (hf k hk)⟩
  · have := List.length_eraseIdx_le zs k; omega
  · exact (ht.mono (G := [b]) (by simp)).setCell (p := ⟨b, 0, none⟩) (.inl (by simp)) _
end
end Go.Proofs.Ytlejnbepldpmmaa
