/- Rows of tasks of the call's own; sets that are made by hand. -/
import Derived.Test.YtjjlpaampmpdfaaGreatDoorOwnP
namespace Go.Proofs.YtjjlpaampmpdfaaGreatDoor
open Go.ChangeShapes Go.WideShapes Go.ChangeAt Go.RowKit
set_option linter.unusedVariables false

theorem infoTask : (Tryz.prog.info? 41).map (fun i => (i.zero, i.size, i.bytes)) = some (some (.agg #[.string ⟨#[]⟩, .int .i64 0, .int .i64 0, .int .i64 0, .int .i64 0, .slice none 0 0]), 6, 72) := by kernel_rfl
/-- the cells of a row of tasks -/
def ttc (ts : List TaskR) : List Value := ts.flatMap fun t => [.string t.name, .int .i64 t.per, .int .i64 t.dl, .int .i64 t.prio, .int .i64 t.cl, .slice t.pa t.parts.length t.pc]
theorem ttc_len (ts : List TaskR) : (ttc ts).length = ts.length * 6 := by
  induction ts with
  | nil => rfl
  | cons p ps ih => simp only [ttc, List.flatMap_cons, List.length_append, List.length_cons, List.length_nil] at *; omega
theorem ttc_append (a b : List TaskR) : ttc (a ++ b) = ttc a ++ ttc b := by simp [ttc]
theorem ttc_one (ts : List TaskR) : ∀ u ∈ ttc ts, u.oneCell' = true := fun u hu => by
  obtain ⟨p, _, h⟩ := List.mem_flatMap.1 hu
  simp at h
  rcases h with rfl | rfl | rfl | rfl | rfl | rfl <;> rfl
theorem ttc_drop (ts : List TaskR) (k : Nat) : (ttc ts).drop (k * 6) = ttc (ts.drop k) := by
  induction k generalizing ts with
  | zero => simp
  | succ k ih =>
    cases ts with
    | nil => simp [ttc]
    | cons p ps =>
      rw [show (k + 1) * 6 = k * 6 + 1 + 1 + 1 + 1 + 1 + 1 by omega]
      simp only [ttc, List.flatMap_cons, List.cons_append, List.nil_append, List.drop_succ_cons]
      exact ih ps
theorem tasks_lie {B : Nat} {w : World} {A : Option Addr} {ts : List TaskR} (h : Lies B w A (ttc ts)) : TasksAt w A ts := by
  rcases h with h | ⟨b, off, rfl, _, hc⟩
  · left
    have := congrArg List.length h
    rw [ttc_len] at this
    exact List.eq_nil_of_length_eq_zero (by simp at this; omega)
  · refine .inr ⟨b, off, rfl, fun i hi => ?_⟩
    have h := ttc_drop ts i
    rw [List.drop_eq_getElem_cons hi] at h
    have hg : ts.getD i default = ts[i] := by simp [List.getD, hi]
    have hj : ∀ j v, (ttc (ts[i] :: ts.drop (i + 1)))[j]? = some v → w.cell? ⟨b, off + i * 6 + j, none⟩ = some v := fun j v hv => by
      rw [← h, List.getElem?_drop] at hv
      have := hc _ _ hv
      rwa [← Nat.add_assoc] at this
    rw [hg]
    exact ⟨hj 0 _ rfl, hj 1 _ rfl, hj 2 _ rfl, hj 3 _ rfl, hj 4 _ rfl, hj 5 _ rfl⟩
theorem lies_tasks {w : World} {A : Option Addr} {ts : List TaskR} (h : TasksAt w A ts) : Lies w.heap.size w A (ttc ts) := by
  rcases h with rfl | ⟨b, off, rfl, hc⟩
  · exact .inl rfl
  · by_cases h0 : ts = []
    · subst h0; exact .inl rfl
    · have hp : 0 < ts.length := List.length_pos_iff.2 h0
      refine .inr ⟨b, off, rfl, cell_lt (hc 0 hp).1, fun j v hj => ?_⟩
      have hl : j < ts.length * 6 := by
        by_cases x : j < ts.length * 6
        · exact x
        · rw [List.getElem?_eq_none (by rw [ttc_len]; omega)] at hj; cases hj
      have hi : j / 6 < ts.length := by omega
      obtain ⟨c0, c1, c2, c3, c4, c5⟩ := hc (j / 6) hi
      have h := ttc_drop ts (j / 6)
      rw [List.drop_eq_getElem_cons hi] at h
      have hg : ts.getD (j / 6) default = ts[j / 6] := by simp [List.getD, hi]
      rw [hg] at c0 c1 c2 c3 c4 c5
      have hx : (ttc (ts[j / 6] :: ts.drop (j / 6 + 1)))[j % 6]? = some v := by
        rw [← h, List.getElem?_drop, show j / 6 * 6 + j % 6 = j by omega]; exact hj
      have hm : j % 6 < 6 := Nat.mod_lt _ (by omega)
      rw [show off + j = off + j / 6 * 6 + j % 6 by omega]
      generalize j % 6 = m at hx hm
      match m, hm with
      | 0, _ => rw [← hx]; exact c0
      | 1, _ => rw [← hx]; exact c1
      | 2, _ => rw [← hx]; exact c2
      | 3, _ => rw [← hx]; exact c3
      | 4, _ => rw [← hx]; exact c4
      | 5, _ => rw [← hx]; exact c5
/-- a row of tasks of the call's own -/
structure OwnT (B : Nat) (w : World) (A : Option Addr) (n c : Nat) (ts : List TaskR) : Prop where
  own : w.ownsRow B 41 6 (.slice A n c) n (ttc ts)
  len : n = ts.length
  cap : n ≤ c ∧ c ≤ maxLen
  nil : A = none → n = 0 ∧ c = 0
theorem OwnT.none (B : Nat) (w : World) : OwnT B w none 0 0 [] := ⟨World.ownsRow_nil _ _ _ _, rfl, by decide, fun _ => ⟨rfl, rfl⟩⟩
theorem OwnT.tasks {B : Nat} {w : World} {A : Option Addr} {n c : Nat} {ts : List TaskR} (h : OwnT B w A n c ts) : TasksAt w A ts := by
  obtain ⟨h1, rfl, _, _⟩ := h
  exact tasks_lie (Lies.of_own h1)
theorem OwnT.app {B : Nat} {w w1 w2 : World} {A A' : Option Addr} {n c c' : Nat} {rs ts : List TaskR} {m : Nat} (h : OwnT B w A n c rs) (ha : App B 41 6 w1 A A' (n + m) c' (ttc rs ++ ttc ts) w2) (hm : m = ts.length) : OwnT B w2 A' (n + m) c' (rs ++ ts) :=
  ⟨by rw [ttc_append]; exact ha.own, by rw [List.length_append, h.len, hm], ha.cap, ha.nil⟩
theorem OwnT.turned {B : Nat} {F : List Nat} {w w' : World} {A : Option Addr} {n c : Nat} {ts : List TaskR} (h : OwnT B w A n c ts) (ht : Turned F w w') (hF : ∀ k ∈ fp A, k ∉ F) : OwnT B w' A n c ts := ⟨own_turned h.own ht hF, h.len, h.cap, h.nil⟩
theorem OwnT.sl {B : Nat} {w : World} {A : Option Addr} {n c : Nat} {ts : List TaskR} (h : OwnT B w A n c ts) : SlOk A ts.length c := by
  obtain ⟨_, rfl, h2, h3⟩ := h; exact ⟨h3, h2⟩
theorem OwnT.low {B B' : Nat} {w : World} {A : Option Addr} {n c : Nat} {ts : List TaskR} (h : OwnT B w A n c ts) (hB : B' ≤ B) : OwnT B' w A n c ts := ⟨own_base h.own (fun k hk => Nat.le_trans hB (h.own.lt k hk).1), h.len, h.cap, h.nil⟩
/-- a block that is known whole is a row of the call's own -/
theorem own_lit {w : World} {g base : Nat} {e : TypeId} {size n : Nat} {cs : List Value} (h : Bk w g e cs.toArray) (hb : base ≤ g) (hl : cs.length = n * size) (hn : n ≤ maxLen) : w.ownsRow base e size (.slice (some ⟨g, 0, none⟩) n n) n cs :=
  ⟨hl, .inr ⟨g, n, cs.toArray, rfl, hb, h, Nat.le_refl _, hn, by simpa using hl, by simp [← hl]⟩⟩
theorem ints_lit {w : World} {g : Nat} {e : TypeId} {zs : List Int} (h : Bk w g e (zs.map (Value.int .i64)).toArray) : Row w .i64 (some ⟨g, 0, none⟩) zs := by
  refine .inr ⟨g, 0, rfl, fun j hj => ?_⟩
  rw [Nat.zero_add, h.cell j]
  simp [List.getD, hj]
theorem parts_lit {w : World} {g : Nat} {e : TypeId} {ps : List PartM} (h : Bk w g e (ptc ps).toArray) : PartsAt w (some ⟨g, 0, none⟩) ps := by
  refine parts_lie (B := g + 1) (.inr ⟨g, 0, rfl, by omega, fun j v hj => ?_⟩)
  rw [Nat.zero_add, h.cell j]
  simpa using hj
/-- four cells written one by one -/
def put4 (w : World) (g : Nat) (v0 v1 v2 v3 : Value) : World := (((w.setCell ⟨g, 0, none⟩ v0).setCell ⟨g, 1, none⟩ v1).setCell ⟨g, 2, none⟩ v2).setCell ⟨g, 3, none⟩ v3
theorem put4_bk {w : World} {g : Nat} {t : TypeId} {c0 c1 c2 c3 v0 v1 v2 v3 : Value} (h : Bk w g t #[c0, c1, c2, c3]) : Bk (put4 w g v0 v1 v2 v3) g t #[v0, v1, v2, v3] := by
  have := (((h.put 0 v0).put 1 v1).put 2 v2).put 3 v3
  unfold put4
  simpa using this
theorem put4_turned (w : World) (g : Nat) (v0 v1 v2 v3 : Value) : Turned [g] w (put4 w g v0 v1 v2 v3) :=
  ((((Turned.refl [g] w).setCell (.inl (by simp)) _).setCell (.inl (by simp)) _).setCell (.inl (by simp)) _).setCell (.inl (by simp)) _
theorem Z4 {w : World} {g : Nat} {t : TypeId} {c0 c1 c2 c3 : Value} (h : Bk w g t #[c0, c1, c2, c3]) : w.cell? ⟨g, 0, none⟩ = some c0 ∧ w.cell? ⟨g, 1, none⟩ = some c1 ∧ w.cell? ⟨g, 2, none⟩ = some c2 ∧ w.cell? ⟨g, 3, none⟩ = some c3 :=
  ⟨h.cell 0, h.cell 1, h.cell 2, h.cell 3⟩
theorem ZF4 {w : World} {g : Nat} {t : TypeId} {cs : Array Value} (h : Bk w g t cs) : w.frozen? ⟨g, 0, none⟩ = false ∧ w.frozen? ⟨g, 1, none⟩ = false ∧ w.frozen? ⟨g, 2, none⟩ = false ∧ w.frozen? ⟨g, 3, none⟩ = false :=
  ⟨h.frozen 0, h.frozen 1, h.frozen 2, h.frozen 3⟩
theorem Bk.at_ {w : World} {g : Nat} {t : TypeId} {cs : Array Value} {o : Obj} (h : w.heap.size = g) (ho : o = .cells cs t) : Bk (w.alloc o) g t cs := by subst h; subst ho; exact Bk.new w t cs
theorem keeps_turned {w w' : World} {F : List Nat} (ht : Turned F w w') : ∀ (p : Addr) (v : Value), w.cell? p = some v → p.block ∉ F → w'.cell? p = some v := fun p v h hp => ht.cell h hp
theorem PartsAt.turned {F : List Nat} {w w' : World} {a : Option Addr} {ps : List PartM} (h : PartsAt w a ps) (ht : Turned F w w') (hF : ∀ k ∈ fp a, k ∉ F) : PartsAt w' a ps := by
  rcases h with h | ⟨b, off, rfl, h⟩
  · exact .inl h
  · have hb : b ∉ F := hF b (by simp [fp])
    exact .inr ⟨b, off, rfl, fun i hi => ⟨ht.cell (h i hi).1 hb, ht.cell (h i hi).2.1 hb, ht.cell (h i hi).2.2 hb⟩⟩
theorem TaskOk.turned {F : List Nat} {w w' : World} {t : TaskR} (h : TaskOk w t) (ht : Turned F w w') (hF : ∀ k ∈ fp t.pa, k ∉ F) : TaskOk w' t := { h with at_ := h.at_.turned ht hF }
theorem IntsOk.turned {F : List Nat} {w w' : World} {a : Option Addr} {c : Nat} {zs : List Int} (h : IntsOk w a c zs) (ht : Turned F w w') (hF : ∀ k ∈ fp a, k ∉ F) : IntsOk w' a c zs := { h with at_ := h.at_.turned ht hF }
/-- a set of one task, made by hand: its four rows, one behind the other -/
theorem made4 (u : World) (proto : Int) (zs hs : List Int) (nm : ByteArray) (per dl prio cl : Int) (ps : List PartM) (h0 : I64 proto) (h1 : ∀ n ∈ zs, I64 n) (h2 : ∀ n ∈ hs, I64 n) (h3 : nm.size ≤ maxLen) (h4 : I64 per) (h5 : I64 dl) (h6 : I64 prio) (h7 : I64 cl) (h8 : ∀ p ∈ ps, p.wf)
    (l1 : zs.length ≤ maxLen) (l2 : hs.length ≤ maxLen) (l3 : ps.length ≤ maxLen) :
    SetOk ((((u.alloc (.cells (zs.map (Value.int .i64)).toArray 3)).alloc (.cells (hs.map (Value.int .i64)).toArray 3)).alloc (.cells (ptc ps).toArray 38)).alloc (.cells (ttc [⟨nm, per, dl, prio, cl, some ⟨u.heap.size + 1 + 1, 0, none⟩, ps.length, ps⟩]).toArray 41)) ⟨proto, some ⟨u.heap.size, 0, none⟩, zs.length, zs, some ⟨u.heap.size + 1, 0, none⟩, hs.length, hs, some ⟨u.heap.size + 1 + 1 + 1, 0, none⟩, 1, [⟨nm, per, dl, prio, cl, some ⟨u.heap.size + 1 + 1, 0, none⟩, ps.length, ps⟩]⟩ ∧
    Below u.heap.size u ((((u.alloc (.cells (zs.map (Value.int .i64)).toArray 3)).alloc (.cells (hs.map (Value.int .i64)).toArray 3)).alloc (.cells (ptc ps).toArray 38)).alloc (.cells (ttc [⟨nm, per, dl, prio, cl, some ⟨u.heap.size + 1 + 1, 0, none⟩, ps.length, ps⟩]).toArray 41)) := by
  have B1 := (((Bk.new u 3 (zs.map (Value.int .i64)).toArray).alloc (.cells (hs.map (Value.int .i64)).toArray 3)).alloc (.cells (ptc ps).toArray 38)).alloc (.cells (ttc [⟨nm, per, dl, prio, cl, some ⟨u.heap.size + 1 + 1, 0, none⟩, ps.length, ps⟩]).toArray 41)
  have B2 := ((Bk.at_ (w := u.alloc (.cells (zs.map (Value.int .i64)).toArray 3)) (g := u.heap.size + 1) (t := 3) (cs := (hs.map (Value.int .i64)).toArray) (by simp) rfl).alloc (.cells (ptc ps).toArray 38)).alloc (.cells (ttc [⟨nm, per, dl, prio, cl, some ⟨u.heap.size + 1 + 1, 0, none⟩, ps.length, ps⟩]).toArray 41)
  have B3 := (Bk.at_ (w := (u.alloc (.cells (zs.map (Value.int .i64)).toArray 3)).alloc (.cells (hs.map (Value.int .i64)).toArray 3)) (g := u.heap.size + 1 + 1) (t := 38) (cs := (ptc ps).toArray) (by simp) rfl).alloc (.cells (ttc [⟨nm, per, dl, prio, cl, some ⟨u.heap.size + 1 + 1, 0, none⟩, ps.length, ps⟩]).toArray 41)
  have B4 := Bk.at_ (w := ((u.alloc (.cells (zs.map (Value.int .i64)).toArray 3)).alloc (.cells (hs.map (Value.int .i64)).toArray 3)).alloc (.cells (ptc ps).toArray 38)) (g := u.heap.size + 1 + 1 + 1) (t := 41) (cs := (ttc [⟨nm, per, dl, prio, cl, some ⟨u.heap.size + 1 + 1, 0, none⟩, ps.length, ps⟩]).toArray) (by simp) rfl
  have sl : ∀ (a : Addr) (n : Nat), n ≤ maxLen → SlOk (some a) n n := fun a n hn => ⟨(fun e => by cases e), Nat.le_refl _, hn⟩
  have o4 : OwnT u.heap.size _ (some ⟨u.heap.size + 1 + 1 + 1, 0, none⟩) 1 1 [⟨nm, per, dl, prio, cl, some ⟨u.heap.size + 1 + 1, 0, none⟩, ps.length, ps⟩] := ⟨own_lit B4 (by omega) (ttc_len _) (by decide), rfl, by decide, (fun e => by cases e)⟩
  refine ⟨⟨h0, ⟨sl _ _ l1, ints_lit B1, h1⟩, ⟨sl _ _ l2, ints_lit B2, h2⟩, ⟨o4.sl, o4.tasks, fun t ht => ?_⟩⟩, ?_⟩
  · simp only [List.mem_cons, List.not_mem_nil, or_false] at ht
    subst ht
    exact ⟨h3, h4, h5, h6, h7, sl _ _ l3, parts_lit B3, h8⟩
  · exact ((((Below.refl _ _).alloc (Nat.le_refl _) _).alloc (by simp) _).alloc (by simp; omega) _).alloc (by simp; omega) _
end Go.Proofs.YtjjlpaampmpdfaaGreatDoor
