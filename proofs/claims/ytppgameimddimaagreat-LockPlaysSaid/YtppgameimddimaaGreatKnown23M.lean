/- swingbridgelaw23's known answers are as known. -/
import Derived.Test.YtppgameimddimaaGreatSoundM
import Derived.Test.YtppgameimddimaaGreatRlPM
import Derived.Test.YtppgameimddimaaGreatRlWM
import Derived.Test.YtppgameimddimaaGreatLkVM
import Derived.Test.YtppgameimddimaaGreatOwn
namespace Go.Proofs.YtppgameimddimaaGreat
open Go.ChangeShapes Go.WideShapes Go.ChangeAt Go.RowKit
set_option linter.unusedVariables false

theorem infoPart : (Tryz.prog.info? 94).map (fun i => (i.zero, i.size, i.bytes)) = some (some (.agg #[.int .i64 0, .int .i64 0, .int .i64 0]), 3, 24) := by kernel_rfl
/-- the cells of a row of parts -/
def ptc (ps : List PartM) : List Value := ps.flatMap fun p => [.int .i64 p.kind, .int .i64 p.len, .int .i64 p.res]
theorem ptc_len (ps : List PartM) : (ptc ps).length = ps.length * 3 := by
  induction ps with
  | nil => rfl
  | cons p ps ih => simp only [ptc, List.flatMap_cons, List.length_append, List.length_cons, List.length_nil] at *; omega
theorem ptc_append (a b : List PartM) : ptc (a ++ b) = ptc a ++ ptc b := by simp [ptc]
theorem ptc_one (ps : List PartM) : ∀ u ∈ ptc ps, u.oneCell' = true := fun u hu => by
  obtain ⟨p, _, h⟩ := List.mem_flatMap.1 hu
  simp at h
  rcases h with rfl | rfl | rfl <;> rfl
theorem ptc_drop (ps : List PartM) (k : Nat) : (ptc ps).drop (k * 3) = ptc (ps.drop k) := by
  induction k generalizing ps with
  | zero => simp
  | succ k ih =>
    cases ps with
    | nil => simp [ptc]
    | cons p ps =>
      rw [show (k + 1) * 3 = k * 3 + 1 + 1 + 1 by omega]
      simp only [ptc, List.flatMap_cons, List.cons_append, List.nil_append, List.drop_succ_cons]
      exact ih ps
theorem ptc_at (ps : List PartM) (k : Nat) (hk : k < ps.length) : (ptc ps)[k * 3]? = some (.int .i64 (ps.getD k default).kind) ∧ (ptc ps)[k * 3 + 1]? = some (.int .i64 (ps.getD k default).len) ∧ (ptc ps)[k * 3 + 2]? = some (.int .i64 (ps.getD k default).res) := by
  have h := ptc_drop ps k
  rw [List.drop_eq_getElem_cons hk] at h
  have h0 := congrArg (fun l => l[0]?) h
  have h1 := congrArg (fun l => l[1]?) h
  have h2 := congrArg (fun l => l[2]?) h
  simp only [List.getElem?_drop, Nat.add_zero] at h0 h1 h2
  have hg : ps.getD k default = ps[k] := by simp [List.getD, hk]
  rw [hg, h0, h1, h2]
  exact ⟨rfl, rfl, rfl⟩
theorem parts_lie {B : Nat} {w : World} {A : Option Addr} {ps : List PartM} (h : Lies B w A (ptc ps)) : PartsAt w A ps := by
  rcases h with h | ⟨b, off, rfl, _, hc⟩
  · left
    have := congrArg List.length h
    rw [ptc_len] at this
    exact List.eq_nil_of_length_eq_zero (by simp at this; omega)
  · refine .inr ⟨b, off, rfl, fun i hi => ?_⟩
    obtain ⟨a0, a1, a2⟩ := ptc_at ps i hi
    exact ⟨hc _ _ a0, by have := hc _ _ a1; rwa [← Nat.add_assoc] at this, by have := hc _ _ a2; rwa [← Nat.add_assoc] at this⟩
theorem lies_parts {w : World} {A : Option Addr} {ps : List PartM} (h : PartsAt w A ps) : Lies w.heap.size w A (ptc ps) := by
  rcases h with rfl | ⟨b, off, rfl, hc⟩
  · exact .inl rfl
  · by_cases h0 : ps = []
    · subst h0; exact .inl rfl
    · have hp : 0 < ps.length := List.length_pos_iff.2 h0
      refine .inr ⟨b, off, rfl, cell_lt (hc 0 hp).1, fun j v hj => ?_⟩
      have hl : j < ps.length * 3 := by
        by_cases x : j < ps.length * 3
        · exact x
        · rw [List.getElem?_eq_none (by rw [ptc_len]; omega)] at hj; cases hj
      obtain ⟨c0, c1, c2⟩ := hc (j / 3) (by omega)
      obtain ⟨a0, a1, a2⟩ := ptc_at ps (j / 3) (by omega)
      rcases (show j = j / 3 * 3 ∨ j = j / 3 * 3 + 1 ∨ j = j / 3 * 3 + 2 by omega) with e | e | e
      · rw [e] at hj; rw [a0] at hj; rw [e]; rw [← hj]; exact c0
      · rw [e] at hj; rw [a1] at hj; rw [e, ← Nat.add_assoc]; rw [← hj]; exact c1
      · rw [e] at hj; rw [a2] at hj; rw [e, ← Nat.add_assoc]; rw [← hj]; exact c2
/-- a row of parts of the call's own -/
structure OwnP (B : Nat) (w : World) (A : Option Addr) (n c : Nat) (ps : List PartM) : Prop where
  own : w.ownsRow B 94 3 (.slice A n c) n (ptc ps)
  len : n = ps.length
  cap : n ≤ c ∧ c ≤ maxLen
  nil : A = none → n = 0 ∧ c = 0
theorem OwnP.none (B : Nat) (w : World) : OwnP B w none 0 0 [] := ⟨World.ownsRow_nil _ _ _ _, rfl, by decide, fun _ => ⟨rfl, rfl⟩⟩
theorem OwnP.parts {B : Nat} {w : World} {A : Option Addr} {n c : Nat} {ps : List PartM} (h : OwnP B w A n c ps) : PartsAt w A ps := by
  obtain ⟨h1, rfl, _, _⟩ := h
  exact parts_lie (Lies.of_own h1)
theorem OwnP.app {B : Nat} {w w1 w2 : World} {A A' : Option Addr} {n c c' : Nat} {rs ps : List PartM} {m : Nat} (h : OwnP B w A n c rs) (ha : App B 94 3 w1 A A' (n + m) c' (ptc rs ++ ptc ps) w2) (hm : m = ps.length) : OwnP B w2 A' (n + m) c' (rs ++ ps) :=
  ⟨by rw [ptc_append]; exact ha.own, by rw [List.length_append, h.len, hm], ha.cap, ha.nil⟩
theorem OwnP.turned {B : Nat} {F : List Nat} {w w' : World} {A : Option Addr} {n c : Nat} {ps : List PartM} (h : OwnP B w A n c ps) (ht : Turned F w w') (hF : ∀ k ∈ fp A, k ∉ F) : OwnP B w' A n c ps := ⟨own_turned h.own ht hF, h.len, h.cap, h.nil⟩
theorem Lies.newCells' (w : World) (cs : List Value) (T : TypeId) : Lies (w.heap.size + 1) (w.alloc (.cells cs.toArray T)) (some ⟨w.heap.size, 0, none⟩) cs := by
  refine .inr ⟨_, 0, rfl, by omega, fun j v hj => ?_⟩
  have := (Bk.new w T cs.toArray).cell j
  rw [Nat.zero_add, this]
  simpa using hj
theorem Bk.below {w w' : World} {g : Nat} {t : TypeId} {cs : Array Value} (h : Bk w g t cs) (hb : Below w.heap.size w w') : Bk w' g t cs := h.turned (Turned.of_below hb []) (by simp)
/-- the cells of a task whose name is empty and whose numbers are 0 -/
def zt (a : Option Addr) (n c : Nat) : Array Value := #[.string ⟨#[]⟩, .int .i64 0, .int .i64 0, .int .i64 0, .int .i64 0, .slice a n c]
theorem ZT (w : World) (g : Nat) (t : TypeId) (a : Option Addr) (n c : Nat) (h : Bk w g t (zt a n c)) : w.cell? ⟨g, 0, none⟩ = some (.string ⟨#[]⟩) ∧ w.cell? ⟨g, 1, none⟩ = some (.int .i64 0) ∧ w.cell? ⟨g, 2, none⟩ = some (.int .i64 0) ∧ w.cell? ⟨g, 3, none⟩ = some (.int .i64 0) ∧ w.cell? ⟨g, 4, none⟩ = some (.int .i64 0) ∧ w.cell? ⟨g, 5, none⟩ = some (.slice a n c) :=
  ⟨h.cell 0, h.cell 1, h.cell 2, h.cell 3, h.cell 4, h.cell 5⟩
theorem ZF {w : World} {g : Nat} {t : TypeId} {cs : Array Value} (h : Bk w g t cs) : w.frozen? ⟨g, 0, none⟩ = false ∧ w.frozen? ⟨g, 1, none⟩ = false ∧ w.frozen? ⟨g, 2, none⟩ = false ∧ w.frozen? ⟨g, 3, none⟩ = false ∧ w.frozen? ⟨g, 4, none⟩ = false ∧ w.frozen? ⟨g, 5, none⟩ = false :=
  ⟨h.frozen 0, h.frozen 1, h.frozen 2, h.frozen 3, h.frozen 4, h.frozen 5⟩
/-- six cells written one by one -/
def put6 (w : World) (g : Nat) (v0 v1 v2 v3 v4 v5 : Value) : World := (((((w.setCell ⟨g, 0, none⟩ v0).setCell ⟨g, 1, none⟩ v1).setCell ⟨g, 2, none⟩ v2).setCell ⟨g, 3, none⟩ v3).setCell ⟨g, 4, none⟩ v4).setCell ⟨g, 5, none⟩ v5
theorem put6_bk {w : World} {g : Nat} {t : TypeId} {c0 c1 c2 c3 c4 c5 v0 v1 v2 v3 v4 v5 : Value} (h : Bk w g t #[c0, c1, c2, c3, c4, c5]) : Bk (put6 w g v0 v1 v2 v3 v4 v5) g t #[v0, v1, v2, v3, v4, v5] := by
  have := (((((h.put 0 v0).put 1 v1).put 2 v2).put 3 v3).put 4 v4).put 5 v5
  unfold put6
  simpa using this
theorem put6_turned (w : World) (g : Nat) (v0 v1 v2 v3 v4 v5 : Value) : Turned [g] w (put6 w g v0 v1 v2 v3 v4 v5) :=
  ((((((Turned.refl [g] w).setCell (.inl (by simp)) _).setCell (.inl (by simp)) _).setCell (.inl (by simp)) _).setCell (.inl (by simp)) _).setCell (.inl (by simp)) _).setCell (.inl (by simp)) _
theorem SetCells.turned {F : List Nat} {w w' : World} {b : Nat} {s : SetR} (h : SetCells w b s) (ht : Turned F w w') (hb : b ∉ F) : SetCells w' b s :=
  ⟨ht.cell h.1 hb, ht.cell h.2.1 hb, ht.cell h.2.2.1 hb, ht.cell h.2.2.2 hb⟩
end Go.Proofs.YtppgameimddimaaGreat

namespace Go.Proofs.YtppgameimddimaaGreat
open Go.ChangeShapes Go.WideShapes Go.ChangeAt Go.RowKit
set_option linter.unusedVariables false

theorem infoTask : (Tryz.prog.info? 57).map (fun i => (i.zero, i.size, i.bytes)) = some (some (.agg #[.string ⟨#[]⟩, .int .i64 0, .int .i64 0, .int .i64 0, .int .i64 0, .slice none 0 0]), 6, 72) := by kernel_rfl
/-- the cells of a row of tasks -/
def ttc (ts : List TaskR) : List Value := ts.flatMap fun t => [.string t.name, .int .i64 t.per, .int .i64 t.dl, .int .i64 t.prio, .int .i64 t.cl, .slice t.pa t.parts.length t.pc]
theorem ttc_len (ts : List TaskR) : (ttc ts).length = ts.length * 6 := by
  induction ts with
  | nil => rfl
  | cons p ps ih => simp only [ttc, List.flatMap_cons, List.length_append, List.length_cons, List.length_nil] at *; omega
theorem ttc_append (a b : List TaskR) : ttc (a ++ b) = ttc a ++ ttc b := by simp [ttc]
theorem ttc_one (ts : List TaskR) : ∀ u ∈ ttc ts, u.oneCell' = true := fun u hu => by
  obtain ⟨p, _, h⟩ := List.mem_flatMap.1 hu
  simp at h
  rcases h with rfl | rfl | rfl | rfl | rfl | rfl <;> rfl
theorem ttc_drop (ts : List TaskR) (k : Nat) : (ttc ts).drop (k * 6) = ttc (ts.drop k) := by
  induction k generalizing ts with
  | zero => simp
  | succ k ih =>
    cases ts with
    | nil => simp [ttc]
    | cons p ps =>
      rw [show (k + 1) * 6 = k * 6 + 1 + 1 + 1 + 1 + 1 + 1 by omega]
      simp only [ttc, List.flatMap_cons, List.cons_append, List.nil_append, List.drop_succ_cons]
      exact ih ps
theorem tasks_lie {B : Nat} {w : World} {A : Option Addr} {ts : List TaskR} (h : Lies B w A (ttc ts)) : TasksAt w A ts := by
  rcases h with h | ⟨b, off, rfl, _, hc⟩
  · left
    have := congrArg List.length h
    rw [ttc_len] at this
    exact List.eq_nil_of_length_eq_zero (by simp at this; omega)
  · refine .inr ⟨b, off, rfl, fun i hi => ?_⟩
    have h := ttc_drop ts i
    rw [List.drop_eq_getElem_cons hi] at h
    have hg : ts.getD i default = ts[i] := by simp [List.getD, hi]
    have hj : ∀ j v, (ttc (ts[i] :: ts.drop (i + 1)))[j]? = some v → w.cell? ⟨b, off + i * 6 + j, none⟩ = some v := fun j v hv => by
      rw [← h, List.getElem?_drop] at hv
      have := hc _ _ hv
      rwa [← Nat.add_assoc] at this
    rw [hg]
    exact ⟨hj 0 _ rfl, hj 1 _ rfl, hj 2 _ rfl, hj 3 _ rfl, hj 4 _ rfl, hj 5 _ rfl⟩
theorem lies_tasks {w : World} {A : Option Addr} {ts : List TaskR} (h : TasksAt w A ts) : Lies w.heap.size w A (ttc ts) := by
  rcases h with rfl | ⟨b, off, rfl, hc⟩
  · exact .inl rfl
  · by_cases h0 : ts = []
    · subst h0; exact .inl rfl
    · have hp : 0 < ts.length := List.length_pos_iff.2 h0
      refine .inr ⟨b, off, rfl, cell_lt (hc 0 hp).1, fun j v hj => ?_⟩
      have hl : j < ts.length * 6 := by
        by_cases x : j < ts.length * 6
        · exact x
        · rw [List.getElem?_eq_none (by rw [ttc_len]; omega)] at hj; cases hj
      have hi : j / 6 < ts.length := by omega
      obtain ⟨c0, c1, c2, c3, c4, c5⟩ := hc (j / 6) hi
      have h := ttc_drop ts (j / 6)
      rw [List.drop_eq_getElem_cons hi] at h
      have hg : ts.getD (j / 6) default = ts[j / 6] := by simp [List.getD, hi]
      rw [hg] at c0 c1 c2 c3 c4 c5
      have hx : (ttc (ts[j / 6] :: ts.drop (j / 6 + 1)))[j % 6]? = some v := by
        rw [← h, List.getElem?_drop, show j / 6 * 6 + j % 6 = j by omega]; exact hj
      have hm : j % 6 < 6 := Nat.mod_lt _ (by omega)
      rw [show off + j = off + j / 6 * 6 + j % 6 by omega]
      generalize j % 6 = m at hx hm
      match m, hm with
      | 0, _ => rw [← hx]; exact c0
      | 1, _ => rw [← hx]; exact c1
      | 2, _ => rw [← hx]; exact c2
      | 3, _ => rw [← hx]; exact c3
      | 4, _ => rw [← hx]; exact c4
      | 5, _ => rw [← hx]; exact c5
/-- a row of tasks of the call's own -/
structure OwnT (B : Nat) (w : World) (A : Option Addr) (n c : Nat) (ts : List TaskR) : Prop where
  own : w.ownsRow B 57 6 (.slice A n c) n (ttc ts)
  len : n = ts.length
  cap : n ≤ c ∧ c ≤ maxLen
  nil : A = none → n = 0 ∧ c = 0
theorem OwnT.none (B : Nat) (w : World) : OwnT B w none 0 0 [] := ⟨World.ownsRow_nil _ _ _ _, rfl, by decide, fun _ => ⟨rfl, rfl⟩⟩
theorem OwnT.tasks {B : Nat} {w : World} {A : Option Addr} {n c : Nat} {ts : List TaskR} (h : OwnT B w A n c ts) : TasksAt w A ts := by
  obtain ⟨h1, rfl, _, _⟩ := h
  exact tasks_lie (Lies.of_own h1)
theorem OwnT.app {B : Nat} {w w1 w2 : World} {A A' : Option Addr} {n c c' : Nat} {rs ts : List TaskR} {m : Nat} (h : OwnT B w A n c rs) (ha : App B 57 6 w1 A A' (n + m) c' (ttc rs ++ ttc ts) w2) (hm : m = ts.length) : OwnT B w2 A' (n + m) c' (rs ++ ts) :=
  ⟨by rw [ttc_append]; exact ha.own, by rw [List.length_append, h.len, hm], ha.cap, ha.nil⟩
theorem OwnT.turned {B : Nat} {F : List Nat} {w w' : World} {A : Option Addr} {n c : Nat} {ts : List TaskR} (h : OwnT B w A n c ts) (ht : Turned F w w') (hF : ∀ k ∈ fp A, k ∉ F) : OwnT B w' A n c ts := ⟨own_turned h.own ht hF, h.len, h.cap, h.nil⟩
theorem OwnT.sl {B : Nat} {w : World} {A : Option Addr} {n c : Nat} {ts : List TaskR} (h : OwnT B w A n c ts) : SlOk A ts.length c := by
  obtain ⟨_, rfl, h2, h3⟩ := h; exact ⟨h3, h2⟩
theorem OwnT.low {B B' : Nat} {w : World} {A : Option Addr} {n c : Nat} {ts : List TaskR} (h : OwnT B w A n c ts) (hB : B' ≤ B) : OwnT B' w A n c ts := ⟨own_base h.own (fun k hk => Nat.le_trans hB (h.own.lt k hk).1), h.len, h.cap, h.nil⟩
/-- a block that is known whole is a row of the call's own -/
theorem own_lit {w : World} {g base : Nat} {e : TypeId} {size n : Nat} {cs : List Value} (h : Bk w g e cs.toArray) (hb : base ≤ g) (hl : cs.length = n * size) (hn : n ≤ maxLen) : w.ownsRow base e size (.slice (some ⟨g, 0, none⟩) n n) n cs :=
  ⟨hl, .inr ⟨g, n, cs.toArray, rfl, hb, h, Nat.le_refl _, hn, by simpa using hl, by simp [← hl]⟩⟩
theorem ints_lit {w : World} {g : Nat} {e : TypeId} {zs : List Int} (h : Bk w g e (zs.map (Value.int .i64)).toArray) : Row w .i64 (some ⟨g, 0, none⟩) zs := by
  refine .inr ⟨g, 0, rfl, fun j hj => ?_⟩
  rw [Nat.zero_add, h.cell j]
  simp [List.getD, hj]
theorem parts_lit {w : World} {g : Nat} {e : TypeId} {ps : List PartM} (h : Bk w g e (ptc ps).toArray) : PartsAt w (some ⟨g, 0, none⟩) ps := by
  refine parts_lie (B := g + 1) (.inr ⟨g, 0, rfl, by omega, fun j v hj => ?_⟩)
  rw [Nat.zero_add, h.cell j]
  simpa using hj
/-- four cells written one by one -/
def put4 (w : World) (g : Nat) (v0 v1 v2 v3 : Value) : World := (((w.setCell ⟨g, 0, none⟩ v0).setCell ⟨g, 1, none⟩ v1).setCell ⟨g, 2, none⟩ v2).setCell ⟨g, 3, none⟩ v3
theorem put4_bk {w : World} {g : Nat} {t : TypeId} {c0 c1 c2 c3 v0 v1 v2 v3 : Value} (h : Bk w g t #[c0, c1, c2, c3]) : Bk (put4 w g v0 v1 v2 v3) g t #[v0, v1, v2, v3] := by
  have := (((h.put 0 v0).put 1 v1).put 2 v2).put 3 v3
  unfold put4
  simpa using this
theorem put4_turned (w : World) (g : Nat) (v0 v1 v2 v3 : Value) : Turned [g] w (put4 w g v0 v1 v2 v3) :=
  ((((Turned.refl [g] w).setCell (.inl (by simp)) _).setCell (.inl (by simp)) _).setCell (.inl (by simp)) _).setCell (.inl (by simp)) _
theorem Z4 {w : World} {g : Nat} {t : TypeId} {c0 c1 c2 c3 : Value} (h : Bk w g t #[c0, c1, c2, c3]) : w.cell? ⟨g, 0, none⟩ = some c0 ∧ w.cell? ⟨g, 1, none⟩ = some c1 ∧ w.cell? ⟨g, 2, none⟩ = some c2 ∧ w.cell? ⟨g, 3, none⟩ = some c3 :=
  ⟨h.cell 0, h.cell 1, h.cell 2, h.cell 3⟩
theorem ZF4 {w : World} {g : Nat} {t : TypeId} {cs : Array Value} (h : Bk w g t cs) : w.frozen? ⟨g, 0, none⟩ = false ∧ w.frozen? ⟨g, 1, none⟩ = false ∧ w.frozen? ⟨g, 2, none⟩ = false ∧ w.frozen? ⟨g, 3, none⟩ = false :=
  ⟨h.frozen 0, h.frozen 1, h.frozen 2, h.frozen 3⟩
theorem Bk.at_ {w : World} {g : Nat} {t : TypeId} {cs : Array Value} {o : Obj} (h : w.heap.size = g) (ho : o = .cells cs t) : Bk (w.alloc o) g t cs := by subst h; subst ho; exact Bk.new w t cs
theorem keeps_turned {w w' : World} {F : List Nat} (ht : Turned F w w') : ∀ (p : Addr) (v : Value), w.cell? p = some v → p.block ∉ F → w'.cell? p = some v := fun p v h hp => ht.cell h hp
theorem PartsAt.turned {F : List Nat} {w w' : World} {a : Option Addr} {ps : List PartM} (h : PartsAt w a ps) (ht : Turned F w w') (hF : ∀ k ∈ fp a, k ∉ F) : PartsAt w' a ps := by
  rcases h with h | ⟨b, off, rfl, h⟩
  · exact .inl h
  · have hb : b ∉ F := hF b (by simp [fp])
    exact .inr ⟨b, off, rfl, fun i hi => ⟨ht.cell (h i hi).1 hb, ht.cell (h i hi).2.1 hb, ht.cell (h i hi).2.2 hb⟩⟩
theorem TaskOk.turned {F : List Nat} {w w' : World} {t : TaskR} (h : TaskOk w t) (ht : Turned F w w') (hF : ∀ k ∈ fp t.pa, k ∉ F) : TaskOk w' t := { h with at_ := h.at_.turned ht hF }
theorem IntsOk.turned {F : List Nat} {w w' : World} {a : Option Addr} {c : Nat} {zs : List Int} (h : IntsOk w a c zs) (ht : Turned F w w') (hF : ∀ k ∈ fp a, k ∉ F) : IntsOk w' a c zs := { h with at_ := h.at_.turned ht hF }
/-- a set of one task, made by hand: its four rows, one behind the other -/
theorem made4 (u : World) (proto : Int) (zs hs : List Int) (nm : ByteArray) (per dl prio cl : Int) (ps : List PartM) (h0 : I64 proto) (h1 : ∀ n ∈ zs, I64 n) (h2 : ∀ n ∈ hs, I64 n) (h3 : nm.size ≤ maxLen) (h4 : I64 per) (h5 : I64 dl) (h6 : I64 prio) (h7 : I64 cl) (h8 : ∀ p ∈ ps, p.wf)
    (l1 : zs.length ≤ maxLen) (l2 : hs.length ≤ maxLen) (l3 : ps.length ≤ maxLen) :
    SetOk ((((u.alloc (.cells (zs.map (Value.int .i64)).toArray 3)).alloc (.cells (hs.map (Value.int .i64)).toArray 3)).alloc (.cells (ptc ps).toArray 94)).alloc (.cells (ttc [⟨nm, per, dl, prio, cl, some ⟨u.heap.size + 1 + 1, 0, none⟩, ps.length, ps⟩]).toArray 57)) ⟨proto, some ⟨u.heap.size, 0, none⟩, zs.length, zs, some ⟨u.heap.size + 1, 0, none⟩, hs.length, hs, some ⟨u.heap.size + 1 + 1 + 1, 0, none⟩, 1, [⟨nm, per, dl, prio, cl, some ⟨u.heap.size + 1 + 1, 0, none⟩, ps.length, ps⟩]⟩ ∧
    Below u.heap.size u ((((u.alloc (.cells (zs.map (Value.int .i64)).toArray 3)).alloc (.cells (hs.map (Value.int .i64)).toArray 3)).alloc (.cells (ptc ps).toArray 94)).alloc (.cells (ttc [⟨nm, per, dl, prio, cl, some ⟨u.heap.size + 1 + 1, 0, none⟩, ps.length, ps⟩]).toArray 57)) := by
  have B1 := (((Bk.new u 3 (zs.map (Value.int .i64)).toArray).alloc (.cells (hs.map (Value.int .i64)).toArray 3)).alloc (.cells (ptc ps).toArray 94)).alloc (.cells (ttc [⟨nm, per, dl, prio, cl, some ⟨u.heap.size + 1 + 1, 0, none⟩, ps.length, ps⟩]).toArray 57)
  have B2 := ((Bk.at_ (w := u.alloc (.cells (zs.map (Value.int .i64)).toArray 3)) (g := u.heap.size + 1) (t := 3) (cs := (hs.map (Value.int .i64)).toArray) (by simp) rfl).alloc (.cells (ptc ps).toArray 94)).alloc (.cells (ttc [⟨nm, per, dl, prio, cl, some ⟨u.heap.size + 1 + 1, 0, none⟩, ps.length, ps⟩]).toArray 57)
  have B3 := (Bk.at_ (w := (u.alloc (.cells (zs.map (Value.int .i64)).toArray 3)).alloc (.cells (hs.map (Value.int .i64)).toArray 3)) (g := u.heap.size + 1 + 1) (t := 94) (cs := (ptc ps).toArray) (by simp) rfl).alloc (.cells (ttc [⟨nm, per, dl, prio, cl, some ⟨u.heap.size + 1 + 1, 0, none⟩, ps.length, ps⟩]).toArray 57)
  have B4 := Bk.at_ (w := ((u.alloc (.cells (zs.map (Value.int .i64)).toArray 3)).alloc (.cells (hs.map (Value.int .i64)).toArray 3)).alloc (.cells (ptc ps).toArray 94)) (g := u.heap.size + 1 + 1 + 1) (t := 57) (cs := (ttc [⟨nm, per, dl, prio, cl, some ⟨u.heap.size + 1 + 1, 0, none⟩, ps.length, ps⟩]).toArray) (by simp) rfl
  have sl : ∀ (a : Addr) (n : Nat), n ≤ maxLen → SlOk (some a) n n := fun a n hn => ⟨(fun e => by cases e), Nat.le_refl _, hn⟩
  have o4 : OwnT u.heap.size _ (some ⟨u.heap.size + 1 + 1 + 1, 0, none⟩) 1 1 [⟨nm, per, dl, prio, cl, some ⟨u.heap.size + 1 + 1, 0, none⟩, ps.length, ps⟩] := ⟨own_lit B4 (by omega) (ttc_len _) (by decide), rfl, by decide, (fun e => by cases e)⟩
  refine ⟨⟨h0, ⟨sl _ _ l1, ints_lit B1, h1⟩, ⟨sl _ _ l2, ints_lit B2, h2⟩, ⟨o4.sl, o4.tasks, fun t ht => ?_⟩⟩, ?_⟩
  · simp only [List.mem_cons, List.not_mem_nil, or_false] at ht
    subst ht
    exact ⟨h3, h4, h5, h6, h7, sl _ _ l3, parts_lit B3, h8⟩
  · exact ((((Below.refl _ _).alloc (Nat.le_refl _) _).alloc (by simp) _).alloc (by simp; omega) _).alloc (by simp; omega) _
end Go.Proofs.YtppgameimddimaaGreat

namespace Go.Proofs.YtppgameimddimaaGreat
open Go.ChangeShapes Go.WideShapes Go.ChangeAt Go.RowKit
set_option linter.unusedVariables false
/-- a set made by hand, whose row of tasks is of the call's own -/
def OneS23 (w : World) (B : Nat) (proto : Int) (ts : List TaskR) (e : Ending) : Prop := ∃ (ca ha ta : Option Addr) (cc hc tc : Nat), e = .returned (.agg #[.int .i64 proto, .slice ca 1 cc, .slice ha 1 hc, .slice ta ts.length tc]) ∧ IntsOk w ca cc [1] ∧ IntsOk w ha hc [0] ∧ OwnT B w ta ts.length tc ts ∧ (∀ k ∈ fp ca, k ∉ fp ta ∧ B ≤ k ∧ k < w.heap.size) ∧ ∀ k ∈ fp ha, k ∉ fp ta ∧ B ≤ k ∧ k < w.heap.size
theorem one23_any (proto : Int) (a : Option Addr) (c : Nat) (ps : List PartM) (w : World) : Calls Tryz.prog 50 #[.int .i64 proto, .slice a ps.length c] w fun e w' => OneS23 w' w.heap.size proto [⟨⟨#[97]⟩, 100, 100, 1, 0, a, c, ps⟩] e ∧ Below w.heap.size w w' := by
  go_enter Tryz.func50, Tryz.ntmps50
  go_wp2
  have B1 := ((Bk.at_ (w := w.alloc (.cells #[.int .i64 proto, .slice (some ⟨w.heap.size + 1, 0, none⟩) 1 1, .slice (some ⟨w.heap.size + 1 + 1, 0, none⟩) 1 1, .slice (some ⟨w.heap.size + 1 + 1 + 1, 0, none⟩) 1 1] 25)) (g := w.heap.size + 1) (t := 3) (cs := ([1].map (Value.int .i64)).toArray) (by simp) rfl).alloc (.cells #[.int .i64 0] 3)).alloc (.cells #[.string ⟨#[97]⟩, .int .i64 100, .int .i64 100, .int .i64 1, .int .i64 0, .slice a ps.length c] 57)
  have B2 := (Bk.at_ (w := (w.alloc (.cells #[.int .i64 proto, .slice (some ⟨w.heap.size + 1, 0, none⟩) 1 1, .slice (some ⟨w.heap.size + 1 + 1, 0, none⟩) 1 1, .slice (some ⟨w.heap.size + 1 + 1 + 1, 0, none⟩) 1 1] 25)).alloc (.cells #[.int .i64 1] 3)) (g := w.heap.size + 1 + 1) (t := 3) (cs := ([0].map (Value.int .i64)).toArray) (by simp) rfl).alloc (.cells #[.string ⟨#[97]⟩, .int .i64 100, .int .i64 100, .int .i64 1, .int .i64 0, .slice a ps.length c] 57)
  have B3 := Bk.at_ (w := ((w.alloc (.cells #[.int .i64 proto, .slice (some ⟨w.heap.size + 1, 0, none⟩) 1 1, .slice (some ⟨w.heap.size + 1 + 1, 0, none⟩) 1 1, .slice (some ⟨w.heap.size + 1 + 1 + 1, 0, none⟩) 1 1] 25)).alloc (.cells #[.int .i64 1] 3)).alloc (.cells #[.int .i64 0] 3)) (g := w.heap.size + 1 + 1 + 1) (t := 57) (cs := (ttc [⟨⟨#[97]⟩, 100, 100, 1, 0, a, c, ps⟩]).toArray) (by simp) rfl
  refine bodyPost_ret (v := .agg #[.int .i64 proto, .slice (some ⟨w.heap.size + 1, 0, none⟩) 1 1, .slice (some ⟨w.heap.size + 1 + 1, 0, none⟩) 1 1, .slice (some ⟨w.heap.size + 1 + 1 + 1, 0, none⟩) 1 1]) (by simp [results, Tryz.results50, go_sem]) rfl
    ⟨⟨_, _, _, 1, 1, 1, rfl, ⟨⟨(fun e => by cases e), by simp, by first | decide | (simp; done) | (simp; decide)⟩, ints_lit B1, by first | decide | (simp; done) | (simp; decide)⟩, ⟨⟨(fun e => by cases e), by simp, by first | decide | (simp; done) | (simp; decide)⟩, ints_lit B2, by first | decide | (simp; done) | (simp; decide)⟩, ⟨own_lit B3 (by omega) (ttc_len _) (by first | decide | (simp; done) | (simp; decide)), rfl, by first | decide | (simp; done) | (simp; decide), (fun e => by cases e)⟩, by simp [fp]; try omega, by simp [fp]; try omega⟩, ?_⟩
  exact ((((Below.refl _ _).alloc (Nat.le_refl _) _).alloc (by simp) _).alloc (by simp; omega) _).alloc (by simp; omega) _
/-- two tasks at one cluster -/
def twoS23 (S : SetR) (proto run lock run2 lock2 : Int) : Prop := S.proto = proto ∧ S.cores = [1] ∧ S.homes = [0] ∧ ∃ (a1 a2 : Option Addr) (c1 c2 : Nat), S.tasks = [⟨⟨#[97]⟩, 100, 100, 1, 0, a1, c1, [⟨1, run, 0⟩, ⟨3, lock, 0⟩]⟩, ⟨⟨#[98]⟩, 200, 200, 2, 0, a2, c2, [⟨1, run2, 0⟩, ⟨3, lock2, 0⟩]⟩]
def TwoP23 (w : World) (proto run lock run2 lock2 : Int) (e : Ending) (w' : World) : Prop := (∃ S : SetR, e = .returned (.agg #[.int .i64 S.proto, .slice S.ca S.cores.length S.cc, .slice S.ha S.homes.length S.hc, .slice S.ta S.tasks.length S.tc]) ∧ SetOk w' S ∧ twoS23 S proto run lock run2 lock2) ∧ Below w.heap.size w w'
set_option maxRecDepth 100000 in
theorem two23_any (proto run lock run2 lock2 : Int) (w : World) (h0 : I64 proto) (h1 : I64 run) (h2 : I64 lock) (h3 : I64 run2) (h4 : I64 lock2) : Calls Tryz.prog 27 #[.int .i64 proto, .int .i64 run, .int .i64 lock, .int .i64 run2, .int .i64 lock2] w (TwoP23 w proto run lock run2 lock2) := by
  obtain ⟨i0, hi0, hy0, hy1, hy2⟩ := info_parts infoTask
  have P0 := (Bk.new w 25 #[.int .i64 0, .slice none 0 0, .slice none 0 0, .slice none 0 0]).alloc (.cells (ptc [⟨1, run, 0⟩, ⟨3, lock, 0⟩]).toArray 94)
  have P1 := Bk.at_ (w := w.alloc (.cells #[.int .i64 0, .slice none 0 0, .slice none 0 0, .slice none 0 0] 25)) (g := w.heap.size + 1) (t := 94) (cs := (ptc [⟨1, run, 0⟩, ⟨3, lock, 0⟩]).toArray) (by simp) rfl
  have hb0 := ((Below.refl w.heap.size w).alloc (Nat.le_refl _) (.cells #[.int .i64 0, .slice none 0 0, .slice none 0 0, .slice none 0 0] 25)).alloc (by simp) (.cells (ptc [⟨1, run, 0⟩, ⟨3, lock, 0⟩]).toArray 94)
  have hz0 : ((w.alloc (.cells #[.int .i64 0, .slice none 0 0, .slice none 0 0, .slice none 0 0] 25)).alloc (.cells (ptc [⟨1, run, 0⟩, ⟨3, lock, 0⟩]).toArray 94)).heap.size = w.heap.size + 2 := by simp
  have Hz0 := hidp hz0
  clear hz0
  go_enter Tryz.func27, Tryz.ntmps27
  go_wp2_with fail
  refine (one23_any proto (some ⟨w.heap.size + 1, 0, none⟩) 2 [⟨1, run, 0⟩, ⟨3, lock, 0⟩] _).mono ?_
  rintro e w2 ⟨⟨ca, ha, ta, cc, hc, tc, rfl, kc, kh, kt, n1, n2⟩, hb⟩
  have hsz : w.heap.size + 2 ≤ w2.heap.size := by have := hb.size; rw [← Hz0.out]; exact this
  replace P0 := P0.below hb
  replace P1 := P1.below hb
  have hbe := hb0.trans (hb.mono hb0.size)
  clear hb hb0
  have kt := kt.low (show w.heap.size + 2 ≤ _ by rw [← Hz0.out]; exact Nat.le_refl _)
  have n1' : ∀ k ∈ fp ca, k ∉ fp ta ∧ w.heap.size + 2 ≤ k ∧ k < w2.heap.size := fun k hk => ⟨(n1 k hk).1, by have := (n1 k hk).2.1; rw [← Hz0.out]; exact this, (n1 k hk).2.2⟩
  have n2' : ∀ k ∈ fp ha, k ∉ fp ta ∧ w.heap.size + 2 ≤ k ∧ k < w2.heap.size := fun k hk => ⟨(n2 k hk).1, by have := (n2 k hk).2.1; rw [← Hz0.out]; exact this, (n2 k hk).2.2⟩
  have N1 := hidp n1'
  have N2 := hidp n2'
  have Hft := hidp (own_fp kt.own)
  clear n1 n2 n1' n2'
  obtain ⟨V, hV⟩ : ∃ V, w2.heap.size = V := ⟨_, rfl⟩
  have HV := hidp hV
  clear hV
  -- the boxes that come now
  have T0 := (((Turned.refl [] w2).alloc (.cells #[.int .i64 proto, .slice ca 1 cc, .slice ha 1 hc, .slice ta 1 tc] 25)).alloc (.cells (ptc [⟨1, run2, 0⟩, ⟨3, lock2, 0⟩]).toArray 94)).alloc (.cells (ttc [⟨⟨#[98]⟩, 200, 200, 2, 0, some ⟨w2.heap.size + 1, 0, none⟩, 2, [⟨1, run2, 0⟩, ⟨3, lock2, 0⟩]⟩]).toArray 57)
  have X0 := ((Bk.new w2 25 #[.int .i64 proto, .slice ca 1 cc, .slice ha 1 hc, .slice ta 1 tc]).alloc (.cells (ptc [⟨1, run2, 0⟩, ⟨3, lock2, 0⟩]).toArray 94)).alloc (.cells (ttc [⟨⟨#[98]⟩, 200, 200, 2, 0, some ⟨w2.heap.size + 1, 0, none⟩, 2, [⟨1, run2, 0⟩, ⟨3, lock2, 0⟩]⟩]).toArray 57)
  have X1 := (Bk.at_ (w := w2.alloc (.cells #[.int .i64 proto, .slice ca 1 cc, .slice ha 1 hc, .slice ta 1 tc] 25)) (g := w2.heap.size + 1) (t := 94) (cs := (ptc [⟨1, run2, 0⟩, ⟨3, lock2, 0⟩]).toArray) (by simp) rfl).alloc (.cells (ttc [⟨⟨#[98]⟩, 200, 200, 2, 0, some ⟨w2.heap.size + 1, 0, none⟩, 2, [⟨1, run2, 0⟩, ⟨3, lock2, 0⟩]⟩]).toArray 57)
  have S2 := Lies.newCells' ((w2.alloc (.cells #[.int .i64 proto, .slice ca 1 cc, .slice ha 1 hc, .slice ta 1 tc] 25)).alloc (.cells (ptc [⟨1, run2, 0⟩, ⟨3, lock2, 0⟩]).toArray 94)) (ttc [⟨⟨#[98]⟩, 200, 200, 2, 0, some ⟨w2.heap.size + 1, 0, none⟩, 2, [⟨1, run2, 0⟩, ⟨3, lock2, 0⟩]⟩]) 57
  rw [show ((w2.alloc (.cells #[.int .i64 proto, .slice ca 1 cc, .slice ha 1 hc, .slice ta 1 tc] 25)).alloc (.cells (ptc [⟨1, run2, 0⟩, ⟨3, lock2, 0⟩]).toArray 94)).heap.size = w2.heap.size + 1 + 1 by simp] at S2
  have O2 := hidp (ttc_one [⟨⟨#[98]⟩, 200, 200, 2, 0, some ⟨w2.heap.size + 1, 0, none⟩, 2, [⟨1, run2, 0⟩, ⟨3, lock2, 0⟩]⟩])
  have hown := own_turned kt.own T0 (by simp)
  have Z2 : Hid (w.heap.size + 2 ≤ (((w2.alloc (.cells #[.int .i64 proto, .slice ca 1 cc, .slice ha 1 hc, .slice ta 1 tc] 25)).alloc (.cells (ptc [⟨1, run2, 0⟩, ⟨3, lock2, 0⟩]).toArray 94)).alloc (.cells (ttc [⟨⟨#[98]⟩, 200, 200, 2, 0, some ⟨w2.heap.size + 1, 0, none⟩, 2, [⟨1, run2, 0⟩, ⟨3, lock2, 0⟩]⟩]).toArray 57)).heap.size) := hidp (Nat.le_trans hsz T0.size)
  have HS2 := hidp S2
  have HT0 := hidp T0
  have HX0 := hidp X0
  have HX1 := hidp X1
  clear S2 T0 X0 X1
  go_wp2_with (at_builtin; go_loud ((refine wpList_app2 _ rfl (.tmp 20) (.tmp 27) 23 rfl (w.heap.size + 2) 57 i0 _ 6 72 Tryz.underlying23 hi0 hy0 hy1 hy2 rfl (by decide) ta 1 tc _ rfl hown _ _ 1 1 (ttc [⟨⟨#[98]⟩, 200, 200, 2, 0, some ⟨w2.heap.size + 1, 0, none⟩, 2, [⟨1, run2, 0⟩, ⟨3, lock2, 0⟩]⟩]) rfl (by simp) rfl HS2.out O2.out (by decide) (by decide) Z2.out ?_; intro A' c' w3 happ; have X0 := HX0.out.turned happ.turned (fun hf => by have := (Hft.out _ hf).2; omega); have Y0 := (P0.turned HT0.out (by simp)).turned happ.turned (fun hf => by have := (Hft.out _ hf).1; omega); obtain ⟨f0, f1, f2, f3⟩ := ZF4 X0; obtain ⟨e0, e1, e2, e3⟩ := Z4 X0; obtain ⟨p0, p1, p2, p3⟩ := ZF4 Y0; obtain ⟨q0, q1, q2, q3⟩ := Z4 Y0)))
  have TS := (Turned.refl [w2.heap.size] w3).setCell (p := ⟨w2.heap.size, 3, none⟩) (.inl (by simp)) (.slice A' 2 c')
  have TP := put4_turned (w3.setCell ⟨w2.heap.size, 3, none⟩ (.slice A' 2 c')) w.heap.size (.int .i64 proto) (.slice ca 1 cc) (.slice ha 1 hc) (.slice A' 2 c')
  have PB := put4_bk (v0 := .int .i64 proto) (v1 := .slice ca 1 cc) (v2 := .slice ha 1 hc) (v3 := .slice A' 2 c') (Y0.turned TS (by simp; omega))
  have gV : ∀ k, k < w2.heap.size → k ∉ [w2.heap.size] := fun k hk hm => by simp at hm; omega
  have gH : ∀ k, w.heap.size + 1 ≤ k → k ∉ [w.heap.size] := fun k hk hm => by simp at hm; omega
  have kc5 := (((kc.turned HT0.out (by simp)).turned happ.turned (fun k hk => (N1.out k hk).1)).turned TS (fun k hk => gV k (N1.out k hk).2.2)).turned TP (fun k hk => gH k (by have := (N1.out k hk).2.1; omega))
  have kh5 := (((kh.turned HT0.out (by simp)).turned happ.turned (fun k hk => (N2.out k hk).1)).turned TS (fun k hk => gV k (N2.out k hk).2.2)).turned TP (fun k hk => gH k (by have := (N2.out k hk).2.1; omega))
  have P5 := parts_lit (((P1.turned HT0.out (by simp)).turned happ.turned (fun hf => by have := (Hft.out _ hf).1; omega)).turned TS (gV _ (by omega)) |>.turned TP (gH _ (by omega)))
  have Q5 := parts_lit ((HX1.out.turned happ.turned (fun hf => by have := (Hft.out _ hf).2; omega)).turned TS (by simp) |>.turned TP (gH _ (by omega)))
  have o3 := kt.app (ts := [⟨⟨#[98]⟩, 200, 200, 2, 0, some ⟨w2.heap.size + 1, 0, none⟩, 2, [⟨1, run2, 0⟩, ⟨3, lock2, 0⟩]⟩]) happ rfl
  have hz5 := HT0.out.size
  have o5 := (o3.turned TS (fun k hk => by
    rcases happ.fps k hk with h | h
    · exact gV k (Hft.out k h).2
    · intro hm; simp at hm h; omega)).turned TP (fun k hk => gH k (by have := (own_fp o3.own k hk).1; omega))
  have hall := (((hbe.trans (HT0.out.below hbe.size (by simp))).trans (happ.turned.below (Nat.le_trans hbe.size hz5) (fun k hk => by have := (Hft.out k hk).1; omega))).trans (TS.below (Nat.le_trans (Nat.le_trans hbe.size hz5) happ.turned.size) (by simp; omega))).trans (TP.below (Nat.le_trans (Nat.le_trans (Nat.le_trans hbe.size hz5) happ.turned.size) TS.size) (by simp))
  have W2 : ∀ x y : Int, I64 x → I64 y → ∀ p ∈ [PartM.mk 1 x 0, PartM.mk 3 y 0], p.wf := fun x y hx hy p hp => by
    simp at hp
    rcases hp with rfl | rfl
    · exact ⟨(by show I64 1; decide), hx, (by show I64 0; decide)⟩
    · exact ⟨(by show I64 3; decide), hy, (by show I64 0; decide)⟩
  have SL2 : ∀ a : Addr, SlOk (some a) 2 2 := fun a => ⟨(fun e => by cases e), Nat.le_refl _, by decide⟩
  have K1 := TaskOk.mk (w := put4 (w3.setCell ⟨w2.heap.size, 3, none⟩ (.slice A' 2 c')) w.heap.size (.int .i64 proto) (.slice ca 1 cc) (.slice ha 1 hc) (.slice A' 2 c')) (t := ⟨⟨#[97]⟩, 100, 100, 1, 0, some ⟨w.heap.size + 1, 0, none⟩, 2, [⟨1, run, 0⟩, ⟨3, lock, 0⟩]⟩) (by show 1 ≤ maxLen; decide) (by show I64 100; decide) (by show I64 100; decide) (by show I64 1; decide) (by show I64 0; decide) (SL2 _) P5 (W2 _ _ h1 h2)
  have K2 := TaskOk.mk (w := put4 (w3.setCell ⟨w2.heap.size, 3, none⟩ (.slice A' 2 c')) w.heap.size (.int .i64 proto) (.slice ca 1 cc) (.slice ha 1 hc) (.slice A' 2 c')) (t := ⟨⟨#[98]⟩, 200, 200, 2, 0, some ⟨w2.heap.size + 1, 0, none⟩, 2, [⟨1, run2, 0⟩, ⟨3, lock2, 0⟩]⟩) (by show 1 ≤ maxLen; decide) (by show I64 200; decide) (by show I64 200; decide) (by show I64 2; decide) (by show I64 0; decide) (SL2 _) Q5 (W2 _ _ h3 h4)
  have KA : TasksOk (put4 (w3.setCell ⟨w2.heap.size, 3, none⟩ (.slice A' 2 c')) w.heap.size (.int .i64 proto) (.slice ca 1 cc) (.slice ha 1 hc) (.slice A' 2 c')) A' c' [⟨⟨#[97]⟩, 100, 100, 1, 0, some ⟨w.heap.size + 1, 0, none⟩, 2, [⟨1, run, 0⟩, ⟨3, lock, 0⟩]⟩, ⟨⟨#[98]⟩, 200, 200, 2, 0, some ⟨w2.heap.size + 1, 0, none⟩, 2, [⟨1, run2, 0⟩, ⟨3, lock2, 0⟩]⟩] := ⟨o5.sl, o5.tasks, fun t ht => by
    simp only [List.mem_cons, List.not_mem_nil, or_false] at ht
    rcases ht with rfl | rfl
    · exact K1
    · exact K2⟩
  obtain ⟨r0, r1, r2, r3⟩ := Z4 PB
  unfold put4 at r0 r1 r2 r3 kc5 kh5 KA hall
  refine bodyPost_ret (v := .agg #[.int .i64 proto, .slice ca 1 cc, .slice ha 1 hc, .slice A' 2 c']) (by simp [results, Tryz.results27, go_sem, r0, r1, r2, r3]) rfl ⟨⟨⟨proto, ca, cc, [1], ha, hc, [0], A', c', [⟨⟨#[97]⟩, 100, 100, 1, 0, some ⟨w.heap.size + 1, 0, none⟩, 2, [⟨1, run, 0⟩, ⟨3, lock, 0⟩]⟩, ⟨⟨#[98]⟩, 200, 200, 2, 0, some ⟨w2.heap.size + 1, 0, none⟩, 2, [⟨1, run2, 0⟩, ⟨3, lock2, 0⟩]⟩]⟩, rfl, ⟨h0, kc5, kh5, KA⟩, rfl, rfl, rfl, _, _, _, _, rfl⟩, hall⟩

end Go.Proofs.YtppgameimddimaaGreat

namespace Go.Proofs.YtppgameimddimaaGreat
open Go.ChangeShapes Go.WideShapes Go.ChangeAt Go.RowKit
set_option linter.unusedVariables false
theorem okS_mk {s : SetR} (h1 : inB s.proto 1 3 = true) (h2 : inB s.cores.length 1 3 = true) (h3 : allB s.cores 1 3 = true) (h4 : s.homes.length ≤ 4) (h5 : allB s.homes 0 ((s.cores.length : Int) - 1) = true) (h6 : 1 ≤ s.tasks.length) (h7 : s.tasks.length ≤ 6)
    (ht : ∀ k, k < s.tasks.length → formB (s.tasks.getD k default) = true ∧ inB (s.tasks.getD k default).cl 0 ((s.cores.length : Int) - 1) = true ∧ takenB (s.tasks.take k) (s.tasks.getD k default) = false ∧ partsB (s.tasks.getD k default).parts s.homes.length = true) : okS s = true := by
  refine (okS_iff s).2 ⟨?_, fun k hk => ?_⟩
  · unfold frameV
    rw [if_neg (by simp [h1]), if_neg (by simp [h2]), if_neg (by simp [h3]), if_neg (by omega), if_neg (by simp [h5]), if_neg (by omega), if_neg (by omega)]
  · obtain ⟨a, b, c, d⟩ := ht k hk
    unfold taskE
    rw [if_neg (by rw [a]; decide), if_neg (by rw [b]; decide), if_neg (by rw [c]; decide), if_neg (by rw [d]; decide)]
theorem nameA : nameB ⟨#[97]⟩ = true := by decide +kernel
theorem nameBb : nameB ⟨#[98]⟩ = true := by decide +kernel
theorem namesAB : ((⟨#[97]⟩ : ByteArray).toList == (⟨#[98]⟩ : ByteArray).toList) = false := by decide +kernel
theorem okTwo {S : SetR} {run lock run2 lock2 : Int} {proto : Int} (hp : S.proto = proto) (hc : S.cores = [1]) (hh : S.homes = [0]) {a1 a2 : Option Addr} {c1 c2 : Nat} (ht : S.tasks = [⟨⟨#[97]⟩, 100, 100, 1, 0, a1, c1, [⟨1, run, 0⟩, ⟨3, lock, 0⟩]⟩, ⟨⟨#[98]⟩, 200, 200, 2, 0, a2, c2, [⟨1, run2, 0⟩, ⟨3, lock2, 0⟩]⟩])
    (k0 : 1 ≤ proto ∧ proto ≤ 3) (k1 : 1 ≤ run ∧ run ≤ 60) (k2 : 1 ≤ lock ∧ lock ≤ 60) (k3 : 1 ≤ run2 ∧ run2 ≤ 60) (k4 : 1 ≤ lock2 ∧ lock2 ≤ 60) : okS S = true := by
  refine okS_mk (by rw [hp]; exact inB_true.2 k0) (by rw [hc]; decide) (by rw [hc]; decide) (by rw [hh]; decide) (by rw [hh, hc]; decide) (by rw [ht]; simp) (by rw [ht]; simp) (fun k hk => ?_)
  rw [ht] at hk
  have hp : ∀ x y : Int, 1 ≤ x ∧ x ≤ 60 → 1 ≤ y ∧ y ≤ 60 → partsB [⟨1, x, 0⟩, ⟨3, y, 0⟩] 1 = true := fun x y hx hy => by
    have e1 : inB x 1 60 = true := inB_true.2 hx
    have e2 : inB y 1 60 = true := inB_true.2 hy
    have e3 : inB 0 0 0 = true := by decide
    have e4 : inB 2 1 6 = true := by decide
    simp [partsB, partB, e1, e2, e3, e4]
  match k, hk with
  | 0, _ =>
    rw [ht, hc, hh]
    refine ⟨?_, (by show inB 0 0 0 = true; decide), (by simp [takenB]), hp _ _ k1 k2⟩
    show formB _ = true
    simp only [List.getD_cons_zero, formB, nameA]
    decide
  | 1, _ =>
    rw [ht, hc, hh]
    refine ⟨?_, (by show inB 0 0 0 = true; decide), ?_, hp _ _ k3 k4⟩
    · show formB _ = true
      simp only [List.getD_cons_succ, List.getD_cons_zero, formB, nameBb]
      decide
    · simp [takenB, likeB]
end Go.Proofs.YtppgameimddimaaGreat

namespace Go.Proofs.YtppgameimddimaaGreat
open Go.ChangeShapes Go.WideShapes Go.ChangeAt Go.RowKit
set_option linter.unusedVariables false
set_option linter.unusedSimpArgs false
def k23 (L : List AL) (c : Int) : Ls := ⟨1, [1, 2], [0, 0], [1], [0], L, c⟩
theorem k23_of {S : SetR} (hS : twoS23 S 1 1 1 1 1) : lsOf S = k23 [] 0 := by
  obtain ⟨p1, p2, p3, a1, a2, c1, c2, p4⟩ := hS
  have hok := okTwo p1 p2 p3 p4 (by decide) (by decide) (by decide) (by decide) (by decide)
  unfold lsOf
  rw [if_pos hok]
  unfold lsNew
  rw [p1, p2, p3, p4]
  rfl
theorem k23_ok {S : SetR} (hS : twoS23 S 1 1 1 1 1) : LsOk (k23 [] 0) := by
  rw [← k23_of hS]
  obtain ⟨p1, p2, p3, a1, a2, c1, c2, p4⟩ := hS
  have hok := okTwo p1 p2 p3 p4 (by decide) (by decide) (by decide) (by decide) (by decide)
  unfold lsOf
  rw [if_pos hok]
  exact lsNew_ok (Good.of hok)
theorem k23_1 : askC (k23 [] 0) 1 0 = 0 ∧ askS (k23 [] 0) 1 0 = k23 [⟨1, 0, 1, false⟩] 1 := by decide +kernel
theorem k23_2 : askC (k23 [⟨1, 0, 1, false⟩] 1) 0 0 = 0 ∧ askS (k23 [⟨1, 0, 1, false⟩] 1) 0 0 = k23 [⟨1, 0, 1, false⟩, ⟨0, 0, 2, false⟩] 2 := by decide +kernel
theorem k23_3 : askC (k23 [⟨1, 0, 1, false⟩, ⟨0, 0, 2, false⟩] 2) 0 0 = 17 ∧ askS (k23 [⟨1, 0, 1, false⟩, ⟨0, 0, 2, false⟩] 2) 0 0 = k23 [⟨1, 0, 1, false⟩, ⟨0, 0, 2, false⟩] 2 := by decide +kernel
theorem k23_4 : grantLC (k23 [⟨1, 0, 1, false⟩, ⟨0, 0, 2, false⟩] 2) = [1] ∧ grantC (k23 [⟨1, 0, 1, false⟩, ⟨0, 0, 2, false⟩] 2) = k23 [⟨1, 0, 1, true⟩, ⟨0, 0, 2, false⟩] 2 := by decide +kernel
theorem k23_5 : holderV (k23 [⟨1, 0, 1, true⟩, ⟨0, 0, 2, false⟩] 2) 0 = .tuple #[.int .i64 1, .bool true] := rfl
theorem k23_6 : waitS (k23 [⟨1, 0, 1, true⟩, ⟨0, 0, 2, false⟩] 2) = [0] := by decide +kernel
theorem k23_7 : leaveC (k23 [⟨1, 0, 1, true⟩, ⟨0, 0, 2, false⟩] 2) 1 = 0 ∧ leaveS (k23 [⟨1, 0, 1, true⟩, ⟨0, 0, 2, false⟩] 2) 1 = k23 [⟨0, 0, 2, false⟩] 2 := by decide +kernel
theorem k23_8 : leaveC (k23 [⟨0, 0, 2, false⟩] 2) 1 = 13 ∧ leaveS (k23 [⟨0, 0, 2, false⟩] 2) 1 = k23 [⟨0, 0, 2, false⟩] 2 := by decide +kernel
theorem k23_9 : grantLC (k23 [⟨0, 0, 2, false⟩] 2) = [0] ∧ grantC (k23 [⟨0, 0, 2, false⟩] 2) = k23 [⟨0, 0, 2, true⟩] 2 := by decide +kernel
theorem k23_10 : holdsS (k23 [⟨0, 0, 2, true⟩] 2) 0 = true ∧ boostS (k23 [⟨0, 0, 2, true⟩] 2) 0 = 2 ∧ boostS (k23 [⟨0, 0, 2, true⟩] 2) 1 = 0 ∧ askC (k23 [⟨0, 0, 2, true⟩] 2) 5 0 = 14 ∧ askC (k23 [⟨0, 0, 2, true⟩] 2) 1 3 = 16 ∧ askS (k23 [⟨0, 0, 2, true⟩] 2) 5 0 = k23 [⟨0, 0, 2, true⟩] 2 ∧ askS (k23 [⟨0, 0, 2, true⟩] 2) 1 3 = k23 [⟨0, 0, 2, true⟩] 2 := by decide +kernel
set_option maxHeartbeats 2000000 in
set_option maxRecDepth 100000 in
theorem known23_any (w : World) : Calls Tryz.prog 8 #[] w fun e w' => e = .returned (.bool true) ∧ Below w.heap.size w w' := by
  go_enter Tryz.func8, Tryz.ntmps8
  go_wp2_with fail
  refine (two23_any 1 1 1 1 1 _ (by decide) (by decide) (by decide) (by decide) (by decide)).mono ?_
  rintro e w1 ⟨⟨S, rfl, hs, hS⟩, hb⟩
  have CN := li_new w w1 S hs hb
  rw [k23_of hS] at CN
  have ok0 := hidp (k23_ok hS)
  clear hS hs hb
  go_wp2_with fail
  refine CN.mono ?_
  rintro e w2 ⟨bl, F0, rfl, L0, _, _, _⟩
  have C1 := li_ask L0 (t := 1) (r := 0) (by decide) (by decide) (.inl rfl)
  rw [k23_1.1, k23_1.2] at C1
  clear L0 CN
  go_wp2_with fail
  refine C1.mono ?_
  rintro e w3 ⟨rfl, F1, L1, _⟩
  have C2 := li_ask L1 (t := 0) (r := 0) (by decide) (by decide) (.inl rfl)
  rw [k23_2.1, k23_2.2] at C2
  clear L1 C1
  go_wp2_with fail
  refine C2.mono ?_
  rintro e w4 ⟨rfl, F2, L2, _⟩
  have C3 := li_ask L2 (t := 0) (r := 0) (by decide) (by decide) (.inl rfl)
  rw [k23_3.1, k23_3.2] at C3
  clear L2 C2
  go_wp2_with fail
  refine C3.mono ?_
  rintro e w5 ⟨rfl, F3, L3, _⟩
  have C4 := li_grant L3 (by decide)
  rw [grantL_is L3.ok, grantS_is L3.ok, k23_4.1, k23_4.2] at C4
  clear L3 C3
  go_wp2_with fail
  refine C4.mono ?_
  rintro e w6 ⟨A4, n4, c4, F4, rfl, O4, L4, _, A4p⟩
  have hn4 : n4 = 1 := O4.2.1
  subst hn4
  have C5 := li_holder L4 0
  rw [k23_5] at C5
  clear C4
  go_wp2_with fail
  refine C5.mono ?_
  rintro e w7 ⟨rfl, hb5⟩
  have L5 := L4.over hb5
  have O5 := O4.turned (Turned.of_below hb5 []) (by simp)
  have C6 := li_waiting L5
  rw [k23_6] at C6
  clear C5 L4 O4 hb5
  go_wp2_with fail
  refine C6.mono ?_
  rintro e w8 ⟨A6, n6, c6, rfl, O6, hb6⟩
  have hn6 : n6 = 1 := O6.2.1
  subst hn6
  have A6p : ∀ q ∈ bl :: F4, q ∉ fp A6 := fun q hq hm => by have := L5.lt q hq; have := (own_fp O6.1 q hm).1; omega
  have L6 := L5.over hb6
  have O5' := O5.turned (Turned.of_below hb6 []) (by simp)
  have C7 := li_leave L6 1
  rw [k23_7.1, k23_7.2] at C7
  clear C6 L5 O5 hb6
  go_wp2_with fail
  refine C7.mono ?_
  rintro e w9 ⟨rfl, F7, L7, S7⟩
  obtain ⟨O7, A7p⟩ := S7.row O5' A4p
  obtain ⟨O7', A7p'⟩ := S7.row O6 A6p
  have C8 := li_leave L7 1
  rw [k23_8.1, k23_8.2] at C8
  clear C7 L6 O5' O6 A4p A6p S7
  go_wp2_with fail
  refine C8.mono ?_
  rintro e w10 ⟨rfl, F8, L8, S8⟩
  obtain ⟨O8, A8p⟩ := S8.row O7 A7p
  obtain ⟨O8', A8p'⟩ := S8.row O7' A7p'
  have C9 := li_grant L8 (by decide)
  rw [grantL_is L8.ok, grantS_is L8.ok, k23_9.1, k23_9.2] at C9
  clear C8 L7 O7 O7' A7p A7p' S8
  go_wp2_with fail
  refine C9.mono ?_
  rintro e w11 ⟨A9, n9, c9, F9, rfl, O9, L9, S9, A9p⟩
  have hn9 : n9 = 1 := O9.2.1
  subst hn9
  obtain ⟨O9a, _⟩ := S9.row O8 A8p
  obtain ⟨O9b, _⟩ := S9.row O8' A8p'
  clear O8 O8' A8p A8p' S9 L8 C9
  obtain ⟨g4, hg4, x4⟩ := own_cell O9a (i := 0) (by simp)
  obtain ⟨g6, hg6, x6⟩ := own_cell O9b (i := 0) (by simp)
  obtain ⟨g9, hg9, x9⟩ := own_cell O9 (i := 0) (by simp)
  subst hg4; subst hg6; subst hg9
  simp only [List.getD_cons_zero] at x4 x6 x9
  have LD := L9
  have CH := li_holds LD 0
  have CB := li_boost LD 0
  have CB2 := li_boost LD 1
  have CA := li_ask_no LD (t := 5) (r := 0) (by decide)
  have CA2 := li_ask_no LD (t := 1) (r := 3) (by decide)
  rw [k23_10.1] at CH
  rw [k23_10.2.1] at CB
  rw [k23_10.2.2.1] at CB2
  rw [k23_10.2.2.2.1] at CA
  rw [k23_10.2.2.2.2.1] at CA2
  have hbe := L9.below
  have HBE := hidp hbe
  clear O9a O9b O9 L9 LD hbe A9p
  go_wp2_with (first
      | (go_at_call 21; refine CH.mono ?_; rintro e u ⟨rfl, rfl⟩)
      | (go_at_call 26; (first | (with_reducible refine CB.mono ?_) | (with_reducible refine CB2.mono ?_)); rintro e u ⟨rfl, rfl⟩)
      | (go_at_call 12; (first | (with_reducible refine CA.mono ?_) | (with_reducible refine CA2.mono ?_)); rintro e u ⟨rfl, rfl⟩))
  go_ret
  exact ⟨rfl, HBE.out⟩
end Go.Proofs.YtppgameimddimaaGreat
