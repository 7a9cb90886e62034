/- Memory that is read, and rows of the call's own that are appended to: plain laws over any program. Imports nothing of the dump's functions. -/
import Derived.Test.YtppgameimddimaaGreatRows2
import Derived.Maps.AppendAt
import Derived.Deep.AppendLies
import Derived.Deep.RegionLaw
namespace Go.Proofs.YtppgameimddimaaGreat
open Go.ChangeShapes Go.WideShapes Go.ChangeAt Go.RowKit

/-- below block B, from p on, lie these cells -/
def Lies (B : Nat) (w : World) (p : Option Addr) (cs : List Value) : Prop :=
  cs = [] ∨ ∃ b off, p = some ⟨b, off, none⟩ ∧ b < B ∧ ∀ j v, cs[j]? = some v → w.cell? ⟨b, off + j, none⟩ = some v

section
variable {B : Nat} {w w' : World} {p : Option Addr} {cs : List Value}
theorem Lies.keep (h : Lies B w p cs) (hk : ∀ q : Addr, q.block < B → w'.cell? q = w.cell? q) : Lies B w' p cs := by
  rcases h with h | ⟨b, off, e, hb, hc⟩
  · exact .inl h
  · exact .inr ⟨b, off, e, hb, fun j v hv => (hk _ hb).trans (hc j v hv)⟩
theorem Lies.mono {B' : Nat} (h : Lies B w p cs) (hB : B ≤ B') : Lies B' w p cs := by
  rcases h with h | ⟨b, off, e, hb, hc⟩
  · exact .inl h
  · exact .inr ⟨b, off, e, by omega, hc⟩
theorem Lies.below (h : Lies B w p cs) (hb : Below B w w') : Lies B w' p cs := h.keep fun _ hq => hb.cell hq
theorem Lies.drew (h : Lies B w p cs) : Lies B w.drew p cs := h
theorem Lies.drewN (h : Lies B w p cs) (n : Nat) : Lies B (w.drewN n) p cs := h
theorem Lies.alloc (h : Lies B w p cs) (hB : B ≤ w.heap.size) (o : Obj) : Lies B (w.alloc o) p cs := h.below ((Below.refl _ _).alloc hB o)
theorem Lies.setCell (h : Lies B w p cs) {q : Addr} (hq : B ≤ q.block) (u : Value) : Lies B (w.setCell q u) p cs := h.below ((Below.refl _ _).setCell hq u)
theorem Lies.grown (h : Lies B w p cs) {row : Option Nat} (hg : w.grownBy w' row) (hB : B ≤ w.heap.size) (hr : ∀ k, row = some k → B ≤ k) : Lies B w' p cs := h.below ((Below.refl _ _).grown hg hB hr)
theorem Lies.drop {b off : Nat} (h : Lies B w (some ⟨b, off, none⟩) cs) (k : Nat) : Lies B w (some ⟨b, off + k, none⟩) (cs.drop k) := by
  rcases h with rfl | ⟨b', off', e, hb, hc⟩
  · exact .inl (by simp)
  · obtain ⟨rfl, rfl⟩ : b = b' ∧ off = off' := by injection e with e; injection e with e1 e2; exact ⟨e1, e2⟩
    refine .inr ⟨b, off + k, rfl, hb, fun j v hv => ?_⟩
    rw [List.getElem?_drop] at hv
    have := hc _ _ hv
    rwa [← Nat.add_assoc] at this
theorem Lies.take (h : Lies B w p cs) (k : Nat) : Lies B w p (cs.take k) := by
  rcases h with rfl | ⟨b, off, e, hb, hc⟩
  · exact .inl (by simp)
  · refine .inr ⟨b, off, e, hb, fun j v hv => hc j v ?_⟩
    rw [List.getElem?_take] at hv
    split at hv
    · exact hv
    · cases hv
theorem Lies.of_own {base : Nat} {e : TypeId} {size n c : Nat} (h : w.ownsRow base e size (.slice p n c) n cs) : Lies w.heap.size w p cs := by
  by_cases hn : 0 < n
  · obtain ⟨g, cap, hv, _, hlt⟩ := h.form hn
    injection hv with hp
    subst hp
    exact .inr ⟨g, 0, rfl, hlt, fun j v hj => by have := h.cells (g := g) rfl j v hj; simpa [Addr.add_lit] using this⟩
  · have h1 := h.1
    have hn0 : n = 0 := by omega
    subst hn0
    have : cs.length = 0 := by simpa using h1
    exact .inl (List.eq_nil_of_length_eq_zero this)
end
theorem Lies.new1 (w : World) (x : Value) (T : TypeId) : Lies (w.heap.size + 1) (w.alloc (.cells #[x] T)) (some ⟨w.heap.size, 0, none⟩) [x] := by
  refine .inr ⟨_, 0, rfl, by omega, fun j v hj => ?_⟩
  match j, hj with
  | 0, hj => simpa using hj
theorem Row.lies {w : World} {k : IntKind} {a : Option Addr} {zs : List Int} (h : Row w k a zs) : Lies w.heap.size w a (zs.map (Value.int k)) := by
  rcases h with rfl | ⟨b, off, rfl, h⟩
  · exact .inl rfl
  · by_cases h0 : zs = []
    · subst h0; exact .inl rfl
    · have hp : 0 < zs.length := List.length_pos_iff.2 h0
      refine .inr ⟨b, off, rfl, cell_lt (h 0 hp), fun j v hj => ?_⟩
      rw [List.getElem?_map] at hj
      have hl : j < zs.length := by
        by_cases x : j < zs.length
        · exact x
        · rw [List.getElem?_eq_none (by omega)] at hj; cases hj
      rw [h j hl]
      simp [hl] at hj
      simp [List.getD, hl, hj]
theorem Lies.row {B : Nat} {w : World} {k : IntKind} {a : Option Addr} {zs : List Int} (h : Lies B w a (zs.map (Value.int k))) : Row w k a zs := by
  rcases h with h | ⟨b, off, rfl, hb, hc⟩
  · exact .inl (by simpa using h)
  · exact .inr ⟨b, off, rfl, fun j hj => hc j _ (by simp [List.getD, hj])⟩

/-- An append onto a row of the call's own, of whatever lies somewhere (nothing, too). -/
theorem run_app {P : Program} (w : World) (base : Nat) (t ty e : TypeId) (i : TypeInfo) (z : Value) (size bytes : Nat) (ht : P.underlying t = some (.slice e)) (hi : P.info? e = some i) (hz : i.zero = some z)
    (hsize : i.size = size) (hby : i.bytes = bytes) (hzs : z.cells.size = size) (hsz : 0 < size)
    (v : Value) (n : Nat) (xs : List Value) (hown : w.ownsRow base e size v n xs)
    (B : Nat) (p : Option Addr) (m c : Nat) (news : List Value) (hp : p = none → m = 0 ∧ c = 0) (hl : news.length = m * size) (hs : Lies B w p news) (h1 : ∀ u ∈ news, u.oneCell' = true)
    (h63 : n + m ≤ maxLen) (hbytes : (n + m) * bytes ≤ 140737488355328) (hbase : base ≤ w.heap.size) :
    ∃ v' w', (Builtin.append_ #[t, t] ty #[v, .slice p m c]).run P w = .ok v' w' ∧ w'.ownsRow base e size v' (n + m) (xs ++ news) ∧ w.grownBy w' v.ownBlock ∧ (v'.ownBlock = v.ownBlock ∨ v'.ownBlock = some w.heap.size) := by
  rcases p with _ | a
  · obtain ⟨hm, hc0⟩ := hp rfl
    subst hm
    subst hc0
    have hn : news = [] := List.eq_nil_of_length_eq_zero (by simpa using hl)
    subst hn
    have hrun := run_append_owned_none (P := P) (w := w) base t ty e i size ht hi v n xs hown
    exact ⟨v, w, hrun, by simpa using hown, World.grownBy.refl w _, .inl rfl⟩
  · have hc : ∀ j u, news[j]? = some u → w.cell? (a.add j) = some u := by
      intro j u hu
      rcases hs with rfl | ⟨b, off, e, _, hc⟩
      · simp at hu
      · injection e with e; subst e
        have := hc j u hu
        rwa [Addr.add_lit]
    obtain ⟨v', w', hrun, h2, h3, _, h5⟩ := run_append_own_at (P := P) w base t ty e i z size bytes ht hi hz hsize hby hzs hsz v n xs hown a m c news hl hc h1 h63 hbytes hbase
    exact ⟨v', w', hrun, h2, h3, h5⟩

/-- The same as one operation of a walk. -/
theorem wp_app {P : Program} (w : World) {o : Oper} {a : Act} {K : Act → World → Prop} {Q : Exit → Act → World → Prop} (s x : Operand) (t : TypeId)
    (ho : o.op = .call { callee := .builtin .append, args := #[s, x], argTypes := #[t, t] })
    (base : Nat) (e : TypeId) (i : TypeInfo) (z : Value) (size bytes : Nat) (ht : P.underlying t = some (.slice e)) (hi : P.info? e = some i) (hz : i.zero = some z)
    (hsize : i.size = size) (hby : i.bytes = bytes) (hzs : z.cells.size = size) (hsz : 0 < size)
    (v : Value) (n : Nat) (xs : List Value) (hsv : a.eval s = v) (hown : w.ownsRow base e size v n xs)
    (B : Nat) (p : Option Addr) (m c : Nat) (news : List Value) (hx : a.eval x = .slice p m c) (hp : p = none → m = 0 ∧ c = 0) (hl : news.length = m * size) (hs : Lies B w p news) (h1 : ∀ u ∈ news, u.oneCell' = true)
    (h63 : n + m ≤ maxLen) (hbytes : (n + m) * bytes ≤ 140737488355328) (hbase : base ≤ w.heap.size)
    (h : ∀ v' w', w'.ownsRow base e size v' (n + m) (xs ++ news) → w.grownBy w' v.ownBlock → (v'.ownBlock = v.ownBlock ∨ v'.ownBlock = some w.heap.size) → K (a.put o.dst v') w') : o.wp P a w K Q := by
  obtain ⟨v', w', hrun, h2, h3, h4⟩ := run_app (P := P) w base t o.type e i z size bytes ht hi hz hsize hby hzs hsz v n xs hown B p m c news hp hl hs h1 h63 hbytes hbase
  unfold Oper.wp execOp
  simp only [ho, resolve, invoke, builtin, Sem.run_bind, Sem.run_pure, Result.andThen_ok, List.map_toArray, List.map_cons, List.map_nil, hsv, hx, hrun]
  exact h v' w' h2 h3 h4
theorem wpList_app {P : Program} (w : World) {ops : Array Oper} {rest : List Oper} {o : Oper} {a : Act} {Q : Exit → Act → World → Prop} (hgd : o.guard = none) (s x : Operand) (t : TypeId)
    (ho : o.op = .call { callee := .builtin .append, args := #[s, x], argTypes := #[t, t] })
    (base : Nat) (e : TypeId) (i : TypeInfo) (z : Value) (size bytes : Nat) (ht : P.underlying t = some (.slice e)) (hi : P.info? e = some i) (hz : i.zero = some z)
    (hsize : i.size = size) (hby : i.bytes = bytes) (hzs : z.cells.size = size) (hsz : 0 < size)
    (v : Value) (n : Nat) (xs : List Value) (hsv : a.eval s = v) (hown : w.ownsRow base e size v n xs)
    (B : Nat) (p : Option Addr) (m c : Nat) (news : List Value) (hx : a.eval x = .slice p m c) (hp : p = none → m = 0 ∧ c = 0) (hl : news.length = m * size) (hs : Lies B w p news) (h1 : ∀ u ∈ news, u.oneCell' = true)
    (h63 : n + m ≤ maxLen) (hbytes : (n + m) * bytes ≤ 140737488355328) (hbase : base ≤ w.heap.size)
    (h : ∀ v' w', w'.ownsRow base e size v' (n + m) (xs ++ news) → w.grownBy w' v.ownBlock → (v'.ownBlock = v.ownBlock ∨ v'.ownBlock = some w.heap.size) → wpList P ops Q rest (a.put o.dst v') w') : wpList P ops Q (o :: rest) a w :=
  wpList_plain hgd fun _ hK => wp_app w s x t ho base e i z size bytes ht hi hz hsize hby hzs hsz v n xs hsv hown B p m c news hx hp hl hs h1 h63 hbytes hbase fun v' w' h2 h3 h4 => hK _ _ (h v' w' h2 h3 h4)
theorem step_app {P : Program} (w : World) {ops : Array Oper} {o : Oper} {a : Act} {K : Act → World → Prop} {Q : Exit → Act → World → Prop} {E : Prop} (hgd : o.guard = none) (s x : Operand) (t : TypeId)
    (ho : o.op = .call { callee := .builtin .append, args := #[s, x], argTypes := #[t, t] })
    (base : Nat) (e : TypeId) (i : TypeInfo) (z : Value) (size bytes : Nat) (ht : P.underlying t = some (.slice e)) (hi : P.info? e = some i) (hz : i.zero = some z)
    (hsize : i.size = size) (hby : i.bytes = bytes) (hzs : z.cells.size = size) (hsz : 0 < size)
    (v : Value) (n : Nat) (xs : List Value) (hsv : a.eval s = v) (hown : w.ownsRow base e size v n xs)
    (B : Nat) (p : Option Addr) (m c : Nat) (news : List Value) (hx : a.eval x = .slice p m c) (hp : p = none → m = 0 ∧ c = 0) (hl : news.length = m * size) (hs : Lies B w p news) (h1 : ∀ u ∈ news, u.oneCell' = true)
    (h63 : n + m ≤ maxLen) (hbytes : (n + m) * bytes ≤ 140737488355328) (hbase : base ≤ w.heap.size)
    (h : ∀ v' w', w'.ownsRow base e size v' (n + m) (xs ++ news) → w.grownBy w' v.ownBlock → (v'.ownBlock = v.ownBlock ∨ v'.ownBlock = some w.heap.size) → K (a.put o.dst v') w') :
    if Region.wanted o (yielded ops a.tmps) = true then Oper.wp P o a w K Q else E := by
  have hw : Region.wanted o (yielded ops a.tmps) = true := by simp [Region.wanted, hgd]
  rw [if_pos hw]
  exact wp_app w s x t ho base e i z size bytes ht hi hz hsize hby hzs hsz v n xs hsv hown B p m c news hx hp hl hs h1 h63 hbytes hbase h

/-- WHAT A STATEMENT OF NESTED appends HAS UNDER WAY: the world is W; the row v of the call's own holds the cells xs; the blocks in 'pend' hold one cell each, and are not the row's. -/
structure Und (B : Nat) (w W : World) (e : TypeId) (v : Value) (n : Nat) (xs : List Value) (pend : List (Nat × Value)) : Prop where
  below : Below B w W
  size : B ≤ w.heap.size
  own : W.ownsRow B e 1 v n xs
  pend : ∀ q ∈ pend, W.cell? ⟨q.1, 0, none⟩ = some q.2 ∧ q.1 < W.heap.size ∧ v.ownBlock ≠ some q.1 ∧ q.2.oneCell' = true
theorem Und.start {B : Nat} {w W : World} (e : TypeId) (hb : Below B w W) (hB : B ≤ w.heap.size) : Und B w W e (.slice none 0 0) 0 [] [] :=
  ⟨hb, hB, World.ownsRow_nil _ _ _ _, by simp⟩
theorem Und.build {B : Nat} {w W : World} {e : TypeId} {v : Value} {n : Nat} {xs : List Value} {pend : List (Nat × Value)} (h : Und B w W e v n xs pend) (x : Value) (T : TypeId) (hx : x.oneCell' = true) :
    Und B w (W.alloc (.cells #[x] T)) e v n xs ((W.heap.size, x) :: pend) := by
  have hs := h.size
  have hs2 := h.below.size
  refine ⟨h.below.alloc (by omega) _, h.size, h.own.alloc _, fun q hq => ?_⟩
  rcases List.mem_cons.1 hq with rfl | hq
  · refine ⟨by simp, by simp, fun hv => ?_, hx⟩
    have := (h.own.lt _ hv).2
    simp at this
  · obtain ⟨h1, h2, h3, h4⟩ := h.pend q hq
    exact ⟨by rw [World.cell?_alloc_lt _ _ _ h2]; exact h1, by simp; omega, h3, h4⟩
theorem Und.app {P : Program} {B : Nat} {w W : World} {e : TypeId} {v : Value} {n : Nat} {xs : List Value} {pend : List (Nat × Value)} (h : Und B w W e v n xs pend) (t ty : TypeId) {i : TypeInfo} {z : Value} {bytes : Nat} (ht : P.underlying t = some (.slice e)) (hi : P.info? e = some i) (hz : i.zero = some z)
    (hsize : i.size = 1) (hby : i.bytes = bytes) (hzs : z.cells.size = 1) (p : Option Addr) (m c : Nat) (news : List Value) (hp : p = none → m = 0 ∧ c = 0) (hl : news.length = m) (hs : Lies B w p news) (h1 : ∀ u ∈ news, u.oneCell' = true)
    (h63 : n + m ≤ 100000) (hbytes : bytes ≤ 1000) :
    ∃ v' w', (Builtin.append_ #[t, t] ty #[v, .slice p m c]).run P W = .ok v' w' ∧ Und B w w' e v' (n + m) (xs ++ news) pend := by
  have hsz := h.size
  have hs2 := h.below.size
  have hb2 : (n + m) * bytes ≤ 140737488355328 := Nat.le_trans (Nat.mul_le_mul h63 hbytes) (by decide)
  obtain ⟨v', w', hrun, h2, h3, h4⟩ := run_app (P := P) W B t ty e i z 1 bytes ht hi hz hsize hby hzs (by decide) v n xs h.own B p m c news hp (by simpa using hl) (hs.below h.below) h1 (by simp only [maxLen]; omega) hb2 (by omega)
  refine ⟨v', w', hrun, h.below.grown h3 (by omega) (fun k hk => (h.own.lt k hk).1), h.size, h2, fun q hq => ?_⟩
  obtain ⟨p1, p2, p3, p4⟩ := h.pend q hq
  refine ⟨h3.cell p1 (fun hh => p3 hh.symm), Nat.lt_of_lt_of_le p2 h3.size, fun hh => ?_, p4⟩
  rcases h4 with h4 | h4 <;> rw [h4] at hh
  · exact p3 hh
  · injection hh with hh; omega
theorem Und.app1 {P : Program} {B : Nat} {w W : World} {e : TypeId} {v : Value} {n : Nat} {xs : List Value} {pend : List (Nat × Value)} (h : Und B w W e v n xs pend) (t ty : TypeId) {i : TypeInfo} {z : Value} {bytes : Nat} (ht : P.underlying t = some (.slice e)) (hi : P.info? e = some i) (hz : i.zero = some z)
    (hsize : i.size = 1) (hby : i.bytes = bytes) (hzs : z.cells.size = 1) (g : Nat) (x : Value) (c : Nat) (hg : (g, x) ∈ pend) (h63 : n + 1 ≤ 100000) (hbytes : bytes ≤ 1000) :
    ∃ v' w', (Builtin.append_ #[t, t] ty #[v, .slice (some ⟨g, 0, none⟩) 1 c]).run P W = .ok v' w' ∧ Und B w w' e v' (n + 1) (xs ++ [x]) pend := by
  have hsz := h.size
  have hs2 := h.below.size
  have hb2 : (n + 1) * bytes ≤ 140737488355328 := Nat.le_trans (Nat.mul_le_mul h63 hbytes) (by decide)
  obtain ⟨q1, q2, q3, q4⟩ := h.pend _ hg
  have hs : Lies W.heap.size W (some ⟨g, 0, none⟩) [x] := by
    refine .inr ⟨g, 0, rfl, q2, fun j v hj => ?_⟩
    match j, hj with
    | 0, hj => simp at hj; subst hj; simpa using q1
  obtain ⟨v', w', hrun, h2, h3, h4⟩ := run_app (P := P) W B t ty e i z 1 bytes ht hi hz hsize hby hzs (by decide) v n xs h.own W.heap.size (some ⟨g, 0, none⟩) 1 c [x] (by simp) (by simp) hs (by simpa using q4) (by simp only [maxLen]; omega) hb2 (by omega)
  refine ⟨v', w', hrun, h.below.grown h3 (by omega) (fun k hk => (h.own.lt k hk).1), h.size, h2, fun q hq => ?_⟩
  obtain ⟨p1, p2, p3, p4⟩ := h.pend q hq
  refine ⟨h3.cell p1 (fun hh => p3 hh.symm), Nat.lt_of_lt_of_le p2 h3.size, fun hh => ?_, p4⟩
  rcases h4 with h4 | h4 <;> rw [h4] at hh
  · exact p3 hh
  · injection hh with hh; omega
/-- An append whose run is known, as a step of a region that draws its order. -/
theorem step_ran {P : Program} {w : World} {ops : Array Oper} {o : Oper} {a : Act} {K : Act → World → Prop} {Q : Exit → Act → World → Prop} {E : Prop} {R : Value → World → Prop} (hgd : o.guard = none) (s x : Operand) (t : TypeId)
    (ho : o.op = .call { callee := .builtin .append, args := #[s, x], argTypes := #[t, t] }) {v vx : Value} (hsv : a.eval s = v) (hx : a.eval x = vx)
    (h : ∃ v' w', (Builtin.append_ #[t, t] o.type #[v, vx]).run P w = .ok v' w' ∧ R v' w') (hk : ∀ v' w', R v' w' → K (a.put o.dst v') w') :
    if Region.wanted o (yielded ops a.tmps) = true then Oper.wp P o a w K Q else E := by
  have hw : Region.wanted o (yielded ops a.tmps) = true := by simp [Region.wanted, hgd]
  rw [if_pos hw]
  obtain ⟨v', w', hrun, h2⟩ := h
  unfold Oper.wp execOp
  simp only [ho, resolve, invoke, builtin, Sem.run_bind, Sem.run_pure, Result.andThen_ok, List.map_toArray, List.map_cons, List.map_nil, hsv, hx, hrun]
  exact hk v' w' h2
theorem wpList_ran {P : Program} {w : World} {ops : Array Oper} {rest : List Oper} {o : Oper} {a : Act} {Q : Exit → Act → World → Prop} {R : Value → World → Prop} (hgd : o.guard = none) (s x : Operand) (t : TypeId)
    (ho : o.op = .call { callee := .builtin .append, args := #[s, x], argTypes := #[t, t] }) {v vx : Value} (hsv : a.eval s = v) (hx : a.eval x = vx)
    (h : ∃ v' w', (Builtin.append_ #[t, t] o.type #[v, vx]).run P w = .ok v' w' ∧ R v' w') (hk : ∀ v' w', R v' w' → wpList P ops Q rest (a.put o.dst v') w') : wpList P ops Q (o :: rest) a w :=
  wpList_plain hgd fun K hK => by
    obtain ⟨v', w', hrun, h2⟩ := h
    unfold Oper.wp execOp
    simp only [ho, resolve, invoke, builtin, Sem.run_bind, Sem.run_pure, Result.andThen_ok, List.map_toArray, List.map_cons, List.map_nil, hsv, hx, hrun]
    exact hK _ _ (hk v' w' h2)
end Go.Proofs.YtppgameimddimaaGreat
