/- Objects: a block that is known whole; which blocks a call may have turned; rows of the call's own kept over it. Plain laws over any program. Imports nothing of the dump's functions. -/
import Derived.Test.YtppgameimddimaaGreatMem
namespace Go.Proofs.YtppgameimddimaaGreat
open Go.ChangeShapes Go.WideShapes Go.ChangeAt Go.RowKit
set_option linter.unusedVariables false

/-- block g is just these cells, none frozen -/
def Bk (w : World) (g : Nat) (t : TypeId) (cs : Array Value) : Prop := w.heap[g]? = some (.cells cs t (0, 0))

/-- only the blocks of F may have turned; there may be new ones -/
structure Turned (F : List Nat) (w w' : World) : Prop where
  os : w'.os = w.os
  tape : w'.tape = w.tape
  output : w'.output = w.output
  size : w.heap.size ≤ w'.heap.size
  block : ∀ k, k < w.heap.size → k ∉ F → w'.heap[k]? = w.heap[k]?

/-- the block of a slice's row, if it has one -/
def fp : Option Addr → List Nat
  | some a => [a.block]
  | none => []

section
variable {F G : List Nat} {w w' w2 : World}
theorem Turned.refl (F : List Nat) (w : World) : Turned F w w := ⟨rfl, rfl, rfl, Nat.le_refl _, fun _ _ _ => rfl⟩
theorem Turned.mono (h : Turned F w w') (hs : ∀ k ∈ F, k ∈ G ∨ w.heap.size ≤ k) : Turned G w w' :=
  ⟨h.os, h.tape, h.output, h.size, fun k hk hn => h.block k hk fun hf => (hs k hf).elim hn (by omega)⟩
theorem Turned.trans (h : Turned F w w') (k : Turned G w' w2) (hs : ∀ i ∈ G, i ∈ F ∨ w.heap.size ≤ i) : Turned F w w2 :=
  ⟨k.os.trans h.os, k.tape.trans h.tape, k.output.trans h.output, Nat.le_trans h.size k.size, fun i hi hn =>
    (k.block i (Nat.lt_of_lt_of_le hi h.size) fun hg => (hs i hg).elim hn (by omega)).trans (h.block i hi hn)⟩
theorem Turned.drew (h : Turned F w w') : Turned F w w'.drew := ⟨h.os, h.tape, h.output, h.size, h.block⟩
theorem Turned.drewN (h : Turned F w w') (n : Nat) : Turned F w (w'.drewN n) := ⟨h.os, h.tape, h.output, h.size, h.block⟩
theorem Turned.alloc (h : Turned F w w') (o : Obj) : Turned F w (w'.alloc o) :=
  ⟨h.os, h.tape, h.output, Nat.le_trans h.size (by simp), fun k hk hn => (Below.heap_alloc _ _ _ (Nat.lt_of_lt_of_le hk h.size)).trans (h.block k hk hn)⟩
theorem Turned.setCell (h : Turned F w w') {p : Addr} (hp : p.block ∈ F ∨ w.heap.size ≤ p.block) (u : Value) : Turned F w (w'.setCell p u) :=
  ⟨h.os, h.tape, h.output, by simpa [World.setCell] using h.size, fun k hk hn => (Below.heap_setCell _ _ _ _ (by
    rintro rfl
    exact hp.elim hn (by omega))).trans (h.block k hk hn)⟩
theorem Turned.grown (h : Turned F w w') {row : Option Nat} (hg : w'.grownBy w2 row) (hr : ∀ k, row = some k → k ∈ F ∨ w.heap.size ≤ k) : Turned F w w2 :=
  ⟨hg.os.trans h.os, hg.tape.trans h.tape, hg.output.trans h.output, Nat.le_trans h.size hg.size, fun k hk hn =>
    (hg.block k (Nat.lt_of_lt_of_le hk h.size) (fun e => (hr k e.symm).elim hn (by omega))).trans (h.block k hk hn)⟩
theorem Turned.of_below (h : Below w.heap.size w w') (F : List Nat) : Turned F w w' := ⟨h.os, h.tape, h.output, h.size, fun k hk _ => h.block k hk⟩
theorem Turned.below {B : Nat} (h : Turned F w w') (hB : B ≤ w.heap.size) (hF : ∀ k ∈ F, B ≤ k) : Below B w w' :=
  ⟨h.os, h.tape, h.output, h.size, fun k hk => h.block k (by omega) fun hf => by have := hF k hf; omega⟩
theorem Turned.cell (h : Turned F w w') {p : Addr} {v : Value} (hc : w.cell? p = some v) (hp : p.block ∉ F) : w'.cell? p = some v :=
  (World.cell?_of_block (h.block p.block (cell_lt hc) hp)).trans hc

theorem Lies.turned {B : Nat} {p : Option Addr} {cs : List Value} (h : Lies B w p cs) (ht : Turned F w w') (hF : ∀ k ∈ fp p, k ∉ F) : Lies B w' p cs := by
  rcases h with h | ⟨b, off, e, hb, hc⟩
  · exact .inl h
  · subst e
    exact .inr ⟨b, off, rfl, hb, fun j v hv => ht.cell (hc j v hv) (hF b (by simp [fp]))⟩
theorem Row.turned {k : IntKind} {a : Option Addr} {zs : List Int} (h : Row w k a zs) (ht : Turned F w w') (hF : ∀ i ∈ fp a, i ∉ F) : Row w' k a zs := by
  rcases h with h | ⟨b, off, e, hc⟩
  · exact .inl h
  · subst e
    exact .inr ⟨b, off, rfl, fun j hj => ht.cell (hc j hj) (hF b (by simp [fp]))⟩
theorem own_turned {base : Nat} {e : TypeId} {size n m : Nat} {A : Option Addr} {c : Nat} {xs : List Value} (h : w.ownsRow base e size (.slice A m c) n xs) (ht : Turned F w w') (hF : ∀ k ∈ fp A, k ∉ F) : w'.ownsRow base e size (.slice A m c) n xs := by
  refine ⟨h.1, ?_⟩
  rcases h.2 with hn | ⟨g, cap, cur, hv, hb, hgg, rest⟩
  · exact .inl hn
  · refine .inr ⟨g, cap, cur, hv, hb, ?_, rest⟩
    have hA : A = some ⟨g, 0, none⟩ := by injection hv
    rw [ht.block g (Array.getElem?_eq_some_iff.1 hgg).1 (hF g (by simp [hA, fp]))]
    exact hgg
theorem own_fp {base : Nat} {e : TypeId} {size n m : Nat} {A : Option Addr} {c : Nat} {xs : List Value} (h : w.ownsRow base e size (.slice A m c) n xs) : ∀ k ∈ fp A, base ≤ k ∧ k < w.heap.size := by
  intro k hk
  rcases A with _ | a
  · simp [fp] at hk
  · refine h.lt k ?_
    simp [fp] at hk
    simp [Value.ownBlock, hk]
theorem own_ob {A : Option Addr} {n c : Nat} : (Value.slice A n c).ownBlock = A.map (·.block) := by cases A <;> rfl
theorem own_mem {base : Nat} {e : TypeId} {size n : Nat} {v : Value} {xs : List Value} (h : w.ownsRow base e size v n xs) : ∃ A c, v = .slice A n c ∧ n ≤ c ∧ c ≤ maxLen ∨ v = .slice none 0 0 ∧ n = 0 ∧ A = none ∧ c = 0 := by
  rcases h.2 with ⟨rfl, rfl⟩ | ⟨g, cap, cur, rfl, _, _, h1, h2, _⟩
  · exact ⟨none, 0, .inr ⟨rfl, rfl, rfl, rfl⟩⟩
  · exact ⟨_, cap, .inl ⟨rfl, h1, h2⟩⟩
/-- a row's value written out -/
theorem own_form {base : Nat} {e : TypeId} {size n : Nat} {v : Value} {xs : List Value} (h : w.ownsRow base e size v n xs) : ∃ A c, v = .slice A n c ∧ n ≤ c ∧ c ≤ maxLen ∧ (A = none → n = 0 ∧ c = 0) := by
  rcases h.2 with ⟨rfl, rfl⟩ | ⟨g, cap, cur, rfl, _, _, h1, h2, _⟩
  · exact ⟨none, 0, rfl, Nat.le_refl _, Nat.zero_le _, fun _ => ⟨rfl, rfl⟩⟩
  · exact ⟨_, cap, rfl, h1, h2, fun h => by cases h⟩
theorem own_base {base base' : Nat} {e : TypeId} {size n : Nat} {v : Value} {xs : List Value} (h : w.ownsRow base e size v n xs) (hb : ∀ k, v.ownBlock = some k → base' ≤ k) : w.ownsRow base' e size v n xs := by
  refine ⟨h.1, ?_⟩
  rcases h.2 with hn | ⟨g, cap, cur, rfl, _, rest⟩
  · exact .inl hn
  · exact .inr ⟨g, cap, cur, rfl, hb g rfl, rest⟩
theorem own_setCell {base : Nat} {e : TypeId} {size n m : Nat} {A : Option Addr} {c : Nat} {xs : List Value} (h : w.ownsRow base e size (.slice A m c) n xs) {p : Addr} (hp : p.block ∉ fp A) (u : Value) : (w.setCell p u).ownsRow base e size (.slice A m c) n xs :=
  own_turned (F := [p.block]) h ((Turned.refl _ _).setCell (.inl (by simp)) u) (fun k hk hm => by simp at hm; subst hm; exact hp hk)

variable {g : Nat} {t : TypeId} {cs : Array Value}
theorem Bk.lt (h : Bk w g t cs) : g < w.heap.size := (Array.getElem?_eq_some_iff.1 h).1
theorem Bk.cell (h : Bk w g t cs) (i : Nat) : w.cell? ⟨g, i, none⟩ = cs[i]? := cell_of_row w g i cs t (0, 0) h
theorem Bk.frozen (h : Bk w g t cs) (i : Nat) : w.frozen? ⟨g, i, none⟩ = false := by
  have e := h
  unfold Bk at e
  simp [World.frozen?, e]
theorem Bk.new (w : World) (t : TypeId) (cs : Array Value) : Bk (w.alloc (.cells cs t)) w.heap.size t cs := heap_alloc_new w _
theorem Bk.turned (h : Bk w g t cs) (ht : Turned F w w') (hg : g ∉ F) : Bk w' g t cs := (ht.block g h.lt hg).trans h
theorem Bk.alloc (h : Bk w g t cs) (o : Obj) : Bk (w.alloc o) g t cs := (Below.heap_alloc w o g h.lt).trans h
theorem Bk.drewN (h : Bk w g t cs) (n : Nat) : Bk (w.drewN n) g t cs := h
theorem Bk.put (h : Bk w g t cs) (i : Nat) (u : Value) : Bk (w.setCell ⟨g, i, none⟩ u) g t (cs.setIfInBounds i u) := by
  have e := h
  unfold Bk at e ⊢
  simp [World.setCell, Array.getElem?_modify, e]
theorem Bk.far (h : Bk w g t cs) {p : Addr} (hp : g ≠ p.block) (u : Value) : Bk (w.setCell p u) g t cs := (Below.heap_setCell w p u g hp).trans h
theorem Bk.grown (h : Bk w g t cs) {row : Option Nat} (hb : w.grownBy w' row) (hg : some g ≠ row) : Bk w' g t cs := (hb.block g h.lt hg).trans h
end

/-- what an append leaves, its value written out -/
structure App (base : Nat) (e : TypeId) (size : Nat) (w : World) (A : Option Addr) (A' : Option Addr) (n c' : Nat) (xs : List Value) (w' : World) : Prop where
  own : w'.ownsRow base e size (.slice A' n c') n xs
  turned : Turned (fp A) w w'
  fps : ∀ k ∈ fp A', k ∈ fp A ∨ w.heap.size ≤ k
  cap : n ≤ c' ∧ c' ≤ maxLen
  nil : A' = none → n = 0 ∧ c' = 0
theorem run_app2 {P : Program} (w : World) (base : Nat) (t ty e : TypeId) (i : TypeInfo) (z : Value) (size bytes : Nat) (ht : P.underlying t = some (.slice e)) (hi : P.info? e = some i) (hz : i.zero = some z)
    (hsize : i.size = size) (hby : i.bytes = bytes) (hzs : z.cells.size = size) (hsz : 0 < size)
    (A : Option Addr) (n c0 : Nat) (xs : List Value) (hown : w.ownsRow base e size (.slice A n c0) n xs)
    (B : Nat) (p : Option Addr) (m c : Nat) (news : List Value) (hp : p = none → m = 0 ∧ c = 0) (hl : news.length = m * size) (hs : Lies B w p news) (h1 : ∀ u ∈ news, u.oneCell' = true)
    (h63 : n + m ≤ maxLen) (hbytes : (n + m) * bytes ≤ 140737488355328) (hbase : base ≤ w.heap.size) :
    ∃ A' c' w', (Builtin.append_ #[t, t] ty #[.slice A n c0, .slice p m c]).run P w = .ok (.slice A' (n + m) c') w' ∧ App base e size w A A' (n + m) c' (xs ++ news) w' := by
  obtain ⟨v', w', hrun, h2, h3, h4⟩ := run_app (P := P) w base t ty e i z size bytes ht hi hz hsize hby hzs hsz _ n xs hown B p m c news hp hl hs h1 h63 hbytes hbase
  obtain ⟨A', c', rfl, k1, k2, k3⟩ := own_form h2
  refine ⟨A', c', w', hrun, h2, (Turned.refl _ _).grown h3 ?_, ?_, ⟨k1, k2⟩, k3⟩
  · intro k hk
    rw [own_ob] at hk
    cases A with
    | none => simp at hk
    | some a => simp at hk; left; simp [fp, hk]
  · intro k hk
    cases A' with
    | none => simp [fp] at hk
    | some a' =>
      simp [fp] at hk
      subst hk
      rw [own_ob, own_ob] at h4
      rcases h4 with h4 | h4
      · cases A with
        | none => simp at h4
        | some a => simp at h4; left; simp [fp, h4]
      · simp at h4; right; omega
theorem wp_app2 {P : Program} (w : World) {o : Oper} {a : Act} {K : Act → World → Prop} {Q : Exit → Act → World → Prop} (s x : Operand) (t : TypeId)
    (ho : o.op = .call { callee := .builtin .append, args := #[s, x], argTypes := #[t, t] })
    (base : Nat) (e : TypeId) (i : TypeInfo) (z : Value) (size bytes : Nat) (ht : P.underlying t = some (.slice e)) (hi : P.info? e = some i) (hz : i.zero = some z)
    (hsize : i.size = size) (hby : i.bytes = bytes) (hzs : z.cells.size = size) (hsz : 0 < size)
    (A : Option Addr) (n c0 : Nat) (xs : List Value) (hsv : a.eval s = .slice A n c0) (hown : w.ownsRow base e size (.slice A n c0) n xs)
    (B : Nat) (p : Option Addr) (m c : Nat) (news : List Value) (hx : a.eval x = .slice p m c) (hp : p = none → m = 0 ∧ c = 0) (hl : news.length = m * size) (hs : Lies B w p news) (h1 : ∀ u ∈ news, u.oneCell' = true)
    (h63 : n + m ≤ maxLen) (hbytes : (n + m) * bytes ≤ 140737488355328) (hbase : base ≤ w.heap.size)
    (h : ∀ A' c' w', App base e size w A A' (n + m) c' (xs ++ news) w' → K (a.put o.dst (.slice A' (n + m) c')) w') : o.wp P a w K Q := by
  obtain ⟨A', c', w', hrun, h2⟩ := run_app2 (P := P) w base t o.type e i z size bytes ht hi hz hsize hby hzs hsz A n c0 xs hown B p m c news hp hl hs h1 h63 hbytes hbase
  unfold Oper.wp execOp
  simp only [ho, resolve, invoke, builtin, Sem.run_bind, Sem.run_pure, Result.andThen_ok, List.map_toArray, List.map_cons, List.map_nil, hsv, hx, hrun]
  exact h A' c' w' h2
theorem wpList_app2 {P : Program} (w : World) {ops : Array Oper} {rest : List Oper} {o : Oper} {a : Act} {Q : Exit → Act → World → Prop} (hgd : o.guard = none) (s x : Operand) (t : TypeId)
    (ho : o.op = .call { callee := .builtin .append, args := #[s, x], argTypes := #[t, t] })
    (base : Nat) (e : TypeId) (i : TypeInfo) (z : Value) (size bytes : Nat) (ht : P.underlying t = some (.slice e)) (hi : P.info? e = some i) (hz : i.zero = some z)
    (hsize : i.size = size) (hby : i.bytes = bytes) (hzs : z.cells.size = size) (hsz : 0 < size)
    (A : Option Addr) (n c0 : Nat) (xs : List Value) (hsv : a.eval s = .slice A n c0) (hown : w.ownsRow base e size (.slice A n c0) n xs)
    (B : Nat) (p : Option Addr) (m c : Nat) (news : List Value) (hx : a.eval x = .slice p m c) (hp : p = none → m = 0 ∧ c = 0) (hl : news.length = m * size) (hs : Lies B w p news) (h1 : ∀ u ∈ news, u.oneCell' = true)
    (h63 : n + m ≤ maxLen) (hbytes : (n + m) * bytes ≤ 140737488355328) (hbase : base ≤ w.heap.size)
    (h : ∀ A' c' w', App base e size w A A' (n + m) c' (xs ++ news) w' → wpList P ops Q rest (a.put o.dst (.slice A' (n + m) c')) w') : wpList P ops Q (o :: rest) a w :=
  wpList_plain hgd fun _ hK => wp_app2 w s x t ho base e i z size bytes ht hi hz hsize hby hzs hsz A n c0 xs hsv hown B p m c news hx hp hl hs h1 h63 hbytes hbase fun A' c' w' h2 => hK _ _ (h A' c' w' h2)
theorem step_app2 {P : Program} (w : World) {ops : Array Oper} {o : Oper} {a : Act} {K : Act → World → Prop} {Q : Exit → Act → World → Prop} {E : Prop} (hgd : o.guard = none) (s x : Operand) (t : TypeId)
    (ho : o.op = .call { callee := .builtin .append, args := #[s, x], argTypes := #[t, t] })
    (base : Nat) (e : TypeId) (i : TypeInfo) (z : Value) (size bytes : Nat) (ht : P.underlying t = some (.slice e)) (hi : P.info? e = some i) (hz : i.zero = some z)
    (hsize : i.size = size) (hby : i.bytes = bytes) (hzs : z.cells.size = size) (hsz : 0 < size)
    (A : Option Addr) (n c0 : Nat) (xs : List Value) (hsv : a.eval s = .slice A n c0) (hown : w.ownsRow base e size (.slice A n c0) n xs)
    (B : Nat) (p : Option Addr) (m c : Nat) (news : List Value) (hx : a.eval x = .slice p m c) (hp : p = none → m = 0 ∧ c = 0) (hl : news.length = m * size) (hs : Lies B w p news) (h1 : ∀ u ∈ news, u.oneCell' = true)
    (h63 : n + m ≤ maxLen) (hbytes : (n + m) * bytes ≤ 140737488355328) (hbase : base ≤ w.heap.size)
    (h : ∀ A' c' w', App base e size w A A' (n + m) c' (xs ++ news) w' → K (a.put o.dst (.slice A' (n + m) c')) w') :
    if Region.wanted o (yielded ops a.tmps) = true then Oper.wp P o a w K Q else E := by
  have hw : Region.wanted o (yielded ops a.tmps) = true := by simp [Region.wanted, hgd]
  rw [if_pos hw]
  exact wp_app2 w s x t ho base e i z size bytes ht hi hz hsize hby hzs hsz A n c0 xs hsv hown B p m c news hx hp hl hs h1 h63 hbytes hbase h
theorem Qt.turned {w w' : World} (h : Qt w w') (F : List Nat) : Turned F w w' := by
  obtain ⟨m, rfl⟩ := h; exact (Turned.refl _ _).drewN m
end Go.Proofs.YtppgameimddimaaGreat
