/- lock: askers; the whole of the locks on the heap, in the cells o to o + 7 of a block. -/
import Derived.Test.YtppgameimddimaaGreatLkE
import Derived.Test.YtppgameimddimaaGreatLRankG
import Derived.Test.YtppgameimddimaaGreatCommD
namespace Go.Proofs.YtppgameimddimaaGreat
open Go.ChangeShapes Go.WideShapes Go.ChangeAt Go.RowKit Go.Conc
set_option linter.unusedVariables false
set_option linter.unusedSimpArgs false
structure AskM where
  prio : Int
  cluster : Int
  asked : Bool
  holds : Bool
  res : Int
  place : Int
instance : Inhabited AskM := ⟨⟨0, 0, false, false, 0, 0⟩⟩
def AskM.blk (a : AskM) : List Value := [.int .i64 a.prio, .int .i64 a.cluster, .bool a.asked, .bool a.holds, .int .i64 a.res, .int .i64 a.place]
def AskM.val (a : AskM) : Value := .agg a.blk.toArray
def AskM.wf (a : AskM) : Prop := I64 a.prio ∧ I64 a.cluster ∧ I64 a.res ∧ I64 a.place
def akc (ps : List AskM) : List Value := ps.flatMap AskM.blk
theorem akc_len (ps : List AskM) : (akc ps).length = ps.length * 6 := by
  induction ps with
  | nil => rfl
  | cons p ps ih => simp only [akc, List.flatMap_cons, List.length_append, AskM.blk, List.length_cons, List.length_nil] at *; omega
theorem akc_append (a b : List AskM) : akc (a ++ b) = akc a ++ akc b := by simp [akc]
theorem akc_one (ps : List AskM) : ∀ u ∈ akc ps, u.oneCell' = true := fun u hu => by
  obtain ⟨p, _, h⟩ := List.mem_flatMap.1 hu
  simp [AskM.blk] at h
  rcases h with rfl | rfl | rfl | rfl | rfl | rfl <;> rfl
theorem akc_drop (ps : List AskM) (k : Nat) : (akc ps).drop (k * 6) = akc (ps.drop k) := by
  induction k generalizing ps with
  | zero => simp
  | succ k ih =>
    cases ps with
    | nil => simp [akc]
    | cons p ps =>
      rw [show (k + 1) * 6 = k * 6 + 1 + 1 + 1 + 1 + 1 + 1 by omega]
      simp only [akc, List.flatMap_cons, AskM.blk, List.cons_append, List.nil_append, List.drop_succ_cons]
      exact ih ps
theorem akc_at (ps : List AskM) (k : Nat) (hk : k < ps.length) : ∀ j v, (ps.getD k default).blk[j]? = some v → (akc ps)[k * 6 + j]? = some v := by
  intro j v hj
  have h := akc_drop ps k
  rw [List.drop_eq_getElem_cons hk] at h
  have h0 := congrArg (fun l => l[j]?) h
  simp only [List.getElem?_drop] at h0
  have hg : ps.getD k default = ps[k] := by simp [List.getD, hk]
  have e : akc (ps[k] :: ps.drop (k + 1)) = ps[k].blk ++ akc (ps.drop (k + 1)) := rfl
  rw [h0, e, ← hg, List.getElem?_append_left (List.getElem?_eq_some_iff.1 hj).1]
  exact hj
theorem akc_set (ps : List AskM) (i f : Nat) (hi : i < ps.length) (hf : f < 6) (v : Value) (x : AskM) (hx : (ps.getD i default).blk.set f v = x.blk) : (akc ps).set (i * 6 + f) v = akc (ps.set i x) := by
  induction ps generalizing i with
  | nil => simp at hi
  | cons a l ih =>
    have e2 : akc (a :: l) = a.blk ++ akc l := rfl
    have hb : a.blk.length = 6 := rfl
    cases i with
    | zero =>
      rw [e2, List.set_append_left _ _ (by omega)]
      simp only [List.getD_cons_zero] at hx
      rw [Nat.zero_mul, Nat.zero_add, hx]
      rfl
    | succ i =>
      rw [e2, List.set_append_right _ _ (by omega), hb]
      have e3 : akc ((a :: l).set (i + 1) x) = a.blk ++ akc (l.set i x) := rfl
      rw [e3, ← ih i (by simpa using hi) (by simpa using hx)]
      congr 2
      omega
def AskCells (w : World) (b off : Nat) (p : AskM) : Prop :=
  w.cell? ⟨b, off, none⟩ = some (.int .i64 p.prio) ∧ w.cell? ⟨b, off + 1, none⟩ = some (.int .i64 p.cluster) ∧ w.cell? ⟨b, off + 2, none⟩ = some (.bool p.asked) ∧ w.cell? ⟨b, off + 3, none⟩ = some (.bool p.holds) ∧ w.cell? ⟨b, off + 4, none⟩ = some (.int .i64 p.res) ∧ w.cell? ⟨b, off + 5, none⟩ = some (.int .i64 p.place)
theorem infoAsk : (Tryz.prog.info? 72).map (fun i => (i.zero, i.size, i.bytes)) = some (some (.agg #[.int .i64 0, .int .i64 0, .bool false, .bool false, .int .i64 0, .int .i64 0]), 6, 40) := by kernel_rfl
/-- a row of askers of the locks' own -/
structure OwnK (B : Nat) (w : World) (A : Option Addr) (n c : Nat) (ps : List AskM) : Prop where
  own : w.ownsRow B 72 6 (.slice A n c) n (akc ps)
  len : n = ps.length
  cap : n ≤ c ∧ c ≤ maxLen
  nil : A = none → n = 0 ∧ c = 0
theorem OwnK.empty (B : Nat) (w : World) : OwnK B w none 0 0 [] := ⟨World.ownsRow_nil _ _ _ _, rfl, by decide, fun _ => ⟨rfl, rfl⟩⟩
theorem OwnK.turned {B : Nat} {F : List Nat} {w w' : World} {A : Option Addr} {n c : Nat} {ps : List AskM} (h : OwnK B w A n c ps) (ht : Turned F w w') (hF : ∀ k ∈ fp A, k ∉ F) : OwnK B w' A n c ps := ⟨own_turned h.own ht hF, h.len, h.cap, h.nil⟩
theorem OwnK.app {B : Nat} {w w1 w2 : World} {A A' : Option Addr} {n c c' : Nat} {rs ps : List AskM} {m : Nat} (h : OwnK B w A n c rs) (ha : App B 72 6 w1 A A' (n + m) c' (akc rs ++ akc ps) w2) (hm : m = ps.length) : OwnK B w2 A' (n + m) c' (rs ++ ps) :=
  ⟨by rw [akc_append]; exact ha.own, by rw [List.length_append, h.len, hm], ha.cap, ha.nil⟩
theorem OwnK.at_ {B : Nat} {w : World} {A : Option Addr} {n c : Nat} {l : List AskM} (h : OwnK B w A n c l) (hl : 0 < l.length) : ∃ g, A = some ⟨g, 0, none⟩ ∧ B ≤ g ∧ g < w.heap.size := ownE_at h.own (by rw [h.len]; exact hl)
theorem OwnK.cells {B : Nat} {w : World} {g n c : Nat} {l : List AskM} (h : OwnK B w (some ⟨g, 0, none⟩) n c l) {i : Nat} (hi : i < l.length) : AskCells w g (i * 6) (l.getD i default) := by
  rcases Lies.of_own h.own with h1 | ⟨b, off, e, _, hc⟩
  · have := congrArg List.length h1
    rw [akc_len] at this
    simp at this; omega
  · injection e with e
    injection e with e1 e2
    subst e1; subst e2
    have ha := akc_at l i hi
    refine ⟨?_, ?_, ?_, ?_, ?_, ?_⟩
    · have := hc _ _ (ha 0 _ rfl); simpa using this
    · have := hc _ _ (ha 1 _ rfl); simpa using this
    · have := hc _ _ (ha 2 _ rfl); simpa using this
    · have := hc _ _ (ha 3 _ rfl); simpa using this
    · have := hc _ _ (ha 4 _ rfl); simpa using this
    · have := hc _ _ (ha 5 _ rfl); simpa using this
theorem OwnK.put {B : Nat} {w : World} {g n c : Nat} {l : List AskM} (h : OwnK B w (some ⟨g, 0, none⟩) n c l) {i f : Nat} (hi : i < l.length) (hf : f < 6) {v : Value} {x : AskM} (hx : (l.getD i default).blk.set f v = x.blk) :
    OwnK B (w.setCell ⟨g, i * 6 + f, none⟩ v) (some ⟨g, 0, none⟩) n c (l.set i x) := by
  have hl := h.len
  refine ⟨?_, by rw [List.length_set]; exact hl, h.cap, fun e => by cases e⟩
  rw [← akc_set l i f hi hf v x hx]
  exact ownE_put h.own (i * 6 + f) (by omega) v

/-- the cells of a row of doors -/
def DrM.blk (d : DrM) : List Value := [.int .i64 d.cores, .pointer (some ⟨d.gb, 0, none⟩), .pointer (some ⟨d.lb, 0, none⟩)]
instance : Inhabited DrM := ⟨⟨1, [], [], 0, 0⟩⟩
def drc (ps : List DrM) : List Value := ps.flatMap DrM.blk
theorem drc_len (ps : List DrM) : (drc ps).length = ps.length * 3 := by
  induction ps with
  | nil => rfl
  | cons p ps ih => simp only [drc, List.flatMap_cons, List.length_append, DrM.blk, List.length_cons, List.length_nil] at *; omega
theorem drc_append (a b : List DrM) : drc (a ++ b) = drc a ++ drc b := by simp [drc]
theorem drc_one (ps : List DrM) : ∀ u ∈ drc ps, u.oneCell' = true := fun u hu => by
  obtain ⟨p, _, h⟩ := List.mem_flatMap.1 hu
  simp [DrM.blk] at h
  rcases h with rfl | rfl | rfl <;> rfl
theorem drc_drop (ps : List DrM) (k : Nat) : (drc ps).drop (k * 3) = drc (ps.drop k) := by
  induction k generalizing ps with
  | zero => simp
  | succ k ih =>
    cases ps with
    | nil => simp [drc]
    | cons p ps =>
      rw [show (k + 1) * 3 = k * 3 + 1 + 1 + 1 by omega]
      simp only [drc, List.flatMap_cons, DrM.blk, List.cons_append, List.nil_append, List.drop_succ_cons]
      exact ih ps
theorem drc_at (ps : List DrM) (k : Nat) (hk : k < ps.length) : ∀ j v, (ps.getD k default).blk[j]? = some v → (drc ps)[k * 3 + j]? = some v := by
  intro j v hj
  have h := drc_drop ps k
  rw [List.drop_eq_getElem_cons hk] at h
  have h0 := congrArg (fun l => l[j]?) h
  simp only [List.getElem?_drop] at h0
  have hg : ps.getD k default = ps[k] := by simp [List.getD, hk]
  have e : drc (ps[k] :: ps.drop (k + 1)) = ps[k].blk ++ drc (ps.drop (k + 1)) := rfl
  rw [h0, e, ← hg, List.getElem?_append_left (List.getElem?_eq_some_iff.1 hj).1]
  exact hj
theorem infoDoor : (Tryz.prog.info? 76).map (fun i => (i.zero, i.size, i.bytes)) = some (some (.agg #[.int .i64 0, .pointer none, .pointer none]), 3, 24) := by kernel_rfl

/-- the locks: by what protocol, who asks, the keys (which are free), the doors, the row, the places; where all that lies -/
structure LkM where
  proto : Int
  ask : List AskM
  ks : List Nat
  fr : Nat → Bool
  ds : List DrM
  R : Int
  P : Int
  l : List EntM
  places : Int
  Aa : Option Addr
  ca : Nat
  Ak : Option Addr
  ck : Nat
  Ad : Option Addr
  cd : Nat
  Ar : Option Addr
  cr : Nat
  Fd : Nat → List Nat
  lab : Nat → Nat
def keyV (ks : List Nat) : List Value := ks.map fun c => .chan (some c)
/-- a key's channel -/
def KeyOk (w : World) (c : Nat) (v : Bool) : Prop := ∃ s r, w.heap[c]? = some (.chan 1 (if v = true then #[.agg #[]] else #[]) false s r false)
theorem KeyOk.turned {F : List Nat} {w w' : World} {c : Nat} {v : Bool} (h : KeyOk w c v) (ht : Turned F w w') (hF : c ∉ F) : KeyOk w' c v := by
  obtain ⟨s, r, hc⟩ := h
  refine ⟨s, r, ?_⟩
  rw [ht.block c (Array.getElem?_eq_some_iff.1 hc).1 hF]
  exact hc
theorem KeyOk.lt {w : World} {c : Nat} {v : Bool} (h : KeyOk w c v) : c < w.heap.size := by
  obtain ⟨s, r, hc⟩ := h
  exact (Array.getElem?_eq_some_iff.1 hc).1
structure Lk (w : World) (b o : Nat) (T : TypeId) (cs : Array Value) (m : LkM) : Prop where
  blk : Bk w b T cs
  c0 : cs[o]? = some (.int .i64 m.proto)
  c1 : cs[o + 1]? = some (.slice m.Aa m.ask.length m.ca)
  c2 : cs[o + 2]? = some (.slice m.Ak m.ks.length m.ck)
  c3 : cs[o + 3]? = some (.slice m.Ad m.ds.length m.cd)
  c7 : cs[o + 7]? = some (.int .i64 m.places)
  row : Rk w b (o + 4) T cs m.R m.P m.l m.Ar m.cr
  askers : OwnK 0 w m.Aa m.ask.length m.ca m.ask
  keys : w.ownsRow 0 86 1 (.slice m.Ak m.ks.length m.ck) m.ks.length (keyV m.ks)
  chans : ∀ c ∈ m.ks, KeyOk w c (m.fr c)
  doors : w.ownsRow 0 76 3 (.slice m.Ad m.ds.length m.cd) m.ds.length (drc m.ds)
  drs : ∀ i, i < m.ds.length → DrOk w (m.ds.getD i default) (m.Fd i)
  wf : ∀ a ∈ m.ask, a.wf
  lb : m.lab b = 0
  la : ∀ k ∈ fp m.Aa, m.lab k = 1
  lk : ∀ k ∈ fp m.Ak, m.lab k = 2
  lc : ∀ k ∈ m.ks, m.lab k = 3
  ld : ∀ k ∈ fp m.Ad, m.lab k = 4
  lr : ∀ k ∈ fp m.Ar, m.lab k = 5
  lf : ∀ i, i < m.ds.length → ∀ k ∈ m.Fd i, m.lab k = 6 + i
/-- the blocks of the locks -/
def fpm (m : LkM) : List Nat := fp m.Aa ++ (fp m.Ak ++ (m.ks ++ (fp m.Ad ++ (fp m.Ar ++ (List.range m.ds.length).flatMap m.Fd))))
theorem mem_fpm {m : LkM} {k : Nat} : k ∈ fpm m ↔ k ∈ fp m.Aa ∨ k ∈ fp m.Ak ∨ k ∈ m.ks ∨ k ∈ fp m.Ad ∨ k ∈ fp m.Ar ∨ ∃ i, i < m.ds.length ∧ k ∈ m.Fd i := by
  unfold fpm
  simp only [List.mem_append, List.mem_flatMap, List.mem_range]
section
variable {w w' : World} {b o : Nat} {T : TypeId} {cs : Array Value} {m : LkM} {F : List Nat}
theorem Lk.lt (h : Lk w b o T cs m) : ∀ k ∈ fpm m, k < w.heap.size := by
  intro k hk
  rcases mem_fpm.1 hk with h1 | h1 | h1 | h1 | h1 | ⟨i, hi, h1⟩
  · exact (own_fp h.askers.own k h1).2
  · exact (own_fp h.keys k h1).2
  · exact (h.chans k h1).lt
  · exact (own_fp h.doors k h1).2
  · exact (own_fp h.row.own.own k h1).2
  · exact (h.drs i hi).lt k h1
theorem Lk.turned (h : Lk w b o T cs m) (ht : Turned F w w') (hb : b ∉ F) (hF : ∀ k ∈ fpm m, k ∉ F) : Lk w' b o T cs m :=
  ⟨h.blk.turned ht hb, h.c0, h.c1, h.c2, h.c3, h.c7, h.row.turned ht hb (fun k hk => hF k (mem_fpm.2 (by simp [hk]))), h.askers.turned ht (fun k hk => hF k (mem_fpm.2 (by simp [hk]))),
    own_turned h.keys ht (fun k hk => hF k (mem_fpm.2 (by simp [hk]))), fun c hc => (h.chans c hc).turned ht (hF c (mem_fpm.2 (by simp [hc]))), own_turned h.doors ht (fun k hk => hF k (mem_fpm.2 (by simp [hk]))),
    fun i hi => (h.drs i hi).turned ht (fun k hk => hF k (mem_fpm.2 (.inr (.inr (.inr (.inr (.inr ⟨i, hi, hk⟩))))))), h.wf, h.lb, h.la, h.lk, h.lc, h.ld, h.lr, h.lf⟩
theorem Lk.over (h : Lk w b o T cs m) (hb : Below w.heap.size w w') : Lk w' b o T cs m := h.turned (Turned.of_below hb []) (by simp) (by simp)
end
end Go.Proofs.YtppgameimddimaaGreat
