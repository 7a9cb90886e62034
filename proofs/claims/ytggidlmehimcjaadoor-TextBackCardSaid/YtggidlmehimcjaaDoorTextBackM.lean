/- TextBack: what is printed is parsed, with more blanks, blank lines, words behind a mark too; printed again it is the same. No condition. -/
import Derived.Test.YtggidlmehimcjaaDoorSound
import Derived.Test.YtggidlmehimcjaaDoorTxtD
import Derived.Test.YtggidlmehimcjaaDoorKnown9
import Derived.Test.YtggidlmehimcjaaDoorOwnT
import Derived.Test.YtggidlmehimcjaaDoorOwnPut
import Derived.Test.YtggidlmehimcjaaDoorSame5
import Derived.Test.YtggidlmehimcjaaDoorReg
import Derived.Test.YtggidlmehimcjaaDoorTask5
import Derived.Test.YtggidlmehimcjaaDoorSame3
import Derived.StillTailTactics
namespace Go.Proofs.YtggidlmehimcjaaDoor
open Go.ChangeShapes Go.WideShapes Go.ChangeAt Go.RowKit
set_option linter.unusedVariables false
theorem okS_mk {s : SetR} (h1 : inB s.proto 1 3 = true) (h2 : inB s.cores.length 1 3 = true) (h3 : allB s.cores 1 3 = true) (h4 : s.homes.length ≤ 4) (h5 : allB s.homes 0 ((s.cores.length : Int) - 1) = true) (h6 : 1 ≤ s.tasks.length) (h7 : s.tasks.length ≤ 6)
    (ht : ∀ k, k < s.tasks.length → formB (s.tasks.getD k default) = true ∧ inB (s.tasks.getD k default).cl 0 ((s.cores.length : Int) - 1) = true ∧ takenB (s.tasks.take k) (s.tasks.getD k default) = false ∧ partsB (s.tasks.getD k default).parts s.homes.length = true) : okS s = true := by
  refine (okS_iff s).2 ⟨?_, fun k hk => ?_⟩
  · unfold frameV
    rw [if_neg (by simp [h1]), if_neg (by simp [h2]), if_neg (by simp [h3]), if_neg (by omega), if_neg (by simp [h5]), if_neg (by omega), if_neg (by omega)]
  · obtain ⟨a, b, c, d⟩ := ht k hk
    unfold taskE
    rw [if_neg (by rw [a]; decide), if_neg (by rw [b]; decide), if_neg (by rw [c]; decide), if_neg (by rw [d]; decide)]
theorem nameA : nameB ⟨#[97]⟩ = true := by decide +kernel
theorem nameBb : nameB ⟨#[98]⟩ = true := by decide +kernel
theorem namesAB : ((⟨#[97]⟩ : ByteArray).toList == (⟨#[98]⟩ : ByteArray).toList) = false := by decide +kernel
theorem okTwo {S : SetR} {run lock run2 lock2 : Int} {proto : Int} (hp : S.proto = proto) (hc : S.cores = [1]) (hh : S.homes = [0]) {a1 a2 : Option Addr} {c1 c2 : Nat} (ht : S.tasks = [⟨⟨#[97]⟩, 100, 100, 1, 0, a1, c1, [⟨1, run, 0⟩, ⟨3, lock, 0⟩]⟩, ⟨⟨#[98]⟩, 200, 200, 2, 0, a2, c2, [⟨1, run2, 0⟩, ⟨3, lock2, 0⟩]⟩])
    (k0 : 1 ≤ proto ∧ proto ≤ 3) (k1 : 1 ≤ run ∧ run ≤ 60) (k2 : 1 ≤ lock ∧ lock ≤ 60) (k3 : 1 ≤ run2 ∧ run2 ≤ 60) (k4 : 1 ≤ lock2 ∧ lock2 ≤ 60) : okS S = true := by
  refine okS_mk (by rw [hp]; exact inB_true.2 k0) (by rw [hc]; decide) (by rw [hc]; decide) (by rw [hh]; decide) (by rw [hh, hc]; decide) (by rw [ht]; simp) (by rw [ht]; simp) (fun k hk => ?_)
  rw [ht] at hk
  have hp : ∀ x y : Int, 1 ≤ x ∧ x ≤ 60 → 1 ≤ y ∧ y ≤ 60 → partsB [⟨1, x, 0⟩, ⟨3, y, 0⟩] 1 = true := fun x y hx hy => by
    have e1 : inB x 1 60 = true := inB_true.2 hx
    have e2 : inB y 1 60 = true := inB_true.2 hy
    have e3 : inB 0 0 0 = true := by decide
    have e4 : inB 2 1 6 = true := by decide
    simp [partsB, partB, e1, e2, e3, e4]
  match k, hk with
  | 0, _ =>
    rw [ht, hc, hh]
    refine ⟨?_, (by show inB 0 0 0 = true; decide), (by simp [takenB]), hp _ _ k1 k2⟩
    show formB _ = true
    simp only [List.getD_cons_zero, formB, nameA]
    decide
  | 1, _ =>
    rw [ht, hc, hh]
    refine ⟨?_, (by show inB 0 0 0 = true; decide), ?_, hp _ _ k3 k4⟩
    · show formB _ = true
      simp only [List.getD_cons_succ, List.getD_cons_zero, formB, nameBb]
      decide
    · simp [takenB, likeB]
end Go.Proofs.YtggidlmehimcjaaDoor

namespace Go.Proofs.YtggidlmehimcjaaDoor
open Go.ChangeShapes Go.WideShapes Go.ChangeAt Go.RowKit
set_option linter.unusedVariables false
set_option linter.unusedSimpArgs false
theorem told_ok {r r2 : RdT} {n : Nat} (h : r2.bare = r.bare) (hc : chkE r.bare = 0) : toldV r2 n = (r.bare, (n : Int), 0) := by
  unfold toldV
  rw [h, if_pos hc]
theorem parse_print {r : RdT} (h : r.good) (hl : (printT r).length ≤ 2000) (hc : chkE r.bare = 0) : parseV (printT r) = (r.bare, ((linesOf r).length : Int), 0) := by
  obtain ⟨r2, h1, h2⟩ := read_print h
  rw [parseV_ok hl h1, told_ok h2 hc]
  have hp := linesOf_plain h
  rw [print_lines, lines_ended (fun l hl c hc => (hp l hl c hc).1)]
theorem PartT.m_t (p : PartT) : p.m.t = p := rfl
theorem TaskT.bare_rd (t : TaskT) : t.bare.rd = t := by
  obtain ⟨n, a, b, c, d, ps⟩ := t
  unfold TaskT.bare TaskR.rd
  simp only [bl_mk, List.map_map, TaskT.mk.injEq, true_and]
  rw [show (PartM.t ∘ PartT.m) = id from rfl, List.map_id]
theorem printT_bare (r : RdT) : printT r.bare.rd = printT r := by
  have h : r.tasks.map (TaskR.rd ∘ TaskT.bare) = r.tasks := by
    rw [show (TaskR.rd ∘ TaskT.bare) = id from funext TaskT.bare_rd, List.map_id]
  unfold printT SetR.rd RdT.bare
  dsimp only
  rw [List.map_map, h]
theorem printV_rd {r : RdT} (hc : chkE r.bare = 0) : printV r.bare = printT r := by
  have h : okS r.bare = true := by unfold okS; rw [hc]; rfl
  unfold printV
  rw [if_pos h, printT_bare]
theorem okS_chk {s : SetR} (h : okS s = true) : chkE s = 0 := by unfold okS at h; simpa using h
/-- the set of a data that may be -/
theorem good_of {s : SetR} (h : okS s = true) : s.rd.good := by
  have g := Good.of h
  have hi := (okS_iff s).1 h
  refine ⟨by have := g.proto; show s.proto = 1 ∨ s.proto = 2 ∨ s.proto = 3; omega, ⟨fun e => ?_, fun n hn => ?_⟩, fun n hn => ?_, fun t ht => ?_⟩
  · have := g.ncores.1
    have e2 : s.cores = [] := e
    rw [e2] at this; simp at this
  · have := g.cores n hn; omega
  · have := g.homes n hn; have := g.ncores.2; omega
  · obtain ⟨u, hu, rfl⟩ := List.mem_map.1 ht
    have hf := g.form u hu
    have hp := g.place u hu
    unfold formB at hf
    simp only [Bool.and_eq_true] at hf
    obtain ⟨f1, f2, f3, f4⟩ := hf
    have f2 := inB_true.1 f2
    have f3 := inB_true.1 f3
    have f4 := inB_true.1 f4
    have hnc := g.ncores.2
    have hname : bl u.name ≠ [] ∧ ∀ c ∈ bl u.name, c ≠ 32 ∧ c ≠ 35 ∧ c ≠ 10 ∧ c ≠ 58 := by
      unfold nameB at f1
      rw [Bool.and_eq_true, List.all_eq_true] at f1
      obtain ⟨n1, n2⟩ := f1
      have n1 := of_decide_eq_true n1
      refine ⟨fun e => ?_, fun c hc => ?_⟩
      · have := congrArg List.length e
        rw [bl_len] at this; have h0 : ([] : Bts).length = 0 := rfl; omega
      · obtain ⟨i, hi, e⟩ := List.mem_iff_getElem.1 hc
        rw [bl_len] at hi
        have := n2 i (List.mem_range.2 hi)
        rw [byteAt_bl] at this
        simp only [List.getD, List.getElem?_eq_getElem (show i < (bl u.name).length by rw [bl_len]; exact hi), Option.getD_some, e] at this
        unfold okB at this
        refine ⟨?_, ?_, ?_, ?_⟩ <;> (rintro rfl; revert this; simp)
    refine ⟨hname, fun n hn => ?_, fun p hp => ?_⟩
    · simp only [TaskR.rd, List.mem_cons, List.not_mem_nil, or_false] at hn
      rcases hn with e | e | e | e <;> (rw [e]; constructor <;> omega)
    · obtain ⟨q, hq, rfl⟩ := List.mem_map.1 hp
      have hg := (g.parts u hu).good q hq
      obtain ⟨k, hk, rfl⟩ := mem_getD hu
      have hpb := (taskE_ok (hi.2 k hk)).2.2.2
      unfold partsB at hpb
      rw [Bool.and_eq_true, List.all_eq_true] at hpb
      have hqb := hpb.2 q hq
      have hh := g.nhomes
      unfold partB at hqb
      obtain ⟨k0, l0, l1, r0⟩ := hg
      refine ⟨?_, ⟨by show (0 : Int) ≤ q.len; omega, by show q.len ≤ (9999999 : Int); omega⟩, ?_⟩
      · show q.kind = 1 ∧ q.res = 0 ∨ q.kind = 2 ∧ q.res = 0 ∨ q.kind = 3
        rcases k0 with e | e | e
        · rw [e, if_neg (by decide), if_pos (.inl rfl), Bool.and_eq_true] at hqb
          have := inB_true.1 hqb.2
          left; exact ⟨e, by omega⟩
        · rw [e, if_neg (by decide), if_pos (.inr rfl), Bool.and_eq_true] at hqb
          have := inB_true.1 hqb.2
          right; left; exact ⟨e, by omega⟩
        · right; right; exact e
      · show (0 : Int) ≤ q.res ∧ q.res ≤ 9999999
        rcases k0 with e | e | e
        · rw [e, if_neg (by decide), if_pos (.inl rfl), Bool.and_eq_true] at hqb
          have := inB_true.1 hqb.2
          omega
        · rw [e, if_neg (by decide), if_pos (.inr rfl), Bool.and_eq_true] at hqb
          have := inB_true.1 hqb.2
          omega
        · have := r0 e; omega
theorem rd_bare (s : SetR) : s.rd.bare = s.bare := by
  unfold SetR.rd RdT.bare SetR.bare
  dsimp only
  rw [List.map_map]
  congr 1
  refine List.map_congr_left (fun t _ => ?_)
  show (TaskR.rd t).bare = t.bare
  unfold TaskR.rd TaskT.bare TaskR.bare
  dsimp only
  rw [mk_bl, List.map_map, show (PartT.m ∘ PartM.t) = id from rfl, List.map_id]
end Go.Proofs.YtggidlmehimcjaaDoor

namespace Go.Proofs.YtggidlmehimcjaaDoor
open Go.ChangeShapes Go.WideShapes Go.ChangeAt Go.RowKit
set_option linter.unusedVariables false
set_option linter.unusedSimpArgs false
/-- the same words, whatever is behind -/
def Wide (a b : Bts) : Prop := ∀ r, wl [] (b ++ r) = wl [] (a ++ r)
theorem Wide.snoc {a b : Bts} (h : Wide a b) (c : UInt8) : Wide (a ++ [c]) (b ++ [c]) := fun r => by
  rw [List.append_assoc, List.append_assoc]; exact h _
theorem Wide.blank {a b : Bts} (h : Wide a b) : Wide (a ++ [32]) ((b ++ [32]) ++ [32]) := fun r => by
  have h1 := h (32 :: r)
  rw [List.append_assoc, List.append_assoc, List.append_assoc]
  show wl [] (b ++ 32 :: ([32] ++ r)) = wl [] (a ++ 32 :: r)
  rw [← h1, wl_cut, wl_cut]
  congr 1
theorem Like.snoc {xs ys : List Bts} (h : Like xs ys) {a b : Bts} (hw : wordsL b = wordsL a) : Like (xs ++ [a]) (ys ++ [b]) := by
  induction h with
  | nil => exact .line hw .nil
  | line h1 _ ih => exact .line h1 ih
  | blank h1 _ ih => exact .blank h1 ih
theorem Like.snocBlank {xs ys : List Bts} (h : Like xs ys) {b : Bts} (hw : wordsL b = []) : Like xs (ys ++ [b]) := by
  induction h with
  | nil => exact .blank hw .nil
  | line h1 _ ih => exact .line h1 ih
  | blank h1 _ ih => exact .blank h1 ih
theorem ended_snoc (xs : List Bts) (a : Bts) : ended (xs ++ [a]) = ended xs ++ a ++ [10] := by simp [ended]
/-- tp has been read so far, up told of it: n line ends -/
structure Gap (tp up : Bts) (n : Nat) (xs ys : List Bts) (a b : Bts) : Prop where
  tp : tp = ended xs ++ a
  up : up = ended ys ++ b
  like : Like xs ys
  wide : Wide a b
  a10 : ∀ c ∈ a, c ≠ 10 ∧ c ≠ 35
  b10 : ∀ c ∈ b, c ≠ 10 ∧ c ≠ 35
  len : xs.length = n
  x10 : ∀ l ∈ xs, ∀ c ∈ l, c ≠ 10
  y10 : ∀ l ∈ ys, ∀ c ∈ l, c ≠ 10
  ab : a = [] → b = []
theorem Gap.start : Gap [] [] 0 [] [] [] [] := ⟨rfl, rfl, .nil, fun _ => rfl, by simp, by simp, rfl, by simp, by simp, fun _ => rfl⟩
variable {tp up : Bts} {n : Nat} {xs ys : List Bts} {a b : Bts}
theorem Gap.char (h : Gap tp up n xs ys a b) {c : UInt8} (h1 : c ≠ 10 ∧ c ≠ 35) : Gap (tp ++ [c]) (up ++ [c]) n xs ys (a ++ [c]) (b ++ [c]) :=
  ⟨by rw [h.tp, List.append_assoc], by rw [h.up, List.append_assoc], h.like, h.wide.snoc c, fun d hd => (List.mem_append.1 hd).elim (h.a10 d) (fun e => by rw [List.mem_singleton.1 e]; exact h1), fun d hd => (List.mem_append.1 hd).elim (h.b10 d) (fun e => by rw [List.mem_singleton.1 e]; exact h1), h.len, h.x10, h.y10, fun e => by simp at e⟩
theorem Gap.blank2 (h : Gap tp up n xs ys a b) : Gap (tp ++ [32]) (up ++ [32] ++ [32]) n xs ys (a ++ [32]) (b ++ [32] ++ [32]) :=
  ⟨by rw [h.tp, List.append_assoc], by rw [h.up]; simp, h.like, h.wide.blank, fun d hd => (List.mem_append.1 hd).elim (h.a10 d) (fun e => by rw [List.mem_singleton.1 e]; decide), fun d hd => by
    rcases List.mem_append.1 hd with e | e
    · rcases List.mem_append.1 e with e | e
      · exact h.b10 d e
      · rw [List.mem_singleton.1 e]; decide
    · rw [List.mem_singleton.1 e]; decide, h.len, h.x10, h.y10, fun e => by simp at e⟩
theorem words_wide {a b : Bts} (h : Wide a b) (ha : ∀ c ∈ a, c ≠ 10 ∧ c ≠ 35) (hb : ∀ c ∈ b, c ≠ 10 ∧ c ≠ 35) : wordsL b = wordsL a := by
  unfold wordsL
  rw [ahead_all (fun c hc => (ha c hc).2), ahead_all (fun c hc => (hb c hc).2)]
  have := h []
  rwa [List.append_nil, List.append_nil] at this
theorem ahead_mark (x r : Bts) (h : ∀ c ∈ x, c ≠ 35) : ahead35 (x ++ 35 :: r) = x := by
  induction x with
  | nil => rfl
  | cons a t ih => rw [List.cons_append, ahead35, if_neg (h a (by simp)), ih (fun c hc => h c (by simp [hc]))]
theorem words_mark {a b : Bts} (h : Wide a b) (ha : ∀ c ∈ a, c ≠ 10 ∧ c ≠ 35) (hb : ∀ c ∈ b, c ≠ 10 ∧ c ≠ 35) : wordsL (b ++ [32, 32, 35, 32, 109, 111, 114, 101]) = wordsL a := by
  have e : b ++ [32, 32, 35, 32, 109, 111, 114, 101] = (b ++ [32, 32]) ++ 35 :: [32, 109, 111, 114, 101] := by simp
  unfold wordsL
  rw [ahead_all (fun c hc => (ha c hc).2), e, ahead_mark _ _ (fun c hc => by
    rcases List.mem_append.1 hc with g | g
    · exact (hb c g).2
    · simp at g; rw [g]; decide)]
  have h1 := h [32, 32]
  rw [h1]
  show wl [] (a ++ 32 :: [32]) = _
  rw [wl_cut]
  show wl [] a ++ [] = _
  rw [List.append_nil]
/-- a line's end: words behind a mark ahead of it, a blank line behind it -/
theorem Gap.line (h : Gap tp up n xs ys a b) (p q : Bool) : ∃ ys', Gap (tp ++ [10]) (((up ++ (if p = true then [32, 32, 35, 32, 109, 111, 114, 101] else [])) ++ [10]) ++ (if q = true then [32, 32, 32, 10] else [])) (n + 1) (xs ++ [a]) ys' [] [] := by
  have key : ∀ b' : Bts, wordsL b' = wordsL a → (∀ c ∈ b', c ≠ 10) → ∃ ys', Gap (tp ++ [10]) ((ended ys ++ b' ++ [10]) ++ (if q = true then [32, 32, 32, 10] else [])) (n + 1) (xs ++ [a]) ys' [] [] := by
    intro b' hw hb
    have hl := h.like.snoc hw
    have hx : ∀ l ∈ xs ++ [a], ∀ c ∈ l, c ≠ 10 := fun l hl c hc => by
      rcases List.mem_append.1 hl with g | g
      · exact h.x10 l g c hc
      · rw [List.mem_singleton.1 g] at hc; exact (h.a10 c hc).1
    have hy : ∀ l ∈ ys ++ [b'], ∀ c ∈ l, c ≠ 10 := fun l hl c hc => by
      rcases List.mem_append.1 hl with g | g
      · exact h.y10 l g c hc
      · rw [List.mem_singleton.1 g] at hc; exact hb c hc
    cases q with
    | false => exact ⟨ys ++ [b'], by rw [h.tp, ended_snoc]; simp, by rw [ended_snoc]; simp, hl, fun _ => rfl, by simp, by simp, by simp [h.len], hx, hy, fun _ => rfl⟩
    | true =>
      refine ⟨(ys ++ [b']) ++ [[32, 32, 32]], by rw [h.tp, ended_snoc]; simp, by rw [ended_snoc, ended_snoc]; simp, hl.snocBlank (by rfl), fun _ => rfl, by simp, by simp, by simp [h.len], hx, fun l hl c hc => ?_, fun _ => rfl⟩
      rcases List.mem_append.1 hl with g | g
      · exact hy l g c hc
      · rw [List.mem_singleton.1 g] at hc; revert c; decide
  rw [h.up]
  cases p with
  | false =>
    have := key b (words_wide h.wide h.a10 h.b10) (fun c hc => (h.b10 c hc).1)
    simpa using this
  | true =>
    have := key (b ++ [32, 32, 35, 32, 109, 111, 114, 101]) (words_mark h.wide h.a10 h.b10) (fun c hc => by
      rcases List.mem_append.1 hc with g | g
      · exact (h.b10 c g).1
      · exact (by decide : ∀ c ∈ ([32, 32, 35, 32, 109, 111, 114, 101] : Bts), c ≠ 10) c g)
    simpa using this
theorem pl_ended (xs : List Bts) (a : Bts) (hx : ∀ l ∈ xs, ∀ c ∈ l, c ≠ 10) (ha : ∀ c ∈ a, c ≠ 10) : linesL (ended xs ++ a) = xs ++ (if a = [] then [] else [a]) := by
  unfold linesL
  induction xs with
  | nil =>
    show pl 10 [] a = _
    have : ∀ (l cur : Bts), (∀ c ∈ l, c ≠ 10) → pl 10 cur l = if cur ++ l = [] then [] else [cur ++ l] := by
      intro l
      induction l with
      | nil => intro cur _; simp [pl]
      | cons y t ih =>
        intro cur hl
        rw [pl, if_neg (hl y (by simp)), ih _ (fun c hc => hl c (by simp [hc]))]
        simp
    rw [this a [] ha]; simp
  | cons y t ih =>
    have e : ended (y :: t) ++ a = y ++ 10 :: (ended t ++ a) := by simp [ended]
    rw [e, pl_run y (hx y (by simp)), ih (fun l hl => hx l (List.mem_cons_of_mem _ hl))]
    rfl
/-- behind the whole text -/
theorem Gap.whole {L : List Bts} (h : Gap tp up n xs ys a b) (ht : tp = ended L) (hL : ∀ l ∈ L, ∀ c ∈ l, c ≠ 10) : n = L.length ∧ ∃ zs, Like L zs ∧ up = ended zs ∧ ∀ l ∈ zs, ∀ c ∈ l, c ≠ 10 := by
  have h1 : linesL tp = L := by rw [ht]; exact lines_ended hL
  have h2 := pl_ended xs a h.x10 (fun c hc => (h.a10 c hc).1)
  rw [← h.tp, h1] at h2
  have ha : a = [] := by
    by_cases e : a = []
    · exact e
    · rw [if_neg e] at h2
      have h3 := h.tp
      rw [ht, h2, ended_snoc] at h3
      have := congrArg List.length h3
      simp at this
  subst ha
  rw [if_pos rfl, List.append_nil] at h2
  subst h2
  have hb : b = [] := h.ab rfl
  subst hb
  exact ⟨h.len.symm, ys, h.like, by rw [h.up, List.append_nil], h.y10⟩
end Go.Proofs.YtggidlmehimcjaaDoor

namespace Go.Proofs.YtggidlmehimcjaaDoor
open Go.ChangeShapes Go.WideShapes Go.ChangeAt Go.RowKit
set_option linter.unusedVariables false
theorem joinT_sum (c : UInt8) (l : List Bts) : (joinT c l).length ≤ (l.map List.length).sum + l.length := by
  induction l with
  | nil => simp [joinT]
  | cons w r ih =>
    cases r with
    | nil => simp [joinT]
    | cons v r =>
      show (w ++ c :: joinT c (v :: r)).length ≤ _
      rw [List.length_append, List.length_cons, List.map_cons, List.sum_cons, List.length_cons]
      omega
theorem sum_map_le {α : Type} {f : α → Nat} {m : Nat} (l : List α) (h : ∀ x ∈ l, f x ≤ m) : (l.map f).sum ≤ l.length * m := by
  induction l with
  | nil => simp
  | cons a t ih =>
    rw [List.map_cons, List.sum_cons, List.length_cons, Nat.succ_mul]
    have := h a (by simp)
    have := ih (fun x hx => h x (List.mem_cons_of_mem _ hx))
    omega
theorem textL_four {n : Int} (h : 0 ≤ n ∧ n ≤ 9999) : (textL n).length ≤ 4 := by
  rw [textL_dec (by omega), Lib.decDigits_length]
  have key : ∀ m, ∀ n, n < 10 ^ (m + 1) → Lib.nDigits n ≤ m + 1 := by
    intro m
    induction m with
    | zero => intro n hn; rw [Lib.nDigits_small (by simpa using hn)]; omega
    | succ m ih =>
      intro n hn
      by_cases h10 : n < 10
      · rw [Lib.nDigits_small h10]; omega
      · rw [Lib.nDigits_big h10]
        have := ih (n / 10) (by rw [Nat.pow_succ] at hn; omega)
        omega
  exact key 3 n.toNat (by omega)
theorem nums_short {h : Bts} {l : List Int} (hl : ∀ n ∈ l, 0 ≤ n ∧ n ≤ 9999) : (numsW h l).length ≤ h.length + l.length * 4 + (l.length + 1) := by
  unfold numsW
  refine Nat.le_trans (joinT_sum 32 _) ?_
  rw [List.map_cons, List.sum_cons, List.map_map, List.length_cons, List.length_map]
  have := sum_map_le (f := List.length ∘ textL) (m := 4) l (fun n hn => textL_four (hl n hn))
  omega
theorem print_short {s : SetR} (h : okS s = true) : (printT s.rd).length ≤ 2000 := by
  have g := Good.of h
  have hi := (okS_iff s).1 h
  have ep : (mkB (protoW s.proto)).size ≤ 5 := protoW_len _
  rw [← bl_len, bl_mk] at ep
  have ec : (numsW [99, 111, 114, 101, 115] s.cores).length ≤ 30 := by
    have h1 := nums_short (h := [99, 111, 114, 101, 115]) (l := s.cores) (fun n hn => by have := g.cores n hn; omega)
    have h2 := g.ncores.2
    simp at h1
    omega
  have eh : (numsW [104, 111, 109, 101, 115] s.homes).length ≤ 30 := by
    have h1 := nums_short (h := [104, 111, 109, 101, 115]) (l := s.homes) (fun n hn => by have := g.homes n hn; have := g.ncores.2; omega)
    have h2 := g.nhomes
    simp at h1
    omega
  have et : ∀ t ∈ s.rd.tasks, (taskW t).length ≤ 150 := by
    intro t ht
    obtain ⟨u, hu, rfl⟩ := List.mem_map.1 ht
    have hf := g.form u hu
    have hp := g.place u hu
    unfold formB at hf
    simp only [Bool.and_eq_true] at hf
    obtain ⟨f1, f2, f3, f4⟩ := hf
    have f2 := inB_true.1 f2
    have f3 := inB_true.1 f3
    have f4 := inB_true.1 f4
    have hnc := g.ncores.2
    have hnm := nameB_size f1
    have hpl : u.parts.length ≤ 6 := by
      obtain ⟨k, hk, rfl⟩ := mem_getD hu
      have h2 := (taskE_ok (hi.2 k hk)).2.2.2
      unfold partsB at h2
      rw [Bool.and_eq_true] at h2
      have := inB_true.1 h2.1
      omega
    have h1 := nums_short (h := [116, 97, 115, 107, 32] ++ bl u.name) (l := [u.per, u.dl, u.prio, u.cl]) (fun n hn => by
      simp only [List.mem_cons, List.not_mem_nil, or_false] at hn
      rcases hn with e | e | e | e <;> (rw [e]; constructor <;> omega))
    rw [List.length_append, bl_len] at h1
    have h0 : ([116, 97, 115, 107, 32] : Bts).length = 5 := rfl
    have h00 : [u.per, u.dl, u.prio, u.cl].length = 4 := rfl
    rw [h0, h00] at h1
    have h2 : ∀ p ∈ u.parts, (partW p.t).length ≤ 14 := fun p hp => by
      have hg := (good_of h).tasks _ (List.mem_map.2 ⟨u, hu, rfl⟩)
      have hq := hg.parts p.t (List.mem_map.2 ⟨p, hp, rfl⟩)
      have hg2 := (g.parts u hu).good p hp
      have l1 := textL_four (n := p.len) (by have := hg2.2; omega)
      have l2 := textL_four (n := p.res) (by
        have := hq.2.2
        have hr : (p.t).res = p.res := rfl
        rw [hr] at this
        rcases hg2.1 with e | e | e
        · rcases hq.1 with ⟨_, x⟩ | ⟨x, _⟩ | x
          · have : p.res = 0 := x; omega
          · have : p.kind = 2 := x; omega
          · have : p.kind = 3 := x; omega
        · rcases hq.1 with ⟨x, _⟩ | ⟨_, x⟩ | x
          · have : p.kind = 1 := x; omega
          · have : p.res = 0 := x; omega
          · have : p.kind = 3 := x; omega
        · have := hg2.2.2.2 e; have := g.nhomes; omega)
      unfold partW PartM.t tRun tSleep tLock
      dsimp only
      split
      · simp; omega
      · split
        · simp; omega
        · simp; omega
    unfold taskW TaskR.rd
    refine Nat.le_trans (joinT_sum 32 _) ?_
    dsimp only
    rw [List.map_cons, List.sum_cons, List.length_cons, List.length_map, List.length_map, List.map_map, List.map_map]
    have h3 := sum_map_le (f := List.length ∘ partW ∘ PartM.t) (m := 14) u.parts h2
    have h4 : u.parts.length * 14 ≤ 84 := by omega
    have h5 : (numsW ([116, 97, 115, 107, 32] ++ bl u.name) [u.per, u.dl, u.prio, u.cl]).length ≤ 40 := by omega
    have h6 : (u.parts.map (List.length ∘ partW ∘ PartM.t)).sum ≤ 84 := Nat.le_trans h3 h4
    have h7 : (u.parts.map ((List.length ∘ partW) ∘ PartM.t)).sum = (u.parts.map (List.length ∘ partW ∘ PartM.t)).sum := rfl
    omega
  have hn : s.rd.tasks.length ≤ 6 := by
    have := g.ntasks.2
    simpa [SetR.rd] using this
  have hlen : (ended (linesOf s.rd)).length = ((linesOf s.rd).map (fun l => l.length + 1)).sum := by
    generalize linesOf s.rd = ls
    induction ls with
    | nil => rfl
    | cons a t ih =>
      have e : ended (a :: t) = a ++ [10] ++ ended t := by simp [ended]
      rw [e, List.length_append, ih]; simp
  rw [print_lines, hlen]
  unfold linesOf
  rw [List.map_cons, List.map_cons, List.sum_cons, List.sum_cons, List.map_append, List.sum_append, List.map_map]
  have h1 := sum_map_le (f := (fun l : Bts => l.length + 1) ∘ taskW) (m := 151) s.rd.tasks (fun t ht => by have := et t ht; show (taskW t).length + 1 ≤ 151; omega)
  have h2 : s.rd.tasks.length * 151 ≤ 906 := by omega
  have h3 : ((if s.rd.homes = [] then [] else [numsW [104, 111, 109, 101, 115] s.rd.homes]).map (fun l : Bts => l.length + 1)).sum ≤ 31 := by
    split
    · simp
    · have : (numsW [104, 111, 109, 101, 115] s.rd.homes).length ≤ 30 := eh
      simp; omega
  have h4 : ([112, 114, 111, 116, 111, 99, 111, 108, 32] ++ protoW s.rd.proto : Bts).length ≤ 14 := by
    rw [List.length_append]
    have : (protoW s.rd.proto).length ≤ 5 := ep
    have h0 : ([112, 114, 111, 116, 111, 99, 111, 108, 32] : Bts).length = 9 := rfl
    omega
  have h5 : (numsW [99, 111, 114, 101, 115] s.rd.cores).length ≤ 30 := ec
  omega
end Go.Proofs.YtggidlmehimcjaaDoor

namespace Go.Proofs.YtggidlmehimcjaaDoor
open Go.ChangeShapes Go.WideShapes Go.ChangeAt Go.RowKit
set_option linter.unusedVariables false
set_option linter.unusedSimpArgs false

theorem infoC : (Tryd.prog.info? 3).map (fun i => (i.zero, i.size, i.bytes)) = some (some (.int .i64 0), 1, 8) := by kernel_rfl
/-- two tasks are alike, wherever their parts lie -/
def sameF (a b : TaskR) : Prop := a.name = b.name ∧ a.per = b.per ∧ a.dl = b.dl ∧ a.prio = b.prio ∧ a.cl = b.cl ∧ a.parts = b.parts
theorem sameF.refl (a : TaskR) : sameF a a := ⟨rfl, rfl, rfl, rfl, rfl, rfl⟩
theorem sameF.T {a b : TaskR} (h : sameF a b) : sameT a b = true := by
  obtain ⟨h0, h1, h2, h3, h4, h5⟩ := h
  unfold sameT; rw [h0, h1, h2, h3, h4, h5]; simp
/-- few enough to be copied -/
structure FewS (s : SetR) : Prop where
  cores : s.cores.length ≤ 1000
  homes : s.homes.length ≤ 1000
  tasks : s.tasks.length ≤ 1000
  parts : ∀ t ∈ s.tasks, t.parts.length ≤ 1000
/-- x is alike s; its slices are its own, from block B on -/
structure CopyOf (B : Nat) (w' : World) (s x : SetR) : Prop where
  proto : x.proto = s.proto
  cores : x.cores = s.cores
  homes : x.homes = s.homes
  len : x.tasks.length = s.tasks.length
  like : ∀ j, j < s.tasks.length → sameF (x.tasks.getD j default) (s.tasks.getD j default)
  oc : OwnN B w' x.ca x.cores.length x.cc x.cores
  oh : OwnN B w' x.ha x.homes.length x.hc x.homes
  ot : OwnT B w' x.ta x.tasks.length x.tc x.tasks
  op : ∀ j, j < x.tasks.length → OwnP B w' (x.tasks.getD j default).pa (x.tasks.getD j default).parts.length (x.tasks.getD j default).pc (x.tasks.getD j default).parts
  s1 : ∀ a ∈ fp x.ca, ∀ b ∈ fp x.ha, a < b
  s2 : ∀ a ∈ fp x.ca ++ fp x.ha, ∀ b ∈ fp x.ta, a < b
  s3 : ∀ j, j < x.tasks.length → ∀ a ∈ fp x.ca ++ (fp x.ha ++ fp x.ta), ∀ b ∈ fp (x.tasks.getD j default).pa, a < b
  s4 : ∀ j k, j < k → k < x.tasks.length → ∀ a ∈ fp (x.tasks.getD j default).pa, ∀ b ∈ fp (x.tasks.getD k default).pa, a < b
theorem OwnN.low {B B' : Nat} {w : World} {A : Option Addr} {n c : Nat} {zs : List Int} (h : OwnN B w A n c zs) (hB : B' ≤ B) : OwnN B' w A n c zs := ⟨own_base h.own (fun k hk => Nat.le_trans hB (h.own.lt k hk).1), h.len, h.cap, h.nil⟩
theorem OwnP.low {B B' : Nat} {w : World} {A : Option Addr} {n c : Nat} {ps : List PartM} (h : OwnP B w A n c ps) (hB : B' ≤ B) : OwnP B' w A n c ps := ⟨own_base h.own (fun k hk => Nat.le_trans hB (h.own.lt k hk).1), h.len, h.cap, h.nil⟩
theorem OwnP.sl {B : Nat} {w : World} {A : Option Addr} {c : Nat} {ps : List PartM} (h : OwnP B w A ps.length c ps) : SlOk A ps.length c := ⟨h.nil, h.cap⟩
theorem CopyOf.ok {B : Nat} {w w' : World} {s x : SetR} (h : CopyOf B w' s x) (hs : SetOk w s) : SetOk w' x := by
  refine ⟨h.proto ▸ hs.proto, h.oc.ok (by rw [h.cores]; exact hs.cores.wf), h.oh.ok (by rw [h.homes]; exact hs.homes.wf), ⟨h.ot.sl, h.ot.tasks, fun t ht => ?_⟩⟩
  obtain ⟨j, hj, rfl⟩ := mem_getD ht
  have hj2 : j < s.tasks.length := by rw [← h.len]; exact hj
  obtain ⟨l0, l1, l2, l3, l4, l5⟩ := h.like j hj2
  have o := hs.tasks.ok _ (getD_mem hj2)
  have p := h.op j hj
  exact ⟨l0 ▸ o.name, l1 ▸ o.per, l2 ▸ o.dl, l3 ▸ o.prio, l4 ▸ o.cl, p.sl, p.parts, by rw [l5]; exact o.wf⟩
theorem CopyOf.same {B : Nat} {w' : World} {s x : SetR} (h : CopyOf B w' s x) : sameS x s = true := by
  unfold sameS
  rw [h.proto, h.cores, h.homes, sameTs_true h.len (fun k hk => (h.like k (by rw [← h.len]; exact hk)).T)]
  simp
theorem ints_one (zs : List Int) : ∀ u ∈ zs.map (Value.int .i64), u.oneCell' = true := fun u hu => by obtain ⟨n, _, rfl⟩ := List.mem_map.1 hu; rfl
def CopyPost (w : World) (s : SetR) (e : Ending) (w' : World) : Prop := ∃ x, e = .returned (.agg #[.int .i64 x.proto, .slice x.ca x.cores.length x.cc, .slice x.ha x.homes.length x.hc, .slice x.ta x.tasks.length x.tc]) ∧ CopyOf w.heap.size w' s x ∧ Below w.heap.size w w'
/-- the first i tasks are copied -/
structure CpInv (B : Nat) (w : World) (A1 A2 A3 : Option Addr) (k3 : Nat) (ts cs : List TaskR) (i : Nat) : Prop where
  len : cs.length = ts.length
  like : ∀ j, j < ts.length → sameF (cs.getD j default) (ts.getD j default)
  rest : ∀ j, i ≤ j → j < ts.length → cs.getD j default = ts.getD j default
  ot : OwnT B w A3 ts.length k3 cs
  op : ∀ j, j < i → OwnP B w (cs.getD j default).pa (cs.getD j default).parts.length (cs.getD j default).pc (cs.getD j default).parts
  s3 : ∀ j, j < i → ∀ a ∈ fp A1 ++ (fp A2 ++ fp A3), ∀ b ∈ fp (cs.getD j default).pa, a < b
  s4 : ∀ j k, j < k → k < i → ∀ a ∈ fp (cs.getD j default).pa, ∀ b ∈ fp (cs.getD k default).pa, a < b
theorem CpInv.turned {B i k3 : Nat} {w w' : World} {A1 A2 A3 : Option Addr} {ts cs : List TaskR} {F : List Nat} (h : CpInv B w A1 A2 A3 k3 ts cs i) (ht : Turned F w w') (hF : ∀ k, B ≤ k → k < w.heap.size → k ∉ F) : CpInv B w' A1 A2 A3 k3 ts cs i :=
  ⟨h.len, h.like, h.rest, h.ot.turned ht (fun k hk => hF k (own_fp h.ot.own k hk).1 (own_fp h.ot.own k hk).2), fun j hj => (h.op j hj).turned ht (fun k hk => hF k (own_fp (h.op j hj).own k hk).1 (own_fp (h.op j hj).own k hk).2), h.s3, h.s4⟩
theorem getD_set_eq {α : Type} [Inhabited α] {l : List α} {i : Nat} (h : i < l.length) (x : α) : (l.set i x).getD i default = x := by simp [List.getD, h]
theorem getD_set_ne' {α : Type} [Inhabited α] {l : List α} {i j : Nat} (h : i ≠ j) (x : α) : (l.set i x).getD j default = l.getD j default := by simp [List.getD, List.getElem?_set, h]
/-- one task more -/
theorem CpInv.step {B i k3 g np c' : Nat} {w v : World} {A1 A2 A' : Option Addr} {ts cs : List TaskR} (h : CpInv B w A1 A2 (some ⟨g, 0, none⟩) k3 ts cs i) (hi : i < ts.length)
    (ha : App B 42 3 w none A' np c' (ptc (ts.getD i default).parts) v) (hn : np = (ts.getD i default).parts.length) (hA : ∀ a ∈ fp A1 ++ (fp A2 ++ fp (some ⟨g, 0, none⟩)), a < w.heap.size) :
    CpInv B (v.setCell ⟨g, i * 6 + 5, none⟩ (.slice A' np c')) A1 A2 (some ⟨g, 0, none⟩) k3 ts (cs.set i { ts.getD i default with pa := A', pc := c' }) (i + 1) := by
  subst hn
  have hl := h.len
  have hic : i < cs.length := by omega
  have hri := h.rest i (Nat.le_refl _) hi
  have hci : cs[i] = ts.getD i default := by rw [← hri]; simp [List.getD, hic]
  have hgl := (own_fp h.ot.own g (by simp [fp])).2
  have hnew : ∀ b ∈ fp A', w.heap.size ≤ b := fun b hb => by
    rcases ha.fps b hb with h | h
    · simp [fp] at h
    · exact h
  have TS : Turned [g] v (v.setCell ⟨g, i * 6 + 5, none⟩ (.slice A' (ts.getD i default).parts.length c')) := (Turned.refl [g] v).setCell (p := ⟨g, i * 6 + 5, none⟩) (.inl (by simp)) _
  have hot := h.ot.turned ha.turned (by simp [fp])
  refine ⟨by simpa using hl, fun j hj => ?_, fun j hj1 hj2 => ?_, ?_, fun j hj => ?_, fun j hj a ha1 b hb => ?_, fun j k hjk hk a ha1 b hb => ?_⟩
  · by_cases e : i = j
    · subst e; rw [getD_set_eq hic]; exact ⟨rfl, rfl, rfl, rfl, rfl, rfl⟩
    · rw [getD_set_ne' e]; exact h.like j hj
  · rw [getD_set_ne' (by omega)]; exact h.rest j (by omega) hj2
  · have := ownT_put hot hic (j := 5) (by decide) { ts.getD i default with pa := A', pc := c' } (.slice A' (ts.getD i default).parts.length c') (by rw [hci]; rfl)
    exact this
  · by_cases e : i = j
    · subst e
      rw [getD_set_eq hic]
      have o : OwnP B v A' (ts.getD i default).parts.length c' (ts.getD i default).parts := ⟨ha.own, rfl, ha.cap, ha.nil⟩
      exact o.turned TS (fun k hk hm => by simp at hm; subst hm; have := hnew _ hk; omega)
    · rw [getD_set_ne' e]
      have o := h.op j (by omega)
      refine (o.turned ha.turned (by simp [fp])).turned TS (fun k hk hm => ?_)
      simp at hm; subst hm
      have := h.s3 j (by omega) k (by simp [fp]) k hk
      omega
  · by_cases e : i = j
    · subst e
      rw [getD_set_eq hic] at hb
      have h1 := hnew b hb
      have h2 := hA a ha1
      omega
    · rw [getD_set_ne' e] at hb; exact h.s3 j (by omega) a ha1 b hb
  · by_cases e : i = k
    · subst e
      rw [getD_set_ne' (by omega)] at ha1
      rw [getD_set_eq hic] at hb
      have h1 := hnew b hb
      have h2 := (own_fp (h.op j (by omega)).own a ha1).2
      omega
    · rw [getD_set_ne' (by omega)] at ha1
      rw [getD_set_ne' e] at hb
      exact h.s4 j k hjk (by omega) a ha1 b hb
end Go.Proofs.YtggidlmehimcjaaDoor

namespace Go.Proofs.YtggidlmehimcjaaDoor
open Go.ChangeShapes Go.WideShapes Go.ChangeAt Go.RowKit
set_option linter.unusedVariables false
def FewQ9 (w : World) (s : SetR) (e : Ending) (w' : World) : Prop := (∃ b : Bool, e = .returned (.bool b) ∧ (b = true → FewS s ∧ s.tasks.length ≤ 9)) ∧ Below w.heap.size w w'
set_option maxRecDepth 100000 in
theorem fews9_any (s : SetR) (w : World) (hs : SetOk w s) : Calls Tryd.prog 8 #[.agg #[.int .i64 s.proto, .slice s.ca s.cores.length s.cc, .slice s.ha s.homes.length s.hc, .slice s.ta s.tasks.length s.tc]] w (FewQ9 w s) := by
  have hb := (Below.refl w.heap.size w).alloc (Nat.le_refl _) (.cells #[.int .i64 s.proto, .slice s.ca s.cores.length s.cc, .slice s.ha s.homes.length s.hc, .slice s.ta s.tasks.length s.tc] 25)
  have CB := hidp (SetCells.new w s 25)
  have l1 : s.tasks.length ≤ maxLen := Nat.le_trans hs.tasks.sl.2.1 hs.tasks.sl.2.2
  have l2 : s.cores.length ≤ maxLen := Nat.le_trans hs.cores.sl.2.1 hs.cores.sl.2.2
  have l3 : s.homes.length ≤ maxLen := Nat.le_trans hs.homes.sl.2.1 hs.homes.sl.2.2
  unfold maxLen at l1 l2 l3
  have HR := hidp hs.tasks.at_
  have Hok := hidp hs.tasks.ok
  clear hs
  obtain ⟨proto, ca, cc, cores, ha, hc, homes, ta, tc, tasks⟩ := s
  dsimp only at HR Hok l1 l2 l3 hb ⊢
  have F : ∀ w', Below w.heap.size w w' → FewQ9 w ⟨proto, ca, cc, cores, ha, hc, homes, ta, tc, tasks⟩ (.returned (.bool false)) w' := fun w' h => ⟨⟨false, rfl, fun e => by cases e⟩, h⟩
  have HF := hidp F
  clear F
  have hc0 : (8 : Int) < (cores.length : Int) ∨ ¬ (8 : Int) < (cores.length : Int) ∧ (10 : Int) < (homes.length : Int) ∨ ¬ (8 : Int) < (cores.length : Int) ∧ ¬ (10 : Int) < (homes.length : Int) ∧ (9 : Int) < (tasks.length : Int) ∨ ¬ (8 : Int) < (cores.length : Int) ∧ ¬ (10 : Int) < (homes.length : Int) ∧ ¬ (9 : Int) < (tasks.length : Int) := by omega
  rcases hc0 with h | ⟨h, g⟩ | ⟨h, g, f⟩ | ⟨h, g, f⟩
  · go_enter Tryd.func8, Tryd.ntmps8
    go_wp2
    go_ret
    exact HF.out _ hb
  · go_enter Tryd.func8, Tryd.ntmps8
    go_wp2
    go_ret
    exact HF.out _ hb
  · go_enter Tryd.func8, Tryd.ntmps8
    go_wp2
    go_ret
    exact HF.out _ hb
  · go_enter Tryd.func8, Tryd.ntmps8
    go_wp2
    go_loopg [3] tasks.length (fun gg i wr => ∃ k : Nat, k + gg = tasks.length ∧ i = .int .i64 k ∧ SetCells wr w.heap.size ⟨proto, ca, cc, cores, ha, hc, homes, ta, tc, tasks⟩ ∧ Below w.heap.size w wr ∧ Hid (∀ j, j < k → (tasks.getD j default).parts.length ≤ 10))
    case atStart => exact ⟨0, by omega, rfl, CB.out, hb, hidp (by omega)⟩
    case round =>
      obtain ⟨k, hk, rfl, sc, hw, Hj⟩ := hrel
      have sc2 := sc
      obtain ⟨c0, c1, c2, c3⟩ := sc2
      dsimp only at c0 c1 c2 c3
      by_cases hlt : k < tasks.length
      · obtain ⟨g0, off, hA, hcl⟩ := HR.out.resolve_left (by intro e; rw [e] at hlt; simp at hlt)
        subst hA
        obtain ⟨t, HT⟩ : ∃ t, Hid (tasks.getD k default = t) := ⟨_, rfl⟩
        have tcl := (HT.out ▸ hcl k hlt).keep (Keeps.of_below hw)
        obtain ⟨d0, _, _, _, _, d5⟩ := tcl
        have hok := Hok.out t (HT.out ▸ getD_mem hlt)
        have n1 := hok.name
        have n2 : t.parts.length ≤ maxLen := Nat.le_trans hok.sl.2.1 hok.sl.2.2
        unfold maxLen at n1 n2
        clear hcl hok
        by_cases z1 : (20 : Int) < (t.name.size : Int)
        · go_wp2
          go_ret
          exact HF.out _ hw
        · by_cases z2 : (10 : Int) < (t.parts.length : Int)
          · go_wp2
            go_ret
            exact HF.out _ hw
          · have Hj2 : Hid (∀ j, j < k + 1 → (tasks.getD j default).parts.length ≤ 10) := hidp (by
              intro j hj
              by_cases e : j = k
              · subst e; rw [HT.out]; omega
              · exact Hj.out j (by omega))
            go_wp2
            go_roundg (gk - 1)
            case measure => omega
            case rel => exact ⟨k + 1, by omega, by go_num, sc, hw, Hj2⟩
      · have hk2 : k = tasks.length := by omega
        have HQ : Hid (FewS ⟨proto, ca, cc, cores, ha, hc, homes, ta, tc, tasks⟩ ∧ tasks.length ≤ 9) := hidp (by
          refine ⟨⟨by dsimp only; omega, by dsimp only; omega, by dsimp only; omega, fun t ht => ?_⟩, by omega⟩
          obtain ⟨j, hj, rfl⟩ := mem_getD ht
          dsimp only at hj
          have := Hj.out j (by omega)
          dsimp only
          omega)
        go_wp2
        go_ret
        exact ⟨⟨true, rfl, fun _ => HQ.out⟩, hw⟩

end Go.Proofs.YtggidlmehimcjaaDoor

namespace Go.Proofs.YtggidlmehimcjaaDoor
open Go.ChangeShapes Go.WideShapes Go.ChangeAt Go.RowKit
set_option linter.unusedVariables false

set_option maxHeartbeats 1000000 in
theorem rname_any (s : ByteArray) (w : World) (hs : s.size ≤ maxLen) : Calls Tryd.prog 39 #[.string s] w fun e w' => e = .returned (.bool (nameB s)) ∧ w = w' := by
  unfold maxLen at hs
  go_enter Tryd.func39, Tryd.ntmps39
  go_wp2
  go_loopg [3] s.size (fun g i wr => ∃ k : Nat, k + g = s.size ∧ i = .int .i64 k ∧ Hid (∀ j, j < k → okB j (byteAt s j) = true) ∧ w = wr)
  case atStart => exact ⟨0, by omega, rfl, hidp (by omega), rfl⟩
  case round =>
    obtain ⟨k, hk, rfl, Ho, rfl⟩ := hrel
    by_cases hlt : k < s.size
    · obtain ⟨c, hc⟩ : ∃ c : Int, (s[k].toNat : Int) = c := ⟨_, rfl⟩
      have Hc : Hid (byteAt s k = c) := hidp (by rw [byteAt_is s k hlt, hc])
      have Hn : Hid (okB k c = true → ∀ j, j < k + 1 → okB j (byteAt s j) = true) := hidp (fun h j hj => by
        by_cases e : j = k
        · subst e; rw [Hc.out]; exact h
        · exact Ho.out j (by omega))
      have Hx : Hid (okB k c = false → nameB s = false) := hidp (fun h => nameB_not hlt (by rw [Hc.out]; exact h))
      have bd := byte_bd s k
      rw [Hc.out] at bd
      obtain ⟨b0, b1⟩ := bd
      have hcase : (97 ≤ c ∧ c ≤ 122) ∨ (c < 97 ∧ c < 48) ∨ (c < 97 ∧ 57 < c) ∨ (122 < c ∧ 97 ≤ c ∧ 57 < c) ∨ (c < 97 ∧ 48 ≤ c ∧ c ≤ 57 ∧ k = 0) ∨ (c < 97 ∧ 48 ≤ c ∧ c ≤ 57 ∧ 0 < k) := by omega
      rcases hcase with ⟨g1, g2⟩ | ⟨g1, g2⟩ | ⟨g1, g2⟩ | ⟨g1, g2, g3⟩ | ⟨g1, g2, g3, g4⟩ | ⟨g1, g2, g3, g4⟩
      · have Hy : Hid (okB k c = true) := hidp (by simp [okB, g1, g2])
        go_wp2
        go_roundg (gk - 1)
        case measure => omega
        case rel => exact ⟨k + 1, by omega, by go_num, hidp (Hn.out Hy.out), rfl⟩
      · have Hy : Hid (okB k c = false) := hidp (by simp [okB]; omega)
        go_wp2
        go_ret
        exact ⟨ret_bool (Hx.out Hy.out).symm, rfl⟩
      · have Hy : Hid (okB k c = false) := hidp (by simp [okB]; omega)
        go_wp2
        go_ret
        exact ⟨ret_bool (Hx.out Hy.out).symm, rfl⟩
      · have Hy : Hid (okB k c = false) := hidp (by simp [okB]; omega)
        go_wp2
        go_ret
        exact ⟨ret_bool (Hx.out Hy.out).symm, rfl⟩
      · subst g4
        have Hy : Hid (okB 0 c = false) := hidp (by simp [okB]; omega)
        go_wp2
        go_ret
        exact ⟨ret_bool (Hx.out Hy.out).symm, rfl⟩
      · have Hy : Hid (okB k c = true) := hidp (by simp [okB, g2, g3, g4])
        have kb : ((k : Int) == 0) = false := by simp; omega
        go_wp2
        go_roundg (gk - 1)
        case measure => omega
        case rel => exact ⟨k + 1, by omega, by go_num, hidp (Hn.out Hy.out), rfl⟩
    · by_cases h1 : 1 ≤ s.size
      · by_cases h8 : s.size ≤ 8
        · have H := hidp (nameB_all (s := s) (by omega) (fun j hj => Ho.out j (by omega)))
          go_wp2
          go_ret
          exact ⟨ret_bool (by rw [H.out]; simp; try omega), rfl⟩
        · have H := hidp (nameB_long (s := s) (by omega))
          have h9 : decide (s.size ≤ 8) = false := by simpa using h8
          go_wp2
          go_ret
          exact ⟨ret_bool (by rw [H.out]; simp; try omega), rfl⟩
      · have H := hidp (nameB_long (s := s) (by omega))
        have h9 : decide (1 ≤ s.size) = false := by simpa using h1
        go_wp2
        go_ret
        exact ⟨ret_bool H.out.symm, rfl⟩

/-- a set's box, read by the reference -/
theorem rpart_any (s : SetR) (p : PartM) (w : World) (l : s.homes.length ≤ maxLen) : Calls Tryd.prog 40 #[.agg #[.int .i64 s.proto, .slice s.ca s.cores.length s.cc, .slice s.ha s.homes.length s.hc, .slice s.ta s.tasks.length s.tc], .agg #[.int .i64 p.kind, .int .i64 p.len, .int .i64 p.res]] w fun e w' => e = .returned (.bool (partB p s.homes.length)) ∧ Below w.heap.size w w' := by
  unfold maxLen at l
  obtain ⟨kd, ln, rs⟩ := p
  have sc := ((SetCells.new w s 25).keep (Keeps.alloc _ (.cells #[.int .i64 kd, .int .i64 ln, .int .i64 rs] 42)))
  obtain ⟨c0, c1, c2, c3⟩ := sc
  have hb := ((Below.refl w.heap.size w).alloc (Nat.le_refl _) (.cells #[.int .i64 s.proto, .slice s.ca s.cores.length s.cc, .slice s.ha s.homes.length s.hc, .slice s.ta s.tasks.length s.tc] 25)).alloc (by simp) (.cells #[.int .i64 kd, .int .i64 ln, .int .i64 rs] 42)
  have hcase : (kd < 1) ∨ (1 ≤ kd ∧ 3 < kd) ∨ (1 ≤ kd ∧ kd ≤ 3 ∧ ln < 1) ∨ (1 ≤ kd ∧ kd ≤ 3 ∧ 1 ≤ ln ∧ 60 < ln) ∨ (1 ≤ kd ∧ kd ≤ 3 ∧ 1 ≤ ln ∧ ln ≤ 60) := by omega
  rcases hcase with g | ⟨g, g1⟩ | ⟨g, g1, g2⟩ | ⟨g, g1, g2, g3⟩ | ⟨g, g1, g2, g3⟩
  · have H : Hid (partB ⟨kd, ln, rs⟩ s.homes.length = false) := hidp (by unfold partB; dsimp only; rw [if_neg (by omega), if_neg (by omega)])
    go_enter Tryd.func40, Tryd.ntmps40
    go_wp2
    go_ret
    exact ⟨ret_bool H.out.symm, hb⟩
  · have H : Hid (partB ⟨kd, ln, rs⟩ s.homes.length = false) := hidp (by unfold partB; dsimp only; rw [if_neg (by omega), if_neg (by omega)])
    go_enter Tryd.func40, Tryd.ntmps40
    go_wp2
    go_ret
    exact ⟨ret_bool H.out.symm, hb⟩
  · have H : Hid (partB ⟨kd, ln, rs⟩ s.homes.length = false) := hidp (by
      have e : inB ln 1 60 = false := inB_false.2 (by omega)
      unfold partB; dsimp only; rw [e]; split; rfl; split <;> rfl)
    go_enter Tryd.func40, Tryd.ntmps40
    go_wp2
    go_ret
    exact ⟨ret_bool H.out.symm, hb⟩
  · have H : Hid (partB ⟨kd, ln, rs⟩ s.homes.length = false) := hidp (by
      have e : inB ln 1 60 = false := inB_false.2 (by omega)
      unfold partB; dsimp only; rw [e]; split; rfl; split <;> rfl)
    go_enter Tryd.func40, Tryd.ntmps40
    go_wp2
    go_ret
    exact ⟨ret_bool H.out.symm, hb⟩
  · have e : inB ln 1 60 = true := inB_true.2 ⟨g2, g3⟩
    by_cases k3 : kd = 3
    · subst k3
      have hc2 : (rs < 0) ∨ (0 ≤ rs ∧ (s.homes.length : Int) ≤ rs) ∨ (0 ≤ rs ∧ rs < (s.homes.length : Int)) := by omega
      rcases hc2 with h | ⟨h, h2⟩ | ⟨h, h2⟩
      · have H : Hid (partB ⟨3, ln, rs⟩ s.homes.length = false) := hidp (by
          have e2 : inB rs 0 ((s.homes.length : Int) - 1) = false := inB_false.2 (by omega)
          unfold partB; simp [e, e2])
        go_enter Tryd.func40, Tryd.ntmps40
        go_wp2
        go_ret
        exact ⟨ret_bool H.out.symm, hb⟩
      · have H : Hid (partB ⟨3, ln, rs⟩ s.homes.length = false) := hidp (by
          have e2 : inB rs 0 ((s.homes.length : Int) - 1) = false := inB_false.2 (by omega)
          unfold partB; simp [e, e2])
        go_enter Tryd.func40, Tryd.ntmps40
        go_wp2
        go_ret
        exact ⟨ret_bool (by rw [H.out]; simp; try omega), hb⟩
      · have H : Hid (partB ⟨3, ln, rs⟩ s.homes.length = true) := hidp (by
          have e2 : inB rs 0 ((s.homes.length : Int) - 1) = true := inB_true.2 (by omega)
          unfold partB; simp [e, e2])
        go_enter Tryd.func40, Tryd.ntmps40
        go_wp2
        go_ret
        exact ⟨ret_bool H.out.symm, hb⟩
    · have k4 : (kd == 3) = false := by simpa using k3
      have k5 : (kd != 3) = true := by simpa using k3
      have k6 : kd = 1 ∨ kd = 2 := by omega
      have H : Hid (partB ⟨kd, ln, rs⟩ s.homes.length = (rs == 0)) := hidp (by
        unfold partB; dsimp only; rw [if_neg k3, if_pos k6, e, Bool.true_and]
        by_cases z : rs = 0
        · subst z; decide
        · have : inB rs 0 0 = false := inB_false.2 (by omega)
          rw [this]; symm; simpa using z)
      clear k3 k6
      go_enter Tryd.func40, Tryd.ntmps40
      go_wp2
      go_ret
      exact ⟨ret_bool H.out.symm, hb⟩
end Go.Proofs.YtggidlmehimcjaaDoor

namespace Go.Proofs.YtggidlmehimcjaaDoor
open Go.ChangeShapes Go.WideShapes Go.ChangeAt Go.RowKit
set_option linter.unusedVariables false
set_option linter.unusedSimpArgs false
/-- a task's box, its parts' length apart -/
def TBox (w : World) (b : Nat) (nm : ByteArray) (per dl prio cl : Int) (pa : Option Addr) (n pc : Nat) : Prop :=
  w.cell? ⟨b, 0, none⟩ = some (.string nm) ∧ w.cell? ⟨b, 1, none⟩ = some (.int .i64 per) ∧ w.cell? ⟨b, 2, none⟩ = some (.int .i64 dl) ∧ w.cell? ⟨b, 3, none⟩ = some (.int .i64 prio) ∧ w.cell? ⟨b, 4, none⟩ = some (.int .i64 cl) ∧ w.cell? ⟨b, 5, none⟩ = some (.slice pa n pc)
theorem TBox.keep {w w' : World} {b : Nat} {nm : ByteArray} {per dl prio cl : Int} {pa : Option Addr} {n pc : Nat} (h : TBox w b nm per dl prio cl pa n pc) (k : Keeps w w') : TBox w' b nm per dl prio cl pa n pc := ⟨k _ _ h.1, k _ _ h.2.1, k _ _ h.2.2.1, k _ _ h.2.2.2.1, k _ _ h.2.2.2.2.1, k _ _ h.2.2.2.2.2⟩
theorem TBox.new (w : World) (nm : ByteArray) (per dl prio cl : Int) (pa : Option Addr) (n pc : Nat) (T : TypeId) : TBox (w.alloc (.cells #[.string nm, .int .i64 per, .int .i64 dl, .int .i64 prio, .int .i64 cl, .slice pa n pc] T)) w.heap.size nm per dl prio cl pa n pc := by
  refine ⟨?_, ?_, ?_, ?_, ?_, ?_⟩ <;> simp

set_option maxHeartbeats 4000000 in
theorem rsameTask_any (t u : TaskR) (w : World) (ht : TaskOk w t) (hu : TaskOk w u) : Calls Tryd.prog 23 #[.agg #[.string t.name, .int .i64 t.per, .int .i64 t.dl, .int .i64 t.prio, .int .i64 t.cl, .slice t.pa t.parts.length t.pc], .agg #[.string u.name, .int .i64 u.per, .int .i64 u.dl, .int .i64 u.prio, .int .i64 u.cl, .slice u.pa u.parts.length u.pc]] w fun e w' => e = .returned (.bool (sameT t u)) ∧ Below w.heap.size w w' := by
  obtain ⟨nm, per, dl, prio, cl, pa, pc, parts⟩ := t
  obtain ⟨nm2, per2, dl2, prio2, cl2, pa2, pc2, parts2⟩ := u
  have l1 : parts.length ≤ maxLen := Nat.le_trans ht.sl.2.1 ht.sl.2.2
  have l2 : parts2.length ≤ maxLen := Nat.le_trans hu.sl.2.1 hu.sl.2.2
  unfold maxLen at l1 l2
  dsimp only
  obtain ⟨n, hn⟩ : ∃ n, parts.length = n := ⟨_, rfl⟩
  obtain ⟨m, hm⟩ : ∃ m, parts2.length = m := ⟨_, rfl⟩
  rw [hn] at l1
  rw [hm] at l2
  rw [hn, hm]
  have Hn := hidp hn
  have Hm := hidp hm
  clear hn hm
  have hb1 := (Below.refl w.heap.size w).alloc (Nat.le_refl _) (.cells #[.string nm, .int .i64 per, .int .i64 dl, .int .i64 prio, .int .i64 cl, .slice pa n pc] 45)
  have hb := hb1.alloc hb1.size (.cells #[.string nm2, .int .i64 per2, .int .i64 dl2, .int .i64 prio2, .int .i64 cl2, .slice pa2 m pc2] 45)
  have P1 := hidp ht.at_
  have P2 := hidp hu.at_
  dsimp only at P1 P2
  have tb1 := (TBox.new w nm per dl prio cl pa n pc 45).keep (Keeps.alloc (w.alloc (.cells #[.string nm, .int .i64 per, .int .i64 dl, .int .i64 prio, .int .i64 cl, .slice pa n pc] 45)) (.cells #[.string nm2, .int .i64 per2, .int .i64 dl2, .int .i64 prio2, .int .i64 cl2, .slice pa2 m pc2] 45))
  have tb2 := TBox.new (w.alloc (.cells #[.string nm, .int .i64 per, .int .i64 dl, .int .i64 prio, .int .i64 cl, .slice pa n pc] 45)) nm2 per2 dl2 prio2 cl2 pa2 m pc2 45
  rw [show (w.alloc (.cells #[.string nm, .int .i64 per, .int .i64 dl, .int .i64 prio, .int .i64 cl, .slice pa n pc] 45)).heap.size = w.heap.size + 1 by simp] at tb2
  obtain ⟨f0, f1, f2, f3, f4, f5⟩ := id tb1
  obtain ⟨q0, q1, q2, q3, q4, q5⟩ := id tb2
  obtain ⟨b, hB⟩ : ∃ b, sameT ⟨nm, per, dl, prio, cl, pa, pc, parts⟩ ⟨nm2, per2, dl2, prio2, cl2, pa2, pc2, parts2⟩ = b := ⟨_, rfl⟩
  rw [hB]
  unfold sameT at hB
  dsimp only at hB
  clear hb1 ht hu
  cases h0 : (nm.toList == nm2.toList)
  · have Hs : Hid (b = false) := hidp (by rw [← hB]; simp only [h0, Bool.true_and, Bool.false_and])
    clear hB
    have t1 : (nm.toList != nm2.toList) = true := by unfold bne; rw [h0]; rfl
    go_enter Tryd.func23, Tryd.ntmps23
    go_wp2_with fail
    go_ret
    exact ⟨ret_bool Hs.out.symm, hb⟩
  · have g0 : (nm.toList != nm2.toList) = false := by unfold bne; rw [h0]; rfl
    cases h1 : (per == per2)
    · have Hs : Hid (b = false) := hidp (by rw [← hB]; simp only [h0, h1, Bool.true_and, Bool.false_and])
      clear hB
      have t1 : (per != per2) = true := by unfold bne; rw [h1]; rfl
      go_enter Tryd.func23, Tryd.ntmps23
      go_wp2_with fail
      go_ret
      exact ⟨ret_bool Hs.out.symm, hb⟩
    · have g1 : (per != per2) = false := by unfold bne; rw [h1]; rfl
      cases h2 : (dl == dl2)
      · have Hs : Hid (b = false) := hidp (by rw [← hB]; simp only [h0, h1, h2, Bool.true_and, Bool.false_and])
        clear hB
        have t1 : (dl != dl2) = true := by unfold bne; rw [h2]; rfl
        go_enter Tryd.func23, Tryd.ntmps23
        go_wp2_with fail
        go_ret
        exact ⟨ret_bool Hs.out.symm, hb⟩
      · have g2 : (dl != dl2) = false := by unfold bne; rw [h2]; rfl
        cases h3 : (prio == prio2)
        · have Hs : Hid (b = false) := hidp (by rw [← hB]; simp only [h0, h1, h2, h3, Bool.true_and, Bool.false_and])
          clear hB
          have t1 : (prio != prio2) = true := by unfold bne; rw [h3]; rfl
          go_enter Tryd.func23, Tryd.ntmps23
          go_wp2_with fail
          go_ret
          exact ⟨ret_bool Hs.out.symm, hb⟩
        · have g3 : (prio != prio2) = false := by unfold bne; rw [h3]; rfl
          cases h4 : (cl == cl2)
          · have Hs : Hid (b = false) := hidp (by rw [← hB]; simp only [h0, h1, h2, h3, h4, Bool.true_and, Bool.false_and])
            clear hB
            have t1 : (cl != cl2) = true := by unfold bne; rw [h4]; rfl
            go_enter Tryd.func23, Tryd.ntmps23
            go_wp2_with fail
            go_ret
            exact ⟨ret_bool Hs.out.symm, hb⟩
          · have g4 : (cl != cl2) = false := by unfold bne; rw [h4]; rfl
            have HB := hidp (show decide (parts = parts2) = b from by rw [← hB]; simp only [h0, h1, h2, h3, h4, Bool.true_and])
            clear hB
            by_cases e : n = m
            · subst e
              go_enter Tryd.func23, Tryd.ntmps23
              go_wp2_with fail
              go_loopg [5] n (fun g i wr => ∃ k : Nat, k + g = n ∧ i = .int .i64 k ∧ Hid (∀ j, j < k → parts.getD j default = parts2.getD j default) ∧ Below w.heap.size w wr ∧ TBox wr w.heap.size nm per dl prio cl pa n pc ∧ TBox wr (w.heap.size + 1) nm2 per2 dl2 prio2 cl2 pa2 n pc2)
              case atStart => exact ⟨0, by omega, rfl, hidp (by omega), hb, tb1, tb2⟩
              case round =>
                obtain ⟨k, hk, rfl, Ho, hw, ta1, ta2⟩ := hrel
                clear f0 f1 f2 f3 f4 f5 q0 q1 q2 q3 q4 q5 hb tb1 tb2
                obtain ⟨f0, f1, f2, f3, f4, f5⟩ := id ta1
                obtain ⟨q0, q1, q2, q3, q4, q5⟩ := id ta2
                by_cases hlt : k < n
                · obtain ⟨g, off, hA, hc⟩ := P1.out.resolve_left (by intro e; have := Hn.out; rw [e] at this; simp at this; omega)
                  obtain ⟨g', off', hA', hc'⟩ := P2.out.resolve_left (by intro e; have := Hm.out; rw [e] at this; simp at this; omega)
                  subst hA
                  subst hA'
                  obtain ⟨x, HX⟩ : ∃ x, Hid (parts.getD k default = x) := ⟨_, rfl⟩
                  obtain ⟨y, HY⟩ : ∃ y, Hid (parts2.getD k default = y) := ⟨_, rfl⟩
                  obtain ⟨c1, c2, c3⟩ := (HX.out ▸ hc k (by rw [Hn.out]; exact hlt)).keep (Keeps.of_below hw)
                  obtain ⟨d1, d2, d3⟩ := (HY.out ▸ hc' k (by rw [Hm.out]; exact hlt)).keep (Keeps.of_below hw)
                  clear hc hc'
                  obtain ⟨x1, x2, x3⟩ := x
                  obtain ⟨y1, y2, y3⟩ := y
                  dsimp only at c1 c2 c3 d1 d2 d3
                  by_cases n1 : x1 = y1
                  · subst n1
                    by_cases n2 : x2 = y2
                    · subst n2
                      by_cases n3 : x3 = y3
                      · subst n3
                        have Hs : Hid (∀ j, j < k + 1 → parts.getD j default = parts2.getD j default) := hidp (fun j hj => by
                          by_cases e : j = k
                          · subst e; rw [HX.out, HY.out]
                          · exact Ho.out j (by omega))
                        go_wp2
                        go_quiet (fail)
                        go_wp2
                        go_roundg (gk - 1)
                        case measure => omega
                        case rel => exact ⟨k + 1, by omega, by go_num, Hs, below_drewN hw _, ta1.keep (Keeps.drewN _ _), ta2.keep (Keeps.drewN _ _)⟩
                      · have Hs : Hid (b = false) := hidp (by rw [← HB.out]; exact decide_eq_false (ne_getP (k := k) (by rw [HX.out, HY.out]; intro h; injection h with h1 h2 h3; exact n3 ‹_›)))
                        have t1 : (x3 != y3) = true := by simpa using n3
                        have t2 : (x3 == y3) = false := by simpa using n3
                        go_wp2
                        go_quiet (fail)
                        go_wp2
                        go_ret
                        exact ⟨ret_bool Hs.out.symm, below_drewN hw _⟩
                    · have Hs : Hid (b = false) := hidp (by rw [← HB.out]; exact decide_eq_false (ne_getP (k := k) (by rw [HX.out, HY.out]; intro h; injection h with h1 h2 h3; exact n2 ‹_›)))
                      have t1 : (x2 != y2) = true := by simpa using n2
                      have t2 : (x2 == y2) = false := by simpa using n2
                      go_wp2
                      go_quiet (fail)
                      go_wp2
                      go_ret
                      exact ⟨ret_bool Hs.out.symm, below_drewN hw _⟩
                  · have Hs : Hid (b = false) := hidp (by rw [← HB.out]; exact decide_eq_false (ne_getP (k := k) (by rw [HX.out, HY.out]; intro h; injection h with h1 h2 h3; exact n1 ‹_›)))
                    have t1 : (x1 != y1) = true := by simpa using n1
                    have t2 : (x1 == y1) = false := by simpa using n1
                    go_wp2
                    go_quiet (fail)
                    go_wp2
                    go_ret
                    exact ⟨ret_bool Hs.out.symm, below_drewN hw _⟩
                · have Hs : Hid (b = true) := hidp (by rw [← HB.out]; exact decide_eq_true (ext_getP Hn.out Hm.out (fun j hj => Ho.out j (by omega))))
                  go_wp2
                  go_ret
                  exact ⟨ret_bool Hs.out.symm, hw⟩
            · have Hs : Hid (b = false) := hidp (by rw [← HB.out]; exact decide_eq_false (fun h => e (by rw [← Hn.out, ← Hm.out, h])))
              have t1 : ((n : Int) != (m : Int)) = true := by simp; omega
              clear e
              go_enter Tryd.func23, Tryd.ntmps23
              go_wp2_with fail
              go_ret
              exact ⟨ret_bool Hs.out.symm, hb⟩
end Go.Proofs.YtggidlmehimcjaaDoor

namespace Go.Proofs.YtggidlmehimcjaaDoor
open Go.ChangeShapes Go.WideShapes Go.ChangeAt Go.RowKit
set_option linter.unusedVariables false
set_option linter.unusedSimpArgs false
set_option maxRecDepth 100000
set_option maxHeartbeats 4000000 in
theorem rsame_any (s t : SetR) (w : World) (hs : SetOk w s) (ht : SetOk w t) : Calls Tryd.prog 12 #[.agg #[.int .i64 s.proto, .slice s.ca s.cores.length s.cc, .slice s.ha s.homes.length s.hc, .slice s.ta s.tasks.length s.tc], .agg #[.int .i64 t.proto, .slice t.ca t.cores.length t.cc, .slice t.ha t.homes.length t.hc, .slice t.ta t.tasks.length t.tc]] w fun e w' => e = .returned (.bool (sameS s t)) ∧ Below w.heap.size w w' := by
  obtain ⟨proto, ca, cc, cores, ha, hc, homes, ta, tc, tasks⟩ := s
  obtain ⟨proto2, ca2, cc2, cores2, ha2, hc2, homes2, ta2, tc2, tasks2⟩ := t
  have l1 : tasks.length ≤ maxLen := Nat.le_trans hs.tasks.sl.2.1 hs.tasks.sl.2.2
  have l2 : tasks2.length ≤ maxLen := Nat.le_trans ht.tasks.sl.2.1 ht.tasks.sl.2.2
  unfold maxLen at l1 l2
  dsimp only
  have hb1 := (Below.refl w.heap.size w).alloc (Nat.le_refl _) (.cells #[.int .i64 proto, .slice ca cores.length cc, .slice ha homes.length hc, .slice ta tasks.length tc] 25)
  have hb := hb1.alloc hb1.size (.cells #[.int .i64 proto2, .slice ca2 cores2.length cc2, .slice ha2 homes2.length hc2, .slice ta2 tasks2.length tc2] 25)
  have s1 := (SetCells.new w ⟨proto, ca, cc, cores, ha, hc, homes, ta, tc, tasks⟩ 25).keep (Keeps.alloc (w.alloc (.cells #[.int .i64 proto, .slice ca cores.length cc, .slice ha homes.length hc, .slice ta tasks.length tc] 25)) (.cells #[.int .i64 proto2, .slice ca2 cores2.length cc2, .slice ha2 homes2.length hc2, .slice ta2 tasks2.length tc2] 25))
  have s2 := SetCells.new (w.alloc (.cells #[.int .i64 proto, .slice ca cores.length cc, .slice ha homes.length hc, .slice ta tasks.length tc] 25)) ⟨proto2, ca2, cc2, cores2, ha2, hc2, homes2, ta2, tc2, tasks2⟩ 25
  rw [show (w.alloc (.cells #[.int .i64 proto, .slice ca cores.length cc, .slice ha homes.length hc, .slice ta tasks.length tc] 25)).heap.size = w.heap.size + 1 by simp] at s2
  have X := hidp (hs.keep (Keeps.of_below hb))
  have Y := hidp (ht.keep (Keeps.of_below hb))
  clear hb1 hs ht
  obtain ⟨c0, c1, c2, c3⟩ := id s1
  obtain ⟨d0, d1, d2, d3⟩ := id s2
  dsimp only at c0 c1 c2 c3 d0 d1 d2 d3
  obtain ⟨b, hB⟩ : ∃ b, sameS ⟨proto, ca, cc, cores, ha, hc, homes, ta, tc, tasks⟩ ⟨proto2, ca2, cc2, cores2, ha2, hc2, homes2, ta2, tc2, tasks2⟩ = b := ⟨_, rfl⟩
  rw [hB]
  unfold sameS at hB
  dsimp only at hB
  cases h0 : (proto == proto2)
  · have g0 : (proto != proto2) = true := by unfold bne; rw [h0]; rfl
    have Hs : Hid (b = false) := hidp (by rw [← hB]; simp only [h0, Bool.true_and, Bool.false_and])
    clear hB
    go_enter Tryd.func12, Tryd.ntmps12
    go_wp2_with fail
    go_ret
    exact ⟨ret_bool Hs.out.symm, hb⟩
  · have g0 : (proto != proto2) = false := by unfold bne; rw [h0]; rfl
    cases h1 : decide (cores = cores2)
    · have Hs : Hid (b = false) := hidp (by rw [← hB]; simp only [h0, h1, Bool.true_and, Bool.false_and])
      clear hB
      go_enter Tryd.func12, Tryd.ntmps12
      go_wp2_with fail
      refine (rsameI_any _ _ _ _ _ _ _ X.out.cores Y.out.cores).mono ?_
      rintro e w2 ⟨rfl, hq⟩
      rw [h1]
      clear c0 c1 c2 c3 d0 d1 d2 d3
      replace hb := hq.below hb
      replace s1 := s1.keep (Keeps.of_qt hq)
      replace s2 := s2.keep (Keeps.of_qt hq)
      replace X := hidp (X.out.keep (Keeps.of_qt hq))
      replace Y := hidp (Y.out.keep (Keeps.of_qt hq))
      clear hq
      obtain ⟨c0, c1, c2, c3⟩ := id s1
      obtain ⟨d0, d1, d2, d3⟩ := id s2
      dsimp only at c0 c1 c2 c3 d0 d1 d2 d3
      go_wp2_with fail
      go_ret
      exact ⟨ret_bool Hs.out.symm, hb⟩
    · cases h2 : decide (homes = homes2)
      · have Hs : Hid (b = false) := hidp (by rw [← hB]; simp only [h0, h1, h2, Bool.true_and, Bool.false_and])
        clear hB
        go_enter Tryd.func12, Tryd.ntmps12
        go_wp2_with fail
        refine (rsameI_any _ _ _ _ _ _ _ X.out.cores Y.out.cores).mono ?_
        rintro e w2 ⟨rfl, hq⟩
        rw [h1]
        clear c0 c1 c2 c3 d0 d1 d2 d3
        replace hb := hq.below hb
        replace s1 := s1.keep (Keeps.of_qt hq)
        replace s2 := s2.keep (Keeps.of_qt hq)
        replace X := hidp (X.out.keep (Keeps.of_qt hq))
        replace Y := hidp (Y.out.keep (Keeps.of_qt hq))
        clear hq
        obtain ⟨c0, c1, c2, c3⟩ := id s1
        obtain ⟨d0, d1, d2, d3⟩ := id s2
        dsimp only at c0 c1 c2 c3 d0 d1 d2 d3
        go_wp2_with fail
        refine (rsameI_any _ _ _ _ _ _ _ X.out.homes Y.out.homes).mono ?_
        rintro e w2 ⟨rfl, hq⟩
        rw [h2]
        clear c0 c1 c2 c3 d0 d1 d2 d3
        replace hb := hq.below hb
        replace s1 := s1.keep (Keeps.of_qt hq)
        replace s2 := s2.keep (Keeps.of_qt hq)
        replace X := hidp (X.out.keep (Keeps.of_qt hq))
        replace Y := hidp (Y.out.keep (Keeps.of_qt hq))
        clear hq
        obtain ⟨c0, c1, c2, c3⟩ := id s1
        obtain ⟨d0, d1, d2, d3⟩ := id s2
        dsimp only at c0 c1 c2 c3 d0 d1 d2 d3
        go_wp2_with fail
        go_ret
        exact ⟨ret_bool Hs.out.symm, hb⟩
      · have HB := hidp (show sameTs tasks tasks2 = b from by rw [← hB]; simp only [h0, h1, h2, Bool.true_and])
        clear hB
        by_cases e : tasks.length = tasks2.length
        · have t1 : ((tasks.length : Int) != (tasks2.length : Int)) = false := by simp [e]
          have He := hidp e
          clear e
          go_enter Tryd.func12, Tryd.ntmps12
          go_wp2_with fail
          refine (rsameI_any _ _ _ _ _ _ _ X.out.cores Y.out.cores).mono ?_
          rintro e w2 ⟨rfl, hq⟩
          rw [h1]
          clear c0 c1 c2 c3 d0 d1 d2 d3
          replace hb := hq.below hb
          replace s1 := s1.keep (Keeps.of_qt hq)
          replace s2 := s2.keep (Keeps.of_qt hq)
          replace X := hidp (X.out.keep (Keeps.of_qt hq))
          replace Y := hidp (Y.out.keep (Keeps.of_qt hq))
          clear hq
          obtain ⟨c0, c1, c2, c3⟩ := id s1
          obtain ⟨d0, d1, d2, d3⟩ := id s2
          dsimp only at c0 c1 c2 c3 d0 d1 d2 d3
          go_wp2_with fail
          refine (rsameI_any _ _ _ _ _ _ _ X.out.homes Y.out.homes).mono ?_
          rintro e w2 ⟨rfl, hq⟩
          rw [h2]
          clear c0 c1 c2 c3 d0 d1 d2 d3
          replace hb := hq.below hb
          replace s1 := s1.keep (Keeps.of_qt hq)
          replace s2 := s2.keep (Keeps.of_qt hq)
          replace X := hidp (X.out.keep (Keeps.of_qt hq))
          replace Y := hidp (Y.out.keep (Keeps.of_qt hq))
          clear hq
          obtain ⟨c0, c1, c2, c3⟩ := id s1
          obtain ⟨d0, d1, d2, d3⟩ := id s2
          dsimp only at c0 c1 c2 c3 d0 d1 d2 d3
          go_wp2_with fail
          obtain ⟨wi, rfl⟩ : ∃ wi : World, wi = w2 := ⟨_, rfl⟩
          go_loopg [5] tasks.length (fun g i wr => ∃ k : Nat, k + g = tasks.length ∧ i = .int .i64 k ∧ Hid (∀ j, j < k → sameT (tasks.getD j default) (tasks2.getD j default) = true) ∧ SetCells wr w.heap.size ⟨proto, ca, cc, cores, ha, hc, homes, ta, tc, tasks⟩ ∧ SetCells wr (w.heap.size + 1) ⟨proto2, ca2, cc2, cores2, ha2, hc2, homes2, ta2, tc2, tasks2⟩ ∧ Hid (SetOk wr ⟨proto, ca, cc, cores, ha, hc, homes, ta, tc, tasks⟩) ∧ Hid (SetOk wr ⟨proto2, ca2, cc2, cores2, ha2, hc2, homes2, ta2, tc2, tasks2⟩) ∧ Below w.heap.size w wr)
          case atStart => exact ⟨0, by omega, rfl, hidp (by omega), s1, s2, X, Y, hb⟩
          case round =>
            obtain ⟨k, hk, rfl, Ho, r1, r2, XX, YY, hw⟩ := hrel
            clear c0 c1 c2 c3 d0 d1 d2 d3 s1 s2 X Y hb
            obtain ⟨c0, c1, c2, c3⟩ := id r1
            obtain ⟨d0, d1, d2, d3⟩ := id r2
            dsimp only at c0 c1 c2 c3 d0 d1 d2 d3
            by_cases hlt : k < tasks.length
            · have hlt2 : k < tasks2.length := by have := He.out; omega
              obtain ⟨g, off, hA, hc⟩ := XX.out.tasks.at_.resolve_left (by intro e; dsimp only at e; rw [e] at hlt; simp at hlt)
              obtain ⟨g', off', hA', hc'⟩ := YY.out.tasks.at_.resolve_left (by intro e; dsimp only at e; rw [e] at hlt2; simp at hlt2)
              dsimp only at hA hA' hc hc'
              subst hA
              subst hA'
              obtain ⟨t, HX⟩ : ∃ t, Hid (tasks.getD k default = t) := ⟨_, rfl⟩
              obtain ⟨u, HY⟩ : ∃ u, Hid (tasks2.getD k default = u) := ⟨_, rfl⟩
              have T1 : TaskOk wr.drew t := (XX.out.tasks.ok t (HX.out ▸ getD_mem hlt)).keep (Keeps.drew wr)
              have T2 : TaskOk wr.drew u := (YY.out.tasks.ok u (HY.out ▸ getD_mem hlt2)).keep (Keeps.drew wr)
              obtain ⟨x0, x1, x2, x3, x4, x5⟩ := HX.out ▸ hc k hlt
              obtain ⟨y0, y1, y2, y3, y4, y5⟩ := HY.out ▸ hc' k hlt2
              clear hc hc'
              cases hs : sameT t u
              · have Hs : Hid (b = false) := hidp (by rw [← HB.out]; exact sameTs_at (k := k) hlt (by rw [HX.out, HY.out]; exact hs))
                go_wp2
                go_still_tail 10, (by kernel_rfl)
                change wpList _ _ _ _ _ wr.drew
                go_wp2_with fail
                refine (rsameTask_any t u _ T1 T2).mono ?_
                rintro e w5 ⟨rfl, hb2⟩
                have hw5 : Below w.heap.size w w5 := (below_drewN hw 1).trans (hb2.mono hw.size)
                have k5 : Keeps wr w5 := (Keeps.drew wr).trans (Keeps.of_below hb2)
                go_wp2
                go_ret
                exact ⟨ret_bool Hs.out.symm, hw5⟩
              · have Hs : Hid (∀ j, j < k + 1 → sameT (tasks.getD j default) (tasks2.getD j default) = true) := hidp (fun j hj => by
                  by_cases e : j = k
                  · subst e; rw [HX.out, HY.out]; exact hs
                  · exact Ho.out j (by omega))
                go_wp2
                go_still_tail 10, (by kernel_rfl)
                change wpList _ _ _ _ _ wr.drew
                go_wp2_with fail
                refine (rsameTask_any t u _ T1 T2).mono ?_
                rintro e w5 ⟨rfl, hb2⟩
                have hw5 : Below w.heap.size w w5 := (below_drewN hw 1).trans (hb2.mono hw.size)
                have k5 : Keeps wr w5 := (Keeps.drew wr).trans (Keeps.of_below hb2)
                go_wp2
                go_roundg (tasks.length - k - 1)
                case measure => omega
                case rel => exact ⟨k + 1, by omega, by go_num, Hs, r1.keep k5, r2.keep k5, hidp (XX.out.keep k5), hidp (YY.out.keep k5), hw5⟩
            · have Hs : Hid (b = true) := hidp (by rw [← HB.out]; exact sameTs_true He.out (fun j hj => Ho.out j (by omega)))
              go_wp2
              go_ret
              exact ⟨ret_bool Hs.out.symm, hw⟩
        · have Hs : Hid (b = false) := hidp (by rw [← HB.out]; exact sameTs_len e)
          have t1 : ((tasks.length : Int) != (tasks2.length : Int)) = true := by simp; omega
          clear e
          go_enter Tryd.func12, Tryd.ntmps12
          go_wp2_with fail
          refine (rsameI_any _ _ _ _ _ _ _ X.out.cores Y.out.cores).mono ?_
          rintro e w2 ⟨rfl, hq⟩
          rw [h1]
          clear c0 c1 c2 c3 d0 d1 d2 d3
          replace hb := hq.below hb
          replace s1 := s1.keep (Keeps.of_qt hq)
          replace s2 := s2.keep (Keeps.of_qt hq)
          replace X := hidp (X.out.keep (Keeps.of_qt hq))
          replace Y := hidp (Y.out.keep (Keeps.of_qt hq))
          clear hq
          obtain ⟨c0, c1, c2, c3⟩ := id s1
          obtain ⟨d0, d1, d2, d3⟩ := id s2
          dsimp only at c0 c1 c2 c3 d0 d1 d2 d3
          go_wp2_with fail
          refine (rsameI_any _ _ _ _ _ _ _ X.out.homes Y.out.homes).mono ?_
          rintro e w2 ⟨rfl, hq⟩
          rw [h2]
          clear c0 c1 c2 c3 d0 d1 d2 d3
          replace hb := hq.below hb
          replace s1 := s1.keep (Keeps.of_qt hq)
          replace s2 := s2.keep (Keeps.of_qt hq)
          replace X := hidp (X.out.keep (Keeps.of_qt hq))
          replace Y := hidp (Y.out.keep (Keeps.of_qt hq))
          clear hq
          obtain ⟨c0, c1, c2, c3⟩ := id s1
          obtain ⟨d0, d1, d2, d3⟩ := id s2
          dsimp only at c0 c1 c2 c3 d0 d1 d2 d3
          go_wp2_with fail
          go_ret
          exact ⟨ret_bool Hs.out.symm, hb⟩
end Go.Proofs.YtggidlmehimcjaaDoor

namespace Go.Proofs.YtggidlmehimcjaaDoor
open Go.ChangeShapes Go.WideShapes Go.ChangeAt Go.RowKit
set_option linter.unusedVariables false

def placesB (s : SetR) : Bool := inB s.cores.length 1 3 && (decide (s.homes.length ≤ 4) && (allB s.cores 1 3 && allB s.homes 0 ((s.cores.length : Int) - 1)))
theorem allB_not {zs : List Int} {lo hi : Int} {k : Nat} {n : Int} (hk : k < zs.length) (hn : zs.getD k 0 = n) (h : inB n lo hi = false) : allB zs lo hi = false := by
  unfold allB
  rw [List.all_eq_false]
  refine ⟨n, ?_, by simp [h]⟩
  rw [← hn]; simp [List.getD, hk]
theorem allB_all {zs : List Int} {lo hi : Int} (h : ∀ j, j < zs.length → inB (zs.getD j 0) lo hi = true) : allB zs lo hi = true := by
  unfold allB
  rw [List.all_eq_true]
  intro x hx
  obtain ⟨j, hj, rfl⟩ := List.mem_iff_getElem.1 hx
  have := h j hj
  simpa [List.getD, hj] using this
theorem inB_next {zs : List Int} {lo hi : Int} {k : Nat} {n : Int} (hn : zs.getD k 0 = n) (h : inB n lo hi = true) (g : ∀ j, j < k → inB (zs.getD j 0) lo hi = true) : ∀ j, j < k + 1 → inB (zs.getD j 0) lo hi = true := fun j hj => by
  by_cases e : j = k
  · subst e; rw [hn]; exact h
  · exact g j (by omega)

set_option maxHeartbeats 2000000 in
theorem places_any (s : SetR) (w : World) (hs : SetOk w s) : Calls Tryd.prog 24 #[.agg #[.int .i64 s.proto, .slice s.ca s.cores.length s.cc, .slice s.ha s.homes.length s.hc, .slice s.ta s.tasks.length s.tc]] w fun e w' => e = .returned (.bool (placesB s)) ∧ Below w.heap.size w w' := by
  have l1 : s.cores.length ≤ maxLen := Nat.le_trans hs.cores.sl.2.1 hs.cores.sl.2.2
  have l2 : s.homes.length ≤ maxLen := Nat.le_trans hs.homes.sl.2.1 hs.homes.sl.2.2
  unfold maxLen at l1 l2
  have SC := SetCells.new w s 25
  have hb := ((Below.refl w.heap.size w).alloc (Nat.le_refl _) (.cells #[.int .i64 s.proto, .slice s.ca s.cores.length s.cc, .slice s.ha s.homes.length s.hc, .slice s.ta s.tasks.length s.tc] 25))
  have RC := hidp hs.cores.at_
  have RH := hidp hs.homes.at_
  clear hs
  obtain ⟨proto, ca, cc, cores, ha, hc, homes, ta, tc, tasks⟩ := s
  dsimp only at RC RH l1 l2 hb ⊢
  have PB : ∀ b : Bool, (inB cores.length 1 3 && (decide (homes.length ≤ 4) && (allB cores 1 3 && allB homes 0 ((cores.length : Int) - 1)))) = b → placesB ⟨proto, ca, cc, cores, ha, hc, homes, ta, tc, tasks⟩ = b := fun b h => h
  have HB := hidp PB
  clear PB
  have hcase : ((cores.length : Int) < 1) ∨ (1 ≤ (cores.length : Int) ∧ 3 < (cores.length : Int)) ∨ (1 ≤ (cores.length : Int) ∧ (cores.length : Int) ≤ 3 ∧ 4 < (homes.length : Int)) ∨ (1 ≤ (cores.length : Int) ∧ (cores.length : Int) ≤ 3 ∧ (homes.length : Int) ≤ 4) := by omega
  rcases hcase with g | ⟨g, g1⟩ | ⟨g, g1, g2⟩ | ⟨g, g1, g2⟩
  · have H := hidp (HB.out false (by rw [show inB cores.length 1 3 = false from inB_false.2 (by omega)]; rfl))
    obtain ⟨c0, c1, c2, c3⟩ := SC
    go_enter Tryd.func24, Tryd.ntmps24
    go_wp2
    go_ret
    exact ⟨ret_bool H.out.symm, hb⟩
  · have H := hidp (HB.out false (by rw [show inB cores.length 1 3 = false from inB_false.2 (by omega)]; rfl))
    obtain ⟨c0, c1, c2, c3⟩ := SC
    go_enter Tryd.func24, Tryd.ntmps24
    go_wp2
    go_ret
    exact ⟨ret_bool H.out.symm, hb⟩
  · have H := hidp (HB.out false (by rw [show decide (homes.length ≤ 4) = false by simp; omega]; simp))
    obtain ⟨c0, c1, c2, c3⟩ := SC
    go_enter Tryd.func24, Tryd.ntmps24
    go_wp2
    go_ret
    exact ⟨ret_bool H.out.symm, hb⟩
  · have e1 : inB cores.length 1 3 = true := inB_true.2 ⟨g, g1⟩
    have e2 : decide (homes.length ≤ 4) = true := by simp; omega
    have E1 := hidp e1
    have E2 := hidp e2
    clear e1 e2
    have SC2 := SC
    obtain ⟨c0, c1, c2, c3⟩ := SC2
    go_enter Tryd.func24, Tryd.ntmps24
    go_wp2
    go_loopg [3] cores.length (fun gg i wr => ∃ k : Nat, k + gg = cores.length ∧ i = .int .i64 k ∧ Hid (∀ j, j < k → inB (cores.getD j 0) 1 3 = true) ∧ SetCells wr w.heap.size ⟨proto, ca, cc, cores, ha, hc, homes, ta, tc, tasks⟩ ∧ Below w.heap.size w wr)
    case atStart => exact ⟨0, by omega, rfl, hidp (by omega), SC, hb⟩
    case round =>
      obtain ⟨k, hk, rfl, Ho, sc, hw⟩ := hrel
      clear c0 c1 c2 c3
      have sc2 := sc
      obtain ⟨c0, c1, c2, c3⟩ := sc2
      dsimp only at c0 c1 c2 c3
      by_cases hlt : k < cores.length
      · obtain ⟨gg, off, hA, hcl⟩ := RC.out.resolve_left (by intro e; rw [e] at hlt; simp at hlt)
        subst hA
        obtain ⟨n, HN⟩ : ∃ n, Hid (cores.getD k 0 = n) := ⟨_, rfl⟩
        have cn := Keeps.of_below hw _ _ (HN.out ▸ hcl k hlt)
        clear hcl
        have hcase : n < 1 ∨ (1 ≤ n ∧ 3 < n) ∨ (1 ≤ n ∧ n ≤ 3) := by omega
        rcases hcase with h | ⟨h, h2⟩ | ⟨h, h2⟩
        · have H := hidp (HB.out false (by rw [allB_not hlt HN.out (inB_false.2 (by omega))]; simp))
          go_wp2
          go_ret
          exact ⟨ret_bool H.out.symm, hw⟩
        · have H := hidp (HB.out false (by rw [allB_not hlt HN.out (inB_false.2 (by omega))]; simp))
          go_wp2
          go_ret
          exact ⟨ret_bool H.out.symm, hw⟩
        · have Hn := hidp (inB_next HN.out (inB_true.2 ⟨h, h2⟩) Ho.out)
          go_wp2
          go_roundg (gk - 1)
          case measure => omega
          case rel => exact ⟨k + 1, by omega, by go_num, Hn, sc, hw⟩
      · have E3 : Hid (allB cores 1 3 = true) := hidp (allB_all (fun j hj => Ho.out j (by omega)))
        go_wp2
        obtain ⟨wo, rfl⟩ : ∃ wo : World, wo = wr := ⟨_, rfl⟩
        go_loopg [4] homes.length (fun gg i wr => ∃ k : Nat, k + gg = homes.length ∧ i = .int .i64 k ∧ Hid (∀ j, j < k → inB (homes.getD j 0) 0 ((cores.length : Int) - 1) = true) ∧ SetCells wr w.heap.size ⟨proto, ca, cc, cores, ha, hc, homes, ta, tc, tasks⟩ ∧ Below w.heap.size w wr)
        case atStart => exact ⟨0, by omega, rfl, hidp (by omega), sc, hw⟩
        case round =>
          obtain ⟨k, hk, rfl, Ho, sc, hw⟩ := hrel
          clear c0 c1 c2 c3
          have sc2 := sc
          obtain ⟨c0, c1, c2, c3⟩ := sc2
          dsimp only at c0 c1 c2 c3
          by_cases hlt : k < homes.length
          · obtain ⟨gg, off, hA, hcl⟩ := RH.out.resolve_left (by intro e; rw [e] at hlt; simp at hlt)
            subst hA
            obtain ⟨n, HN⟩ : ∃ n, Hid (homes.getD k 0 = n) := ⟨_, rfl⟩
            have cn := Keeps.of_below hw _ _ (HN.out ▸ hcl k hlt)
            clear hcl
            have hcase : n < 0 ∨ (0 ≤ n ∧ (cores.length : Int) ≤ n) ∨ (0 ≤ n ∧ n < (cores.length : Int)) := by omega
            rcases hcase with h | ⟨h, h2⟩ | ⟨h, h2⟩
            · have H := hidp (HB.out false (by rw [allB_not hlt HN.out (inB_false.2 (by omega))]; simp))
              have d : decide (n < 0) = true := by simpa using h
              go_wp2
              go_quiet (fail)
              go_wp2
              go_ret
              exact ⟨ret_bool H.out.symm, below_drewN hw _⟩
            · have H := hidp (HB.out false (by rw [allB_not hlt HN.out (inB_false.2 (by omega))]; simp))
              have d : decide (n < 0) = false := by simpa using h
              go_wp2
              go_quiet (fail)
              go_wp2
              go_ret
              exact ⟨ret_bool H.out.symm, below_drewN hw _⟩
            · have Hn := hidp (inB_next HN.out (inB_true.2 ⟨h, by omega⟩) Ho.out)
              have d : decide (n < 0) = false := by simpa using h
              go_wp2
              go_quiet (fail)
              go_wp2
              go_roundg (gk - 1)
              case measure => omega
              case rel => exact ⟨k + 1, by omega, by go_num, Hn, sc.keep (Keeps.drewN _ _), below_drewN hw _⟩
          · have E4 : Hid (allB homes 0 ((cores.length : Int) - 1) = true) := hidp (allB_all (fun j hj => Ho.out j (by omega)))
            have H := hidp (HB.out true (by rw [E1.out, E2.out, E3.out, E4.out]; rfl))
            go_wp2
            go_ret
            exact ⟨ret_bool H.out.symm, hw⟩
end Go.Proofs.YtggidlmehimcjaaDoor

namespace Go.Proofs.YtggidlmehimcjaaDoor
open Go.ChangeShapes Go.WideShapes Go.ChangeAt Go.RowKit
set_option linter.unusedVariables false

theorem taken_none {ts : List TaskR} {t : TaskR} {k : Nat} (hk : k ≤ ts.length) (h : ∀ j, j < k → likeB t (ts.getD j default) = false) : takenB (ts.take k) t = false := by
  unfold takenB
  rw [List.any_eq_false]
  intro x hx
  obtain ⟨j, hj, e⟩ := List.mem_iff_getElem.1 hx
  rw [List.length_take] at hj
  have := h j (by omega)
  rw [List.getElem_take] at e
  simp [List.getD, show j < ts.length by omega, e] at this
  simp [this]
theorem taken_some {ts : List TaskR} {t o : TaskR} {k j : Nat} (hk : k ≤ ts.length) (hj : j < k) (ho : ts.getD j default = o) (h : likeB t o = true) : takenB (ts.take k) t = true := by
  unfold takenB
  rw [List.any_eq_true]
  refine ⟨o, ?_, h⟩
  rw [← ho]
  have h1 : j < ts.length := by omega
  simp only [List.getD, List.getElem?_eq_getElem h1, Option.getD_some]
  exact List.mem_iff_getElem.2 ⟨j, by rw [List.length_take]; omega, by rw [List.getElem_take]⟩

set_option maxHeartbeats 20000000 in
set_option maxRecDepth 100000 in
theorem rtask_row (proto : Int) (ca : Option Addr) (cc : Nat) (cores : List Int) (ha : Option Addr) (hc : Nat) (homes : List Int) (g off tc : Nat) (tasks : List TaskR) (k : Nat) (w : World)
    (hs : SetOk w ⟨proto, ca, cc, cores, ha, hc, homes, some ⟨g, off, none⟩, tc, tasks⟩) (hk : k < tasks.length) :
    Calls Tryd.prog 25 #[.agg #[.int .i64 proto, .slice ca cores.length cc, .slice ha homes.length hc, .slice (some ⟨g, off, none⟩) tasks.length tc], .int .i64 k] w fun e w' => e = .returned (.int .i64 (taskE ⟨proto, ca, cc, cores, ha, hc, homes, some ⟨g, off, none⟩, tc, tasks⟩ k)) ∧ Below w.heap.size w w' := by
  have l1 : cores.length ≤ maxLen := Nat.le_trans hs.cores.sl.2.1 hs.cores.sl.2.2
  have l2 : homes.length ≤ maxLen := Nat.le_trans hs.homes.sl.2.1 hs.homes.sl.2.2
  have l3 : tasks.length ≤ maxLen := Nat.le_trans hs.tasks.sl.2.1 hs.tasks.sl.2.2
  have L2 := hidp l2
  unfold maxLen at l1 l2 l3
  obtain ⟨t, HT⟩ : ∃ t, Hid (tasks.getD k default = t) := ⟨_, rfl⟩
  have Tok := hs.tasks.ok t (HT.out ▸ getD_mem hk)
  obtain ⟨g', off', hA, hcl⟩ := hs.tasks.at_.resolve_left (by intro e; dsimp only at e; rw [e] at hk; simp at hk)
  obtain ⟨rfl, rfl⟩ : g = g' ∧ off = off' := by injection hA with hA; injection hA with h1 h2; exact ⟨h1, h2⟩
  dsimp only at hcl
  have Hcl := hidp hcl
  have hb := (Below.refl w.heap.size w).alloc (Nat.le_refl _) (.cells #[.int .i64 proto, .slice ca cores.length cc, .slice ha homes.length hc, .slice (some ⟨g, off, none⟩) tasks.length tc] 25)
  have SC := SetCells.new w ⟨proto, ca, cc, cores, ha, hc, homes, some ⟨g, off, none⟩, tc, tasks⟩ 25
  obtain ⟨nm, per, dl, prio, cl, pa, pc, parts⟩ := t
  have tcl := (HT.out ▸ hcl k hk).keep (Keeps.of_below hb)
  have hn := Tok.name
  have Hpt := hidp Tok.at_
  have lp : parts.length ≤ maxLen := Nat.le_trans Tok.sl.2.1 Tok.sl.2.2
  have Lp := hidp lp
  unfold maxLen at lp
  dsimp only at tcl hn Hpt
  obtain ⟨d0, d1, d2, d3, d4, d5⟩ := tcl
  dsimp only at d0 d1 d2 d3 d4 d5
  have so := SC
  obtain ⟨o0, o1, o2, o3⟩ := so
  dsimp only at o0 o1 o2 o3
  have tb := TaskBox.new (w.alloc (.cells #[.int .i64 proto, .slice ca cores.length cc, .slice ha homes.length hc, .slice (some ⟨g, off, none⟩) tasks.length tc] 25)) ⟨nm, per, dl, prio, cl, pa, pc, parts⟩ 45
  rw [show (w.alloc (.cells #[.int .i64 proto, .slice ca cores.length cc, .slice ha homes.length hc, .slice (some ⟨g, off, none⟩) tasks.length tc] 25)).heap.size = w.heap.size + 1 by simp] at tb
  replace SC := SC.keep (Keeps.alloc _ (.cells #[.string nm, .int .i64 per, .int .i64 dl, .int .i64 prio, .int .i64 cl, .slice pa parts.length pc] 45))
  replace hb := hb.alloc (by simp) (.cells #[.string nm, .int .i64 per, .int .i64 dl, .int .i64 prio, .int .i64 cl, .slice pa parts.length pc] 45)
  have tb2 := tb
  obtain ⟨b0, b1, b2, b3, b4, b5⟩ := tb2
  dsimp only at b0 b1 b2 b3 b4 b5
  have sc2 := SC
  obtain ⟨c0, c1, c2, c3⟩ := sc2
  dsimp only at c0 c1 c2 c3
  clear hA hcl Tok
  obtain ⟨nb, Hnb⟩ : ∃ nb, Hid (nameB nm = nb) := ⟨_, rfl⟩
  have hcase : (nameB nm = false) ∨ (nameB nm = true ∧ per < 1) ∨ (nameB nm = true ∧ 1 ≤ per ∧ 3000 < per) ∨ (nameB nm = true ∧ 1 ≤ per ∧ per ≤ 3000 ∧ dl < 1) ∨ (nameB nm = true ∧ 1 ≤ per ∧ per ≤ 3000 ∧ 1 ≤ dl ∧ per < dl) ∨
      (nameB nm = true ∧ 1 ≤ per ∧ per ≤ 3000 ∧ 1 ≤ dl ∧ dl ≤ per ∧ prio < 1) ∨ (nameB nm = true ∧ 1 ≤ per ∧ per ≤ 3000 ∧ 1 ≤ dl ∧ dl ≤ per ∧ 1 ≤ prio ∧ 1000 < prio) ∨ (nameB nm = true ∧ 1 ≤ per ∧ per ≤ 3000 ∧ 1 ≤ dl ∧ dl ≤ per ∧ 1 ≤ prio ∧ prio ≤ 1000) := by
    cases nameB nm
    · exact .inl rfl
    · simp only [true_and]; omega
  rcases hcase with n1 | ⟨n1, n2⟩ | ⟨n1, n2, n3⟩ | ⟨n1, n2, n3, n4⟩ | ⟨n1, n2, n3, n4, n5⟩ | ⟨n1, n2, n3, n4, n5, n6⟩ | ⟨n1, n2, n3, n4, n5, n6, n7⟩ | ⟨n1, n2, n3, n4, n5, n6, n7⟩
  · have p1 : formB ⟨nm, per, dl, prio, cl, pa, pc, parts⟩ = false := by unfold formB; dsimp only; rw [n1]; rfl
    have Hy : Hid (taskE ⟨proto, ca, cc, cores, ha, hc, homes, some ⟨g, off, none⟩, tc, tasks⟩ k = 10) := hidp (by unfold taskE; dsimp only; rw [HT.out, p1]; simp)
    clear p1
    go_enter Tryd.func25, Tryd.ntmps25
    go_wp2_with (first | (go_at_call 39; (with_reducible refine (rname_any _ _ hn).mono ?_); rintro e w' ⟨rfl, rfl⟩))
    go_ret
    exact ⟨ret_int Hy.out.symm, hb⟩
  · have p1 : formB ⟨nm, per, dl, prio, cl, pa, pc, parts⟩ = false := by unfold formB; dsimp only; rw [n1, show inB per 1 3000 = false from inB_false.2 (by omega)]; rfl
    have Hy : Hid (taskE ⟨proto, ca, cc, cores, ha, hc, homes, some ⟨g, off, none⟩, tc, tasks⟩ k = 10) := hidp (by unfold taskE; dsimp only; rw [HT.out, p1]; simp)
    clear p1
    go_enter Tryd.func25, Tryd.ntmps25
    go_wp2_with (first | (go_at_call 39; (with_reducible refine (rname_any _ _ hn).mono ?_); rintro e w' ⟨rfl, rfl⟩))
    go_ret
    exact ⟨ret_int Hy.out.symm, hb⟩
  · have p1 : formB ⟨nm, per, dl, prio, cl, pa, pc, parts⟩ = false := by unfold formB; dsimp only; rw [n1, show inB per 1 3000 = false from inB_false.2 (by omega)]; rfl
    have Hy : Hid (taskE ⟨proto, ca, cc, cores, ha, hc, homes, some ⟨g, off, none⟩, tc, tasks⟩ k = 10) := hidp (by unfold taskE; dsimp only; rw [HT.out, p1]; simp)
    clear p1
    go_enter Tryd.func25, Tryd.ntmps25
    go_wp2_with (first | (go_at_call 39; (with_reducible refine (rname_any _ _ hn).mono ?_); rintro e w' ⟨rfl, rfl⟩))
    go_ret
    exact ⟨ret_int Hy.out.symm, hb⟩
  · have p1 : formB ⟨nm, per, dl, prio, cl, pa, pc, parts⟩ = false := by unfold formB; dsimp only; rw [n1, show inB per 1 3000 = true from inB_true.2 (by omega), show inB dl 1 per = false from inB_false.2 (by omega)]; rfl
    have Hy : Hid (taskE ⟨proto, ca, cc, cores, ha, hc, homes, some ⟨g, off, none⟩, tc, tasks⟩ k = 10) := hidp (by unfold taskE; dsimp only; rw [HT.out, p1]; simp)
    clear p1
    go_enter Tryd.func25, Tryd.ntmps25
    go_wp2_with (first | (go_at_call 39; (with_reducible refine (rname_any _ _ hn).mono ?_); rintro e w' ⟨rfl, rfl⟩))
    go_ret
    exact ⟨ret_int Hy.out.symm, hb⟩
  · have p1 : formB ⟨nm, per, dl, prio, cl, pa, pc, parts⟩ = false := by unfold formB; dsimp only; rw [n1, show inB per 1 3000 = true from inB_true.2 (by omega), show inB dl 1 per = false from inB_false.2 (by omega)]; rfl
    have Hy : Hid (taskE ⟨proto, ca, cc, cores, ha, hc, homes, some ⟨g, off, none⟩, tc, tasks⟩ k = 10) := hidp (by unfold taskE; dsimp only; rw [HT.out, p1]; simp)
    clear p1
    go_enter Tryd.func25, Tryd.ntmps25
    go_wp2_with (first | (go_at_call 39; (with_reducible refine (rname_any _ _ hn).mono ?_); rintro e w' ⟨rfl, rfl⟩))
    go_ret
    exact ⟨ret_int Hy.out.symm, hb⟩
  · have p1 : formB ⟨nm, per, dl, prio, cl, pa, pc, parts⟩ = false := by unfold formB; dsimp only; rw [n1, show inB per 1 3000 = true from inB_true.2 (by omega), show inB dl 1 per = true from inB_true.2 (by omega), show inB prio 1 1000 = false from inB_false.2 (by omega)]; rfl
    have Hy : Hid (taskE ⟨proto, ca, cc, cores, ha, hc, homes, some ⟨g, off, none⟩, tc, tasks⟩ k = 10) := hidp (by unfold taskE; dsimp only; rw [HT.out, p1]; simp)
    clear p1
    go_enter Tryd.func25, Tryd.ntmps25
    go_wp2_with (first | (go_at_call 39; (with_reducible refine (rname_any _ _ hn).mono ?_); rintro e w' ⟨rfl, rfl⟩))
    go_ret
    exact ⟨ret_int Hy.out.symm, hb⟩
  · have p1 : formB ⟨nm, per, dl, prio, cl, pa, pc, parts⟩ = false := by unfold formB; dsimp only; rw [n1, show inB per 1 3000 = true from inB_true.2 (by omega), show inB dl 1 per = true from inB_true.2 (by omega), show inB prio 1 1000 = false from inB_false.2 (by omega)]; rfl
    have Hy : Hid (taskE ⟨proto, ca, cc, cores, ha, hc, homes, some ⟨g, off, none⟩, tc, tasks⟩ k = 10) := hidp (by unfold taskE; dsimp only; rw [HT.out, p1]; simp)
    clear p1
    go_enter Tryd.func25, Tryd.ntmps25
    go_wp2_with (first | (go_at_call 39; (with_reducible refine (rname_any _ _ hn).mono ?_); rintro e w' ⟨rfl, rfl⟩))
    go_ret
    exact ⟨ret_int Hy.out.symm, hb⟩
  · have P1 : Hid (formB ⟨nm, per, dl, prio, cl, pa, pc, parts⟩ = true) := hidp (by unfold formB; dsimp only; rw [n1, show inB per 1 3000 = true from inB_true.2 (by omega), show inB dl 1 per = true from inB_true.2 (by omega), show inB prio 1 1000 = true from inB_true.2 (by omega)]; rfl)
    have hcase : cl < 0 ∨ (0 ≤ cl ∧ (cores.length : Int) ≤ cl) ∨ (0 ≤ cl ∧ cl < (cores.length : Int)) := by omega
    rcases hcase with h | ⟨h, h2⟩ | ⟨h, h2⟩
    · have p2 : inB cl 0 ((cores.length : Int) - 1) = false := inB_false.2 (by omega)
      have Hy : Hid (taskE ⟨proto, ca, cc, cores, ha, hc, homes, some ⟨g, off, none⟩, tc, tasks⟩ k = 16) := hidp (by unfold taskE; dsimp only; rw [HT.out]; dsimp only; rw [P1.out, p2]; simp)
      clear p2
      go_enter Tryd.func25, Tryd.ntmps25
      go_wp2_with (first | (go_at_call 39; (with_reducible refine (rname_any _ _ hn).mono ?_); rintro e w' ⟨rfl, rfl⟩))
      go_ret
      exact ⟨ret_int Hy.out.symm, hb⟩
    · have p2 : inB cl 0 ((cores.length : Int) - 1) = false := inB_false.2 (by omega)
      have Hy : Hid (taskE ⟨proto, ca, cc, cores, ha, hc, homes, some ⟨g, off, none⟩, tc, tasks⟩ k = 16) := hidp (by unfold taskE; dsimp only; rw [HT.out]; dsimp only; rw [P1.out, p2]; simp)
      clear p2
      go_enter Tryd.func25, Tryd.ntmps25
      go_wp2_with (first | (go_at_call 39; (with_reducible refine (rname_any _ _ hn).mono ?_); rintro e w' ⟨rfl, rfl⟩))
      go_ret
      exact ⟨ret_int Hy.out.symm, hb⟩
    · have P2 : Hid (inB cl 0 ((cores.length : Int) - 1) = true) := hidp (inB_true.2 (by omega))
      go_enter Tryd.func25, Tryd.ntmps25
      go_wp2_with (first | (go_at_call 39; (with_reducible refine (rname_any _ _ hn).mono ?_); rintro e w' ⟨rfl, rfl⟩))
      go_loopg [6] k (fun gg i wr => ∃ j : Nat, j + gg = k ∧ i = .int .i64 j ∧ Hid (∀ m, m < j → likeB ⟨nm, per, dl, prio, cl, pa, pc, parts⟩ (tasks.getD m default) = false) ∧ SetCells wr w.heap.size ⟨proto, ca, cc, cores, ha, hc, homes, some ⟨g, off, none⟩, tc, tasks⟩ ∧ TaskBox wr (w.heap.size + 1) ⟨nm, per, dl, prio, cl, pa, pc, parts⟩ ∧ Below w.heap.size w wr)
      case atStart => exact ⟨0, by omega, rfl, hidp (by omega), SC, tb, hb⟩
      case round =>
        obtain ⟨j, hj, rfl, Ho, sc, tb, hb⟩ := hrel
        clear c0 c1 c2 c3 b0 b1 b2 b3 b4 b5 d0 d1 d2 d3 d4 d5 o0 o1 o2 o3
        have sc2 := sc
        obtain ⟨c0, c1, c2, c3⟩ := sc2
        have tb2 := tb
        obtain ⟨b0, b1, b2, b3, b4, b5⟩ := tb2
        dsimp only at c0 c1 c2 c3 b0 b1 b2 b3 b4 b5
        by_cases hlt : j < k
        · obtain ⟨o, HO⟩ : ∃ o, Hid (tasks.getD j default = o) := ⟨_, rfl⟩
          have ocl := (HO.out ▸ Hcl.out j (by omega)).keep (Keeps.of_below hb)
          obtain ⟨d0, _, _, d3, _, _⟩ := ocl
          have hjl : j < tasks.length := by omega
          have hjl2 : (j : Int) < (tasks.length : Int) := by omega
          by_cases z1 : (o.name.toList == nm.toList) = true
          · have p3 := taken_some (t := ⟨nm, per, dl, prio, cl, pa, pc, parts⟩) (Nat.le_of_lt hk) hlt HO.out (by unfold likeB; dsimp only; rw [z1]; rfl)
            have Hy : Hid (taskE ⟨proto, ca, cc, cores, ha, hc, homes, some ⟨g, off, none⟩, tc, tasks⟩ k = 17) := hidp (by unfold taskE; dsimp only; rw [HT.out]; dsimp only; rw [P1.out, P2.out, p3]; simp)
            clear p3
            go_wp2
            go_quiet (fail)
            go_wp2
            go_ret
            exact ⟨ret_int Hy.out.symm, below_drewN hb _⟩
          · have z1 : (o.name.toList == nm.toList) = false := by simpa using z1
            by_cases z2 : (o.prio == prio) = true
            · have p3 := taken_some (t := ⟨nm, per, dl, prio, cl, pa, pc, parts⟩) (Nat.le_of_lt hk) hlt HO.out (by unfold likeB; dsimp only; rw [z1, z2]; rfl)
              have Hy : Hid (taskE ⟨proto, ca, cc, cores, ha, hc, homes, some ⟨g, off, none⟩, tc, tasks⟩ k = 17) := hidp (by unfold taskE; dsimp only; rw [HT.out]; dsimp only; rw [P1.out, P2.out, p3]; simp)
              have z3 : o.prio = prio := by simpa using z2
              have Hz3 := hidp z3
              clear p3 z3
              go_wp2
              go_quiet (fail)
              go_wp2
              go_ret
              exact ⟨ret_int Hy.out.symm, below_drewN hb _⟩
            · have z2 : (o.prio == prio) = false := by simpa using z2
              have Hn : Hid (∀ m, m < j + 1 → likeB ⟨nm, per, dl, prio, cl, pa, pc, parts⟩ (tasks.getD m default) = false) := hidp (fun m hm => by
                by_cases e : m = j
                · subst e; rw [HO.out]; unfold likeB; dsimp only; rw [z1, z2]; rfl
                · exact Ho.out m (by omega))
              go_wp2
              go_quiet (fail)
              go_wp2
              go_roundg (gk - 1)
              case measure => omega
              case rel => exact ⟨j + 1, by omega, by go_num, Hn, sc.keep (Keeps.drewN _ _), tb.keep (Keeps.drewN _ _), below_drewN hb _⟩
        · obtain rfl : j = k := by omega
          have P3 : Hid (takenB (tasks.take j) ⟨nm, per, dl, prio, cl, pa, pc, parts⟩ = false) := hidp (taken_none (Nat.le_of_lt hk) Ho.out)
          have hcase : ((parts.length : Int) < 1) ∨ (1 ≤ (parts.length : Int) ∧ 6 < (parts.length : Int)) ∨ (1 ≤ (parts.length : Int) ∧ (parts.length : Int) ≤ 6) := by omega
          rcases hcase with q1 | ⟨q1, q2⟩ | ⟨q1, q2⟩
          · have p4 : partsB parts homes.length = false := by unfold partsB; rw [show inB parts.length 1 6 = false from inB_false.2 (by omega)]; rfl
            have Hy : Hid (taskE ⟨proto, ca, cc, cores, ha, hc, homes, some ⟨g, off, none⟩, tc, tasks⟩ j = 15) := hidp (by unfold taskE; dsimp only; rw [HT.out]; dsimp only; rw [P1.out, P2.out, P3.out, p4]; simp)
            clear p4
            go_wp2
            go_ret
            exact ⟨ret_int Hy.out.symm, hb⟩
          · have p4 : partsB parts homes.length = false := by unfold partsB; rw [show inB parts.length 1 6 = false from inB_false.2 (by omega)]; rfl
            have Hy : Hid (taskE ⟨proto, ca, cc, cores, ha, hc, homes, some ⟨g, off, none⟩, tc, tasks⟩ j = 15) := hidp (by unfold taskE; dsimp only; rw [HT.out]; dsimp only; rw [P1.out, P2.out, P3.out, p4]; simp)
            clear p4
            go_wp2
            go_ret
            exact ⟨ret_int Hy.out.symm, hb⟩
          · have P4 : Hid (inB parts.length 1 6 = true) := hidp (inB_true.2 (by omega))
            obtain ⟨gp, op, hP, hpl⟩ := Hpt.out.resolve_left (by intro e; rw [e] at q1; simp at q1)
            subst hP
            have Hpl := hidp hpl
            clear hpl
            go_wp2
            obtain ⟨wo, rfl⟩ : ∃ wo : World, wo = wr := ⟨_, rfl⟩
            go_loopg [7] parts.length (fun gg i wr => ∃ m : Nat, m + gg = parts.length ∧ i = .int .i64 m ∧ Hid (∀ n, n < m → partB (parts.getD n default) homes.length = true) ∧ SetCells wr w.heap.size ⟨proto, ca, cc, cores, ha, hc, homes, some ⟨g, off, none⟩, tc, tasks⟩ ∧ TaskBox wr (w.heap.size + 1) ⟨nm, per, dl, prio, cl, some ⟨gp, op, none⟩, pc, parts⟩ ∧ Below w.heap.size w wr)
            case atStart => exact ⟨0, by omega, rfl, hidp (by omega), sc, tb, hb⟩
            case round =>
              obtain ⟨m, hm, rfl, Hm, sc, tb, hb⟩ := hrel
              clear c0 c1 c2 c3 b0 b1 b2 b3 b4 b5
              have sc2 := sc
              obtain ⟨c0, c1, c2, c3⟩ := sc2
              have tb2 := tb
              obtain ⟨b0, b1, b2, b3, b4, b5⟩ := tb2
              dsimp only at c0 c1 c2 c3 b0 b1 b2 b3 b4 b5
              by_cases hml : m < parts.length
              · obtain ⟨p, HP⟩ : ∃ p, Hid (parts.getD m default = p) := ⟨_, rfl⟩
                have pcl := (HP.out ▸ Hpl.out m hml).keep (Keeps.of_below hb)
                have hml2 : (m : Int) < (parts.length : Int) := by omega
                go_wp2_with fail
                have sc := sc.keep (Keeps.drew wr)
                have tb := tb.keep (Keeps.drew wr)
                have pcl := pcl.keep (Keeps.drew wr)
                have hb := hb.drew
                by_cases z : partB p homes.length = true
                · have Hn : Hid (∀ n, n < m + 1 → partB (parts.getD n default) homes.length = true) := hidp (fun n hn => by
                    by_cases e : n = m
                    · subst e; rw [HP.out]; exact z
                    · exact Hm.out n (by omega))
                  go_region_held3 (fun w' => w'.cell? ⟨w.heap.size, 0, none⟩ = some (.int .i64 proto) ∧ w'.cell? ⟨w.heap.size, 1, none⟩ = some (.slice ca cores.length cc) ∧ w'.cell? ⟨w.heap.size, 2, none⟩ = some (.slice ha homes.length hc) ∧ w'.cell? ⟨w.heap.size, 3, none⟩ = some (.slice (some ⟨g, off, none⟩) tasks.length tc) ∧ w'.cell? ⟨w.heap.size + 1, 5, none⟩ = some (.slice (some ⟨gp, op, none⟩) parts.length pc) ∧ w'.cell? ⟨gp, op + m * 3, none⟩ = some (.int .i64 p.kind) ∧ w'.cell? ⟨gp, op + m * 3 + 1, none⟩ = some (.int .i64 p.len) ∧ w'.cell? ⟨gp, op + m * 3 + 2, none⟩ = some (.int .i64 p.res)) (exact ⟨sc.1, sc.2.1, sc.2.2.1, sc.2.2.2, tb.2.2.2.2.2, pcl⟩)
                    (first
                      | (go_at_call 40; refine (rpart_any ⟨proto, ca, cc, cores, ha, hc, homes, some ⟨g, off, none⟩, tc, tasks⟩ p _ L2.out).mono ?_; rintro e u ⟨rfl, hb2⟩; have hb := hb.trans (hb2.mono hb.size); have sc := sc.keep (Keeps.of_below hb2); have tb := tb.keep (Keeps.of_below hb2); have pcl := pcl.keep (Keeps.of_below hb2)))
                  go_wp2_with fail
                  go_roundg (gk - 1)
                  case measure => omega
                  case rel => exact ⟨m + 1, by omega, by go_num, Hn, sc, tb, hb⟩
                · have z : partB p homes.length = false := by simpa using z
                  have p4 : partsB parts homes.length = false := by unfold partsB; rw [not_all_getD hml HP.out z]; simp
                  have Hy : Hid (taskE ⟨proto, ca, cc, cores, ha, hc, homes, some ⟨g, off, none⟩, tc, tasks⟩ j = 15) := hidp (by unfold taskE; dsimp only; rw [HT.out]; dsimp only; rw [P1.out, P2.out, P3.out, p4]; simp)
                  clear p4
                  go_region_held3 (fun w' => w'.cell? ⟨w.heap.size, 0, none⟩ = some (.int .i64 proto) ∧ w'.cell? ⟨w.heap.size, 1, none⟩ = some (.slice ca cores.length cc) ∧ w'.cell? ⟨w.heap.size, 2, none⟩ = some (.slice ha homes.length hc) ∧ w'.cell? ⟨w.heap.size, 3, none⟩ = some (.slice (some ⟨g, off, none⟩) tasks.length tc) ∧ w'.cell? ⟨w.heap.size + 1, 5, none⟩ = some (.slice (some ⟨gp, op, none⟩) parts.length pc) ∧ w'.cell? ⟨gp, op + m * 3, none⟩ = some (.int .i64 p.kind) ∧ w'.cell? ⟨gp, op + m * 3 + 1, none⟩ = some (.int .i64 p.len) ∧ w'.cell? ⟨gp, op + m * 3 + 2, none⟩ = some (.int .i64 p.res)) (exact ⟨sc.1, sc.2.1, sc.2.2.1, sc.2.2.2, tb.2.2.2.2.2, pcl⟩)
                    (first
                      | (go_at_call 40; refine (rpart_any ⟨proto, ca, cc, cores, ha, hc, homes, some ⟨g, off, none⟩, tc, tasks⟩ p _ L2.out).mono ?_; rintro e u ⟨rfl, hb2⟩; have hb := hb.trans (hb2.mono hb.size); have sc := sc.keep (Keeps.of_below hb2); have tb := tb.keep (Keeps.of_below hb2); have pcl := pcl.keep (Keeps.of_below hb2)))
                  go_wp2_with fail
                  go_ret
                  exact ⟨ret_int Hy.out.symm, hb⟩
              · have p4 : partsB parts homes.length = true := by unfold partsB; rw [P4.out, all_getD (f := fun p => partB p homes.length) (fun n hn => Hm.out n (by omega))]; rfl
                have Hy : Hid (taskE ⟨proto, ca, cc, cores, ha, hc, homes, some ⟨g, off, none⟩, tc, tasks⟩ j = 0) := hidp (by unfold taskE; dsimp only; rw [HT.out]; dsimp only; rw [P1.out, P2.out, P3.out, p4]; simp)
                clear p4
                go_wp2
                go_ret
                exact ⟨ret_int Hy.out.symm, hb⟩
end Go.Proofs.YtggidlmehimcjaaDoor

namespace Go.Proofs.YtggidlmehimcjaaDoor
open Go.ChangeShapes Go.WideShapes Go.ChangeAt Go.RowKit
set_option linter.unusedVariables false

theorem rtask_any (s : SetR) (k : Nat) (w : World) (hs : SetOk w s) (hk : k < s.tasks.length) : Calls Tryd.prog 25 #[.agg #[.int .i64 s.proto, .slice s.ca s.cores.length s.cc, .slice s.ha s.homes.length s.hc, .slice s.ta s.tasks.length s.tc], .int .i64 k] w fun e w' => e = .returned (.int .i64 (taskE s k)) ∧ Below w.heap.size w w' := by
  obtain ⟨g, off, hA, _⟩ := hs.tasks.at_.resolve_left (by intro e; rw [e] at hk; simp at hk)
  obtain ⟨proto, ca, cc, cores, ha, hc, homes, ta, tc, tasks⟩ := s
  dsimp only at hA
  subst hA
  exact rtask_row proto ca cc cores ha hc homes g off tc tasks k w hs hk
theorem placesB_frame {s : SetR} (h : inB s.proto 1 3 = true) : frameV s = if placesB s = false then 16 else if 6 < s.tasks.length then 11 else if s.tasks.length = 0 then 14 else 0 := by
  unfold frameV placesB
  rw [if_neg (by rw [h]; decide)]
  cases inB s.cores.length 1 3
  · simp
  · cases allB s.cores 1 3
    · simp
    · by_cases h4 : s.homes.length ≤ 4
      · have h4' : ¬ 4 < s.homes.length := by omega
        cases allB s.homes 0 ((s.cores.length : Int) - 1) <;> simp [h4, h4']
      · have h4' : 4 < s.homes.length := by omega
        simp [h4, h4']
theorem chk_frame {s : SetR} {v : Int} (h : frameV s = v) (h0 : v ≠ 0) : chkAt s = -1 ∧ chkE s = v := by
  unfold chkAt chkE
  rw [h, if_pos h0, if_pos h0]
  exact ⟨rfl, rfl⟩

set_option maxHeartbeats 4000000 in
set_option maxRecDepth 100000 in
theorem rcheck_any (s : SetR) (w : World) (hs : SetOk w s) : Calls Tryd.prog 14 #[.agg #[.int .i64 s.proto, .slice s.ca s.cores.length s.cc, .slice s.ha s.homes.length s.hc, .slice s.ta s.tasks.length s.tc]] w fun e w' => e = .returned (.tuple #[.int .i64 (chkAt s), .int .i64 (chkE s)]) ∧ Below w.heap.size w w' := by
  have l3 : s.tasks.length ≤ maxLen := Nat.le_trans hs.tasks.sl.2.1 hs.tasks.sl.2.2
  unfold maxLen at l3
  have hb := (Below.refl w.heap.size w).alloc (Nat.le_refl _) (.cells #[.int .i64 s.proto, .slice s.ca s.cores.length s.cc, .slice s.ha s.homes.length s.hc, .slice s.ta s.tasks.length s.tc] 25)
  have sc := SetCells.new w s 25
  have hs := hs.keep (Keeps.of_below hb)
  have sc2 := sc
  obtain ⟨c0, c1, c2, c3⟩ := sc2
  have hcase : s.proto < 1 ∨ (1 ≤ s.proto ∧ 3 < s.proto) ∨ (1 ≤ s.proto ∧ s.proto ≤ 3) := by omega
  rcases hcase with p | ⟨p, p2⟩ | ⟨p, p2⟩
  · have H := hidp (chk_frame (s := s) (v := 10) (by unfold frameV; rw [if_pos (inB_false.2 (by omega))]) (by decide))
    go_enter Tryd.func14, Tryd.ntmps14
    go_wp2
    go_ret2
    exact ⟨ret_ii H.out.1.symm H.out.2.symm, hb⟩
  · have H := hidp (chk_frame (s := s) (v := 10) (by unfold frameV; rw [if_pos (inB_false.2 (by omega))]) (by decide))
    go_enter Tryd.func14, Tryd.ntmps14
    go_wp2
    go_ret2
    exact ⟨ret_ii H.out.1.symm H.out.2.symm, hb⟩
  · have Hf := hidp (placesB_frame (s := s) (inB_true.2 ⟨p, p2⟩))
    by_cases q : placesB s = true
    · by_cases q6 : 6 < s.tasks.length
      · have H := hidp (chk_frame (s := s) (v := 11) (by rw [Hf.out, if_neg (by rw [q]; decide), if_pos q6]) (by decide))
        go_enter Tryd.func14, Tryd.ntmps14
        go_wp2_with (first | (go_at_call 24; (with_reducible refine (places_any _ _ hs).mono ?_); rintro e u ⟨rfl, hb2⟩; replace hb := hb.trans (hb2.mono hb.size); replace sc := sc.keep (Keeps.of_below hb2); replace hs := hs.keep (Keeps.of_below hb2); have sc3 := sc; obtain ⟨e0, e1, e2, e3⟩ := sc3; clear hb2))
        go_ret2
        exact ⟨ret_ii H.out.1.symm H.out.2.symm, hb⟩
      · by_cases q0 : s.tasks.length = 0
        · have H := hidp (chk_frame (s := s) (v := 14) (by rw [Hf.out, if_neg (by rw [q]; decide), if_neg q6, if_pos q0]) (by decide))
          have q1 : ((s.tasks.length : Int) == 0) = true := by simp [q0]
          clear q0
          go_enter Tryd.func14, Tryd.ntmps14
          go_wp2_with (first | (go_at_call 24; (with_reducible refine (places_any _ _ hs).mono ?_); rintro e u ⟨rfl, hb2⟩; replace hb := hb.trans (hb2.mono hb.size); replace sc := sc.keep (Keeps.of_below hb2); replace hs := hs.keep (Keeps.of_below hb2); have sc3 := sc; obtain ⟨e0, e1, e2, e3⟩ := sc3; clear hb2))
          go_ret2
          exact ⟨ret_ii H.out.1.symm H.out.2.symm, hb⟩
        · have Hf0 : Hid (frameV s = 0) := hidp (by rw [Hf.out, if_neg (by rw [q]; decide), if_neg q6, if_neg q0])
          have q1 : ((s.tasks.length : Int) == 0) = false := by simp; intro e; exact q0 (by simp [e])
          clear q0
          go_enter Tryd.func14, Tryd.ntmps14
          go_wp2_with (first | (go_at_call 24; (with_reducible refine (places_any _ _ hs).mono ?_); rintro e u ⟨rfl, hb2⟩; replace hb := hb.trans (hb2.mono hb.size); replace sc := sc.keep (Keeps.of_below hb2); replace hs := hs.keep (Keeps.of_below hb2); have sc3 := sc; obtain ⟨e0, e1, e2, e3⟩ := sc3; clear hb2))
          clear c0 c1 c2 c3 e0 e1 e2 e3
          go_loopg [4] s.tasks.length (fun gg i wr => ∃ k : Nat, k + gg = s.tasks.length ∧ i = .int .i64 k ∧ Hid (∀ j, j < k → taskE s j = 0) ∧ SetCells wr w.heap.size s ∧ SetOk wr s ∧ Below w.heap.size w wr)
          case atStart => exact ⟨0, by omega, rfl, hidp (by omega), sc, hs, hb⟩
          case round =>
            obtain ⟨k, hk, rfl, Ho, sc, hs, hb⟩ := hrel
            have sc3 := sc
            obtain ⟨c0, c1, c2, c3⟩ := sc3
            by_cases hlt : k < s.tasks.length
            · obtain ⟨v, Hv⟩ : ∃ v, Hid (taskE s k = v) := ⟨_, rfl⟩
              by_cases z : v = 0
              · have Hn : Hid (∀ j, j < k + 1 → taskE s j = 0) := hidp (fun j hj => by
                  by_cases e : j = k
                  · subst e; rw [Hv.out]; exact z
                  · exact Ho.out j (by omega))
                subst z
                go_wp2_with (first | (go_at_call 25; (with_reducible refine (rtask_any _ _ _ hs hlt).mono ?_); rintro e u ⟨rfl, hb2⟩; rw [Hv.out]; replace hb := hb.trans (hb2.mono hb.size); replace sc := sc.keep (Keeps.of_below hb2); replace hs := hs.keep (Keeps.of_below hb2); clear hb2))
                go_roundg (gk - 1)
                case measure => omega
                case rel => exact ⟨k + 1, by omega, by go_num, Hn, sc, hs, hb⟩
              · have H := hidp (chk_here Hf0.out hlt Ho.out (by rw [Hv.out]; exact z))
                have z2 : (v == 0) = false := by simpa using z
                clear z
                go_wp2_with (first | (go_at_call 25; (with_reducible refine (rtask_any _ _ _ hs hlt).mono ?_); rintro e u ⟨rfl, hb2⟩; rw [Hv.out]; replace hb := hb.trans (hb2.mono hb.size); clear hb2))
                go_ret2
                exact ⟨ret_ii H.out.1.symm (by rw [H.out.2, Hv.out]), hb⟩
            · have H := hidp (chk_none Hf0.out (fun j hj => Ho.out j (by omega)))
              go_wp2
              go_ret2
              exact ⟨ret_ii H.out.1.symm H.out.2.symm, hb⟩
    · have q : placesB s = false := by simpa using q
      have H := hidp (chk_frame (s := s) (v := 16) (by rw [Hf.out, if_pos q]) (by decide))
      go_enter Tryd.func14, Tryd.ntmps14
      go_wp2_with (first | (go_at_call 24; (with_reducible refine (places_any _ _ hs).mono ?_); rintro e u ⟨rfl, hb2⟩; replace hb := hb.trans (hb2.mono hb.size); clear hb2))
      go_ret2
      exact ⟨ret_ii H.out.1.symm H.out.2.symm, hb⟩

theorem rok_any (s : SetR) (w : World) (hs : SetOk w s) : Calls Tryd.prog 9 #[.agg #[.int .i64 s.proto, .slice s.ca s.cores.length s.cc, .slice s.ha s.homes.length s.hc, .slice s.ta s.tasks.length s.tc]] w fun e w' => e = .returned (.bool (okS s)) ∧ Below w.heap.size w w' := by
  have hb := (Below.refl w.heap.size w).alloc (Nat.le_refl _) (.cells #[.int .i64 s.proto, .slice s.ca s.cores.length s.cc, .slice s.ha s.homes.length s.hc, .slice s.ta s.tasks.length s.tc] 25)
  have H := hidp (hs.keep (Keeps.of_below hb))
  have Ho : Hid (okS s = (chkE s == 0)) := hidp rfl
  clear hs
  go_enter Tryd.func9, Tryd.ntmps9
  go_wp2_with (first | (go_at_call 14; (with_reducible refine (rcheck_any _ _ H.out).mono ?_); rintro e w2 ⟨rfl, hb2⟩))
  go_ret
  exact ⟨ret_bool Ho.out.symm, hb.trans (hb2.mono hb.size)⟩
end Go.Proofs.YtggidlmehimcjaaDoor

set_option maxHeartbeats 16000000
set_option maxRecDepth 100000
set_option linter.unusedSimpArgs false
namespace Go.Proofs.YtggidlmehimcjaaDoor
open Go.ChangeShapes Go.WideShapes Go.ChangeAt Go.RowKit
theorem back_whole {s : SetR} (h : okS s = true) : parseV (printT s.rd) = (s.bare, ((linesOf s.rd).length : Int), 0) := by
  have hc : chkE s.rd.bare = 0 := by rw [rd_bare, (chk_bare s).2]; exact okS_chk h
  rw [parse_print (good_of h) (print_short h) hc, rd_bare]
theorem back_wide {s : SetR} (h : okS s = true) {zs : List Bts} (hl : Like (linesOf s.rd) zs) (hz : ∀ l ∈ zs, ∀ c ∈ l, c ≠ 10) (hs : (ended zs).length ≤ 2000) : ∃ n : Int, parseV (ended zs) = (s.bare, n, 0) := by
  have hc : chkE s.rd.bare = 0 := by rw [rd_bare, (chk_bare s).2]; exact okS_chk h
  obtain ⟨r1, h1, h2⟩ := lines_read (good_of h)
  obtain ⟨r2, h3, h4⟩ := lines_like hl (b := ⟨0, [], [], [], 0, 0, []⟩) (k := 0) ⟨rfl, rfl, rfl, rfl, rfl⟩ h1
  have h5 : readT (ended zs) = .ok r2 := by unfold readT; rw [lines_ended hz]; exact h3
  have e1 := parseV_ok hs h5
  rw [told_ok (h4.bare.symm.trans h2) hc, rd_bare] at e1
  exact ⟨_, e1⟩
theorem printed_plain {s : SetR} (h : okS s = true) : ∀ c ∈ printT s.rd, c ≠ 35 := by
  rw [print_lines]
  intro c hc
  obtain ⟨l, hl, hm⟩ := List.mem_flatMap.1 hc
  rcases List.mem_append.1 hm with g | g
  · exact (linesOf_plain (good_of h) l hl c g).2
  · rw [List.mem_singleton.1 g]; decide
theorem bl_one (s : ByteArray) {k : Nat} (h : k < s.size) : bl (s.extract k (k + 1)) = [s[k]] := by
  rw [bl_extract, List.take_succ_eq_append_getElem (by rw [bl_len]; exact h), List.drop_append_of_le_length (by rw [List.length_take, bl_len]; omega), List.drop_of_length_le (by rw [List.length_take, bl_len]; omega)]
  rfl
theorem take_one (s : ByteArray) {k : Nat} (h : k < s.size) : (bl s).take (k + 1) = (bl s).take k ++ [s[k]] := by
  rw [List.take_succ_eq_append_getElem (by rw [bl_len]; exact h)]; rfl
theorem u8_int {b : UInt8} {c : Int} (h : (b.toNat : Int) = c) (n : UInt8) : c = (n.toNat : Int) ↔ b = n := by
  rw [← h]
  constructor
  · intro e; exact UInt8.toNat_inj.1 (by omega)
  · rintro rfl; rfl
end Go.Proofs.YtggidlmehimcjaaDoor
namespace Go.Proofs.YtggidlmehimcjaaDoor.textBack
open Go.ChangeShapes Go.WideShapes Go.ChangeAt Go.RowKit
open Go.ChangeMaps (open_string shut_string)
set_option linter.unusedVariables false

/-- THE WALK: the Go text returns true, and writes nothing that was there. -/
theorem walk (s0 : SetR) (a1 : Int) (w : World) (w0 : SetOk w s0) (w1 : (Lit.int .u16 a1).wf = true) (mMax : Int) (hMax : w.cell? ⟨0, 0, none⟩ = some (.int .i64 mMax)) (hTab : Go.Lib.TabIs Tryd.prog w "internal/strconv.uint64pow10" .u64 Go.Lib.pow10Tab) :
    Calls Tryd.prog 3 #[.agg #[.int .i64 s0.proto, .slice s0.ca s0.cores.length s0.cc, .slice s0.ha s0.homes.length s0.hc, .slice s0.ta s0.tasks.length s0.tc], .int .u16 a1] w fun e w' => e = .returned (.bool true) ∧ Below w.heap.size w w' := by
  have HX := hidp hMax
  have HT : Hid (∀ u, Below w.heap.size w u → Tab u) := hidp (fun u hu => Tab.over (show Tab w from hTab) hu)
  obtain ⟨proto, ca, cc, cores, ha, hc, homes, ta, tc, tasks⟩ := s0
  have hb := (Below.refl w.heap.size w).alloc (Nat.le_refl _) (.cells #[.int .i64 proto, .slice ca cores.length cc, .slice ha homes.length hc, .slice ta tasks.length tc] 25)
  have sb : SetCells (w.alloc (.cells #[.int .i64 proto, .slice ca cores.length cc, .slice ha homes.length hc, .slice ta tasks.length tc] 25)) w.heap.size ⟨proto, ca, cc, cores, ha, hc, homes, ta, tc, tasks⟩ := SetCells.new w ⟨proto, ca, cc, cores, ha, hc, homes, ta, tc, tasks⟩ _
  have hs := w0.keep (Keeps.of_below hb)
  have HI := hidp (show 0 ≤ a1 ∧ a1 ≤ 65535 by simp [Lit.wf, IntKind.min, IntKind.max, IntKind.signed, IntKind.bits] at w1; omega)
  clear w0 w1 hMax hTab
  go_enter Tryd.func3, Tryd.ntmps3
  go_wp2_with fail
  refine (known9_any _ mMax (mem_max HX.out hb) (HT.out _ hb)).mono ?_
  rintro e u1 ⟨rfl, hb2⟩
  replace hb := hb.trans (hb2.mono hb.size)
  replace sb := sb.keep (Keeps.of_below hb2)
  replace hs := hs.keep (Keeps.of_below hb2)
  clear hb2
  obtain ⟨z0, z1, z2, z3⟩ := id sb
  dsimp only at z0 z1 z2 z3
  go_wp2_with fail
  refine (fews9_any ⟨proto, ca, cc, cores, ha, hc, homes, ta, tc, tasks⟩ _ hs).mono ?_
  rintro e u2 ⟨⟨b, rfl, hfew⟩, hb2⟩
  replace hb := hb.trans (hb2.mono hb.size)
  replace sb := sb.keep (Keeps.of_below hb2)
  replace hs := hs.keep (Keeps.of_below hb2)
  clear hb2 z0 z1 z2 z3 hfew
  cases b
  · go_wp2_with fail
    go_ret
    exact ⟨rfl, hb⟩
  obtain ⟨z0, z1, z2, z3⟩ := id sb
  dsimp only at z0 z1 z2 z3
  go_wp2_with fail
  refine (rok_any ⟨proto, ca, cc, cores, ha, hc, homes, ta, tc, tasks⟩ _ hs).mono ?_
  rintro e u3 ⟨rfl, hb2⟩
  replace hb := hb.trans (hb2.mono hb.size)
  replace sb := sb.keep (Keeps.of_below hb2)
  replace hs := hs.keep (Keeps.of_below hb2)
  clear hb2 z0 z1 z2 z3
  obtain ⟨ok, Hok⟩ : ∃ b, Hid (okS ⟨proto, ca, cc, cores, ha, hc, homes, ta, tc, tasks⟩ = b) := ⟨_, hidp rfl⟩
  rw [Hok.out]
  cases ok
  · go_wp2_with fail
    go_ret
    exact ⟨rfl, hb⟩
  obtain ⟨z0, z1, z2, z3⟩ := id sb
  dsimp only at z0 z1 z2 z3
  have CPr := hidp (print_any ⟨proto, ca, cc, cores, ha, hc, homes, ta, tc, tasks⟩ _ hs (HT.out _ hb))
  go_wp2_with fail
  refine CPr.out.mono ?_
  rintro e u4 ⟨tS, rfl, hv, hb2⟩
  have HV : Hid (bl tS = printT (SetR.rd ⟨proto, ca, cc, cores, ha, hc, homes, ta, tc, tasks⟩)) := hidp (hv.trans (by unfold printV; rw [if_pos Hok.out]))
  have HB := hidp (hb.trans (hb2.mono hb.size))
  have HSB := hidp (sb.keep (Keeps.of_below hb2))
  have HS := hidp (hs.keep (Keeps.of_below hb2))
  have HPL : Hid (∀ c ∈ bl tS, c ≠ 35) := hidp (by rw [HV.out]; exact printed_plain Hok.out)
  have hsz : tS.size ≤ 2000 := by rw [← bl_len, HV.out]; exact print_short Hok.out
  clear hb hb2 sb hs z0 z1 z2 z3 hv CPr
  go_wp2_with fail
  go_loopg [6, 7, 8] tS.size (fun g uS n i wr => ∃ (k m : Nat) (U : ByteArray), k + g = tS.size ∧ i = .int .i64 k ∧ n = .int .i64 m ∧ uS = .string U ∧ Hid (∃ xs ys a b, Gap ((bl tS).take k) (bl U) m xs ys a b) ∧ U.size ≤ 20 * k ∧ m ≤ k ∧ u4 = wr)
  case atStart => exact ⟨0, 0, ⟨#[]⟩, by omega, rfl, rfl, rfl, hidp ⟨[], [], [], [], Gap.start⟩, by decide, Nat.le_refl _, rfl⟩
  case round =>
    obtain ⟨k, m, U, hk, rfl, rfl, rfl, HG, hU, hmk, rfl⟩ := hrel
    by_cases hin : k < tS.size
    · have kI : (k : Int) < (tS.size : Int) := by omega
      have kI0 : (0 : Int) ≤ (k : Int) := by omega
      have kI1 : (k : Int) ≤ (k : Int) + 1 := by omega
      have kI2 : (k : Int) + 1 ≤ (tS.size : Int) := by omega
      have kN1 : k ≤ k + 1 := by omega
      have kN2 : k + 1 ≤ tS.size := by omega
      have wk : IntKind.i64.wrap ((k : Int) + 1) = (k : Int) + 1 := IntWalk.i64_in _ (by omega)
      obtain ⟨ch, hch⟩ : ∃ c : Int, (tS[k].toNat : Int) = c := ⟨_, rfl⟩
      have HC := hidp (u8_int hch)
      obtain ⟨x, Hx⟩ : ∃ x, Hid (tS.extract k (k + 1) = x) := ⟨_, hidp rfl⟩
      have Hxb : Hid (bl x = [tS[k]]) := hidp (by rw [← Hx.out]; exact bl_one tS hin)
      have hx0 := Hx.out
      have sx : x.size = 1 := by rw [← bl_len, Hxb.out]; rfl
      have HTk := hidp (take_one tS hin)
      have H35 : Hid (tS[k] ≠ 35) := hidp (HPL.out _ (by have : tS[k] = (bl tS)[k]'(by rw [bl_len]; exact hin) := rfl; rw [this]; exact List.getElem_mem _))
      by_cases d1 : ch = 10
      · have HC10 : Hid (tS[k] = 10) := hidp ((HC.out 10).1 d1)
        have f1 : (ch == 10) = true := by simpa using d1
        have f2 : (ch == 32) = false := by rw [d1]; decide
        have wm : IntKind.i64.wrap ((m : Int) + 1) = (m : Int) + 1 := IntWalk.i64_in _ (by omega)
        have wm5 : IntKind.i64.wrap ((m : Int) + 1 + 5) = (m : Int) + 1 + 5 := IntWalk.i64_in _ (by omega)
        obtain ⟨j, hj⟩ : ∃ j : Nat, ((m : Int) + 1).tmod 16 = (j : Int) := ⟨(((m : Int) + 1) % 16).toNat, by rw [Int.tmod_eq_emod_of_nonneg (by omega)]; omega⟩
        have hj16 : j < 16 := by rw [Int.tmod_eq_emod_of_nonneg (by omega)] at hj; omega
        obtain ⟨i3, hi3⟩ : ∃ j : Nat, ((m : Int) + 1 + 5).tmod 16 = (j : Int) := ⟨(((m : Int) + 1 + 5) % 16).toNat, by rw [Int.tmod_eq_emod_of_nonneg (by omega)]; omega⟩
        have hi16 : i3 < 16 := by rw [Int.tmod_eq_emod_of_nonneg (by omega)] at hi3; omega
        have wj : IntKind.i64.wrap (j : Int) = (j : Int) := IntWalk.i64_in _ (by omega)
        have wi3 : IntKind.i64.wrap (i3 : Int) = (i3 : Int) := IntWalk.i64_in _ (by omega)
        obtain ⟨p, hp⟩ : ∃ p : Bool, (bits BinOp.and IntKind.u16 (a1 / 2 ^ j) 1 == 1) = p := ⟨_, rfl⟩
        obtain ⟨q, hq⟩ : ∃ p : Bool, (bits BinOp.and IntKind.u16 (a1 / 2 ^ i3) 1 == 1) = p := ⟨_, rfl⟩
        have HGN : Hid (∀ V : ByteArray, bl V = (((bl U ++ (if p = true then [32, 32, 35, 32, 109, 111, 114, 101] else [])) ++ [10]) ++ (if q = true then [32, 32, 32, 10] else [])) → ∃ xs ys a b, Gap ((bl tS).take (k + 1)) (bl V) (m + 1) xs ys a b) := hidp (fun V hV => by
          obtain ⟨xs, ys, a, b, hg⟩ := HG.out
          obtain ⟨ys', hg'⟩ := hg.line p q
          rw [HTk.out, HC10.out, hV]
          exact ⟨_, _, _, _, hg'⟩)
        have Hx10 : Hid (bl x = [10]) := hidp (by rw [Hxb.out, HC10.out])
        clear d1 HG HC
        cases p <;> cases q
        · go_wp2_with fail
          go_roundg (gk - 1)
          case measure => omega
          case rel => exact ⟨k + 1, m + 1, (U ++ x), by omega, by go_num, by go_num, rfl, hidp (HGN.out _ (by simp only [bl_append, Hx10.out]; simp [bl])), by simp only [ByteArray.size_append, sx]; first | omega | (show U.size + _ ≤ _; omega) | (show U.size + 8 + 1 ≤ _; omega) | (show U.size + 1 + 4 ≤ _; omega) | (show U.size + 8 + 1 + 4 ≤ _; omega), by omega, rfl⟩
        · go_wp2_with fail
          go_roundg (gk - 1)
          case measure => omega
          case rel => exact ⟨k + 1, m + 1, ((U ++ x) ++ ⟨#[32, 32, 32, 10]⟩), by omega, by go_num, by go_num, rfl, hidp (HGN.out _ (by simp only [bl_append, Hx10.out]; simp [bl])), by simp only [ByteArray.size_append, sx]; first | omega | (show U.size + _ ≤ _; omega) | (show U.size + 8 + 1 ≤ _; omega) | (show U.size + 1 + 4 ≤ _; omega) | (show U.size + 8 + 1 + 4 ≤ _; omega), by omega, rfl⟩
        · go_wp2_with fail
          go_roundg (gk - 1)
          case measure => omega
          case rel => exact ⟨k + 1, m + 1, ((U ++ ⟨#[32, 32, 35, 32, 109, 111, 114, 101]⟩) ++ x), by omega, by go_num, by go_num, rfl, hidp (HGN.out _ (by simp only [bl_append, Hx10.out]; simp [bl])), by simp only [ByteArray.size_append, sx]; first | omega | (show U.size + _ ≤ _; omega) | (show U.size + 8 + 1 ≤ _; omega) | (show U.size + 1 + 4 ≤ _; omega) | (show U.size + 8 + 1 + 4 ≤ _; omega), by omega, rfl⟩
        · go_wp2_with fail
          go_roundg (gk - 1)
          case measure => omega
          case rel => exact ⟨k + 1, m + 1, (((U ++ ⟨#[32, 32, 35, 32, 109, 111, 114, 101]⟩) ++ x) ++ ⟨#[32, 32, 32, 10]⟩), by omega, by go_num, by go_num, rfl, hidp (HGN.out _ (by simp only [bl_append, Hx10.out]; simp [bl])), by simp only [ByteArray.size_append, sx]; first | omega | (show U.size + _ ≤ _; omega) | (show U.size + 8 + 1 ≤ _; omega) | (show U.size + 1 + 4 ≤ _; omega) | (show U.size + 8 + 1 + 4 ≤ _; omega), by omega, rfl⟩
      have f1 : (ch == 10) = false := by simpa using d1
      have HC10 : Hid (tS[k] ≠ 10) := hidp (fun e => d1 ((HC.out 10).2 e))
      by_cases d2 : ch = 32
      · have HC32 : Hid (tS[k] = 32) := hidp ((HC.out 32).1 d2)
        have f2 : (ch == 32) = true := by simpa using d2
        obtain ⟨j, hj⟩ : ∃ j : Nat, (k : Int).tmod 16 = (j : Int) := ⟨((k : Int) % 16).toNat, by rw [Int.tmod_eq_emod_of_nonneg (by omega)]; omega⟩
        have hj16 : j < 16 := by rw [Int.tmod_eq_emod_of_nonneg (by omega)] at hj; omega
        have wj : IntKind.i64.wrap (j : Int) = (j : Int) := IntWalk.i64_in _ (by omega)
        obtain ⟨p, hp⟩ : ∃ p : Bool, (bits BinOp.and IntKind.u16 (a1 / 2 ^ j) 1 == 1) = p := ⟨_, rfl⟩
        have Hx32 : Hid (bl x = [32]) := hidp (by rw [Hxb.out, HC32.out])
        have HG1 : Hid (∀ V : ByteArray, bl V = bl U ++ [32] → ∃ xs ys a b, Gap ((bl tS).take (k + 1)) (bl V) m xs ys a b) := hidp (fun V hV => by
          obtain ⟨xs, ys, a, b, hg⟩ := HG.out
          rw [HTk.out, HC32.out, hV]
          exact ⟨_, _, _, _, hg.char (by decide)⟩)
        have HG2 : Hid (∀ V : ByteArray, bl V = bl U ++ [32] ++ [32] → ∃ xs ys a b, Gap ((bl tS).take (k + 1)) (bl V) m xs ys a b) := hidp (fun V hV => by
          obtain ⟨xs, ys, a, b, hg⟩ := HG.out
          rw [HTk.out, HC32.out, hV]
          exact ⟨_, _, _, _, hg.blank2⟩)
        clear d1 d2 HG HC
        cases p
        · go_wp2_with fail
          go_roundg (gk - 1)
          case measure => omega
          case rel => exact ⟨k + 1, m, (U ++ x), by omega, by go_num, rfl, rfl, hidp (HG1.out _ (by simp only [bl_append, Hx32.out])), by simp only [ByteArray.size_append, sx]; omega, by omega, rfl⟩
        · go_wp2_with fail
          go_roundg (gk - 1)
          case measure => omega
          case rel => exact ⟨k + 1, m, ((U ++ ⟨#[32]⟩) ++ x), by omega, by go_num, rfl, rfl, hidp (HG2.out _ (by simp only [bl_append, Hx32.out]; simp [bl])), by simp only [ByteArray.size_append, sx]; show U.size + 1 + 1 ≤ _; omega, by omega, rfl⟩
      · have f2 : (ch == 32) = false := by simpa using d2
        have HG1 : Hid (∀ V : ByteArray, bl V = bl U ++ [tS[k]] → ∃ xs ys a b, Gap ((bl tS).take (k + 1)) (bl V) m xs ys a b) := hidp (fun V hV => by
          obtain ⟨xs, ys, a, b, hg⟩ := HG.out
          rw [HTk.out, hV]
          exact ⟨_, _, _, _, hg.char ⟨HC10.out, H35.out⟩⟩)
        clear d1 d2 HG HC
        go_wp2_with fail
        go_roundg (gk - 1)
        case measure => omega
        case rel => exact ⟨k + 1, m, (U ++ x), by omega, by go_num, rfl, rfl, hidp (HG1.out _ (by simp only [bl_append, Hxb.out])), by simp only [ByteArray.size_append, sx]; omega, by omega, rfl⟩
    · obtain rfl : k = tS.size := by omega
      have HW : Hid (m = (linesOf (SetR.rd ⟨proto, ca, cc, cores, ha, hc, homes, ta, tc, tasks⟩)).length ∧ ∃ zs, Like (linesOf (SetR.rd ⟨proto, ca, cc, cores, ha, hc, homes, ta, tc, tasks⟩)) zs ∧ bl U = ended zs ∧ ∀ l ∈ zs, ∀ c ∈ l, c ≠ 10) := hidp (by
        obtain ⟨xs, ys, a, b, hg⟩ := HG.out
        rw [List.take_of_length_le (by rw [bl_len]; exact Nat.le_refl _)] at hg
        exact hg.whole (by rw [HV.out, print_lines]) (fun l hl c hc => (linesOf_plain (good_of Hok.out) l hl c hc).1))
      have HP1 : Hid (parseV (bl tS) = (SetR.bare ⟨proto, ca, cc, cores, ha, hc, homes, ta, tc, tasks⟩, (m : Int), 0)) := hidp (by rw [HV.out, back_whole Hok.out, HW.out.1])
      have HPR : Hid (∀ x : SetR, x.bare = SetR.bare ⟨proto, ca, cc, cores, ha, hc, homes, ta, tc, tasks⟩ → printV x = bl tS) := hidp (fun x hx => by
        rw [printV_bare hx, HV.out]
        unfold printV
        rw [if_pos Hok.out])
      have C1 := hidp (parse_any tS mMax u4 (mem_max HX.out HB.out))
      obtain ⟨z0, z1, z2, z3⟩ := id HSB.out
      dsimp only at z0 z1 z2 z3
      clear hU hmk HG
      go_wp2_with fail
      refine C1.out.mono ?_
      rintro e u5 hp1
      rw [HP1.out] at hp1
      obtain ⟨x1, rfl, hs1, hx1, hb5⟩ := hp1
      have ka := (Keeps.of_below hb5).trans (Keeps.alloc u5 (.cells #[.int .i64 x1.proto, .slice x1.ca x1.cores.length x1.cc, .slice x1.ha x1.homes.length x1.hc, .slice x1.ta x1.tasks.length x1.tc] 25))
      have HBa := hidp ((HB.out.trans (hb5.mono HB.out.size)).alloc (HB.out.trans (hb5.mono HB.out.size)).size (.cells #[.int .i64 x1.proto, .slice x1.ca x1.cores.length x1.cc, .slice x1.ha x1.homes.length x1.hc, .slice x1.ta x1.tasks.length x1.tc] 25))
      have sa : SetCells (u5.alloc (.cells #[.int .i64 x1.proto, .slice x1.ca x1.cores.length x1.cc, .slice x1.ha x1.homes.length x1.hc, .slice x1.ta x1.tasks.length x1.tc] 25)) u5.heap.size x1 := SetCells.new u5 x1 _
      replace HSB := hidp (HSB.out.keep ka)
      replace HS := hidp (HS.out.keep ka)
      have HS1 := hidp (hs1.keep (Keeps.alloc u5 (.cells #[.int .i64 x1.proto, .slice x1.ca x1.cores.length x1.cc, .slice x1.ha x1.homes.length x1.hc, .slice x1.ta x1.tasks.length x1.tc] 25)))
      have HX1 := hidp hx1
      have C2 := hidp (parse_any U mMax _ (mem_max HX.out HBa.out))
      have HSA := hidp sa
      clear ka hb5 hs1 hx1 z0 z1 z2 z3 C1 sa
      go_wp2_with fail
      refine C2.out.mono ?_
      rintro e u6 hp2
      by_cases hU2 : 2000 < U.size
      · have HP2 : Hid (parseV (bl U) = (noSet, 0, 11)) := hidp (by unfold parseV; rw [bl_len, if_pos hU2])
        rw [HP2.out] at hp2
        obtain ⟨x2, rfl, hs2, hx2, hb6⟩ := hp2
        have ka := (Keeps.of_below hb6).trans (Keeps.alloc u6 (.cells #[.int .i64 x2.proto, .slice x2.ca x2.cores.length x2.cc, .slice x2.ha x2.homes.length x2.hc, .slice x2.ta x2.tasks.length x2.tc] 25))
        have HBb := hidp ((HBa.out.trans (hb6.mono HBa.out.size)).alloc (HBa.out.trans (hb6.mono HBa.out.size)).size (.cells #[.int .i64 x2.proto, .slice x2.ca x2.cores.length x2.cc, .slice x2.ha x2.homes.length x2.hc, .slice x2.ta x2.tasks.length x2.tc] 25))
        obtain ⟨z0, z1, z2, z3⟩ := HSB.out.keep ka
        obtain ⟨y0, y1, y2, y3⟩ := HSA.out.keep ka
        dsimp only at z0 z1 z2 z3
        have HSM : Hid (sameS x1 ⟨proto, ca, cc, cores, ha, hc, homes, ta, tc, tasks⟩ = true) := hidp (sameS_bare HX1.out)
        have CS := hidp (rsame_any x1 ⟨proto, ca, cc, cores, ha, hc, homes, ta, tc, tasks⟩ _ (HS1.out.keep ka) (HS.out.keep ka))
        rw [HSM.out] at CS
        have gU : (2000 : Int) < (U.size : Int) := by omega
        have gm : ((m : Int) == (m : Int)) = true := by simp
        clear ka hb6 hs2 hx2 C2
        go_wp2_with fail
        refine CS.out.mono ?_
        rintro e u7 ⟨rfl, hb7⟩
        have HBc := hidp (HBb.out.trans (hb7.mono HBb.out.size))
        clear hb7 CS z0 z1 z2 z3 y0 y1 y2 y3
        go_wp2_with fail
        go_ret
        exact ⟨rfl, HBc.out⟩
      · have HP2 : Hid (∃ n : Int, parseV (bl U) = (SetR.bare ⟨proto, ca, cc, cores, ha, hc, homes, ta, tc, tasks⟩, n, 0)) := hidp (by
          obtain ⟨zs, h1, h2, h3⟩ := HW.out.2
          have h4 : (ended zs).length ≤ 2000 := by rw [← h2, bl_len]; omega
          rw [h2]
          exact back_wide Hok.out h1 h3 h4)
        obtain ⟨n2, hn2⟩ := HP2.out
        rw [hn2] at hp2
        obtain ⟨x2, rfl, hs2, hx2, hb6⟩ := hp2
        have ka := (Keeps.of_below hb6).trans (Keeps.alloc u6 (.cells #[.int .i64 x2.proto, .slice x2.ca x2.cores.length x2.cc, .slice x2.ha x2.homes.length x2.hc, .slice x2.ta x2.tasks.length x2.tc] 25))
        have HBb := hidp ((HBa.out.trans (hb6.mono HBa.out.size)).alloc (HBa.out.trans (hb6.mono HBa.out.size)).size (.cells #[.int .i64 x2.proto, .slice x2.ca x2.cores.length x2.cc, .slice x2.ha x2.homes.length x2.hc, .slice x2.ta x2.tasks.length x2.tc] 25))
        have hsc := HSB.out.keep ka
        have hac := HSA.out.keep ka
        have hbc : SetCells (u6.alloc (.cells #[.int .i64 x2.proto, .slice x2.ca x2.cores.length x2.cc, .slice x2.ha x2.homes.length x2.hc, .slice x2.ta x2.tasks.length x2.tc] 25)) u6.heap.size x2 := SetCells.new u6 x2 _
        obtain ⟨z0, z1, z2, z3⟩ := id hsc
        obtain ⟨y0, y1, y2, y3⟩ := id hac
        dsimp only at z0 z1 z2 z3
        have HSM : Hid (sameS x1 ⟨proto, ca, cc, cores, ha, hc, homes, ta, tc, tasks⟩ = true) := hidp (sameS_bare HX1.out)
        have HSM2 : Hid (sameS x2 ⟨proto, ca, cc, cores, ha, hc, homes, ta, tc, tasks⟩ = true) := hidp (sameS_bare hx2)
        have HV2 := hidp (HPR.out x2 hx2)
        have CS := hidp (rsame_any x1 ⟨proto, ca, cc, cores, ha, hc, homes, ta, tc, tasks⟩ _ (HS1.out.keep ka) (HS.out.keep ka))
        rw [HSM.out] at CS
        have HSa := hidp (HS.out.keep ka)
        have HS2 := hidp (hs2.keep (Keeps.alloc u6 (.cells #[.int .i64 x2.proto, .slice x2.ca x2.cores.length x2.cc, .slice x2.ha x2.homes.length x2.hc, .slice x2.ta x2.tasks.length x2.tc] 25)))
        have gm : ((m : Int) == (m : Int)) = true := by simp
        have HC1 := hidp hsc
        have HC3 := hidp hbc
        clear ka hb6 hs2 hx2 C2 hsc hac hbc hn2 HP2
        go_wp2_with fail
        refine CS.out.mono ?_
        rintro e u7 ⟨rfl, hb7⟩
        have kc := Keeps.of_below hb7
        have HBc := hidp (HBb.out.trans (hb7.mono HBb.out.size))
        clear z0 z1 z2 z3 y0 y1 y2 y3
        obtain ⟨z0, z1, z2, z3⟩ := HC1.out.keep kc
        obtain ⟨x0', x1', x2', x3'⟩ := HC3.out.keep kc
        dsimp only at z0 z1 z2 z3
        have CS2 := hidp (rsame_any x2 ⟨proto, ca, cc, cores, ha, hc, homes, ta, tc, tasks⟩ _ (HS2.out.keep kc) (HSa.out.keep kc))
        rw [HSM2.out] at CS2
        have HC3b := hidp (HC3.out.keep kc)
        have HS2b := hidp (HS2.out.keep kc)
        clear hb7 CS kc
        go_wp2_with fail
        refine CS2.out.mono ?_
        rintro e u8 ⟨rfl, hb8⟩
        have kd := Keeps.of_below hb8
        have HBd := hidp (HBc.out.trans (hb8.mono HBc.out.size))
        clear z0 z1 z2 z3 x0' x1' x2' x3'
        obtain ⟨x0', x1', x2', x3'⟩ := HC3b.out.keep kd
        have CP := hidp (print_any x2 _ (HS2b.out.keep kd) (HT.out _ HBd.out))
        clear hb8 CS2 kd
        go_wp2_with fail
        refine CP.out.mono ?_
        rintro e u9 ⟨r, rfl, hv, hb9⟩
        have hr : r = tS := bl_inj (hv.trans HV2.out)
        subst hr
        have HBe := hidp (HBd.out.trans (hb9.mono HBd.out.size))
        have f9 : (r.toList == r.toList) = true := by simp
        clear hv hb9 CP x0' x1' x2' x3'
        go_wp2_with fail
        go_ret
        exact ⟨rfl, HBe.out⟩

theorem own : ownKnob Tryd.prog.godebug = none := by kernel_rfl
theorem laidOut : laidOutB Tryd.prog = true := by kernel_rfl
def cellsD : DataW Unit → List Value
  | .agg ds => ds.flatMap fun
    | .lit (.int k z) => [Value.int k z]
    | .agg es => es.flatMap fun
      | .lit (.int k z) => [Value.int k z]
      | _ => []
    | _ => []
  | _ => []
def layTab (d : DataW Unit) : Obj → Obj
  | .cells _ t frozen => .cells (cellsD d).toArray t frozen
  | o => o
/-- a world in which the listed tables lie: the witness -/
noncomputable def laidWorld (os : Os) : World := { World.holding Tryd.prog os ⟨#[], #[], []⟩ with heap := ((((((World.holding Tryd.prog os ⟨#[], #[], []⟩).heap.modify 4 (layTab Rows.laid_math_bits_deBruijn32tab)).modify 5 (layTab Rows.laid_math_bits_deBruijn64tab)).modify 1 (layTab Rows.laid_internal_strconv_uint64pow10)).modify 3 (layTab Rows.laid_unicode_utf8_acceptRanges)).modify 2 (layTab Rows.laid_unicode_utf8_first)) }
theorem laid_met (os : Os) (args : Array Value) : laidMetH Tryd.prog Rows.textBackRow.laid ((laidWorld os).forCall (fun _ _ => 0) ⟨#[], args, []⟩).memory :=
  laidMet_of_run' 8 (by kernel_rfl) (by kernel_rfl)
theorem witness_row (os : Os) {H : Type} (enc : TypeId × Value → H) :
    (OpenSpec.ofChange Rows.textBackSpec).preRow enc Tryd.prog Tryd.f3 Rows.textBackRow.domain false Rows.textBackRow.laid ((laidWorld os).forCall (fun _ _ => 0) ⟨#[], #[.agg #[.int .i64 0, .slice none 0 0, .slice none 0 0, .slice none 0 0], .int .u16 0], []⟩).memory #[.agg #[.int .i64 0, .slice none 0 0, .slice none 0 0, .slice none 0 0], .int .u16 0] := by
  have hw : (DataW.whole enc Tryd.prog ((laidWorld os).forCall (fun _ _ => 0) ⟨#[], #[.agg #[.int .i64 0, .slice none 0 0, .slice none 0 0, .slice none 0 0], .int .u16 0], []⟩).memory Tryd.f3.params.toList (OpenSpec.ofChange Rows.textBackSpec).vars false (#[.agg #[.int .i64 0, .slice none 0 0, .slice none 0 0, .slice none 0 0], .int .u16 0] : Array Value).toList 8).map (fun x => (x.1, x.2.1)) =
      some ([.agg [.lit (.int .i64 0), .nil, .nil, .nil], .lit (.int .u16 0)], []) := by kernel_rfl
  obtain ⟨⟨x1, x2, x3⟩, hx, hx1⟩ := Option.map_eq_some_iff.1 hw
  simp only [Prod.mk.injEq] at hx1
  obtain ⟨rfl, rfl⟩ := hx1
  exact OpenSpec.preRow_of_cond 8 hx (by kernel_rfl) (fun k hk => by cases hk) (by kernel_rfl) (laid_met os _)

set_option maxRecDepth 100000 in
theorem lifted (os : Os) (started : os.Started) (H : Type) (enc : TypeId × Value → H) (F0 : Stop.Interp) :
    ReturnsInHanded {} Tryd.checked os 3 .any ((OpenSpec.ofChange Rows.textBackSpec).preRow enc Tryd.prog Tryd.f3 Rows.textBackRow.domain false Rows.textBackRow.laid) (((OpenSpec.ofChange Rows.textBackSpec).at F0).post enc Tryd.prog Tryd.f3 false true false false) := by
  refine returnsInHanded_of_row (C := Tryd.checked) (s := OpenSpec.ofChange Rows.textBackSpec) own started (by kernel_rfl) Tryd.func3
    (witness_row_at (enc := enc) (C := Tryd.checked) false (laidWorld os) #[.agg #[.int .i64 0, .slice none 0 0, .slice none 0 0, .slice none 0 0], .int .u16 0] rfl (by kernel_rfl) (by kernel_rfl) (by kernel_rfl) (witness_row os enc)) ?_
  intro W base args ds gs before hval0 hW _ _ _ hL hsh _
  obtain ⟨mMax, hMax⟩ : ∃ m, W.cell? ⟨0, 0, none⟩ = some (.int .i64 m) := Tryd.laysM219.s1_3 W hsh
  have hTab : Go.Lib.TabIs Tryd.prog W "internal/strconv.uint64pow10" .u64 Go.Lib.pow10Tab := tabPow hL
  have hval : ∀ (j : Nat) t v, Tryd.f3.params[j]? = some t → args[j]? = some v → Value.okWide Tryd.prog W .any base t v := hval0
  have hW' := hW
  obtain ⟨p, q, hA0, hV, rfl, hfz, hnd⟩ := hW
  have hA : DataW.TrodAll enc Tryd.prog W 0 (fun _ => true) true Tryd.f3.params.toList args.toList ds p := hA0
  rw [Tryd.params3] at hA hval
  obtain ⟨v0, vs0, d0, ds0, p0, q0, hargs, rfl, rfl, h0, r0⟩ := trodAll_cons hA
  obtain ⟨v1, vs1, d1, ds1, p1, q1, rfl, rfl, rfl, h1, r1⟩ := trodAll_cons r0
  obtain ⟨rfl, rfl, rfl⟩ := trodAll_nil r1
  obtain rfl : args = #[v0, v1] := by cases args; simp_all
  obtain ⟨rfl, rfl⟩ := trodVars_none hV
  have k0 := h0
  have lt0 : ∀ x ∈ p0, x.block < W.heap.size := by obtain ⟨m, hm⟩ := k0; exact DataW.trod_lt m _ _ _ hm
  obtain ⟨s0, w0, rfl⟩ := setTypes.arg_set (hval 0 25 v0 rfl rfl) h0
  obtain ⟨a1, rfl, rfl, rfl, w1⟩ := open_int Tryd.underlying26 (hval 1 26 v1 rfl rfl) h1
  clear hA0 hval0
  refine (walk s0 a1  W w0 w1 mMax hMax hTab).mono fun e W' ⟨he, bel⟩ => ?_
  subst he
  exact ⟨_, rfl, _, _, _, [], _, [], hW', trodAll_mk1 (shut_bool Tryd.underlying4 _), (trodAll_cons_mk (Below.trod laidOut (by kernel_rfl) (of_decide_eq_true (by kernel_rfl)) k0 bel lt0) (trodAll_cons_mk (shut_int Tryd.underlying26 w1) trodAll_mk0)), rfl, bel.frame _, fun h => by cases h⟩

theorem over : Rows.TextBackSaid :=
  OpenClaim.holds_of_cond 3 Tryd.f3 rfl rfl rfl rfl rfl rfl rfl ⟨rfl, rfl, rfl, rfl, rfl⟩ rfl rfl rfl rfl rfl (by kernel_rfl) Tryd.func3 (by kernel_rfl)
    (of_decide_eq_true (by kernel_rfl)) (by unfold Func.isWrapper; first | (rw [if_pos (by decide +kernel)]; kernel_rfl) | (rw [if_neg (by decide +kernel)]; exact ⟨rfl, rfl⟩))
    (fun os started H enc _ F0 => by rw [OpenClaim.pre_eq_preRow]; exact lifted os started H enc F0)

/-- THE STATEMENT: the tied card -/
theorem proved : Rows.TextBackCardSaid :=
  Claim7.holds_tied_plain_at .later [] [.data, .data, .data, .data, .pinned] true (true, "31bf0271daabb12f75d2d3dcdb5711a3ac54dcda70b669fd0f20e4f13d272f58") false
    over (fun _ h => by cases h) (by kernel_rfl) (fun _ h => by cases h) textBack_row_tie rfl ⟨rfl, rfl⟩ (by kernel_rfl) rfl
    (fun f fn hf hfn => by
      obtain rfl : f = 3 := Option.some.inj ((show Tryd.prog.funcNamed Rows.textBackRow.func = some 3 by kernel_rfl).symm.trans hf) |>.symm
      obtain rfl : fn = Tryd.f3 := (Option.some.inj (Tryd.func3.symm.trans hfn)).symm
      refine ⟨by kernel_rfl, fun j t ht => ?_⟩
      rw [Tryd.params3] at ht
      exact standIns _ (by kernel_rfl) j t ht)
    (by kernel_rfl)
#print axioms proved
end Go.Proofs.YtggidlmehimcjaaDoor.textBack

