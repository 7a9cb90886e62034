/- swingbridgelaw9.few: true just of sets that are few. -/
import Derived.Test.YtlmliefkhidpnaaGreatDoorTxtC
import Derived.Test.YtlmliefkhidpnaaGreatDoorTxtV
import Derived.Test.YtlmliefkhidpnaaGreatDoorTxt5
import Derived.Deep.QuietTactic
import Derived.BigQuiet
import Derived.Test.YtlmliefkhidpnaaGreatDoorWdWords
import Derived.Test.YtlmliefkhidpnaaGreatDoorCards
import Derived.Test.YtlmliefkhidpnaaGreatDoorTie
import Derived.Test.YtlmliefkhidpnaaGreatDoorShelf
import Derived.Test.YtlmliefkhidpnaaGreatDoorUp
import Derived.SevenTiedAt
import Derived.Deep.DeepHandedRow
import Derived.Lib.LaidTab
import Derived.ProofKit
import Derived.SliceStrings
import Derived.Stop.LaidErr
import Derived.MakeChecks
import Derived.Test.YtlmliefkhidpnaaGreatDoorTxtB
import Derived.Test.YtlmliefkhidpnaaGreatDoorWdLines
import Derived.Test.YtlmliefkhidpnaaGreatDoorWdText
import Derived.Test.YtlmliefkhidpnaaGreatDoorOwnPut
import Derived.Test.YtlmliefkhidpnaaGreatDoorOwnT
import Derived.Lib.SmallJoins
import Derived.Deep.RegionHeld3
import Derived.Test.YtlmliefkhidpnaaGreatDoorReg
import Derived.Test.YtlmliefkhidpnaaGreatDoorSound
import Derived.Test.YtlmliefkhidpnaaGreatDoorSame3
import Derived.Test.YtlmliefkhidpnaaGreatDoorRef7a
import Derived.Test.YtlmliefkhidpnaaGreatDoorSame5
import Derived.StillTailTactics
namespace Go.Proofs.YtlmliefkhidpnaaGreatDoor
open Go.ChangeShapes Go.WideShapes Go.ChangeAt Go.RowKit
set_option linter.unusedVariables false
set_option linter.unusedSimpArgs false
theorem pl_run (x : Bts) (h : ∀ c ∈ x, c ≠ 10) (cur r : Bts) : pl 10 cur (x ++ 10 :: r) = (cur ++ x) :: pl 10 [] r := by
  induction x generalizing cur with
  | nil => rw [List.nil_append, pl, if_pos rfl, List.append_nil]
  | cons a t ih =>
    rw [List.cons_append, pl, if_neg (h a (by simp)), ih (fun c hc => h c (by simp [hc]))]
    simp
/-- lines, each ended by a line end -/
def ended (ls : List Bts) : Bts := ls.flatMap (fun l => l ++ [10])
theorem join_ended {ls : List Bts} (h : ls ≠ []) : joinT 10 ls ++ [10] = ended ls := by
  induction ls with
  | nil => exact absurd rfl h
  | cons a t ih =>
    cases t with
    | nil => simp [joinT, ended]
    | cons b t =>
      have := ih (by simp)
      show (a ++ 10 :: joinT 10 (b :: t)) ++ [10] = (a ++ [10]) ++ ended (b :: t)
      rw [← this]; simp
theorem lines_ended {ls : List Bts} (h : ∀ l ∈ ls, ∀ c ∈ l, c ≠ 10) : linesL (ended ls) = ls := by
  unfold linesL
  induction ls with
  | nil => rfl
  | cons a t ih =>
    have e : ended (a :: t) = a ++ 10 :: ended t := by simp [ended]
    rw [e, pl_run a (h a (by simp)), ih (fun l hl => h l (List.mem_cons_of_mem _ hl))]
    rfl
theorem hasT_no {p : Bts} {a : UInt8} {q : Bts} (hp : p = a :: q) (l : Bts) (h : ∀ c ∈ l, c ≠ a) : hasT p l = false := by
  induction l with
  | nil => rw [hp]; rfl
  | cons b t ih =>
    unfold hasT
    rw [ih (fun c hc => h c (by simp [hc])), Bool.or_false, hp]
    simp only [List.isPrefixOf, Bool.and_eq_false_imp]
    intro e
    exact absurd (by simpa using e : a = b).symm (h b (by simp))
theorem nest_digits {w : Bts} (h : ∀ c ∈ w, c ≠ 58) : nestT w = false := by
  unfold nestT
  rw [Bool.and_eq_false_iff]; left
  rw [Bool.eq_false_iff]
  intro hp
  obtain ⟨t, ht⟩ := List.isPrefixOf_iff_prefix.1 hp
  exact h 58 (by rw [← ht]; simp) rfl
theorem digit_108 {n : Int} (h : 0 ≤ n ∧ n ≤ 9999999) : ∀ c ∈ textL n, c ≠ 108 := by
  intro c hc
  rw [textL_dec h] at hc
  have hd := dec_dig _ c hc
  unfold isDig digB at hd
  rintro rfl
  revert hd; decide
theorem nest_part {p : PartT} (h : p.good) : nestT (partW p) = false := by
  obtain ⟨hk, hl, hr⟩ := h
  unfold partW
  split
  · unfold nestT; rw [Bool.and_eq_false_iff]; left; rfl
  · split
    · unfold nestT; rw [Bool.and_eq_false_iff]; left; rfl
    · unfold nestT
      rw [Bool.and_eq_false_iff]; right
      show hasT (tLock ++ [58]) (textL p.res ++ 58 :: textL p.len) = false
      refine hasT_no (q := [111, 99, 107, 58]) rfl _ (fun c hc => ?_)
      rcases List.mem_append.1 hc with g | g
      · exact digit_108 hr c g
      · rcases List.mem_cons.1 g with rfl | g
        · decide
        · exact digit_108 hl c g
theorem line_task {t : TaskT} (h : t.good) (r : RdT) (k : Nat) (hw : 2 ≤ r.want) : lineT r k (wordsL (taskW t)) = .ok { r with want := 3, tasksAt := r.tasksAt ++ [k], tasks := r.tasks ++ [t] } := by
  rw [words_task h]
  have hn : (t.name :: ([t.per, t.dl, t.prio, t.cl].map textL ++ t.parts.map partW)).any nestT = false := by
    rw [Bool.eq_false_iff]
    intro hx
    obtain ⟨w, hw, hx⟩ := List.any_eq_true.1 hx
    have : nestT w = false := by
      rcases List.mem_cons.1 hw with rfl | hw
      · exact nest_digits (fun c hc => (h.name.2 c hc).2.2.2)
      · rcases List.mem_append.1 hw with hw | hw
        · obtain ⟨n, hm, rfl⟩ := List.mem_map.1 hw
          exact nest_digits (fun c hc => ((textL_plain (h.nums n hm)).2 c hc).2.2.2)
        · obtain ⟨p, hm, rfl⟩ := List.mem_map.1 hw
          exact nest_part (h.parts p hm)
    rw [this] at hx; cases hx
  have hk : taskT (t.name :: ([t.per, t.dl, t.prio, t.cl].map textL ++ t.parts.map partW)) = .ok t := by
    unfold taskT
    rw [if_neg (by rw [hn]; decide)]
    have h1 : numsT [textL t.per, textL t.dl, textL t.prio, textL t.cl] = some [t.per, t.dl, t.prio, t.cl] := numsT_textL (l := [t.per, t.dl, t.prio, t.cl]) h.nums
    have h2 := partsT_partW h.parts
    show (match numsT [textL t.per, textL t.dl, textL t.prio, textL t.cl], partsT (t.parts.map partW) with
      | some [p, dl, q, cl], some parts => Except.ok (⟨t.name, p, dl, q, cl, parts⟩ : TaskT)
      | _, _ => Except.error (10 : Int)) = _
    rw [h1, h2]
  unfold lineT tTask
  dsimp only
  rw [if_neg (by rintro ⟨e, _⟩; exact absurd e (by decide)), if_neg (by rintro ⟨e, _⟩; exact absurd e (by decide)), if_neg (by rintro ⟨e, _⟩; exact absurd e (by decide)), if_pos ⟨rfl, hw⟩, hk]
theorem nums_words {h : Bts} {l : List Int} (hh : h ≠ [] ∧ ∀ c ∈ h, c ≠ 32 ∧ c ≠ 35) (hl : ∀ n ∈ l, 0 ≤ n ∧ n ≤ 9999999) : wordsL (numsW h l) = h :: l.map textL := by
  unfold numsW
  refine words_join (fun w hw => ?_)
  rcases List.mem_cons.1 hw with rfl | hw
  · exact hh
  · obtain ⟨n, hm, rfl⟩ := List.mem_map.1 hw
    exact ⟨(textL_plain (hl n hm)).1, fun c hc => ⟨((textL_plain (hl n hm)).2 c hc).1, ((textL_plain (hl n hm)).2 c hc).2.1⟩⟩
theorem nums_plain {h : Bts} {l : List Int} (hh : ∀ c ∈ h, c ≠ 10 ∧ c ≠ 35) (hl : ∀ n ∈ l, 0 ≤ n ∧ n ≤ 9999999) : ∀ c ∈ numsW h l, c ≠ 10 ∧ c ≠ 35 := by
  unfold numsW
  refine joinT_mem (p := fun c => c ≠ 10 ∧ c ≠ 35) (by decide) (fun w hw => ?_)
  rcases List.mem_cons.1 hw with rfl | hw
  · exact hh
  · obtain ⟨n, hm, rfl⟩ := List.mem_map.1 hw
    exact fun c hc => ⟨((textL_plain (hl n hm)).2 c hc).2.2.1, ((textL_plain (hl n hm)).2 c hc).2.1⟩
theorem task_plain {t : TaskT} (h : t.good) : ∀ c ∈ taskW t, c ≠ 10 ∧ c ≠ 35 := by
  unfold taskW
  refine joinT_mem (p := fun c => c ≠ 10 ∧ c ≠ 35) (by decide) (fun w hw => ?_)
  rcases List.mem_cons.1 hw with rfl | hw
  · refine nums_plain (fun c hc => ?_) h.nums
    rcases List.mem_append.1 hc with g | g
    · exact (by decide : ∀ c ∈ ([116, 97, 115, 107, 32] : Bts), c ≠ 10 ∧ c ≠ 35) c g
    · exact ⟨(h.name.2 c g).2.2.1, (h.name.2 c g).2.1⟩
  · obtain ⟨p, hm, rfl⟩ := List.mem_map.1 hw
    exact fun c hc => ⟨((partW_plain (h.parts p hm)).2 c hc).2.2, ((partW_plain (h.parts p hm)).2 c hc).2.1⟩
/-- what may be printed and read -/
structure RdT.good (r : RdT) : Prop where
  proto : r.proto = 1 ∨ r.proto = 2 ∨ r.proto = 3
  cores : r.cores ≠ [] ∧ ∀ n ∈ r.cores, 0 ≤ n ∧ n ≤ 9999999
  homes : ∀ n ∈ r.homes, 0 ≤ n ∧ n ≤ 9999999
  tasks : ∀ t ∈ r.tasks, t.good
def linesOf (r : RdT) : List Bts := ([112, 114, 111, 116, 111, 99, 111, 108, 32] ++ protoW r.proto) :: numsW [99, 111, 114, 101, 115] r.cores :: ((if r.homes = [] then [] else [numsW [104, 111, 109, 101, 115] r.homes]) ++ r.tasks.map taskW)
theorem print_lines (r : RdT) : printT r = ended (linesOf r) := join_ended (by simp [linesOf])
theorem linesOf_plain {r : RdT} (h : r.good) : ∀ l ∈ linesOf r, ∀ c ∈ l, c ≠ 10 ∧ c ≠ 35 := by
  intro l hl
  unfold linesOf at hl
  rcases List.mem_cons.1 hl with rfl | hl
  · intro c hc
    have : ∀ p : Int, (p = 1 ∨ p = 2 ∨ p = 3) → ∀ c ∈ ([112, 114, 111, 116, 111, 99, 111, 108, 32] : Bts) ++ protoW p, c ≠ 10 ∧ c ≠ 35 := by
      rintro p (rfl | rfl | rfl) <;> decide
    exact this _ h.proto c hc
  · rcases List.mem_cons.1 hl with rfl | hl
    · exact nums_plain (by decide) h.cores.2
    · rcases List.mem_append.1 hl with hl | hl
      · split at hl
        · simp at hl
        · rw [List.mem_singleton.1 hl]; exact nums_plain (by decide) h.homes
      · obtain ⟨t, ht, rfl⟩ := List.mem_map.1 hl
        exact task_plain (h.tasks t ht)
/-- alike but for where lines stand -/
def Alike (a b : RdT) : Prop := a.proto = b.proto ∧ a.cores = b.cores ∧ a.homes = b.homes ∧ a.tasks = b.tasks ∧ a.want = b.want
theorem Alike.bare {a b : RdT} (h : Alike a b) : a.bare = b.bare := by
  obtain ⟨h1, h2, h3, h4, h5⟩ := h
  unfold RdT.bare
  rw [h1, h2, h3, h4]
theorem lineT_alike {a b : RdT} (h : Alike a b) (j k : Nat) (l : List Bts) {a' : RdT} (hl : lineT a j l = .ok a') : ∃ b', lineT b k l = .ok b' ∧ Alike a' b' := by
  obtain ⟨h1, h2, h3, h4, h5⟩ := h
  cases l with
  | nil => exact ⟨b, rfl, by injection hl with hl; subst hl; exact ⟨h1, h2, h3, h4, h5⟩⟩
  | cons hd rest =>
    unfold lineT at hl ⊢
    dsimp only at hl ⊢
    rw [← h5]
    split at hl
    · rename_i g; rw [if_pos g]
      cases hp : protoT rest with
      | none => rw [hp] at hl; cases hl
      | some p => rw [hp] at hl; injection hl with hl; subst hl; exact ⟨_, rfl, rfl, h2, h3, h4, rfl⟩
    · rename_i g; rw [if_neg g]
      split at hl
      · rename_i g; rw [if_pos g]
        cases hp : someT rest with
        | none => rw [hp] at hl; cases hl
        | some p => rw [hp] at hl; injection hl with hl; subst hl; exact ⟨_, rfl, h1, rfl, h3, h4, rfl⟩
      · rename_i g; rw [if_neg g]
        split at hl
        · rename_i g; rw [if_pos g]
          cases hp : someT rest with
          | none => rw [hp] at hl; cases hl
          | some p => rw [hp] at hl; injection hl with hl; subst hl; exact ⟨_, rfl, h1, h2, rfl, h4, rfl⟩
        · rename_i g; rw [if_neg g]
          split at hl
          · rename_i g; rw [if_pos g]
            cases hp : taskT rest with
            | error e => rw [hp] at hl; cases hl
            | ok p => rw [hp] at hl; injection hl with hl; subst hl; exact ⟨_, rfl, h1, h2, h3, by simp [h4], rfl⟩
          · cases hl
/-- the same words line by line, blank lines between -/
inductive Like : List Bts → List Bts → Prop where
  | nil : Like [] []
  | line {a b : Bts} {xs ys : List Bts} : wordsL b = wordsL a → Like xs ys → Like (a :: xs) (b :: ys)
  | blank {b : Bts} {xs ys : List Bts} : wordsL b = [] → Like xs ys → Like xs (b :: ys)
theorem lines_like {xs ys : List Bts} (h : Like xs ys) : ∀ {a b a' : RdT} {j k : Nat}, Alike a b → linesT a j xs = .ok a' → ∃ b', linesT b k ys = .ok b' ∧ Alike a' b' := by
  induction h with
  | nil =>
    intro a b a' j k hab ha
    unfold linesT at ha ⊢
    rw [← hab.2.2.2.2]
    split at ha
    · cases ha
    · rename_i g
      injection ha with ha; subst ha
      exact ⟨b, by rw [if_neg g], hab⟩
  | line hw _ ih =>
    intro a b a' j k hab ha
    unfold linesT at ha ⊢
    rw [hw]
    split at ha
    · rename_i r' hr
      obtain ⟨b', hb, hab'⟩ := lineT_alike hab j k _ hr
      rw [hb]
      exact ih hab' ha
    · cases ha
  | blank hw _ ih =>
    intro a b a' j k hab ha
    conv => enter [1, b']; lhs; unfold linesT
    rw [hw]
    exact ih hab ha
theorem tasks_read {ts : List TaskT} (h : ∀ t ∈ ts, t.good) : ∀ (r : RdT) (k : Nat), 2 ≤ r.want → ∃ r', linesT r k (ts.map taskW) = .ok r' ∧ r'.bare = { r with tasks := r.tasks ++ ts }.bare := by
  induction ts with
  | nil =>
    intro r k hw
    refine ⟨r, ?_, by simp⟩
    unfold linesT
    rw [List.map_nil]
    dsimp only
    rw [if_neg (by omega)]
  | cons t ts ih =>
    intro r k hw
    obtain ⟨r', h1, h2⟩ := ih (fun t ht => h t (List.mem_cons_of_mem _ ht)) { r with want := 3, tasksAt := r.tasksAt ++ [k], tasks := r.tasks ++ [t] } (k + 1) (show 2 ≤ 3 by decide)
    refine ⟨r', ?_, by rw [h2]; simp [RdT.bare]⟩
    rw [List.map_cons]
    unfold linesT
    rw [line_task (h t (by simp)) r k hw]
    exact h1
theorem lines_read {r : RdT} (h : r.good) : ∃ r', linesT ⟨0, [], [], [], 0, 0, []⟩ 0 (linesOf r) = .ok r' ∧ r'.bare = r.bare := by
  have c1 : lineT ⟨0, [], [], [], 0, 0, []⟩ 0 (wordsL ([112, 114, 111, 116, 111, 99, 111, 108, 32] ++ protoW r.proto)) = .ok ⟨r.proto, [], [], [], 1, 0, []⟩ := by
    rcases h.proto with e | e | e <;> rw [e] <;> rfl
  have c2 : lineT ⟨r.proto, [], [], [], 1, 0, []⟩ 1 (wordsL (numsW [99, 111, 114, 101, 115] r.cores)) = .ok ⟨r.proto, r.cores, [], [], 2, 1, []⟩ := by
    rw [nums_words (by decide) h.cores.2]
    unfold lineT
    dsimp only
    have hs : someT (r.cores.map textL) = some r.cores := by
      unfold someT
      rw [numsT_textL h.cores.2]
      cases hc : r.cores with
      | nil => exact absurd hc h.cores.1
      | cons a t => rfl
    rw [if_neg (by rintro ⟨e, _⟩; exact absurd e (by decide)), if_pos (by decide), hs]
  unfold linesOf
  by_cases hh : r.homes = []
  · rw [if_pos hh, List.nil_append]
    obtain ⟨r', h1, h2⟩ := tasks_read h.tasks ⟨r.proto, r.cores, [], [], 2, 1, []⟩ 2 (show 2 ≤ 2 by decide)
    refine ⟨r', ?_, by rw [h2]; simp [RdT.bare, hh]⟩
    unfold linesT
    rw [c1]
    dsimp only
    unfold linesT
    rw [c2]
    exact h1
  · rw [if_neg hh]
    have c3 : lineT ⟨r.proto, r.cores, [], [], 2, 1, []⟩ 2 (wordsL (numsW [104, 111, 109, 101, 115] r.homes)) = .ok ⟨r.proto, r.cores, r.homes, [], 3, 1, []⟩ := by
      rw [nums_words (by decide) h.homes]
      unfold lineT
      dsimp only
      have hs : someT (r.homes.map textL) = some r.homes := by
        unfold someT
        rw [numsT_textL h.homes]
        cases hc : r.homes with
        | nil => exact absurd hc hh
        | cons a t => rfl
      rw [if_neg (by rintro ⟨e, _⟩; exact absurd e (by decide)), if_neg (by rintro ⟨e, _⟩; exact absurd e (by decide)), if_pos (by decide), hs]
    obtain ⟨r', h1, h2⟩ := tasks_read h.tasks ⟨r.proto, r.cores, r.homes, [], 3, 1, []⟩ 3 (show 2 ≤ 3 by decide)
    refine ⟨r', ?_, by rw [h2]; simp [RdT.bare]⟩
    unfold linesT
    rw [c1]
    dsimp only
    unfold linesT
    rw [c2]
    dsimp only
    rw [List.singleton_append]
    unfold linesT
    rw [c3]
    exact h1
/-- what is printed is read -/
theorem read_print {r : RdT} (h : r.good) : ∃ r', readT (printT r) = .ok r' ∧ r'.bare = r.bare := by
  have hp := linesOf_plain h
  unfold readT
  rw [print_lines, lines_ended (fun l hl c hc => (hp l hl c hc).1)]
  exact lines_read h
end Go.Proofs.YtlmliefkhidpnaaGreatDoor

namespace Go.Proofs.YtlmliefkhidpnaaGreatDoor
open Go.ChangeShapes Go.WideShapes Go.ChangeAt Go.RowKit
set_option linter.unusedVariables false
set_option linter.unusedSimpArgs false
def RdEq (r : RdT) (s : SetR) (want co : Int) (zs : List Int) : Prop := s.bare = r.bare ∧ want = (r.want : Int) ∧ co = (r.coresAt : Int) ∧ zs = r.tasksAt.map (fun (n : Nat) => (n : Int))
def LineRes (r : Except Int RdT) (s : SetR) (want co : Int) (zs : List Int) (e : Ending) : Prop := match r with
  | .ok r' => e = .returned (.int .i64 0) ∧ RdEq r' s want co zs
  | .error x => e = .returned (.int .i64 x) ∧ x ≠ 0
def ReadPost (B : Nat) (W : World) (g : Nat) (r : Except Int RdT) (e : Ending) (w' : World) : Prop :=
  Below B W w' ∧ ∃ s want co A c zs, Rdr B w' g s want co A c zs ∧ LineRes r s want co zs e
theorem fp_cut {A : Option Addr} {c k j : Nat} (h : j ∈ fp (cutA A c k)) : j ∈ fp A := by
  unfold cutA at h
  split at h
  · exact h
  · cases A with
    | none => simp [fp] at h
    | some a =>
      simp only [Option.map_some, fp, List.mem_singleton] at h ⊢
      rw [h]; cases a; unfold Addr.add; split <;> rfl
theorem StrsAt.turned {F : List Nat} {w w' : World} {A : Option Addr} {ls : List ByteArray} (h : StrsAt w A ls) (ht : Turned F w w') (hF : ∀ k ∈ fp A, k ∉ F) : StrsAt w' A ls := by
  rcases h with h | ⟨b, off, rfl, hc⟩
  · exact .inl h
  · exact .inr ⟨b, off, rfl, fun i hi => ht.cell (hc i hi) (hF b (by simp [fp]))⟩
section
variable {B : Nat} {w w' : World} {g : Nat} {s : SetR} {want co : Int} {A : Option Addr} {c : Nat} {zs : List Int}
theorem Rdr.setWant (h : Rdr B w g s want co A c zs) (x : Int) : Rdr B (w.setCell ⟨g, 4, none⟩ (.int .i64 x)) g s x co A c zs := ⟨by have := h.bk.put 4 (.int .i64 x); simpa [rdC] using this, rd_put h.rows 4 _⟩
theorem Rdr.setAt (h : Rdr B w g s want co A c zs) (x : Int) : Rdr B (w.setCell ⟨g, 5, none⟩ (.int .i64 x)) g s want x A c zs := ⟨by have := h.bk.put 5 (.int .i64 x); simpa [rdC] using this, rd_put h.rows 5 _⟩
theorem Rdr.setProto (h : Rdr B w g s want co A c zs) {p : Int} (hp : I64 p) : Rdr B (w.setCell ⟨g, 0, none⟩ (.int .i64 p)) g { s with proto := p } want co A c zs := ⟨by have := h.bk.put 0 (.int .i64 p); simpa [rdC] using this, (rd_put h.rows 0 _).setProto hp⟩
theorem Rdr.setCores (h : Rdr B w g s want co A c zs) {C : Option Addr} {cc : Nat} {cs : List Int} (hi : IntsOk w C cc cs) (hC : ∀ k ∈ fp C, (B ≤ k ∧ k < w.heap.size) ∧ k ≠ g ∧ k ∉ fp s.ta ∧ k ∉ fp A) : Rdr B (w.setCell ⟨g, 1, none⟩ (.slice C cs.length cc)) g { s with ca := C, cc := cc, cores := cs } want co A c zs :=
  ⟨by have := h.bk.put 1 (.slice C cs.length cc); simpa [rdC] using this, rd_put (h.rows.setCores hi hC) 1 _⟩
theorem Rdr.setHomes (h : Rdr B w g s want co A c zs) {C : Option Addr} {cc : Nat} {cs : List Int} (hi : IntsOk w C cc cs) (hC : ∀ k ∈ fp C, (B ≤ k ∧ k < w.heap.size) ∧ k ≠ g ∧ k ∉ fp s.ta ∧ k ∉ fp A) : Rdr B (w.setCell ⟨g, 2, none⟩ (.slice C cs.length cc)) g { s with ha := C, hc := cc, homes := cs } want co A c zs :=
  ⟨by have := h.bk.put 2 (.slice C cs.length cc); simpa [rdC] using this, rd_put (h.rows.setHomes hi hC) 2 _⟩
theorem Rdr.addAt (h : Rdr B w g s want co A c zs) {A' : Option Addr} {c' : Nat} {x : Int} (ha : App B 3 1 w A A' (zs.length + 1) c' (zs.map (Value.int .i64) ++ [.int .i64 x]) w') : Rdr B ((w'.setCell ⟨g, 4, none⟩ (.int .i64 3)).setCell ⟨g, 6, none⟩ (.slice A' (zs.length + 1) c')) g s 3 co A' c' (zs ++ [x]) :=
  ⟨by
    have := ((h.bk.turned ha.turned (fun hm => (h.rows.dA g hm).1 rfl)).put 4 (.int .i64 3)).put 6 (.slice A' (zs.length + 1) c')
    simpa [rdC] using this, rd_put (rd_put (h.rows.addAt ha) 4 _) 6 _⟩
theorem Rws.fresh {v u : World} (h : Rws B v g s A c zs) (hb : Below v.heap.size v u) {C : Option Addr} {n cc : Nat} {cs : List Int} (ho : OwnN v.heap.size u C n cc cs) : ∀ k ∈ fp C, (B ≤ k ∧ k < u.heap.size) ∧ k ≠ g ∧ k ∉ fp s.ta ∧ k ∉ fp A := fun k hk => by
  have h1 := own_fp ho.own k hk
  have h2 := h.gB
  refine ⟨⟨by omega, h1.2⟩, by omega, fun hm => ?_, fun hm => ?_⟩
  · have := (own_fp h.tasks.own k hm).2; omega
  · have := (own_fp h.ats.own k hm).2; omega
end
theorem i64_small {x : Int} (h : 0 ≤ x ∧ x ≤ 9999999) : I64 x := by unfold I64; omega
theorem protoOf_bd (l : List Bts) : I64 (protoOf l).1 := by
  unfold protoOf
  cases h : protoT l with
  | none => unfold I64; decide
  | some p =>
    unfold protoT at h
    split at h
    · split at h
      · injection h with h; subst h; unfold I64; decide
      · split at h
        · injection h with h; subst h; unfold I64; decide
        · split at h
          · injection h with h; subst h; unfold I64; decide
          · cases h
    · cases h
theorem lineT_proto (r : RdT) (at_ : Nat) (rs : List Bts) (hw : r.want = 0) : lineT r at_ ([112, 114, 111, 116, 111, 99, 111, 108] :: rs) = if (protoOf rs).2 = true then .ok { r with want := 1, proto := (protoOf rs).1 } else .error 10 := by
  unfold lineT
  dsimp only
  rw [if_pos ⟨rfl, hw⟩]
  unfold protoOf
  cases protoT rs <;> rfl
theorem lineT_cores (r : RdT) (at_ : Nat) (rs : List Bts) (zs : List Int) (ok : Bool) (hw : r.want = 1) (hv : someT rs = if ok = true then some zs else none) : lineT r at_ ([99, 111, 114, 101, 115] :: rs) = if ok = true then .ok { r with want := 2, coresAt := at_, cores := zs } else .error 10 := by
  unfold lineT
  dsimp only
  rw [if_neg (by rintro ⟨h, _⟩; exact absurd h (by decide)), if_pos ⟨rfl, hw⟩, hv]
  cases ok <;> rfl
theorem lineT_homes (r : RdT) (at_ : Nat) (rs : List Bts) (zs : List Int) (ok : Bool) (hw : r.want = 2) (hv : someT rs = if ok = true then some zs else none) : lineT r at_ ([104, 111, 109, 101, 115] :: rs) = if ok = true then .ok { r with want := 3, homes := zs } else .error 10 := by
  unfold lineT
  dsimp only
  rw [if_neg (by rintro ⟨h, _⟩; exact absurd h (by decide)), if_neg (by rintro ⟨h, _⟩; exact absurd h (by decide)), if_pos ⟨rfl, hw⟩, hv]
  cases ok <;> rfl
theorem lineT_task (r : RdT) (at_ : Nat) (rs : List Bts) (hw : 2 ≤ r.want) : lineT r at_ ([116, 97, 115, 107] :: rs) = match taskT rs with | .ok t => .ok { r with want := 3, tasksAt := r.tasksAt ++ [at_], tasks := r.tasks ++ [t] } | .error e => .error e := by
  unfold lineT
  dsimp only
  rw [if_neg (by rintro ⟨h, _⟩; exact absurd h (by decide)), if_neg (by rintro ⟨h, _⟩; exact absurd h (by decide)), if_neg (by rintro ⟨h, _⟩; exact absurd h (by decide)), if_pos ⟨rfl, hw⟩]
  cases taskT rs <;> rfl
theorem lineT_no (r : RdT) (at_ : Nat) (h : Bts) (rs : List Bts) (h0 : ¬ (h = [112, 114, 111, 116, 111, 99, 111, 108] ∧ r.want = 0)) (h1 : ¬ (h = [99, 111, 114, 101, 115] ∧ r.want = 1)) (h2 : ¬ (h = [104, 111, 109, 101, 115] ∧ r.want = 2)) (h3 : ¬ (h = [116, 97, 115, 107] ∧ 2 ≤ r.want)) : lineT r at_ (h :: rs) = .error 10 := by
  unfold lineT
  dsimp only
  rw [if_neg h0, if_neg h1, if_neg h2, if_neg h3]
theorem taskT_err {l : List Bts} {x : Int} (h : taskT l = .error x) : x ≠ 0 := by
  unfold taskT at h
  split at h
  · injection h with h; omega
  · split at h
    · split at h
      · cases h
      · injection h with h; omega
    · injection h with h; omega
set_option maxHeartbeats 4000000 in
theorem read_any (B : Nat) (g : Nat) (r : RdT) (s : SetR) (want co : Int) (A : Option Addr) (c : Nat) (zs : List Int) (at_ : Nat) (L : Option Addr) (cl : Nat) (x : ByteArray) (rs : List ByteArray) (m : Int) (W w : World) (hR : Rdr B w g s want co A c zs) (hE : RdEq r s want co zs) (hBW : B ≤ W.heap.size) (hb : Below B W w)
    (h0B : 0 < B) (hm : W.cell? ⟨0, 0, none⟩ = some (.int .i64 m)) (hs : StrsAt w L (x :: rs)) (hl : rs.length ≤ 99999) (hcl : rs.length + 1 ≤ cl) (hz : ∀ y ∈ x :: rs, y.size ≤ 90000) (hts : s.tasks.length ≤ 100000) (hzs : zs.length ≤ 100000) (hat : at_ ≤ 100000) (hLd : ∀ k ∈ fp L, k ≠ g ∧ k ∉ fp s.ta ∧ k ∉ fp A) :
    Calls Tryz.prog 36 #[.pointer (some ⟨g, 0, none⟩), .int .i64 at_, .slice L (rs.length + 1) cl] w (ReadPost B W g (lineT r at_ ((x :: rs).map bl))) := by
  obtain ⟨M, hM⟩ : ∃ M, rs.length = M := ⟨_, rfl⟩
  have HM := hidp hM
  have HRn : Hid (∀ n, Rdr B (w.drewN n) g s want co A c zs) := hidp (fun n => hR.over (below_drewN (Below.refl _ w) n))
  have HBn : Hid (∀ n, Below B W (w.drewN n)) := hidp (fun n => below_drewN hb n)
  have HW3 : Hid (want = (r.want : Int)) := hidp hE.2.1
  obtain ⟨c0, c1, c2, c3, c4, c5, c6, fz⟩ := hR.cells
  have z0 := fz 0
  have z1 := fz 1
  have z2 := fz 2
  have z4 := fz 4
  have z5 := fz 5
  have z6 := fz 6
  have HSn : Hid (∀ (F : List Nat) (w' : World), Turned F w w' → (∀ k ∈ fp L, k ∉ F) → StrsAt w' (cutA L cl 1) rs) := hidp (fun F w' h1 h2 => (strs_from hs (by simpa using hcl) 1).turned h1 (fun k hk => h2 k (fp_cut hk)))
  clear fz
  have S1 : StrsAt w (cutA L cl 1) rs := strs_from hs (by simpa using hcl) 1
  have cx0 : ∃ b off, L = some ⟨b, off, none⟩ ∧ w.cell? ⟨b, off, none⟩ = some (.string x) := by
    obtain ⟨b, off, e, hc⟩ := hs.resolve_left (by simp)
    exact ⟨b, off, e, hc 0 (by simp)⟩
  rw [hM] at hl hcl ⊢
  have hL1d : ∀ k ∈ fp (cutA L cl 1), (k ≠ g ∧ k ∉ fp s.ta ∧ k ∉ fp A) ∧ k < w.heap.size := fun k hk => ⟨hLd k (fp_cut hk), by
    obtain ⟨b, off, e, hc⟩ := cx0
    have := fp_cut hk
    rw [e] at this
    simp [fp] at this
    rw [this]; exact cell_lt hc⟩
  have e1 : ∀ u : World, (Instr.slice 38 (.slice L (M + 1) cl) (some (.int .i64 1)) none none).run Tryz.prog u = .ok (.slice (cutA L cl 1) M (cl - 1)) u := fun u => strs_low L (M + 1) cl 1 (by omega) (by omega) u
  obtain ⟨L1, hL1⟩ : ∃ L1, cutA L cl 1 = L1 := ⟨_, rfl⟩
  rw [hL1] at S1 e1 hL1d
  obtain ⟨b, off, rfl, cx⟩ := cx0
  have HS1 := hidp S1
  rw [hL1] at HSn
  have HSt := HSn
  have HL1 := hidp hL1d
  have HR := hidp hR
  have HB := hidp hb
  have HE := hidp hE
  have HMx := hidp hm
  have HX := hidp (hLd b (by simp [fp]))
  have HZ := hidp (fun y (hy : y ∈ rs) => hz y (List.mem_cons_of_mem _ hy))
  have b1 : (0 : Int) < (M : Int) + 1 := by omega
  have q0 := toList_lit x [112, 114, 111, 116, 111, 99, 111, 108]
  have q1 := toList_lit x [99, 111, 114, 101, 115]
  have q2 := toList_lit x [104, 111, 109, 101, 115]
  have q3 := toList_lit x [116, 97, 115, 107]
  clear S1 hL1 hL1d hR hb hE hm hs hz hLd hM
  by_cases d0 : bl x = [112, 114, 111, 116, 111, 99, 111, 108]
  · rw [d0] at q0 q1 q2 q3
    have f0 : (x.toList == [112, 114, 111, 116, 111, 99, 111, 108]) = true := by rw [q0]; decide
    have f1 : (x.toList == [99, 111, 114, 101, 115]) = false := by rw [q1]; decide
    have f2 : (x.toList == [104, 111, 109, 101, 115]) = false := by rw [q2]; decide
    have f3 : (x.toList == [116, 97, 115, 107]) = false := by rw [q3]; decide
    clear q0 q1 q2 q3
    by_cases e0 : want = 0
    · have HLT : Hid (lineT r at_ ((x :: rs).map bl) = if (protoOf (rs.map bl)).2 = true then .ok { r with want := 1, proto := (protoOf (rs.map bl)).1 } else .error 10) := hidp (by rw [List.map_cons, d0]; exact lineT_proto r at_ _ (by have := HW3.out; omega))
      have HPI := hidp (protoOf_bd (rs.map bl))
      have CP : Hid (∀ n, Calls Tryz.prog 54 #[.slice L1 M (cl - 1)] ((w.drewN n).setCell ⟨g, 4, none⟩ (.int .i64 1)) fun e w' => e = .returned (.tuple #[.int .i64 (protoOf (rs.map bl)).1, .bool (protoOf (rs.map bl)).2]) ∧ (w.drewN n).setCell ⟨g, 4, none⟩ (.int .i64 1) = w') := hidp (fun n => by
        have := proto_any L1 (cl - 1) rs ((w.drewN n).setCell ⟨g, 4, none⟩ (.int .i64 1)) (HSt.out [g] _ (((Turned.refl [g] w).drewN n).setCell (.inl (by simp)) _) (by simpa [fp] using HX.out.1)) (by rw [HM.out]; omega)
        rwa [HM.out] at this)
      obtain ⟨⟨p, o⟩, HP⟩ : ∃ v, Hid (protoOf (rs.map bl) = v) := ⟨_, hidp rfl⟩
      rw [HP.out] at HLT HPI CP
      dsimp only at HLT HPI CP
      have HRf : Hid (∀ n, Rdr B (((w.drewN n).setCell ⟨g, 4, none⟩ (.int .i64 1)).setCell ⟨g, 0, none⟩ (.int .i64 p)) g { s with proto := p } 1 co A c zs) := hidp (fun n => ((HRn.out n).setWant 1).setProto HPI.out)
      have HBf : Hid (∀ n, Below B W (((w.drewN n).setCell ⟨g, 4, none⟩ (.int .i64 1)).setCell ⟨g, 0, none⟩ (.int .i64 p))) := hidp (fun n => put_below (put_below (HBn.out n) hBW HR.out.rows.gB.1) hBW HR.out.rows.gB.1)
      have f9 : (want == 0) = true := by simpa using e0
      clear d0 HP e0
      go_enter Tryz.func36, Tryz.ntmps36
      go_wp2_with fail
      go_quiet (fail)
      go_wp2_with fail
      refine (CP.out _).mono ?_
      rintro e u ⟨rfl, rfl⟩
      cases o with
      | true =>
        go_wp2_with fail
        go_ret
        refine ⟨HBf.out _, _, _, _, _, _, _, HRf.out _, ?_⟩
        rw [HLT.out, if_pos (by trivial)]
        obtain ⟨h1, h2, h3, h4⟩ := HE.out
        refine ⟨rfl, ?_, rfl, h3, h4⟩
        simp only [SetR.bare, RdT.bare, SetR.mk.injEq] at h1 ⊢
        simp [h1]
      | false =>
        go_wp2_with fail
        go_ret
        refine ⟨HBf.out _, _, _, _, _, _, _, HRf.out _, ?_⟩
        rw [HLT.out, if_neg (by decide)]
        exact ⟨rfl, by decide⟩
    · have f9 : (want == 0) = false := by simpa using e0
      have HLT : Hid (lineT r at_ ((x :: rs).map bl) = .error 10) := hidp (by
        rw [List.map_cons, d0]
        exact lineT_no r at_ _ _ (by rintro ⟨_, h⟩; have := HW3.out; omega) (by rintro ⟨h, _⟩; exact absurd h (by decide)) (by rintro ⟨h, _⟩; exact absurd h (by decide)) (by rintro ⟨h, _⟩; exact absurd h (by decide)))
      clear e0 d0
      go_enter Tryz.func36, Tryz.ntmps36
      go_wp2_with fail
      go_quiet (fail)
      go_wp2_with fail
      go_ret
      exact ⟨HBn.out _, s, want, co, A, c, zs, HRn.out _, by rw [HLT.out]; exact ⟨rfl, by decide⟩⟩
  by_cases d1 : bl x = [99, 111, 114, 101, 115]
  · rw [d1] at q0 q1 q2 q3
    have f0 : (x.toList == [112, 114, 111, 116, 111, 99, 111, 108]) = false := by rw [q0]; decide
    have f1 : (x.toList == [99, 111, 114, 101, 115]) = true := by rw [q1]; decide
    have f2 : (x.toList == [104, 111, 109, 101, 115]) = false := by rw [q2]; decide
    have f3 : (x.toList == [116, 97, 115, 107]) = false := by rw [q3]; decide
    clear q0 q1 q2 q3
    by_cases e0 : want = 1
    · have CP : Hid (∀ n, Calls Tryz.prog 55 #[.slice L1 M (cl - 1)] (((w.drewN n).setCell ⟨g, 4, none⟩ (.int .i64 2)).setCell ⟨g, 5, none⟩ (.int .i64 at_)) (SomePost (((w.drewN n).setCell ⟨g, 4, none⟩ (.int .i64 2)).setCell ⟨g, 5, none⟩ (.int .i64 at_)) (rs.map bl))) := hidp (fun n => by
        have := some_any L1 (cl - 1) rs (((w.drewN n).setCell ⟨g, 4, none⟩ (.int .i64 2)).setCell ⟨g, 5, none⟩ (.int .i64 at_)) (HSt.out [g] _ ((((Turned.refl [g] w).drewN n).setCell (.inl (by simp)) _).setCell (.inl (by simp)) _) (by simpa [fp] using HX.out.1)) (by rw [HM.out]; omega) (fun y hy => Nat.le_trans (HZ.out y hy) (by omega))
        rwa [HM.out] at this)
      have HRs : Hid (∀ n, Rdr B (((w.drewN n).setCell ⟨g, 4, none⟩ (.int .i64 2)).setCell ⟨g, 5, none⟩ (.int .i64 at_)) g s 2 at_ A c zs) := hidp (fun n => ((HRn.out n).setWant 2).setAt at_)
      have HBs : Hid (∀ n, Below B W (((w.drewN n).setCell ⟨g, 4, none⟩ (.int .i64 2)).setCell ⟨g, 5, none⟩ (.int .i64 at_))) := hidp (fun n => put_below (put_below (HBn.out n) hBW HR.out.rows.gB.1) hBW HR.out.rows.gB.1)
      have f9 : (want == 1) = true := by simpa using e0
      have HE0 := hidp e0
      have HD := hidp d1
      clear e0 d1
      go_enter Tryz.func36, Tryz.ntmps36
      go_wp2_with fail
      go_quiet (fail)
      go_wp2_with fail
      refine (CP.out _).mono ?_
      rintro e u ⟨C, cc, cs, o, rfl, ho, hbu, hn, hln, hv⟩
      have HRu := hidp ((HRs.out _).over hbu)
      have HBu := hidp ((HBs.out _).trans (hbu.mono (Nat.le_trans hBW (HBs.out _).size)))
      have HC := hidp ((HRs.out _).rows.fresh hbu ho)
      have HI := hidp (ho.ok (fun n hm => i64_small (hn n hm)))
      have HLT : Hid (lineT r at_ ((x :: rs).map bl) = if o = true then .ok { r with want := 2, coresAt := at_, cores := cs } else .error 10) := hidp (by rw [List.map_cons, HD.out]; exact lineT_cores r at_ _ cs o (by have := HW3.out; have := HE0.out; omega) hv)
      have HRf : Hid (Rdr B (u.setCell ⟨g, 1, none⟩ (.slice C cs.length cc)) g { s with ca := C, cc := cc, cores := cs } 2 at_ A c zs) := hidp (HRu.out.setCores HI.out HC.out)
      have HBf := hidp (put_below (i := 1) (v := .slice C cs.length cc) HBu.out hBW HR.out.rows.gB.1)
      obtain ⟨x0, x1, x2, x3, x4, x5, x6, fx⟩ := HRu.out.cells
      have y1 := fx 1
      clear ho hbu hn hln hv HC HI fx HRs HBs CP
      cases o with
      | true =>
        go_wp2_with fail
        go_ret
        refine ⟨HBf.out, _, _, _, _, _, _, HRf.out, ?_⟩
        rw [HLT.out, if_pos (by trivial)]
        obtain ⟨h1, h2, h3, h4⟩ := HE.out
        refine ⟨rfl, ?_, rfl, rfl, h4⟩
        simp only [SetR.bare, RdT.bare, SetR.mk.injEq] at h1 ⊢
        simp [h1]
      | false =>
        go_wp2_with fail
        go_ret
        refine ⟨HBf.out, _, _, _, _, _, _, HRf.out, ?_⟩
        rw [HLT.out, if_neg (by decide)]
        exact ⟨rfl, by decide⟩
    · have f9 : (want == 1) = false := by simpa using e0
      have HLT : Hid (lineT r at_ ((x :: rs).map bl) = .error 10) := hidp (by
        rw [List.map_cons, d1]
        exact lineT_no r at_ _ _ (by rintro ⟨h, _⟩; exact absurd h (by decide)) (by rintro ⟨_, h⟩; have := HW3.out; omega) (by rintro ⟨h, _⟩; exact absurd h (by decide)) (by rintro ⟨h, _⟩; exact absurd h (by decide)))
      clear e0 d1
      go_enter Tryz.func36, Tryz.ntmps36
      go_wp2_with fail
      go_quiet (fail)
      go_wp2_with fail
      go_ret
      exact ⟨HBn.out _, s, want, co, A, c, zs, HRn.out _, by rw [HLT.out]; exact ⟨rfl, by decide⟩⟩
  by_cases d2 : bl x = [104, 111, 109, 101, 115]
  · rw [d2] at q0 q1 q2 q3
    have f0 : (x.toList == [112, 114, 111, 116, 111, 99, 111, 108]) = false := by rw [q0]; decide
    have f1 : (x.toList == [99, 111, 114, 101, 115]) = false := by rw [q1]; decide
    have f2 : (x.toList == [104, 111, 109, 101, 115]) = true := by rw [q2]; decide
    have f3 : (x.toList == [116, 97, 115, 107]) = false := by rw [q3]; decide
    clear q0 q1 q2 q3
    by_cases e0 : want = 2
    · have CP : Hid (∀ n, Calls Tryz.prog 55 #[.slice L1 M (cl - 1)] ((w.drewN n).setCell ⟨g, 4, none⟩ (.int .i64 3)) (SomePost ((w.drewN n).setCell ⟨g, 4, none⟩ (.int .i64 3)) (rs.map bl))) := hidp (fun n => by
        have := some_any L1 (cl - 1) rs ((w.drewN n).setCell ⟨g, 4, none⟩ (.int .i64 3)) (HSt.out [g] _ (((Turned.refl [g] w).drewN n).setCell (.inl (by simp)) _) (by simpa [fp] using HX.out.1)) (by rw [HM.out]; omega) (fun y hy => Nat.le_trans (HZ.out y hy) (by omega))
        rwa [HM.out] at this)
      have HRs : Hid (∀ n, Rdr B ((w.drewN n).setCell ⟨g, 4, none⟩ (.int .i64 3)) g s 3 co A c zs) := hidp (fun n => (HRn.out n).setWant 3)
      have HBs : Hid (∀ n, Below B W ((w.drewN n).setCell ⟨g, 4, none⟩ (.int .i64 3))) := hidp (fun n => put_below (HBn.out n) hBW HR.out.rows.gB.1)
      have f9 : (want == 2) = true := by simpa using e0
      have HE0 := hidp e0
      have HD := hidp d2
      clear e0 d2
      go_enter Tryz.func36, Tryz.ntmps36
      go_wp2_with fail
      go_quiet (fail)
      go_wp2_with fail
      refine (CP.out _).mono ?_
      rintro e u ⟨C, cc, cs, o, rfl, ho, hbu, hn, hln, hv⟩
      have HRu := hidp ((HRs.out _).over hbu)
      have HBu := hidp ((HBs.out _).trans (hbu.mono (Nat.le_trans hBW (HBs.out _).size)))
      have HC := hidp ((HRs.out _).rows.fresh hbu ho)
      have HI := hidp (ho.ok (fun n hm => i64_small (hn n hm)))
      have HLT : Hid (lineT r at_ ((x :: rs).map bl) = if o = true then .ok { r with want := 3, homes := cs } else .error 10) := hidp (by rw [List.map_cons, HD.out]; exact lineT_homes r at_ _ cs o (by have := HW3.out; have := HE0.out; omega) hv)
      have HRf : Hid (Rdr B (u.setCell ⟨g, 2, none⟩ (.slice C cs.length cc)) g { s with ha := C, hc := cc, homes := cs } 3 co A c zs) := hidp (HRu.out.setHomes HI.out HC.out)
      have HBf := hidp (put_below (i := 2) (v := .slice C cs.length cc) HBu.out hBW HR.out.rows.gB.1)
      obtain ⟨x0, x1, x2, x3, x4, x5, x6, fx⟩ := HRu.out.cells
      have y2 := fx 2
      clear ho hbu hn hln hv HC HI fx HRs HBs CP
      cases o with
      | true =>
        go_wp2_with fail
        go_ret
        refine ⟨HBf.out, _, _, _, _, _, _, HRf.out, ?_⟩
        rw [HLT.out, if_pos (by trivial)]
        obtain ⟨h1, h2, h3, h4⟩ := HE.out
        refine ⟨rfl, ?_, rfl, h3, h4⟩
        simp only [SetR.bare, RdT.bare, SetR.mk.injEq] at h1 ⊢
        simp [h1]
      | false =>
        go_wp2_with fail
        go_ret
        refine ⟨HBf.out, _, _, _, _, _, _, HRf.out, ?_⟩
        rw [HLT.out, if_neg (by decide)]
        exact ⟨rfl, by decide⟩
    · have f9 : (want == 2) = false := by simpa using e0
      have HLT : Hid (lineT r at_ ((x :: rs).map bl) = .error 10) := hidp (by
        rw [List.map_cons, d2]
        exact lineT_no r at_ _ _ (by rintro ⟨h, _⟩; exact absurd h (by decide)) (by rintro ⟨h, _⟩; exact absurd h (by decide)) (by rintro ⟨_, h⟩; have := HW3.out; omega) (by rintro ⟨h, _⟩; exact absurd h (by decide)))
      clear e0 d2
      go_enter Tryz.func36, Tryz.ntmps36
      go_wp2_with fail
      go_quiet (fail)
      go_wp2_with fail
      go_ret
      exact ⟨HBn.out _, s, want, co, A, c, zs, HRn.out _, by rw [HLT.out]; exact ⟨rfl, by decide⟩⟩
  by_cases d3 : bl x = [116, 97, 115, 107]
  · rw [d3] at q0 q1 q2 q3
    have f0 : (x.toList == [112, 114, 111, 116, 111, 99, 111, 108]) = false := by rw [q0]; decide
    have f1 : (x.toList == [99, 111, 114, 101, 115]) = false := by rw [q1]; decide
    have f2 : (x.toList == [104, 111, 109, 101, 115]) = false := by rw [q2]; decide
    have f3 : (x.toList == [116, 97, 115, 107]) = true := by rw [q3]; decide
    clear q0 q1 q2 q3
    by_cases e0 : 2 ≤ want
    · obtain ⟨i0, hi0, hy0, hy1, hy2⟩ := info_parts infoN
      have HOW : Hid (lineT r at_ ((x :: rs).map bl) = match taskT (rs.map bl) with | .ok t => .ok { r with want := 3, tasksAt := r.tasksAt ++ [at_], tasks := r.tasks ++ [t] } | .error e => .error e) := hidp (by rw [List.map_cons, d3]; exact lineT_task r at_ _ (by have := HW3.out; omega))
      have N2 : Hid (zs.length + 1 ≤ maxLen) := hidp (by unfold maxLen; omega)
      have T2 : Hid ((zs.length + 1) * 8 ≤ 140737488355328) := hidp (by omega)
      have O2 := hidp (num_one [(at_ : Int)])
      have HRa : Hid (∀ n, Rdr B ((w.drewN n).alloc (.cells #[.int .i64 at_] 3)) g s want co A c zs) := hidp (fun n => (HRn.out n).over ((Below.refl _ _).alloc (Nat.le_refl _) _))
      have HBa : Hid (∀ n, Below B W ((w.drewN n).alloc (.cells #[.int .i64 at_] 3))) := hidp (fun n => (HBn.out n).alloc (Nat.le_trans hBW (HBn.out n).size) _)
      have HS2 : Hid (∀ n, Lies (w.heap.size + 1) ((w.drewN n).alloc (.cells #[.int .i64 at_] 3)) (some ⟨w.heap.size, 0, none⟩) [.int .i64 at_]) := hidp (fun n => new_liesW (w.drewN n) [.int .i64 at_] 3)
      have HZa : Hid (∀ n, B ≤ ((w.drewN n).alloc (.cells #[.int .i64 at_] 3)).heap.size) := hidp (fun n => Nat.le_trans hBW (HBa.out n).size)
      obtain ⟨tt, HTT⟩ : ∃ tt, Hid (taskT (rs.map bl) = tt) := ⟨_, hidp rfl⟩
      have f9 : decide (2 ≤ want) = true := by simpa using e0
      clear d3
      go_enter Tryz.func36, Tryz.ntmps36
      go_wp2_with fail
      go_quiet (fail)
      go_wp2_with (at_builtin; refine wpList_app2 _ rfl (.tmp 100) (.tmp 102) 22 rfl B 3 i0 _ 1 8 Tryz.underlying22 hi0 hy0 hy1 hy2 rfl (by decide) A zs.length c _ rfl (HRa.out _).rows.ats.own _ _ 1 1 [.int .i64 at_] rfl (by simp) rfl (HS2.out _) O2.out N2.out T2.out (HZa.out _) ?_; intro A9 c9 w6 happ; have bk6 := (HRa.out _).bk.turned happ.turned (fun hm => (HR.out.rows.dA g hm).1 rfl); have k4 : w6.cell? ⟨g, 4, none⟩ = some (.int .i64 want) := bk6.cell 4; have k6 : w6.cell? ⟨g, 6, none⟩ = some (.slice A zs.length c) := bk6.cell 6; have y4 := bk6.frozen 4; have y6 := bk6.frozen 6)
      have R7 := (HRa.out _).addAt happ
      have hFA := own_fp HR.out.rows.ats.own
      have hb7 := put_below (i := 6) (v := .slice A9 (zs.length + 1) c9) (put_below (i := 4) (v := .int .i64 3) ((HBa.out _).trans (happ.turned.below (Nat.le_trans hBW (HBa.out _).size) (fun k hk => (hFA k hk).1))) hBW R7.rows.gB.1) hBW R7.rows.gB.1
      have ht7 := ((((((Turned.refl (g :: fp A) w).drewN _).alloc _).trans happ.turned (fun i hi => .inl (List.mem_cons_of_mem _ hi))).setCell (p := ⟨g, 4, none⟩) (.inl (by simp)) (.int .i64 3)).setCell (p := ⟨g, 6, none⟩) (.inl (by simp)) (.slice A9 (zs.length + 1) c9))
      have CT := readTask_any B g s 3 co A9 c9 (zs ++ [(at_ : Int)]) L1 (cl - 1) rs m W _ R7 hBW hb7 ((hb7.cell (p := ⟨0, 0, none⟩) h0B).trans HMx.out) (HSt.out _ _ ht7 (fun k hk hm => by
          have hx := HX.out
          simp only [fp, List.mem_singleton] at hk
          subst hk
          rcases List.mem_cons.1 hm with h | h
          · exact hx.1 h
          · exact hx.2.2 h)) (by rw [HM.out]; omega) (by rw [HM.out]; omega) HZ.out hts (fun k hk => ⟨(HL1.out k hk).1.1, (HL1.out k hk).1.2.1, fun hm => by
          rcases happ.fps k hm with h | h
          · exact (HL1.out k hk).1.2.2 h
          · have := (HL1.out k hk).2; simp at h; omega⟩)
      rw [HM.out] at CT
      clear k4 k6 y4 y6 bk6 R7 hFA hb7 ht7 happ
      refine CT.mono ?_
      rintro e u ⟨hbu, hpost⟩
      have HBU := hidp hbu
      rw [HTT.out] at hpost
      cases tt with
      | error y =>
        obtain ⟨rfl, hr⟩ := hpost
        have HRR := hidp hr
        clear hbu hr CT
        go_wp2_with fail
        go_ret
        refine ⟨HBU.out, _, _, _, _, _, _, HRR.out, ?_⟩
        rw [HOW.out, HTT.out]
        exact ⟨rfl, taskT_err HTT.out⟩
      | ok tk =>
        obtain ⟨rfl, t', ta, tc, ht, hr⟩ := hpost
        have HRR := hidp hr
        have HTK := hidp ht
        clear hbu hr ht CT
        go_wp2_with fail
        go_ret
        refine ⟨HBU.out, _, _, _, _, _, _, HRR.out, ?_⟩
        rw [HOW.out, HTT.out]
        obtain ⟨h1, h2, h3, h4⟩ := HE.out
        refine ⟨rfl, ?_, rfl, h3, by rw [h4, List.map_append]; rfl⟩
        simp only [SetR.bare, RdT.bare, SetR.mk.injEq] at h1 ⊢
        simp [h1, HTK.out]
    · have f9 : decide (2 ≤ want) = false := by simpa using e0
      have HLT : Hid (lineT r at_ ((x :: rs).map bl) = .error 10) := hidp (by
        rw [List.map_cons, d3]
        exact lineT_no r at_ _ _ (by rintro ⟨h, _⟩; exact absurd h (by decide)) (by rintro ⟨h, _⟩; exact absurd h (by decide)) (by rintro ⟨h, _⟩; exact absurd h (by decide)) (by rintro ⟨_, h⟩; have := HW3.out; omega))
      clear e0 d3
      go_enter Tryz.func36, Tryz.ntmps36
      go_wp2_with fail
      go_quiet (fail)
      go_wp2_with fail
      go_ret
      exact ⟨HBn.out _, s, want, co, A, c, zs, HRn.out _, by rw [HLT.out]; exact ⟨rfl, by decide⟩⟩
  have f0 : (x.toList == [112, 114, 111, 116, 111, 99, 111, 108]) = false := by rw [q0]; exact decide_eq_false d0
  have f1 : (x.toList == [99, 111, 114, 101, 115]) = false := by rw [q1]; exact decide_eq_false d1
  have f2 : (x.toList == [104, 111, 109, 101, 115]) = false := by rw [q2]; exact decide_eq_false d2
  have f3 : (x.toList == [116, 97, 115, 107]) = false := by rw [q3]; exact decide_eq_false d3
  have HLT : Hid (lineT r at_ ((x :: rs).map bl) = .error 10) := hidp (by
    rw [List.map_cons]
    exact lineT_no r at_ _ _ (fun h => d0 h.1) (fun h => d1 h.1) (fun h => d2 h.1) (fun h => d3 h.1))
  clear d0 d1 d2 d3 q0 q1 q2 q3
  go_enter Tryz.func36, Tryz.ntmps36
  go_wp2_with fail
  go_quiet (fail)
  go_wp2_with fail
  go_ret
  exact ⟨HBn.out _, s, want, co, A, c, zs, HRn.out _, by rw [HLT.out]; exact ⟨rfl, by decide⟩⟩
end Go.Proofs.YtlmliefkhidpnaaGreatDoor

namespace Go.Proofs.YtlmliefkhidpnaaGreatDoor
open Go.ChangeShapes Go.WideShapes Go.ChangeAt Go.RowKit
set_option linter.unusedVariables false
set_option linter.unusedSimpArgs false
theorem wl_mem (l cur : Bts) : ∀ x ∈ wl cur l, x.length ≤ cur.length + l.length := by
  induction l generalizing cur with
  | nil => unfold wl; split <;> simp
  | cons y r ih =>
    unfold wl
    split
    · split
      · intro x hx; have := ih [] x hx; simp at this ⊢; omega
      · intro x hx
        rcases List.mem_cons.1 hx with rfl | h
        · simp
        · have := ih [] x h; simp at this ⊢; omega
    · intro x hx
      have := ih _ x hx
      simp at this ⊢; omega
theorem pl_mem (c : UInt8) (l cur : Bts) : ∀ x ∈ pl c cur l, x.length ≤ cur.length + l.length := by
  induction l generalizing cur with
  | nil => unfold pl; split <;> simp
  | cons y r ih =>
    unfold pl
    split
    · intro x hx
      rcases List.mem_cons.1 hx with rfl | h
      · simp
      · have := ih [] x h; simp at this ⊢; omega
    · intro x hx
      have := ih _ x hx
      simp at this ⊢; omega
theorem wl_len (l cur : Bts) : (wl cur l).length ≤ l.length + (if cur = [] then 0 else 1) := by
  induction l generalizing cur with
  | nil => unfold wl; split <;> simp
  | cons y r ih =>
    unfold wl
    split
    · split
      · have := ih []; simp at this ⊢; omega
      · have := ih []; simp at this ⊢; omega
    · have := ih (cur ++ [y]); simp at this ⊢; split <;> omega
theorem ahead_len (l : Bts) : (ahead35 l).length ≤ l.length := by
  induction l with
  | nil => exact Nat.le_refl _
  | cons c r ih => unfold ahead35; split <;> simp <;> omega
theorem words_size {s : ByteArray} {ls : List ByteArray} (h : ls.map bl = wordsL (bl s)) : ∀ x ∈ ls, x.size ≤ s.size := fun x hx => by
  have h1 : bl x ∈ wordsL (bl s) := by rw [← h]; exact List.mem_map.2 ⟨x, hx, rfl⟩
  have h2 := wl_mem _ _ _ h1
  have h3 := ahead_len (bl s)
  rw [bl_len] at h2 h3
  simp at h2
  omega
def rdZ : RdT := ⟨0, [], [], [], 0, 0, []⟩
theorem linesT_blank {r : RdT} {k : Nat} {l : Bts} {ls : List Bts} (h : wordsL l = []) : linesT r k (l :: ls) = linesT r (k + 1) ls := by
  conv => lhs; unfold linesT
  rw [h]; rfl
theorem linesT_ok {r r' : RdT} {k : Nat} {l : Bts} {ls : List Bts} (h : lineT r k (wordsL l) = .ok r') : linesT r k (l :: ls) = linesT r' (k + 1) ls := by
  conv => lhs; unfold linesT
  rw [h]
theorem linesT_err {r : RdT} {k : Nat} {l : Bts} {ls : List Bts} {x : Int} (h : lineT r k (wordsL l) = .error x) : linesT r k (l :: ls) = .error (k, x) := by
  conv => lhs; unfold linesT
  rw [h]
theorem lineT_len {r r' : RdT} {k : Nat} {l : List Bts} (h : lineT r k l = .ok r') (ht : r.tasks.length ≤ k ∧ r.tasksAt.length = r.tasks.length) : r'.tasks.length ≤ k + 1 ∧ r'.tasksAt.length = r'.tasks.length := by
  unfold lineT at h
  split at h
  · injection h with h; subst h; omega
  · split at h
    · split at h
      · injection h with h; subst h; dsimp only; omega
      · cases h
    · split at h
      · split at h
        · injection h with h; subst h; dsimp only; omega
        · cases h
      · split at h
        · split at h
          · injection h with h; subst h; dsimp only; omega
          · cases h
        · split at h
          · split at h
            · injection h with h; subst h; simp; omega
            · cases h
          · cases h
theorem linesT_len {ls : List Bts} {r r' : RdT} {k : Nat} (h : linesT r k ls = .ok r') (ht : r.tasks.length ≤ k ∧ r.tasksAt.length = r.tasks.length) : r'.tasksAt.length = r'.tasks.length := by
  induction ls generalizing r k with
  | nil =>
    unfold linesT at h
    split at h
    · cases h
    · injection h with h; subst h; exact ht.2
  | cons a t ih =>
    unfold linesT at h
    cases e : lineT r k (wordsL a) with
    | error x => rw [e] at h; cases h
    | ok r2 => rw [e] at h; exact ih h (lineT_len e ht)
def pp7 (w : World) (g : Nat) (v0 v1 v2 v3 v4 v5 v6 : Value) : World := ((((((w.setCell ⟨g, 0, none⟩ v0).setCell ⟨g, 1, none⟩ v1).setCell ⟨g, 2, none⟩ v2).setCell ⟨g, 3, none⟩ v3).setCell ⟨g, 4, none⟩ v4).setCell ⟨g, 5, none⟩ v5).setCell ⟨g, 6, none⟩ v6
theorem pp7_bk {w : World} {g : Nat} {t : TypeId} {c0 c1 c2 c3 c4 c5 c6 v0 v1 v2 v3 v4 v5 v6 : Value} (h : Bk w g t #[c0, c1, c2, c3, c4, c5, c6]) : Bk (pp7 w g v0 v1 v2 v3 v4 v5 v6) g t #[v0, v1, v2, v3, v4, v5, v6] := by
  have := ((((((h.put 0 v0).put 1 v1).put 2 v2).put 3 v3).put 4 v4).put 5 v5).put 6 v6
  unfold pp7
  simpa using this
theorem pp7_turned (w : World) (g : Nat) (v0 v1 v2 v3 v4 v5 v6 : Value) : Turned [g] w (pp7 w g v0 v1 v2 v3 v4 v5 v6) :=
  (((((((Turned.refl [g] w).setCell (.inl (by simp)) _).setCell (.inl (by simp)) _).setCell (.inl (by simp)) _).setCell (.inl (by simp)) _).setCell (.inl (by simp)) _).setCell (.inl (by simp)) _).setCell (.inl (by simp)) _
theorem cz7 {w : World} {g : Nat} {t : TypeId} {c0 c1 c2 c3 c4 c5 c6 : Value} (h : Bk w g t #[c0, c1, c2, c3, c4, c5, c6]) : w.cell? ⟨g, 0, none⟩ = some c0 ∧ w.cell? ⟨g, 1, none⟩ = some c1 ∧ w.cell? ⟨g, 2, none⟩ = some c2 ∧ w.cell? ⟨g, 3, none⟩ = some c3 ∧ w.cell? ⟨g, 4, none⟩ = some c4 ∧ w.cell? ⟨g, 5, none⟩ = some c5 ∧ w.cell? ⟨g, 6, none⟩ = some c6 := ⟨h.cell 0, h.cell 1, h.cell 2, h.cell 3, h.cell 4, h.cell 5, h.cell 6⟩
theorem cf7 {w : World} {g : Nat} {t : TypeId} {cs : Array Value} (h : Bk w g t cs) : w.frozen? ⟨g, 0, none⟩ = false ∧ w.frozen? ⟨g, 1, none⟩ = false ∧ w.frozen? ⟨g, 2, none⟩ = false ∧ w.frozen? ⟨g, 3, none⟩ = false ∧ w.frozen? ⟨g, 4, none⟩ = false ∧ w.frozen? ⟨g, 5, none⟩ = false ∧ w.frozen? ⟨g, 6, none⟩ = false := ⟨h.frozen 0, h.frozen 1, h.frozen 2, h.frozen 3, h.frozen 4, h.frozen 5, h.frozen 6⟩
def rdV (s : SetR) (want co : Int) (A : Option Addr) (n c : Nat) : Value := .agg #[.int .i64 s.proto, .slice s.ca s.cores.length s.cc, .slice s.ha s.homes.length s.hc, .slice s.ta s.tasks.length s.tc, .int .i64 want, .int .i64 co, .slice A n c]
/-- the blocks of all rows of a set -/
def SetR.blocks (s : SetR) : List Nat := fp s.ta ++ s.fix
theorem TasksAt.turned {F : List Nat} {w w' : World} {a : Option Addr} {ts : List TaskR} (h : TasksAt w a ts) (ht : Turned F w w') (hF : ∀ k ∈ fp a, k ∉ F) : TasksAt w' a ts := by
  rcases h with h | ⟨b, off, rfl, h⟩
  · exact .inl h
  · have hb : b ∉ F := hF b (by simp [fp])
    exact .inr ⟨b, off, rfl, fun i hi => ⟨ht.cell (h i hi).1 hb, ht.cell (h i hi).2.1 hb, ht.cell (h i hi).2.2.1 hb, ht.cell (h i hi).2.2.2.1 hb, ht.cell (h i hi).2.2.2.2.1 hb, ht.cell (h i hi).2.2.2.2.2 hb⟩⟩
theorem SetOk.turnedB {F : List Nat} {w w' : World} {s : SetR} (h : SetOk w s) (ht : Turned F w w') (hF : ∀ k ∈ s.blocks, k ∉ F) : SetOk w' s :=
  ⟨h.proto, h.cores.turned ht (fun k hk => hF k (List.mem_append_right _ (fix_ca hk))), h.homes.turned ht (fun k hk => hF k (List.mem_append_right _ (fix_ha hk))), ⟨h.tasks.sl, h.tasks.at_.turned ht (fun k hk => hF k (List.mem_append_left _ hk)), fun t hm => (h.tasks.ok t hm).turned ht (fun k hk => hF k (List.mem_append_right _ (fix_pa hm hk)))⟩⟩
/-- the reader as it stands in memory at the end: its rows -/
structure RdRows (B : Nat) (w : World) (s : SetR) (A : Option Addr) (c : Nat) (zs : List Int) : Prop where
  ok : SetOk w s
  ats : Row w .i64 A zs
  ac : zs.length ≤ c
  low : ∀ k ∈ s.blocks, B ≤ k
  lowA : ∀ k ∈ fp A, B ≤ k
def AllPost (w : World) (N : Nat) (r : Except (Nat × Int) RdT) (e : Ending) (w' : World) : Prop :=
  Below w.heap.size w w' ∧ ∃ s want co A c zs, RdRows w.heap.size w' s A c zs ∧ match r with
  | .ok r' => e = .returned (.tuple #[rdV s want co A zs.length c, .int .i64 N, .int .i64 0]) ∧ RdEq r' s want co zs
  | .error p => e = .returned (.tuple #[rdV s want co A zs.length c, .int .i64 (p.1 : Int), .int .i64 p.2]) ∧ p.2 ≠ 0
theorem Rdr.end_ {B : Nat} {w w' : World} {g g0 : Nat} {s : SetR} {want co : Int} {A : Option Addr} {c : Nat} {zs : List Int} (h : Rdr B w g s want co A c zs) (hg : g0 < B) (ht : Turned [g0] w w') : RdRows B w' s A c zs := by
  have h2 := h.rows.turned ht (fun k hk _ _ hm => by simp at hm; omega)
  refine ⟨h2.setOk, h2.ats.row, h2.ats.cap.1, fun k hk => ?_, fun k hk => (own_fp h2.ats.own k hk).1⟩
  rcases List.mem_append.1 hk with h3 | h3
  · exact (own_fp h2.tasks.own k h3).1
  · exact (h2.fixd k h3).1.1
theorem RdRows.lower {B B' : Nat} {w : World} {s : SetR} {A : Option Addr} {c : Nat} {zs : List Int} (h : RdRows B w s A c zs) (hB : B' ≤ B) : RdRows B' w s A c zs := ⟨h.ok, h.ats, h.ac, fun k hk => Nat.le_trans hB (h.low k hk), fun k hk => Nat.le_trans hB (h.lowA k hk)⟩
def zrC : Array Value := #[.int .i64 0, .slice none 0 0, .slice none 0 0, .slice none 0 0, .int .i64 0, .int .i64 0, .slice none 0 0]
theorem rdr_zero (B : Nat) (w : World) (hB : B ≤ w.heap.size) : Rdr B (w.alloc (.cells zrC 48)) w.heap.size noSet 0 0 none 0 [] := by
  refine ⟨Bk.new w _ _, ⟨⟨hB, by simp⟩, by unfold I64 noSet; decide, ⟨⟨fun _ => ⟨rfl, rfl⟩, Nat.le_refl _, by decide⟩, .inl rfl, by simp [noSet]⟩, ⟨⟨fun _ => ⟨rfl, rfl⟩, Nat.le_refl _, by decide⟩, .inl rfl, by simp [noSet]⟩, OwnT.none _ _, by simp [noSet], OwnN.nil_ _ _, by simp [SetR.fix, noSet, fp], by simp [noSet, fp], by simp [fp]⟩⟩
set_option maxHeartbeats 8000000 in
theorem readAll_any (A0 : Option Addr) (k0 : Nat) (lines : List ByteArray) (m : Int) (w : World) (hm : w.cell? ⟨0, 0, none⟩ = some (.int .i64 m)) (hs : StrsAt w A0 lines) (hl : lines.length ≤ 3000) (hz : ∀ x ∈ lines, x.size ≤ 3000) : Calls Tryz.prog 16 #[.slice A0 lines.length k0] w (AllPost w lines.length (linesT rdZ 0 (lines.map bl))) := by
  obtain ⟨N, hN⟩ : ∃ N, lines.length = N := ⟨_, rfl⟩
  have HN := hidp hN
  have HZ := hidp hz
  rw [hN] at hl ⊢
  have hb0 := (Below.refl w.heap.size w).alloc (Nat.le_refl _) (.cells zrC 48)
  have B0 := Bk.new w 48 zrC
  have R1 := rdr_zero (w.heap.size + 1) (w.alloc (.cells zrC 48)) (by simp)
  rw [show (w.alloc (.cells zrC 48)).heap.size = w.heap.size + 1 by simp] at R1
  have hb1 : Below (w.heap.size + 1) (w.alloc (.cells zrC 48)) ((w.alloc (.cells zrC 48)).alloc (.cells zrC 48)) := (Below.refl _ _).alloc (by simp) _
  have HM0 := hidp (mem_max hm hb0)
  have HB0 := hidp hb0
  have HBK := hidp B0
  have HW1 : Hid (w.heap.size + 1 ≤ (w.alloc (.cells zrC 48)).heap.size) := hidp (by simp)
  have HW2 := hidp (hs.below hb0)
  have H0B : Hid (0 < w.heap.size + 1) := hidp (by omega)
  unfold zrC at hb1 R1
  clear hb0 B0 hm hs hN hz
  go_enter Tryz.func16, Tryz.ntmps16
  go_wp2_with fail
  try go_step3
  try go_wp2_with fail
  go_loopg [12] N (fun g i wr => ∃ (k : Nat) (r : RdT) (s : SetR) (want co : Int) (A : Option Addr) (c : Nat) (zs : List Int), k + g = N ∧ i = .int .i64 k ∧ Hid (Rdr (w.heap.size + 1) wr (w.heap.size + 1) s want co A c zs) ∧ Hid (RdEq r s want co zs) ∧ Hid (linesT rdZ 0 (lines.map bl) = linesT r k ((lines.map bl).drop k)) ∧ Hid (r.tasks.length ≤ k ∧ r.tasksAt.length = r.tasks.length) ∧ Hid (Below (w.heap.size + 1) (w.alloc (.cells zrC 48)) wr))
  case atStart => exact ⟨0, rdZ, noSet, 0, 0, none, 0, [], by omega, rfl, hidp R1, hidp ⟨rfl, rfl, rfl, rfl⟩, hidp rfl, hidp ⟨Nat.le_refl _, rfl⟩, hidp hb1⟩
  case round =>
    clear R1 hb1
    obtain ⟨k, r, s, want, co, A, c, zs, hk, rfl, HR, HE, HI, HT, HB⟩ := hrel
    have hTL : Hid (s.tasks.length = r.tasks.length ∧ zs.length = r.tasks.length) := hidp (by
      obtain ⟨h1, _, _, h4⟩ := HE.out
      have h5 := congrArg (fun q => q.tasks.length) h1
      simp only [SetR.bare, RdT.bare, List.length_map] at h5
      exact ⟨h5, by rw [h4, List.length_map]; exact HT.out.2⟩)
    by_cases hin : k < N
    · have hs2 : StrsAt wr A0 lines := HW2.out.below (HB.out.mono (by simp))
      obtain ⟨gl, off, rfl, hc⟩ := hs2.resolve_left (by intro e; have := HN.out; rw [e] at this; simp at this; omega)
      have hkl : k < lines.length := by rw [HN.out]; exact hin
      obtain ⟨x, HX⟩ : ∃ x, Hid (lines.getD k ByteArray.empty = x) := ⟨_, hidp rfl⟩
      have c1 : wr.cell? ⟨gl, off + k, none⟩ = some (.string x) := HX.out ▸ hc k hkl
      have HD : Hid ((lines.map bl).drop k = bl x :: (lines.map bl).drop (k + 1)) := hidp (by
        have h2 : k < (lines.map bl).length := by rw [List.length_map]; exact hkl
        rw [List.drop_eq_getElem_cons h2]
        congr 1
        rw [List.getElem_map, ← HX.out]
        simp [List.getD, hkl])
      have HXm := hidp (strs_mem hkl HX.out)
      have hx := HZ.out x HXm.out
      have hmr : wr.cell? ⟨0, 0, none⟩ = some (.int .i64 m) := (HB.out.cell (p := ⟨0, 0, none⟩) H0B.out).trans HM0.out
      have CW := hidp (words_any x m wr hmr (by omega))
      have bI1 : (0 : Int) ≤ (k : Int) := by omega
      have bI2 : (k : Int) < (N : Int) := by omega
      clear hs2 hc hkl hmr
      go_wp2_with fail
      refine CW.out.mono ?_
      rintro e u ⟨ls, h1, _, A2, c2, rfl, ho, hbu⟩
      have HRu := hidp (HR.out.over hbu)
      have hgw := HR.out.rows.gB
      have HBu := hidp (HB.out.trans (hbu.mono (by omega)))
      have HWD := hidp h1
      cases ls with
      | nil =>
        have HBl : Hid (linesT r k (bl x :: (lines.map bl).drop (k + 1)) = linesT r (k + 1) ((lines.map bl).drop (k + 1))) := hidp (linesT_blank h1.symm)
        clear ho hbu hgw h1 CW
        go_wp2_with fail
        go_roundg (gk - 1)
        case measure => omega
        case rel => exact ⟨k + 1, r, s, want, co, A, c, zs, by omega, by go_num, HRu, HE, hidp (by rw [HI.out, HD.out, HBl.out]), hidp ⟨by have := HT.out; omega, HT.out.2⟩, HBu⟩
      | cons y ys =>
        have hcap := ho.cap
        have hsz := words_size h1
        have hff := own_fp ho.own
        have HTL := hTL
        have hlw : (y :: ys).length ≤ 99999 := by
          have h4 := congrArg List.length h1
          have h5 := wl_len (ahead35 (bl x)) []
          have h6 := ahead_len (bl x)
          rw [List.length_map] at h4
          rw [bl_len] at h6
          unfold wordsL at h4
          simp at h5
          omega
        have CR := read_any (w.heap.size + 1) (w.heap.size + 1) r s want co A c zs k A2 c2 y ys m (w.alloc (.cells zrC 48)) u HRu.out HE.out HW1.out HBu.out H0B.out HM0.out ho.at_ (by simp at hlw; omega) (by simpa using hcap.1) (fun z hz => by have := hsz z hz; omega) (by have := hTL.out; have := HT.out; omega) (by have := hTL.out; have := HT.out; omega) (by omega) (fun j hj => ⟨by have := (hff j hj).1; omega, fun hm => by have := (hff j hj).1; have := (own_fp HR.out.rows.tasks.own j hm).2; omega, fun hm => by have := (hff j hj).1; have := (own_fp HR.out.rows.ats.own j hm).2; omega⟩)
        obtain ⟨tt, HTT⟩ : ∃ tt, Hid (lineT r k ((y :: ys).map bl) = tt) := ⟨_, hidp rfl⟩
        rw [HTT.out] at CR
        have HCR := hidp CR
        have HDl : Hid (linesT rdZ 0 (lines.map bl) = linesT r k (bl x :: (lines.map bl).drop (k + 1))) := hidp (by rw [HI.out, HD.out])
        have HLW : Hid (lineT r k (wordsL (bl x)) = tt) := hidp (by rw [← h1]; exact HTT.out)
        have wk : IntKind.i64.wrap (k : Int) = (k : Int) := IntWalk.i64_in _ (by omega)
        clear ho hbu hgw h1 CW CR hcap hsz hff hlw
        go_wp2_with fail
        refine HCR.out.mono ?_
        rintro e v ⟨hbv, s', want', co', A', c', zs', hR', hres⟩
        have HRv := hidp hR'
        have HBv := hidp hbv
        clear hR' hbv HCR HRu HR hTL HTL HBu HB
        cases tt with
        | ok r' =>
          obtain ⟨rfl, hE'⟩ := hres
          have HE' := hidp hE'
          clear hE'
          go_wp2_with fail
          go_roundg (gk - 1)
          case measure => omega
          case rel => exact ⟨k + 1, r', s', want', co', A', c', zs', by omega, by go_num, HRv, HE', hidp (by rw [HDl.out, linesT_ok HLW.out]), hidp (lineT_len HLW.out HT.out), HBv⟩
        | error q =>
          obtain ⟨rfl, hq0⟩ := hres
          have HQ0 := hidp hq0
          have f9 : (q != 0) = true := by simpa using hq0
          have HLE : Hid (linesT rdZ 0 (lines.map bl) = .error (k, q)) := hidp (by rw [HDl.out, linesT_err HLW.out])
          have HBW := hidp (HB0.out.trans (HBv.out.mono (Nat.le_succ _)))
          have BX : Hid (Bk v w.heap.size 48 zrC) := hidp ((HBv.out.block w.heap.size (Nat.lt_succ_self _)).trans HBK.out)
          clear hq0
          have PB := pp7_bk BX.out (v0 := .int .i64 s'.proto) (v1 := .slice s'.ca s'.cores.length s'.cc) (v2 := .slice s'.ha s'.homes.length s'.hc) (v3 := .slice s'.ta s'.tasks.length s'.tc) (v4 := .int .i64 want') (v5 := .int .i64 co') (v6 := .slice A' zs'.length c')
          have T1 := pp7_turned v w.heap.size (.int .i64 s'.proto) (.slice s'.ca s'.cores.length s'.cc) (.slice s'.ha s'.homes.length s'.hc) (.slice s'.ta s'.tasks.length s'.tc) (.int .i64 want') (.int .i64 co') (.slice A' zs'.length c')
          have hbe := hidp (HBW.out.trans (T1.below HBW.out.size (by simp)))
          have hre := hidp (HRv.out.end_ (Nat.lt_succ_self _) T1)
          obtain ⟨r0, r1, r2, r3, r4, r5, r6⟩ := cz7 PB
          obtain ⟨z0, z1, z2, z3, z4, z5, z6⟩ := cz7 BX.out
          obtain ⟨y0, y1, y2, y3, y4, y5, y6⟩ := cf7 BX.out
          obtain ⟨x0, x1, x2, x3, x4, x5, x6, _⟩ := HRv.out.cells
          clear PB T1
          unfold pp7 at *
          go_wp2_with fail
          try rw [Exit.noGoto_ret]
          refine bodyPost_ret (v := .tuple #[.agg #[.int .i64 s'.proto, .slice s'.ca s'.cores.length s'.cc, .slice s'.ha s'.homes.length s'.hc, .slice s'.ta s'.tasks.length s'.tc, .int .i64 want', .int .i64 co', .slice A' zs'.length c'], .int .i64 (k : Int), .int .i64 q]) (by simp [results, Tryz.results16, go_sem, r0, r1, r2, r3, r4, r5, r6]) rfl ⟨hbe.out, s', want', co', A', c', zs', hre.out.lower (Nat.le_succ _), ?_⟩
          rw [HLE.out]
          exact ⟨rfl, HQ0.out⟩
    · obtain rfl : k = N := by omega
      have HLN : Hid (linesT rdZ 0 (lines.map bl) = if r.want < 2 then .error (k, 10) else .ok r) := hidp (by
        rw [HI.out, List.drop_of_length_le (by rw [List.length_map, HN.out]; exact Nat.le_refl _)]
        rfl)
      have HBW := hidp (HB0.out.trans (HB.out.mono (Nat.le_succ _)))
      have BX : Hid (Bk wr w.heap.size 48 zrC) := hidp ((HB.out.block w.heap.size (Nat.lt_succ_self _)).trans HBK.out)
      have hw := HE.out.2.1
      by_cases h2 : want < 2
      · have HLE : Hid (linesT rdZ 0 (lines.map bl) = .error (k, 10)) := hidp (by rw [HLN.out, if_pos (by omega)])
        clear hw
        have PB := pp7_bk BX.out (v0 := .int .i64 s.proto) (v1 := .slice s.ca s.cores.length s.cc) (v2 := .slice s.ha s.homes.length s.hc) (v3 := .slice s.ta s.tasks.length s.tc) (v4 := .int .i64 want) (v5 := .int .i64 co) (v6 := .slice A zs.length c)
        have T1 := pp7_turned wr w.heap.size (.int .i64 s.proto) (.slice s.ca s.cores.length s.cc) (.slice s.ha s.homes.length s.hc) (.slice s.ta s.tasks.length s.tc) (.int .i64 want) (.int .i64 co) (.slice A zs.length c)
        have hbe := hidp (HBW.out.trans (T1.below HBW.out.size (by simp)))
        have hre := hidp (HR.out.end_ (Nat.lt_succ_self _) T1)
        obtain ⟨r0, r1, r2, r3, r4, r5, r6⟩ := cz7 PB
        obtain ⟨z0, z1, z2, z3, z4, z5, z6⟩ := cz7 BX.out
        obtain ⟨y0, y1, y2, y3, y4, y5, y6⟩ := cf7 BX.out
        obtain ⟨x0, x1, x2, x3, x4, x5, x6, _⟩ := HR.out.cells
        clear PB T1
        unfold pp7 at *
        go_wp2_with fail
        try rw [Exit.noGoto_ret]
        refine bodyPost_ret (v := .tuple #[.agg #[.int .i64 s.proto, .slice s.ca s.cores.length s.cc, .slice s.ha s.homes.length s.hc, .slice s.ta s.tasks.length s.tc, .int .i64 want, .int .i64 co, .slice A zs.length c], .int .i64 (k : Int), .int .i64 10]) (by simp [results, Tryz.results16, go_sem, r0, r1, r2, r3, r4, r5, r6]) rfl ⟨hbe.out, s, want, co, A, c, zs, hre.out.lower (Nat.le_succ _), ?_⟩
        rw [HLE.out]
        exact ⟨rfl, (by show (10 : Int) ≠ 0; decide)⟩
      · have HLE : Hid (linesT rdZ 0 (lines.map bl) = .ok r) := hidp (by rw [HLN.out, if_neg (by omega)])
        clear hw
        have PB := pp7_bk BX.out (v0 := .int .i64 s.proto) (v1 := .slice s.ca s.cores.length s.cc) (v2 := .slice s.ha s.homes.length s.hc) (v3 := .slice s.ta s.tasks.length s.tc) (v4 := .int .i64 want) (v5 := .int .i64 co) (v6 := .slice A zs.length c)
        have T1 := pp7_turned wr w.heap.size (.int .i64 s.proto) (.slice s.ca s.cores.length s.cc) (.slice s.ha s.homes.length s.hc) (.slice s.ta s.tasks.length s.tc) (.int .i64 want) (.int .i64 co) (.slice A zs.length c)
        have hbe := hidp (HBW.out.trans (T1.below HBW.out.size (by simp)))
        have hre := hidp (HR.out.end_ (Nat.lt_succ_self _) T1)
        obtain ⟨r0, r1, r2, r3, r4, r5, r6⟩ := cz7 PB
        obtain ⟨z0, z1, z2, z3, z4, z5, z6⟩ := cz7 BX.out
        obtain ⟨y0, y1, y2, y3, y4, y5, y6⟩ := cf7 BX.out
        obtain ⟨x0, x1, x2, x3, x4, x5, x6, _⟩ := HR.out.cells
        clear PB T1
        unfold pp7 at *
        go_wp2_with fail
        try rw [Exit.noGoto_ret]
        refine bodyPost_ret (v := .tuple #[.agg #[.int .i64 s.proto, .slice s.ca s.cores.length s.cc, .slice s.ha s.homes.length s.hc, .slice s.ta s.tasks.length s.tc, .int .i64 want, .int .i64 co, .slice A zs.length c], .int .i64 (k : Int), .int .i64 0]) (by simp [results, Tryz.results16, go_sem, r0, r1, r2, r3, r4, r5, r6]) rfl ⟨hbe.out, s, want, co, A, c, zs, hre.out.lower (Nat.le_succ _), ?_⟩
        rw [HLE.out]
        exact ⟨rfl, HE.out⟩
end Go.Proofs.YtlmliefkhidpnaaGreatDoor

namespace Go.Proofs.YtlmliefkhidpnaaGreatDoor
open Go.ChangeShapes Go.WideShapes Go.ChangeAt Go.RowKit
set_option linter.unusedVariables false
set_option linter.unusedSimpArgs false
theorem chk_rd {s : SetR} {r : RdT} (h : s.bare = r.bare) : chkAt s = chkAt r.bare ∧ chkE s = chkE r.bare := by
  have a := chk_bare s
  rw [h] at a
  exact ⟨a.1.symm, a.2.symm⟩
theorem chkAt_bd (s : SetR) : -1 ≤ chkAt s ∧ (0 ≤ chkAt s → chkAt s < s.tasks.length) := by
  unfold chkAt
  split
  · exact ⟨by omega, fun h => by omega⟩
  · unfold badAt
    refine ⟨firstT_bd _, fun h => ?_⟩
    obtain ⟨k, h1, h2, _⟩ := firstT_pos (l := (List.range s.tasks.length).map fun k => taskE s k != 0) (by omega)
    rw [h2]
    simp at h1
    omega
def ParsePost (w : World) (v : SetR × Int × Int) (e : Ending) (w' : World) : Prop := ∃ x, e = .returned (.tuple #[.agg #[.int .i64 x.proto, .slice x.ca x.cores.length x.cc, .slice x.ha x.homes.length x.hc, .slice x.ta x.tasks.length x.tc], .int .i64 v.2.1, .int .i64 v.2.2]) ∧ SetOk w' x ∧ x.bare = v.1 ∧ Below w.heap.size w w'
theorem noSet_ok (w : World) : SetOk w noSet := ⟨by unfold I64 noSet; decide, ⟨⟨fun _ => ⟨rfl, rfl⟩, Nat.le_refl _, by decide⟩, .inl rfl, by simp [noSet]⟩, ⟨⟨fun _ => ⟨rfl, rfl⟩, Nat.le_refl _, by decide⟩, .inl rfl, by simp [noSet]⟩, ⟨⟨fun _ => ⟨rfl, rfl⟩, Nat.le_refl _, by decide⟩, .inl rfl, by simp [noSet]⟩⟩
theorem parse_ret {w : World} {v : SetR × Int × Int} {w' : World} {x : SetR} {n e : Int} (h : v = (x.bare, n, e)) (hx : SetOk w' x) (hb : Below w.heap.size w w') : ParsePost w v (.returned (.tuple #[.agg #[.int .i64 x.proto, .slice x.ca x.cores.length x.cc, .slice x.ha x.homes.length x.hc, .slice x.ta x.tasks.length x.tc], .int .i64 n, .int .i64 e])) w' := by
  subst h
  exact ⟨x, rfl, hx, rfl, hb⟩
theorem zSC (w : World) : Bk (w.alloc (.cells #[.int .i64 0, .slice none 0 0, .slice none 0 0, .slice none 0 0] 25)) w.heap.size 25 #[.int .i64 0, .slice none 0 0, .slice none 0 0, .slice none 0 0] := Bk.new _ _ _
theorem sp4_bk {w : World} {g : Nat} {t : TypeId} {c0 c1 c2 c3 v0 v1 v2 v3 : Value} (h : Bk w g t #[c0, c1, c2, c3]) : Bk (put4 w g v0 v1 v2 v3) g t #[v0, v1, v2, v3] := by
  have := (((h.put 0 v0).put 1 v1).put 2 v2).put 3 v3
  unfold put4
  simpa using this
set_option maxHeartbeats 8000000 in
theorem parse_any (t : ByteArray) (m : Int) (w : World) (hm : w.cell? ⟨0, 0, none⟩ = some (.int .i64 m)) : Calls Tryz.prog 7 #[.string t] w (ParsePost w (parseV (bl t))) := by
  have hb0 := (Below.refl w.heap.size w).alloc (Nat.le_refl _) (.cells #[.int .i64 0, .slice none 0 0, .slice none 0 0, .slice none 0 0] 25)
  have B0 := zSC w
  by_cases h1 : 2000 < t.size
  · have f1 : (2000 : Int) < (t.size : Int) := by omega
    have HB := hidp hb0
    have BX := hidp B0
    have HH := hidp h1
    clear hb0 B0 h1 hm
    go_enter Tryz.func7, Tryz.ntmps7
    have HV : Hid (parseV (bl t) = (noSet.bare, 0, 11)) := hidp (by unfold parseV; rw [bl_len, if_pos HH.out]; rfl)
    obtain ⟨z0, z1, z2, z3⟩ := Z4 BX.out
    obtain ⟨y0, y1, y2, y3⟩ := ZF4 BX.out
    go_wp2_with fail
    refine bodyPost_ret (v := .tuple #[.agg #[.int .i64 0, .slice none 0 0, .slice none 0 0, .slice none 0 0], .int .i64 0, .int .i64 11]) (by simp [results, Tryz.results7, go_sem, z0, z1, z2, z3]) rfl (parse_ret (x := noSet) HV.out (noSet_ok _) HB.out)
  have HPV : Hid (parseV (bl t) = match readT (bl t) with | .error p => (noSet, (p.1 : Int), p.2) | .ok r => toldV r (linesL (bl t)).length) := hidp (by unfold parseV; rw [bl_len, if_neg h1]; cases readT (bl t) <;> rfl)
  have f1 : ¬ (2000 : Int) < (t.size : Int) := by omega
  have CL := hidp (lines_any t m _ (mem_max hm hb0) (by omega))
  have HM := hidp hm
  have HB0 := hidp hb0
  have HBK := hidp B0
  have HSZ := hidp (show t.size ≤ 2000 by omega)
  clear hb0 B0 hm h1
  go_enter Tryz.func7, Tryz.ntmps7
  go_wp2_with fail
  refine CL.out.mono ?_
  rintro e w1 ⟨ls, h1, h2, A, k0, rfl, hs, hnil, hc1, hc2, hb1⟩
  have HL := hidp h1
  have HS := hidp hs
  have HB1 := hidp (HB0.out.trans (hb1.mono HB0.out.size))
  have BX1 := hidp (HBK.out.below hb1)
  have HW01 : Hid (w.heap.size < w1.heap.size) := hidp BX1.out.lt
  have HLN := hidp h2
  have hz : ∀ x ∈ ls, x.size ≤ 3000 := fun x hx => by
    have h5 : bl x ∈ pl 10 [] (bl t) := by have := h1; unfold linesL at this; rw [← this]; exact List.mem_map.2 ⟨x, hx, rfl⟩
    have h6 := pl_mem 10 (bl t) [] _ h5
    rw [bl_len, bl_len] at h6
    have := HSZ.out
    simp at h6
    omega
  have CA := readAll_any A k0 ls m w1 (mem_max HM.out HB1.out) hs (by have := HSZ.out; omega) hz
  have HRT : Hid (linesT rdZ 0 (ls.map bl) = readT (bl t)) := hidp (by rw [h1]; rfl)
  have HLL : Hid ((linesL (bl t)).length = ls.length) := hidp (by rw [← h1, List.length_map])
  rw [HRT.out] at CA
  have HCA := hidp CA
  clear CA h1 h2 hs hnil hc1 hc2 hb1 hz CL
  obtain ⟨N, HN⟩ : ∃ N, Hid (ls.length = N) := ⟨_, hidp rfl⟩
  rw [HN.out] at HCA HLL HLN ⊢
  obtain ⟨tt, HTT⟩ : ∃ tt, Hid (readT (bl t) = tt) := ⟨_, hidp rfl⟩
  rw [HTT.out] at HCA HPV
  go_wp2_with fail
  refine HCA.out.mono ?_
  rintro e w2 ⟨hb2, s, want, co, A2, c2, zs, hrr, hres⟩
  unfold rdV at hres
  have HRR := hidp hrr
  have HB2 := hidp (HB1.out.trans (hb2.mono HB1.out.size))
  have BX2 := hidp (BX1.out.below hb2)
  clear hrr hb2 HB1 BX1 HCA
  obtain ⟨ob, hob⟩ : ∃ o, (.cells #[.int .i64 s.proto, .slice s.ca s.cores.length s.cc, .slice s.ha s.homes.length s.hc, .slice s.ta s.tasks.length s.tc, .int .i64 want, .int .i64 co, .slice A2 zs.length c2] 48 : Obj) = o := ⟨_, rfl⟩
  have HOB := hidp hob
  have hbo : Below w2.heap.size w2 (w2.alloc ob) := (Below.refl _ w2).alloc (Nat.le_refl _) ob
  have HB := hidp (HB2.out.alloc HB2.out.size ob)
  have BX := hidp (BX2.out.below hbo)
  have HOK := hidp (HRR.out.ok.keep (Keeps.of_below hbo))
  have HRO := hidp (HRR.out.ats.mono (Keeps.of_below hbo))
  have HBR : Hid (Bk (w2.alloc ob) w2.heap.size 48 #[.int .i64 s.proto, .slice s.ca s.cores.length s.cc, .slice s.ha s.homes.length s.hc, .slice s.ta s.tasks.length s.tc, .int .i64 want, .int .i64 co, .slice A2 zs.length c2]) := hidp (by rw [← hob]; exact Bk.new _ _ _)
  have HNE : Hid (w2.heap.size ≠ w.heap.size) := hidp (by have := BX2.out.lt; omega)
  have HLOW : Hid (∀ w' : World, SetOk w' s → ∀ w'', Turned [w.heap.size] w' w'' → SetOk w'' s) := hidp (fun w' h1 w'' h2 => h1.turnedB h2 (fun k hk hm => by
    have := HRR.out.low k hk
    simp at hm
    have := HW01.out
    omega))
  have HLA2 : Hid (∀ k ∈ fp A2, w.heap.size < k) := hidp (fun k hk => by have := HRR.out.lowA k hk; have := HW01.out; omega)
  clear hbo HB2 BX2 HRR
  rw [← hob] at HB BX HOK HRO HBR
  clear hob HOB
  cases tt with
  | error p =>
    obtain ⟨rfl, hp0⟩ := hres
    have f9 : (p.2 != 0) = true := by simpa using hp0
    clear hp0
    have HV : Hid (parseV (bl t) = (noSet.bare, (p.1 : Int), p.2)) := hidp (HPV.out)
    have PB := (sp4_bk BX.out : Bk (put4 (w2.alloc (.cells #[.int .i64 s.proto, .slice s.ca s.cores.length s.cc, .slice s.ha s.homes.length s.hc, .slice s.ta s.tasks.length s.tc, .int .i64 want, .int .i64 co, .slice A2 zs.length c2] 48)) w.heap.size (.int .i64 0) (.slice none 0 0) (.slice none 0 0) (.slice none 0 0)) w.heap.size 25 #[.int .i64 0, .slice none 0 0, .slice none 0 0, .slice none 0 0])
    have T1 := put4_turned (w2.alloc (.cells #[.int .i64 s.proto, .slice s.ca s.cores.length s.cc, .slice s.ha s.homes.length s.hc, .slice s.ta s.tasks.length s.tc, .int .i64 want, .int .i64 co, .slice A2 zs.length c2] 48)) w.heap.size (.int .i64 0) (.slice none 0 0) (.slice none 0 0) (.slice none 0 0)
    have hbe := hidp (HB.out.trans (T1.below HB.out.size (by simp)))
    obtain ⟨r0, r1, r2, r3⟩ := Z4 PB
    obtain ⟨z0, z1, z2, z3⟩ := Z4 BX.out
    obtain ⟨y0, y1, y2, y3⟩ := ZF4 BX.out
    clear PB T1
    unfold put4 at *
    go_wp2_with fail
    refine bodyPost_ret (v := .tuple #[.agg #[.int .i64 0, .slice none 0 0, .slice none 0 0, .slice none 0 0], .int .i64 (p.1 : Int), .int .i64 p.2]) (by simp [results, Tryz.results7, go_sem, r0, r1, r2, r3]) rfl (parse_ret (x := noSet) HV.out (noSet_ok _) (hbe.out))
  | ok r =>
    obtain ⟨rfl, hE⟩ := hres
    have HE := hidp hE
    have HCH := hidp (chk_rd hE.1)
    obtain ⟨n0, n1, n2, n3, n4, n5, n6⟩ := cz7 HBR.out
    have CC := hidp (check_any s _ HOK.out)
    have HAB := hidp (chkAt_bd s)
    have HTV : Hid (parseV (bl t) = toldV r N) := hidp (by rw [HPV.out, HLL.out])
    obtain ⟨ca, Hca⟩ : ∃ v, Hid (chkAt s = v) := ⟨_, hidp rfl⟩
    obtain ⟨ce, Hce⟩ : ∃ v, Hid (chkE s = v) := ⟨_, hidp rfl⟩
    rw [Hca.out, Hce.out] at CC HCH
    rw [Hca.out] at HAB
    have HTA : Hid (s.tasks.length = r.tasks.length) := hidp (by
      have h5 := congrArg (fun q => q.tasks.length) hE.1
      simpa only [SetR.bare, RdT.bare, List.length_map] using h5)
    have HLA : Hid (zs.length = r.tasks.length) := hidp (by rw [hE.2.2.2, List.length_map]; exact linesT_len (show linesT rdZ 0 (linesL (bl t)) = .ok r from HTT.out) ⟨Nat.le_refl _, rfl⟩)
    clear hE
    go_wp2_with fail
    refine CC.out.mono ?_
    rintro e w3 ⟨rfl, hb3⟩
    have kb := Keeps.of_below hb3
    replace n0 := kb _ _ n0
    replace n1 := kb _ _ n1
    replace n2 := kb _ _ n2
    replace n3 := kb _ _ n3
    replace n4 := kb _ _ n4
    replace n5 := kb _ _ n5
    replace n6 := kb _ _ n6
    replace HOK := hidp (HOK.out.keep kb)
    replace HRO := hidp (HRO.out.mono kb)
    replace BX := hidp (BX.out.below hb3)
    replace HB := hidp (HB.out.trans (hb3.mono HB.out.size))
    clear kb hb3 CC HBR
    by_cases e0 : ce = 0
    · subst e0
      have HV : Hid (parseV (bl t) = (s.bare, (N : Int), 0)) := hidp (by rw [HTV.out]; unfold toldV; rw [if_pos HCH.out.2.symm, HE.out.1])
      have PB := (sp4_bk BX.out : Bk (put4 w3 w.heap.size (.int .i64 s.proto) (.slice s.ca s.cores.length s.cc) (.slice s.ha s.homes.length s.hc) (.slice s.ta s.tasks.length s.tc)) w.heap.size 25 #[.int .i64 s.proto, .slice s.ca s.cores.length s.cc, .slice s.ha s.homes.length s.hc, .slice s.ta s.tasks.length s.tc])
      have T1 := put4_turned w3 w.heap.size (.int .i64 s.proto) (.slice s.ca s.cores.length s.cc) (.slice s.ha s.homes.length s.hc) (.slice s.ta s.tasks.length s.tc)
      have hbe := hidp (HB.out.trans (T1.below HB.out.size (by simp)))
      obtain ⟨r0, r1, r2, r3⟩ := Z4 PB
      obtain ⟨z0, z1, z2, z3⟩ := Z4 BX.out
      obtain ⟨y0, y1, y2, y3⟩ := ZF4 BX.out
      have hok := hidp (HLOW.out _ HOK.out _ T1)
      clear PB T1
      unfold put4 at *
      go_wp2_with fail
      refine bodyPost_ret (v := .tuple #[.agg #[.int .i64 s.proto, .slice s.ca s.cores.length s.cc, .slice s.ha s.homes.length s.hc, .slice s.ta s.tasks.length s.tc], .int .i64 (N : Int), .int .i64 0]) (by simp [results, Tryz.results7, go_sem, r0, r1, r2, r3]) rfl (parse_ret (x := s) HV.out (hok.out) (hbe.out))
    have E0 : Hid (¬ chkE r.bare = 0) := hidp (by rw [← HCH.out.2]; exact e0)
    have g0 : (ce == 0) = false := by rw [beq_eq_false_iff_ne]; exact e0
    clear e0
    by_cases e1 : ce = 14
    · subst e1
      have HV : Hid (parseV (bl t) = (noSet.bare, (N : Int), 14)) := hidp (by rw [HTV.out]; unfold toldV; rw [if_neg E0.out, if_pos (.inl HCH.out.2.symm), ← HCH.out.2]; rfl)
      have PB := (sp4_bk BX.out : Bk (put4 w3 w.heap.size (.int .i64 0) (.slice none 0 0) (.slice none 0 0) (.slice none 0 0)) w.heap.size 25 #[.int .i64 0, .slice none 0 0, .slice none 0 0, .slice none 0 0])
      have T1 := put4_turned w3 w.heap.size (.int .i64 0) (.slice none 0 0) (.slice none 0 0) (.slice none 0 0)
      have hbe := hidp (HB.out.trans (T1.below HB.out.size (by simp)))
      obtain ⟨r0, r1, r2, r3⟩ := Z4 PB
      obtain ⟨z0, z1, z2, z3⟩ := Z4 BX.out
      obtain ⟨y0, y1, y2, y3⟩ := ZF4 BX.out
      clear PB T1
      unfold put4 at *
      go_wp2_with fail
      refine bodyPost_ret (v := .tuple #[.agg #[.int .i64 0, .slice none 0 0, .slice none 0 0, .slice none 0 0], .int .i64 (N : Int), .int .i64 14]) (by simp [results, Tryz.results7, go_sem, r0, r1, r2, r3]) rfl (parse_ret (x := noSet) HV.out (noSet_ok _) (hbe.out))
    have g1 : (ce == 14) = false := by rw [beq_eq_false_iff_ne]; exact e1
    by_cases e2 : ce = 11
    · subst e2
      clear e1
      have HV : Hid (parseV (bl t) = (noSet.bare, (N : Int), 11)) := hidp (by rw [HTV.out]; unfold toldV; rw [if_neg E0.out, if_pos (.inr HCH.out.2.symm), ← HCH.out.2]; rfl)
      have PB := (sp4_bk BX.out : Bk (put4 w3 w.heap.size (.int .i64 0) (.slice none 0 0) (.slice none 0 0) (.slice none 0 0)) w.heap.size 25 #[.int .i64 0, .slice none 0 0, .slice none 0 0, .slice none 0 0])
      have T1 := put4_turned w3 w.heap.size (.int .i64 0) (.slice none 0 0) (.slice none 0 0) (.slice none 0 0)
      have hbe := hidp (HB.out.trans (T1.below HB.out.size (by simp)))
      obtain ⟨r0, r1, r2, r3⟩ := Z4 PB
      obtain ⟨z0, z1, z2, z3⟩ := Z4 BX.out
      obtain ⟨y0, y1, y2, y3⟩ := ZF4 BX.out
      clear PB T1
      unfold put4 at *
      go_wp2_with fail
      refine bodyPost_ret (v := .tuple #[.agg #[.int .i64 0, .slice none 0 0, .slice none 0 0, .slice none 0 0], .int .i64 (N : Int), .int .i64 11]) (by simp [results, Tryz.results7, go_sem, r0, r1, r2, r3]) rfl (parse_ret (x := noSet) HV.out (noSet_ok _) (hbe.out))
    have g2 : (ce == 11) = false := by rw [beq_eq_false_iff_ne]; exact e2
    have E1 : Hid (¬ (chkE r.bare = 14 ∨ chkE r.bare = 11)) := hidp (by rw [← HCH.out.2]; rintro (h | h); exact e1 h; exact e2 h)
    clear e1 e2
    by_cases e3 : ca < 0
    · have HA0 : Hid (chkAt r.bare < 0) := hidp (by rw [← HCH.out.1]; exact e3)
      have HV : Hid (parseV (bl t) = (noSet.bare, co, ce)) := hidp (by rw [HTV.out]; unfold toldV; rw [if_neg E0.out, if_neg E1.out, if_pos HA0.out, ← HCH.out.2, HE.out.2.2.1]; rfl)
      have PB := (sp4_bk BX.out : Bk (put4 w3 w.heap.size (.int .i64 0) (.slice none 0 0) (.slice none 0 0) (.slice none 0 0)) w.heap.size 25 #[.int .i64 0, .slice none 0 0, .slice none 0 0, .slice none 0 0])
      have T1 := put4_turned w3 w.heap.size (.int .i64 0) (.slice none 0 0) (.slice none 0 0) (.slice none 0 0)
      have hbe := hidp (HB.out.trans (T1.below HB.out.size (by simp)))
      obtain ⟨r0, r1, r2, r3⟩ := Z4 PB
      obtain ⟨z0, z1, z2, z3⟩ := Z4 BX.out
      obtain ⟨y0, y1, y2, y3⟩ := ZF4 BX.out
      clear PB T1
      unfold put4 at *
      go_wp2_with fail
      go_region
      go_wp2_with fail
      refine bodyPost_ret (v := .tuple #[.agg #[.int .i64 0, .slice none 0 0, .slice none 0 0, .slice none 0 0], .int .i64 co, .int .i64 ce]) (by simp [results, Tryz.results7, go_sem, r0, r1, r2, r3]) rfl (parse_ret (x := noSet) HV.out (noSet_ok _) (below_drewN hbe.out 1))
    have HA0 : Hid (¬ chkAt r.bare < 0) := hidp (by rw [← HCH.out.1]; exact e3)
    obtain ⟨j, rfl⟩ : ∃ j : Nat, ca = (j : Int) := ⟨ca.toNat, by omega⟩
    have hj : j < zs.length := by
      have h5 := HAB.out.2 (by omega)
      have h6 := HTA.out
      have h7 := HLA.out
      omega
    obtain ⟨gz, oz, rfl, hcz⟩ := HRO.out.resolve_left (by intro e; rw [e] at hj; simp at hj)
    obtain ⟨zv, Hzv⟩ : ∃ v, Hid (zs.getD j 0 = v) := ⟨_, hidp rfl⟩
    have cz : w3.cell? ⟨gz, oz + j, none⟩ = some (.int .i64 zv) := by have := hcz j hj; rwa [Hzv.out] at this
    have HZT : Hid (zv = ((r.tasksAt.getD j 0 : Nat) : Int)) := hidp (by
      rw [← Hzv.out, HE.out.2.2.2]
      have h8 : j < r.tasksAt.length := by have := HE.out.2.2.2; rw [this, List.length_map] at hj; exact hj
      simp [List.getD, h8])
    have hne0 := HLA2.out gz (by simp [fp])
    have hne1 : gz ≠ w.heap.size := by omega
    have hne2 : w.heap.size ≠ gz := by omega
    clear hne0
    have bI1 : (0 : Int) ≤ (j : Int) := by omega
    have bI2 : (j : Int) < (zs.length : Int) := by omega
    clear hcz
    have HV : Hid (parseV (bl t) = (noSet.bare, zv, ce)) := hidp (by rw [HTV.out]; unfold toldV; rw [if_neg E0.out, if_neg E1.out, if_neg HA0.out, ← HCH.out.2, ← HCH.out.1, Int.toNat_natCast, ← HZT.out]; rfl)
    have PB := (sp4_bk BX.out : Bk (put4 w3 w.heap.size (.int .i64 0) (.slice none 0 0) (.slice none 0 0) (.slice none 0 0)) w.heap.size 25 #[.int .i64 0, .slice none 0 0, .slice none 0 0, .slice none 0 0])
    have T1 := put4_turned w3 w.heap.size (.int .i64 0) (.slice none 0 0) (.slice none 0 0) (.slice none 0 0)
    have hbe := hidp (HB.out.trans (T1.below HB.out.size (by simp)))
    obtain ⟨r0, r1, r2, r3⟩ := Z4 PB
    obtain ⟨z0, z1, z2, z3⟩ := Z4 BX.out
    obtain ⟨y0, y1, y2, y3⟩ := ZF4 BX.out
    clear PB T1
    unfold put4 at *
    go_wp2_with fail
    go_region
    go_wp2_with fail
    refine bodyPost_ret (v := .tuple #[.agg #[.int .i64 0, .slice none 0 0, .slice none 0 0, .slice none 0 0], .int .i64 zv, .int .i64 ce]) (by simp [results, Tryz.results7, go_sem, r0, r1, r2, r3]) rfl (parse_ret (x := noSet) HV.out (noSet_ok _) (below_drewN hbe.out 1))
end Go.Proofs.YtlmliefkhidpnaaGreatDoor

namespace Go.Proofs.YtlmliefkhidpnaaGreatDoor
open Go.ChangeShapes Go.WideShapes Go.ChangeAt Go.RowKit
set_option linter.unusedVariables false
theorem standIns (l : Array TypeId) (h : (l.all fun t => !Tryz.prog.wantsStandIn t) = true) (j : Nat) (t : TypeId) (ht : l[j]? = some t) : Tryz.prog.wantsStandIn t = false := by
  rw [Array.all_eq_true] at h
  obtain ⟨hj, e⟩ := Array.getElem?_eq_some_iff.1 ht
  have := h j hj
  rw [e] at this
  simpa using this
theorem gPow : Tryz.prog.globalNamed "internal/strconv.uint64pow10" = some 3 := by kernel_rfl
theorem tabPow {W : World} (hL : laidMetH Tryz.prog [("math/bits.deBruijn32tab", Rows.laid_math_bits_deBruijn32tab), ("math/bits.deBruijn64tab", Rows.laid_math_bits_deBruijn64tab), ("internal/strconv.uint64pow10", Rows.laid_internal_strconv_uint64pow10), ("unicode/utf8.acceptRanges", Rows.laid_unicode_utf8_acceptRanges), ("unicode/utf8.first", Rows.laid_unicode_utf8_first)] W) :
    Go.Lib.TabIs Tryz.prog W "internal/strconv.uint64pow10" .u64 Go.Lib.pow10Tab := by
  rw [MakeChecks.laidMetH_plain _ _ _ (by kernel_rfl)] at hL
  have h := laidMet.tail (laidMet.tail hL)
  rw [show Rows.laid_internal_strconv_uint64pow10 = Go.Lib.tabData .u64 Go.Lib.pow10Tab from rfl] at h
  exact Go.Lib.tabIs_of_head gPow (by kernel_rfl) Tryz.underlying139 Tryz.underlying126 (by kernel_rfl) (by kernel_rfl) h
/-- a []string that came in -/
structure IsStrs (w : World) (a : Option Addr) (len cap : Nat) (zs : List ByteArray) : Prop where
  hlen : zs.length = len
  hcap : len ≤ cap ∧ cap ≤ maxLen
  hnil : a = none → len = 0 ∧ cap = 0
  row : zs = [] ∨ ∃ b off, a = some ⟨b, off, none⟩ ∧ ∀ i, i < zs.length → w.cell? ⟨b, off + i, none⟩ = some (.string (zs.getD i ByteArray.empty))
  fit : ∀ s ∈ zs, s.size ≤ maxLen
theorem open_strs {H : Type} {enc : TypeId × Value → H} {W : World} {a : Option Addr} {len cap fuel : Nat} {x : DataW H × List MemPlace} {sp : Nat → Bool} {held : Bool} {base : Nat}
    (hf : DataW.trod enc Tryz.prog W base sp held fuel 38 [.slice a len cap] = some x) : ∃ zs, IsStrs W a len cap zs := by
  rcases open_strings Tryz.underlying38 Tryz.underlying9 (by kernel_rfl) hf with ⟨hcs, hx⟩ | ⟨a', len', cap', ss, hcs, _, hl, hm, hz, hx, hcell, hfit⟩
  · simp at hcs
    obtain ⟨rfl, rfl, rfl⟩ := hcs
    exact ⟨[], rfl, by decide, fun _ => ⟨rfl, rfl⟩, .inl rfl, fun s hs => by simp at hs⟩
  · simp at hcs
    obtain ⟨rfl, rfl, rfl⟩ := hcs
    have hlen : len ≤ ss.length := by rw [hz]; split <;> omega
    obtain ⟨b, off, spot⟩ := a'
    refine ⟨ss.take len, by simp; omega, ⟨hl, hm⟩, fun e => (by cases e), ?_, fun s hs => hfit s (List.mem_of_mem_take hs)⟩
    by_cases h0 : len = 0
    · left; rw [h0]; rfl
    · right
      have hspot : spot = none := by simpa [Addr.add] using World.cell?_spot (hcell 0 (by omega))
      subst hspot
      refine ⟨b, off, rfl, fun i hi => ?_⟩
      have hi2 : i < len := by simp at hi; omega
      have := hcell i (by omega)
      rw [add_plain] at this
      rw [this]
      congr 2
      simp [List.getD, hi2]
end Go.Proofs.YtlmliefkhidpnaaGreatDoor

namespace Go.Proofs.YtlmliefkhidpnaaGreatDoor
open Go.ChangeShapes Go.WideShapes Go.ChangeAt Go.RowKit
set_option linter.unusedVariables false
set_option linter.unusedSimpArgs false
def Tab (w : World) : Prop := Lib.TabIs Tryz.prog w "internal/strconv.uint64pow10" .u64 Lib.pow10Tab
theorem Tab.over {w w' : World} (h : Tab w) (hb : Below w.heap.size w w') : Tab w' := Joins.tab_stays gPow h hb (Nat.le_refl _)
theorem lib_join (c : UInt8) : ∀ l : List Bts, Lib.join l [c] = joinT c l
  | [] => rfl
  | [w] => Lib.join_one w [c]
  | w :: v :: r => by
    have ih := lib_join c (v :: r)
    show _ = w ++ c :: joinT c (v :: r)
    rw [← ih, Lib.join_cons, Lib.join_cons]
    simp [Lib.joinTail]
theorem joinT_len {c : UInt8} {l : List Bts} {m : Nat} (h : ∀ w ∈ l, w.length ≤ m) : (joinT c l).length ≤ l.length * (m + 1) := by
  induction l with
  | nil => simp [joinT]
  | cons w r ih =>
    cases r with
    | nil => have := h w (by simp); simp [joinT]; omega
    | cons v r =>
      have h1 := h w (by simp)
      have h2 := ih (fun x hx => h x (List.mem_cons_of_mem _ hx))
      show (w ++ c :: joinT c (v :: r)).length ≤ _
      rw [List.length_append, List.length_cons, List.length_cons, Nat.succ_mul]
      omega
theorem join_any (cb : UInt8) (A : Option Addr) (k : Nat) (ls : List ByteArray) (w : World) (hs : StrsAt w A ls) (hk : ls.length ≤ k) (h0 : 0 < ls.length) (hl : ls.length ≤ 1000) (hz : ∀ x ∈ ls, x.size ≤ 100000) :
    Calls Tryz.prog 26 #[.slice A ls.length k, .string ⟨#[cb]⟩] w fun e w' => ∃ r : ByteArray, e = .returned (.string r) ∧ bl r = joinT cb (ls.map bl) ∧ Below w.heap.size w w' := by
  obtain ⟨b, off, rfl, hc⟩ := hs.resolve_left (by intro e; rw [e] at h0; simp at h0)
  have hlen : (Lib.join (ls.map (·.data.toList)) [cb]).length ≤ 140737488355328 := by
    rw [lib_join]
    refine Nat.le_trans (joinT_len (m := 100000) (fun w hw => ?_)) ?_
    · obtain ⟨x, hx, rfl⟩ := List.mem_map.1 hw
      have := hz x hx
      rw [← bl_len] at this
      exact this
    · rw [List.length_map]; omega
  refine (Tryz.strings_Join b off k ls ⟨#[cb]⟩ w (fun j x hj => ?_) (cell_lt (hc 0 h0)) (by omega) hk hlen).mono ?_
  · obtain ⟨hj2, e⟩ := List.getElem?_eq_some_iff.1 hj
    rw [hc j hj2]
    simp [List.getD, hj2, e]
  · rintro e w' ⟨rfl, hb⟩
    exact ⟨_, rfl, lib_join cb _, hb⟩
theorem textL_len (n : Int) : (textL n).length ≤ 7 := by
  by_cases h : 0 ≤ n ∧ n ≤ 9999999
  · rw [textL_dec h]; exact (dec_len _ (by omega)).2
  · unfold textL; rw [textV_no (by omega)]; simp [bl]
theorem protoName_any (p : Int) (w : World) : Calls Tryz.prog 23 #[.int .i64 p] w fun e w' => e = .returned (.string (mkB (protoW p))) ∧ w = w' := by
  by_cases h1 : p = 1
  · have f1 : (p == 1) = true := by simpa using h1
    have H : Hid (mkB (protoW p) = ⟨#[102, 97, 105, 114]⟩) := hidp (by unfold protoW; rw [if_pos h1]; rfl)
    clear h1
    go_enter Tryz.func23, Tryz.ntmps23
    go_wp2_with fail
    go_ret
    exact ⟨congrArg (fun q => Ending.returned (.string q)) H.out.symm, rfl⟩
  have f1 : (p == 1) = false := by simpa using h1
  by_cases h2 : p = 2
  · have f2 : (p == 2) = true := by simpa using h2
    have H : Hid (mkB (protoW p) = ⟨#[97, 103, 101, 110, 116]⟩) := hidp (by unfold protoW; rw [if_neg h1, if_pos h2]; rfl)
    clear h1 h2
    go_enter Tryz.func23, Tryz.ntmps23
    go_wp2_with fail
    go_ret
    exact ⟨congrArg (fun q => Ending.returned (.string q)) H.out.symm, rfl⟩
  have f2 : (p == 2) = false := by simpa using h2
  have H : Hid (mkB (protoW p) = ⟨#[116, 111, 107, 101, 110]⟩) := hidp (by unfold protoW; rw [if_neg h1, if_neg h2]; rfl)
  clear h1 h2
  go_enter Tryz.func23, Tryz.ntmps23
  go_wp2_with fail
  go_ret
  exact ⟨congrArg (fun q => Ending.returned (.string q)) H.out.symm, rfl⟩
def PartM.t (p : PartM) : PartT := ⟨p.kind, p.len, p.res⟩
theorem bl_cat (a : Bts) (s : ByteArray) : bl (mkB a ++ s) = a ++ bl s := by rw [bl_append, bl_mk]
def StrPost (w : World) (v : Bts) (e : Ending) (w' : World) : Prop := ∃ r : ByteArray, e = .returned (.string r) ∧ bl r = v ∧ Below w.heap.size w w'
set_option maxHeartbeats 4000000 in
theorem partWord_any (p : PartM) (w : World) (hp : p.wf) (ht : Tab w) : Calls Tryz.prog 46 #[.agg #[.int .i64 p.kind, .int .i64 p.len, .int .i64 p.res]] w (StrPost w (partW p.t)) := by
  obtain ⟨kd, ln, rs⟩ := p
  obtain ⟨i0, i1, i2⟩ := hp
  dsimp only at i0 i1 i2 ⊢
  have HT : Hid (∀ u, Below w.heap.size w u → Tab u) := hidp (fun u hu => ht.over hu)
  have HI1 := hidp i1
  have HI2 := hidp i2
  obtain ⟨L1, HL1⟩ : ∃ L, Hid (textV ln = L) := ⟨_, hidp rfl⟩
  obtain ⟨L2, HL2⟩ : ∃ L, Hid (textV rs = L) := ⟨_, hidp rfl⟩
  have C1 : Hid (∀ u, Below w.heap.size w u → Calls Tryz.prog 45 #[.int .i64 ln] u fun e w' => e = .returned (.string L1) ∧ Below u.heap.size u w') := hidp (fun u hu => by
    have := text_any ln u HI1.out (HT.out u hu); rwa [HL1.out] at this)
  have C2 : Hid (∀ u, Below w.heap.size w u → Calls Tryz.prog 45 #[.int .i64 rs] u fun e w' => e = .returned (.string L2) ∧ Below u.heap.size u w') := hidp (fun u hu => by
    have := text_any rs u HI2.out (HT.out u hu); rwa [HL2.out] at this)
  have HS1 : Hid (L1.size ≤ 7 ∧ L2.size ≤ 7) := hidp ⟨by rw [← HL1.out, ← bl_len]; exact textL_len _, by rw [← HL2.out, ← bl_len]; exact textL_len _⟩
  have hb := (Below.refl w.heap.size w).alloc (Nat.le_refl _) (.cells #[.int .i64 kd, .int .i64 ln, .int .i64 rs] 46)
  have B0 := Bk.new w 46 #[.int .i64 kd, .int .i64 ln, .int .i64 rs]
  have z1 : (w.alloc (.cells #[.int .i64 kd, .int .i64 ln, .int .i64 rs] 46)).cell? ⟨w.heap.size, 1, none⟩ = some (.int .i64 ln) := B0.cell 1
  have z2 : (w.alloc (.cells #[.int .i64 kd, .int .i64 ln, .int .i64 rs] 46)).cell? ⟨w.heap.size, 2, none⟩ = some (.int .i64 rs) := B0.cell 2
  obtain ⟨sz1, sz2⟩ := HS1.out
  clear HI1 HI2 i0 i1 i2 ht B0 HT
  by_cases h1 : kd = 1
  · have f1 : (kd == 1) = true := by simpa using h1
    have H : Hid (partW (PartM.t ⟨kd, ln, rs⟩) = tRun ++ 58 :: bl L1) := hidp (by unfold partW PartM.t textL; rw [if_pos h1, HL1.out])
    clear h1
    go_enter Tryz.func46, Tryz.ntmps46
    go_wp2_with fail
    refine (C1.out _ hb).mono ?_
    rintro e u ⟨rfl, hbu⟩
    have HB := hidp (hb.trans (hbu.mono hb.size))
    clear hb hbu z1 z2 C1 C2
    go_wp2_with fail
    go_ret
    exact ⟨_, rfl, by rw [H.out]; exact bl_cat [114, 117, 110, 58] L1, HB.out⟩
  have f1 : (kd == 1) = false := by simpa using h1
  by_cases h2 : kd = 2
  · have f2 : (kd == 2) = true := by simpa using h2
    have H : Hid (partW (PartM.t ⟨kd, ln, rs⟩) = tSleep ++ 58 :: bl L1) := hidp (by unfold partW PartM.t textL; rw [if_neg h1, if_pos h2, HL1.out])
    clear h1 h2
    go_enter Tryz.func46, Tryz.ntmps46
    go_wp2_with fail
    refine (C1.out _ hb).mono ?_
    rintro e u ⟨rfl, hbu⟩
    have HB := hidp (hb.trans (hbu.mono hb.size))
    clear hb hbu z1 z2 C1 C2
    go_wp2_with fail
    go_ret
    exact ⟨_, rfl, by rw [H.out]; exact bl_cat [115, 108, 101, 101, 112, 58] L1, HB.out⟩
  have f2 : (kd == 2) = false := by simpa using h2
  have H : Hid (partW (PartM.t ⟨kd, ln, rs⟩) = tLock ++ 58 :: bl L2 ++ 58 :: bl L1) := hidp (by unfold partW PartM.t textL; rw [if_neg h1, if_neg h2, HL1.out, HL2.out])
  clear h1 h2
  go_enter Tryz.func46, Tryz.ntmps46
  go_wp2_with fail
  replace hb : Below w.heap.size w (w.alloc (.cells #[.int .i64 kd, .int .i64 ln, .int .i64 rs] 46)).drew := below_drewN hb 1
  replace z1 : (w.alloc (.cells #[.int .i64 kd, .int .i64 ln, .int .i64 rs] 46)).drew.cell? ⟨w.heap.size, 1, none⟩ = some (.int .i64 ln) := z1
  replace z2 : (w.alloc (.cells #[.int .i64 kd, .int .i64 ln, .int .i64 rs] 46)).drew.cell? ⟨w.heap.size, 2, none⟩ = some (.int .i64 rs) := z2
  have t1 : ¬ 9223372036854775807 < 5 + L2.size := by omega
  have t2 : ¬ 9223372036854775807 < 5 + L2.size + 1 := by omega
  have t3 : ¬ 9223372036854775807 < 5 + L2.size + 1 + L1.size := by omega
  go_region_held3 (fun w' => w'.cell? ⟨w.heap.size, 1, none⟩ = some (.int .i64 ln) ∧ w'.cell? ⟨w.heap.size, 2, none⟩ = some (.int .i64 rs)) (exact ⟨z1, z2⟩)
    (first
      | (go_at_call 45; (with_reducible refine (C1.out _ hb).mono ?_); rintro e u ⟨rfl, hb3⟩; have z1 := (Keeps.of_below hb3) _ _ z1; have z2 := (Keeps.of_below hb3) _ _ z2; have hb := hb.trans (hb3.mono hb.size))
      | (go_at_call 45; (with_reducible refine (C2.out _ hb).mono ?_); rintro e u ⟨rfl, hb3⟩; have z1 := (Keeps.of_below hb3) _ _ z1; have z2 := (Keeps.of_below hb3) _ _ z2; have hb := hb.trans (hb3.mono hb.size)))
  go_wp2_with fail
  go_ret
  refine ⟨_, rfl, ?_, hb⟩
  rw [H.out, bl_append, bl_append, bl_append]
  simp [bl, tLock]
/-! ### rows of texts that grow -/
theorem OwnS.one (B : Nat) (w : World) (x : ByteArray) (hB : B ≤ w.heap.size) : OwnS B (w.alloc (.cells #[.string x] 9)) (some ⟨w.heap.size, 0, none⟩) 1 1 [x] :=
  ⟨own_lit (cs := [.string x]) (Bk.new w 9 #[.string x]) hB rfl (by decide), rfl, by decide, fun e => by cases e⟩
set_option maxHeartbeats 4000000 in
theorem nline_any (head : ByteArray) (A0 : Option Addr) (c0 : Nat) (zs : List Int) (w : World) (hz : IntsOk w A0 c0 zs) (hl : zs.length ≤ 100) (hh : head.size ≤ 1000) (ht : Tab w) : Calls Tryz.prog 24 #[.string head, .slice A0 zs.length c0] w (StrPost w (numsW (bl head) zs)) := by
  obtain ⟨i0, hi0, hy0, hy1, hy2⟩ := info_parts infoStr
  have o0 := OwnS.one w.heap.size w head (Nat.le_refl _)
  have hb0 := (Below.refl w.heap.size w).alloc (Nat.le_refl _) (.cells #[.string head] 9)
  obtain ⟨N, hN⟩ : ∃ N, zs.length = N := ⟨_, rfl⟩
  have HN := hidp hN
  have HT : Hid (∀ u, Below w.heap.size w u → Tab u) := hidp (fun u hu => ht.over hu)
  have HH := hidp hh
  have HWF := hidp hz.wf
  have hr := hz.at_
  rw [hN] at hl ⊢
  clear hN ht hh hz
  go_enter Tryz.func24, Tryz.ntmps24
  go_wp2_with fail
  go_loopg [5, 12] N (fun g all i wr => ∃ (k c : Nat) (A : Option Addr) (ls : List ByteArray), k + g = N ∧ i = .int .i64 k ∧ all = .slice A (k + 1) c ∧ OwnS w.heap.size wr A (k + 1) c ls ∧ Hid (ls.map bl = bl head :: (zs.take k).map textL) ∧ Hid (∀ x ∈ ls, x.size ≤ 100000) ∧ Below w.heap.size w wr)
  case atStart => exact ⟨0, 1, some ⟨w.heap.size, 0, none⟩, [head], by omega, rfl, rfl, o0, hidp rfl, hidp (by simpa using Nat.le_trans HH.out (by decide)), hb0⟩
  case round =>
    clear o0 hb0
    obtain ⟨k, c, A, ls, hk, rfl, rfl, ho, HI, HSz, hbr⟩ := hrel
    by_cases hin : k < N
    · have hr2 : Row wr .i64 A0 zs := hr.mono (Keeps.of_below hbr)
      obtain ⟨g, off, rfl, hc⟩ := hr2.resolve_left (by intro e; have := HN.out; rw [e] at this; simp at this; omega)
      have hkl : k < zs.length := by rw [HN.out]; exact hin
      obtain ⟨n, Hn⟩ : ∃ n, Hid (zs.getD k 0 = n) := ⟨_, hidp rfl⟩
      have c1 : wr.cell? ⟨g, off + k, none⟩ = some (.int .i64 n) := by have := hc k hkl; rwa [Hn.out] at this
      have HTk : Hid ((zs.take (k + 1)).map textL = (zs.take k).map textL ++ [textL n]) := hidp (by
        rw [List.take_succ_eq_append_getElem hkl, List.map_append, ← Hn.out]
        simp [List.getD, hkl])
      have CT := text_any n wr (HWF.out n (by rw [← Hn.out]; simp [List.getD, hkl])) (HT.out wr hbr)
      obtain ⟨x, Hx⟩ : ∃ x, Hid (textV n = x) := ⟨_, hidp rfl⟩
      rw [Hx.out] at CT
      have HCT := hidp CT
      have Hx7 : Hid (x.size ≤ 7 ∧ bl x = textL n) := hidp ⟨by rw [← Hx.out, ← bl_len]; exact textL_len _, by rw [← Hx.out]; rfl⟩
      have b1 : (0 : Int) ≤ (k : Int) := by omega
      have b2 : (k : Int) < (N : Int) := by omega
      clear hr hr2 hc hkl CT
      go_wp2_with fail
      refine HCT.out.mono ?_
      rintro e u ⟨rfl, hbu⟩
      have TL : Turned [] wr (u.alloc (.cells #[.string x] 9)) := (Turned.of_below hbu []).alloc _
      have own4 := own_turned ho.own TL (by simp)
      have S2 := hidp (new_liesW u [.string x] 9)
      have N2 : Hid (k + 1 + 1 ≤ maxLen) := hidp (by unfold maxLen; omega)
      have T2 : Hid ((k + 1 + 1) * 16 ≤ 140737488355328) := hidp (by omega)
      have W0 := hbr.trans (hbu.mono hbr.size)
      have W1 := W0.alloc W0.size (.cells #[.string x] 9)
      have Z2 : Hid (w.heap.size ≤ (u.alloc (.cells #[.string x] 9)).heap.size) := hidp W1.size
      have O2 := hidp (str_one [x])
      have Hfp := hidp (own_fp own4)
      have hW := hidp W1
      have HO := hidp (ho.turned TL (by simp))
      clear ho hbr hbu W0 W1 TL HCT
      go_wp2_with (at_builtin; refine wpList_app2 _ rfl (.tmp 16) (.tmp 19) 38 rfl w.heap.size 9 i0 _ 1 16 Tryz.underlying38 hi0 hy0 hy1 hy2 rfl (by decide) A (k + 1) c _ rfl own4 _ _ 1 1 [.string x] rfl (by simp) rfl S2.out O2.out N2.out T2.out Z2.out ?_; intro A9 c9 w6 happ)
      go_roundg (gk - 1)
      case measure => omega
      case rel => exact ⟨k + 1, c9, A9, ls ++ [x], by omega, by go_num, by go_num, HO.out.app happ, hidp (by rw [List.map_append, HI.out, HTk.out]; simp [Hx7.out.2]), hidp (fun y hy => (List.mem_append.1 hy).elim (HSz.out y) (fun h => by rw [List.mem_singleton.1 h]; have := Hx7.out.1; omega)), hW.out.trans (happ.turned.below hW.out.size (fun i hi => (Hfp.out i hi).1))⟩
    · obtain rfl : k = N := by omega
      have hlen := ho.len
      have CJ := join_any 32 A c ls wr ho.at_ (by rw [← hlen]; exact ho.cap.1) (by omega) (by omega) HSz.out
      rw [← hlen] at CJ
      have HCJ := hidp CJ
      have HBR := hidp hbr
      have HV : Hid (joinT 32 (ls.map bl) = numsW (bl head) zs) := hidp (by
        rw [HI.out, List.take_of_length_le (by rw [HN.out]; exact Nat.le_refl _)]; rfl)
      clear ho hbr CJ hlen
      go_wp2_with fail
      refine HCJ.out.mono ?_
      rintro e u ⟨r, rfl, hv, hbu⟩
      have HB := hidp (HBR.out.trans (hbu.mono HBR.out.size))
      have HVr := hidp hv
      clear hv hbu HCJ
      go_wp2_with fail
      go_ret
      exact ⟨r, rfl, by rw [HVr.out, HV.out], HB.out⟩
end Go.Proofs.YtlmliefkhidpnaaGreatDoor

namespace Go.Proofs.YtlmliefkhidpnaaGreatDoor
open Go.ChangeShapes Go.WideShapes Go.ChangeAt Go.RowKit
set_option linter.unusedVariables false
theorem lit_ints {w : World} {g : Nat} {o : Obj} {zs : List Int} {t : TypeId} (h : w.heap.size = g) (ho : o = .cells (zs.map (Value.int .i64)).toArray t) (hz : ∀ n ∈ zs, I64 n) (hl : zs.length ≤ maxLen) : IntsOk (w.alloc o) (some ⟨g, 0, none⟩) zs.length zs :=
  ⟨⟨(fun e => by cases e), Nat.le_refl _, hl⟩, ints_lit (Bk.at_ h ho), hz⟩
theorem nil_ints (w : World) : IntsOk w none 0 [] := ⟨⟨fun _ => ⟨rfl, rfl⟩, Nat.le_refl _, by decide⟩, .inl rfl, by simp⟩
theorem IsRow.ints {w : World} {a : Option Addr} {len cap : Nat} {zs : List Int} (h : IsRow .i64 w a len cap zs) : IntsOk w a cap (zs.take len) ∧ (zs.take len).length = len := by
  obtain ⟨h1, h2, h3, h4⟩ := h.row
  refine ⟨⟨?_, h1, fun n hn => i64_of (h4 n hn)⟩, h2⟩
  rw [h2]
  rcases h with ⟨rfl, rfl, rfl, rfl⟩ | ⟨x, rfl, hl, hm, hz, hc, hw⟩
  · exact ⟨fun _ => ⟨rfl, rfl⟩, Nat.le_refl _, Nat.zero_le _⟩
  · exact ⟨(fun e => by cases e), hl, hm⟩
theorem box_ok {w : World} {s : SetR} (hs : SetOk w s) (t : TypeId) : SetOk (w.alloc (.cells #[.int .i64 s.proto, .slice s.ca s.cores.length s.cc, .slice s.ha s.homes.length s.hc, .slice s.ta s.tasks.length s.tc] t)) s := hs.keep (Keeps.alloc _ _)
theorem tasks_lit {w : World} {g : Nat} {e : TypeId} {ts : List TaskR} (h : Bk w g e (ttc ts).toArray) : TasksAt w (some ⟨g, 0, none⟩) ts :=
  tasks_lie (B := g + 1) (.inr ⟨g, 0, rfl, by omega, fun j v hj => by rw [Nat.zero_add, h.cell j]; simpa using hj⟩)
theorem task_bk {W : World} {gp : Nat} {tp : TypeId} {nm : ByteArray} {per dl prio cl : Int} {ps : List PartM} (hp : Bk W gp tp (ptc ps).toArray) (h1 : nm.size ≤ maxLen) (h2 : I64 per) (h3 : I64 dl) (h4 : I64 prio) (h5 : I64 cl) (h6 : ps.length ≤ maxLen) (h7 : ∀ p ∈ ps, p.wf) : TaskOk W ⟨nm, per, dl, prio, cl, some ⟨gp, 0, none⟩, ps.length, ps⟩ :=
  ⟨h1, h2, h3, h4, h5, ⟨(fun e => by cases e), Nat.le_refl _, h6⟩, parts_lit hp, h7⟩
theorem set_bks {W : World} {proto : Int} {gc gh gt : Nat} {tc th tt : TypeId} {zs hs : List Int} {ts : List TaskR} (hc : Bk W gc tc (zs.map (Value.int .i64)).toArray) (hh : Bk W gh th (hs.map (Value.int .i64)).toArray) (ht : Bk W gt tt (ttc ts).toArray) (hp : ∀ t ∈ ts, TaskOk W t)
    (i0 : I64 proto) (iz : ∀ n ∈ zs, I64 n) (ih : ∀ n ∈ hs, I64 n) (lz : zs.length ≤ maxLen) (lh : hs.length ≤ maxLen) (lt : ts.length ≤ maxLen) :
    SetOk W ⟨proto, some ⟨gc, 0, none⟩, zs.length, zs, some ⟨gh, 0, none⟩, hs.length, hs, some ⟨gt, 0, none⟩, ts.length, ts⟩ :=
  ⟨i0, ⟨⟨(fun e => by cases e), Nat.le_refl _, lz⟩, ints_lit hc, iz⟩, ⟨⟨(fun e => by cases e), Nat.le_refl _, lh⟩, ints_lit hh, ih⟩, ⟨⟨(fun e => by cases e), Nat.le_refl _, lt⟩, tasks_lit ht, hp⟩⟩
theorem Row.keep {w w' : World} {k : IntKind} {a : Option Addr} {zs : List Int} (h : Row w k a zs) (hk : Keeps w w') : Row w' k a zs := h.mono hk
theorem setok_eq {w : World} {S T : SetR} (h : SetOk w T) (e : S = T) : SetOk w S := e ▸ h
end Go.Proofs.YtlmliefkhidpnaaGreatDoor

namespace Go.Proofs.YtlmliefkhidpnaaGreatDoor
open Go.ChangeShapes Go.WideShapes Go.ChangeAt Go.RowKit
set_option linter.unusedVariables false
set_option linter.unusedSimpArgs false
def TaskR.rd (t : TaskR) : TaskT := ⟨bl t.name, t.per, t.dl, t.prio, t.cl, t.parts.map PartM.t⟩
theorem numsW_len (h : Bts) (l : List Int) : (numsW h l).length ≤ (l.length + 1) * (h.length + 8) := by
  unfold numsW
  refine Nat.le_trans (joinT_len (m := h.length + 7) (fun w hw => ?_)) (by simp)
  rcases List.mem_cons.1 hw with rfl | hw
  · omega
  · obtain ⟨n, _, rfl⟩ := List.mem_map.1 hw
    have := textL_len n
    omega
theorem partW_len (p : PartT) : (partW p).length ≤ 21 := by
  have h1 := textL_len p.len
  have h2 := textL_len p.res
  unfold partW tRun tSleep tLock
  split
  · simp; omega
  · split
    · simp; omega
    · simp; omega
theorem taskW_len (t : TaskT) : (taskW t).length ≤ (t.parts.length + 1) * (5 * (t.name.length + 13) + 22) := by
  unfold taskW
  refine Nat.le_trans (joinT_len (m := 5 * (t.name.length + 13) + 21) (fun w hw => ?_)) (by simp)
  rcases List.mem_cons.1 hw with rfl | hw
  · have := numsW_len ([116, 97, 115, 107, 32] ++ t.name) [t.per, t.dl, t.prio, t.cl]
    simp at this ⊢
    omega
  · obtain ⟨p, _, rfl⟩ := List.mem_map.1 hw
    have := partW_len p
    omega
set_option maxHeartbeats 8000000 in
theorem taskLine_any (t : TaskR) (w : World) (hk : TaskOk w t) (hn : t.name.size ≤ 100) (hl : t.parts.length ≤ 100) (ht : Tab w) : Calls Tryz.prog 25 #[.agg #[.string t.name, .int .i64 t.per, .int .i64 t.dl, .int .i64 t.prio, .int .i64 t.cl, .slice t.pa t.parts.length t.pc]] w (StrPost w (taskW t.rd)) := by
  obtain ⟨nm, per, dl, prio, cl, pa, pc, ps⟩ := t
  obtain ⟨_, k1, k2, k3, k4, ksl, kat, kwf⟩ := hk
  dsimp only at hn hl k1 k2 k3 k4 ksl kat kwf ⊢
  obtain ⟨i0, hi0, hy0, hy1, hy2⟩ := info_parts infoStr
  have HT : Hid (∀ u, Below w.heap.size w u → Tab u) := hidp (fun u hu => ht.over hu)
  obtain ⟨N, hN⟩ : ∃ N, ps.length = N := ⟨_, rfl⟩
  have HN := hidp hN
  rw [hN] at hl ⊢
  have hb0 := (Below.refl w.heap.size w).alloc (Nat.le_refl _) (.cells #[.string nm, .int .i64 per, .int .i64 dl, .int .i64 prio, .int .i64 cl, .slice pa N pc] 44)
  have B0 := Bk.new w 44 #[.string nm, .int .i64 per, .int .i64 dl, .int .i64 prio, .int .i64 cl, .slice pa N pc]
  have hb1 := hb0.alloc hb0.size (.cells #[.int .i64 per, .int .i64 dl, .int .i64 prio, .int .i64 cl] 3)
  have hI : IntsOk ((w.alloc (.cells #[.string nm, .int .i64 per, .int .i64 dl, .int .i64 prio, .int .i64 cl, .slice pa N pc] 44)).alloc (.cells #[.int .i64 per, .int .i64 dl, .int .i64 prio, .int .i64 cl] 3)) (some ⟨w.heap.size + 1, 0, none⟩) 4 [per, dl, prio, cl] := lit_ints (g := w.heap.size + 1) (zs := [per, dl, prio, cl]) (by simp) rfl (by simp [k1, k2, k3, k4]) (show 4 ≤ maxLen by decide)
  have hsz : ((⟨#[116, 97, 115, 107, 32]⟩ : ByteArray) ++ nm).size ≤ 105 := by rw [ByteArray.size_append]; show 5 + nm.size ≤ _; omega
  have CN := hidp (nline_any (⟨#[116, 97, 115, 107, 32]⟩ ++ nm) (some ⟨w.heap.size + 1, 0, none⟩) 4 [per, dl, prio, cl] _ hI (show 4 ≤ 100 by decide) (by omega) (HT.out _ hb1))
  have B1 := hidp (B0.alloc (.cells #[.int .i64 per, .int .i64 dl, .int .i64 prio, .int .i64 cl] 3))
  have HB1 := hidp hb1
  have HNL : Hid ((numsW (bl ((⟨#[116, 97, 115, 107, 32]⟩ : ByteArray) ++ nm)) [per, dl, prio, cl]).length ≤ 1000) := hidp (by
    refine Nat.le_trans (numsW_len _ _) ?_
    rw [bl_len]
    show (4 + 1) * (_ + 8) ≤ _
    omega)
  have HW : Hid (numsW (bl ((⟨#[116, 97, 115, 107, 32]⟩ : ByteArray) ++ nm)) [per, dl, prio, cl] = numsW ([116, 97, 115, 107, 32] ++ bl nm) [per, dl, prio, cl]) := hidp (by rw [bl_append]; rfl)
  have HK := hidp kat
  have HWF := hidp kwf
  have t1 : ¬ 9223372036854775807 < 5 + nm.size := by omega
  obtain ⟨z0, z1, z2, z3, z4, z5⟩ : (w.alloc (.cells #[.string nm, .int .i64 per, .int .i64 dl, .int .i64 prio, .int .i64 cl, .slice pa N pc] 44)).cell? ⟨w.heap.size, 0, none⟩ = some (.string nm) ∧ (w.alloc (.cells #[.string nm, .int .i64 per, .int .i64 dl, .int .i64 prio, .int .i64 cl, .slice pa N pc] 44)).cell? ⟨w.heap.size, 1, none⟩ = some (.int .i64 per) ∧ (w.alloc (.cells #[.string nm, .int .i64 per, .int .i64 dl, .int .i64 prio, .int .i64 cl, .slice pa N pc] 44)).cell? ⟨w.heap.size, 2, none⟩ = some (.int .i64 dl) ∧ (w.alloc (.cells #[.string nm, .int .i64 per, .int .i64 dl, .int .i64 prio, .int .i64 cl, .slice pa N pc] 44)).cell? ⟨w.heap.size, 3, none⟩ = some (.int .i64 prio) ∧ (w.alloc (.cells #[.string nm, .int .i64 per, .int .i64 dl, .int .i64 prio, .int .i64 cl, .slice pa N pc] 44)).cell? ⟨w.heap.size, 4, none⟩ = some (.int .i64 cl) ∧ (w.alloc (.cells #[.string nm, .int .i64 per, .int .i64 dl, .int .i64 prio, .int .i64 cl, .slice pa N pc] 44)).cell? ⟨w.heap.size, 5, none⟩ = some (.slice pa N pc) := ⟨B0.cell 0, B0.cell 1, B0.cell 2, B0.cell 3, B0.cell 4, B0.cell 5⟩
  clear hb0 hb1 hI B0 ht hN ksl kat kwf k1 k2 k3 k4 hsz
  go_enter Tryz.func25, Tryz.ntmps25
  go_wp2_with fail
  refine CN.out.mono ?_
  rintro e w1 ⟨r1, rfl, hv1, hbw⟩
  have HV1 : Hid (bl r1 = numsW ([116, 97, 115, 107, 32] ++ bl nm) [per, dl, prio, cl]) := hidp (hv1.trans HW.out)
  have HS1 : Hid (r1.size ≤ 1000) := hidp (by rw [← bl_len, hv1]; exact HNL.out)
  have c5 : w1.cell? ⟨w.heap.size, 5, none⟩ = some (.slice pa N pc) := ((Keeps.of_below hbw) _ _ (B1.out.cell 5))
  have HB2 := hidp (HB1.out.trans (hbw.mono HB1.out.size))
  have o0 := OwnS.one w.heap.size w1 r1 HB2.out.size
  have hb2 := HB2.out.alloc HB2.out.size (.cells #[.string r1] 9)
  have c5b : (w1.alloc (.cells #[.string r1] 9)).cell? ⟨w.heap.size, 5, none⟩ = some (.slice pa N pc) := (Keeps.alloc w1 _) _ _ c5
  clear hv1 hbw CN B1 z0 z1 z2 z3 z4 z5 c5 HB1 HB2 HNL HW
  go_wp2_with fail
  go_loopg [3, 23] N (fun g all i wr => ∃ (k c : Nat) (A : Option Addr) (ls : List ByteArray), k + g = N ∧ i = .int .i64 k ∧ all = .slice A (k + 1) c ∧ OwnS w.heap.size wr A (k + 1) c ls ∧ Hid (ls.map bl = numsW ([116, 97, 115, 107, 32] ++ bl nm) [per, dl, prio, cl] :: (ps.take k).map (fun p => partW p.t)) ∧ Hid (∀ x ∈ ls, x.size ≤ 100000) ∧ Below w.heap.size w wr)
  case atStart => exact ⟨0, 1, some ⟨w1.heap.size, 0, none⟩, [r1], by omega, rfl, rfl, o0, hidp (by simp [HV1.out]), hidp (by simpa using Nat.le_trans HS1.out (by decide)), hb2⟩
  case round =>
    clear o0 hb2 c5b
    obtain ⟨k, c, A, ls, hk, rfl, rfl, ho, HI, HSz, hbr⟩ := hrel
    by_cases hin : k < N
    · obtain ⟨g, off, rfl, hc⟩ := (HK.out.keep (Keeps.of_below hbr)).resolve_left (by intro e; have := HN.out; rw [e] at this; simp at this; omega)
      have hkl : k < ps.length := by rw [HN.out]; exact hin
      obtain ⟨⟨kd, ln, rs⟩, Hp⟩ : ∃ p, Hid (ps.getD k default = p) := ⟨_, hidp rfl⟩
      obtain ⟨c1, c2, c3⟩ : PartCells wr g (off + k * 3) ⟨kd, ln, rs⟩ := Hp.out ▸ hc k hkl
      dsimp only at c1 c2 c3
      have HTk : Hid ((ps.take (k + 1)).map (fun p => partW p.t) = (ps.take k).map (fun p => partW p.t) ++ [partW (PartM.t ⟨kd, ln, rs⟩)]) := hidp (by
        rw [List.take_succ_eq_append_getElem hkl, List.map_append, ← Hp.out]
        simp [List.getD, hkl])
      have hbx := hbr.alloc hbr.size (.cells #[.int .i64 kd, .int .i64 ln, .int .i64 rs] 46)
      have HCT := hidp (partWord_any ⟨kd, ln, rs⟩ _ (HWF.out _ (by rw [← Hp.out]; simp [List.getD, hkl])) (HT.out _ hbx))
      have HPL := hidp (partW_len (PartM.t ⟨kd, ln, rs⟩))
      have b1 : (0 : Int) ≤ (k : Int) := by omega
      have b2 : (k : Int) < (N : Int) := by omega
      have BP := Bk.new wr 46 #[.int .i64 kd, .int .i64 ln, .int .i64 rs]
      have x0 : (wr.alloc (.cells #[.int .i64 kd, .int .i64 ln, .int .i64 rs] 46)).cell? ⟨wr.heap.size, 0, none⟩ = some (.int .i64 kd) := BP.cell 0
      have x1 : (wr.alloc (.cells #[.int .i64 kd, .int .i64 ln, .int .i64 rs] 46)).cell? ⟨wr.heap.size, 1, none⟩ = some (.int .i64 ln) := BP.cell 1
      have x2 : (wr.alloc (.cells #[.int .i64 kd, .int .i64 ln, .int .i64 rs] 46)).cell? ⟨wr.heap.size, 2, none⟩ = some (.int .i64 rs) := BP.cell 2
      clear hc hkl BP
      go_wp2_with fail
      refine HCT.out.mono ?_
      rintro e u ⟨x, rfl, hxv, hbu⟩
      have Hx : Hid (bl x = partW (PartM.t ⟨kd, ln, rs⟩) ∧ x.size ≤ 21) := hidp ⟨hxv, by rw [← bl_len, hxv]; exact HPL.out⟩
      have TL : Turned [] wr (u.alloc (.cells #[.string x] 9)) := (((Turned.refl [] wr).alloc _).trans (Turned.of_below hbu []) (by simp)).alloc _
      have own4 := own_turned ho.own TL (by simp)
      have S2 := hidp (new_liesW u [.string x] 9)
      have N2 : Hid (k + 1 + 1 ≤ maxLen) := hidp (by unfold maxLen; omega)
      have T2 : Hid ((k + 1 + 1) * 16 ≤ 140737488355328) := hidp (by omega)
      have W0 := hbx.trans (hbu.mono hbx.size)
      have W1 := W0.alloc W0.size (.cells #[.string x] 9)
      have Z2 : Hid (w.heap.size ≤ (u.alloc (.cells #[.string x] 9)).heap.size) := hidp W1.size
      have O2 := hidp (str_one [x])
      have Hfp := hidp (own_fp own4)
      have hW := hidp W1
      have HO := hidp (ho.turned TL (by simp))
      clear ho hbr hbu W0 W1 TL HCT hxv hbx c1 c2 c3 x0 x1 x2
      go_wp2_with (at_builtin; refine wpList_app2 _ rfl (.tmp 27) (.tmp 30) 38 rfl w.heap.size 9 i0 _ 1 16 Tryz.underlying38 hi0 hy0 hy1 hy2 rfl (by decide) A (k + 1) c _ rfl own4 _ _ 1 1 [.string x] rfl (by simp) rfl S2.out O2.out N2.out T2.out Z2.out ?_; intro A9 c9 w6 happ)
      go_roundg (gk - 1)
      case measure => omega
      case rel => exact ⟨k + 1, c9, A9, ls ++ [x], by omega, by go_num, by go_num, HO.out.app happ, hidp (by rw [List.map_append, HI.out, HTk.out]; simp [Hx.out.1]), hidp (fun y hy => (List.mem_append.1 hy).elim (HSz.out y) (fun h => by rw [List.mem_singleton.1 h]; have := Hx.out.2; omega)), hW.out.trans (happ.turned.below hW.out.size (fun i hi => (Hfp.out i hi).1))⟩
    · obtain rfl : k = N := by omega
      have hlen := ho.len
      have CJ := join_any 32 A c ls wr ho.at_ (by rw [← hlen]; exact ho.cap.1) (by omega) (by omega) HSz.out
      rw [← hlen] at CJ
      have HCJ := hidp CJ
      have HBR := hidp hbr
      have HV : Hid (joinT 32 (ls.map bl) = taskW (TaskR.rd ⟨nm, per, dl, prio, cl, pa, pc, ps⟩)) := hidp (by
        rw [HI.out, List.take_of_length_le (by rw [HN.out]; exact Nat.le_refl _)]
        unfold taskW TaskR.rd
        dsimp only
        rw [List.map_map]; rfl)
      clear ho hbr CJ hlen
      go_wp2_with fail
      refine HCJ.out.mono ?_
      rintro e u ⟨r, rfl, hv, hbu⟩
      have HB := hidp (HBR.out.trans (hbu.mono HBR.out.size))
      have HVr := hidp hv
      clear hv hbu HCJ
      go_wp2_with fail
      go_ret
      exact ⟨r, rfl, by rw [HVr.out, HV.out], HB.out⟩
end Go.Proofs.YtlmliefkhidpnaaGreatDoor

namespace Go.Proofs.YtlmliefkhidpnaaGreatDoor
open Go.ChangeShapes Go.WideShapes Go.ChangeAt Go.RowKit
set_option linter.unusedVariables false
set_option linter.unusedSimpArgs false
def SetR.rd (s : SetR) : RdT := ⟨s.proto, s.cores, s.homes, s.tasks.map TaskR.rd, 0, 0, []⟩
def printV (s : SetR) : Bts := if okS s = true then printT s.rd else []
/-- what must hold of the numbers of a set that may be, for its lines to be short -/
structure Brief (s : SetR) : Prop where
  cores : s.cores.length ≤ 3
  homes : s.homes.length ≤ 4
  tasks : s.tasks.length ≤ 6
  name : ∀ t ∈ s.tasks, t.name.size ≤ 100
  parts : ∀ t ∈ s.tasks, t.parts.length ≤ 100
theorem nameB_size {x : ByteArray} (h : nameB x = true) : x.size ≤ 8 := by
  unfold nameB at h
  rw [Bool.and_eq_true] at h
  exact (of_decide_eq_true h.1).2
theorem Brief.of {s : SetR} (h : okS s = true) : Brief s := by
  have g := Good.of h
  refine ⟨g.ncores.2, g.nhomes, g.ntasks.2, fun t ht => ?_, fun t ht => ?_⟩
  · have := g.form t ht
    unfold formB at this
    rw [Bool.and_eq_true] at this
    have := nameB_size this.1
    omega
  · have h1 := (okS_iff s).1 h
    obtain ⟨k, hk, rfl⟩ := mem_getD ht
    have h2 := (taskE_ok (h1.2 k hk)).2.2.2
    unfold partsB at h2
    rw [Bool.and_eq_true] at h2
    have := inB_true.1 h2.1
    omega
theorem protoW_len (p : Int) : (mkB (protoW p)).size ≤ 5 := by
  rw [← bl_len, bl_mk]
  unfold protoW
  split
  · decide
  · split <;> decide
def tProto : Bts := [112, 114, 111, 116, 111, 99, 111, 108, 32]
def tCores : Bts := [99, 111, 114, 101, 115]
def tHomes : Bts := [104, 111, 109, 101, 115]
set_option maxHeartbeats 16000000 in
set_option maxRecDepth 100000 in
theorem print_any (s : SetR) (w : World) (hs : SetOk w s) (ht : Tab w) : Calls Tryz.prog 9 #[.agg #[.int .i64 s.proto, .slice s.ca s.cores.length s.cc, .slice s.ha s.homes.length s.hc, .slice s.ta s.tasks.length s.tc]] w (StrPost w (printV s)) := by
  obtain ⟨proto, ca, cc, cores, ha, hc, homes, ta, tc, tasks⟩ := s
  have hb0 := (Below.refl w.heap.size w).alloc (Nat.le_refl _) (.cells #[.int .i64 proto, .slice ca cores.length cc, .slice ha homes.length hc, .slice ta tasks.length tc] 25)
  have B0 := Bk.new w 25 #[.int .i64 proto, .slice ca cores.length cc, .slice ha homes.length hc, .slice ta tasks.length tc]
  have HT : Hid (∀ u, Below w.heap.size w u → Tab u) := hidp (fun u hu => ht.over hu)
  have hs0 := hs.keep (Keeps.of_below hb0)
  have CC := hidp (check_any ⟨proto, ca, cc, cores, ha, hc, homes, ta, tc, tasks⟩ _ hs0)
  have HB0 := hidp hb0
  have HBK := hidp B0
  have HS0 := hidp hs0
  have HS := hidp hs
  obtain ⟨z0, z1, z2, z3⟩ := Z4 B0
  clear hb0 B0 hs0 hs ht
  obtain ⟨at_, Hat⟩ : ∃ v, Hid (chkAt ⟨proto, ca, cc, cores, ha, hc, homes, ta, tc, tasks⟩ = v) := ⟨_, hidp rfl⟩
  obtain ⟨ce, Hce⟩ : ∃ v, Hid (chkE ⟨proto, ca, cc, cores, ha, hc, homes, ta, tc, tasks⟩ = v) := ⟨_, hidp rfl⟩
  rw [Hat.out, Hce.out] at CC
  by_cases hok : ce = 0
  case neg =>
    have HV : Hid (printV ⟨proto, ca, cc, cores, ha, hc, homes, ta, tc, tasks⟩ = []) := hidp (by
      unfold printV okS
      rw [Hce.out, if_neg (by simpa using hok)])
    have f1 : (ce != 0) = true := by simpa using hok
    clear hok
    go_enter Tryz.func9, Tryz.ntmps9
    go_wp2_with fail
    refine CC.out.mono ?_
    rintro e u ⟨rfl, hbu⟩
    have HB := hidp (HB0.out.trans (hbu.mono HB0.out.size))
    clear hbu CC
    go_wp2_with fail
    go_ret
    exact ⟨⟨#[]⟩, rfl, by rw [HV.out]; rfl, HB.out⟩
  have HOK : Hid (okS ⟨proto, ca, cc, cores, ha, hc, homes, ta, tc, tasks⟩ = true) := hidp (by unfold okS; rw [Hce.out, hok]; rfl)
  have HBf := hidp (Brief.of HOK.out)
  have f1 : (ce != 0) = false := by simpa using hok
  have HTA := hidp HS.out.tasks.at_
  have HTO := hidp HS.out.tasks.ok
  obtain ⟨i0, hi0, hy0, hy1, hy2⟩ := info_parts infoStr
  obtain ⟨P, HPr⟩ : ∃ P, Hid (mkB (protoW proto) = P) := ⟨_, hidp rfl⟩
  have CP := hidp (fun u => protoName_any proto u)
  rw [HPr.out] at CP
  have hP5 : P.size ≤ 5 := by rw [← HPr.out]; exact protoW_len _
  have t1 : ¬ 9223372036854775807 < 9 + P.size := by omega
  have HPl : Hid (bl ((⟨#[112, 114, 111, 116, 111, 99, 111, 108, 32]⟩ : ByteArray) ++ P) = tProto ++ protoW proto ∧ ((⟨#[112, 114, 111, 116, 111, 99, 111, 108, 32]⟩ : ByteArray) ++ P).size ≤ 100) := hidp ⟨by rw [bl_append, ← HPr.out, bl_mk]; rfl, by rw [ByteArray.size_append]; show 9 + P.size ≤ 100; omega⟩
  have HCL : Hid (∀ u, Below w.heap.size w u → Calls Tryz.prog 24 #[.string ⟨#[99, 111, 114, 101, 115]⟩, .slice ca cores.length cc] u (StrPost u (numsW tCores cores))) := hidp (fun u hu => nline_any ⟨#[99, 111, 114, 101, 115]⟩ ca cc cores u (HS.out.cores.keep (Keeps.of_below hu)) (by have := HBf.out.cores; dsimp only at this; omega) (by decide) (HT.out u hu))
  have HHL : Hid (∀ u, Below w.heap.size w u → Calls Tryz.prog 24 #[.string ⟨#[104, 111, 109, 101, 115]⟩, .slice ha homes.length hc] u (StrPost u (numsW tHomes homes))) := hidp (fun u hu => nline_any ⟨#[104, 111, 109, 101, 115]⟩ ha hc homes u (HS.out.homes.keep (Keeps.of_below hu)) (by have := HBf.out.homes; dsimp only at this; omega) (by decide) (HT.out u hu))
  have HCz : Hid ((numsW tCores cores).length ≤ 100) := hidp (by
    have h1 := numsW_len tCores cores
    have h2 := HBf.out.cores
    dsimp only at h2
    have h3 : (cores.length + 1) * (tCores.length + 8) ≤ 4 * 13 := Nat.mul_le_mul (by omega) (by decide)
    omega)
  have HHz : Hid ((numsW tHomes homes).length ≤ 100) := hidp (by
    have h1 := numsW_len tHomes homes
    have h2 := HBf.out.homes
    dsimp only at h2
    have h3 : (homes.length + 1) * (tHomes.length + 8) ≤ 5 * 13 := Nat.mul_le_mul (by omega) (by decide)
    omega)
  obtain ⟨N, hN⟩ : ∃ N, tasks.length = N := ⟨_, rfl⟩
  have HN := hidp hN
  have hN6 : N ≤ 6 := by have := HBf.out.tasks; dsimp only at this; omega
  rw [hN] at z0 z1 z2 z3 CC HBK HB0 ⊢
  obtain ⟨M, hM⟩ : ∃ M, homes.length = M := ⟨_, rfl⟩
  have HMl := hidp hM
  rw [hM] at z0 z1 z2 z3 CC HBK HB0 HHL ⊢
  clear hok hP5 hN hM
  go_enter Tryz.func9, Tryz.ntmps9
  go_wp2_with fail
  refine CC.out.mono ?_
  rintro e w1 ⟨rfl, hb1⟩
  have HB1 := hidp (HB0.out.trans (hb1.mono HB0.out.size))
  have kb := Keeps.of_below hb1
  replace z0 : w1.drew.cell? ⟨w.heap.size, 0, none⟩ = some (.int .i64 proto) := kb _ _ z0
  replace z1 : w1.drew.cell? ⟨w.heap.size, 1, none⟩ = some (.slice ca cores.length cc) := kb _ _ z1
  replace z2 : w1.drew.cell? ⟨w.heap.size, 2, none⟩ = some (.slice ha M hc) := kb _ _ z2
  replace z3 : w1.drew.cell? ⟨w.heap.size, 3, none⟩ = some (.slice ta N tc) := kb _ _ z3
  have HBd : Hid (Below w.heap.size w w1.drew) := hidp (below_drewN HB1.out 1)
  clear hb1 kb CC HBK HB0 HB1
  go_wp2_with fail
  refine wp_region_held_drew (S := fun u => u.cell? ⟨w.heap.size, 0, none⟩ = some (.int .i64 proto) ∧ u.cell? ⟨w.heap.size, 1, none⟩ = some (.slice ca cores.length cc)) (by kernel_rfl) ?_ (fun hHeld => ?_)
  · exact ⟨z0, z1⟩
  generalize w1.drew = v at *
  refine wpAnyH_take (i := 0) (v := ?_) rfl (by kernel_rfl) (by kernel_rfl) (by kernel_rfl) (fun _ _ _ h => h) (Or.inl ⟨by rfl, ?_⟩) (by assumption) ?_
  rotate_left 1
  · ((intro w hSw; (try dsimp only at hSw); go_simp); (try with_reducible rfl))
  simp only [Act.put, List.setIfInBounds_toArray, List.set_cons_zero, List.set_cons_succ, List.getElem_toArray, List.getElem_cons_zero, List.getElem_cons_succ]
  refine wpAnyH_take (i := 1) (v := ?_) rfl (by kernel_rfl) (by kernel_rfl) (by kernel_rfl) (fun _ _ _ h => h) (Or.inl ⟨by rfl, ?_⟩) (by assumption) ?_
  rotate_left 1
  · ((intro w hSw; (try dsimp only at hSw); go_simp); (try with_reducible rfl))
  simp only [Act.put, List.setIfInBounds_toArray, List.set_cons_zero, List.set_cons_succ, List.getElem_toArray, List.getElem_cons_zero, List.getElem_cons_succ]
  refine wpAnyH_take (i := 4) (v := ?_) rfl (by kernel_rfl) (by kernel_rfl) (by kernel_rfl) (fun _ _ _ h => h) (Or.inl ⟨by rfl, ?_⟩) (by assumption) ?_
  rotate_left 1
  · ((intro w hSw; (try dsimp only at hSw); go_simp); (try with_reducible rfl))
  simp only [Act.put, List.setIfInBounds_toArray, List.set_cons_zero, List.set_cons_succ, List.getElem_toArray, List.getElem_cons_zero, List.getElem_cons_succ]
  refine wpAnyH_take (i := 5) (v := ?_) rfl (by kernel_rfl) (by kernel_rfl) (by kernel_rfl) (fun _ _ _ h => h) (Or.inl ⟨by rfl, ?_⟩) (by assumption) ?_
  rotate_left 1
  · ((intro w hSw; (try dsimp only at hSw); go_simp); (try with_reducible rfl))
  simp only [Act.put, List.setIfInBounds_toArray, List.set_cons_zero, List.set_cons_succ, List.getElem_toArray, List.getElem_cons_zero, List.getElem_cons_succ]
  refine wpAnyH_ready (rs := [2]) (by kernel_rfl) (by simp) ?_
  refine AllReadyH.cons rfl (fun K hK => ?_) AllReadyH.nil
  go_simp
  refine (CP.out _).mono ?_
  rintro e u0 ⟨rfl, rfl⟩
  refine hK.out _ _ ?_ (fun hHeld => ?_)
  · exact ⟨z0, z1⟩
  clear hK K
  try simp only [Act.put, List.setIfInBounds_toArray, List.set_cons_zero, List.set_cons_succ, List.getElem_toArray, List.getElem_cons_zero, List.getElem_cons_succ]
  refine wpAnyH_take (i := 3) (v := ?_) rfl (by kernel_rfl) (by kernel_rfl) (by kernel_rfl) (fun _ _ _ h => h) (Or.inl ⟨by rfl, ?_⟩) (by assumption) ?_
  rotate_left 1
  · ((intro w hSw; (try dsimp only at hSw); go_simp); (try with_reducible rfl))
  simp only [Act.put, List.setIfInBounds_toArray, List.set_cons_zero, List.set_cons_succ, List.getElem_toArray, List.getElem_cons_zero, List.getElem_cons_succ]
  refine wpAnyH_ready (rs := [6]) (by kernel_rfl) (by simp) ?_
  refine AllReadyH.cons rfl (fun K hK => ?_) AllReadyH.nil
  go_simp
  refine (HCL.out _ HBd.out).mono ?_
  rintro e u ⟨r, rfl, hv, hbu⟩
  have HGu : Hid (w.heap.size < u.heap.size) := hidp (cell_lt ((Keeps.of_below hbu) _ _ z0))
  have HCr : Hid (bl r = numsW tCores cores ∧ r.size ≤ 100) := hidp ⟨hv, by rw [← bl_len, hv]; exact HCz.out⟩
  have hbu2 := HBd.out.trans (hbu.mono HBd.out.size)
  have kb := Keeps.of_below hbu
  have y0 := kb _ _ z0
  have y1 := kb _ _ z1
  have y2 := kb _ _ z2
  have y3 := kb _ _ z3
  clear hv hbu kb z0 z1 z2 z3
  refine hK.out _ _ ?_ (fun hHeld => ?_)
  · exact ⟨y0, y1⟩
  clear hK K
  try simp only [Act.put, List.setIfInBounds_toArray, List.set_cons_zero, List.set_cons_succ, List.getElem_toArray, List.getElem_cons_zero, List.getElem_cons_succ]
  refine wpAnyH_ready (rs := [7]) (by kernel_rfl) (by simp) ?_
  refine AllReadyH.cons rfl (fun K hK => ?_) AllReadyH.nil
  go_simp
  have ka := Keeps.alloc u (.cells #[.string (⟨#[112, 114, 111, 116, 111, 99, 111, 108, 32]⟩ ++ P), .string r] 9)
  have x0 := ka _ _ y0
  have x1 := ka _ _ y1
  have x2 := ka _ _ y2
  have x3 := ka _ _ y3
  have o0 : OwnS w.heap.size (u.alloc (.cells #[.string (⟨#[112, 114, 111, 116, 111, 99, 111, 108, 32]⟩ ++ P), .string r] 9)) (some ⟨u.heap.size, 0, none⟩) 2 2 [(⟨#[112, 114, 111, 116, 111, 99, 111, 108, 32]⟩ ++ P), r] := ⟨own_lit (cs := [.string (⟨#[112, 114, 111, 116, 111, 99, 111, 108, 32]⟩ ++ P), .string r]) (Bk.new u 9 #[.string (⟨#[112, 114, 111, 116, 111, 99, 111, 108, 32]⟩ ++ P), .string r]) hbu2.size rfl (by decide), rfl, by decide, fun e => by cases e⟩
  have hbW := hbu2.alloc hbu2.size (.cells #[.string (⟨#[112, 114, 111, 116, 111, 99, 111, 108, 32]⟩ ++ P), .string r] 9)
  have HL0 : Hid ([(⟨#[112, 114, 111, 116, 111, 99, 111, 108, 32]⟩ ++ P), r].map bl = [tProto ++ protoW proto, numsW tCores cores]) := hidp (by simp [HPl.out.1, HCr.out.1])
  have HZ0 : Hid (∀ x ∈ [(⟨#[112, 114, 111, 116, 111, 99, 111, 108, 32]⟩ ++ P), r], x.size ≤ 100000) := hidp (fun x hx => by
    simp only [List.mem_cons, List.not_mem_nil, or_false] at hx
    rcases hx with rfl | rfl
    · exact Nat.le_trans HPl.out.2 (by decide)
    · exact Nat.le_trans HCr.out.2 (by decide))
  clear ka y0 y1 y2 y3
  refine hK.out _ _ ?_ (fun hHeld => ?_)
  · exact ⟨x0, x1⟩
  clear hK K
  try simp only [Act.put, List.setIfInBounds_toArray, List.set_cons_zero, List.set_cons_succ, List.getElem_toArray, List.getElem_cons_zero, List.getElem_cons_succ]
  refine wpAnyH_take (i := 8) (v := ?_) rfl (by kernel_rfl) (by kernel_rfl) (by kernel_rfl) (fun _ _ _ h => h) (Or.inl ⟨by rfl, ?_⟩) (by assumption) ?_
  rotate_left 1
  · ((intro w hSw; (try dsimp only at hSw); go_simp); (try with_reducible rfl))
  simp only [Act.put, List.setIfInBounds_toArray, List.set_cons_zero, List.set_cons_succ, List.getElem_toArray, List.getElem_cons_zero, List.getElem_cons_succ]
  refine wpAnyH_done (by kernel_rfl) ?_ _
  clear hHeld x0 x1
  by_cases hh : homes = []
  case pos =>
    have HHM : Hid ((if homes = [] then [] else [numsW [104, 111, 109, 101, 115] homes] : List Bts) = []) := hidp (if_pos hh)
    have gH : ¬ (0 : Int) < (M : Int) := by have := HMl.out; rw [hh] at this; simp at this; omega
    have c3 := x3
    clear hh x3
    go_wp2_with fail
    go_loopg [5, 36] N (fun g all i wr => ∃ (k c : Nat) (A : Option Addr) (ls : List ByteArray), k + g = N ∧ i = .int .i64 k ∧ all = .slice A (k + 2) c ∧ OwnS w.heap.size wr A (k + 2) c ls ∧ Hid (ls.map bl = [tProto ++ protoW proto, numsW tCores cores] ++ (tasks.take k).map (fun t => taskW t.rd)) ∧ Hid (∀ x ∈ ls, x.size ≤ 100000) ∧ Below w.heap.size w wr)
    case atStart => exact ⟨0, 2, some ⟨u.heap.size, 0, none⟩, [(⟨#[112, 114, 111, 116, 111, 99, 111, 108, 32]⟩ ++ P), r], by omega, rfl, rfl, o0, hidp (by rw [HL0.out]; simp), HZ0, hbW⟩
    case round =>
      clear o0 hbW c3
      try clear x2
      obtain ⟨k, c, A, ls, hk, rfl, rfl, ho, HI, HSz, hbr⟩ := hrel
      by_cases hin : k < N
      · obtain ⟨gt, ot, rfl, hc⟩ := (HTA.out.keep (Keeps.of_below hbr)).resolve_left (by intro e; have := HN.out; rw [e] at this; simp at this; omega)
        have hkl : k < tasks.length := by rw [HN.out]; exact hin
        obtain ⟨⟨nm, per, dl, prio, cl, pa, pc, ps⟩, Ht⟩ : ∃ t, Hid (tasks.getD k default = t) := ⟨_, hidp rfl⟩
        obtain ⟨c1, c2, c3, c4, c5, c6⟩ : TaskCells wr gt (ot + k * 6) ⟨nm, per, dl, prio, cl, pa, pc, ps⟩ := Ht.out ▸ hc k hkl
        dsimp only at c1 c2 c3 c4 c5 c6
        have HTm : Hid ((⟨nm, per, dl, prio, cl, pa, pc, ps⟩ : TaskR) ∈ tasks) := hidp (by rw [← Ht.out]; simp [List.getD, hkl])
        have HTk : Hid ((tasks.take (k + 1)).map (fun t => taskW t.rd) = (tasks.take k).map (fun t => taskW t.rd) ++ [taskW (TaskR.rd ⟨nm, per, dl, prio, cl, pa, pc, ps⟩)]) := hidp (by
          rw [List.take_succ_eq_append_getElem hkl, List.map_append, ← Ht.out]
          simp [List.getD, hkl])
        have hbx := hbr.alloc hbr.size (.cells #[.string nm, .int .i64 per, .int .i64 dl, .int .i64 prio, .int .i64 cl, .slice pa ps.length pc] 44)
        have HTok := hidp ((HTO.out _ HTm.out).keep (Keeps.of_below hbx))
        have HCT := hidp (taskLine_any ⟨nm, per, dl, prio, cl, pa, pc, ps⟩ _ HTok.out (HBf.out.name _ HTm.out) (HBf.out.parts _ HTm.out) (HT.out _ hbx))
        have HPL : Hid ((taskW (TaskR.rd ⟨nm, per, dl, prio, cl, pa, pc, ps⟩)).length ≤ 100000) := hidp (by
          have h1 := taskW_len (TaskR.rd ⟨nm, per, dl, prio, cl, pa, pc, ps⟩)
          have h2 := HBf.out.name _ HTm.out
          have h3 := HBf.out.parts _ HTm.out
          dsimp only at h2 h3
          have e1 : (TaskR.rd ⟨nm, per, dl, prio, cl, pa, pc, ps⟩).parts.length = ps.length := by simp [TaskR.rd]
          have e2 : (TaskR.rd ⟨nm, per, dl, prio, cl, pa, pc, ps⟩).name.length = nm.size := by simp [TaskR.rd, bl_len]
          rw [e1, e2] at h1
          have h4 : (ps.length + 1) * (5 * (nm.size + 13) + 22) ≤ 101 * (5 * (100 + 13) + 22) := Nat.mul_le_mul (by omega) (by omega)
          omega)
        have b1 : (0 : Int) ≤ (k : Int) := by omega
        have b2 : (k : Int) < (N : Int) := by omega
        have BP := Bk.new wr 44 #[.string nm, .int .i64 per, .int .i64 dl, .int .i64 prio, .int .i64 cl, .slice pa ps.length pc]
        obtain ⟨x0, x1, x2, x3, x4, x5⟩ : (wr.alloc (.cells #[.string nm, .int .i64 per, .int .i64 dl, .int .i64 prio, .int .i64 cl, .slice pa ps.length pc] 44)).cell? ⟨wr.heap.size, 0, none⟩ = some (.string nm) ∧ (wr.alloc (.cells #[.string nm, .int .i64 per, .int .i64 dl, .int .i64 prio, .int .i64 cl, .slice pa ps.length pc] 44)).cell? ⟨wr.heap.size, 1, none⟩ = some (.int .i64 per) ∧ (wr.alloc (.cells #[.string nm, .int .i64 per, .int .i64 dl, .int .i64 prio, .int .i64 cl, .slice pa ps.length pc] 44)).cell? ⟨wr.heap.size, 2, none⟩ = some (.int .i64 dl) ∧ (wr.alloc (.cells #[.string nm, .int .i64 per, .int .i64 dl, .int .i64 prio, .int .i64 cl, .slice pa ps.length pc] 44)).cell? ⟨wr.heap.size, 3, none⟩ = some (.int .i64 prio) ∧ (wr.alloc (.cells #[.string nm, .int .i64 per, .int .i64 dl, .int .i64 prio, .int .i64 cl, .slice pa ps.length pc] 44)).cell? ⟨wr.heap.size, 4, none⟩ = some (.int .i64 cl) ∧ (wr.alloc (.cells #[.string nm, .int .i64 per, .int .i64 dl, .int .i64 prio, .int .i64 cl, .slice pa ps.length pc] 44)).cell? ⟨wr.heap.size, 5, none⟩ = some (.slice pa ps.length pc) := ⟨BP.cell 0, BP.cell 1, BP.cell 2, BP.cell 3, BP.cell 4, BP.cell 5⟩
        clear hc hkl BP
        go_wp2_with fail
        refine HCT.out.mono ?_
        rintro e u ⟨x, rfl, hxv, hbu⟩
        have Hx : Hid (bl x = taskW (TaskR.rd ⟨nm, per, dl, prio, cl, pa, pc, ps⟩) ∧ x.size ≤ 100000) := hidp ⟨hxv, by rw [← bl_len, hxv]; exact HPL.out⟩
        have TL : Turned [] wr (u.alloc (.cells #[.string x] 9)) := (((Turned.refl [] wr).alloc _).trans (Turned.of_below hbu []) (by simp)).alloc _
        have own4 := own_turned ho.own TL (by simp)
        have S2 := hidp (new_liesW u [.string x] 9)
        have N2 : Hid (k + 2 + 1 ≤ maxLen) := hidp (by unfold maxLen; omega)
        have T2 : Hid ((k + 2 + 1) * 16 ≤ 140737488355328) := hidp (by omega)
        have W0 := hbx.trans (hbu.mono hbx.size)
        have W1 := W0.alloc W0.size (.cells #[.string x] 9)
        have Z2 : Hid (w.heap.size ≤ (u.alloc (.cells #[.string x] 9)).heap.size) := hidp W1.size
        have O2 := hidp (str_one [x])
        have Hfp := hidp (own_fp own4)
        have hW := hidp W1
        have HO := hidp (ho.turned TL (by simp))
        clear ho hbr hbu W0 W1 TL HCT hxv hbx c1 c2 c3 c4 c5 c6 x0 x1 x2 x3 x4 x5
        go_wp2_with (at_builtin; refine wpList_app2 _ rfl (.tmp 40) (.tmp 43) 38 rfl w.heap.size 9 i0 _ 1 16 Tryz.underlying38 hi0 hy0 hy1 hy2 rfl (by decide) A (k + 2) c _ rfl own4 _ _ 1 1 [.string x] rfl (by simp) rfl S2.out O2.out N2.out T2.out Z2.out ?_; intro A9 c9 w6 happ)
        go_roundg (gk - 1)
        case measure => omega
        case rel => exact ⟨k + 1, c9, A9, ls ++ [x], by omega, by go_num, by rw [show k + 1 + 2 = k + 2 + 1 by omega], by rw [show k + 1 + 2 = k + 2 + 1 by omega]; exact HO.out.app happ, hidp (by rw [List.map_append, HI.out, HTk.out]; simp [Hx.out.1]), hidp (fun y hy => (List.mem_append.1 hy).elim (HSz.out y) (fun h => by rw [List.mem_singleton.1 h]; exact Hx.out.2)), hW.out.trans (happ.turned.below hW.out.size (fun i hi => (Hfp.out i hi).1))⟩
      · obtain rfl : k = N := by omega
        have hlen := ho.len
        have CJ := join_any 10 A c ls wr ho.at_ (by rw [← hlen]; exact ho.cap.1) (by omega) (by omega) HSz.out
        rw [← hlen] at CJ
        have HCJ := hidp CJ
        have HBR := hidp hbr
        have HV : Hid (joinT 10 (ls.map bl) ++ [10] = printV ⟨proto, ca, cc, cores, ha, hc, homes, ta, tc, tasks⟩) := hidp (by
          rw [HI.out, List.take_of_length_le (by rw [HN.out]; exact Nat.le_refl _)]
          unfold printV
          rw [if_pos HOK.out]
          unfold printT SetR.rd
          dsimp only
          rw [HHM.out, List.map_map]
          rfl)
        have HJL : Hid ((joinT 10 (ls.map bl)).length ≤ 1000 * 100001) := hidp (by
          refine Nat.le_trans (joinT_len (m := 100000) (fun y hy => ?_)) (Nat.mul_le_mul (by rw [List.length_map, ← hlen]; omega) (Nat.le_refl _))
          obtain ⟨z, hz, rfl⟩ := List.mem_map.1 hy
          rw [bl_len]; exact HSz.out z hz)
        clear ho hbr CJ hlen
        go_wp2_with fail
        refine HCJ.out.mono ?_
        rintro e u ⟨r, rfl, hv, hbu⟩
        have HB := hidp (HBR.out.trans (hbu.mono HBR.out.size))
        have HVr := hidp hv
        have hrs : r.size ≤ 1000 * 100001 := by rw [← bl_len, hv]; exact HJL.out
        have t9 : ¬ 9223372036854775807 < r.size + 1 := by omega
        clear hv hbu HCJ hrs
        go_wp2_with fail
        go_ret
        exact ⟨_, rfl, by rw [bl_append, HVr.out]; exact HV.out, HB.out⟩
  case neg =>
    have HHM : Hid ((if homes = [] then [] else [numsW [104, 111, 109, 101, 115] homes] : List Bts) = [numsW tHomes homes]) := hidp (if_neg hh)
    have hpos := List.length_pos_iff.2 hh
    have gH : (0 : Int) < (M : Int) := by have := HMl.out; omega
    have HHC := hidp (HHL.out _ hbW)
    clear hh hpos
    go_wp2_with fail
    refine HHC.out.mono ?_
    rintro e u2 ⟨r2, rfl, hv2, hbu3⟩
    have Hr2 : Hid (bl r2 = numsW tHomes homes ∧ r2.size ≤ 100) := hidp ⟨hv2, by rw [← bl_len, hv2]; exact HHz.out⟩
    have TL : Turned [] (u.alloc (.cells #[.string (⟨#[112, 114, 111, 116, 111, 99, 111, 108, 32]⟩ ++ P), .string r] 9)) (u2.alloc (.cells #[.string r2] 9)) := (Turned.of_below hbu3 []).alloc _
    have own4 := own_turned o0.own TL (by simp)
    have S2 := hidp (new_liesW u2 [.string r2] 9)
    have W0 := hbW.trans (hbu3.mono hbW.size)
    have W1 := W0.alloc W0.size (.cells #[.string r2] 9)
    have Z2 : Hid (w.heap.size ≤ (u2.alloc (.cells #[.string r2] 9)).heap.size) := hidp W1.size
    have O2 := hidp (str_one [r2])
    have Hfp := hidp (own_fp own4)
    have hW := hidp W1
    have HO := hidp (o0.turned TL (by simp))
    have HLa := HL0
    have HZa := HZ0
    have HX3 := hidp ((Keeps.alloc u2 (.cells #[.string r2] 9)) _ _ ((Keeps.of_below hbu3) _ _ x3))
    have G9 : Hid (w.heap.size ∉ fp (some (⟨u.heap.size, 0, none⟩ : Addr))) := hidp (by have := HGu.out; simp [fp]; omega)
    clear o0 hbW hbu3 W0 W1 TL HHC hv2 x2 x3 HL0 HZ0
    go_wp2_with (at_builtin; refine wpList_app2 _ rfl (.tmp 27) (.tmp 31) 38 rfl w.heap.size 9 i0 _ 1 16 Tryz.underlying38 hi0 hy0 hy1 hy2 rfl (by decide) (some ⟨u.heap.size, 0, none⟩) 2 2 _ rfl own4 _ _ 1 1 [.string r2] rfl (by simp) rfl S2.out O2.out (by decide) (by decide) Z2.out ?_; intro A8 c8 w8 happ; have c3 := happ.turned.cell HX3.out G9.out)
    have o0 : OwnS w.heap.size w8 A8 3 c8 ([(⟨#[112, 114, 111, 116, 111, 99, 111, 108, 32]⟩ ++ P), r] ++ [r2]) := HO.out.app happ
    have hbW := hW.out.trans (happ.turned.below hW.out.size (fun i hi => (Hfp.out i hi).1))
    have HL0 : Hid (([(⟨#[112, 114, 111, 116, 111, 99, 111, 108, 32]⟩ ++ P), r] ++ [r2]).map bl = [tProto ++ protoW proto, numsW tCores cores, numsW tHomes homes]) := hidp (by rw [List.map_append, HLa.out]; simp [Hr2.out.1])
    have HZ0 : Hid (∀ x ∈ [(⟨#[112, 114, 111, 116, 111, 99, 111, 108, 32]⟩ ++ P), r] ++ [r2], x.size ≤ 100000) := hidp (fun y hy => (List.mem_append.1 hy).elim (HZa.out y) (fun h => by rw [List.mem_singleton.1 h]; exact Nat.le_trans Hr2.out.2 (by decide)))
    clear happ own4 HO
    go_loopg [5, 36] N (fun g all i wr => ∃ (k c : Nat) (A : Option Addr) (ls : List ByteArray), k + g = N ∧ i = .int .i64 k ∧ all = .slice A (k + 3) c ∧ OwnS w.heap.size wr A (k + 3) c ls ∧ Hid (ls.map bl = [tProto ++ protoW proto, numsW tCores cores, numsW tHomes homes] ++ (tasks.take k).map (fun t => taskW t.rd)) ∧ Hid (∀ x ∈ ls, x.size ≤ 100000) ∧ Below w.heap.size w wr)
    case atStart => exact ⟨0, c8, A8, ([(⟨#[112, 114, 111, 116, 111, 99, 111, 108, 32]⟩ ++ P), r] ++ [r2]), by omega, rfl, rfl, o0, hidp (by rw [HL0.out]; simp), HZ0, hbW⟩
    case round =>
      clear o0 hbW c3
      try clear x2
      obtain ⟨k, c, A, ls, hk, rfl, rfl, ho, HI, HSz, hbr⟩ := hrel
      by_cases hin : k < N
      · obtain ⟨gt, ot, rfl, hc⟩ := (HTA.out.keep (Keeps.of_below hbr)).resolve_left (by intro e; have := HN.out; rw [e] at this; simp at this; omega)
        have hkl : k < tasks.length := by rw [HN.out]; exact hin
        obtain ⟨⟨nm, per, dl, prio, cl, pa, pc, ps⟩, Ht⟩ : ∃ t, Hid (tasks.getD k default = t) := ⟨_, hidp rfl⟩
        obtain ⟨c1, c2, c3, c4, c5, c6⟩ : TaskCells wr gt (ot + k * 6) ⟨nm, per, dl, prio, cl, pa, pc, ps⟩ := Ht.out ▸ hc k hkl
        dsimp only at c1 c2 c3 c4 c5 c6
        have HTm : Hid ((⟨nm, per, dl, prio, cl, pa, pc, ps⟩ : TaskR) ∈ tasks) := hidp (by rw [← Ht.out]; simp [List.getD, hkl])
        have HTk : Hid ((tasks.take (k + 1)).map (fun t => taskW t.rd) = (tasks.take k).map (fun t => taskW t.rd) ++ [taskW (TaskR.rd ⟨nm, per, dl, prio, cl, pa, pc, ps⟩)]) := hidp (by
          rw [List.take_succ_eq_append_getElem hkl, List.map_append, ← Ht.out]
          simp [List.getD, hkl])
        have hbx := hbr.alloc hbr.size (.cells #[.string nm, .int .i64 per, .int .i64 dl, .int .i64 prio, .int .i64 cl, .slice pa ps.length pc] 44)
        have HTok := hidp ((HTO.out _ HTm.out).keep (Keeps.of_below hbx))
        have HCT := hidp (taskLine_any ⟨nm, per, dl, prio, cl, pa, pc, ps⟩ _ HTok.out (HBf.out.name _ HTm.out) (HBf.out.parts _ HTm.out) (HT.out _ hbx))
        have HPL : Hid ((taskW (TaskR.rd ⟨nm, per, dl, prio, cl, pa, pc, ps⟩)).length ≤ 100000) := hidp (by
          have h1 := taskW_len (TaskR.rd ⟨nm, per, dl, prio, cl, pa, pc, ps⟩)
          have h2 := HBf.out.name _ HTm.out
          have h3 := HBf.out.parts _ HTm.out
          dsimp only at h2 h3
          have e1 : (TaskR.rd ⟨nm, per, dl, prio, cl, pa, pc, ps⟩).parts.length = ps.length := by simp [TaskR.rd]
          have e2 : (TaskR.rd ⟨nm, per, dl, prio, cl, pa, pc, ps⟩).name.length = nm.size := by simp [TaskR.rd, bl_len]
          rw [e1, e2] at h1
          have h4 : (ps.length + 1) * (5 * (nm.size + 13) + 22) ≤ 101 * (5 * (100 + 13) + 22) := Nat.mul_le_mul (by omega) (by omega)
          omega)
        have b1 : (0 : Int) ≤ (k : Int) := by omega
        have b2 : (k : Int) < (N : Int) := by omega
        have BP := Bk.new wr 44 #[.string nm, .int .i64 per, .int .i64 dl, .int .i64 prio, .int .i64 cl, .slice pa ps.length pc]
        obtain ⟨x0, x1, x2, x3, x4, x5⟩ : (wr.alloc (.cells #[.string nm, .int .i64 per, .int .i64 dl, .int .i64 prio, .int .i64 cl, .slice pa ps.length pc] 44)).cell? ⟨wr.heap.size, 0, none⟩ = some (.string nm) ∧ (wr.alloc (.cells #[.string nm, .int .i64 per, .int .i64 dl, .int .i64 prio, .int .i64 cl, .slice pa ps.length pc] 44)).cell? ⟨wr.heap.size, 1, none⟩ = some (.int .i64 per) ∧ (wr.alloc (.cells #[.string nm, .int .i64 per, .int .i64 dl, .int .i64 prio, .int .i64 cl, .slice pa ps.length pc] 44)).cell? ⟨wr.heap.size, 2, none⟩ = some (.int .i64 dl) ∧ (wr.alloc (.cells #[.string nm, .int .i64 per, .int .i64 dl, .int .i64 prio, .int .i64 cl, .slice pa ps.length pc] 44)).cell? ⟨wr.heap.size, 3, none⟩ = some (.int .i64 prio) ∧ (wr.alloc (.cells #[.string nm, .int .i64 per, .int .i64 dl, .int .i64 prio, .int .i64 cl, .slice pa ps.length pc] 44)).cell? ⟨wr.heap.size, 4, none⟩ = some (.int .i64 cl) ∧ (wr.alloc (.cells #[.string nm, .int .i64 per, .int .i64 dl, .int .i64 prio, .int .i64 cl, .slice pa ps.length pc] 44)).cell? ⟨wr.heap.size, 5, none⟩ = some (.slice pa ps.length pc) := ⟨BP.cell 0, BP.cell 1, BP.cell 2, BP.cell 3, BP.cell 4, BP.cell 5⟩
        clear hc hkl BP
        go_wp2_with fail
        refine HCT.out.mono ?_
        rintro e u ⟨x, rfl, hxv, hbu⟩
        have Hx : Hid (bl x = taskW (TaskR.rd ⟨nm, per, dl, prio, cl, pa, pc, ps⟩) ∧ x.size ≤ 100000) := hidp ⟨hxv, by rw [← bl_len, hxv]; exact HPL.out⟩
        have TL : Turned [] wr (u.alloc (.cells #[.string x] 9)) := (((Turned.refl [] wr).alloc _).trans (Turned.of_below hbu []) (by simp)).alloc _
        have own4 := own_turned ho.own TL (by simp)
        have S2 := hidp (new_liesW u [.string x] 9)
        have N2 : Hid (k + 3 + 1 ≤ maxLen) := hidp (by unfold maxLen; omega)
        have T2 : Hid ((k + 3 + 1) * 16 ≤ 140737488355328) := hidp (by omega)
        have W0 := hbx.trans (hbu.mono hbx.size)
        have W1 := W0.alloc W0.size (.cells #[.string x] 9)
        have Z2 : Hid (w.heap.size ≤ (u.alloc (.cells #[.string x] 9)).heap.size) := hidp W1.size
        have O2 := hidp (str_one [x])
        have Hfp := hidp (own_fp own4)
        have hW := hidp W1
        have HO := hidp (ho.turned TL (by simp))
        clear ho hbr hbu W0 W1 TL HCT hxv hbx c1 c2 c3 c4 c5 c6 x0 x1 x2 x3 x4 x5
        go_wp2_with (at_builtin; refine wpList_app2 _ rfl (.tmp 40) (.tmp 43) 38 rfl w.heap.size 9 i0 _ 1 16 Tryz.underlying38 hi0 hy0 hy1 hy2 rfl (by decide) A (k + 3) c _ rfl own4 _ _ 1 1 [.string x] rfl (by simp) rfl S2.out O2.out N2.out T2.out Z2.out ?_; intro A9 c9 w6 happ)
        go_roundg (gk - 1)
        case measure => omega
        case rel => exact ⟨k + 1, c9, A9, ls ++ [x], by omega, by go_num, by rw [show k + 1 + 3 = k + 3 + 1 by omega], by rw [show k + 1 + 3 = k + 3 + 1 by omega]; exact HO.out.app happ, hidp (by rw [List.map_append, HI.out, HTk.out]; simp [Hx.out.1]), hidp (fun y hy => (List.mem_append.1 hy).elim (HSz.out y) (fun h => by rw [List.mem_singleton.1 h]; exact Hx.out.2)), hW.out.trans (happ.turned.below hW.out.size (fun i hi => (Hfp.out i hi).1))⟩
      · obtain rfl : k = N := by omega
        have hlen := ho.len
        have CJ := join_any 10 A c ls wr ho.at_ (by rw [← hlen]; exact ho.cap.1) (by omega) (by omega) HSz.out
        rw [← hlen] at CJ
        have HCJ := hidp CJ
        have HBR := hidp hbr
        have HV : Hid (joinT 10 (ls.map bl) ++ [10] = printV ⟨proto, ca, cc, cores, ha, hc, homes, ta, tc, tasks⟩) := hidp (by
          rw [HI.out, List.take_of_length_le (by rw [HN.out]; exact Nat.le_refl _)]
          unfold printV
          rw [if_pos HOK.out]
          unfold printT SetR.rd
          dsimp only
          rw [HHM.out, List.map_map]
          rfl)
        have HJL : Hid ((joinT 10 (ls.map bl)).length ≤ 1000 * 100001) := hidp (by
          refine Nat.le_trans (joinT_len (m := 100000) (fun y hy => ?_)) (Nat.mul_le_mul (by rw [List.length_map, ← hlen]; omega) (Nat.le_refl _))
          obtain ⟨z, hz, rfl⟩ := List.mem_map.1 hy
          rw [bl_len]; exact HSz.out z hz)
        clear ho hbr CJ hlen
        go_wp2_with fail
        refine HCJ.out.mono ?_
        rintro e u ⟨r, rfl, hv, hbu⟩
        have HB := hidp (HBR.out.trans (hbu.mono HBR.out.size))
        have HVr := hidp hv
        have hrs : r.size ≤ 1000 * 100001 := by rw [← bl_len, hv]; exact HJL.out
        have t9 : ¬ 9223372036854775807 < r.size + 1 := by omega
        clear hv hbu HCJ hrs
        go_wp2_with fail
        go_ret
        exact ⟨_, rfl, by rw [bl_append, HVr.out]; exact HV.out, HB.out⟩
end Go.Proofs.YtlmliefkhidpnaaGreatDoor

namespace Go.Proofs.YtlmliefkhidpnaaGreatDoor
open Go.ChangeShapes Go.WideShapes Go.ChangeAt Go.RowKit
set_option linter.unusedVariables false
set_option linter.unusedSimpArgs false
theorem isSet_ok {x : Except (Nat × Int) RdT} {r : RdT} (h : isSet x r = true) : x = .ok r := by
  unfold isSet at h
  cases x with
  | error p => cases h
  | ok q => exact congrArg Except.ok (of_decide_eq_true h)
theorem isErr_err {x : Except (Nat × Int) RdT} {n : Nat} {e : Int} (h : isErr x n e = true) : x = .error (n, e) := by
  unfold isErr at h
  cases x with
  | ok q => cases h
  | error p => exact congrArg Except.error (of_decide_eq_true h)
theorem parseV_err {t : Bts} {n : Nat} {e : Int} (hl : t.length ≤ 2000) (h : readT t = .error (n, e)) : parseV t = (noSet, (n : Int), e) := by
  unfold parseV
  rw [if_neg (by omega), h]
theorem parseV_ok {t : Bts} {r : RdT} (hl : t.length ≤ 2000) (h : readT t = .ok r) : parseV t = toldV r (linesL t).length := by
  unfold parseV
  rw [if_neg (by omega), h]
def k9A : Bts := [112, 114, 111, 116, 111, 99, 111, 108, 32, 102, 97, 105, 114, 10, 99, 111, 114, 101, 115, 32, 49, 10, 104, 111, 109, 101, 115, 32, 48, 10, 10, 116, 97, 115, 107, 32, 97, 32, 49, 48, 32, 49, 48, 32, 49, 32, 48, 32, 114, 117, 110, 58, 51, 32, 108, 111, 99, 107, 58, 48, 58, 50, 32, 35, 32, 115, 111, 10]
def k9B : Bts := [112, 114, 111, 116, 111, 99, 111, 108, 32, 102, 97, 105, 114, 10, 99, 111, 114, 101, 115, 32, 49, 10, 104, 111, 109, 101, 115, 32, 48, 10, 116, 97, 115, 107, 32, 97, 32, 49, 48, 32, 49, 48, 32, 49, 32, 48, 32, 108, 111, 99, 107, 58, 48, 58, 108, 111, 99, 107, 58, 48, 58, 50, 10]
def k9C : Bts := [99, 111, 114, 101, 115, 32, 49, 10]
def k9R : RdT := ⟨1, [1], [0], [⟨[97], 10, 10, 1, 0, [⟨1, 3, 0⟩, ⟨3, 2, 0⟩]⟩], 3, 1, [4]⟩
theorem k9_chk : chkE k9R.bare = 0 := by decide +kernel
theorem k9_a : parseV k9A = (k9R.bare, 5, 0) := by
  refine (parseV_ok (t := k9A) (r := k9R) (by decide) (isSet_ok known9_1)).trans ?_
  unfold toldV
  rw [if_pos k9_chk, show (linesL k9A).length = 5 by decide +kernel]
  rfl
theorem k9_b : parseV k9B = (noSet, 3, 18) := parseV_err (by decide) (isErr_err known9_2)
theorem k9_c : parseV k9C = (noSet, 0, 10) := parseV_err (by decide) (isErr_err known9_3)
theorem printV_bare {s t : SetR} (h : s.bare = t.bare) : printV s = printV t := by
  have h1 : okS s = okS t := by unfold okS; rw [(chk_same h).2]
  have h2 : s.rd = t.rd := by
    obtain ⟨a, b, c, d, e, f, g, i, j, ts⟩ := s
    obtain ⟨a2, b2, c2, d2, e2, f2, g2, i2, j2, ts2⟩ := t
    unfold SetR.bare at h
    injection h with e1 _ _ e4 _ _ e7 _ _ e10
    dsimp only at *
    subst e1; subst e4; subst e7
    unfold SetR.rd
    dsimp only
    have : ts.map TaskR.rd = ts2.map TaskR.rd := by
      have h3 : ∀ u : List TaskR, u.map TaskR.rd = (u.map TaskR.bare).map TaskR.rd := fun u => by rw [List.map_map]; rfl
      rw [h3 ts, h3 ts2, e10]
    rw [this]
  unfold printV
  rw [h1, h2]
theorem k9_p : printV k9R.bare = [112, 114, 111, 116, 111, 99, 111, 108, 32, 102, 97, 105, 114, 10, 99, 111, 114, 101, 115, 32, 49, 10, 104, 111, 109, 101, 115, 32, 48, 10, 116, 97, 115, 107, 32, 97, 32, 49, 48, 32, 49, 48, 32, 49, 32, 48, 32, 114, 117, 110, 58, 51, 32, 108, 111, 99, 107, 58, 48, 58, 50, 10] := by
  have h : okS k9R.bare = true := by unfold okS; rw [k9_chk]; rfl
  unfold printV
  rw [h]
  exact known9_4
theorem one_task {s : SetR} {r : RdT} (h : s.bare = r.bare) {t : TaskT} (hr : r.tasks = [t]) : ∃ u : TaskR, s.tasks = [u] ∧ u.parts = t.parts.map PartT.m := by
  have h1 : s.tasks.map TaskR.bare = r.tasks.map TaskT.bare := congrArg SetR.tasks h
  rw [hr] at h1
  match hs : s.tasks, h1 with
  | [u], h1 =>
    refine ⟨u, rfl, ?_⟩
    simp only [List.map_cons, List.map_nil, List.cons.injEq, and_true] at h1
    exact congrArg TaskR.parts h1
  | [], h1 => simp at h1
  | a :: b :: c, h1 => simp at h1
set_option maxHeartbeats 8000000 in
set_option maxRecDepth 100000 in
theorem known9_any (w : World) (m : Int) (hm : w.cell? ⟨0, 0, none⟩ = some (.int .i64 m)) (ht : Tab w) : Calls Tryz.prog 5 #[] w fun e w' => e = .returned (.bool true) ∧ Below w.heap.size w w' := by
  have HM := hidp hm
  have HT : Hid (∀ u, Below w.heap.size w u → Tab u) := hidp (fun u hu => ht.over hu)
  have C1 := hidp (parse_any (mkB k9A) m w hm)
  clear hm ht
  go_enter Tryz.func5, Tryz.ntmps5
  go_wp2_with fail
  refine C1.out.mono ?_
  rintro e w1 hp
  rw [show bl (mkB k9A) = k9A from rfl, k9_a] at hp
  obtain ⟨x1, rfl, hs1, hx1, hb1⟩ := hp
  obtain ⟨u1, ht1, hq1⟩ := one_task hx1 (t := ⟨[97], 10, 10, 1, 0, [⟨1, 3, 0⟩, ⟨3, 2, 0⟩]⟩) rfl
  obtain ⟨proto, ca, cc, cores, ha, hc, homes, ta, tc, tasks⟩ := x1
  dsimp only at ht1
  subst ht1
  obtain ⟨nm, per, dl, prio, cl, pa, pc, ps⟩ := u1
  dsimp only at hq1
  subst hq1
  obtain ⟨gt, ot, rfl, hct⟩ := hs1.tasks.at_.resolve_left (by simp)
  have hc5 : w1.cell? ⟨gt, ot + 5, none⟩ = some (.slice pa 2 pc) := (hct 0 (by simp)).2.2.2.2.2
  obtain ⟨gp, op, rfl, hcp⟩ := (hs1.tasks.ok _ (List.mem_singleton.2 rfl)).at_.resolve_left (by simp)
  obtain ⟨p0, p1, p2⟩ : PartCells w1 gp (op + 1 * 3) ⟨3, 2, 0⟩ := hcp 1 (by simp)
  dsimp only at p0 p1 p2
  have HB1 := hidp hb1
  have HX1 := hidp hx1
  have hb1a := hb1.alloc hb1.size (.cells #[.int .i64 proto, .slice ca cores.length cc, .slice ha homes.length hc, .slice (some ⟨gt, ot, none⟩) 1 tc] 25)
  have BX := Bk.new w1 25 #[.int .i64 proto, .slice ca cores.length cc, .slice ha homes.length hc, .slice (some ⟨gt, ot, none⟩) 1 tc]
  have ka := Keeps.alloc w1 (.cells #[.int .i64 proto, .slice ca cores.length cc, .slice ha homes.length hc, .slice (some ⟨gt, ot, none⟩) 1 tc] 25)
  have HS1 := hidp (hs1.keep ka)
  replace hc5 := ka _ _ hc5
  replace p0 := ka _ _ p0
  replace p1 := ka _ _ p1
  replace p2 := ka _ _ p2
  have C2 := hidp (parse_any (mkB k9B) m _ (mem_max HM.out hb1a))
  have HB1a := hidp hb1a
  have HBX := hidp BX
  clear hb1 hb1a ka hs1 hct hcp hx1 C1 BX
  go_wp2_with fail
  refine C2.out.mono ?_
  rintro e w2 hp
  rw [show bl (mkB k9B) = k9B from rfl, k9_b] at hp
  obtain ⟨x2, rfl, hs2, hx2, hb2⟩ := hp
  have kb := Keeps.of_below hb2
  have ka := Keeps.alloc w2 (.cells #[.int .i64 x2.proto, .slice x2.ca x2.cores.length x2.cc, .slice x2.ha x2.homes.length x2.hc, .slice x2.ta x2.tasks.length x2.tc] 25)
  replace hc5 := ka _ _ (kb _ _ hc5)
  replace p0 := ka _ _ (kb _ _ p0)
  replace p1 := ka _ _ (kb _ _ p1)
  replace p2 := ka _ _ (kb _ _ p2)
  have hb2a := (HB1a.out.trans (hb2.mono HB1a.out.size))
  have hb2b := hb2a.alloc hb2a.size (.cells #[.int .i64 x2.proto, .slice x2.ca x2.cores.length x2.cc, .slice x2.ha x2.homes.length x2.hc, .slice x2.ta x2.tasks.length x2.tc] 25)
  replace HS1 := hidp ((HS1.out.keep kb).keep ka)
  replace HBX := hidp ((HBX.out.below hb2).alloc (.cells #[.int .i64 x2.proto, .slice x2.ca x2.cores.length x2.cc, .slice x2.ha x2.homes.length x2.hc, .slice x2.ta x2.tasks.length x2.tc] 25))
  have C3 := hidp (parse_any (mkB k9C) m _ (mem_max HM.out hb2b))
  have HB2b := hidp hb2b
  clear hb2 hb2a hb2b ka kb hs2 hx2 C2 HB1a
  go_wp2_with fail
  refine C3.out.mono ?_
  rintro e w3 hp
  rw [show bl (mkB k9C) = k9C from rfl, k9_c] at hp
  obtain ⟨x3, rfl, hs3, hx3, hb3⟩ := hp
  have kb := Keeps.of_below hb3
  have ka := Keeps.alloc w3 (.cells #[.int .i64 x3.proto, .slice x3.ca x3.cores.length x3.cc, .slice x3.ha x3.homes.length x3.hc, .slice x3.ta x3.tasks.length x3.tc] 25)
  replace hc5 := ka _ _ (kb _ _ hc5)
  replace p0 := ka _ _ (kb _ _ p0)
  replace p1 := ka _ _ (kb _ _ p1)
  replace p2 := ka _ _ (kb _ _ p2)
  have hb3a := (HB2b.out.trans (hb3.mono HB2b.out.size))
  have hb3b := hb3a.alloc hb3a.size (.cells #[.int .i64 x3.proto, .slice x3.ca x3.cores.length x3.cc, .slice x3.ha x3.homes.length x3.hc, .slice x3.ta x3.tasks.length x3.tc] 25)
  replace HS1 := hidp ((HS1.out.keep kb).keep ka)
  replace HBX := hidp ((HBX.out.below hb3).alloc (.cells #[.int .i64 x3.proto, .slice x3.ca x3.cores.length x3.cc, .slice x3.ha x3.homes.length x3.hc, .slice x3.ta x3.tasks.length x3.tc] 25))
  obtain ⟨z0, z1, z2, z3⟩ := Z4 HBX.out
  have CP := hidp (print_any _ _ HS1.out (HT.out _ hb3b))
  have HB3b := hidp hb3b
  clear hb3 hb3a hb3b ka kb hs3 hx3 C3 HB2b
  go_wp2_with fail
  refine CP.out.mono ?_
  rintro e w4 ⟨r, rfl, hv, hb4⟩
  have HB4 := hidp (HB3b.out.trans (hb4.mono HB3b.out.size))
  have hv2 : bl r = [112, 114, 111, 116, 111, 99, 111, 108, 32, 102, 97, 105, 114, 10, 99, 111, 114, 101, 115, 32, 49, 10, 104, 111, 109, 101, 115, 32, 48, 10, 116, 97, 115, 107, 32, 97, 32, 49, 48, 32, 49, 48, 32, 49, 32, 48, 32, 114, 117, 110, 58, 51, 32, 108, 111, 99, 107, 58, 48, 58, 50, 10] := hv.trans ((printV_bare (t := k9R.bare) HX1.out).trans k9_p)
  have f9 : (r.toList == [112, 114, 111, 116, 111, 99, 111, 108, 32, 102, 97, 105, 114, 10, 99, 111, 114, 101, 115, 32, 49, 10, 104, 111, 109, 101, 115, 32, 48, 10, 116, 97, 115, 107, 32, 97, 32, 49, 48, 32, 49, 48, 32, 49, 32, 48, 32, 114, 117, 110, 58, 51, 32, 108, 111, 99, 107, 58, 48, 58, 50, 10]) = true := by rw [toList_lit]; exact decide_eq_true hv2
  clear hv hv2 hb4 CP
  go_wp2_with fail
  go_ret
  exact ⟨rfl, HB4.out⟩
end Go.Proofs.YtlmliefkhidpnaaGreatDoor

namespace Go.Proofs.YtlmliefkhidpnaaGreatDoor
open Go.ChangeShapes Go.WideShapes Go.ChangeAt Go.RowKit
set_option linter.unusedVariables false
theorem okS_mk {s : SetR} (h1 : inB s.proto 1 3 = true) (h2 : inB s.cores.length 1 3 = true) (h3 : allB s.cores 1 3 = true) (h4 : s.homes.length ≤ 4) (h5 : allB s.homes 0 ((s.cores.length : Int) - 1) = true) (h6 : 1 ≤ s.tasks.length) (h7 : s.tasks.length ≤ 6)
    (ht : ∀ k, k < s.tasks.length → formB (s.tasks.getD k default) = true ∧ inB (s.tasks.getD k default).cl 0 ((s.cores.length : Int) - 1) = true ∧ takenB (s.tasks.take k) (s.tasks.getD k default) = false ∧ partsB (s.tasks.getD k default).parts s.homes.length = true) : okS s = true := by
  refine (okS_iff s).2 ⟨?_, fun k hk => ?_⟩
  · unfold frameV
    rw [if_neg (by simp [h1]), if_neg (by simp [h2]), if_neg (by simp [h3]), if_neg (by omega), if_neg (by simp [h5]), if_neg (by omega), if_neg (by omega)]
  · obtain ⟨a, b, c, d⟩ := ht k hk
    unfold taskE
    rw [if_neg (by rw [a]; decide), if_neg (by rw [b]; decide), if_neg (by rw [c]; decide), if_neg (by rw [d]; decide)]
theorem nameA : nameB ⟨#[97]⟩ = true := by decide +kernel
theorem nameBb : nameB ⟨#[98]⟩ = true := by decide +kernel
theorem namesAB : ((⟨#[97]⟩ : ByteArray).toList == (⟨#[98]⟩ : ByteArray).toList) = false := by decide +kernel
theorem okTwo {S : SetR} {run lock run2 lock2 : Int} {proto : Int} (hp : S.proto = proto) (hc : S.cores = [1]) (hh : S.homes = [0]) {a1 a2 : Option Addr} {c1 c2 : Nat} (ht : S.tasks = [⟨⟨#[97]⟩, 100, 100, 1, 0, a1, c1, [⟨1, run, 0⟩, ⟨3, lock, 0⟩]⟩, ⟨⟨#[98]⟩, 200, 200, 2, 0, a2, c2, [⟨1, run2, 0⟩, ⟨3, lock2, 0⟩]⟩])
    (k0 : 1 ≤ proto ∧ proto ≤ 3) (k1 : 1 ≤ run ∧ run ≤ 60) (k2 : 1 ≤ lock ∧ lock ≤ 60) (k3 : 1 ≤ run2 ∧ run2 ≤ 60) (k4 : 1 ≤ lock2 ∧ lock2 ≤ 60) : okS S = true := by
  refine okS_mk (by rw [hp]; exact inB_true.2 k0) (by rw [hc]; decide) (by rw [hc]; decide) (by rw [hh]; decide) (by rw [hh, hc]; decide) (by rw [ht]; simp) (by rw [ht]; simp) (fun k hk => ?_)
  rw [ht] at hk
  have hp : ∀ x y : Int, 1 ≤ x ∧ x ≤ 60 → 1 ≤ y ∧ y ≤ 60 → partsB [⟨1, x, 0⟩, ⟨3, y, 0⟩] 1 = true := fun x y hx hy => by
    have e1 : inB x 1 60 = true := inB_true.2 hx
    have e2 : inB y 1 60 = true := inB_true.2 hy
    have e3 : inB 0 0 0 = true := by decide
    have e4 : inB 2 1 6 = true := by decide
    simp [partsB, partB, e1, e2, e3, e4]
  match k, hk with
  | 0, _ =>
    rw [ht, hc, hh]
    refine ⟨?_, (by show inB 0 0 0 = true; decide), (by simp [takenB]), hp _ _ k1 k2⟩
    show formB _ = true
    simp only [List.getD_cons_zero, formB, nameA]
    decide
  | 1, _ =>
    rw [ht, hc, hh]
    refine ⟨?_, (by show inB 0 0 0 = true; decide), ?_, hp _ _ k3 k4⟩
    · show formB _ = true
      simp only [List.getD_cons_succ, List.getD_cons_zero, formB, nameBb]
      decide
    · simp [takenB, likeB]
end Go.Proofs.YtlmliefkhidpnaaGreatDoor

namespace Go.Proofs.YtlmliefkhidpnaaGreatDoor
open Go.ChangeShapes Go.WideShapes Go.ChangeAt Go.RowKit
set_option linter.unusedVariables false
set_option linter.unusedSimpArgs false
/-- a task's box, its parts' length apart -/
def TBox (w : World) (b : Nat) (nm : ByteArray) (per dl prio cl : Int) (pa : Option Addr) (n pc : Nat) : Prop :=
  w.cell? ⟨b, 0, none⟩ = some (.string nm) ∧ w.cell? ⟨b, 1, none⟩ = some (.int .i64 per) ∧ w.cell? ⟨b, 2, none⟩ = some (.int .i64 dl) ∧ w.cell? ⟨b, 3, none⟩ = some (.int .i64 prio) ∧ w.cell? ⟨b, 4, none⟩ = some (.int .i64 cl) ∧ w.cell? ⟨b, 5, none⟩ = some (.slice pa n pc)
theorem TBox.keep {w w' : World} {b : Nat} {nm : ByteArray} {per dl prio cl : Int} {pa : Option Addr} {n pc : Nat} (h : TBox w b nm per dl prio cl pa n pc) (k : Keeps w w') : TBox w' b nm per dl prio cl pa n pc := ⟨k _ _ h.1, k _ _ h.2.1, k _ _ h.2.2.1, k _ _ h.2.2.2.1, k _ _ h.2.2.2.2.1, k _ _ h.2.2.2.2.2⟩
theorem TBox.new (w : World) (nm : ByteArray) (per dl prio cl : Int) (pa : Option Addr) (n pc : Nat) (T : TypeId) : TBox (w.alloc (.cells #[.string nm, .int .i64 per, .int .i64 dl, .int .i64 prio, .int .i64 cl, .slice pa n pc] T)) w.heap.size nm per dl prio cl pa n pc := by
  refine ⟨?_, ?_, ?_, ?_, ?_, ?_⟩ <;> simp

set_option maxHeartbeats 4000000 in
theorem rsameTask_any (t u : TaskR) (w : World) (ht : TaskOk w t) (hu : TaskOk w u) : Calls Tryz.prog 31 #[.agg #[.string t.name, .int .i64 t.per, .int .i64 t.dl, .int .i64 t.prio, .int .i64 t.cl, .slice t.pa t.parts.length t.pc], .agg #[.string u.name, .int .i64 u.per, .int .i64 u.dl, .int .i64 u.prio, .int .i64 u.cl, .slice u.pa u.parts.length u.pc]] w fun e w' => e = .returned (.bool (sameT t u)) ∧ Below w.heap.size w w' := by
  obtain ⟨nm, per, dl, prio, cl, pa, pc, parts⟩ := t
  obtain ⟨nm2, per2, dl2, prio2, cl2, pa2, pc2, parts2⟩ := u
  have l1 : parts.length ≤ maxLen := Nat.le_trans ht.sl.2.1 ht.sl.2.2
  have l2 : parts2.length ≤ maxLen := Nat.le_trans hu.sl.2.1 hu.sl.2.2
  unfold maxLen at l1 l2
  dsimp only
  obtain ⟨n, hn⟩ : ∃ n, parts.length = n := ⟨_, rfl⟩
  obtain ⟨m, hm⟩ : ∃ m, parts2.length = m := ⟨_, rfl⟩
  rw [hn] at l1
  rw [hm] at l2
  rw [hn, hm]
  have Hn := hidp hn
  have Hm := hidp hm
  clear hn hm
  have hb1 := (Below.refl w.heap.size w).alloc (Nat.le_refl _) (.cells #[.string nm, .int .i64 per, .int .i64 dl, .int .i64 prio, .int .i64 cl, .slice pa n pc] 44)
  have hb := hb1.alloc hb1.size (.cells #[.string nm2, .int .i64 per2, .int .i64 dl2, .int .i64 prio2, .int .i64 cl2, .slice pa2 m pc2] 44)
  have P1 := hidp ht.at_
  have P2 := hidp hu.at_
  dsimp only at P1 P2
  have tb1 := (TBox.new w nm per dl prio cl pa n pc 44).keep (Keeps.alloc (w.alloc (.cells #[.string nm, .int .i64 per, .int .i64 dl, .int .i64 prio, .int .i64 cl, .slice pa n pc] 44)) (.cells #[.string nm2, .int .i64 per2, .int .i64 dl2, .int .i64 prio2, .int .i64 cl2, .slice pa2 m pc2] 44))
  have tb2 := TBox.new (w.alloc (.cells #[.string nm, .int .i64 per, .int .i64 dl, .int .i64 prio, .int .i64 cl, .slice pa n pc] 44)) nm2 per2 dl2 prio2 cl2 pa2 m pc2 44
  rw [show (w.alloc (.cells #[.string nm, .int .i64 per, .int .i64 dl, .int .i64 prio, .int .i64 cl, .slice pa n pc] 44)).heap.size = w.heap.size + 1 by simp] at tb2
  obtain ⟨f0, f1, f2, f3, f4, f5⟩ := id tb1
  obtain ⟨q0, q1, q2, q3, q4, q5⟩ := id tb2
  obtain ⟨b, hB⟩ : ∃ b, sameT ⟨nm, per, dl, prio, cl, pa, pc, parts⟩ ⟨nm2, per2, dl2, prio2, cl2, pa2, pc2, parts2⟩ = b := ⟨_, rfl⟩
  rw [hB]
  unfold sameT at hB
  dsimp only at hB
  clear hb1 ht hu
  cases h0 : (nm.toList == nm2.toList)
  · have Hs : Hid (b = false) := hidp (by rw [← hB]; simp only [h0, Bool.true_and, Bool.false_and])
    clear hB
    have t1 : (nm.toList != nm2.toList) = true := by unfold bne; rw [h0]; rfl
    go_enter Tryz.func31, Tryz.ntmps31
    go_wp2_with fail
    go_ret
    exact ⟨ret_bool Hs.out.symm, hb⟩
  · have g0 : (nm.toList != nm2.toList) = false := by unfold bne; rw [h0]; rfl
    cases h1 : (per == per2)
    · have Hs : Hid (b = false) := hidp (by rw [← hB]; simp only [h0, h1, Bool.true_and, Bool.false_and])
      clear hB
      have t1 : (per != per2) = true := by unfold bne; rw [h1]; rfl
      go_enter Tryz.func31, Tryz.ntmps31
      go_wp2_with fail
      go_ret
      exact ⟨ret_bool Hs.out.symm, hb⟩
    · have g1 : (per != per2) = false := by unfold bne; rw [h1]; rfl
      cases h2 : (dl == dl2)
      · have Hs : Hid (b = false) := hidp (by rw [← hB]; simp only [h0, h1, h2, Bool.true_and, Bool.false_and])
        clear hB
        have t1 : (dl != dl2) = true := by unfold bne; rw [h2]; rfl
        go_enter Tryz.func31, Tryz.ntmps31
        go_wp2_with fail
        go_ret
        exact ⟨ret_bool Hs.out.symm, hb⟩
      · have g2 : (dl != dl2) = false := by unfold bne; rw [h2]; rfl
        cases h3 : (prio == prio2)
        · have Hs : Hid (b = false) := hidp (by rw [← hB]; simp only [h0, h1, h2, h3, Bool.true_and, Bool.false_and])
          clear hB
          have t1 : (prio != prio2) = true := by unfold bne; rw [h3]; rfl
          go_enter Tryz.func31, Tryz.ntmps31
          go_wp2_with fail
          go_ret
          exact ⟨ret_bool Hs.out.symm, hb⟩
        · have g3 : (prio != prio2) = false := by unfold bne; rw [h3]; rfl
          cases h4 : (cl == cl2)
          · have Hs : Hid (b = false) := hidp (by rw [← hB]; simp only [h0, h1, h2, h3, h4, Bool.true_and, Bool.false_and])
            clear hB
            have t1 : (cl != cl2) = true := by unfold bne; rw [h4]; rfl
            go_enter Tryz.func31, Tryz.ntmps31
            go_wp2_with fail
            go_ret
            exact ⟨ret_bool Hs.out.symm, hb⟩
          · have g4 : (cl != cl2) = false := by unfold bne; rw [h4]; rfl
            have HB := hidp (show decide (parts = parts2) = b from by rw [← hB]; simp only [h0, h1, h2, h3, h4, Bool.true_and])
            clear hB
            by_cases e : n = m
            · subst e
              go_enter Tryz.func31, Tryz.ntmps31
              go_wp2_with fail
              go_loopg [5] n (fun g i wr => ∃ k : Nat, k + g = n ∧ i = .int .i64 k ∧ Hid (∀ j, j < k → parts.getD j default = parts2.getD j default) ∧ Below w.heap.size w wr ∧ TBox wr w.heap.size nm per dl prio cl pa n pc ∧ TBox wr (w.heap.size + 1) nm2 per2 dl2 prio2 cl2 pa2 n pc2)
              case atStart => exact ⟨0, by omega, rfl, hidp (by omega), hb, tb1, tb2⟩
              case round =>
                obtain ⟨k, hk, rfl, Ho, hw, ta1, ta2⟩ := hrel
                clear f0 f1 f2 f3 f4 f5 q0 q1 q2 q3 q4 q5 hb tb1 tb2
                obtain ⟨f0, f1, f2, f3, f4, f5⟩ := id ta1
                obtain ⟨q0, q1, q2, q3, q4, q5⟩ := id ta2
                by_cases hlt : k < n
                · obtain ⟨g, off, hA, hc⟩ := P1.out.resolve_left (by intro e; have := Hn.out; rw [e] at this; simp at this; omega)
                  obtain ⟨g', off', hA', hc'⟩ := P2.out.resolve_left (by intro e; have := Hm.out; rw [e] at this; simp at this; omega)
                  subst hA
                  subst hA'
                  obtain ⟨x, HX⟩ : ∃ x, Hid (parts.getD k default = x) := ⟨_, rfl⟩
                  obtain ⟨y, HY⟩ : ∃ y, Hid (parts2.getD k default = y) := ⟨_, rfl⟩
                  obtain ⟨c1, c2, c3⟩ := (HX.out ▸ hc k (by rw [Hn.out]; exact hlt)).keep (Keeps.of_below hw)
                  obtain ⟨d1, d2, d3⟩ := (HY.out ▸ hc' k (by rw [Hm.out]; exact hlt)).keep (Keeps.of_below hw)
                  clear hc hc'
                  obtain ⟨x1, x2, x3⟩ := x
                  obtain ⟨y1, y2, y3⟩ := y
                  dsimp only at c1 c2 c3 d1 d2 d3
                  by_cases n1 : x1 = y1
                  · subst n1
                    by_cases n2 : x2 = y2
                    · subst n2
                      by_cases n3 : x3 = y3
                      · subst n3
                        have Hs : Hid (∀ j, j < k + 1 → parts.getD j default = parts2.getD j default) := hidp (fun j hj => by
                          by_cases e : j = k
                          · subst e; rw [HX.out, HY.out]
                          · exact Ho.out j (by omega))
                        go_wp2
                        go_quiet (fail)
                        go_wp2
                        go_roundg (gk - 1)
                        case measure => omega
                        case rel => exact ⟨k + 1, by omega, by go_num, Hs, below_drewN hw _, ta1.keep (Keeps.drewN _ _), ta2.keep (Keeps.drewN _ _)⟩
                      · have Hs : Hid (b = false) := hidp (by rw [← HB.out]; exact decide_eq_false (ne_getP (k := k) (by rw [HX.out, HY.out]; intro h; injection h with h1 h2 h3; exact n3 ‹_›)))
                        have t1 : (x3 != y3) = true := by simpa using n3
                        have t2 : (x3 == y3) = false := by simpa using n3
                        go_wp2
                        go_quiet (fail)
                        go_wp2
                        go_ret
                        exact ⟨ret_bool Hs.out.symm, below_drewN hw _⟩
                    · have Hs : Hid (b = false) := hidp (by rw [← HB.out]; exact decide_eq_false (ne_getP (k := k) (by rw [HX.out, HY.out]; intro h; injection h with h1 h2 h3; exact n2 ‹_›)))
                      have t1 : (x2 != y2) = true := by simpa using n2
                      have t2 : (x2 == y2) = false := by simpa using n2
                      go_wp2
                      go_quiet (fail)
                      go_wp2
                      go_ret
                      exact ⟨ret_bool Hs.out.symm, below_drewN hw _⟩
                  · have Hs : Hid (b = false) := hidp (by rw [← HB.out]; exact decide_eq_false (ne_getP (k := k) (by rw [HX.out, HY.out]; intro h; injection h with h1 h2 h3; exact n1 ‹_›)))
                    have t1 : (x1 != y1) = true := by simpa using n1
                    have t2 : (x1 == y1) = false := by simpa using n1
                    go_wp2
                    go_quiet (fail)
                    go_wp2
                    go_ret
                    exact ⟨ret_bool Hs.out.symm, below_drewN hw _⟩
                · have Hs : Hid (b = true) := hidp (by rw [← HB.out]; exact decide_eq_true (ext_getP Hn.out Hm.out (fun j hj => Ho.out j (by omega))))
                  go_wp2
                  go_ret
                  exact ⟨ret_bool Hs.out.symm, hw⟩
            · have Hs : Hid (b = false) := hidp (by rw [← HB.out]; exact decide_eq_false (fun h => e (by rw [← Hn.out, ← Hm.out, h])))
              have t1 : ((n : Int) != (m : Int)) = true := by simp; omega
              clear e
              go_enter Tryz.func31, Tryz.ntmps31
              go_wp2_with fail
              go_ret
              exact ⟨ret_bool Hs.out.symm, hb⟩
end Go.Proofs.YtlmliefkhidpnaaGreatDoor

namespace Go.Proofs.YtlmliefkhidpnaaGreatDoor
open Go.ChangeShapes Go.WideShapes Go.ChangeAt Go.RowKit
set_option linter.unusedVariables false
set_option linter.unusedSimpArgs false
set_option maxRecDepth 100000
set_option maxHeartbeats 4000000 in
theorem rsame_any (s t : SetR) (w : World) (hs : SetOk w s) (ht : SetOk w t) : Calls Tryz.prog 11 #[.agg #[.int .i64 s.proto, .slice s.ca s.cores.length s.cc, .slice s.ha s.homes.length s.hc, .slice s.ta s.tasks.length s.tc], .agg #[.int .i64 t.proto, .slice t.ca t.cores.length t.cc, .slice t.ha t.homes.length t.hc, .slice t.ta t.tasks.length t.tc]] w fun e w' => e = .returned (.bool (sameS s t)) ∧ Below w.heap.size w w' := by
  obtain ⟨proto, ca, cc, cores, ha, hc, homes, ta, tc, tasks⟩ := s
  obtain ⟨proto2, ca2, cc2, cores2, ha2, hc2, homes2, ta2, tc2, tasks2⟩ := t
  have l1 : tasks.length ≤ maxLen := Nat.le_trans hs.tasks.sl.2.1 hs.tasks.sl.2.2
  have l2 : tasks2.length ≤ maxLen := Nat.le_trans ht.tasks.sl.2.1 ht.tasks.sl.2.2
  unfold maxLen at l1 l2
  dsimp only
  have hb1 := (Below.refl w.heap.size w).alloc (Nat.le_refl _) (.cells #[.int .i64 proto, .slice ca cores.length cc, .slice ha homes.length hc, .slice ta tasks.length tc] 25)
  have hb := hb1.alloc hb1.size (.cells #[.int .i64 proto2, .slice ca2 cores2.length cc2, .slice ha2 homes2.length hc2, .slice ta2 tasks2.length tc2] 25)
  have s1 := (SetCells.new w ⟨proto, ca, cc, cores, ha, hc, homes, ta, tc, tasks⟩ 25).keep (Keeps.alloc (w.alloc (.cells #[.int .i64 proto, .slice ca cores.length cc, .slice ha homes.length hc, .slice ta tasks.length tc] 25)) (.cells #[.int .i64 proto2, .slice ca2 cores2.length cc2, .slice ha2 homes2.length hc2, .slice ta2 tasks2.length tc2] 25))
  have s2 := SetCells.new (w.alloc (.cells #[.int .i64 proto, .slice ca cores.length cc, .slice ha homes.length hc, .slice ta tasks.length tc] 25)) ⟨proto2, ca2, cc2, cores2, ha2, hc2, homes2, ta2, tc2, tasks2⟩ 25
  rw [show (w.alloc (.cells #[.int .i64 proto, .slice ca cores.length cc, .slice ha homes.length hc, .slice ta tasks.length tc] 25)).heap.size = w.heap.size + 1 by simp] at s2
  have X := hidp (hs.keep (Keeps.of_below hb))
  have Y := hidp (ht.keep (Keeps.of_below hb))
  clear hb1 hs ht
  obtain ⟨c0, c1, c2, c3⟩ := id s1
  obtain ⟨d0, d1, d2, d3⟩ := id s2
  dsimp only at c0 c1 c2 c3 d0 d1 d2 d3
  obtain ⟨b, hB⟩ : ∃ b, sameS ⟨proto, ca, cc, cores, ha, hc, homes, ta, tc, tasks⟩ ⟨proto2, ca2, cc2, cores2, ha2, hc2, homes2, ta2, tc2, tasks2⟩ = b := ⟨_, rfl⟩
  rw [hB]
  unfold sameS at hB
  dsimp only at hB
  cases h0 : (proto == proto2)
  · have g0 : (proto != proto2) = true := by unfold bne; rw [h0]; rfl
    have Hs : Hid (b = false) := hidp (by rw [← hB]; simp only [h0, Bool.true_and, Bool.false_and])
    clear hB
    go_enter Tryz.func11, Tryz.ntmps11
    go_wp2_with fail
    go_ret
    exact ⟨ret_bool Hs.out.symm, hb⟩
  · have g0 : (proto != proto2) = false := by unfold bne; rw [h0]; rfl
    cases h1 : decide (cores = cores2)
    · have Hs : Hid (b = false) := hidp (by rw [← hB]; simp only [h0, h1, Bool.true_and, Bool.false_and])
      clear hB
      go_enter Tryz.func11, Tryz.ntmps11
      go_wp2_with fail
      refine (rsameI_any _ _ _ _ _ _ _ X.out.cores Y.out.cores).mono ?_
      rintro e w2 ⟨rfl, hq⟩
      rw [h1]
      clear c0 c1 c2 c3 d0 d1 d2 d3
      replace hb := hq.below hb
      replace s1 := s1.keep (Keeps.of_qt hq)
      replace s2 := s2.keep (Keeps.of_qt hq)
      replace X := hidp (X.out.keep (Keeps.of_qt hq))
      replace Y := hidp (Y.out.keep (Keeps.of_qt hq))
      clear hq
      obtain ⟨c0, c1, c2, c3⟩ := id s1
      obtain ⟨d0, d1, d2, d3⟩ := id s2
      dsimp only at c0 c1 c2 c3 d0 d1 d2 d3
      go_wp2_with fail
      go_ret
      exact ⟨ret_bool Hs.out.symm, hb⟩
    · cases h2 : decide (homes = homes2)
      · have Hs : Hid (b = false) := hidp (by rw [← hB]; simp only [h0, h1, h2, Bool.true_and, Bool.false_and])
        clear hB
        go_enter Tryz.func11, Tryz.ntmps11
        go_wp2_with fail
        refine (rsameI_any _ _ _ _ _ _ _ X.out.cores Y.out.cores).mono ?_
        rintro e w2 ⟨rfl, hq⟩
        rw [h1]
        clear c0 c1 c2 c3 d0 d1 d2 d3
        replace hb := hq.below hb
        replace s1 := s1.keep (Keeps.of_qt hq)
        replace s2 := s2.keep (Keeps.of_qt hq)
        replace X := hidp (X.out.keep (Keeps.of_qt hq))
        replace Y := hidp (Y.out.keep (Keeps.of_qt hq))
        clear hq
        obtain ⟨c0, c1, c2, c3⟩ := id s1
        obtain ⟨d0, d1, d2, d3⟩ := id s2
        dsimp only at c0 c1 c2 c3 d0 d1 d2 d3
        go_wp2_with fail
        refine (rsameI_any _ _ _ _ _ _ _ X.out.homes Y.out.homes).mono ?_
        rintro e w2 ⟨rfl, hq⟩
        rw [h2]
        clear c0 c1 c2 c3 d0 d1 d2 d3
        replace hb := hq.below hb
        replace s1 := s1.keep (Keeps.of_qt hq)
        replace s2 := s2.keep (Keeps.of_qt hq)
        replace X := hidp (X.out.keep (Keeps.of_qt hq))
        replace Y := hidp (Y.out.keep (Keeps.of_qt hq))
        clear hq
        obtain ⟨c0, c1, c2, c3⟩ := id s1
        obtain ⟨d0, d1, d2, d3⟩ := id s2
        dsimp only at c0 c1 c2 c3 d0 d1 d2 d3
        go_wp2_with fail
        go_ret
        exact ⟨ret_bool Hs.out.symm, hb⟩
      · have HB := hidp (show sameTs tasks tasks2 = b from by rw [← hB]; simp only [h0, h1, h2, Bool.true_and])
        clear hB
        by_cases e : tasks.length = tasks2.length
        · have t1 : ((tasks.length : Int) != (tasks2.length : Int)) = false := by simp [e]
          have He := hidp e
          clear e
          go_enter Tryz.func11, Tryz.ntmps11
          go_wp2_with fail
          refine (rsameI_any _ _ _ _ _ _ _ X.out.cores Y.out.cores).mono ?_
          rintro e w2 ⟨rfl, hq⟩
          rw [h1]
          clear c0 c1 c2 c3 d0 d1 d2 d3
          replace hb := hq.below hb
          replace s1 := s1.keep (Keeps.of_qt hq)
          replace s2 := s2.keep (Keeps.of_qt hq)
          replace X := hidp (X.out.keep (Keeps.of_qt hq))
          replace Y := hidp (Y.out.keep (Keeps.of_qt hq))
          clear hq
          obtain ⟨c0, c1, c2, c3⟩ := id s1
          obtain ⟨d0, d1, d2, d3⟩ := id s2
          dsimp only at c0 c1 c2 c3 d0 d1 d2 d3
          go_wp2_with fail
          refine (rsameI_any _ _ _ _ _ _ _ X.out.homes Y.out.homes).mono ?_
          rintro e w2 ⟨rfl, hq⟩
          rw [h2]
          clear c0 c1 c2 c3 d0 d1 d2 d3
          replace hb := hq.below hb
          replace s1 := s1.keep (Keeps.of_qt hq)
          replace s2 := s2.keep (Keeps.of_qt hq)
          replace X := hidp (X.out.keep (Keeps.of_qt hq))
          replace Y := hidp (Y.out.keep (Keeps.of_qt hq))
          clear hq
          obtain ⟨c0, c1, c2, c3⟩ := id s1
          obtain ⟨d0, d1, d2, d3⟩ := id s2
          dsimp only at c0 c1 c2 c3 d0 d1 d2 d3
          go_wp2_with fail
          obtain ⟨wi, rfl⟩ : ∃ wi : World, wi = w2 := ⟨_, rfl⟩
          go_loopg [5] tasks.length (fun g i wr => ∃ k : Nat, k + g = tasks.length ∧ i = .int .i64 k ∧ Hid (∀ j, j < k → sameT (tasks.getD j default) (tasks2.getD j default) = true) ∧ SetCells wr w.heap.size ⟨proto, ca, cc, cores, ha, hc, homes, ta, tc, tasks⟩ ∧ SetCells wr (w.heap.size + 1) ⟨proto2, ca2, cc2, cores2, ha2, hc2, homes2, ta2, tc2, tasks2⟩ ∧ Hid (SetOk wr ⟨proto, ca, cc, cores, ha, hc, homes, ta, tc, tasks⟩) ∧ Hid (SetOk wr ⟨proto2, ca2, cc2, cores2, ha2, hc2, homes2, ta2, tc2, tasks2⟩) ∧ Below w.heap.size w wr)
          case atStart => exact ⟨0, by omega, rfl, hidp (by omega), s1, s2, X, Y, hb⟩
          case round =>
            obtain ⟨k, hk, rfl, Ho, r1, r2, XX, YY, hw⟩ := hrel
            clear c0 c1 c2 c3 d0 d1 d2 d3 s1 s2 X Y hb
            obtain ⟨c0, c1, c2, c3⟩ := id r1
            obtain ⟨d0, d1, d2, d3⟩ := id r2
            dsimp only at c0 c1 c2 c3 d0 d1 d2 d3
            by_cases hlt : k < tasks.length
            · have hlt2 : k < tasks2.length := by have := He.out; omega
              obtain ⟨g, off, hA, hc⟩ := XX.out.tasks.at_.resolve_left (by intro e; dsimp only at e; rw [e] at hlt; simp at hlt)
              obtain ⟨g', off', hA', hc'⟩ := YY.out.tasks.at_.resolve_left (by intro e; dsimp only at e; rw [e] at hlt2; simp at hlt2)
              dsimp only at hA hA' hc hc'
              subst hA
              subst hA'
              obtain ⟨t, HX⟩ : ∃ t, Hid (tasks.getD k default = t) := ⟨_, rfl⟩
              obtain ⟨u, HY⟩ : ∃ u, Hid (tasks2.getD k default = u) := ⟨_, rfl⟩
              have T1 : TaskOk wr.drew t := (XX.out.tasks.ok t (HX.out ▸ getD_mem hlt)).keep (Keeps.drew wr)
              have T2 : TaskOk wr.drew u := (YY.out.tasks.ok u (HY.out ▸ getD_mem hlt2)).keep (Keeps.drew wr)
              obtain ⟨x0, x1, x2, x3, x4, x5⟩ := HX.out ▸ hc k hlt
              obtain ⟨y0, y1, y2, y3, y4, y5⟩ := HY.out ▸ hc' k hlt2
              clear hc hc'
              cases hs : sameT t u
              · have Hs : Hid (b = false) := hidp (by rw [← HB.out]; exact sameTs_at (k := k) hlt (by rw [HX.out, HY.out]; exact hs))
                go_wp2
                go_still_tail 10, (by kernel_rfl)
                change wpList _ _ _ _ _ wr.drew
                go_wp2_with fail
                refine (rsameTask_any t u _ T1 T2).mono ?_
                rintro e w5 ⟨rfl, hb2⟩
                have hw5 : Below w.heap.size w w5 := (below_drewN hw 1).trans (hb2.mono hw.size)
                have k5 : Keeps wr w5 := (Keeps.drew wr).trans (Keeps.of_below hb2)
                go_wp2
                go_ret
                exact ⟨ret_bool Hs.out.symm, hw5⟩
              · have Hs : Hid (∀ j, j < k + 1 → sameT (tasks.getD j default) (tasks2.getD j default) = true) := hidp (fun j hj => by
                  by_cases e : j = k
                  · subst e; rw [HX.out, HY.out]; exact hs
                  · exact Ho.out j (by omega))
                go_wp2
                go_still_tail 10, (by kernel_rfl)
                change wpList _ _ _ _ _ wr.drew
                go_wp2_with fail
                refine (rsameTask_any t u _ T1 T2).mono ?_
                rintro e w5 ⟨rfl, hb2⟩
                have hw5 : Below w.heap.size w w5 := (below_drewN hw 1).trans (hb2.mono hw.size)
                have k5 : Keeps wr w5 := (Keeps.drew wr).trans (Keeps.of_below hb2)
                go_wp2
                go_roundg (tasks.length - k - 1)
                case measure => omega
                case rel => exact ⟨k + 1, by omega, by go_num, Hs, r1.keep k5, r2.keep k5, hidp (XX.out.keep k5), hidp (YY.out.keep k5), hw5⟩
            · have Hs : Hid (b = true) := hidp (by rw [← HB.out]; exact sameTs_true He.out (fun j hj => Ho.out j (by omega)))
              go_wp2
              go_ret
              exact ⟨ret_bool Hs.out.symm, hw⟩
        · have Hs : Hid (b = false) := hidp (by rw [← HB.out]; exact sameTs_len e)
          have t1 : ((tasks.length : Int) != (tasks2.length : Int)) = true := by simp; omega
          clear e
          go_enter Tryz.func11, Tryz.ntmps11
          go_wp2_with fail
          refine (rsameI_any _ _ _ _ _ _ _ X.out.cores Y.out.cores).mono ?_
          rintro e w2 ⟨rfl, hq⟩
          rw [h1]
          clear c0 c1 c2 c3 d0 d1 d2 d3
          replace hb := hq.below hb
          replace s1 := s1.keep (Keeps.of_qt hq)
          replace s2 := s2.keep (Keeps.of_qt hq)
          replace X := hidp (X.out.keep (Keeps.of_qt hq))
          replace Y := hidp (Y.out.keep (Keeps.of_qt hq))
          clear hq
          obtain ⟨c0, c1, c2, c3⟩ := id s1
          obtain ⟨d0, d1, d2, d3⟩ := id s2
          dsimp only at c0 c1 c2 c3 d0 d1 d2 d3
          go_wp2_with fail
          refine (rsameI_any _ _ _ _ _ _ _ X.out.homes Y.out.homes).mono ?_
          rintro e w2 ⟨rfl, hq⟩
          rw [h2]
          clear c0 c1 c2 c3 d0 d1 d2 d3
          replace hb := hq.below hb
          replace s1 := s1.keep (Keeps.of_qt hq)
          replace s2 := s2.keep (Keeps.of_qt hq)
          replace X := hidp (X.out.keep (Keeps.of_qt hq))
          replace Y := hidp (Y.out.keep (Keeps.of_qt hq))
          clear hq
          obtain ⟨c0, c1, c2, c3⟩ := id s1
          obtain ⟨d0, d1, d2, d3⟩ := id s2
          dsimp only at c0 c1 c2 c3 d0 d1 d2 d3
          go_wp2_with fail
          go_ret
          exact ⟨ret_bool Hs.out.symm, hb⟩
end Go.Proofs.YtlmliefkhidpnaaGreatDoor

namespace Go.Proofs.YtlmliefkhidpnaaGreatDoor
open Go.ChangeShapes Go.WideShapes Go.ChangeAt Go.RowKit
set_option linter.unusedVariables false
set_option linter.unusedSimpArgs false

theorem infoC : (Tryz.prog.info? 3).map (fun i => (i.zero, i.size, i.bytes)) = some (some (.int .i64 0), 1, 8) := by kernel_rfl
/-- two tasks are alike, wherever their parts lie -/
def sameF (a b : TaskR) : Prop := a.name = b.name ∧ a.per = b.per ∧ a.dl = b.dl ∧ a.prio = b.prio ∧ a.cl = b.cl ∧ a.parts = b.parts
theorem sameF.refl (a : TaskR) : sameF a a := ⟨rfl, rfl, rfl, rfl, rfl, rfl⟩
theorem sameF.T {a b : TaskR} (h : sameF a b) : sameT a b = true := by
  obtain ⟨h0, h1, h2, h3, h4, h5⟩ := h
  unfold sameT; rw [h0, h1, h2, h3, h4, h5]; simp
/-- few enough to be copied -/
structure FewS (s : SetR) : Prop where
  cores : s.cores.length ≤ 1000
  homes : s.homes.length ≤ 1000
  tasks : s.tasks.length ≤ 1000
  parts : ∀ t ∈ s.tasks, t.parts.length ≤ 1000
/-- x is alike s; its slices are its own, from block B on -/
structure CopyOf (B : Nat) (w' : World) (s x : SetR) : Prop where
  proto : x.proto = s.proto
  cores : x.cores = s.cores
  homes : x.homes = s.homes
  len : x.tasks.length = s.tasks.length
  like : ∀ j, j < s.tasks.length → sameF (x.tasks.getD j default) (s.tasks.getD j default)
  oc : OwnN B w' x.ca x.cores.length x.cc x.cores
  oh : OwnN B w' x.ha x.homes.length x.hc x.homes
  ot : OwnT B w' x.ta x.tasks.length x.tc x.tasks
  op : ∀ j, j < x.tasks.length → OwnP B w' (x.tasks.getD j default).pa (x.tasks.getD j default).parts.length (x.tasks.getD j default).pc (x.tasks.getD j default).parts
  s1 : ∀ a ∈ fp x.ca, ∀ b ∈ fp x.ha, a < b
  s2 : ∀ a ∈ fp x.ca ++ fp x.ha, ∀ b ∈ fp x.ta, a < b
  s3 : ∀ j, j < x.tasks.length → ∀ a ∈ fp x.ca ++ (fp x.ha ++ fp x.ta), ∀ b ∈ fp (x.tasks.getD j default).pa, a < b
  s4 : ∀ j k, j < k → k < x.tasks.length → ∀ a ∈ fp (x.tasks.getD j default).pa, ∀ b ∈ fp (x.tasks.getD k default).pa, a < b
theorem OwnN.low {B B' : Nat} {w : World} {A : Option Addr} {n c : Nat} {zs : List Int} (h : OwnN B w A n c zs) (hB : B' ≤ B) : OwnN B' w A n c zs := ⟨own_base h.own (fun k hk => Nat.le_trans hB (h.own.lt k hk).1), h.len, h.cap, h.nil⟩
theorem OwnP.low {B B' : Nat} {w : World} {A : Option Addr} {n c : Nat} {ps : List PartM} (h : OwnP B w A n c ps) (hB : B' ≤ B) : OwnP B' w A n c ps := ⟨own_base h.own (fun k hk => Nat.le_trans hB (h.own.lt k hk).1), h.len, h.cap, h.nil⟩
theorem OwnP.sl {B : Nat} {w : World} {A : Option Addr} {c : Nat} {ps : List PartM} (h : OwnP B w A ps.length c ps) : SlOk A ps.length c := ⟨h.nil, h.cap⟩
theorem CopyOf.ok {B : Nat} {w w' : World} {s x : SetR} (h : CopyOf B w' s x) (hs : SetOk w s) : SetOk w' x := by
  refine ⟨h.proto ▸ hs.proto, h.oc.ok (by rw [h.cores]; exact hs.cores.wf), h.oh.ok (by rw [h.homes]; exact hs.homes.wf), ⟨h.ot.sl, h.ot.tasks, fun t ht => ?_⟩⟩
  obtain ⟨j, hj, rfl⟩ := mem_getD ht
  have hj2 : j < s.tasks.length := by rw [← h.len]; exact hj
  obtain ⟨l0, l1, l2, l3, l4, l5⟩ := h.like j hj2
  have o := hs.tasks.ok _ (getD_mem hj2)
  have p := h.op j hj
  exact ⟨l0 ▸ o.name, l1 ▸ o.per, l2 ▸ o.dl, l3 ▸ o.prio, l4 ▸ o.cl, p.sl, p.parts, by rw [l5]; exact o.wf⟩
theorem CopyOf.same {B : Nat} {w' : World} {s x : SetR} (h : CopyOf B w' s x) : sameS x s = true := by
  unfold sameS
  rw [h.proto, h.cores, h.homes, sameTs_true h.len (fun k hk => (h.like k (by rw [← h.len]; exact hk)).T)]
  simp
theorem ints_one (zs : List Int) : ∀ u ∈ zs.map (Value.int .i64), u.oneCell' = true := fun u hu => by obtain ⟨n, _, rfl⟩ := List.mem_map.1 hu; rfl
def CopyPost (w : World) (s : SetR) (e : Ending) (w' : World) : Prop := ∃ x, e = .returned (.agg #[.int .i64 x.proto, .slice x.ca x.cores.length x.cc, .slice x.ha x.homes.length x.hc, .slice x.ta x.tasks.length x.tc]) ∧ CopyOf w.heap.size w' s x ∧ Below w.heap.size w w'
/-- the first i tasks are copied -/
structure CpInv (B : Nat) (w : World) (A1 A2 A3 : Option Addr) (k3 : Nat) (ts cs : List TaskR) (i : Nat) : Prop where
  len : cs.length = ts.length
  like : ∀ j, j < ts.length → sameF (cs.getD j default) (ts.getD j default)
  rest : ∀ j, i ≤ j → j < ts.length → cs.getD j default = ts.getD j default
  ot : OwnT B w A3 ts.length k3 cs
  op : ∀ j, j < i → OwnP B w (cs.getD j default).pa (cs.getD j default).parts.length (cs.getD j default).pc (cs.getD j default).parts
  s3 : ∀ j, j < i → ∀ a ∈ fp A1 ++ (fp A2 ++ fp A3), ∀ b ∈ fp (cs.getD j default).pa, a < b
  s4 : ∀ j k, j < k → k < i → ∀ a ∈ fp (cs.getD j default).pa, ∀ b ∈ fp (cs.getD k default).pa, a < b
theorem CpInv.turned {B i k3 : Nat} {w w' : World} {A1 A2 A3 : Option Addr} {ts cs : List TaskR} {F : List Nat} (h : CpInv B w A1 A2 A3 k3 ts cs i) (ht : Turned F w w') (hF : ∀ k, B ≤ k → k < w.heap.size → k ∉ F) : CpInv B w' A1 A2 A3 k3 ts cs i :=
  ⟨h.len, h.like, h.rest, h.ot.turned ht (fun k hk => hF k (own_fp h.ot.own k hk).1 (own_fp h.ot.own k hk).2), fun j hj => (h.op j hj).turned ht (fun k hk => hF k (own_fp (h.op j hj).own k hk).1 (own_fp (h.op j hj).own k hk).2), h.s3, h.s4⟩
theorem getD_set_eq {α : Type} [Inhabited α] {l : List α} {i : Nat} (h : i < l.length) (x : α) : (l.set i x).getD i default = x := by simp [List.getD, h]
theorem getD_set_ne' {α : Type} [Inhabited α] {l : List α} {i j : Nat} (h : i ≠ j) (x : α) : (l.set i x).getD j default = l.getD j default := by simp [List.getD, List.getElem?_set, h]
/-- one task more -/
theorem CpInv.step {B i k3 g np c' : Nat} {w v : World} {A1 A2 A' : Option Addr} {ts cs : List TaskR} (h : CpInv B w A1 A2 (some ⟨g, 0, none⟩) k3 ts cs i) (hi : i < ts.length)
    (ha : App B 46 3 w none A' np c' (ptc (ts.getD i default).parts) v) (hn : np = (ts.getD i default).parts.length) (hA : ∀ a ∈ fp A1 ++ (fp A2 ++ fp (some ⟨g, 0, none⟩)), a < w.heap.size) :
    CpInv B (v.setCell ⟨g, i * 6 + 5, none⟩ (.slice A' np c')) A1 A2 (some ⟨g, 0, none⟩) k3 ts (cs.set i { ts.getD i default with pa := A', pc := c' }) (i + 1) := by
  subst hn
  have hl := h.len
  have hic : i < cs.length := by omega
  have hri := h.rest i (Nat.le_refl _) hi
  have hci : cs[i] = ts.getD i default := by rw [← hri]; simp [List.getD, hic]
  have hgl := (own_fp h.ot.own g (by simp [fp])).2
  have hnew : ∀ b ∈ fp A', w.heap.size ≤ b := fun b hb => by
    rcases ha.fps b hb with h | h
    · simp [fp] at h
    · exact h
  have TS : Turned [g] v (v.setCell ⟨g, i * 6 + 5, none⟩ (.slice A' (ts.getD i default).parts.length c')) := (Turned.refl [g] v).setCell (p := ⟨g, i * 6 + 5, none⟩) (.inl (by simp)) _
  have hot := h.ot.turned ha.turned (by simp [fp])
  refine ⟨by simpa using hl, fun j hj => ?_, fun j hj1 hj2 => ?_, ?_, fun j hj => ?_, fun j hj a ha1 b hb => ?_, fun j k hjk hk a ha1 b hb => ?_⟩
  · by_cases e : i = j
    · subst e; rw [getD_set_eq hic]; exact ⟨rfl, rfl, rfl, rfl, rfl, rfl⟩
    · rw [getD_set_ne' e]; exact h.like j hj
  · rw [getD_set_ne' (by omega)]; exact h.rest j (by omega) hj2
  · have := ownT_put hot hic (j := 5) (by decide) { ts.getD i default with pa := A', pc := c' } (.slice A' (ts.getD i default).parts.length c') (by rw [hci]; rfl)
    exact this
  · by_cases e : i = j
    · subst e
      rw [getD_set_eq hic]
      have o : OwnP B v A' (ts.getD i default).parts.length c' (ts.getD i default).parts := ⟨ha.own, rfl, ha.cap, ha.nil⟩
      exact o.turned TS (fun k hk hm => by simp at hm; subst hm; have := hnew _ hk; omega)
    · rw [getD_set_ne' e]
      have o := h.op j (by omega)
      refine (o.turned ha.turned (by simp [fp])).turned TS (fun k hk hm => ?_)
      simp at hm; subst hm
      have := h.s3 j (by omega) k (by simp [fp]) k hk
      omega
  · by_cases e : i = j
    · subst e
      rw [getD_set_eq hic] at hb
      have h1 := hnew b hb
      have h2 := hA a ha1
      omega
    · rw [getD_set_ne' e] at hb; exact h.s3 j (by omega) a ha1 b hb
  · by_cases e : i = k
    · subst e
      rw [getD_set_ne' (by omega)] at ha1
      rw [getD_set_eq hic] at hb
      have h1 := hnew b hb
      have h2 := (own_fp (h.op j (by omega)).own a ha1).2
      omega
    · rw [getD_set_ne' (by omega)] at ha1
      rw [getD_set_ne' e] at hb
      exact h.s4 j k hjk (by omega) a ha1 b hb
end Go.Proofs.YtlmliefkhidpnaaGreatDoor

namespace Go.Proofs.YtlmliefkhidpnaaGreatDoor
open Go.ChangeShapes Go.WideShapes Go.ChangeAt Go.RowKit
set_option linter.unusedVariables false
def FewQ9 (w : World) (s : SetR) (e : Ending) (w' : World) : Prop := (∃ b : Bool, e = .returned (.bool b) ∧ (b = true → FewS s ∧ s.tasks.length ≤ 9)) ∧ Below w.heap.size w w'
set_option maxRecDepth 100000 in
theorem fews9_any (s : SetR) (w : World) (hs : SetOk w s) : Calls Tryz.prog 6 #[.agg #[.int .i64 s.proto, .slice s.ca s.cores.length s.cc, .slice s.ha s.homes.length s.hc, .slice s.ta s.tasks.length s.tc]] w (FewQ9 w s) := by
  have hb := (Below.refl w.heap.size w).alloc (Nat.le_refl _) (.cells #[.int .i64 s.proto, .slice s.ca s.cores.length s.cc, .slice s.ha s.homes.length s.hc, .slice s.ta s.tasks.length s.tc] 25)
  have CB := hidp (SetCells.new w s 25)
  have l1 : s.tasks.length ≤ maxLen := Nat.le_trans hs.tasks.sl.2.1 hs.tasks.sl.2.2
  have l2 : s.cores.length ≤ maxLen := Nat.le_trans hs.cores.sl.2.1 hs.cores.sl.2.2
  have l3 : s.homes.length ≤ maxLen := Nat.le_trans hs.homes.sl.2.1 hs.homes.sl.2.2
  unfold maxLen at l1 l2 l3
  have HR := hidp hs.tasks.at_
  have Hok := hidp hs.tasks.ok
  clear hs
  obtain ⟨proto, ca, cc, cores, ha, hc, homes, ta, tc, tasks⟩ := s
  dsimp only at HR Hok l1 l2 l3 hb ⊢
  have F : ∀ w', Below w.heap.size w w' → FewQ9 w ⟨proto, ca, cc, cores, ha, hc, homes, ta, tc, tasks⟩ (.returned (.bool false)) w' := fun w' h => ⟨⟨false, rfl, fun e => by cases e⟩, h⟩
  have HF := hidp F
  clear F
  have hc0 : (8 : Int) < (cores.length : Int) ∨ ¬ (8 : Int) < (cores.length : Int) ∧ (10 : Int) < (homes.length : Int) ∨ ¬ (8 : Int) < (cores.length : Int) ∧ ¬ (10 : Int) < (homes.length : Int) ∧ (9 : Int) < (tasks.length : Int) ∨ ¬ (8 : Int) < (cores.length : Int) ∧ ¬ (10 : Int) < (homes.length : Int) ∧ ¬ (9 : Int) < (tasks.length : Int) := by omega
  rcases hc0 with h | ⟨h, g⟩ | ⟨h, g, f⟩ | ⟨h, g, f⟩
  · go_enter Tryz.func6, Tryz.ntmps6
    go_wp2
    go_ret
    exact HF.out _ hb
  · go_enter Tryz.func6, Tryz.ntmps6
    go_wp2
    go_ret
    exact HF.out _ hb
  · go_enter Tryz.func6, Tryz.ntmps6
    go_wp2
    go_ret
    exact HF.out _ hb
  · go_enter Tryz.func6, Tryz.ntmps6
    go_wp2
    go_loopg [3] tasks.length (fun gg i wr => ∃ k : Nat, k + gg = tasks.length ∧ i = .int .i64 k ∧ SetCells wr w.heap.size ⟨proto, ca, cc, cores, ha, hc, homes, ta, tc, tasks⟩ ∧ Below w.heap.size w wr ∧ Hid (∀ j, j < k → (tasks.getD j default).parts.length ≤ 10))
    case atStart => exact ⟨0, by omega, rfl, CB.out, hb, hidp (by omega)⟩
    case round =>
      obtain ⟨k, hk, rfl, sc, hw, Hj⟩ := hrel
      have sc2 := sc
      obtain ⟨c0, c1, c2, c3⟩ := sc2
      dsimp only at c0 c1 c2 c3
      by_cases hlt : k < tasks.length
      · obtain ⟨g0, off, hA, hcl⟩ := HR.out.resolve_left (by intro e; rw [e] at hlt; simp at hlt)
        subst hA
        obtain ⟨t, HT⟩ : ∃ t, Hid (tasks.getD k default = t) := ⟨_, rfl⟩
        have tcl := (HT.out ▸ hcl k hlt).keep (Keeps.of_below hw)
        obtain ⟨d0, _, _, _, _, d5⟩ := tcl
        have hok := Hok.out t (HT.out ▸ getD_mem hlt)
        have n1 := hok.name
        have n2 : t.parts.length ≤ maxLen := Nat.le_trans hok.sl.2.1 hok.sl.2.2
        unfold maxLen at n1 n2
        clear hcl hok
        by_cases z1 : (20 : Int) < (t.name.size : Int)
        · go_wp2
          go_ret
          exact HF.out _ hw
        · by_cases z2 : (10 : Int) < (t.parts.length : Int)
          · go_wp2
            go_ret
            exact HF.out _ hw
          · have Hj2 : Hid (∀ j, j < k + 1 → (tasks.getD j default).parts.length ≤ 10) := hidp (by
              intro j hj
              by_cases e : j = k
              · subst e; rw [HT.out]; omega
              · exact Hj.out j (by omega))
            go_wp2
            go_roundg (gk - 1)
            case measure => omega
            case rel => exact ⟨k + 1, by omega, by go_num, sc, hw, Hj2⟩
      · have hk2 : k = tasks.length := by omega
        have HQ : Hid (FewS ⟨proto, ca, cc, cores, ha, hc, homes, ta, tc, tasks⟩ ∧ tasks.length ≤ 9) := hidp (by
          refine ⟨⟨by dsimp only; omega, by dsimp only; omega, by dsimp only; omega, fun t ht => ?_⟩, by omega⟩
          obtain ⟨j, hj, rfl⟩ := mem_getD ht
          dsimp only at hj
          have := Hj.out j (by omega)
          dsimp only
          omega)
        go_wp2
        go_ret
        exact ⟨⟨true, rfl, fun _ => HQ.out⟩, hw⟩

end Go.Proofs.YtlmliefkhidpnaaGreatDoor
