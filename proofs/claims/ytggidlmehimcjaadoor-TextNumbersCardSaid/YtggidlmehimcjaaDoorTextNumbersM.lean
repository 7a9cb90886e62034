/- TextNumbers: a task's numbers are read as they stand, each in its place. No condition. -/
import Derived.Test.YtggidlmehimcjaaDoorSound
import Derived.Test.YtggidlmehimcjaaDoorTxtC
import Derived.Test.YtggidlmehimcjaaDoorTxtV
import Derived.Test.YtggidlmehimcjaaDoorKnown9
import Derived.Test.YtggidlmehimcjaaDoorSame3
import Derived.Test.YtggidlmehimcjaaDoorRef7a
import Derived.Test.YtggidlmehimcjaaDoorSame5
import Derived.StillTailTactics
import Derived.Test.YtggidlmehimcjaaDoorLit
namespace Go.Proofs.YtggidlmehimcjaaDoor
open Go.ChangeShapes Go.WideShapes Go.ChangeAt Go.RowKit
set_option linter.unusedVariables false
theorem okS_mk {s : SetR} (h1 : inB s.proto 1 3 = true) (h2 : inB s.cores.length 1 3 = true) (h3 : allB s.cores 1 3 = true) (h4 : s.homes.length ≤ 4) (h5 : allB s.homes 0 ((s.cores.length : Int) - 1) = true) (h6 : 1 ≤ s.tasks.length) (h7 : s.tasks.length ≤ 6)
    (ht : ∀ k, k < s.tasks.length → formB (s.tasks.getD k default) = true ∧ inB (s.tasks.getD k default).cl 0 ((s.cores.length : Int) - 1) = true ∧ takenB (s.tasks.take k) (s.tasks.getD k default) = false ∧ partsB (s.tasks.getD k default).parts s.homes.length = true) : okS s = true := by
  refine (okS_iff s).2 ⟨?_, fun k hk => ?_⟩
  · unfold frameV
    rw [if_neg (by simp [h1]), if_neg (by simp [h2]), if_neg (by simp [h3]), if_neg (by omega), if_neg (by simp [h5]), if_neg (by omega), if_neg (by omega)]
  · obtain ⟨a, b, c, d⟩ := ht k hk
    unfold taskE
    rw [if_neg (by rw [a]; decide), if_neg (by rw [b]; decide), if_neg (by rw [c]; decide), if_neg (by rw [d]; decide)]
theorem nameA : nameB ⟨#[97]⟩ = true := by decide +kernel
theorem nameBb : nameB ⟨#[98]⟩ = true := by decide +kernel
theorem namesAB : ((⟨#[97]⟩ : ByteArray).toList == (⟨#[98]⟩ : ByteArray).toList) = false := by decide +kernel
theorem okTwo {S : SetR} {run lock run2 lock2 : Int} {proto : Int} (hp : S.proto = proto) (hc : S.cores = [1]) (hh : S.homes = [0]) {a1 a2 : Option Addr} {c1 c2 : Nat} (ht : S.tasks = [⟨⟨#[97]⟩, 100, 100, 1, 0, a1, c1, [⟨1, run, 0⟩, ⟨3, lock, 0⟩]⟩, ⟨⟨#[98]⟩, 200, 200, 2, 0, a2, c2, [⟨1, run2, 0⟩, ⟨3, lock2, 0⟩]⟩])
    (k0 : 1 ≤ proto ∧ proto ≤ 3) (k1 : 1 ≤ run ∧ run ≤ 60) (k2 : 1 ≤ lock ∧ lock ≤ 60) (k3 : 1 ≤ run2 ∧ run2 ≤ 60) (k4 : 1 ≤ lock2 ∧ lock2 ≤ 60) : okS S = true := by
  refine okS_mk (by rw [hp]; exact inB_true.2 k0) (by rw [hc]; decide) (by rw [hc]; decide) (by rw [hh]; decide) (by rw [hh, hc]; decide) (by rw [ht]; simp) (by rw [ht]; simp) (fun k hk => ?_)
  rw [ht] at hk
  have hp : ∀ x y : Int, 1 ≤ x ∧ x ≤ 60 → 1 ≤ y ∧ y ≤ 60 → partsB [⟨1, x, 0⟩, ⟨3, y, 0⟩] 1 = true := fun x y hx hy => by
    have e1 : inB x 1 60 = true := inB_true.2 hx
    have e2 : inB y 1 60 = true := inB_true.2 hy
    have e3 : inB 0 0 0 = true := by decide
    have e4 : inB 2 1 6 = true := by decide
    simp [partsB, partB, e1, e2, e3, e4]
  match k, hk with
  | 0, _ =>
    rw [ht, hc, hh]
    refine ⟨?_, (by show inB 0 0 0 = true; decide), (by simp [takenB]), hp _ _ k1 k2⟩
    show formB _ = true
    simp only [List.getD_cons_zero, formB, nameA]
    decide
  | 1, _ =>
    rw [ht, hc, hh]
    refine ⟨?_, (by show inB 0 0 0 = true; decide), ?_, hp _ _ k3 k4⟩
    · show formB _ = true
      simp only [List.getD_cons_succ, List.getD_cons_zero, formB, nameBb]
      decide
    · simp [takenB, likeB]
end Go.Proofs.YtggidlmehimcjaaDoor

namespace Go.Proofs.YtggidlmehimcjaaDoor
open Go.ChangeShapes Go.WideShapes Go.ChangeAt Go.RowKit
set_option linter.unusedVariables false
set_option linter.unusedSimpArgs false
theorem pl_run (x : Bts) (h : ∀ c ∈ x, c ≠ 10) (cur r : Bts) : pl 10 cur (x ++ 10 :: r) = (cur ++ x) :: pl 10 [] r := by
  induction x generalizing cur with
  | nil => rw [List.nil_append, pl, if_pos rfl, List.append_nil]
  | cons a t ih =>
    rw [List.cons_append, pl, if_neg (h a (by simp)), ih (fun c hc => h c (by simp [hc]))]
    simp
/-- lines, each ended by a line end -/
def ended (ls : List Bts) : Bts := ls.flatMap (fun l => l ++ [10])
theorem join_ended {ls : List Bts} (h : ls ≠ []) : joinT 10 ls ++ [10] = ended ls := by
  induction ls with
  | nil => exact absurd rfl h
  | cons a t ih =>
    cases t with
    | nil => simp [joinT, ended]
    | cons b t =>
      have := ih (by simp)
      show (a ++ 10 :: joinT 10 (b :: t)) ++ [10] = (a ++ [10]) ++ ended (b :: t)
      rw [← this]; simp
theorem lines_ended {ls : List Bts} (h : ∀ l ∈ ls, ∀ c ∈ l, c ≠ 10) : linesL (ended ls) = ls := by
  unfold linesL
  induction ls with
  | nil => rfl
  | cons a t ih =>
    have e : ended (a :: t) = a ++ 10 :: ended t := by simp [ended]
    rw [e, pl_run a (h a (by simp)), ih (fun l hl => h l (List.mem_cons_of_mem _ hl))]
    rfl
theorem hasT_no {p : Bts} {a : UInt8} {q : Bts} (hp : p = a :: q) (l : Bts) (h : ∀ c ∈ l, c ≠ a) : hasT p l = false := by
  induction l with
  | nil => rw [hp]; rfl
  | cons b t ih =>
    unfold hasT
    rw [ih (fun c hc => h c (by simp [hc])), Bool.or_false, hp]
    simp only [List.isPrefixOf, Bool.and_eq_false_imp]
    intro e
    exact absurd (by simpa using e : a = b).symm (h b (by simp))
theorem nest_digits {w : Bts} (h : ∀ c ∈ w, c ≠ 58) : nestT w = false := by
  unfold nestT
  rw [Bool.and_eq_false_iff]; left
  rw [Bool.eq_false_iff]
  intro hp
  obtain ⟨t, ht⟩ := List.isPrefixOf_iff_prefix.1 hp
  exact h 58 (by rw [← ht]; simp) rfl
theorem digit_108 {n : Int} (h : 0 ≤ n ∧ n ≤ 9999999) : ∀ c ∈ textL n, c ≠ 108 := by
  intro c hc
  rw [textL_dec h] at hc
  have hd := dec_dig _ c hc
  unfold isDig digB at hd
  rintro rfl
  revert hd; decide
theorem nest_part {p : PartT} (h : p.good) : nestT (partW p) = false := by
  obtain ⟨hk, hl, hr⟩ := h
  unfold partW
  split
  · unfold nestT; rw [Bool.and_eq_false_iff]; left; rfl
  · split
    · unfold nestT; rw [Bool.and_eq_false_iff]; left; rfl
    · unfold nestT
      rw [Bool.and_eq_false_iff]; right
      show hasT (tLock ++ [58]) (textL p.res ++ 58 :: textL p.len) = false
      refine hasT_no (q := [111, 99, 107, 58]) rfl _ (fun c hc => ?_)
      rcases List.mem_append.1 hc with g | g
      · exact digit_108 hr c g
      · rcases List.mem_cons.1 g with rfl | g
        · decide
        · exact digit_108 hl c g
theorem line_task {t : TaskT} (h : t.good) (r : RdT) (k : Nat) (hw : 2 ≤ r.want) : lineT r k (wordsL (taskW t)) = .ok { r with want := 3, tasksAt := r.tasksAt ++ [k], tasks := r.tasks ++ [t] } := by
  rw [words_task h]
  have hn : (t.name :: ([t.per, t.dl, t.prio, t.cl].map textL ++ t.parts.map partW)).any nestT = false := by
    rw [Bool.eq_false_iff]
    intro hx
    obtain ⟨w, hw, hx⟩ := List.any_eq_true.1 hx
    have : nestT w = false := by
      rcases List.mem_cons.1 hw with rfl | hw
      · exact nest_digits (fun c hc => (h.name.2 c hc).2.2.2)
      · rcases List.mem_append.1 hw with hw | hw
        · obtain ⟨n, hm, rfl⟩ := List.mem_map.1 hw
          exact nest_digits (fun c hc => ((textL_plain (h.nums n hm)).2 c hc).2.2.2)
        · obtain ⟨p, hm, rfl⟩ := List.mem_map.1 hw
          exact nest_part (h.parts p hm)
    rw [this] at hx; cases hx
  have hk : taskT (t.name :: ([t.per, t.dl, t.prio, t.cl].map textL ++ t.parts.map partW)) = .ok t := by
    unfold taskT
    rw [if_neg (by rw [hn]; decide)]
    have h1 : numsT [textL t.per, textL t.dl, textL t.prio, textL t.cl] = some [t.per, t.dl, t.prio, t.cl] := numsT_textL (l := [t.per, t.dl, t.prio, t.cl]) h.nums
    have h2 := partsT_partW h.parts
    show (match numsT [textL t.per, textL t.dl, textL t.prio, textL t.cl], partsT (t.parts.map partW) with
      | some [p, dl, q, cl], some parts => Except.ok (⟨t.name, p, dl, q, cl, parts⟩ : TaskT)
      | _, _ => Except.error (10 : Int)) = _
    rw [h1, h2]
  unfold lineT tTask
  dsimp only
  rw [if_neg (by rintro ⟨e, _⟩; exact absurd e (by decide)), if_neg (by rintro ⟨e, _⟩; exact absurd e (by decide)), if_neg (by rintro ⟨e, _⟩; exact absurd e (by decide)), if_pos ⟨rfl, hw⟩, hk]
theorem nums_words {h : Bts} {l : List Int} (hh : h ≠ [] ∧ ∀ c ∈ h, c ≠ 32 ∧ c ≠ 35) (hl : ∀ n ∈ l, 0 ≤ n ∧ n ≤ 9999999) : wordsL (numsW h l) = h :: l.map textL := by
  unfold numsW
  refine words_join (fun w hw => ?_)
  rcases List.mem_cons.1 hw with rfl | hw
  · exact hh
  · obtain ⟨n, hm, rfl⟩ := List.mem_map.1 hw
    exact ⟨(textL_plain (hl n hm)).1, fun c hc => ⟨((textL_plain (hl n hm)).2 c hc).1, ((textL_plain (hl n hm)).2 c hc).2.1⟩⟩
theorem nums_plain {h : Bts} {l : List Int} (hh : ∀ c ∈ h, c ≠ 10 ∧ c ≠ 35) (hl : ∀ n ∈ l, 0 ≤ n ∧ n ≤ 9999999) : ∀ c ∈ numsW h l, c ≠ 10 ∧ c ≠ 35 := by
  unfold numsW
  refine joinT_mem (p := fun c => c ≠ 10 ∧ c ≠ 35) (by decide) (fun w hw => ?_)
  rcases List.mem_cons.1 hw with rfl | hw
  · exact hh
  · obtain ⟨n, hm, rfl⟩ := List.mem_map.1 hw
    exact fun c hc => ⟨((textL_plain (hl n hm)).2 c hc).2.2.1, ((textL_plain (hl n hm)).2 c hc).2.1⟩
theorem task_plain {t : TaskT} (h : t.good) : ∀ c ∈ taskW t, c ≠ 10 ∧ c ≠ 35 := by
  unfold taskW
  refine joinT_mem (p := fun c => c ≠ 10 ∧ c ≠ 35) (by decide) (fun w hw => ?_)
  rcases List.mem_cons.1 hw with rfl | hw
  · refine nums_plain (fun c hc => ?_) h.nums
    rcases List.mem_append.1 hc with g | g
    · exact (by decide : ∀ c ∈ ([116, 97, 115, 107, 32] : Bts), c ≠ 10 ∧ c ≠ 35) c g
    · exact ⟨(h.name.2 c g).2.2.1, (h.name.2 c g).2.1⟩
  · obtain ⟨p, hm, rfl⟩ := List.mem_map.1 hw
    exact fun c hc => ⟨((partW_plain (h.parts p hm)).2 c hc).2.2, ((partW_plain (h.parts p hm)).2 c hc).2.1⟩
/-- what may be printed and read -/
structure RdT.good (r : RdT) : Prop where
  proto : r.proto = 1 ∨ r.proto = 2 ∨ r.proto = 3
  cores : r.cores ≠ [] ∧ ∀ n ∈ r.cores, 0 ≤ n ∧ n ≤ 9999999
  homes : ∀ n ∈ r.homes, 0 ≤ n ∧ n ≤ 9999999
  tasks : ∀ t ∈ r.tasks, t.good
def linesOf (r : RdT) : List Bts := ([112, 114, 111, 116, 111, 99, 111, 108, 32] ++ protoW r.proto) :: numsW [99, 111, 114, 101, 115] r.cores :: ((if r.homes = [] then [] else [numsW [104, 111, 109, 101, 115] r.homes]) ++ r.tasks.map taskW)
theorem print_lines (r : RdT) : printT r = ended (linesOf r) := join_ended (by simp [linesOf])
theorem linesOf_plain {r : RdT} (h : r.good) : ∀ l ∈ linesOf r, ∀ c ∈ l, c ≠ 10 ∧ c ≠ 35 := by
  intro l hl
  unfold linesOf at hl
  rcases List.mem_cons.1 hl with rfl | hl
  · intro c hc
    have : ∀ p : Int, (p = 1 ∨ p = 2 ∨ p = 3) → ∀ c ∈ ([112, 114, 111, 116, 111, 99, 111, 108, 32] : Bts) ++ protoW p, c ≠ 10 ∧ c ≠ 35 := by
      rintro p (rfl | rfl | rfl) <;> decide
    exact this _ h.proto c hc
  · rcases List.mem_cons.1 hl with rfl | hl
    · exact nums_plain (by decide) h.cores.2
    · rcases List.mem_append.1 hl with hl | hl
      · split at hl
        · simp at hl
        · rw [List.mem_singleton.1 hl]; exact nums_plain (by decide) h.homes
      · obtain ⟨t, ht, rfl⟩ := List.mem_map.1 hl
        exact task_plain (h.tasks t ht)
/-- alike but for where lines stand -/
def Alike (a b : RdT) : Prop := a.proto = b.proto ∧ a.cores = b.cores ∧ a.homes = b.homes ∧ a.tasks = b.tasks ∧ a.want = b.want
theorem Alike.bare {a b : RdT} (h : Alike a b) : a.bare = b.bare := by
  obtain ⟨h1, h2, h3, h4, h5⟩ := h
  unfold RdT.bare
  rw [h1, h2, h3, h4]
theorem lineT_alike {a b : RdT} (h : Alike a b) (j k : Nat) (l : List Bts) {a' : RdT} (hl : lineT a j l = .ok a') : ∃ b', lineT b k l = .ok b' ∧ Alike a' b' := by
  obtain ⟨h1, h2, h3, h4, h5⟩ := h
  cases l with
  | nil => exact ⟨b, rfl, by injection hl with hl; subst hl; exact ⟨h1, h2, h3, h4, h5⟩⟩
  | cons hd rest =>
    unfold lineT at hl ⊢
    dsimp only at hl ⊢
    rw [← h5]
    split at hl
    · rename_i g; rw [if_pos g]
      cases hp : protoT rest with
      | none => rw [hp] at hl; cases hl
      | some p => rw [hp] at hl; injection hl with hl; subst hl; exact ⟨_, rfl, rfl, h2, h3, h4, rfl⟩
    · rename_i g; rw [if_neg g]
      split at hl
      · rename_i g; rw [if_pos g]
        cases hp : someT rest with
        | none => rw [hp] at hl; cases hl
        | some p => rw [hp] at hl; injection hl with hl; subst hl; exact ⟨_, rfl, h1, rfl, h3, h4, rfl⟩
      · rename_i g; rw [if_neg g]
        split at hl
        · rename_i g; rw [if_pos g]
          cases hp : someT rest with
          | none => rw [hp] at hl; cases hl
          | some p => rw [hp] at hl; injection hl with hl; subst hl; exact ⟨_, rfl, h1, h2, rfl, h4, rfl⟩
        · rename_i g; rw [if_neg g]
          split at hl
          · rename_i g; rw [if_pos g]
            cases hp : taskT rest with
            | error e => rw [hp] at hl; cases hl
            | ok p => rw [hp] at hl; injection hl with hl; subst hl; exact ⟨_, rfl, h1, h2, h3, by simp [h4], rfl⟩
          · cases hl
/-- the same words line by line, blank lines between -/
inductive Like : List Bts → List Bts → Prop where
  | nil : Like [] []
  | line {a b : Bts} {xs ys : List Bts} : wordsL b = wordsL a → Like xs ys → Like (a :: xs) (b :: ys)
  | blank {b : Bts} {xs ys : List Bts} : wordsL b = [] → Like xs ys → Like xs (b :: ys)
theorem lines_like {xs ys : List Bts} (h : Like xs ys) : ∀ {a b a' : RdT} {j k : Nat}, Alike a b → linesT a j xs = .ok a' → ∃ b', linesT b k ys = .ok b' ∧ Alike a' b' := by
  induction h with
  | nil =>
    intro a b a' j k hab ha
    unfold linesT at ha ⊢
    rw [← hab.2.2.2.2]
    split at ha
    · cases ha
    · rename_i g
      injection ha with ha; subst ha
      exact ⟨b, by rw [if_neg g], hab⟩
  | line hw _ ih =>
    intro a b a' j k hab ha
    unfold linesT at ha ⊢
    rw [hw]
    split at ha
    · rename_i r' hr
      obtain ⟨b', hb, hab'⟩ := lineT_alike hab j k _ hr
      rw [hb]
      exact ih hab' ha
    · cases ha
  | blank hw _ ih =>
    intro a b a' j k hab ha
    conv => enter [1, b']; lhs; unfold linesT
    rw [hw]
    exact ih hab ha
theorem tasks_read {ts : List TaskT} (h : ∀ t ∈ ts, t.good) : ∀ (r : RdT) (k : Nat), 2 ≤ r.want → ∃ r', linesT r k (ts.map taskW) = .ok r' ∧ r'.bare = { r with tasks := r.tasks ++ ts }.bare := by
  induction ts with
  | nil =>
    intro r k hw
    refine ⟨r, ?_, by simp⟩
    unfold linesT
    rw [List.map_nil]
    dsimp only
    rw [if_neg (by omega)]
  | cons t ts ih =>
    intro r k hw
    obtain ⟨r', h1, h2⟩ := ih (fun t ht => h t (List.mem_cons_of_mem _ ht)) { r with want := 3, tasksAt := r.tasksAt ++ [k], tasks := r.tasks ++ [t] } (k + 1) (show 2 ≤ 3 by decide)
    refine ⟨r', ?_, by rw [h2]; simp [RdT.bare]⟩
    rw [List.map_cons]
    unfold linesT
    rw [line_task (h t (by simp)) r k hw]
    exact h1
theorem lines_read {r : RdT} (h : r.good) : ∃ r', linesT ⟨0, [], [], [], 0, 0, []⟩ 0 (linesOf r) = .ok r' ∧ r'.bare = r.bare := by
  have c1 : lineT ⟨0, [], [], [], 0, 0, []⟩ 0 (wordsL ([112, 114, 111, 116, 111, 99, 111, 108, 32] ++ protoW r.proto)) = .ok ⟨r.proto, [], [], [], 1, 0, []⟩ := by
    rcases h.proto with e | e | e <;> rw [e] <;> rfl
  have c2 : lineT ⟨r.proto, [], [], [], 1, 0, []⟩ 1 (wordsL (numsW [99, 111, 114, 101, 115] r.cores)) = .ok ⟨r.proto, r.cores, [], [], 2, 1, []⟩ := by
    rw [nums_words (by decide) h.cores.2]
    unfold lineT
    dsimp only
    have hs : someT (r.cores.map textL) = some r.cores := by
      unfold someT
      rw [numsT_textL h.cores.2]
      cases hc : r.cores with
      | nil => exact absurd hc h.cores.1
      | cons a t => rfl
    rw [if_neg (by rintro ⟨e, _⟩; exact absurd e (by decide)), if_pos (by decide), hs]
  unfold linesOf
  by_cases hh : r.homes = []
  · rw [if_pos hh, List.nil_append]
    obtain ⟨r', h1, h2⟩ := tasks_read h.tasks ⟨r.proto, r.cores, [], [], 2, 1, []⟩ 2 (show 2 ≤ 2 by decide)
    refine ⟨r', ?_, by rw [h2]; simp [RdT.bare, hh]⟩
    unfold linesT
    rw [c1]
    dsimp only
    unfold linesT
    rw [c2]
    exact h1
  · rw [if_neg hh]
    have c3 : lineT ⟨r.proto, r.cores, [], [], 2, 1, []⟩ 2 (wordsL (numsW [104, 111, 109, 101, 115] r.homes)) = .ok ⟨r.proto, r.cores, r.homes, [], 3, 1, []⟩ := by
      rw [nums_words (by decide) h.homes]
      unfold lineT
      dsimp only
      have hs : someT (r.homes.map textL) = some r.homes := by
        unfold someT
        rw [numsT_textL h.homes]
        cases hc : r.homes with
        | nil => exact absurd hc hh
        | cons a t => rfl
      rw [if_neg (by rintro ⟨e, _⟩; exact absurd e (by decide)), if_neg (by rintro ⟨e, _⟩; exact absurd e (by decide)), if_pos (by decide), hs]
    obtain ⟨r', h1, h2⟩ := tasks_read h.tasks ⟨r.proto, r.cores, r.homes, [], 3, 1, []⟩ 3 (show 2 ≤ 3 by decide)
    refine ⟨r', ?_, by rw [h2]; simp [RdT.bare]⟩
    unfold linesT
    rw [c1]
    dsimp only
    unfold linesT
    rw [c2]
    dsimp only
    rw [List.singleton_append]
    unfold linesT
    rw [c3]
    exact h1
/-- what is printed is read -/
theorem read_print {r : RdT} (h : r.good) : ∃ r', readT (printT r) = .ok r' ∧ r'.bare = r.bare := by
  have hp := linesOf_plain h
  unfold readT
  rw [print_lines, lines_ended (fun l hl c hc => (hp l hl c hc).1)]
  exact lines_read h
end Go.Proofs.YtggidlmehimcjaaDoor

namespace Go.Proofs.YtggidlmehimcjaaDoor
open Go.ChangeShapes Go.WideShapes Go.ChangeAt Go.RowKit
set_option linter.unusedVariables false
set_option linter.unusedSimpArgs false
theorem told_ok {r r2 : RdT} {n : Nat} (h : r2.bare = r.bare) (hc : chkE r.bare = 0) : toldV r2 n = (r.bare, (n : Int), 0) := by
  unfold toldV
  rw [h, if_pos hc]
theorem parse_print {r : RdT} (h : r.good) (hl : (printT r).length ≤ 2000) (hc : chkE r.bare = 0) : parseV (printT r) = (r.bare, ((linesOf r).length : Int), 0) := by
  obtain ⟨r2, h1, h2⟩ := read_print h
  rw [parseV_ok hl h1, told_ok h2 hc]
  have hp := linesOf_plain h
  rw [print_lines, lines_ended (fun l hl c hc => (hp l hl c hc).1)]
theorem PartT.m_t (p : PartT) : p.m.t = p := rfl
theorem TaskT.bare_rd (t : TaskT) : t.bare.rd = t := by
  obtain ⟨n, a, b, c, d, ps⟩ := t
  unfold TaskT.bare TaskR.rd
  simp only [bl_mk, List.map_map, TaskT.mk.injEq, true_and]
  rw [show (PartM.t ∘ PartT.m) = id from rfl, List.map_id]
theorem printT_bare (r : RdT) : printT r.bare.rd = printT r := by
  have h : r.tasks.map (TaskR.rd ∘ TaskT.bare) = r.tasks := by
    rw [show (TaskR.rd ∘ TaskT.bare) = id from funext TaskT.bare_rd, List.map_id]
  unfold printT SetR.rd RdT.bare
  dsimp only
  rw [List.map_map, h]
theorem printV_rd {r : RdT} (hc : chkE r.bare = 0) : printV r.bare = printT r := by
  have h : okS r.bare = true := by unfold okS; rw [hc]; rfl
  unfold printV
  rw [if_pos h, printT_bare]
theorem okS_chk {s : SetR} (h : okS s = true) : chkE s = 0 := by unfold okS at h; simpa using h
/-- the set of a data that may be -/
theorem good_of {s : SetR} (h : okS s = true) : s.rd.good := by
  have g := Good.of h
  have hi := (okS_iff s).1 h
  refine ⟨by have := g.proto; show s.proto = 1 ∨ s.proto = 2 ∨ s.proto = 3; omega, ⟨fun e => ?_, fun n hn => ?_⟩, fun n hn => ?_, fun t ht => ?_⟩
  · have := g.ncores.1
    have e2 : s.cores = [] := e
    rw [e2] at this; simp at this
  · have := g.cores n hn; omega
  · have := g.homes n hn; have := g.ncores.2; omega
  · obtain ⟨u, hu, rfl⟩ := List.mem_map.1 ht
    have hf := g.form u hu
    have hp := g.place u hu
    unfold formB at hf
    simp only [Bool.and_eq_true] at hf
    obtain ⟨f1, f2, f3, f4⟩ := hf
    have f2 := inB_true.1 f2
    have f3 := inB_true.1 f3
    have f4 := inB_true.1 f4
    have hnc := g.ncores.2
    have hname : bl u.name ≠ [] ∧ ∀ c ∈ bl u.name, c ≠ 32 ∧ c ≠ 35 ∧ c ≠ 10 ∧ c ≠ 58 := by
      unfold nameB at f1
      rw [Bool.and_eq_true, List.all_eq_true] at f1
      obtain ⟨n1, n2⟩ := f1
      have n1 := of_decide_eq_true n1
      refine ⟨fun e => ?_, fun c hc => ?_⟩
      · have := congrArg List.length e
        rw [bl_len] at this; have h0 : ([] : Bts).length = 0 := rfl; omega
      · obtain ⟨i, hi, e⟩ := List.mem_iff_getElem.1 hc
        rw [bl_len] at hi
        have := n2 i (List.mem_range.2 hi)
        rw [byteAt_bl] at this
        simp only [List.getD, List.getElem?_eq_getElem (show i < (bl u.name).length by rw [bl_len]; exact hi), Option.getD_some, e] at this
        unfold okB at this
        refine ⟨?_, ?_, ?_, ?_⟩ <;> (rintro rfl; revert this; simp)
    refine ⟨hname, fun n hn => ?_, fun p hp => ?_⟩
    · simp only [TaskR.rd, List.mem_cons, List.not_mem_nil, or_false] at hn
      rcases hn with e | e | e | e <;> (rw [e]; constructor <;> omega)
    · obtain ⟨q, hq, rfl⟩ := List.mem_map.1 hp
      have hg := (g.parts u hu).good q hq
      obtain ⟨k, hk, rfl⟩ := mem_getD hu
      have hpb := (taskE_ok (hi.2 k hk)).2.2.2
      unfold partsB at hpb
      rw [Bool.and_eq_true, List.all_eq_true] at hpb
      have hqb := hpb.2 q hq
      have hh := g.nhomes
      unfold partB at hqb
      obtain ⟨k0, l0, l1, r0⟩ := hg
      refine ⟨?_, ⟨by show (0 : Int) ≤ q.len; omega, by show q.len ≤ (9999999 : Int); omega⟩, ?_⟩
      · show q.kind = 1 ∧ q.res = 0 ∨ q.kind = 2 ∧ q.res = 0 ∨ q.kind = 3
        rcases k0 with e | e | e
        · rw [e, if_neg (by decide), if_pos (.inl rfl), Bool.and_eq_true] at hqb
          have := inB_true.1 hqb.2
          left; exact ⟨e, by omega⟩
        · rw [e, if_neg (by decide), if_pos (.inr rfl), Bool.and_eq_true] at hqb
          have := inB_true.1 hqb.2
          right; left; exact ⟨e, by omega⟩
        · right; right; exact e
      · show (0 : Int) ≤ q.res ∧ q.res ≤ 9999999
        rcases k0 with e | e | e
        · rw [e, if_neg (by decide), if_pos (.inl rfl), Bool.and_eq_true] at hqb
          have := inB_true.1 hqb.2
          omega
        · rw [e, if_neg (by decide), if_pos (.inr rfl), Bool.and_eq_true] at hqb
          have := inB_true.1 hqb.2
          omega
        · have := r0 e; omega
theorem rd_bare (s : SetR) : s.rd.bare = s.bare := by
  unfold SetR.rd RdT.bare SetR.bare
  dsimp only
  rw [List.map_map]
  congr 1
  refine List.map_congr_left (fun t _ => ?_)
  show (TaskR.rd t).bare = t.bare
  unfold TaskR.rd TaskT.bare TaskR.bare
  dsimp only
  rw [mk_bl, List.map_map, show (PartT.m ∘ PartM.t) = id from rfl, List.map_id]
end Go.Proofs.YtggidlmehimcjaaDoor

namespace Go.Proofs.YtggidlmehimcjaaDoor
open Go.ChangeShapes Go.WideShapes Go.ChangeAt Go.RowKit
set_option linter.unusedVariables false
set_option linter.unusedSimpArgs false
/-- a task's box, its parts' length apart -/
def TBox (w : World) (b : Nat) (nm : ByteArray) (per dl prio cl : Int) (pa : Option Addr) (n pc : Nat) : Prop :=
  w.cell? ⟨b, 0, none⟩ = some (.string nm) ∧ w.cell? ⟨b, 1, none⟩ = some (.int .i64 per) ∧ w.cell? ⟨b, 2, none⟩ = some (.int .i64 dl) ∧ w.cell? ⟨b, 3, none⟩ = some (.int .i64 prio) ∧ w.cell? ⟨b, 4, none⟩ = some (.int .i64 cl) ∧ w.cell? ⟨b, 5, none⟩ = some (.slice pa n pc)
theorem TBox.keep {w w' : World} {b : Nat} {nm : ByteArray} {per dl prio cl : Int} {pa : Option Addr} {n pc : Nat} (h : TBox w b nm per dl prio cl pa n pc) (k : Keeps w w') : TBox w' b nm per dl prio cl pa n pc := ⟨k _ _ h.1, k _ _ h.2.1, k _ _ h.2.2.1, k _ _ h.2.2.2.1, k _ _ h.2.2.2.2.1, k _ _ h.2.2.2.2.2⟩
theorem TBox.new (w : World) (nm : ByteArray) (per dl prio cl : Int) (pa : Option Addr) (n pc : Nat) (T : TypeId) : TBox (w.alloc (.cells #[.string nm, .int .i64 per, .int .i64 dl, .int .i64 prio, .int .i64 cl, .slice pa n pc] T)) w.heap.size nm per dl prio cl pa n pc := by
  refine ⟨?_, ?_, ?_, ?_, ?_, ?_⟩ <;> simp

set_option maxHeartbeats 4000000 in
theorem rsameTask_any (t u : TaskR) (w : World) (ht : TaskOk w t) (hu : TaskOk w u) : Calls Tryd.prog 23 #[.agg #[.string t.name, .int .i64 t.per, .int .i64 t.dl, .int .i64 t.prio, .int .i64 t.cl, .slice t.pa t.parts.length t.pc], .agg #[.string u.name, .int .i64 u.per, .int .i64 u.dl, .int .i64 u.prio, .int .i64 u.cl, .slice u.pa u.parts.length u.pc]] w fun e w' => e = .returned (.bool (sameT t u)) ∧ Below w.heap.size w w' := by
  obtain ⟨nm, per, dl, prio, cl, pa, pc, parts⟩ := t
  obtain ⟨nm2, per2, dl2, prio2, cl2, pa2, pc2, parts2⟩ := u
  have l1 : parts.length ≤ maxLen := Nat.le_trans ht.sl.2.1 ht.sl.2.2
  have l2 : parts2.length ≤ maxLen := Nat.le_trans hu.sl.2.1 hu.sl.2.2
  unfold maxLen at l1 l2
  dsimp only
  obtain ⟨n, hn⟩ : ∃ n, parts.length = n := ⟨_, rfl⟩
  obtain ⟨m, hm⟩ : ∃ m, parts2.length = m := ⟨_, rfl⟩
  rw [hn] at l1
  rw [hm] at l2
  rw [hn, hm]
  have Hn := hidp hn
  have Hm := hidp hm
  clear hn hm
  have hb1 := (Below.refl w.heap.size w).alloc (Nat.le_refl _) (.cells #[.string nm, .int .i64 per, .int .i64 dl, .int .i64 prio, .int .i64 cl, .slice pa n pc] 45)
  have hb := hb1.alloc hb1.size (.cells #[.string nm2, .int .i64 per2, .int .i64 dl2, .int .i64 prio2, .int .i64 cl2, .slice pa2 m pc2] 45)
  have P1 := hidp ht.at_
  have P2 := hidp hu.at_
  dsimp only at P1 P2
  have tb1 := (TBox.new w nm per dl prio cl pa n pc 45).keep (Keeps.alloc (w.alloc (.cells #[.string nm, .int .i64 per, .int .i64 dl, .int .i64 prio, .int .i64 cl, .slice pa n pc] 45)) (.cells #[.string nm2, .int .i64 per2, .int .i64 dl2, .int .i64 prio2, .int .i64 cl2, .slice pa2 m pc2] 45))
  have tb2 := TBox.new (w.alloc (.cells #[.string nm, .int .i64 per, .int .i64 dl, .int .i64 prio, .int .i64 cl, .slice pa n pc] 45)) nm2 per2 dl2 prio2 cl2 pa2 m pc2 45
  rw [show (w.alloc (.cells #[.string nm, .int .i64 per, .int .i64 dl, .int .i64 prio, .int .i64 cl, .slice pa n pc] 45)).heap.size = w.heap.size + 1 by simp] at tb2
  obtain ⟨f0, f1, f2, f3, f4, f5⟩ := id tb1
  obtain ⟨q0, q1, q2, q3, q4, q5⟩ := id tb2
  obtain ⟨b, hB⟩ : ∃ b, sameT ⟨nm, per, dl, prio, cl, pa, pc, parts⟩ ⟨nm2, per2, dl2, prio2, cl2, pa2, pc2, parts2⟩ = b := ⟨_, rfl⟩
  rw [hB]
  unfold sameT at hB
  dsimp only at hB
  clear hb1 ht hu
  cases h0 : (nm.toList == nm2.toList)
  · have Hs : Hid (b = false) := hidp (by rw [← hB]; simp only [h0, Bool.true_and, Bool.false_and])
    clear hB
    have t1 : (nm.toList != nm2.toList) = true := by unfold bne; rw [h0]; rfl
    go_enter Tryd.func23, Tryd.ntmps23
    go_wp2_with fail
    go_ret
    exact ⟨ret_bool Hs.out.symm, hb⟩
  · have g0 : (nm.toList != nm2.toList) = false := by unfold bne; rw [h0]; rfl
    cases h1 : (per == per2)
    · have Hs : Hid (b = false) := hidp (by rw [← hB]; simp only [h0, h1, Bool.true_and, Bool.false_and])
      clear hB
      have t1 : (per != per2) = true := by unfold bne; rw [h1]; rfl
      go_enter Tryd.func23, Tryd.ntmps23
      go_wp2_with fail
      go_ret
      exact ⟨ret_bool Hs.out.symm, hb⟩
    · have g1 : (per != per2) = false := by unfold bne; rw [h1]; rfl
      cases h2 : (dl == dl2)
      · have Hs : Hid (b = false) := hidp (by rw [← hB]; simp only [h0, h1, h2, Bool.true_and, Bool.false_and])
        clear hB
        have t1 : (dl != dl2) = true := by unfold bne; rw [h2]; rfl
        go_enter Tryd.func23, Tryd.ntmps23
        go_wp2_with fail
        go_ret
        exact ⟨ret_bool Hs.out.symm, hb⟩
      · have g2 : (dl != dl2) = false := by unfold bne; rw [h2]; rfl
        cases h3 : (prio == prio2)
        · have Hs : Hid (b = false) := hidp (by rw [← hB]; simp only [h0, h1, h2, h3, Bool.true_and, Bool.false_and])
          clear hB
          have t1 : (prio != prio2) = true := by unfold bne; rw [h3]; rfl
          go_enter Tryd.func23, Tryd.ntmps23
          go_wp2_with fail
          go_ret
          exact ⟨ret_bool Hs.out.symm, hb⟩
        · have g3 : (prio != prio2) = false := by unfold bne; rw [h3]; rfl
          cases h4 : (cl == cl2)
          · have Hs : Hid (b = false) := hidp (by rw [← hB]; simp only [h0, h1, h2, h3, h4, Bool.true_and, Bool.false_and])
            clear hB
            have t1 : (cl != cl2) = true := by unfold bne; rw [h4]; rfl
            go_enter Tryd.func23, Tryd.ntmps23
            go_wp2_with fail
            go_ret
            exact ⟨ret_bool Hs.out.symm, hb⟩
          · have g4 : (cl != cl2) = false := by unfold bne; rw [h4]; rfl
            have HB := hidp (show decide (parts = parts2) = b from by rw [← hB]; simp only [h0, h1, h2, h3, h4, Bool.true_and])
            clear hB
            by_cases e : n = m
            · subst e
              go_enter Tryd.func23, Tryd.ntmps23
              go_wp2_with fail
              go_loopg [5] n (fun g i wr => ∃ k : Nat, k + g = n ∧ i = .int .i64 k ∧ Hid (∀ j, j < k → parts.getD j default = parts2.getD j default) ∧ Below w.heap.size w wr ∧ TBox wr w.heap.size nm per dl prio cl pa n pc ∧ TBox wr (w.heap.size + 1) nm2 per2 dl2 prio2 cl2 pa2 n pc2)
              case atStart => exact ⟨0, by omega, rfl, hidp (by omega), hb, tb1, tb2⟩
              case round =>
                obtain ⟨k, hk, rfl, Ho, hw, ta1, ta2⟩ := hrel
                clear f0 f1 f2 f3 f4 f5 q0 q1 q2 q3 q4 q5 hb tb1 tb2
                obtain ⟨f0, f1, f2, f3, f4, f5⟩ := id ta1
                obtain ⟨q0, q1, q2, q3, q4, q5⟩ := id ta2
                by_cases hlt : k < n
                · obtain ⟨g, off, hA, hc⟩ := P1.out.resolve_left (by intro e; have := Hn.out; rw [e] at this; simp at this; omega)
                  obtain ⟨g', off', hA', hc'⟩ := P2.out.resolve_left (by intro e; have := Hm.out; rw [e] at this; simp at this; omega)
                  subst hA
                  subst hA'
                  obtain ⟨x, HX⟩ : ∃ x, Hid (parts.getD k default = x) := ⟨_, rfl⟩
                  obtain ⟨y, HY⟩ : ∃ y, Hid (parts2.getD k default = y) := ⟨_, rfl⟩
                  obtain ⟨c1, c2, c3⟩ := (HX.out ▸ hc k (by rw [Hn.out]; exact hlt)).keep (Keeps.of_below hw)
                  obtain ⟨d1, d2, d3⟩ := (HY.out ▸ hc' k (by rw [Hm.out]; exact hlt)).keep (Keeps.of_below hw)
                  clear hc hc'
                  obtain ⟨x1, x2, x3⟩ := x
                  obtain ⟨y1, y2, y3⟩ := y
                  dsimp only at c1 c2 c3 d1 d2 d3
                  by_cases n1 : x1 = y1
                  · subst n1
                    by_cases n2 : x2 = y2
                    · subst n2
                      by_cases n3 : x3 = y3
                      · subst n3
                        have Hs : Hid (∀ j, j < k + 1 → parts.getD j default = parts2.getD j default) := hidp (fun j hj => by
                          by_cases e : j = k
                          · subst e; rw [HX.out, HY.out]
                          · exact Ho.out j (by omega))
                        go_wp2
                        go_quiet (fail)
                        go_wp2
                        go_roundg (gk - 1)
                        case measure => omega
                        case rel => exact ⟨k + 1, by omega, by go_num, Hs, below_drewN hw _, ta1.keep (Keeps.drewN _ _), ta2.keep (Keeps.drewN _ _)⟩
                      · have Hs : Hid (b = false) := hidp (by rw [← HB.out]; exact decide_eq_false (ne_getP (k := k) (by rw [HX.out, HY.out]; intro h; injection h with h1 h2 h3; exact n3 ‹_›)))
                        have t1 : (x3 != y3) = true := by simpa using n3
                        have t2 : (x3 == y3) = false := by simpa using n3
                        go_wp2
                        go_quiet (fail)
                        go_wp2
                        go_ret
                        exact ⟨ret_bool Hs.out.symm, below_drewN hw _⟩
                    · have Hs : Hid (b = false) := hidp (by rw [← HB.out]; exact decide_eq_false (ne_getP (k := k) (by rw [HX.out, HY.out]; intro h; injection h with h1 h2 h3; exact n2 ‹_›)))
                      have t1 : (x2 != y2) = true := by simpa using n2
                      have t2 : (x2 == y2) = false := by simpa using n2
                      go_wp2
                      go_quiet (fail)
                      go_wp2
                      go_ret
                      exact ⟨ret_bool Hs.out.symm, below_drewN hw _⟩
                  · have Hs : Hid (b = false) := hidp (by rw [← HB.out]; exact decide_eq_false (ne_getP (k := k) (by rw [HX.out, HY.out]; intro h; injection h with h1 h2 h3; exact n1 ‹_›)))
                    have t1 : (x1 != y1) = true := by simpa using n1
                    have t2 : (x1 == y1) = false := by simpa using n1
                    go_wp2
                    go_quiet (fail)
                    go_wp2
                    go_ret
                    exact ⟨ret_bool Hs.out.symm, below_drewN hw _⟩
                · have Hs : Hid (b = true) := hidp (by rw [← HB.out]; exact decide_eq_true (ext_getP Hn.out Hm.out (fun j hj => Ho.out j (by omega))))
                  go_wp2
                  go_ret
                  exact ⟨ret_bool Hs.out.symm, hw⟩
            · have Hs : Hid (b = false) := hidp (by rw [← HB.out]; exact decide_eq_false (fun h => e (by rw [← Hn.out, ← Hm.out, h])))
              have t1 : ((n : Int) != (m : Int)) = true := by simp; omega
              clear e
              go_enter Tryd.func23, Tryd.ntmps23
              go_wp2_with fail
              go_ret
              exact ⟨ret_bool Hs.out.symm, hb⟩
end Go.Proofs.YtggidlmehimcjaaDoor

namespace Go.Proofs.YtggidlmehimcjaaDoor
open Go.ChangeShapes Go.WideShapes Go.ChangeAt Go.RowKit
set_option linter.unusedVariables false
set_option linter.unusedSimpArgs false
set_option maxRecDepth 100000
set_option maxHeartbeats 4000000 in
theorem rsame_any (s t : SetR) (w : World) (hs : SetOk w s) (ht : SetOk w t) : Calls Tryd.prog 12 #[.agg #[.int .i64 s.proto, .slice s.ca s.cores.length s.cc, .slice s.ha s.homes.length s.hc, .slice s.ta s.tasks.length s.tc], .agg #[.int .i64 t.proto, .slice t.ca t.cores.length t.cc, .slice t.ha t.homes.length t.hc, .slice t.ta t.tasks.length t.tc]] w fun e w' => e = .returned (.bool (sameS s t)) ∧ Below w.heap.size w w' := by
  obtain ⟨proto, ca, cc, cores, ha, hc, homes, ta, tc, tasks⟩ := s
  obtain ⟨proto2, ca2, cc2, cores2, ha2, hc2, homes2, ta2, tc2, tasks2⟩ := t
  have l1 : tasks.length ≤ maxLen := Nat.le_trans hs.tasks.sl.2.1 hs.tasks.sl.2.2
  have l2 : tasks2.length ≤ maxLen := Nat.le_trans ht.tasks.sl.2.1 ht.tasks.sl.2.2
  unfold maxLen at l1 l2
  dsimp only
  have hb1 := (Below.refl w.heap.size w).alloc (Nat.le_refl _) (.cells #[.int .i64 proto, .slice ca cores.length cc, .slice ha homes.length hc, .slice ta tasks.length tc] 25)
  have hb := hb1.alloc hb1.size (.cells #[.int .i64 proto2, .slice ca2 cores2.length cc2, .slice ha2 homes2.length hc2, .slice ta2 tasks2.length tc2] 25)
  have s1 := (SetCells.new w ⟨proto, ca, cc, cores, ha, hc, homes, ta, tc, tasks⟩ 25).keep (Keeps.alloc (w.alloc (.cells #[.int .i64 proto, .slice ca cores.length cc, .slice ha homes.length hc, .slice ta tasks.length tc] 25)) (.cells #[.int .i64 proto2, .slice ca2 cores2.length cc2, .slice ha2 homes2.length hc2, .slice ta2 tasks2.length tc2] 25))
  have s2 := SetCells.new (w.alloc (.cells #[.int .i64 proto, .slice ca cores.length cc, .slice ha homes.length hc, .slice ta tasks.length tc] 25)) ⟨proto2, ca2, cc2, cores2, ha2, hc2, homes2, ta2, tc2, tasks2⟩ 25
  rw [show (w.alloc (.cells #[.int .i64 proto, .slice ca cores.length cc, .slice ha homes.length hc, .slice ta tasks.length tc] 25)).heap.size = w.heap.size + 1 by simp] at s2
  have X := hidp (hs.keep (Keeps.of_below hb))
  have Y := hidp (ht.keep (Keeps.of_below hb))
  clear hb1 hs ht
  obtain ⟨c0, c1, c2, c3⟩ := id s1
  obtain ⟨d0, d1, d2, d3⟩ := id s2
  dsimp only at c0 c1 c2 c3 d0 d1 d2 d3
  obtain ⟨b, hB⟩ : ∃ b, sameS ⟨proto, ca, cc, cores, ha, hc, homes, ta, tc, tasks⟩ ⟨proto2, ca2, cc2, cores2, ha2, hc2, homes2, ta2, tc2, tasks2⟩ = b := ⟨_, rfl⟩
  rw [hB]
  unfold sameS at hB
  dsimp only at hB
  cases h0 : (proto == proto2)
  · have g0 : (proto != proto2) = true := by unfold bne; rw [h0]; rfl
    have Hs : Hid (b = false) := hidp (by rw [← hB]; simp only [h0, Bool.true_and, Bool.false_and])
    clear hB
    go_enter Tryd.func12, Tryd.ntmps12
    go_wp2_with fail
    go_ret
    exact ⟨ret_bool Hs.out.symm, hb⟩
  · have g0 : (proto != proto2) = false := by unfold bne; rw [h0]; rfl
    cases h1 : decide (cores = cores2)
    · have Hs : Hid (b = false) := hidp (by rw [← hB]; simp only [h0, h1, Bool.true_and, Bool.false_and])
      clear hB
      go_enter Tryd.func12, Tryd.ntmps12
      go_wp2_with fail
      refine (rsameI_any _ _ _ _ _ _ _ X.out.cores Y.out.cores).mono ?_
      rintro e w2 ⟨rfl, hq⟩
      rw [h1]
      clear c0 c1 c2 c3 d0 d1 d2 d3
      replace hb := hq.below hb
      replace s1 := s1.keep (Keeps.of_qt hq)
      replace s2 := s2.keep (Keeps.of_qt hq)
      replace X := hidp (X.out.keep (Keeps.of_qt hq))
      replace Y := hidp (Y.out.keep (Keeps.of_qt hq))
      clear hq
      obtain ⟨c0, c1, c2, c3⟩ := id s1
      obtain ⟨d0, d1, d2, d3⟩ := id s2
      dsimp only at c0 c1 c2 c3 d0 d1 d2 d3
      go_wp2_with fail
      go_ret
      exact ⟨ret_bool Hs.out.symm, hb⟩
    · cases h2 : decide (homes = homes2)
      · have Hs : Hid (b = false) := hidp (by rw [← hB]; simp only [h0, h1, h2, Bool.true_and, Bool.false_and])
        clear hB
        go_enter Tryd.func12, Tryd.ntmps12
        go_wp2_with fail
        refine (rsameI_any _ _ _ _ _ _ _ X.out.cores Y.out.cores).mono ?_
        rintro e w2 ⟨rfl, hq⟩
        rw [h1]
        clear c0 c1 c2 c3 d0 d1 d2 d3
        replace hb := hq.below hb
        replace s1 := s1.keep (Keeps.of_qt hq)
        replace s2 := s2.keep (Keeps.of_qt hq)
        replace X := hidp (X.out.keep (Keeps.of_qt hq))
        replace Y := hidp (Y.out.keep (Keeps.of_qt hq))
        clear hq
        obtain ⟨c0, c1, c2, c3⟩ := id s1
        obtain ⟨d0, d1, d2, d3⟩ := id s2
        dsimp only at c0 c1 c2 c3 d0 d1 d2 d3
        go_wp2_with fail
        refine (rsameI_any _ _ _ _ _ _ _ X.out.homes Y.out.homes).mono ?_
        rintro e w2 ⟨rfl, hq⟩
        rw [h2]
        clear c0 c1 c2 c3 d0 d1 d2 d3
        replace hb := hq.below hb
        replace s1 := s1.keep (Keeps.of_qt hq)
        replace s2 := s2.keep (Keeps.of_qt hq)
        replace X := hidp (X.out.keep (Keeps.of_qt hq))
        replace Y := hidp (Y.out.keep (Keeps.of_qt hq))
        clear hq
        obtain ⟨c0, c1, c2, c3⟩ := id s1
        obtain ⟨d0, d1, d2, d3⟩ := id s2
        dsimp only at c0 c1 c2 c3 d0 d1 d2 d3
        go_wp2_with fail
        go_ret
        exact ⟨ret_bool Hs.out.symm, hb⟩
      · have HB := hidp (show sameTs tasks tasks2 = b from by rw [← hB]; simp only [h0, h1, h2, Bool.true_and])
        clear hB
        by_cases e : tasks.length = tasks2.length
        · have t1 : ((tasks.length : Int) != (tasks2.length : Int)) = false := by simp [e]
          have He := hidp e
          clear e
          go_enter Tryd.func12, Tryd.ntmps12
          go_wp2_with fail
          refine (rsameI_any _ _ _ _ _ _ _ X.out.cores Y.out.cores).mono ?_
          rintro e w2 ⟨rfl, hq⟩
          rw [h1]
          clear c0 c1 c2 c3 d0 d1 d2 d3
          replace hb := hq.below hb
          replace s1 := s1.keep (Keeps.of_qt hq)
          replace s2 := s2.keep (Keeps.of_qt hq)
          replace X := hidp (X.out.keep (Keeps.of_qt hq))
          replace Y := hidp (Y.out.keep (Keeps.of_qt hq))
          clear hq
          obtain ⟨c0, c1, c2, c3⟩ := id s1
          obtain ⟨d0, d1, d2, d3⟩ := id s2
          dsimp only at c0 c1 c2 c3 d0 d1 d2 d3
          go_wp2_with fail
          refine (rsameI_any _ _ _ _ _ _ _ X.out.homes Y.out.homes).mono ?_
          rintro e w2 ⟨rfl, hq⟩
          rw [h2]
          clear c0 c1 c2 c3 d0 d1 d2 d3
          replace hb := hq.below hb
          replace s1 := s1.keep (Keeps.of_qt hq)
          replace s2 := s2.keep (Keeps.of_qt hq)
          replace X := hidp (X.out.keep (Keeps.of_qt hq))
          replace Y := hidp (Y.out.keep (Keeps.of_qt hq))
          clear hq
          obtain ⟨c0, c1, c2, c3⟩ := id s1
          obtain ⟨d0, d1, d2, d3⟩ := id s2
          dsimp only at c0 c1 c2 c3 d0 d1 d2 d3
          go_wp2_with fail
          obtain ⟨wi, rfl⟩ : ∃ wi : World, wi = w2 := ⟨_, rfl⟩
          go_loopg [5] tasks.length (fun g i wr => ∃ k : Nat, k + g = tasks.length ∧ i = .int .i64 k ∧ Hid (∀ j, j < k → sameT (tasks.getD j default) (tasks2.getD j default) = true) ∧ SetCells wr w.heap.size ⟨proto, ca, cc, cores, ha, hc, homes, ta, tc, tasks⟩ ∧ SetCells wr (w.heap.size + 1) ⟨proto2, ca2, cc2, cores2, ha2, hc2, homes2, ta2, tc2, tasks2⟩ ∧ Hid (SetOk wr ⟨proto, ca, cc, cores, ha, hc, homes, ta, tc, tasks⟩) ∧ Hid (SetOk wr ⟨proto2, ca2, cc2, cores2, ha2, hc2, homes2, ta2, tc2, tasks2⟩) ∧ Below w.heap.size w wr)
          case atStart => exact ⟨0, by omega, rfl, hidp (by omega), s1, s2, X, Y, hb⟩
          case round =>
            obtain ⟨k, hk, rfl, Ho, r1, r2, XX, YY, hw⟩ := hrel
            clear c0 c1 c2 c3 d0 d1 d2 d3 s1 s2 X Y hb
            obtain ⟨c0, c1, c2, c3⟩ := id r1
            obtain ⟨d0, d1, d2, d3⟩ := id r2
            dsimp only at c0 c1 c2 c3 d0 d1 d2 d3
            by_cases hlt : k < tasks.length
            · have hlt2 : k < tasks2.length := by have := He.out; omega
              obtain ⟨g, off, hA, hc⟩ := XX.out.tasks.at_.resolve_left (by intro e; dsimp only at e; rw [e] at hlt; simp at hlt)
              obtain ⟨g', off', hA', hc'⟩ := YY.out.tasks.at_.resolve_left (by intro e; dsimp only at e; rw [e] at hlt2; simp at hlt2)
              dsimp only at hA hA' hc hc'
              subst hA
              subst hA'
              obtain ⟨t, HX⟩ : ∃ t, Hid (tasks.getD k default = t) := ⟨_, rfl⟩
              obtain ⟨u, HY⟩ : ∃ u, Hid (tasks2.getD k default = u) := ⟨_, rfl⟩
              have T1 : TaskOk wr.drew t := (XX.out.tasks.ok t (HX.out ▸ getD_mem hlt)).keep (Keeps.drew wr)
              have T2 : TaskOk wr.drew u := (YY.out.tasks.ok u (HY.out ▸ getD_mem hlt2)).keep (Keeps.drew wr)
              obtain ⟨x0, x1, x2, x3, x4, x5⟩ := HX.out ▸ hc k hlt
              obtain ⟨y0, y1, y2, y3, y4, y5⟩ := HY.out ▸ hc' k hlt2
              clear hc hc'
              cases hs : sameT t u
              · have Hs : Hid (b = false) := hidp (by rw [← HB.out]; exact sameTs_at (k := k) hlt (by rw [HX.out, HY.out]; exact hs))
                go_wp2
                go_still_tail 10, (by kernel_rfl)
                change wpList _ _ _ _ _ wr.drew
                go_wp2_with fail
                refine (rsameTask_any t u _ T1 T2).mono ?_
                rintro e w5 ⟨rfl, hb2⟩
                have hw5 : Below w.heap.size w w5 := (below_drewN hw 1).trans (hb2.mono hw.size)
                have k5 : Keeps wr w5 := (Keeps.drew wr).trans (Keeps.of_below hb2)
                go_wp2
                go_ret
                exact ⟨ret_bool Hs.out.symm, hw5⟩
              · have Hs : Hid (∀ j, j < k + 1 → sameT (tasks.getD j default) (tasks2.getD j default) = true) := hidp (fun j hj => by
                  by_cases e : j = k
                  · subst e; rw [HX.out, HY.out]; exact hs
                  · exact Ho.out j (by omega))
                go_wp2
                go_still_tail 10, (by kernel_rfl)
                change wpList _ _ _ _ _ wr.drew
                go_wp2_with fail
                refine (rsameTask_any t u _ T1 T2).mono ?_
                rintro e w5 ⟨rfl, hb2⟩
                have hw5 : Below w.heap.size w w5 := (below_drewN hw 1).trans (hb2.mono hw.size)
                have k5 : Keeps wr w5 := (Keeps.drew wr).trans (Keeps.of_below hb2)
                go_wp2
                go_roundg (tasks.length - k - 1)
                case measure => omega
                case rel => exact ⟨k + 1, by omega, by go_num, Hs, r1.keep k5, r2.keep k5, hidp (XX.out.keep k5), hidp (YY.out.keep k5), hw5⟩
            · have Hs : Hid (b = true) := hidp (by rw [← HB.out]; exact sameTs_true He.out (fun j hj => Ho.out j (by omega)))
              go_wp2
              go_ret
              exact ⟨ret_bool Hs.out.symm, hw⟩
        · have Hs : Hid (b = false) := hidp (by rw [← HB.out]; exact sameTs_len e)
          have t1 : ((tasks.length : Int) != (tasks2.length : Int)) = true := by simp; omega
          clear e
          go_enter Tryd.func12, Tryd.ntmps12
          go_wp2_with fail
          refine (rsameI_any _ _ _ _ _ _ _ X.out.cores Y.out.cores).mono ?_
          rintro e w2 ⟨rfl, hq⟩
          rw [h1]
          clear c0 c1 c2 c3 d0 d1 d2 d3
          replace hb := hq.below hb
          replace s1 := s1.keep (Keeps.of_qt hq)
          replace s2 := s2.keep (Keeps.of_qt hq)
          replace X := hidp (X.out.keep (Keeps.of_qt hq))
          replace Y := hidp (Y.out.keep (Keeps.of_qt hq))
          clear hq
          obtain ⟨c0, c1, c2, c3⟩ := id s1
          obtain ⟨d0, d1, d2, d3⟩ := id s2
          dsimp only at c0 c1 c2 c3 d0 d1 d2 d3
          go_wp2_with fail
          refine (rsameI_any _ _ _ _ _ _ _ X.out.homes Y.out.homes).mono ?_
          rintro e w2 ⟨rfl, hq⟩
          rw [h2]
          clear c0 c1 c2 c3 d0 d1 d2 d3
          replace hb := hq.below hb
          replace s1 := s1.keep (Keeps.of_qt hq)
          replace s2 := s2.keep (Keeps.of_qt hq)
          replace X := hidp (X.out.keep (Keeps.of_qt hq))
          replace Y := hidp (Y.out.keep (Keeps.of_qt hq))
          clear hq
          obtain ⟨c0, c1, c2, c3⟩ := id s1
          obtain ⟨d0, d1, d2, d3⟩ := id s2
          dsimp only at c0 c1 c2 c3 d0 d1 d2 d3
          go_wp2_with fail
          go_ret
          exact ⟨ret_bool Hs.out.symm, hb⟩
end Go.Proofs.YtggidlmehimcjaaDoor

set_option maxHeartbeats 16000000
set_option maxRecDepth 100000
set_option linter.unusedSimpArgs false
namespace Go.Proofs.YtggidlmehimcjaaDoor
open Go.ChangeShapes Go.WideShapes Go.ChangeAt Go.RowKit
def nbR (p d q c l r : Int) : RdT := ⟨3, [2, 1, 3], [2, 0], [⟨[122, 122], p, d, q, c, [⟨2, l, 0⟩, ⟨3, l, r⟩]⟩], 0, 0, []⟩
theorem nb_text (p d q c l r : Int) : printT (nbR p d q c l r) = [112, 114, 111, 116, 111, 99, 111, 108, 32, 116, 111, 107, 101, 110, 10, 99, 111, 114, 101, 115, 32, 50, 32, 49, 32, 51, 10, 104, 111, 109, 101, 115, 32, 50, 32, 48, 10, 116, 97, 115, 107, 32, 122, 122, 32] ++ textL p ++ [32] ++ textL d ++ [32] ++ textL q ++ [32] ++ textL c ++ [32, 115, 108, 101, 101, 112, 58] ++ textL l ++ [32, 108, 111, 99, 107, 58] ++ textL r ++ [58] ++ textL l ++ [10] := by
  have e0 : textL 0 = [48] := by decide +kernel
  have e1 : textL 1 = [49] := by decide +kernel
  have e2 : textL 2 = [50] := by decide +kernel
  have e3 : textL 3 = [51] := by decide +kernel
  simp [printT, nbR, joinT, numsW, taskW, partW, protoW, e0, e1, e2, e3, tSleep, tLock]
theorem nb_ok {p d q c l r : Int} (hp : 1 ≤ p ∧ p ≤ 3000) (hd : 1 ≤ d ∧ d ≤ p) (hq : 1 ≤ q ∧ q ≤ 1000) (hc : 0 ≤ c ∧ c ≤ 2) (hl : 1 ≤ l ∧ l ≤ 60) (hr : 0 ≤ r ∧ r ≤ 1) : okS (nbR p d q c l r).bare = true := by
  refine okS_mk (by show inB 3 1 3 = true; decide) (by show inB 3 1 3 = true; decide) (by show allB [2, 1, 3] 1 3 = true; decide) (by show 2 ≤ 4; decide) (by show allB [2, 0] 0 2 = true; decide) (by show 1 ≤ 1; decide) (by show 1 ≤ 6; decide) (fun k hk => ?_)
  obtain rfl : k = 0 := by have : k < 1 := hk; omega
  have hnm : nameB (mkB [122, 122]) = true := by decide +kernel
  refine ⟨?_, ?_, rfl, ?_⟩
  · show (nameB (mkB [122, 122]) && (inB p 1 3000 && (inB d 1 p && inB q 1 1000))) = true
    rw [hnm, inB_true.2 hp, inB_true.2 hd, inB_true.2 hq]; rfl
  · show inB c 0 2 = true
    exact inB_true.2 hc
  · have e1 : inB l 1 60 = true := inB_true.2 hl
    have e2 : inB r 0 1 = true := inB_true.2 hr
    show partsB [⟨2, l, 0⟩, ⟨3, l, r⟩] 2 = true
    simp [partsB, partB, e1, show inB 2 1 6 = true by decide, show inB 0 0 0 = true by decide, show (2 : Int) - 1 = 1 by decide, e2]
end Go.Proofs.YtggidlmehimcjaaDoor
namespace Go.Proofs.YtggidlmehimcjaaDoor.textNumbers
open Go.ChangeShapes Go.WideShapes Go.ChangeAt Go.RowKit
open Go.ChangeMaps (open_string shut_string)
set_option linter.unusedVariables false

/-- THE WALK: the Go text returns true, and writes nothing that was there. -/
theorem walk (a0 : Int) (a1 : Int) (a2 : Int) (a3 : Int) (a4 : Int) (a5 : Int) (w : World) (w0 : (Lit.int .u16 a0).wf = true) (w1 : (Lit.int .u16 a1).wf = true) (w2 : (Lit.int .u16 a2).wf = true) (w3 : (Lit.int .u8 a3).wf = true) (w4 : (Lit.int .u8 a4).wf = true) (w5 : (Lit.int .u8 a5).wf = true) (mMax : Int) (hMax : w.cell? ⟨0, 0, none⟩ = some (.int .i64 mMax)) (hTab : Go.Lib.TabIs Tryd.prog w "internal/strconv.uint64pow10" .u64 Go.Lib.pow10Tab) :
    Calls Tryd.prog 5 #[.int .u16 a0, .int .u16 a1, .int .u16 a2, .int .u8 a3, .int .u8 a4, .int .u8 a5] w fun e w' => e = .returned (.bool true) ∧ Below w.heap.size w w' := by
  have HX := hidp hMax
  have HT : Hid (∀ u, Below w.heap.size w u → Tab u) := hidp (fun u hu => Tab.over (show Tab w from hTab) hu)
  simp [Lit.wf, IntKind.min, IntKind.max, IntKind.signed, IntKind.bits] at w0 w1 w2 w3 w4 w5
  obtain ⟨p0, hp0⟩ : ∃ z : Int, a0.tmod 3000 = z := ⟨_, rfl⟩
  have bp0 : 0 ≤ p0 ∧ p0 ≤ 2999 := by rw [Int.tmod_eq_emod_of_nonneg (by omega)] at hp0; omega
  obtain ⟨q0, hq0⟩ : ∃ z : Int, a2.tmod 1000 = z := ⟨_, rfl⟩
  have bq0 : 0 ≤ q0 ∧ q0 ≤ 999 := by rw [Int.tmod_eq_emod_of_nonneg (by omega)] at hq0; omega
  obtain ⟨d0, hd0⟩ : ∃ z : Int, a1.tmod (p0 + 1) = z := ⟨_, rfl⟩
  have bd0 : 0 ≤ d0 ∧ d0 ≤ p0 := by
    rw [Int.tmod_eq_emod_of_nonneg (by omega)] at hd0
    have h1 := Int.emod_nonneg a1 (show p0 + 1 ≠ 0 by omega)
    have h2 := Int.emod_lt_of_pos a1 (show 0 < p0 + 1 by omega)
    omega
  obtain ⟨c0, hc0⟩ : ∃ z : Int, a3.tmod 3 = z := ⟨_, rfl⟩
  have bc0 : 0 ≤ c0 ∧ c0 ≤ 2 := by rw [Int.tmod_eq_emod_of_nonneg (by omega)] at hc0; omega
  obtain ⟨r0, hr0⟩ : ∃ z : Int, a4.tmod 2 = z := ⟨_, rfl⟩
  have br0 : 0 ≤ r0 ∧ r0 ≤ 1 := by rw [Int.tmod_eq_emod_of_nonneg (by omega)] at hr0; omega
  obtain ⟨l0, hl0⟩ : ∃ z : Int, a5.tmod 60 = z := ⟨_, rfl⟩
  have bl0 : 0 ≤ l0 ∧ l0 ≤ 59 := by rw [Int.tmod_eq_emod_of_nonneg (by omega)] at hl0; omega
  have x1 : IntKind.u16.wrap p0 = p0 := IntWalk.u16_in _ (by omega)
  have x2 : IntKind.u16.wrap q0 = q0 := IntWalk.u16_in _ (by omega)
  have x3 : IntKind.u8.wrap c0 = c0 := IntWalk.u8_in _ (by omega)
  have x4 : IntKind.u8.wrap r0 = r0 := IntWalk.u8_in _ (by omega)
  have x5 : IntKind.u8.wrap l0 = l0 := IntWalk.u8_in _ (by omega)
  have y1 : IntKind.i64.wrap p0 = p0 := IntWalk.i64_in _ (by omega)
  have y2 : IntKind.i64.wrap q0 = q0 := IntWalk.i64_in _ (by omega)
  have y3 : IntKind.i64.wrap c0 = c0 := IntWalk.i64_in _ (by omega)
  have y4 : IntKind.i64.wrap r0 = r0 := IntWalk.i64_in _ (by omega)
  have y5 : IntKind.i64.wrap l0 = l0 := IntWalk.i64_in _ (by omega)
  have y6 : IntKind.i64.wrap d0 = d0 := IntWalk.i64_in _ (by omega)
  have y7 : IntKind.i64.wrap a1 = a1 := IntWalk.i64_in _ (by omega)
  have v1 : IntKind.i64.wrap (p0 + 1) = p0 + 1 := IntWalk.i64_in _ (by omega)
  have v2 : IntKind.i64.wrap (q0 + 1) = q0 + 1 := IntWalk.i64_in _ (by omega)
  have v3 : IntKind.i64.wrap (d0 + 1) = d0 + 1 := IntWalk.i64_in _ (by omega)
  have v4 : IntKind.i64.wrap (l0 + 1) = l0 + 1 := IntWalk.i64_in _ (by omega)
  have n0 : ¬ p0 + 1 = 0 := by omega
  obtain ⟨T1, HT1⟩ : ∃ X, Hid (textV (p0 + 1) = X) := ⟨_, hidp rfl⟩
  obtain ⟨T2, HT2⟩ : ∃ X, Hid (textV (d0 + 1) = X) := ⟨_, hidp rfl⟩
  obtain ⟨T3, HT3⟩ : ∃ X, Hid (textV (q0 + 1) = X) := ⟨_, hidp rfl⟩
  obtain ⟨T4, HT4⟩ : ∃ X, Hid (textV c0 = X) := ⟨_, hidp rfl⟩
  obtain ⟨T5, HT5⟩ : ∃ X, Hid (textV (l0 + 1) = X) := ⟨_, hidp rfl⟩
  obtain ⟨T6, HT6⟩ : ∃ X, Hid (textV r0 = X) := ⟨_, hidp rfl⟩
  have C1 := hidp (fun u => rtext_any (p0 + 1) u (by unfold I64; omega))
  have C2 := hidp (fun u => rtext_any (d0 + 1) u (by unfold I64; omega))
  have C3 := hidp (fun u => rtext_any (q0 + 1) u (by unfold I64; omega))
  have C4 := hidp (fun u => rtext_any c0 u (by unfold I64; omega))
  have C5 := hidp (fun u => rtext_any (l0 + 1) u (by unfold I64; omega))
  have C6 := hidp (fun u => rtext_any r0 u (by unfold I64; omega))
  rw [HT1.out] at C1
  rw [HT2.out] at C2
  rw [HT3.out] at C3
  rw [HT4.out] at C4
  rw [HT5.out] at C5
  rw [HT6.out] at C6
  have sz : ∀ n X, textV n = X → X.size ≤ 7 := fun n X h => by rw [← h, ← bl_len]; exact textL_len n
  have s1 := sz _ _ HT1.out
  have s2 := sz _ _ HT2.out
  have s3 := sz _ _ HT3.out
  have s4 := sz _ _ HT4.out
  have s5 := sz _ _ HT5.out
  have s6 := sz _ _ HT6.out
  have HOK := hidp (nb_ok (p := p0 + 1) (d := d0 + 1) (q := q0 + 1) (c := c0) (l := l0 + 1) (r := r0) (by omega) (by omega) (by omega) (by omega) (by omega) (by omega))
  have HBD := hidp (And.intro bp0 (And.intro bq0 (And.intro bd0 (And.intro bc0 (And.intro br0 bl0)))))
  clear hMax hTab w0 w1 w2 w3 w4 w5 sz bp0 bq0 bd0 bc0 br0 bl0
  go_enter Tryd.func5, Tryd.ntmps5
  go_wp2_with fail
  refine (known9_any w mMax HX.out (HT.out w (Below.refl _ w))).mono ?_
  rintro e w1 ⟨rfl, hb1⟩
  have HB := hidp hb1
  clear hb1
  go_wp2_with (first
    | (go_at_call 13; (with_reducible refine (C1.out _).mono ?_); rintro e u ⟨rfl, hbu⟩; have HB := hidp (HB.out.trans (hbu.mono HB.out.size)); clear hbu)
    | (go_at_call 13; (with_reducible refine (C2.out _).mono ?_); rintro e u ⟨rfl, hbu⟩; have HB := hidp (HB.out.trans (hbu.mono HB.out.size)); clear hbu)
    | (go_at_call 13; (with_reducible refine (C3.out _).mono ?_); rintro e u ⟨rfl, hbu⟩; have HB := hidp (HB.out.trans (hbu.mono HB.out.size)); clear hbu)
    | (go_at_call 13; (with_reducible refine (C4.out _).mono ?_); rintro e u ⟨rfl, hbu⟩; have HB := hidp (HB.out.trans (hbu.mono HB.out.size)); clear hbu)
    | (go_at_call 13; (with_reducible refine (C5.out _).mono ?_); rintro e u ⟨rfl, hbu⟩; have HB := hidp (HB.out.trans (hbu.mono HB.out.size)); clear hbu)
    | (go_at_call 13; (with_reducible refine (C6.out _).mono ?_); rintro e u ⟨rfl, hbu⟩; have HB := hidp (HB.out.trans (hbu.mono HB.out.size)); clear hbu))
  obtain ⟨X, HX0⟩ : ∃ X : ByteArray, Hid (((⟨#[112, 114, 111, 116, 111, 99, 111, 108, 32, 116, 111, 107, 101, 110, 10, 99, 111, 114, 101, 115, 32, 50, 32, 49, 32, 51, 10, 104, 111, 109, 101, 115, 32, 50, 32, 48, 10, 116, 97, 115, 107, 32, 122, 122, 32]⟩ : ByteArray) ++ T1 ++ ⟨#[32]⟩ ++ T2 ++ ⟨#[32]⟩ ++ T3 ++ ⟨#[32]⟩ ++ T4 ++ ⟨#[32, 115, 108, 101, 101, 112, 58]⟩ ++ T5 ++ ⟨#[32, 108, 111, 99, 107, 58]⟩ ++ T6 ++ ⟨#[58]⟩ ++ T5 ++ ⟨#[10]⟩) = X) := ⟨_, hidp rfl⟩
  rw [HX0.out]
  have HXb : Hid (bl X = printT (nbR (p0 + 1) (d0 + 1) (q0 + 1) c0 (l0 + 1) r0)) := hidp (by
    rw [← HX0.out, nb_text]
    simp only [bl_append]
    rw [show bl T1 = textL (p0 + 1) by rw [← HT1.out]; rfl, show bl T2 = textL (d0 + 1) by rw [← HT2.out]; rfl, show bl T3 = textL (q0 + 1) by rw [← HT3.out]; rfl, show bl T4 = textL c0 by rw [← HT4.out]; rfl, show bl T5 = textL (l0 + 1) by rw [← HT5.out]; rfl, show bl T6 = textL r0 by rw [← HT6.out]; rfl]
    rfl)
  have HXl : Hid ((printT (nbR (p0 + 1) (d0 + 1) (q0 + 1) c0 (l0 + 1) r0)).length ≤ 2000) := hidp (by
    rw [nb_text]
    have g := textL_len
    have g1 := g (p0 + 1)
    have g2 := g (d0 + 1)
    have g3 := g (q0 + 1)
    have g4 := g c0
    have g5 := g (l0 + 1)
    have g6 := g r0
    simp only [List.length_append, List.length_cons, List.length_nil]
    omega)
  have HCK := hidp (okS_chk HOK.out)
  have HGD : Hid ((nbR (p0 + 1) (d0 + 1) (q0 + 1) c0 (l0 + 1) r0).good) := hidp (by
    have := good_of HOK.out
    have h2 : (nbR (p0 + 1) (d0 + 1) (q0 + 1) c0 (l0 + 1) r0).bare.rd = nbR (p0 + 1) (d0 + 1) (q0 + 1) c0 (l0 + 1) r0 := rfl
    rwa [h2] at this)
  have HPV : Hid (parseV (bl X) = ((nbR (p0 + 1) (d0 + 1) (q0 + 1) c0 (l0 + 1) r0).bare, 4, 0)) := hidp (by rw [HXb.out]; exact parse_print HGD.out HXl.out HCK.out)
  have HPP : Hid (∀ x : SetR, x.bare = (nbR (p0 + 1) (d0 + 1) (q0 + 1) c0 (l0 + 1) r0).bare → printV x = bl X) := hidp (fun x hx => by rw [printV_bare (t := (nbR (p0 + 1) (d0 + 1) (q0 + 1) c0 (l0 + 1) r0).bare) (hx.trans rfl), printV_rd HCK.out, HXb.out])
  clear s1 s2 s3 s4 s5 s6
  refine (parse_any X mMax _ (mem_max HX.out HB.out)).mono ?_
  rintro e w2 hp
  rw [HPV.out] at hp
  obtain ⟨x, rfl, hs, hx, hb2⟩ := hp
  have hb := HB.out.trans (hb2.mono HB.out.size)
  have HBx := hidp hx
  obtain ⟨proto, ca, cc, cores, ha, hc, homes, ta, tc, tasks⟩ := x
  dsimp only
  clear hb2 hx HB
  have B0 := Bk.at_ (w := w2) (g := w2.heap.size) (t := 25) (cs := #[.int .i64 proto, .slice ca cores.length cc, .slice ha homes.length hc, .slice ta tasks.length tc]) (by first | rfl | simp) rfl
  replace hb := hb.alloc hb.size (.cells #[.int .i64 proto, .slice ca cores.length cc, .slice ha homes.length hc, .slice ta tasks.length tc] 25)
  replace hs := hs.keep (Keeps.alloc _ (.cells #[.int .i64 proto, .slice ca cores.length cc, .slice ha homes.length hc, .slice ta tasks.length tc] 25))
  replace B0 := B0.alloc (.cells ([2, 1, 3].map (Value.int .i64)).toArray 3)
  have B1 := Bk.at_ (w := (w2.alloc (.cells #[.int .i64 proto, .slice ca cores.length cc, .slice ha homes.length hc, .slice ta tasks.length tc] 25))) (g := w2.heap.size + 1) (t := 3) (cs := ([2, 1, 3].map (Value.int .i64)).toArray) (by first | rfl | simp) rfl
  replace hb := hb.alloc hb.size (.cells ([2, 1, 3].map (Value.int .i64)).toArray 3)
  replace hs := hs.keep (Keeps.alloc _ (.cells ([2, 1, 3].map (Value.int .i64)).toArray 3))
  replace B0 := B0.alloc (.cells ([2, 0].map (Value.int .i64)).toArray 3)
  replace B1 := B1.alloc (.cells ([2, 0].map (Value.int .i64)).toArray 3)
  have B2 := Bk.at_ (w := ((w2.alloc (.cells #[.int .i64 proto, .slice ca cores.length cc, .slice ha homes.length hc, .slice ta tasks.length tc] 25)).alloc (.cells ([2, 1, 3].map (Value.int .i64)).toArray 3))) (g := w2.heap.size + 1 + 1) (t := 3) (cs := ([2, 0].map (Value.int .i64)).toArray) (by first | rfl | simp) rfl
  replace hb := hb.alloc hb.size (.cells ([2, 0].map (Value.int .i64)).toArray 3)
  replace hs := hs.keep (Keeps.alloc _ (.cells ([2, 0].map (Value.int .i64)).toArray 3))
  replace B0 := B0.alloc (.cells (ptc [⟨2, l0 + 1, 0⟩, ⟨3, l0 + 1, r0⟩]).toArray 42)
  replace B1 := B1.alloc (.cells (ptc [⟨2, l0 + 1, 0⟩, ⟨3, l0 + 1, r0⟩]).toArray 42)
  replace B2 := B2.alloc (.cells (ptc [⟨2, l0 + 1, 0⟩, ⟨3, l0 + 1, r0⟩]).toArray 42)
  have B3 := Bk.at_ (w := (((w2.alloc (.cells #[.int .i64 proto, .slice ca cores.length cc, .slice ha homes.length hc, .slice ta tasks.length tc] 25)).alloc (.cells ([2, 1, 3].map (Value.int .i64)).toArray 3)).alloc (.cells ([2, 0].map (Value.int .i64)).toArray 3))) (g := w2.heap.size + 1 + 1 + 1) (t := 42) (cs := (ptc [⟨2, l0 + 1, 0⟩, ⟨3, l0 + 1, r0⟩]).toArray) (by first | rfl | simp) rfl
  replace hb := hb.alloc hb.size (.cells (ptc [⟨2, l0 + 1, 0⟩, ⟨3, l0 + 1, r0⟩]).toArray 42)
  replace hs := hs.keep (Keeps.alloc _ (.cells (ptc [⟨2, l0 + 1, 0⟩, ⟨3, l0 + 1, r0⟩]).toArray 42))
  replace B0 := B0.alloc (.cells (ttc [⟨⟨#[122, 122]⟩, p0 + 1, d0 + 1, q0 + 1, c0, some ⟨w2.heap.size + 1 + 1 + 1, 0, none⟩, 2, [⟨2, l0 + 1, 0⟩, ⟨3, l0 + 1, r0⟩]⟩]).toArray 45)
  replace B1 := B1.alloc (.cells (ttc [⟨⟨#[122, 122]⟩, p0 + 1, d0 + 1, q0 + 1, c0, some ⟨w2.heap.size + 1 + 1 + 1, 0, none⟩, 2, [⟨2, l0 + 1, 0⟩, ⟨3, l0 + 1, r0⟩]⟩]).toArray 45)
  replace B2 := B2.alloc (.cells (ttc [⟨⟨#[122, 122]⟩, p0 + 1, d0 + 1, q0 + 1, c0, some ⟨w2.heap.size + 1 + 1 + 1, 0, none⟩, 2, [⟨2, l0 + 1, 0⟩, ⟨3, l0 + 1, r0⟩]⟩]).toArray 45)
  replace B3 := B3.alloc (.cells (ttc [⟨⟨#[122, 122]⟩, p0 + 1, d0 + 1, q0 + 1, c0, some ⟨w2.heap.size + 1 + 1 + 1, 0, none⟩, 2, [⟨2, l0 + 1, 0⟩, ⟨3, l0 + 1, r0⟩]⟩]).toArray 45)
  have B4 := Bk.at_ (w := ((((w2.alloc (.cells #[.int .i64 proto, .slice ca cores.length cc, .slice ha homes.length hc, .slice ta tasks.length tc] 25)).alloc (.cells ([2, 1, 3].map (Value.int .i64)).toArray 3)).alloc (.cells ([2, 0].map (Value.int .i64)).toArray 3)).alloc (.cells (ptc [⟨2, l0 + 1, 0⟩, ⟨3, l0 + 1, r0⟩]).toArray 42))) (g := w2.heap.size + 1 + 1 + 1 + 1) (t := 45) (cs := (ttc [⟨⟨#[122, 122]⟩, p0 + 1, d0 + 1, q0 + 1, c0, some ⟨w2.heap.size + 1 + 1 + 1, 0, none⟩, 2, [⟨2, l0 + 1, 0⟩, ⟨3, l0 + 1, r0⟩]⟩]).toArray) (by first | rfl | simp) rfl
  replace hb := hb.alloc hb.size (.cells (ttc [⟨⟨#[122, 122]⟩, p0 + 1, d0 + 1, q0 + 1, c0, some ⟨w2.heap.size + 1 + 1 + 1, 0, none⟩, 2, [⟨2, l0 + 1, 0⟩, ⟨3, l0 + 1, r0⟩]⟩]).toArray 45)
  replace hs := hs.keep (Keeps.alloc _ (.cells (ttc [⟨⟨#[122, 122]⟩, p0 + 1, d0 + 1, q0 + 1, c0, some ⟨w2.heap.size + 1 + 1 + 1, 0, none⟩, 2, [⟨2, l0 + 1, 0⟩, ⟨3, l0 + 1, r0⟩]⟩]).toArray 45))
  replace B0 := B0.alloc (.cells #[.int .i64 3, .slice (some ⟨w2.heap.size + 1, 0, none⟩) 3 3, .slice (some ⟨w2.heap.size + 1 + 1, 0, none⟩) 2 2, .slice (some ⟨w2.heap.size + 1 + 1 + 1 + 1, 0, none⟩) 1 1] 25)
  replace B1 := B1.alloc (.cells #[.int .i64 3, .slice (some ⟨w2.heap.size + 1, 0, none⟩) 3 3, .slice (some ⟨w2.heap.size + 1 + 1, 0, none⟩) 2 2, .slice (some ⟨w2.heap.size + 1 + 1 + 1 + 1, 0, none⟩) 1 1] 25)
  replace B2 := B2.alloc (.cells #[.int .i64 3, .slice (some ⟨w2.heap.size + 1, 0, none⟩) 3 3, .slice (some ⟨w2.heap.size + 1 + 1, 0, none⟩) 2 2, .slice (some ⟨w2.heap.size + 1 + 1 + 1 + 1, 0, none⟩) 1 1] 25)
  replace B3 := B3.alloc (.cells #[.int .i64 3, .slice (some ⟨w2.heap.size + 1, 0, none⟩) 3 3, .slice (some ⟨w2.heap.size + 1 + 1, 0, none⟩) 2 2, .slice (some ⟨w2.heap.size + 1 + 1 + 1 + 1, 0, none⟩) 1 1] 25)
  replace B4 := B4.alloc (.cells #[.int .i64 3, .slice (some ⟨w2.heap.size + 1, 0, none⟩) 3 3, .slice (some ⟨w2.heap.size + 1 + 1, 0, none⟩) 2 2, .slice (some ⟨w2.heap.size + 1 + 1 + 1 + 1, 0, none⟩) 1 1] 25)
  have B5 := Bk.at_ (w := (((((w2.alloc (.cells #[.int .i64 proto, .slice ca cores.length cc, .slice ha homes.length hc, .slice ta tasks.length tc] 25)).alloc (.cells ([2, 1, 3].map (Value.int .i64)).toArray 3)).alloc (.cells ([2, 0].map (Value.int .i64)).toArray 3)).alloc (.cells (ptc [⟨2, l0 + 1, 0⟩, ⟨3, l0 + 1, r0⟩]).toArray 42)).alloc (.cells (ttc [⟨⟨#[122, 122]⟩, p0 + 1, d0 + 1, q0 + 1, c0, some ⟨w2.heap.size + 1 + 1 + 1, 0, none⟩, 2, [⟨2, l0 + 1, 0⟩, ⟨3, l0 + 1, r0⟩]⟩]).toArray 45))) (g := w2.heap.size + 1 + 1 + 1 + 1 + 1) (t := 25) (cs := #[.int .i64 3, .slice (some ⟨w2.heap.size + 1, 0, none⟩) 3 3, .slice (some ⟨w2.heap.size + 1 + 1, 0, none⟩) 2 2, .slice (some ⟨w2.heap.size + 1 + 1 + 1 + 1, 0, none⟩) 1 1]) (by first | rfl | simp) rfl
  replace hb := hb.alloc hb.size (.cells #[.int .i64 3, .slice (some ⟨w2.heap.size + 1, 0, none⟩) 3 3, .slice (some ⟨w2.heap.size + 1 + 1, 0, none⟩) 2 2, .slice (some ⟨w2.heap.size + 1 + 1 + 1 + 1, 0, none⟩) 1 1] 25)
  replace hs := hs.keep (Keeps.alloc _ (.cells #[.int .i64 3, .slice (some ⟨w2.heap.size + 1, 0, none⟩) 3 3, .slice (some ⟨w2.heap.size + 1 + 1, 0, none⟩) 2 2, .slice (some ⟨w2.heap.size + 1 + 1 + 1 + 1, 0, none⟩) 1 1] 25))
  obtain ⟨g1, g2, g3, g4, g5, g6⟩ := HBD.out
  have hw : SetOk _ ⟨3, some ⟨w2.heap.size + 1, 0, none⟩, 3, [2, 1, 3], some ⟨w2.heap.size + 1 + 1, 0, none⟩, 2, [2, 0], some ⟨w2.heap.size + 1 + 1 + 1 + 1, 0, none⟩, 1, [⟨⟨#[122, 122]⟩, p0 + 1, d0 + 1, q0 + 1, c0, some ⟨w2.heap.size + 1 + 1 + 1, 0, none⟩, 2, [⟨2, l0 + 1, 0⟩, ⟨3, l0 + 1, r0⟩]⟩]⟩ := set_bks B1 B2 B4 (fun t ht => by
    simp at ht
    subst ht
    refine task_bk B3 (by decide) (by unfold I64; omega) (by unfold I64; omega) (by unfold I64; omega) (by unfold I64; omega) (by show 2 ≤ maxLen; decide) (fun p hp => ?_)
    simp at hp
    rcases hp with rfl | rfl
    · exact ⟨by show I64 2; decide, by show I64 (l0 + 1); unfold I64; omega, by show I64 0; decide⟩
    · exact ⟨by show I64 3; decide, by show I64 (l0 + 1); unfold I64; omega, by show I64 r0; unfold I64; omega⟩) (by decide) (by decide) (by decide) (by show 3 ≤ maxLen; decide) (by show 2 ≤ maxLen; decide) (by show 1 ≤ maxLen; decide)
  have HSM : Hid (sameS ⟨proto, ca, cc, cores, ha, hc, homes, ta, tc, tasks⟩ ⟨3, some ⟨w2.heap.size + 1, 0, none⟩, 3, [2, 1, 3], some ⟨w2.heap.size + 1 + 1, 0, none⟩, 2, [2, 0], some ⟨w2.heap.size + 1 + 1 + 1 + 1, 0, none⟩, 1, [⟨⟨#[122, 122]⟩, p0 + 1, d0 + 1, q0 + 1, c0, some ⟨w2.heap.size + 1 + 1 + 1, 0, none⟩, 2, [⟨2, l0 + 1, 0⟩, ⟨3, l0 + 1, r0⟩]⟩]⟩ = true) := hidp (sameS_bare (HBx.out.trans rfl))
  have CS := hidp (rsame_any ⟨proto, ca, cc, cores, ha, hc, homes, ta, tc, tasks⟩ ⟨3, some ⟨w2.heap.size + 1, 0, none⟩, 3, [2, 1, 3], some ⟨w2.heap.size + 1 + 1, 0, none⟩, 2, [2, 0], some ⟨w2.heap.size + 1 + 1 + 1 + 1, 0, none⟩, 1, [⟨⟨#[122, 122]⟩, p0 + 1, d0 + 1, q0 + 1, c0, some ⟨w2.heap.size + 1 + 1 + 1, 0, none⟩, 2, [⟨2, l0 + 1, 0⟩, ⟨3, l0 + 1, r0⟩]⟩]⟩ _ hs hw)
  rw [HSM.out] at CS
  obtain ⟨z0, z1, z2, z3⟩ := Z4 B0
  obtain ⟨k0, k1, k2, k3⟩ := Z4 B5
  have HSX := hidp hs
  have HB := hidp hb
  have HVX := hidp (HPP.out _ HBx.out)
  clear hs hw hb B0 B1 B2 B3 B4 B5 g1 g2 g3 g4 g5 g6
  go_wp2_with fail
  refine CS.out.mono ?_
  rintro e w3 ⟨rfl, hb3⟩
  have kb := Keeps.of_below hb3
  replace z0 := kb _ _ z0
  replace z1 := kb _ _ z1
  replace z2 := kb _ _ z2
  replace z3 := kb _ _ z3
  replace HSX := hidp (HSX.out.keep kb)
  replace HB := hidp (HB.out.trans (hb3.mono HB.out.size))
  have CP := hidp (print_any _ _ HSX.out (HT.out _ HB.out))
  clear kb hb3 CS k0 k1 k2 k3
  go_wp2_with fail
  refine CP.out.mono ?_
  rintro e w4 ⟨r, rfl, hv, hb4⟩
  have hr : r = X := bl_inj (hv.trans HVX.out)
  subst hr
  have HB4 := hidp (HB.out.trans (hb4.mono HB.out.size))
  have f9 : (r.toList == r.toList) = true := by simp
  clear hv hb4 CP
  go_wp2_with fail
  go_ret
  exact ⟨rfl, HB4.out⟩

theorem own : ownKnob Tryd.prog.godebug = none := by kernel_rfl
theorem laidOut : laidOutB Tryd.prog = true := by kernel_rfl
def cellsD : DataW Unit → List Value
  | .agg ds => ds.flatMap fun
    | .lit (.int k z) => [Value.int k z]
    | .agg es => es.flatMap fun
      | .lit (.int k z) => [Value.int k z]
      | _ => []
    | _ => []
  | _ => []
def layTab (d : DataW Unit) : Obj → Obj
  | .cells _ t frozen => .cells (cellsD d).toArray t frozen
  | o => o
/-- a world in which the listed tables lie: the witness -/
noncomputable def laidWorld (os : Os) : World := { World.holding Tryd.prog os ⟨#[], #[], []⟩ with heap := ((((((World.holding Tryd.prog os ⟨#[], #[], []⟩).heap.modify 4 (layTab Rows.laid_math_bits_deBruijn32tab)).modify 5 (layTab Rows.laid_math_bits_deBruijn64tab)).modify 1 (layTab Rows.laid_internal_strconv_uint64pow10)).modify 3 (layTab Rows.laid_unicode_utf8_acceptRanges)).modify 2 (layTab Rows.laid_unicode_utf8_first)) }
theorem laid_met (os : Os) (args : Array Value) : laidMetH Tryd.prog Rows.textNumbersRow.laid ((laidWorld os).forCall (fun _ _ => 0) ⟨#[], args, []⟩).memory :=
  laidMet_of_run' 8 (by kernel_rfl) (by kernel_rfl)
theorem witness_row (os : Os) {H : Type} (enc : TypeId × Value → H) :
    (OpenSpec.ofChange Rows.textNumbersSpec).preRow enc Tryd.prog Tryd.f5 Rows.textNumbersRow.domain false Rows.textNumbersRow.laid ((laidWorld os).forCall (fun _ _ => 0) ⟨#[], #[.int .u16 0, .int .u16 0, .int .u16 0, .int .u8 0, .int .u8 0, .int .u8 0], []⟩).memory #[.int .u16 0, .int .u16 0, .int .u16 0, .int .u8 0, .int .u8 0, .int .u8 0] := by
  have hw : (DataW.whole enc Tryd.prog ((laidWorld os).forCall (fun _ _ => 0) ⟨#[], #[.int .u16 0, .int .u16 0, .int .u16 0, .int .u8 0, .int .u8 0, .int .u8 0], []⟩).memory Tryd.f5.params.toList (OpenSpec.ofChange Rows.textNumbersSpec).vars false (#[.int .u16 0, .int .u16 0, .int .u16 0, .int .u8 0, .int .u8 0, .int .u8 0] : Array Value).toList 8).map (fun x => (x.1, x.2.1)) =
      some ([.lit (.int .u16 0), .lit (.int .u16 0), .lit (.int .u16 0), .lit (.int .u8 0), .lit (.int .u8 0), .lit (.int .u8 0)], []) := by kernel_rfl
  obtain ⟨⟨x1, x2, x3⟩, hx, hx1⟩ := Option.map_eq_some_iff.1 hw
  simp only [Prod.mk.injEq] at hx1
  obtain ⟨rfl, rfl⟩ := hx1
  exact OpenSpec.preRow_of_cond 8 hx (by kernel_rfl) (fun k hk => by cases hk) (by kernel_rfl) (laid_met os _)

set_option maxRecDepth 100000 in
theorem lifted (os : Os) (started : os.Started) (H : Type) (enc : TypeId × Value → H) (F0 : Stop.Interp) :
    ReturnsInHanded {} Tryd.checked os 5 .any ((OpenSpec.ofChange Rows.textNumbersSpec).preRow enc Tryd.prog Tryd.f5 Rows.textNumbersRow.domain false Rows.textNumbersRow.laid) (((OpenSpec.ofChange Rows.textNumbersSpec).at F0).post enc Tryd.prog Tryd.f5 false true false false) := by
  refine returnsInHanded_of_row (C := Tryd.checked) (s := OpenSpec.ofChange Rows.textNumbersSpec) own started (by kernel_rfl) Tryd.func5
    (witness_row_at (enc := enc) (C := Tryd.checked) false (laidWorld os) #[.int .u16 0, .int .u16 0, .int .u16 0, .int .u8 0, .int .u8 0, .int .u8 0] rfl (by kernel_rfl) (by kernel_rfl) (by kernel_rfl) (witness_row os enc)) ?_
  intro W base args ds gs before hval0 hW _ _ _ hL hsh _
  obtain ⟨mMax, hMax⟩ : ∃ m, W.cell? ⟨0, 0, none⟩ = some (.int .i64 m) := Tryd.laysM219.s1_3 W hsh
  have hTab : Go.Lib.TabIs Tryd.prog W "internal/strconv.uint64pow10" .u64 Go.Lib.pow10Tab := tabPow hL
  have hval : ∀ (j : Nat) t v, Tryd.f5.params[j]? = some t → args[j]? = some v → Value.okWide Tryd.prog W .any base t v := hval0
  have hW' := hW
  obtain ⟨p, q, hA0, hV, rfl, hfz, hnd⟩ := hW
  have hA : DataW.TrodAll enc Tryd.prog W 0 (fun _ => true) true Tryd.f5.params.toList args.toList ds p := hA0
  rw [Tryd.params5] at hA hval
  obtain ⟨v0, vs0, d0, ds0, p0, q0, hargs, rfl, rfl, h0, r0⟩ := trodAll_cons hA
  obtain ⟨v1, vs1, d1, ds1, p1, q1, rfl, rfl, rfl, h1, r1⟩ := trodAll_cons r0
  obtain ⟨v2, vs2, d2, ds2, p2, q2, rfl, rfl, rfl, h2, r2⟩ := trodAll_cons r1
  obtain ⟨v3, vs3, d3, ds3, p3, q3, rfl, rfl, rfl, h3, r3⟩ := trodAll_cons r2
  obtain ⟨v4, vs4, d4, ds4, p4, q4, rfl, rfl, rfl, h4, r4⟩ := trodAll_cons r3
  obtain ⟨v5, vs5, d5, ds5, p5, q5, rfl, rfl, rfl, h5, r5⟩ := trodAll_cons r4
  obtain ⟨rfl, rfl, rfl⟩ := trodAll_nil r5
  obtain rfl : args = #[v0, v1, v2, v3, v4, v5] := by cases args; simp_all
  obtain ⟨rfl, rfl⟩ := trodVars_none hV
  obtain ⟨a0, rfl, rfl, rfl, w0⟩ := open_int Tryd.underlying26 (hval 0 26 v0 rfl rfl) h0
  obtain ⟨a1, rfl, rfl, rfl, w1⟩ := open_int Tryd.underlying26 (hval 1 26 v1 rfl rfl) h1
  obtain ⟨a2, rfl, rfl, rfl, w2⟩ := open_int Tryd.underlying26 (hval 2 26 v2 rfl rfl) h2
  obtain ⟨a3, rfl, rfl, rfl, w3⟩ := open_int Tryd.underlying5 (hval 3 5 v3 rfl rfl) h3
  obtain ⟨a4, rfl, rfl, rfl, w4⟩ := open_int Tryd.underlying5 (hval 4 5 v4 rfl rfl) h4
  obtain ⟨a5, rfl, rfl, rfl, w5⟩ := open_int Tryd.underlying5 (hval 5 5 v5 rfl rfl) h5
  clear hA0 hval0
  refine (walk a0 a1 a2 a3 a4 a5  W w0 w1 w2 w3 w4 w5 mMax hMax hTab).mono fun e W' ⟨he, bel⟩ => ?_
  subst he
  exact ⟨_, rfl, _, _, _, [], _, [], hW', trodAll_mk1 (shut_bool Tryd.underlying4 _), (trodAll_cons_mk (shut_int Tryd.underlying26 w0) (trodAll_cons_mk (shut_int Tryd.underlying26 w1) (trodAll_cons_mk (shut_int Tryd.underlying26 w2) (trodAll_cons_mk (shut_int Tryd.underlying5 w3) (trodAll_cons_mk (shut_int Tryd.underlying5 w4) (trodAll_cons_mk (shut_int Tryd.underlying5 w5) trodAll_mk0)))))), rfl, bel.frame _, fun h => by cases h⟩

theorem over : Rows.TextNumbersSaid :=
  OpenClaim.holds_of_cond 5 Tryd.f5 rfl rfl rfl rfl rfl rfl rfl ⟨rfl, rfl, rfl, rfl, rfl⟩ rfl rfl rfl rfl rfl (by kernel_rfl) Tryd.func5 (by kernel_rfl)
    (of_decide_eq_true (by kernel_rfl)) (by unfold Func.isWrapper; first | (rw [if_pos (by decide +kernel)]; kernel_rfl) | (rw [if_neg (by decide +kernel)]; exact ⟨rfl, rfl⟩))
    (fun os started H enc _ F0 => by rw [OpenClaim.pre_eq_preRow]; exact lifted os started H enc F0)

/-- THE STATEMENT: the tied card -/
theorem proved : Rows.TextNumbersCardSaid :=
  Claim7.holds_tied_plain_at .later [] [.data, .data, .data, .data, .pinned] true (true, "31bf0271daabb12f75d2d3dcdb5711a3ac54dcda70b669fd0f20e4f13d272f58") false
    over (fun _ h => by cases h) (by kernel_rfl) (fun _ h => by cases h) textNumbers_row_tie rfl ⟨rfl, rfl⟩ (by kernel_rfl) rfl
    (fun f fn hf hfn => by
      obtain rfl : f = 5 := Option.some.inj ((show Tryd.prog.funcNamed Rows.textNumbersRow.func = some 5 by kernel_rfl).symm.trans hf) |>.symm
      obtain rfl : fn = Tryd.f5 := (Option.some.inj (Tryd.func5.symm.trans hfn)).symm
      refine ⟨by kernel_rfl, fun j t ht => ?_⟩
      rw [Tryd.params5] at ht
      exact standIns _ (by kernel_rfl) j t ht)
    (by kernel_rfl)
#print axioms proved
end Go.Proofs.YtggidlmehimcjaaDoor.textNumbers

