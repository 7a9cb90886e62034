/- What text.Print prints text.Parse reads: the lines, the whole. Plain laws. -/
import Derived.Test.YtggidlmehimcjaaDoorTxtC
import Derived.Test.YtggidlmehimcjaaDoorTxtV
namespace Go.Proofs.YtggidlmehimcjaaDoor
open Go.ChangeShapes Go.WideShapes Go.ChangeAt Go.RowKit
set_option linter.unusedVariables false
set_option linter.unusedSimpArgs false
theorem pl_run (x : Bts) (h : ∀ c ∈ x, c ≠ 10) (cur r : Bts) : pl 10 cur (x ++ 10 :: r) = (cur ++ x) :: pl 10 [] r := by
  induction x generalizing cur with
  | nil => rw [List.nil_append, pl, if_pos rfl, List.append_nil]
  | cons a t ih =>
    rw [List.cons_append, pl, if_neg (h a (by simp)), ih (fun c hc => h c (by simp [hc]))]
    simp
/-- lines, each ended by a line end -/
def ended (ls : List Bts) : Bts := ls.flatMap (fun l => l ++ [10])
theorem join_ended {ls : List Bts} (h : ls ≠ []) : joinT 10 ls ++ [10] = ended ls := by
  induction ls with
  | nil => exact absurd rfl h
  | cons a t ih =>
    cases t with
    | nil => simp [joinT, ended]
    | cons b t =>
      have := ih (by simp)
      show (a ++ 10 :: joinT 10 (b :: t)) ++ [10] = (a ++ [10]) ++ ended (b :: t)
      rw [← this]; simp
theorem lines_ended {ls : List Bts} (h : ∀ l ∈ ls, ∀ c ∈ l, c ≠ 10) : linesL (ended ls) = ls := by
  unfold linesL
  induction ls with
  | nil => rfl
  | cons a t ih =>
    have e : ended (a :: t) = a ++ 10 :: ended t := by simp [ended]
    rw [e, pl_run a (h a (by simp)), ih (fun l hl => h l (List.mem_cons_of_mem _ hl))]
    rfl
theorem hasT_no {p : Bts} {a : UInt8} {q : Bts} (hp : p = a :: q) (l : Bts) (h : ∀ c ∈ l, c ≠ a) : hasT p l = false := by
  induction l with
  | nil => rw [hp]; rfl
  | cons b t ih =>
    unfold hasT
    rw [ih (fun c hc => h c (by simp [hc])), Bool.or_false, hp]
    simp only [List.isPrefixOf, Bool.and_eq_false_imp]
    intro e
    exact absurd (by simpa using e : a = b).symm (h b (by simp))
theorem nest_digits {w : Bts} (h : ∀ c ∈ w, c ≠ 58) : nestT w = false := by
  unfold nestT
  rw [Bool.and_eq_false_iff]; left
  rw [Bool.eq_false_iff]
  intro hp
  obtain ⟨t, ht⟩ := List.isPrefixOf_iff_prefix.1 hp
  exact h 58 (by rw [← ht]; simp) rfl
theorem digit_108 {n : Int} (h : 0 ≤ n ∧ n ≤ 9999999) : ∀ c ∈ textL n, c ≠ 108 := by
  intro c hc
  rw [textL_dec h] at hc
  have hd := dec_dig _ c hc
  unfold isDig digB at hd
  rintro rfl
  revert hd; decide
theorem nest_part {p : PartT} (h : p.good) : nestT (partW p) = false := by
  obtain ⟨hk, hl, hr⟩ := h
  unfold partW
  split
  · unfold nestT; rw [Bool.and_eq_false_iff]; left; rfl
  · split
    · unfold nestT; rw [Bool.and_eq_false_iff]; left; rfl
    · unfold nestT
      rw [Bool.and_eq_false_iff]; right
      show hasT (tLock ++ [58]) (textL p.res ++ 58 :: textL p.len) = false
      refine hasT_no (q := [111, 99, 107, 58]) rfl _ (fun c hc => ?_)
      rcases List.mem_append.1 hc with g | g
      · exact digit_108 hr c g
      · rcases List.mem_cons.1 g with rfl | g
        · decide
        · exact digit_108 hl c g
theorem line_task {t : TaskT} (h : t.good) (r : RdT) (k : Nat) (hw : 2 ≤ r.want) : lineT r k (wordsL (taskW t)) = .ok { r with want := 3, tasksAt := r.tasksAt ++ [k], tasks := r.tasks ++ [t] } := by
  rw [words_task h]
  have hn : (t.name :: ([t.per, t.dl, t.prio, t.cl].map textL ++ t.parts.map partW)).any nestT = false := by
    rw [Bool.eq_false_iff]
    intro hx
    obtain ⟨w, hw, hx⟩ := List.any_eq_true.1 hx
    have : nestT w = false := by
      rcases List.mem_cons.1 hw with rfl | hw
      · exact nest_digits (fun c hc => (h.name.2 c hc).2.2.2)
      · rcases List.mem_append.1 hw with hw | hw
        · obtain ⟨n, hm, rfl⟩ := List.mem_map.1 hw
          exact nest_digits (fun c hc => ((textL_plain (h.nums n hm)).2 c hc).2.2.2)
        · obtain ⟨p, hm, rfl⟩ := List.mem_map.1 hw
          exact nest_part (h.parts p hm)
    rw [this] at hx; cases hx
  have hk : taskT (t.name :: ([t.per, t.dl, t.prio, t.cl].map textL ++ t.parts.map partW)) = .ok t := by
    unfold taskT
    rw [if_neg (by rw [hn]; decide)]
    have h1 : numsT [textL t.per, textL t.dl, textL t.prio, textL t.cl] = some [t.per, t.dl, t.prio, t.cl] := numsT_textL (l := [t.per, t.dl, t.prio, t.cl]) h.nums
    have h2 := partsT_partW h.parts
    show (match numsT [textL t.per, textL t.dl, textL t.prio, textL t.cl], partsT (t.parts.map partW) with
      | some [p, dl, q, cl], some parts => Except.ok (⟨t.name, p, dl, q, cl, parts⟩ : TaskT)
      | _, _ => Except.error (10 : Int)) = _
    rw [h1, h2]
  unfold lineT tTask
  dsimp only
  rw [if_neg (by rintro ⟨e, _⟩; exact absurd e (by decide)), if_neg (by rintro ⟨e, _⟩; exact absurd e (by decide)), if_neg (by rintro ⟨e, _⟩; exact absurd e (by decide)), if_pos ⟨rfl, hw⟩, hk]
theorem nums_words {h : Bts} {l : List Int} (hh : h ≠ [] ∧ ∀ c ∈ h, c ≠ 32 ∧ c ≠ 35) (hl : ∀ n ∈ l, 0 ≤ n ∧ n ≤ 9999999) : wordsL (numsW h l) = h :: l.map textL := by
  unfold numsW
  refine words_join (fun w hw => ?_)
  rcases List.mem_cons.1 hw with rfl | hw
  · exact hh
  · obtain ⟨n, hm, rfl⟩ := List.mem_map.1 hw
    exact ⟨(textL_plain (hl n hm)).1, fun c hc => ⟨((textL_plain (hl n hm)).2 c hc).1, ((textL_plain (hl n hm)).2 c hc).2.1⟩⟩
theorem nums_plain {h : Bts} {l : List Int} (hh : ∀ c ∈ h, c ≠ 10 ∧ c ≠ 35) (hl : ∀ n ∈ l, 0 ≤ n ∧ n ≤ 9999999) : ∀ c ∈ numsW h l, c ≠ 10 ∧ c ≠ 35 := by
  unfold numsW
  refine joinT_mem (p := fun c => c ≠ 10 ∧ c ≠ 35) (by decide) (fun w hw => ?_)
  rcases List.mem_cons.1 hw with rfl | hw
  · exact hh
  · obtain ⟨n, hm, rfl⟩ := List.mem_map.1 hw
    exact fun c hc => ⟨((textL_plain (hl n hm)).2 c hc).2.2.1, ((textL_plain (hl n hm)).2 c hc).2.1⟩
theorem task_plain {t : TaskT} (h : t.good) : ∀ c ∈ taskW t, c ≠ 10 ∧ c ≠ 35 := by
  unfold taskW
  refine joinT_mem (p := fun c => c ≠ 10 ∧ c ≠ 35) (by decide) (fun w hw => ?_)
  rcases List.mem_cons.1 hw with rfl | hw
  · refine nums_plain (fun c hc => ?_) h.nums
    rcases List.mem_append.1 hc with g | g
    · exact (by decide : ∀ c ∈ ([116, 97, 115, 107, 32] : Bts), c ≠ 10 ∧ c ≠ 35) c g
    · exact ⟨(h.name.2 c g).2.2.1, (h.name.2 c g).2.1⟩
  · obtain ⟨p, hm, rfl⟩ := List.mem_map.1 hw
    exact fun c hc => ⟨((partW_plain (h.parts p hm)).2 c hc).2.2, ((partW_plain (h.parts p hm)).2 c hc).2.1⟩
/-- what may be printed and read -/
structure RdT.good (r : RdT) : Prop where
  proto : r.proto = 1 ∨ r.proto = 2 ∨ r.proto = 3
  cores : r.cores ≠ [] ∧ ∀ n ∈ r.cores, 0 ≤ n ∧ n ≤ 9999999
  homes : ∀ n ∈ r.homes, 0 ≤ n ∧ n ≤ 9999999
  tasks : ∀ t ∈ r.tasks, t.good
def linesOf (r : RdT) : List Bts := ([112, 114, 111, 116, 111, 99, 111, 108, 32] ++ protoW r.proto) :: numsW [99, 111, 114, 101, 115] r.cores :: ((if r.homes = [] then [] else [numsW [104, 111, 109, 101, 115] r.homes]) ++ r.tasks.map taskW)
theorem print_lines (r : RdT) : printT r = ended (linesOf r) := join_ended (by simp [linesOf])
theorem linesOf_plain {r : RdT} (h : r.good) : ∀ l ∈ linesOf r, ∀ c ∈ l, c ≠ 10 ∧ c ≠ 35 := by
  intro l hl
  unfold linesOf at hl
  rcases List.mem_cons.1 hl with rfl | hl
  · intro c hc
    have : ∀ p : Int, (p = 1 ∨ p = 2 ∨ p = 3) → ∀ c ∈ ([112, 114, 111, 116, 111, 99, 111, 108, 32] : Bts) ++ protoW p, c ≠ 10 ∧ c ≠ 35 := by
      rintro p (rfl | rfl | rfl) <;> decide
    exact this _ h.proto c hc
  · rcases List.mem_cons.1 hl with rfl | hl
    · exact nums_plain (by decide) h.cores.2
    · rcases List.mem_append.1 hl with hl | hl
      · split at hl
        · simp at hl
        · rw [List.mem_singleton.1 hl]; exact nums_plain (by decide) h.homes
      · obtain ⟨t, ht, rfl⟩ := List.mem_map.1 hl
        exact task_plain (h.tasks t ht)
/-- alike but for where lines stand -/
def Alike (a b : RdT) : Prop := a.proto = b.proto ∧ a.cores = b.cores ∧ a.homes = b.homes ∧ a.tasks = b.tasks ∧ a.want = b.want
theorem Alike.bare {a b : RdT} (h : Alike a b) : a.bare = b.bare := by
  obtain ⟨h1, h2, h3, h4, h5⟩ := h
  unfold RdT.bare
  rw [h1, h2, h3, h4]
theorem lineT_alike {a b : RdT} (h : Alike a b) (j k : Nat) (l : List Bts) {a' : RdT} (hl : lineT a j l = .ok a') : ∃ b', lineT b k l = .ok b' ∧ Alike a' b' := by
  obtain ⟨h1, h2, h3, h4, h5⟩ := h
  cases l with
  | nil => exact ⟨b, rfl, by injection hl with hl; subst hl; exact ⟨h1, h2, h3, h4, h5⟩⟩
  | cons hd rest =>
    unfold lineT at hl ⊢
    dsimp only at hl ⊢
    rw [← h5]
    split at hl
    · rename_i g; rw [if_pos g]
      cases hp : protoT rest with
      | none => rw [hp] at hl; cases hl
      | some p => rw [hp] at hl; injection hl with hl; subst hl; exact ⟨_, rfl, rfl, h2, h3, h4, rfl⟩
    · rename_i g; rw [if_neg g]
      split at hl
      · rename_i g; rw [if_pos g]
        cases hp : someT rest with
        | none => rw [hp] at hl; cases hl
        | some p => rw [hp] at hl; injection hl with hl; subst hl; exact ⟨_, rfl, h1, rfl, h3, h4, rfl⟩
      · rename_i g; rw [if_neg g]
        split at hl
        · rename_i g; rw [if_pos g]
          cases hp : someT rest with
          | none => rw [hp] at hl; cases hl
          | some p => rw [hp] at hl; injection hl with hl; subst hl; exact ⟨_, rfl, h1, h2, rfl, h4, rfl⟩
        · rename_i g; rw [if_neg g]
          split at hl
          · rename_i g; rw [if_pos g]
            cases hp : taskT rest with
            | error e => rw [hp] at hl; cases hl
            | ok p => rw [hp] at hl; injection hl with hl; subst hl; exact ⟨_, rfl, h1, h2, h3, by simp [h4], rfl⟩
          · cases hl
/-- the same words line by line, blank lines between -/
inductive Like : List Bts → List Bts → Prop where
  | nil : Like [] []
  | line {a b : Bts} {xs ys : List Bts} : wordsL b = wordsL a → Like xs ys → Like (a :: xs) (b :: ys)
  | blank {b : Bts} {xs ys : List Bts} : wordsL b = [] → Like xs ys → Like xs (b :: ys)
theorem lines_like {xs ys : List Bts} (h : Like xs ys) : ∀ {a b a' : RdT} {j k : Nat}, Alike a b → linesT a j xs = .ok a' → ∃ b', linesT b k ys = .ok b' ∧ Alike a' b' := by
  induction h with
  | nil =>
    intro a b a' j k hab ha
    unfold linesT at ha ⊢
    rw [← hab.2.2.2.2]
    split at ha
    · cases ha
    · rename_i g
      injection ha with ha; subst ha
      exact ⟨b, by rw [if_neg g], hab⟩
  | line hw _ ih =>
    intro a b a' j k hab ha
    unfold linesT at ha ⊢
    rw [hw]
    split at ha
    · rename_i r' hr
      obtain ⟨b', hb, hab'⟩ := lineT_alike hab j k _ hr
      rw [hb]
      exact ih hab' ha
    · cases ha
  | blank hw _ ih =>
    intro a b a' j k hab ha
    conv => enter [1, b']; lhs; unfold linesT
    rw [hw]
    exact ih hab ha
theorem tasks_read {ts : List TaskT} (h : ∀ t ∈ ts, t.good) : ∀ (r : RdT) (k : Nat), 2 ≤ r.want → ∃ r', linesT r k (ts.map taskW) = .ok r' ∧ r'.bare = { r with tasks := r.tasks ++ ts }.bare := by
  induction ts with
  | nil =>
    intro r k hw
    refine ⟨r, ?_, by simp⟩
    unfold linesT
    rw [List.map_nil]
    dsimp only
    rw [if_neg (by omega)]
  | cons t ts ih =>
    intro r k hw
    obtain ⟨r', h1, h2⟩ := ih (fun t ht => h t (List.mem_cons_of_mem _ ht)) { r with want := 3, tasksAt := r.tasksAt ++ [k], tasks := r.tasks ++ [t] } (k + 1) (show 2 ≤ 3 by decide)
    refine ⟨r', ?_, by rw [h2]; simp [RdT.bare]⟩
    rw [List.map_cons]
    unfold linesT
    rw [line_task (h t (by simp)) r k hw]
    exact h1
theorem lines_read {r : RdT} (h : r.good) : ∃ r', linesT ⟨0, [], [], [], 0, 0, []⟩ 0 (linesOf r) = .ok r' ∧ r'.bare = r.bare := by
  have c1 : lineT ⟨0, [], [], [], 0, 0, []⟩ 0 (wordsL ([112, 114, 111, 116, 111, 99, 111, 108, 32] ++ protoW r.proto)) = .ok ⟨r.proto, [], [], [], 1, 0, []⟩ := by
    rcases h.proto with e | e | e <;> rw [e] <;> rfl
  have c2 : lineT ⟨r.proto, [], [], [], 1, 0, []⟩ 1 (wordsL (numsW [99, 111, 114, 101, 115] r.cores)) = .ok ⟨r.proto, r.cores, [], [], 2, 1, []⟩ := by
    rw [nums_words (by decide) h.cores.2]
    unfold lineT
    dsimp only
    have hs : someT (r.cores.map textL) = some r.cores := by
      unfold someT
      rw [numsT_textL h.cores.2]
      cases hc : r.cores with
      | nil => exact absurd hc h.cores.1
      | cons a t => rfl
    rw [if_neg (by rintro ⟨e, _⟩; exact absurd e (by decide)), if_pos (by decide), hs]
  unfold linesOf
  by_cases hh : r.homes = []
  · rw [if_pos hh, List.nil_append]
    obtain ⟨r', h1, h2⟩ := tasks_read h.tasks ⟨r.proto, r.cores, [], [], 2, 1, []⟩ 2 (show 2 ≤ 2 by decide)
    refine ⟨r', ?_, by rw [h2]; simp [RdT.bare, hh]⟩
    unfold linesT
    rw [c1]
    dsimp only
    unfold linesT
    rw [c2]
    exact h1
  · rw [if_neg hh]
    have c3 : lineT ⟨r.proto, r.cores, [], [], 2, 1, []⟩ 2 (wordsL (numsW [104, 111, 109, 101, 115] r.homes)) = .ok ⟨r.proto, r.cores, r.homes, [], 3, 1, []⟩ := by
      rw [nums_words (by decide) h.homes]
      unfold lineT
      dsimp only
      have hs : someT (r.homes.map textL) = some r.homes := by
        unfold someT
        rw [numsT_textL h.homes]
        cases hc : r.homes with
        | nil => exact absurd hc hh
        | cons a t => rfl
      rw [if_neg (by rintro ⟨e, _⟩; exact absurd e (by decide)), if_neg (by rintro ⟨e, _⟩; exact absurd e (by decide)), if_pos (by decide), hs]
    obtain ⟨r', h1, h2⟩ := tasks_read h.tasks ⟨r.proto, r.cores, r.homes, [], 3, 1, []⟩ 3 (show 2 ≤ 3 by decide)
    refine ⟨r', ?_, by rw [h2]; simp [RdT.bare]⟩
    unfold linesT
    rw [c1]
    dsimp only
    unfold linesT
    rw [c2]
    dsimp only
    rw [List.singleton_append]
    unfold linesT
    rw [c3]
    exact h1
/-- what is printed is read -/
theorem read_print {r : RdT} (h : r.good) : ∃ r', readT (printT r) = .ok r' ∧ r'.bare = r.bare := by
  have hp := linesOf_plain h
  unfold readT
  rw [print_lines, lines_ended (fun l hl c hc => (hp l hl c hc).1)]
  exact lines_read h
end Go.Proofs.YtggidlmehimcjaaDoor
