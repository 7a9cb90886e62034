/- ReportTurns: however its tasks stand the same is reported of a set. No condition. -/
import Derived.Test.YtjjlpaampmpdfaaGreatDoorRefCanonM
import Derived.Test.YtjjlpaampmpdfaaGreatDoorKnown19M
import Derived.Test.YtjjlpaampmpdfaaGreatDoorSound
import Derived.Test.YtjjlpaampmpdfaaGreatDoorAdmitNums
import Derived.Test.YtjjlpaampmpdfaaGreatDoorRef7d
import Derived.Test.YtjjlpaampmpdfaaGreatDoorReg
import Derived.BigQuiet
namespace Go.Proofs.YtjjlpaampmpdfaaGreatDoor
open Go.ChangeShapes Go.WideShapes Go.ChangeAt Go.RowKit
set_option linter.unusedVariables false
theorem like_no {a b : TaskR} (h : likeB a b = false) : ((b.name.toList == a.name.toList) = false ∧ (b.prio == a.prio) = false) := by
  unfold likeB at h
  rw [Bool.or_eq_false_iff] at h
  exact h
theorem bytes_comm (a b : ByteArray) : (a.toList == b.toList) = (b.toList == a.toList) := by
  rw [Bool.eq_iff_iff, beq_iff_eq, beq_iff_eq]; exact eq_comm
theorem apart_of {s : SetR} (ho : okS s = true) {i k : Nat} (hi : i < s.tasks.length) (hk : k < s.tasks.length) (hne : i ≠ k) : ((s.tasks.getD i default).name.toList == (s.tasks.getD k default).name.toList) = false ∧ ((s.tasks.getD i default).prio == (s.tasks.getD k default).prio) = false := by
  have hg := Good.of ho
  have key : ∀ i k, i < k → k < s.tasks.length → ((s.tasks.getD i default).name.toList == (s.tasks.getD k default).name.toList) = false ∧ ((s.tasks.getD i default).prio == (s.tasks.getD k default).prio) = false := fun i k hik hk => by
    have h := hg.apart k hk
    unfold takenB at h
    rw [List.any_eq_false] at h
    have hm : s.tasks.getD i default ∈ s.tasks.take k := by
      have e2 : (s.tasks.take k).getD i default = s.tasks.getD i default := by simp [List.getD, show i < k by omega]
      rw [← e2]; exact getD_mem (by rw [List.length_take]; omega)
    exact like_no (by simpa using h _ hm)
  rcases Nat.lt_or_ge i k with h | h
  · exact key i k h hk
  · obtain ⟨a, b⟩ := key k i (by omega) hi
    refine ⟨by rw [bytes_comm]; exact a, ?_⟩
    rw [beq_eq_false_iff_ne] at b ⊢
    exact fun e => b e.symm
end Go.Proofs.YtjjlpaampmpdfaaGreatDoor

namespace Go.Proofs.YtjjlpaampmpdfaaGreatDoor
open Go.ChangeShapes Go.WideShapes Go.ChangeAt Go.RowKit
set_option linter.unusedVariables false

/-! ### What is told of all tasks, number by number -/
theorem upto_all {α : Type} [Inhabited α] {P : List α → Nat → Prop} (ts : List α) (h0 : P [] 0) (hs : ∀ n, n < ts.length → P (ts.take n) n → P (ts.take (n + 1)) (n + 1)) : P ts ts.length := by
  have : ∀ n, n ≤ ts.length → P (ts.take n) n := fun n => by
    induction n with
    | zero => intro _; rw [List.take_zero]; exact h0
    | succ n ih => intro hn; exact hs n (by omega) (ih (by omega))
  have := this ts.length (Nat.le_refl _)
  rwa [List.take_length] at this
theorem flat_snoc {α : Type} (f : Nat → List α) (n : Nat) : (List.range (n + 1)).flatMap f = (List.range n).flatMap f ++ f n := by rw [List.range_succ, List.flatMap_append]; simp
theorem flat_congr {α β : Type} {f g : α → List β} {l : List α} (h : ∀ x ∈ l, f x = g x) : l.flatMap f = l.flatMap g := by
  induction l with
  | nil => rfl
  | cons a l ih => rw [List.flatMap_cons, List.flatMap_cons, h a (by simp), ih (fun x hx => h x (by simp [hx]))]
def mx : List Int → Int
  | [] => 0
  | a :: l => max a (mx l)
theorem mx_perm {a b : List Int} (h : a.Perm b) : mx a = mx b := by
  induction h with
  | nil => rfl
  | cons x _ ih => simp [mx, ih]
  | swap x y l => simp [mx]; omega
  | trans _ _ i1 i2 => exact i1.trans i2
theorem mx_nn (l : List Int) : 0 ≤ mx l := by
  induction l with
  | nil => simp [mx]
  | cons a l ih => simp only [mx]; omega
theorem mx_append (a b : List Int) : mx (a ++ b) = max (mx a) (mx b) := by
  induction a with
  | nil => have := mx_nn b; simp [mx]; omega
  | cons x a ih => simp only [List.cons_append, mx, ih]; omega
theorem othL_flat (of : Int) (ts : List TaskR) : othL of 0 ts = (List.range ts.length).flatMap (fun i : Nat => if (i : Int) = of ∨ maxL (ts.getD i default).parts = 0 then [] else [maxL (ts.getD i default).parts]) :=
  upto_all (P := fun l n => othL of 0 l = (List.range n).flatMap (fun i : Nat => if (i : Int) = of ∨ maxL (ts.getD i default).parts = 0 then [] else [maxL (ts.getD i default).parts])) ts rfl (fun n hn ih => by rw [othL_snoc of ts n hn, ih, flat_snoc])
theorem rothL_flat (of : Int) (ts : List TaskR) : rothL of 0 ts = (List.range ts.length).flatMap (fun i : Nat => if (i : Int) = of then [] else [maxL (ts.getD i default).parts]) :=
  upto_all (P := fun l n => rothL of 0 l = (List.range n).flatMap (fun i : Nat => if (i : Int) = of then [] else [maxL (ts.getD i default).parts])) ts rfl (fun n hn ih => by rw [rothL_snoc of ts n hn, ih, flat_snoc])
theorem rivL_flat (s : SetR) (bs : List Int) (pr cl : Int) (ts : List TaskR) : rivL s bs pr cl 0 ts = (List.range ts.length).flatMap (fun i : Nat => if (ts.getD i default).prio < pr then [PartM.mk (bs.getD i 0) (ts.getD i default).per (atV s i cl)] else []) :=
  upto_all (P := fun l n => rivL s bs pr cl 0 l = (List.range n).flatMap (fun i : Nat => if (ts.getD i default).prio < pr then [PartM.mk (bs.getD i 0) (ts.getD i default).per (atV s i cl)] else [])) ts rfl (fun n hn ih => by rw [rivL_snoc s bs pr cl ts n hn, ih, flat_snoc])
theorem lowL_flat (s : SetR) (pr cl : Int) (ts : List TaskR) : lowL s pr cl 0 ts = mx ((List.range ts.length).map (fun i : Nat => if pr < (ts.getD i default).prio then mostV s i cl else 0)) :=
  upto_all (P := fun l n => lowL s pr cl 0 l = mx ((List.range n).map (fun i : Nat => if pr < (ts.getD i default).prio then mostV s i cl else 0))) ts rfl (fun n hn ih => by
    rw [lowL_snoc s pr cl ts n hn, ih, List.range_succ, List.map_append, mx_append]
    have := (mostV_bd s n cl).1
    simp only [List.map_cons, List.map_nil, mx]
    congr 1
    split <;> omega)
theorem slowL_flat {s : SetR} (ho : okS s = true) (cl : Int) {ts : List TaskR} (hts : ∀ t ∈ ts, LenOk t.parts) : slowL s cl 0 ts = mx ((List.range ts.length).map (fun i : Nat => if (ts.getD i default).cl = cl ∧ maxL (ts.getD i default).parts ≠ 0 then maxL (ts.getD i default).parts + besV s i else 0)) :=
  upto_all (P := fun l n => slowL s cl 0 l = mx ((List.range n).map (fun i : Nat => if (ts.getD i default).cl = cl ∧ maxL (ts.getD i default).parts ≠ 0 then maxL (ts.getD i default).parts + besV s i else 0))) ts rfl (fun n hn ih => by
    rw [slowL_snoc ho cl hts n hn, ih, List.range_succ, List.map_append, mx_append]
    have := (besV_bd ho n).1
    have := maxL_nn (ts.getD n default).parts
    simp only [List.map_cons, List.map_nil, mx]
    congr 1
    split <;> omega)
theorem askN_flat (cl : Int) (ts : List TaskR) : askN cl ts = tot ((List.range ts.length).map (fun i : Nat => if (ts.getD i default).cl = cl ∧ sumK 3 (ts.getD i default).parts ≠ 0 then 1 else 0)) :=
  upto_all (P := fun l n => askN cl l = tot ((List.range n).map (fun i : Nat => if (ts.getD i default).cl = cl ∧ sumK 3 (ts.getD i default).parts ≠ 0 then 1 else 0))) ts rfl (fun n hn ih => by
    rw [askN_snoc cl ts n hn, ih, range_snoc, tot_append]; simp [tot])
theorem othW_flat (s : SetR) (bs : List Int) (of wd : Int) (ts : List TaskR) : othW s bs of wd 0 ts = tot ((List.range ts.length).map (fun i : Nat => if (i : Int) = of then 0 else workV wd (bs.getD i 0) (ts.getD i default).per (eachV s i of))) :=
  upto_all (P := fun l n => othW s bs of wd 0 l = tot ((List.range n).map (fun i : Nat => if (i : Int) = of then 0 else workV wd (bs.getD i 0) (ts.getD i default).per (eachV s i of)))) ts rfl (fun n hn ih => by
    rw [othW_snoc s bs of wd ts n hn, ih, range_snoc, tot_append]; simp [tot])
theorem workS_perm (wd : Int) {a b : List PartM} (h : a.Perm b) : workS wd a = workS wd b := by
  induction h with
  | nil => rfl
  | cons x _ ih => simp [workS, ih]
  | swap x y l => simp [workS]; omega
  | trans _ _ i1 i2 => exact i1.trans i2
theorem perm_uniq : ∀ (a b : List Int), a.Perm b → a.Pairwise (fun x y => y ≤ x) → b.Pairwise (fun x y => y ≤ x) → a = b
  | [], b, h, _, _ => (List.Perm.nil_eq h)
  | x :: a, [], h, _, _ => absurd h.length_eq (by simp)
  | x :: a, y :: b, h, ha, hb => by
    have h1 := List.pairwise_cons.1 ha
    have h2 := List.pairwise_cons.1 hb
    have e : x = y := by
      have m1 : x ∈ y :: b := h.mem_iff.1 (by simp)
      have m2 : y ∈ x :: a := h.mem_iff.2 (by simp)
      rcases List.mem_cons.1 m1 with e | m1
      · exact e
      · rcases List.mem_cons.1 m2 with e | m2
        · exact e.symm
        · have := h2.1 x m1; have := h1.1 y m2; omega
    subst e
    rw [perm_uniq a b (List.Perm.cons_inv h) h1.2 h2.2]
theorem desc_same {a b : List Int} (h : a.Perm b) : desc a = desc b := perm_uniq _ _ ((desc_perm a).trans (h.trans (desc_perm b).symm)) (desc_srt a) (desc_srt b)
theorem tops_perm {a b : List Int} (h : a.Perm b) (k : Int) : tops a k = tops b k := by unfold tops; rw [desc_same h, h.length_eq]

/-- the tasks of t are those of s, each at another place -/
structure Moved (s t : SetR) (σ τ : Nat → Nat) : Prop where
  proto : t.proto = s.proto
  cores : t.cores = s.cores
  homes : t.homes = s.homes
  len : t.tasks.length = s.tasks.length
  task : ∀ i, i < s.tasks.length → t.tasks.getD i default = s.tasks.getD (σ i) default
  lt : ∀ i, i < s.tasks.length → σ i < s.tasks.length
  lt' : ∀ i, i < s.tasks.length → τ i < s.tasks.length
  back : ∀ i, i < s.tasks.length → τ (σ i) = i
  forth : ∀ i, i < s.tasks.length → σ (τ i) = i
section
variable {s t : SetR} {σ τ : Nat → Nat}
theorem Moved.symm (h : Moved s t σ τ) : Moved t s τ σ :=
  ⟨h.proto.symm, h.cores.symm, h.homes.symm, h.len.symm, fun i hi => by rw [h.len] at hi; rw [h.task _ (h.lt' i hi), h.forth i hi], fun i hi => by rw [h.len] at hi ⊢; exact h.lt' i hi, fun i hi => by rw [h.len] at hi ⊢; exact h.lt i hi, fun i hi => by rw [h.len] at hi; exact h.forth i hi, fun i hi => by rw [h.len] at hi; exact h.back i hi⟩
theorem Moved.inj (h : Moved s t σ τ) {i j : Nat} (hi : i < s.tasks.length) (hj : j < s.tasks.length) (e : σ i = σ j) : i = j := by
  rw [← h.back i hi, ← h.back j hj, e]
theorem Moved.perm (h : Moved s t σ τ) : ((List.range s.tasks.length).map σ).Perm (List.range s.tasks.length) := by
  have hn : ((List.range s.tasks.length).map σ).Nodup := by
    rw [List.nodup_iff_pairwise_ne, List.pairwise_map]
    have hp : (List.range s.tasks.length).Pairwise (fun a b => a < b) := List.pairwise_lt_range
    refine List.Pairwise.imp_of_mem (fun {a b} ha hb hlt e => ?_) hp
    have := h.inj (List.mem_range.1 ha) (List.mem_range.1 hb) e
    omega
  refine (List.perm_ext_iff_of_nodup hn List.nodup_range).2 (fun x => ?_)
  rw [List.mem_map, List.mem_range]
  constructor
  · rintro ⟨i, hi, rfl⟩; exact h.lt i (List.mem_range.1 hi)
  · intro hx; exact ⟨τ x, List.mem_range.2 (h.lt' x hx), h.forth x hx⟩
theorem Moved.flat {α : Type} (h : Moved s t σ τ) {f g : Nat → List α} (hf : ∀ i, i < s.tasks.length → f i = g (σ i)) : ((List.range t.tasks.length).flatMap f).Perm ((List.range s.tasks.length).flatMap g) := by
  rw [h.len]
  have e : (List.range s.tasks.length).flatMap f = ((List.range s.tasks.length).map σ).flatMap g := by
    rw [List.flatMap_map]
    refine flat_congr (fun i hi => ?_)
    exact hf i (List.mem_range.1 hi)
  rw [e]
  exact List.Perm.flatMap_right g h.perm
theorem Moved.maps {α : Type} (h : Moved s t σ τ) {f g : Nat → α} (hf : ∀ i, i < s.tasks.length → f i = g (σ i)) : ((List.range t.tasks.length).map f).Perm ((List.range s.tasks.length).map g) := by
  rw [h.len]
  have e : (List.range s.tasks.length).map f = ((List.range s.tasks.length).map σ).map g := by
    rw [List.map_map]
    refine List.map_congr_left (fun i hi => ?_)
    exact hf i (List.mem_range.1 hi)
  rw [e]
  exact h.perm.map g
theorem Moved.ok1 (h : Moved s t σ τ) (ho : okS s = true) : okS t = true := by
  have hg := Good.of ho
  have ht := ((okS_iff s).1 ho).2
  refine okS_all (by rw [h.proto]; exact hg.proto) (by rw [h.cores]; exact hg.ncores) (by rw [h.cores]; exact hg.cores) (by rw [h.homes]; exact hg.nhomes) (by rw [h.homes, h.cores]; intro n hn; have := hg.homes n hn; omega) (by rw [h.len]; exact hg.ntasks) (fun k hk => ?_) (fun i k hik hk => ?_)
  · rw [h.len] at hk
    rw [h.task k hk, h.cores, h.homes]
    obtain ⟨a, b, c, d⟩ := taskE_ok (ht _ (h.lt k hk))
    have b2 := inB_true.1 b
    exact ⟨a, by omega, d⟩
  · rw [h.len] at hk
    rw [h.task k hk, h.task i (by omega)]
    exact apart_of ho (h.lt i (by omega)) (h.lt k hk) (fun e => by have := h.inj (by omega) hk e; omega)
theorem Moved.ok (h : Moved s t σ τ) : okS t = okS s := by
  rw [Bool.eq_iff_iff]
  exact ⟨h.symm.ok1, h.ok1⟩
theorem Moved.at (h : Moved s t σ τ) {i : Nat} (hi : i < s.tasks.length) : taskAt t i = taskAt s (σ i : Nat) := by
  unfold taskAt; simp only [Int.toNat_natCast]; exact h.task i hi
theorem Moved.there (h : Moved s t σ τ) {i : Nat} (hi : i < s.tasks.length) : thereB t i = thereB s (σ i : Nat) := by
  have := h.lt i hi
  unfold thereB
  rw [h.ok, h.len, decide_eq_true (show (0 : Int) ≤ (i : Int) by omega), decide_eq_true (show (0 : Int) ≤ ((σ i : Nat) : Int) by omega), decide_eq_true (show (i : Int) < (s.tasks.length : Int) by omega), decide_eq_true (show ((σ i : Nat) : Int) < (s.tasks.length : Int) by omega)]
theorem Moved.part (h : Moved s t σ τ) {i : Nat} (hi : i < s.tasks.length) (p : Int) : partAt t i p = partAt s (σ i : Nat) p := by
  unfold partAt; simp only [Int.toNat_natCast]; rw [h.task i hi]
theorem Moved.parts (h : Moved s t σ τ) {i : Nat} (hi : i < s.tasks.length) : partsOf t i = partsOf s (σ i : Nat) := by
  unfold partsOf; simp only [Int.toNat_natCast]; rw [h.task i hi]
theorem Moved.fairK (h : Moved s t σ τ) {i : Nat} (hi : i < s.tasks.length) (p : Int) : fairK t i p = fairK s (σ i : Nat) p := by
  rw [Bool.eq_iff_iff, fairK_iff, fairK_iff, h.there hi, h.part hi]
  simp only [Int.toNat_natCast]
  rw [h.task i hi]
theorem Moved.num (h : Moved s t σ τ) {i j : Nat} (hi : i < s.tasks.length) (hj : j < s.tasks.length) : ((i : Int) = (j : Int)) = (((σ i : Nat) : Int) = ((σ j : Nat) : Int)) := by
  apply propext
  constructor
  · intro e; have : i = j := by omega
    rw [this]
  · intro e; have := h.inj hi hj (by omega); rw [this]
theorem Moved.fair (h : Moved s t σ τ) {i : Nat} (hi : i < s.tasks.length) (p : Int) : fairV t i p = fairV s (σ i : Nat) p := by
  have e : tot (othL i 0 t.tasks) = tot (othL (σ i : Nat) 0 s.tasks) := by
    rw [othL_flat, othL_flat]
    refine tot_perm (h.flat (fun j hj => ?_))
    rw [h.task j hj]; simp only [h.num hj hi]
  unfold fairV
  rw [h.fairK hi, h.part hi, e]
theorem Moved.srv (h : Moved s t σ τ) {i : Nat} (hi : i < s.tasks.length) (cl : Int) : srv t i cl = srv s (σ i : Nat) cl := by
  have := h.lt i hi
  unfold Go.Proofs.YtjjlpaampmpdfaaGreatDoor.srv
  simp only [Int.toNat_natCast]
  rw [h.ok, h.len, h.homes, h.task i hi]
  by_cases ho : okS s = true
  · rw [if_pos ⟨ho, by omega, by omega⟩, if_pos ⟨ho, by omega, by omega⟩]
  · rw [if_neg (fun x => ho x.1), if_neg (fun x => ho x.1)]
theorem Moved.low (h : Moved s t σ τ) {i : Nat} (hi : i < s.tasks.length) (cl : Int) : lowerV t i cl = lowerV s (σ i : Nat) cl := by
  unfold lowerV prioOf
  simp only [Int.toNat_natCast]
  rw [h.there hi, h.task i hi, lowL_flat, lowL_flat]
  rw [mx_perm (h.maps (fun j hj => ?_))]
  unfold mostV
  rw [h.task j hj, h.srv hj]
/-- bounds of the tasks, each at the other place -/
def Bounds (s : SetR) (σ : Nat → Nat) (bs cs : List Int) : Prop := bs.length = s.tasks.length ∧ cs.length = s.tasks.length ∧ ∀ i, i < s.tasks.length → cs.getD i 0 = bs.getD (σ i) 0
variable {bs cs : List Int}
theorem Moved.agent (h : Moved s t σ τ) (hb : Bounds s σ bs cs) {i : Nat} (hi : i < s.tasks.length) (p : Int) : agentO t cs i p = agentO s bs (σ i : Nat) p := by
  have e1 : agentB t cs i p = agentB s bs (σ i : Nat) p := by
    unfold agentB
    rw [h.fairK hi, h.len, hb.1, hb.2.1]
  have e2 : homeV t i p = homeV s (σ i : Nat) p := by unfold homeV; rw [h.homes, h.part hi]
  have e3 : leastV t i p = leastV s (σ i : Nat) p := by unfold leastV; rw [h.part hi, e2, h.low hi]
  have e4 : prioOf t i = prioOf s (σ i : Nat) := by unfold prioOf; simp only [Int.toNat_natCast]; rw [h.task i hi]
  have e5 : winF (leastV s (σ i : Nat) p) (rivL t cs (prioOf s (σ i : Nat)) (homeV s (σ i : Nat) p) 0 t.tasks) = winF (leastV s (σ i : Nat) p) (rivL s bs (prioOf s (σ i : Nat)) (homeV s (σ i : Nat) p) 0 s.tasks) := by
    funext x
    unfold winF
    rw [rivL_flat, rivL_flat, workS_perm x (h.flat (fun j hj => ?_))]
    unfold atV
    rw [h.task j hj, h.srv hj, hb.2.2 j hj]
  unfold agentO
  rw [e1, e2, e3, e4, e5]
theorem Moved.coresV (h : Moved s t σ τ) : coresV t = coresV s := by unfold Go.Proofs.YtjjlpaampmpdfaaGreatDoor.coresV; rw [h.ok, h.cores]
theorem Moved.bes (h : Moved s t σ τ) {i : Nat} (hi : i < s.tasks.length) : besV t i = besV s (σ i : Nat) := by
  unfold besV
  rw [h.coresV, rothL_flat, rothL_flat, tops_perm (h.flat (fun j hj => ?_))]
  rw [h.task j hj]; simp only [h.num hj hi]
theorem Moved.slow (h : Moved s t σ τ) (ho : okS s = true) (cl : Int) : slowL t cl 0 t.tasks = slowL s cl 0 s.tasks := by
  have l1 : ∀ q ∈ s.tasks, LenOk q.parts := fun q hq => ((Good.of ho).parts q hq).lens
  have l2 : ∀ q ∈ t.tasks, LenOk q.parts := fun q hq => ((Good.of (h.ok1 ho)).parts q hq).lens
  rw [slowL_flat (h.ok1 ho) cl l2, slowL_flat ho cl l1]
  rw [mx_perm (h.maps (fun j hj => ?_))]
  rw [h.task j hj, h.bes hj]
theorem Moved.ask (h : Moved s t σ τ) (cl : Int) : askersV t cl = askersV s cl := by
  unfold askersV
  rw [h.ok, askN_flat, askN_flat, tot_perm (h.maps (fun j hj => ?_))]
  rw [h.task j hj]
theorem Moved.out (h : Moved s t σ τ) {i : Nat} (hi : i < s.tasks.length) : outV t i = outV s (σ i : Nat) := by
  unfold outV
  simp only [Int.toNat_natCast]
  rw [h.there hi, h.task i hi]
  by_cases e : thereB s (σ i : Nat) = true ∧ maxL (s.tasks.getD (σ i) default).parts ≠ 0
  · rw [if_pos e, if_pos e, h.slow (thereB_true.1 e.1).1]
    unfold rndV coreAt
    rw [h.ask, h.cores]
  · rw [if_neg e, if_neg e]
theorem Moved.tok (h : Moved s t σ τ) {i : Nat} (hi : i < s.tasks.length) (p : Int) : tokV t i p = tokV s (σ i : Nat) p := by
  unfold tokV insV
  rw [h.fairK hi, h.part hi, h.bes hi, h.out hi]
theorem Moved.wait (h : Moved s t σ τ) (hb : Bounds s σ bs cs) {i : Nat} (hi : i < s.tasks.length) (p : Int) : waitV t cs i p = waitV s bs (σ i : Nat) p ∧ waitK t cs i p = waitK s bs (σ i : Nat) p := by
  have e := h.agent hb hi p
  unfold waitV waitK agentV agentK
  rw [h.proto, h.len, hb.1, hb.2.1, e, h.fair hi, h.fairK hi, h.tok hi]
  exact ⟨rfl, rfl⟩
theorem Moved.waits (h : Moved s t σ τ) (hb : Bounds s σ bs cs) {i : Nat} (hi : i < s.tasks.length) : waitsK t cs i = waitsK s bs (σ i : Nat) ∧ waitsL t cs i = waitsL s bs (σ i : Nat) := by
  have ew : pW t cs i = pW s bs (σ i : Nat) := by funext k; unfold pW; rw [h.part hi, (h.wait hb hi k).1]
  have ek : pK t cs i = pK s bs (σ i : Nat) := by funext k; unfold pK; rw [h.part hi, (h.wait hb hi k).2]
  have e1 : waitsK t cs i = waitsK s bs (σ i : Nat) := by unfold waitsK; rw [h.there hi, h.parts hi, ek]
  refine ⟨e1, ?_⟩
  unfold waitsL
  rw [e1, h.parts hi, ew]
theorem Moved.nn (h : Moved s t σ τ) (hb : Bounds s σ bs cs) : nnB cs = nnB bs := by
  have key : ∀ {s t : SetR} {σ τ : Nat → Nat} {bs cs : List Int}, Moved s t σ τ → Bounds s σ bs cs → nnB bs = true → nnB cs = true := fun {s t σ τ bs cs} h hb e => by
    refine nn_yes (fun k hk => ?_)
    rw [hb.2.1] at hk
    rw [hb.2.2 k hk]
    have hl := h.lt k hk
    exact nnB_true.1 e _ (by rw [← hb.1] at hl; simp [List.getD, hl])
  rw [Bool.eq_iff_iff]
  refine ⟨key h.symm ⟨by rw [h.len]; exact hb.2.1, by rw [h.len]; exact hb.1, fun i hi => ?_⟩, key h hb⟩
  rw [h.len] at hi
  rw [hb.2.2 _ (h.lt' i hi), h.forth i hi]
theorem Moved.each (h : Moved s t σ τ) {i j : Nat} (hi : i < s.tasks.length) (hj : j < s.tasks.length) : eachV t j i = eachV s (σ j : Nat) (σ i : Nat) := by
  unfold eachV atV
  rw [h.at hi, h.at hj, h.proto, h.srv hj]
theorem Moved.others (h : Moved s t σ τ) (hb : Bounds s σ bs cs) {i : Nat} (hi : i < s.tasks.length) (wd : Int) : othersV t cs i wd = othersV s bs (σ i : Nat) wd := by
  have e1 : othersB t cs i = othersB s bs (σ i : Nat) := by unfold othersB; rw [h.there hi, h.len, hb.1, hb.2.1]
  have e2 : othW t cs i wd 0 t.tasks = othW s bs (σ i : Nat) wd 0 s.tasks := by
    rw [othW_flat, othW_flat, tot_perm (h.maps (fun j hj => ?_))]
    rw [h.task j hj, hb.2.2 j hj, h.each hi hj]; simp only [h.num hj hi]
  unfold othersV
  rw [e1, e2, h.nn hb, h.at hi, h.cores]
theorem Moved.next (h : Moved s t σ τ) (hb : Bounds s σ bs cs) {i : Nat} (hi : i < s.tasks.length) : nextK t cs i = nextK s bs (σ i : Nat) ∧ nextV t cs i = nextV s bs (σ i : Nat) := by
  have e1 : nextK t cs i = nextK s bs (σ i : Nat) := by unfold nextK; rw [(h.waits hb hi).1, h.len, hb.1, hb.2.1]
  refine ⟨e1, ?_⟩
  unfold nextV ownV
  simp only [Int.toNat_natCast]
  rw [e1, (h.waits hb hi).1, (h.waits hb hi).2, h.at hi, hb.2.2 i hi, h.others hb hi]
theorem Moved.upTo (h : Moved s t σ τ) {p q : Nat → Bool} (hp : ∀ i, i < s.tasks.length → p i = q (σ i)) : upTo p s.tasks.length = upTo q s.tasks.length := by
  rw [Bool.eq_iff_iff, upTo_iff, upTo_iff]
  constructor
  · intro H k hk
    have := H _ (h.lt' k hk)
    rwa [hp _ (h.lt' k hk), h.forth k hk] at this
  · intro H k hk
    rw [hp k hk]; exact H _ (h.lt k hk)
theorem Moved.round (h : Moved s t σ τ) (hb : Bounds s σ bs cs) : roundB t cs = roundB s bs := by
  unfold roundB
  rw [h.len]
  refine h.upTo (fun i hi => ?_)
  unfold stepB
  rw [(h.next hb hi).1, (h.next hb hi).2, h.task i hi]
theorem row_at (s : SetR) (bs : List Int) {i : Nat} (hi : i < s.tasks.length) : (nextRow s bs).getD i 0 = nextV s bs i := by
  unfold nextRow
  simp [List.getD, hi]
theorem Moved.row (h : Moved s t σ τ) (hb : Bounds s σ bs cs) : Bounds s σ (nextRow s bs) (nextRow t cs) :=
  ⟨nextRow_len _ _, by rw [nextRow_len, h.len], fun i hi => by rw [row_at t cs (by rw [h.len]; exact hi), row_at s bs (h.lt i hi), (h.next hb hi).2]⟩
theorem rows_eq {a b : List Int} {n : Nat} (ha : a.length = n) (hb : b.length = n) (h : ∀ i, i < n → a.getD i 0 = b.getD i 0) : a = b := by
  refine List.ext_getElem (by rw [ha, hb]) (fun i h1 h2 => ?_)
  have := h i (by omega)
  simpa [List.getD, h1, h2] using this
theorem Moved.rest (h : Moved s t σ τ) (hb : Bounds s σ bs cs) : (nextRow t cs = cs) ↔ (nextRow s bs = bs) := by
  have hr := h.row hb
  constructor
  · intro e
    refine rows_eq hr.1 hb.1 (fun i hi => ?_)
    have h1 := hr.2.2 _ (h.lt' i hi)
    have h2 := hb.2.2 _ (h.lt' i hi)
    rw [h.forth i hi] at h1 h2
    rw [← h1, ← h2, e]
  · intro e
    refine rows_eq hr.2.1 hb.2.1 (fun i hi => ?_)
    rw [hr.2.2 i hi, hb.2.2 i hi, e]
theorem Moved.set (h : Moved s t σ τ) (n : Nat) : ∀ bs cs : List Int, Bounds s σ bs cs → (setL t n cs).2 = (setL s n bs).2 ∧ ((setL s n bs).2 = 0 → Bounds s σ (setL s n bs).1 (setL t n cs).1) := by
  induction n with
  | zero => intro bs cs hb; exact ⟨rfl, fun e => by simp [setL] at e⟩
  | succ n ih =>
    intro bs cs hb
    rw [setL_succ, setL_succ, h.round hb]
    by_cases e : roundB s bs = true
    · rw [if_pos e, if_pos e]
      by_cases e2 : nextRow s bs = bs
      · rw [if_pos e2, if_pos ((h.rest hb).2 e2)]
        exact ⟨rfl, fun _ => hb⟩
      · rw [if_neg e2, if_neg (fun x => e2 ((h.rest hb).1 x))]
        exact ih _ _ (h.row hb)
    · rw [if_neg e, if_neg e]
      exact ⟨rfl, fun x => by simp at x⟩
theorem Moved.soon (h : Moved s t σ τ) : Bounds s σ (soonL s) (soonL t) :=
  ⟨soonL_len s, by rw [soonL_len, h.len], fun i hi => by
    have e : ∀ (u : SetR) (j : Nat), j < u.tasks.length → (soonL u).getD j 0 = allK (u.tasks.getD j default).parts := fun u j hj => by unfold soonL; simp [List.getD, hj]
    rw [e t i (by rw [h.len]; exact hi), e s _ (h.lt i hi), h.task i hi]⟩
/-- what is told of a set whose tasks stand otherwise -/
theorem Moved.told (h : Moved s t σ τ) : ((anE t = 0) = (anE s = 0)) ∧ (okS s = true → anE t = anE s) ∧ (anE s = 0 → Bounds s σ (anB s) (anB t)) := by
  obtain ⟨h1, h2⟩ := h.set 200 _ _ h.soon
  have hE : ∀ u : SetR, okS u = true → anE u = (settle u).2 := fun u hu => by unfold anE; rw [if_pos ((okS_chk u).1 hu)]
  have e : okS s = true → anE t = anE s := fun ho => by rw [hE t (h.ok1 ho), hE s ho]; exact h1
  refine ⟨?_, e, fun h0 => ?_⟩
  · by_cases ho : okS s = true
    · rw [e ho]
    · have n1 : ¬ anE s = 0 := fun x => ho (anE_zero x).1
      have n2 : ¬ anE t = 0 := fun x => ho (by rw [← h.ok]; exact (anE_zero x).1)
      simp [n1, n2]
  · have ho := (anE_zero h0).1
    have h0' : anE t = 0 := by rw [e ho]; exact h0
    rw [(anB_rest h0).1, (anB_rest h0').1]
    exact h2 (anE_zero h0).2
/-- turned round -/
theorem moved_turn {s t : SetR} {k : Nat} (h1 : t.proto = s.proto) (h2 : t.cores = s.cores) (h3 : t.homes = s.homes) (h4 : t.tasks = s.tasks.drop k ++ s.tasks.take k) (hk : k < s.tasks.length) : Moved s t (fun i => (i + k) % s.tasks.length) (fun i => (i + (s.tasks.length - k)) % s.tasks.length) := by
  have hn : 0 < s.tasks.length := by omega
  refine ⟨h1, h2, h3, by rw [h4]; simp; omega, fun i hi => ?_, fun i _ => Nat.mod_lt _ hn, fun i _ => Nat.mod_lt _ hn, fun i hi => ?_, fun i hi => ?_⟩
  · rw [h4]
    rcases Nat.lt_or_ge (i + k) s.tasks.length with h | h
    · rw [Nat.mod_eq_of_lt h]
      simp only [List.getD, List.getElem?_append, List.length_drop]
      rw [if_pos (by omega), List.getElem?_drop, Nat.add_comm k i]
    · have e : (i + k) % s.tasks.length = i + k - s.tasks.length := by
        rw [Nat.mod_eq_sub_mod h, Nat.mod_eq_of_lt (by omega)]
      rw [e]
      simp only [List.getD, List.getElem?_append, List.length_drop]
      rw [if_neg (by omega), List.getElem?_take, if_pos (by omega), show i - (s.tasks.length - k) = i + k - s.tasks.length by omega]
  · rcases Nat.lt_or_ge (i + k) s.tasks.length with h | h
    · rw [Nat.mod_eq_of_lt h, show i + k + (s.tasks.length - k) = i + s.tasks.length by omega, Nat.add_mod_right, Nat.mod_eq_of_lt hi]
    · have e : (i + k) % s.tasks.length = i + k - s.tasks.length := by
        rw [Nat.mod_eq_sub_mod h, Nat.mod_eq_of_lt (by omega)]
      rw [e, show i + k - s.tasks.length + (s.tasks.length - k) = i by omega, Nat.mod_eq_of_lt hi]
  · rcases Nat.lt_or_ge i k with h | h
    · rw [Nat.mod_eq_of_lt (show i + (s.tasks.length - k) < s.tasks.length by omega), show i + (s.tasks.length - k) + k = i + s.tasks.length by omega, Nat.add_mod_right, Nat.mod_eq_of_lt hi]
    · have e : (i + (s.tasks.length - k)) % s.tasks.length = i - k := by
        rw [Nat.mod_eq_sub_mod (by omega), show i + (s.tasks.length - k) - s.tasks.length = i - k by omega, Nat.mod_eq_of_lt (by omega)]
      rw [e, show i - k + k = i by omega, Nat.mod_eq_of_lt hi]
end
end Go.Proofs.YtjjlpaampmpdfaaGreatDoor

namespace Go.Proofs.YtjjlpaampmpdfaaGreatDoor
open Go.ChangeShapes Go.WideShapes Go.ChangeAt Go.RowKit
set_option linter.unusedVariables false
set_option linter.unusedSimpArgs false
theorem strict_uniq {α : Type} (key : α → Int) : ∀ (a b : List α), a.Perm b → a.Pairwise (fun x y => key x < key y) → b.Pairwise (fun x y => key x < key y) → a = b
  | [], b, h, _, _ => (List.Perm.nil_eq h)
  | x :: a, [], h, _, _ => absurd h.length_eq (by simp)
  | x :: a, y :: b, h, ha, hb => by
    have h1 := List.pairwise_cons.1 ha
    have h2 := List.pairwise_cons.1 hb
    have e : x = y := by
      have m1 : x ∈ y :: b := h.mem_iff.1 (by simp)
      have m2 : y ∈ x :: a := h.mem_iff.2 (by simp)
      rcases List.mem_cons.1 m1 with e | m1
      · exact e
      · rcases List.mem_cons.1 m2 with e | m2
        · exact e.symm
        · have := h2.1 x m1; have := h1.1 y m2; omega
    subst e
    rw [strict_uniq key a b (List.Perm.cons_inv h) h1.2 h2.2]
/-- the tasks of these numbers, besides where their parts lie -/
def prioAt (s : SetR) (z : Int) : Int := (s.tasks.getD z.toNat default).prio
theorem ord_strict {s : SetR} (ho : okS s = true) : (ordL s.tasks).Pairwise (fun x y => prioAt s x < prioAt s y) := by
  have hs := isort_srt (its s.tasks)
  have hp := ordL_perm s.tasks
  have hnd : (ordL s.tasks).Nodup := hp.nodup_iff.2 (by
    rw [List.nodup_iff_pairwise_ne, List.pairwise_map]
    exact (List.nodup_iff_pairwise_ne.1 List.nodup_range).imp (fun h e => h (by omega)))
  rw [List.pairwise_iff_getElem]
  intro i j hi hj hij
  have hi2 : i < (isort (its s.tasks)).length := by simpa [ordL] using hi
  have hj2 : j < (isort (its s.tasks)).length := by simpa [ordL] using hj
  have h1 := (List.pairwise_iff_getElem.1 hs) i j hi2 hj2 hij
  obtain ⟨a, ha, e1⟩ := its_in ((isort_perm (its s.tasks)).mem_iff.1 (List.getElem_mem hi2))
  obtain ⟨b, hb, e2⟩ := its_in ((isort_perm (its s.tasks)).mem_iff.1 (List.getElem_mem hj2))
  have g1 : (ordL s.tasks)[i] = (a : Int) := by simp only [ordL, List.getElem_map, e1]
  have g2 : (ordL s.tasks)[j] = (b : Int) := by simp only [ordL, List.getElem_map, e2]
  have hne : (ordL s.tasks)[i] ≠ (ordL s.tasks)[j] := (List.pairwise_iff_getElem.1 (List.nodup_iff_pairwise_ne.1 hnd)) i j hi hj hij
  rw [g1, g2] at hne ⊢
  rw [e1, e2] at h1
  unfold prioAt
  rw [Int.toNat_natCast, Int.toNat_natCast]
  have h2 := prio_ne ho ha hb (fun e => hne (by rw [e]))
  dsimp only at h1
  omega
theorem moved_ord {s t : SetR} {σ τ : Nat → Nat} (h : Moved s t σ τ) (ho : okS s = true) : (ordL t.tasks).map (fun z => ((σ z.toNat : Nat) : Int)) = ordL s.tasks := by
  have ht : okS t = true := h.ok1 ho
  refine strict_uniq (prioAt s) _ _ ?_ ?_ (ord_strict ho)
  · refine ((ordL_perm t.tasks).map _).trans (List.Perm.trans ?_ (ordL_perm s.tasks).symm)
    rw [List.map_map, h.len]
    have e : ((fun z : Int => ((σ z.toNat : Nat) : Int)) ∘ fun i : Nat => (i : Int)) = (fun i : Nat => (i : Int)) ∘ σ := by funext i; simp
    rw [e, ← List.map_map]
    exact h.perm.map _
  · rw [List.pairwise_map]
    refine ((ord_strict ht).imp_of_mem fun {a b} ha hb hlt => ?_)
    have h1 := ordL_in ha
    have h2 := ordL_in hb
    have hl := h.len
    unfold prioAt at hlt ⊢
    rw [Int.toNat_natCast, Int.toNat_natCast]
    rw [h.task _ (by omega), h.task _ (by omega)] at hlt
    exact hlt
theorem moved_rep {s t : SetR} {σ τ : Nat → Nat} (h : Moved s t σ τ) (ho : okS s = true) : repV t = repV s ∧ repE t = repE s := by
  obtain ⟨h1, h2, h3⟩ := h.told
  have hE := h2 ho
  refine ⟨?_, by unfold repE; rw [hE]⟩
  unfold repV
  rw [hE]
  by_cases e : anE s = 0
  · rw [if_pos e, if_pos e]
    have hb := h3 e
    have et : anE t = 0 := hE.trans e
    have s1 := anB_rest e
    have t1 := anB_rest et
    have ws : anW s = (List.range s.tasks.length).map (fun i : Nat => waitsL s (settle s).1 i) := by unfold anW; rw [if_pos e]
    have wt : anW t = (List.range t.tasks.length).map (fun i : Nat => waitsL t (settle t).1 i) := by unfold anW; rw [if_pos et]
    unfold repL
    congr 1
    rw [← moved_ord h ho, List.map_map]
    refine List.map_congr_left (fun z hz => ?_)
    have hz1 := ordL_in hz
    rw [h.len] at hz1
    obtain ⟨j, rfl⟩ : ∃ j : Nat, z = (j : Int) := ⟨z.toNat, by omega⟩
    have hj : j < s.tasks.length := by omega
    simp only [Function.comp, Int.toNat_natCast]
    have q1 : t.tasks.getD j default = s.tasks.getD (σ j) default := h.task j hj
    have q2 : (anB t).getD j 0 = (anB s).getD (σ j) 0 := hb.2.2 j hj
    have q3 : (anW t).getD j [] = (anW s).getD (σ j) [] := by
      have hjt : j < t.tasks.length := by rw [h.len]; exact hj
      have hσ := h.lt j hj
      rw [ws, wt]
      have a1 : ((List.range t.tasks.length).map (fun i : Nat => waitsL t (settle t).1 i)).getD j [] = waitsL t (settle t).1 j := by simp [List.getD, hjt]
      have a2 : ((List.range s.tasks.length).map (fun i : Nat => waitsL s (settle s).1 i)).getD (σ j) [] = waitsL s (settle s).1 (σ j : Nat) := by simp [List.getD, hσ]
      rw [a1, a2, ← s1.1, ← t1.1]
      exact (h.waits hb hj).2
    unfold lineR wordsR
    rw [q1, q2, q3]
  · rw [if_neg e, if_neg e]
end Go.Proofs.YtjjlpaampmpdfaaGreatDoor

namespace Go.Proofs.YtjjlpaampmpdfaaGreatDoor
open Go.ChangeShapes Go.WideShapes Go.ChangeAt Go.RowKit
set_option linter.unusedVariables false
def FewQ19 (w : World) (s : SetR) (e : Ending) (w' : World) : Prop := (∃ b : Bool, e = .returned (.bool b) ∧ (b = true → FewS s ∧ s.tasks.length ≤ 9)) ∧ Below w.heap.size w w'
set_option maxRecDepth 100000 in
theorem fews19_any (s : SetR) (w : World) (hs : SetOk w s) : Calls Tryz.prog 8 #[.agg #[.int .i64 s.proto, .slice s.ca s.cores.length s.cc, .slice s.ha s.homes.length s.hc, .slice s.ta s.tasks.length s.tc]] w (FewQ19 w s) := by
  have hb := (Below.refl w.heap.size w).alloc (Nat.le_refl _) (.cells #[.int .i64 s.proto, .slice s.ca s.cores.length s.cc, .slice s.ha s.homes.length s.hc, .slice s.ta s.tasks.length s.tc] 25)
  have CB := hidp (SetCells.new w s 25)
  have l1 : s.tasks.length ≤ maxLen := Nat.le_trans hs.tasks.sl.2.1 hs.tasks.sl.2.2
  have l2 : s.cores.length ≤ maxLen := Nat.le_trans hs.cores.sl.2.1 hs.cores.sl.2.2
  have l3 : s.homes.length ≤ maxLen := Nat.le_trans hs.homes.sl.2.1 hs.homes.sl.2.2
  unfold maxLen at l1 l2 l3
  have HR := hidp hs.tasks.at_
  have Hok := hidp hs.tasks.ok
  clear hs
  obtain ⟨proto, ca, cc, cores, ha, hc, homes, ta, tc, tasks⟩ := s
  dsimp only at HR Hok l1 l2 l3 hb ⊢
  have F : ∀ w', Below w.heap.size w w' → FewQ19 w ⟨proto, ca, cc, cores, ha, hc, homes, ta, tc, tasks⟩ (.returned (.bool false)) w' := fun w' h => ⟨⟨false, rfl, fun e => by cases e⟩, h⟩
  have HF := hidp F
  clear F
  have hc0 : (8 : Int) < (cores.length : Int) ∨ ¬ (8 : Int) < (cores.length : Int) ∧ (10 : Int) < (homes.length : Int) ∨ ¬ (8 : Int) < (cores.length : Int) ∧ ¬ (10 : Int) < (homes.length : Int) ∧ (9 : Int) < (tasks.length : Int) ∨ ¬ (8 : Int) < (cores.length : Int) ∧ ¬ (10 : Int) < (homes.length : Int) ∧ ¬ (9 : Int) < (tasks.length : Int) := by omega
  rcases hc0 with h | ⟨h, g⟩ | ⟨h, g, f⟩ | ⟨h, g, f⟩
  · go_enter Tryz.func8, Tryz.ntmps8
    go_wp2
    go_ret
    exact HF.out _ hb
  · go_enter Tryz.func8, Tryz.ntmps8
    go_wp2
    go_ret
    exact HF.out _ hb
  · go_enter Tryz.func8, Tryz.ntmps8
    go_wp2
    go_ret
    exact HF.out _ hb
  · go_enter Tryz.func8, Tryz.ntmps8
    go_wp2
    go_loopg [3] tasks.length (fun gg i wr => ∃ k : Nat, k + gg = tasks.length ∧ i = .int .i64 k ∧ SetCells wr w.heap.size ⟨proto, ca, cc, cores, ha, hc, homes, ta, tc, tasks⟩ ∧ Below w.heap.size w wr ∧ Hid (∀ j, j < k → (tasks.getD j default).parts.length ≤ 10))
    case atStart => exact ⟨0, by omega, rfl, CB.out, hb, hidp (by omega)⟩
    case round =>
      obtain ⟨k, hk, rfl, sc, hw, Hj⟩ := hrel
      have sc2 := sc
      obtain ⟨c0, c1, c2, c3⟩ := sc2
      dsimp only at c0 c1 c2 c3
      by_cases hlt : k < tasks.length
      · obtain ⟨g0, off, hA, hcl⟩ := HR.out.resolve_left (by intro e; rw [e] at hlt; simp at hlt)
        subst hA
        obtain ⟨t, HT⟩ : ∃ t, Hid (tasks.getD k default = t) := ⟨_, rfl⟩
        have tcl := (HT.out ▸ hcl k hlt).keep (Keeps.of_below hw)
        obtain ⟨d0, _, _, _, _, d5⟩ := tcl
        have hok := Hok.out t (HT.out ▸ getD_mem hlt)
        have n1 := hok.name
        have n2 : t.parts.length ≤ maxLen := Nat.le_trans hok.sl.2.1 hok.sl.2.2
        unfold maxLen at n1 n2
        clear hcl hok
        by_cases z1 : (20 : Int) < (t.name.size : Int)
        · go_wp2
          go_ret
          exact HF.out _ hw
        · by_cases z2 : (10 : Int) < (t.parts.length : Int)
          · go_wp2
            go_ret
            exact HF.out _ hw
          · have Hj2 : Hid (∀ j, j < k + 1 → (tasks.getD j default).parts.length ≤ 10) := hidp (by
              intro j hj
              by_cases e : j = k
              · subst e; rw [HT.out]; omega
              · exact Hj.out j (by omega))
            go_wp2
            go_roundg (gk - 1)
            case measure => omega
            case rel => exact ⟨k + 1, by omega, by go_num, sc, hw, Hj2⟩
      · have hk2 : k = tasks.length := by omega
        have HQ : Hid (FewS ⟨proto, ca, cc, cores, ha, hc, homes, ta, tc, tasks⟩ ∧ tasks.length ≤ 9) := hidp (by
          refine ⟨⟨by dsimp only; omega, by dsimp only; omega, by dsimp only; omega, fun t ht => ?_⟩, by omega⟩
          obtain ⟨j, hj, rfl⟩ := mem_getD ht
          dsimp only at hj
          have := Hj.out j (by omega)
          dsimp only
          omega)
        go_wp2
        go_ret
        exact ⟨⟨true, rfl, fun _ => HQ.out⟩, hw⟩

end Go.Proofs.YtjjlpaampmpdfaaGreatDoor

set_option linter.unusedSimpArgs false
set_option linter.unusedVariables false
namespace Go.Proofs.YtjjlpaampmpdfaaGreatDoor
open Go.ChangeShapes Go.WideShapes Go.ChangeAt Go.RowKit
theorem drop_lies {w : World} {g o : Nat} {ts : List TaskR} (h : TasksAt w (some ⟨g, o, none⟩) ts) (k : Nat) : TasksAt w (some ⟨g, o + k * 6, none⟩) (ts.drop k) := by
  by_cases hk : k < ts.length
  · obtain ⟨b, off, e, hc⟩ := h.resolve_left (by intro e; rw [e] at hk; simp at hk)
    cases e
    refine .inr ⟨g, o + k * 6, rfl, fun i hi => ?_⟩
    rw [List.length_drop] at hi
    have := hc (k + i) (by omega)
    rw [show o + (k + i) * 6 = o + k * 6 + i * 6 by omega] at this
    have e2 : (ts.drop k).getD i default = ts.getD (k + i) default := by simp [List.getD, List.getElem?_drop]
    rw [e2]; exact this
  · exact .inl (List.drop_eq_nil_of_le (by omega))
theorem take_lies {w : World} {a : Option Addr} {ts : List TaskR} (h : TasksAt w a ts) (k : Nat) : TasksAt w a (ts.take k) := by
  rcases h with h | ⟨b, off, e, hc⟩
  · exact .inl (by rw [h]; simp)
  · refine .inr ⟨b, off, e, fun i hi => ?_⟩
    rw [List.length_take] at hi
    have e2 : (ts.take k).getD i default = ts.getD i default := by simp [List.getD, List.getElem?_take, show i < k by omega]
    rw [e2]; exact hc i (by omega)
theorem keeps_of {B : Nat} {w w' : World} (h : Below B w w') (hB : w.heap.size = B) : Keeps w w' := by subst hB; exact Keeps.of_below h
theorem strL_head {B : Nat} {w : World} {A : Option Addr} {n c : Nat} {x : Bts} {L : List Bts} (h : StrL B w A n c (x :: L)) : ∃ b off, A = some ⟨b, off, none⟩ ∧ w.cell? ⟨b, off, none⟩ = some (.string (mkB x)) := by
  obtain ⟨ls, h1, h2, _⟩ := h
  cases ls with
  | nil => simp at h2
  | cons y ys =>
    obtain ⟨b, off, e, hc⟩ := h1.at_.resolve_left (by simp)
    have := hc 0 (by simp)
    have hy : bl y = x := by simpa using (List.cons.inj h2).1
    refine ⟨b, off, e, ?_⟩
    rw [← hy, mk_bl]
    simpa using this
/-- what is reported of a set that may be -/
theorem rep_ok {s : SetR} (ho : okS s = true) : repE s = 0 ∧ (repV s = repL s ∨ repV s = [wLate] ∨ repV s = [wUnk]) := by
  have h1 : anE s = 0 ∨ anE s = 19 ∨ anE s = 20 := by
    unfold anE
    rw [if_pos ((okS_chk s).1 ho)]
    exact setL_err _ _ _
  refine ⟨by unfold repE; rw [if_pos h1], ?_⟩
  unfold repV
  rcases h1 with h | h | h
  · rw [if_pos h]; exact .inl rfl
  · rw [if_neg (by omega), if_pos h]; exact .inr (.inl rfl)
  · rw [if_neg (by omega), if_neg (by omega), if_pos h]; exact .inr (.inr rfl)
end Go.Proofs.YtjjlpaampmpdfaaGreatDoor
set_option maxHeartbeats 16000000
set_option maxRecDepth 100000
namespace Go.Proofs.YtjjlpaampmpdfaaGreatDoor.reportTurns
open Go.ChangeShapes Go.WideShapes Go.ChangeAt Go.RowKit
open Go.ChangeMaps (open_string shut_string)
set_option linter.unusedVariables false

/-- THE WALK: the Go text returns true, and writes nothing that was there. -/
theorem walk (s0 : SetR) (a1 : Int) (w : World) (w0 : SetOk w s0) (w1 : (Lit.int .u8 a1).wf = true) (hTab : Go.Lib.TabIs Tryz.prog w "internal/strconv.uint64pow10" .u64 Go.Lib.pow10Tab) :
    Calls Tryz.prog 4 #[.agg #[.int .i64 s0.proto, .slice s0.ca s0.cores.length s0.cc, .slice s0.ha s0.homes.length s0.hc, .slice s0.ta s0.tasks.length s0.tc], .int .u8 a1] w fun e w' => e = .returned (.bool true) ∧ Below w.heap.size w w' := by
  have HT : Hid (∀ u, Below w.heap.size w u → Tab u) := hidp (fun u hu => Tab.over (show Tab w from hTab) hu)
  have hb := (Below.refl w.heap.size w).alloc (Nat.le_refl _) (.cells #[.int .i64 s0.proto, .slice s0.ca s0.cores.length s0.cc, .slice s0.ha s0.homes.length s0.hc, .slice s0.ta s0.tasks.length s0.tc] 25)
  have sc := SetCells.new w s0 25
  have hs := w0.keep (Keeps.of_below hb)
  obtain ⟨wh, hn⟩ : ∃ n : Nat, a1 = n := nat_u8 w1
  have wh255 : wh ≤ 255 := u8_le w1 hn
  subst hn
  clear w0 w1 hTab
  obtain ⟨j0, hj0, hk0, hk1, hk2⟩ := info_parts infoTask
  have htl : s0.tasks.length ≤ maxLen := Nat.le_trans hs.tasks.sl.2.1 hs.tasks.sl.2.2
  unfold maxLen at htl
  obtain ⟨proto, ca, cc, cores, ha, hc, homes, ta, tc, tasks⟩ := s0
  dsimp only at hb sc hs htl ⊢
  go_enter Tryz.func4, Tryz.ntmps4
  go_wp2_with fail
  refine (known19_any _ (fun x hx => HT.out x (hb.trans (hx.mono hb.size)))).mono ?_
  rintro e u1 ⟨rfl, hb2⟩
  replace hb := hb.trans (hb2.mono hb.size)
  replace sc := sc.keep (Keeps.of_below hb2)
  replace hs := hs.keep (Keeps.of_below hb2)
  clear hb2
  try clear sc_0 sc_1 sc_2 sc_3
  have scx := sc
  obtain ⟨sc_0, sc_1, sc_2, sc_3⟩ := scx
  try dsimp only at sc_0 sc_1 sc_2 sc_3
  go_wp2_with fail
  refine (fews19_any _ _ hs).mono ?_
  rintro e u1 ⟨⟨b, rfl, h9⟩, hb2⟩
  replace hb := hb.trans (hb2.mono hb.size)
  replace sc := sc.keep (Keeps.of_below hb2)
  replace hs := hs.keep (Keeps.of_below hb2)
  clear hb2
  try clear sc_0 sc_1 sc_2 sc_3
  have scx := sc
  obtain ⟨sc_0, sc_1, sc_2, sc_3⟩ := scx
  try dsimp only at sc_0 sc_1 sc_2 sc_3
  cases b
  · go_wp2_with fail
    go_ret
    exact ⟨rfl, hb⟩
  have n9 : tasks.length ≤ 9 := (h9 rfl).2
  clear h9
  go_wp2_with fail
  refine (rok_any _ _ hs).mono ?_
  rintro e u2 ⟨rfl, hb2⟩
  replace hb := hb.trans (hb2.mono hb.size)
  replace sc := sc.keep (Keeps.of_below hb2)
  replace hs := hs.keep (Keeps.of_below hb2)
  clear hb2
  try clear sc_0 sc_1 sc_2 sc_3
  have scx := sc
  obtain ⟨sc_0, sc_1, sc_2, sc_3⟩ := scx
  try dsimp only at sc_0 sc_1 sc_2 sc_3
  obtain ⟨ok, Hok⟩ : ∃ b, Hid (okS ⟨proto, ca, cc, cores, ha, hc, homes, ta, tc, tasks⟩ = b) := ⟨_, hidp rfl⟩
  rw [Hok.out]
  cases ok
  · go_wp2_with fail
    go_ret
    exact ⟨rfl, hb⟩
  have hz : ¬ tasks.length = 0 := by have := (Good.of Hok.out).ntasks.1; dsimp only at this; omega
  obtain ⟨kk, hkk⟩ : ∃ kk, wh % tasks.length = kk := ⟨_, rfl⟩
  have hkl : kk < tasks.length := by rw [← hkk]; exact Nat.mod_lt _ (by omega)
  have ht1 : (wh : Int).tmod (tasks.length : Int) = (kk : Int) := by rw [Int.tmod_eq_emod_of_nonneg (by omega), ← hkk]; simp
  have hzI : ¬ (tasks.length : Int) = 0 := by omega
  obtain ⟨gt, ot, hTA, _⟩ := hs.tasks.at_.resolve_left (by intro e; dsimp only at e; rw [e] at hz; simp at hz)
  dsimp only at hTA
  subst hTA
  have htc : tasks.length ≤ tc ∧ tc ≤ maxLen := hs.tasks.sl.2
  unfold maxLen at htc
  obtain ⟨tc0, tc1⟩ := htc
  have hwwh : IntKind.i64.wrap (wh : Int) = (wh : Int) := IntWalk.i64_in _ (by omega)
  clear hkk
  have kv := Keeps.alloc u2 (.cells #[.int .i64 proto, .slice ca cores.length cc, .slice ha homes.length hc, .slice (some ⟨gt, ot, none⟩) tasks.length tc] 25)
  have Bt := Bk.new u2 25 #[.int .i64 proto, .slice ca cores.length cc, .slice ha homes.length hc, .slice (some ⟨gt, ot, none⟩) tasks.length tc]
  have hbv := hb.alloc hb.size (.cells #[.int .i64 proto, .slice ca cores.length cc, .slice ha homes.length hc, .slice (some ⟨gt, ot, none⟩) tasks.length tc] 25)
  have hsz := cell_lt sc.1
  have hsv := hs.keep kv
  have scv := sc.keep kv
  have hwh : w.heap.size ≤ u2.heap.size := hb.size
  have hlt0 : u2.heap.size < (u2.alloc (.cells #[.int .i64 proto, .slice ca cores.length cc, .slice ha homes.length hc, .slice (some ⟨gt, ot, none⟩) tasks.length tc] 25)).heap.size := by simp
  have HS2 := hidp hs
  have SC2 := hidp sc
  have HBW := hidp hb
  have hbu0 := (Below.refl u2.heap.size u2).alloc (Nat.le_refl _) (.cells #[.int .i64 proto, .slice ca cores.length cc, .slice ha homes.length hc, .slice (some ⟨gt, ot, none⟩) tasks.length tc] 25)
  go_wp2_with fail
  obtain ⟨v, hv⟩ : ∃ v, u2.alloc (.cells #[.int .i64 proto, .slice ca cores.length cc, .slice ha homes.length hc, .slice (some ⟨gt, ot, none⟩) tasks.length tc] 25) = v := ⟨_, rfl⟩
  rw [hv] at kv Bt hbv hsv scv hlt0 hbu0 ⊢
  obtain ⟨B, hB⟩ : ∃ B, u2.heap.size = B := ⟨_, rfl⟩
  rw [hB] at Bt hsz hwh hlt0 hbu0 ⊢
  have HBe := hidp hB
  clear hv hB kv hs sc hb sc_0 sc_1 sc_2 sc_3
  have scd := scv.keep (Keeps.drew v)
  have s3 := scd.2.2.2
  dsimp only at s3
  have Btd : Bk v.drew B 25 #[.int .i64 proto, .slice ca cores.length cc, .slice ha homes.length hc, .slice (some ⟨gt, ot, none⟩) tasks.length tc] := Bt
  have hsd := hsv.keep (Keeps.drew v)
  have Q1 : Hid ((some ⟨gt, ot + kk * 6, none⟩ : Option Addr) = none → tasks.length - kk = 0 ∧ tc - kk = 0) := hidp (fun e => by cases e)
  have L1 : Hid ((ttc (tasks.drop kk)).length = (tasks.length - kk) * 6) := hidp (by rw [ttc_len, List.length_drop])
  have S1 : Hid (Lies v.drew.heap.size v.drew (some ⟨gt, ot + kk * 6, none⟩) (ttc (tasks.drop kk))) := hidp (lies_tasks (drop_lies hsd.tasks.at_ kk))
  have O1 := hidp (ttc_one (tasks.drop kk))
  have Q2 : Hid ((some ⟨gt, ot, none⟩ : Option Addr) = none → kk = 0 ∧ tc = 0) := hidp (fun e => by cases e)
  have L2 : Hid ((ttc (tasks.take kk)).length = kk * 6) := hidp (by rw [ttc_len, List.length_take, Nat.min_eq_left (Nat.le_of_lt hkl)])
  have S2' : Hid (∀ u : World, Keeps v.drew u → Lies u.heap.size u (some ⟨gt, ot, none⟩) (ttc (tasks.take kk))) := hidp (fun u hk => lies_tasks ((take_lies hsd.tasks.at_ kk).keep hk))
  have O2 := hidp (ttc_one (tasks.take kk))
  have N1 : Hid (0 + (tasks.length - kk) ≤ maxLen) := hidp (by unfold maxLen; omega)
  have T1 : Hid ((0 + (tasks.length - kk)) * 72 ≤ 140737488355328) := hidp (by omega)
  refine wp_region_held_drew (S := fun w' => w'.cell? ⟨w.heap.size, 3, none⟩ = some (.slice (some ⟨gt, ot, none⟩) tasks.length tc)) (by kernel_rfl) ?_ (fun hHeld => ?_)
  · exact s3
  have hkle : kk ≤ tasks.length := Nat.le_of_lt hkl
  have hkt : ¬ tc = kk := by omega
  have hkc : kk ≤ tc := by omega
  refine wpAnyH_take (i := 0) (v := ?_) rfl (by kernel_rfl) (by kernel_rfl) (by kernel_rfl) (fun _ _ _ h => h) (Or.inl ⟨by rfl, ?_⟩) (by assumption) ?_
  rotate_left 1
  · ((intro w hSw; (try dsimp only at hSw); go_simp); (try with_reducible rfl))
  simp only [Act.put, List.setIfInBounds_toArray, List.set_cons_zero, List.set_cons_succ, List.getElem_toArray, List.getElem_cons_zero, List.getElem_cons_succ]
  refine wpAnyH_take (i := 1) (v := ?_) rfl (by kernel_rfl) (by kernel_rfl) (by kernel_rfl) (fun _ _ _ h => h) (Or.inl ⟨by rfl, ?_⟩) (by assumption) ?_
  rotate_left 1
  · ((intro w hSw; (try dsimp only at hSw); go_simp); (try with_reducible rfl))
  simp only [Act.put, List.setIfInBounds_toArray, List.set_cons_zero, List.set_cons_succ, List.getElem_toArray, List.getElem_cons_zero, List.getElem_cons_succ]
  refine wpAnyH_take (i := 2) (v := ?_) rfl (by kernel_rfl) (by kernel_rfl) (by kernel_rfl) (fun _ _ _ h => h) (Or.inl ⟨by rfl, ?_⟩) (by assumption) ?_
  rotate_left 1
  · ((intro w hSw; (try dsimp only at hSw); go_simp); (try with_reducible rfl))
  simp only [Act.put, List.setIfInBounds_toArray, List.set_cons_zero, List.set_cons_succ, List.getElem_toArray, List.getElem_cons_zero, List.getElem_cons_succ]
  refine wpAnyH_take (i := 5) (v := ?_) rfl (by kernel_rfl) (by kernel_rfl) (by kernel_rfl) (fun _ _ _ h => h) (Or.inl ⟨by rfl, ?_⟩) (by assumption) ?_
  rotate_left 1
  · ((intro w hSw; (try dsimp only at hSw); go_simp); (try with_reducible rfl))
  simp only [Act.put, List.setIfInBounds_toArray, List.set_cons_zero, List.set_cons_succ, List.getElem_toArray, List.getElem_cons_zero, List.getElem_cons_succ]
  refine wpAnyH_take (i := 6) (v := ?_) rfl (by kernel_rfl) (by kernel_rfl) (by kernel_rfl) (fun _ _ _ h => h) (Or.inl ⟨by rfl, ?_⟩) (by assumption) ?_
  rotate_left 1
  · ((intro w hSw; (try dsimp only at hSw); go_simp); (try with_reducible rfl))
  simp only [Act.put, List.setIfInBounds_toArray, List.set_cons_zero, List.set_cons_succ, List.getElem_toArray, List.getElem_cons_zero, List.getElem_cons_succ]
  refine wpAnyH_take (i := 7) (v := ?_) rfl (by kernel_rfl) (by kernel_rfl) (by kernel_rfl) (fun _ _ _ h => h) (Or.inl ⟨by rfl, ?_⟩) (by assumption) ?_
  rotate_left 1
  · ((intro w hSw; (try dsimp only at hSw); go_simp); (try with_reducible rfl))
  simp only [Act.put, List.setIfInBounds_toArray, List.set_cons_zero, List.set_cons_succ, List.getElem_toArray, List.getElem_cons_zero, List.getElem_cons_succ]
  refine wpAnyH_take (i := 3) (v := ?_) rfl (by kernel_rfl) (by kernel_rfl) (by kernel_rfl) (fun _ _ _ h => h) (Or.inl ⟨by rfl, ?_⟩) (by assumption) ?_
  rotate_left 1
  · ((intro w hSw; (try dsimp only at hSw); go_simp); (try with_reducible rfl))
  simp only [Act.put, List.setIfInBounds_toArray, List.set_cons_zero, List.set_cons_succ, List.getElem_toArray, List.getElem_cons_zero, List.getElem_cons_succ]
  refine wpAnyH_take (i := 8) (v := ?_) rfl (by kernel_rfl) (by kernel_rfl) (by kernel_rfl) (fun _ _ _ h => h) (Or.inl ⟨by rfl, ?_⟩) (by assumption) ?_
  rotate_left 1
  · ((intro w hSw; (try dsimp only at hSw); go_simp); (try with_reducible rfl))
  simp only [Act.put, List.setIfInBounds_toArray, List.set_cons_zero, List.set_cons_succ, List.getElem_toArray, List.getElem_cons_zero, List.getElem_cons_succ]
  have Z1 := hidp (show B + 1 ≤ v.drew.heap.size from hlt0)
  refine wpAnyH_ready (rs := [4]) (by kernel_rfl) (by simp) ?_
  refine AllReadyH.cons rfl (fun K hK => ?_) AllReadyH.nil
  refine step_app2 v.drew rfl (.const (.slice none 0 0)) (.tmp 31) 23 rfl (B + 1) 41 j0 _ 6 72 Tryz.underlying23 hj0 hk0 hk1 hk2 rfl (by decide) none 0 0 [] rfl (World.ownsRow_nil _ _ _ _) v.drew.heap.size (some ⟨gt, ot + kk * 6, none⟩) (tasks.length - kk) (tc - kk) (ttc (tasks.drop kk)) rfl Q1.out L1.out S1.out O1.out N1.out T1.out Z1.out ?_
  intro A1 k1 v1 happ
  rw [Nat.zero_add, List.nil_append] at happ
  simp only [Nat.zero_add]
  have t3 : v1.cell? ⟨w.heap.size, 3, none⟩ = some (.slice (some ⟨gt, ot, none⟩) tasks.length tc) := happ.turned.cell s3 (by simp [fp])
  have Bt1 := Btd.turned happ.turned (by simp [fp])
  have o1 : OwnT (B + 1) v1 A1 (tasks.length - kk) k1 (tasks.drop kk) := ⟨happ.own, by simp, happ.cap, happ.nil⟩
  have hv1 := happ.turned.below (B := v.drew.heap.size) (Nat.le_refl _) (by simp [fp])
  have Z2 := hidp (Nat.le_trans Z1.out hv1.size)
  have S2 := hidp (S2'.out v1 (Keeps.of_below hv1))
  have N2 : Hid (tasks.length - kk + kk ≤ maxLen) := hidp (by unfold maxLen; omega)
  have T2 : Hid ((tasks.length - kk + kk) * 72 ≤ 140737488355328) := hidp (by omega)
  have F1 := hidp (own_fp o1.own)
  clear hHeld
  refine hK.out _ _ ?_ (fun hHeld => ?_)
  · exact t3
  clear hK K
  try simp only [Act.put, List.setIfInBounds_toArray, List.set_cons_zero, List.set_cons_succ, List.getElem_toArray, List.getElem_cons_zero, List.getElem_cons_succ]
  refine wpAnyH_ready (rs := [9]) (by kernel_rfl) (by simp) ?_
  refine AllReadyH.cons rfl (fun K hK => ?_) AllReadyH.nil
  refine step_app2 v1 rfl (.tmp 32) (.tmp 36) 23 rfl (B + 1) 41 j0 _ 6 72 Tryz.underlying23 hj0 hk0 hk1 hk2 rfl (by decide) A1 (tasks.length - kk) k1 (ttc (tasks.drop kk)) rfl o1.own v1.heap.size (some ⟨gt, ot, none⟩) kk tc (ttc (tasks.take kk)) rfl Q2.out L2.out S2.out O2.out N2.out T2.out Z2.out ?_
  intro A2 k2 v2 happ2
  have hnn : tasks.length - kk + kk = tasks.length := by omega
  rw [hnn] at happ2
  simp only [hnn]
  have t3' : v2.cell? ⟨w.heap.size, 3, none⟩ = some (.slice (some ⟨gt, ot, none⟩) tasks.length tc) := happ2.turned.cell t3 (fun h => by have := (F1.out _ h).1; dsimp only at this; omega)
  have Bt2 := Bt1.turned happ2.turned (fun h => by have := (F1.out _ h).1; omega)
  have o2 : OwnT (B + 1) v2 A2 tasks.length k2 (tasks.drop kk ++ tasks.take kk) := ⟨by rw [ttc_append]; exact happ2.own, by simp; omega, happ2.cap, happ2.nil⟩
  have hB1 : B + 1 ≤ v1.heap.size := Z2.out
  have hv2 : Below B v.drew v2 := (hv1.mono (Nat.le_of_lt hlt0)).trans (happ2.turned.below (Nat.le_of_succ_le hB1) (fun k hk => Nat.le_of_succ_le (F1.out k hk).1))
  have TS := (Turned.refl [B] v2).setCell (p := ⟨B, 3, none⟩) (.inl (by simp)) (.slice A2 tasks.length k2)
  have hv3 := hv2.trans (TS.below (Nat.le_trans (Nat.le_of_lt hlt0) hv2.size) (by simp))
  have Bt3 : Bk (v2.setCell ⟨B, 3, none⟩ (.slice A2 tasks.length k2)) B 25 #[.int .i64 proto, .slice ca cores.length cc, .slice ha homes.length hc, .slice A2 tasks.length k2] := Bt2.put 3 (.slice A2 tasks.length k2)
  have F2 := hidp (own_fp o2.own)
  have o3 := o2.turned TS (fun k hk hm => by simp at hm; have := (F2.out k hk).1; omega)
  have x3 : (v2.setCell ⟨B, 3, none⟩ (.slice A2 tasks.length k2)).cell? ⟨w.heap.size, 3, none⟩ = some (.slice (some ⟨gt, ot, none⟩) tasks.length tc) := TS.cell t3' (by simp; omega)
  have fz := (ZF4 Bt2).2.2.2
  have cz := (Z4 Bt2).2.2.2
  clear hHeld
  refine hK.out _ _ ?_ (fun hHeld => ?_)
  · exact t3'
  clear hK K
  try simp only [Act.put, List.setIfInBounds_toArray, List.set_cons_zero, List.set_cons_succ, List.getElem_toArray, List.getElem_cons_zero, List.getElem_cons_succ]
  refine wpAnyH_take (i := 10) (v := ?_) rfl (by kernel_rfl) (by kernel_rfl) (by kernel_rfl) (fun _ _ _ h => h) (Or.inl ⟨by rfl, ?_⟩) (by assumption) ?_
  rotate_left 1
  · ((intro w hSw; (try dsimp only at hSw); go_simp); (try with_reducible rfl))
  simp only [Act.put, List.setIfInBounds_toArray, List.set_cons_zero, List.set_cons_succ, List.getElem_toArray, List.getElem_cons_zero, List.getElem_cons_succ]
  refine wpAnyH_ready (rs := [11]) (by kernel_rfl) (by simp) ?_
  refine AllReadyH.cons rfl (fun K hK => ?_) AllReadyH.nil
  go_simp
  refine hK.out _ _ ?_ (fun hHeld => ?_)
  · exact x3
  clear hK K
  try simp only [Act.put, List.setIfInBounds_toArray, List.set_cons_zero, List.set_cons_succ, List.getElem_toArray, List.getElem_cons_zero, List.getElem_cons_succ]
  refine wpAnyH_done (by kernel_rfl) ?_ _
  obtain ⟨v3, hw3⟩ : ∃ x, v2.setCell ⟨B, 3, none⟩ (.slice A2 tasks.length k2) = x := ⟨_, rfl⟩
  rw [hw3] at hv3 Bt3 o3 ⊢
  have hbu : Below B u2 v3 := hbu0.drew.trans hv3
  clear hw3 fz cz x3 t3 t3' Bt1 Bt2 o1 o2 hv1 hv2 TS happ happ2 hB1 hnn Bt Btd s3 scd hsd hsv scv hbv hbu0 hv3 hHeld
  have k3 := keeps_of hbu HBe.out
  have hs := HS2.out.keep k3
  have sc := SC2.out.keep k3
  have hb := HBW.out.trans (hbu.mono hwh)
  have hlen : (tasks.drop kk ++ tasks.take kk).length = tasks.length := by simp; omega
  have MR := moved_rep (moved_turn (s := ⟨proto, ca, cc, cores, ha, hc, homes, some ⟨gt, ot, none⟩, tc, tasks⟩) (t := ⟨proto, ca, cc, cores, ha, hc, homes, A2, k2, tasks.drop kk ++ tasks.take kk⟩) (k := kk) rfl rfl rfl rfl hkl) Hok.out
  have HRO := hidp (rep_ok Hok.out)
  have hTok : SetOk v3 ⟨proto, ca, cc, cores, ha, hc, homes, A2, k2, tasks.drop kk ++ tasks.take kk⟩ := ⟨hs.proto, hs.cores, hs.homes, ⟨o3.sl, o3.tasks, fun t ht => by
      rcases List.mem_append.1 ht with h1 | h1
      · exact hs.tasks.ok t (List.mem_of_mem_drop h1)
      · exact hs.tasks.ok t (List.mem_of_mem_take h1)⟩⟩
  have CL1 := rlines19_any ⟨proto, ca, cc, cores, ha, hc, homes, some ⟨gt, ot, none⟩, tc, tasks⟩ v3 hs (fun x hx => HT.out x (hb.trans (hx.mono hb.size)))
  unfold LinesPost at CL1
  rw [HRO.out.1] at CL1
  have HCL1 := hidp CL1
  have HB3 := hidp hb
  have HSC := hidp sc
  have HBT := hidp Bt3
  have HTK := hidp hTok
  have HMR := hidp MR
  have HLE := hidp hlen
  obtain ⟨sc_0, sc_1, sc_2, sc_3⟩ := id sc
  try dsimp only at sc_0 sc_1 sc_2 sc_3
  clear CL1 hTok MR hlen hb hs sc Bt3 o3 hbu k3 hwh hz tc0 tc1 ht1 hwwh
  go_wp2_with fail
  refine HCL1.out.mono ?_
  rintro e u4 ⟨A, c, rfl, hsl, hb2⟩
  have HB4 := hidp (HB3.out.trans (hb2.mono HB3.out.size))
  have HSL := hidp hsl
  have CL2 := rlines19_any ⟨proto, ca, cc, cores, ha, hc, homes, A2, k2, tasks.drop kk ++ tasks.take kk⟩ u4 (HTK.out.keep (Keeps.of_below hb2)) (fun x hx => HT.out x (HB4.out.trans (hx.mono HB4.out.size)))
  unfold LinesPost at CL2
  rw [HMR.out.1, HMR.out.2, HRO.out.1] at CL2
  dsimp only at CL2
  rw [HLE.out] at CL2
  have HCL2 := hidp CL2
  obtain ⟨b0, b1, b2, b3⟩ := Z4 (HBT.out.below hb2)
  have HSC4 := hidp (HSC.out.keep (Keeps.of_below hb2))
  clear CL2 hsl hb2 HCL1 HTK HBT HSC sc_0 sc_1 sc_2 sc_3
  go_wp2_with fail
  refine HCL2.out.mono ?_
  rintro e u5 ⟨A5, c5, rfl, hsl5, hb5⟩
  have HB5 := hidp (HB4.out.trans (hb5.mono HB4.out.size))
  have HLL : Hid ((repV ⟨proto, ca, cc, cores, ha, hc, homes, some ⟨gt, ot, none⟩, tc, tasks⟩).length ≤ 1000) := hidp (by
    have := n9
    rcases HRO.out.2 with h | h | h
    · rw [h, repL_len]; dsimp only; omega
    · rw [h]; simp
    · rw [h]; simp)
  have HS5 := hidp (HSL.out.turned (Turned.of_below hb5 []) (by simp))
  have CS := hidp (same19_yes HS5.out hsl5 HLL.out)
  have s3 := (HSC4.out.keep (Keeps.of_below hb5)).2.2.2
  dsimp only at s3
  obtain ⟨N, hN⟩ : ∃ N, tasks.length = N := ⟨_, rfl⟩
  have HN := hidp hN
  rw [hN] at s3
  have hN9 : N ≤ 9 := by omega
  have hN0 : 0 < N := by have := (Good.of Hok.out).ntasks.1; dsimp only at this; omega
  obtain ⟨L, HL⟩ : ∃ L, Hid (repV ⟨proto, ca, cc, cores, ha, hc, homes, some ⟨gt, ot, none⟩, tc, tasks⟩ = L) := ⟨_, hidp rfl⟩
  rw [HL.out] at CS HS5 HRO ⊢
  have wN : IntKind.i64.wrap ((N : Int) + 1) = (N : Int) + 1 := IntWalk.i64_in _ (by omega)
  clear hsl5 hb5 HCL2 HSL b0 b1 b2 b3 HSC4 HMR HLE hN
  rcases HRO.out.2 with hR | hR | hR
  · have hLn : L.length = N + 1 := by rw [hR, repL_len, ← HN.out]
    have hR2 : L = wAdm :: (ordL tasks).map (fun i => lineR ⟨proto, ca, cc, cores, ha, hc, homes, some ⟨gt, ot, none⟩, tc, tasks⟩ (anB ⟨proto, ca, cc, cores, ha, hc, homes, some ⟨gt, ot, none⟩, tc, tasks⟩) (anW ⟨proto, ca, cc, cores, ha, hc, homes, some ⟨gt, ot, none⟩, tc, tasks⟩) i.toNat) := hR
    obtain ⟨g, o, rfl, cc0⟩ := strL_head (hR2 ▸ HS5.out)
    have cl : u5.cell? ⟨g, o, none⟩ = some (.string ⟨#[97, 100, 109, 105, 116, 116, 101, 100]⟩) := cc0
    rw [hLn] at CS ⊢
    have b0 : (0 : Int) < (N : Int) + 1 := by omega
    have CL9 : ∀ n, (u5.drewN n).cell? ⟨g, o, none⟩ = some (.string ⟨#[97, 100, 109, 105, 116, 116, 101, 100]⟩) := fun _ => cl
    have HS9 := hidp s3
    have HC9 := hidp cl
    clear hR hR2 hLn cc0 HS5 HRO HL
    go_wp2_with fail
    refine CS.out.mono ?_
    rintro e u6 ⟨rfl, hq⟩
    have s3' := hq.cell HS9.out
    have cl' := hq.cell HC9.out
    have HB6 := hidp (hq.below HB5.out)
    clear hq CS s3 cl CL9
    go_wp2_with fail
    go_ret
    exact ⟨rfl, HB6.out⟩
  · have hR2 : L = wLate :: [] := hR
    obtain ⟨g, o, rfl, cc0⟩ := strL_head (hR2 ▸ HS5.out)
    have cl : u5.cell? ⟨g, o, none⟩ = some (.string ⟨#[108, 97, 116, 101]⟩) := cc0
    have hLn : L.length = 1 := by rw [hR]; rfl
    rw [hLn] at CS ⊢
    have f1 : ((1 : Int) == (N : Int) + 1) = false := by rw [beq_eq_false_iff_ne]; omega
    have HS9 := hidp s3
    have HC9 := hidp cl
    clear hR hR2 hLn cc0 HS5 HRO HL
    go_wp2_with fail
    refine CS.out.mono ?_
    rintro e u6 ⟨rfl, hq⟩
    have s3' := hq.cell HS9.out
    have cl' := hq.cell HC9.out
    have HB6 := hidp (hq.below HB5.out)
    clear hq CS s3 cl
    go_wp2_with fail
    go_ret
    exact ⟨rfl, HB6.out⟩
  · have hR2 : L = wUnk :: [] := hR
    obtain ⟨g, o, rfl, cc0⟩ := strL_head (hR2 ▸ HS5.out)
    have cl : u5.cell? ⟨g, o, none⟩ = some (.string ⟨#[117, 110, 107, 110, 111, 119, 110]⟩) := cc0
    have hLn : L.length = 1 := by rw [hR]; rfl
    rw [hLn] at CS ⊢
    have f1 : ((1 : Int) == (N : Int) + 1) = false := by rw [beq_eq_false_iff_ne]; omega
    have HS9 := hidp s3
    have HC9 := hidp cl
    clear hR hR2 hLn cc0 HS5 HRO HL
    go_wp2_with fail
    refine CS.out.mono ?_
    rintro e u6 ⟨rfl, hq⟩
    have s3' := hq.cell HS9.out
    have cl' := hq.cell HC9.out
    have HB6 := hidp (hq.below HB5.out)
    clear hq CS s3 cl
    go_wp2_with fail
    go_ret
    exact ⟨rfl, HB6.out⟩

theorem own : ownKnob Tryz.prog.godebug = none := by kernel_rfl
theorem laidOut : laidOutB Tryz.prog = true := by kernel_rfl
def cellsD : DataW Unit → List Value
  | .agg ds => ds.flatMap fun
    | .lit (.int k z) => [Value.int k z]
    | .agg es => es.flatMap fun
      | .lit (.int k z) => [Value.int k z]
      | _ => []
    | _ => []
  | _ => []
def layTab (d : DataW Unit) : Obj → Obj
  | .cells _ t frozen => .cells (cellsD d).toArray t frozen
  | o => o
/-- a world in which the listed tables lie: the witness -/
noncomputable def laidWorld (os : Os) : World := { World.holding Tryz.prog os ⟨#[], #[], []⟩ with heap := ((((World.holding Tryz.prog os ⟨#[], #[], []⟩).heap.modify 2 (layTab Rows.laid_math_bits_deBruijn32tab)).modify 3 (layTab Rows.laid_math_bits_deBruijn64tab)).modify 1 (layTab Rows.laid_internal_strconv_uint64pow10)) }
theorem laid_met (os : Os) (args : Array Value) : laidMetH Tryz.prog Rows.reportTurnsRow.laid ((laidWorld os).forCall (fun _ _ => 0) ⟨#[], args, []⟩).memory :=
  laidMet_of_run' 8 (by kernel_rfl) (by kernel_rfl)
theorem witness_row (os : Os) {H : Type} (enc : TypeId × Value → H) :
    (OpenSpec.ofChange Rows.reportTurnsSpec).preRow enc Tryz.prog Tryz.f4 Rows.reportTurnsRow.domain false Rows.reportTurnsRow.laid ((laidWorld os).forCall (fun _ _ => 0) ⟨#[], #[.agg #[.int .i64 0, .slice none 0 0, .slice none 0 0, .slice none 0 0], .int .u8 0], []⟩).memory #[.agg #[.int .i64 0, .slice none 0 0, .slice none 0 0, .slice none 0 0], .int .u8 0] := by
  have hw : (DataW.whole enc Tryz.prog ((laidWorld os).forCall (fun _ _ => 0) ⟨#[], #[.agg #[.int .i64 0, .slice none 0 0, .slice none 0 0, .slice none 0 0], .int .u8 0], []⟩).memory Tryz.f4.params.toList (OpenSpec.ofChange Rows.reportTurnsSpec).vars false (#[.agg #[.int .i64 0, .slice none 0 0, .slice none 0 0, .slice none 0 0], .int .u8 0] : Array Value).toList 8).map (fun x => (x.1, x.2.1)) =
      some ([.agg [.lit (.int .i64 0), .nil, .nil, .nil], .lit (.int .u8 0)], []) := by kernel_rfl
  obtain ⟨⟨x1, x2, x3⟩, hx, hx1⟩ := Option.map_eq_some_iff.1 hw
  simp only [Prod.mk.injEq] at hx1
  obtain ⟨rfl, rfl⟩ := hx1
  exact OpenSpec.preRow_of_cond 8 hx (by kernel_rfl) (fun k hk => by cases hk) (by kernel_rfl) (laid_met os _)

set_option maxRecDepth 100000 in
theorem lifted (os : Os) (started : os.Started) (H : Type) (enc : TypeId × Value → H) (F0 : Stop.Interp) :
    ReturnsInHanded {} Tryz.checked os 4 .any ((OpenSpec.ofChange Rows.reportTurnsSpec).preRow enc Tryz.prog Tryz.f4 Rows.reportTurnsRow.domain false Rows.reportTurnsRow.laid) (((OpenSpec.ofChange Rows.reportTurnsSpec).at F0).post enc Tryz.prog Tryz.f4 false true false false) := by
  refine returnsInHanded_of_row (C := Tryz.checked) (s := OpenSpec.ofChange Rows.reportTurnsSpec) own started (by kernel_rfl) Tryz.func4
    (witness_row_at (enc := enc) (C := Tryz.checked) false (laidWorld os) #[.agg #[.int .i64 0, .slice none 0 0, .slice none 0 0, .slice none 0 0], .int .u8 0] rfl (by kernel_rfl) (by kernel_rfl) (by kernel_rfl) (witness_row os enc)) ?_
  intro W base args ds gs before hval0 hW _ _ _ hL hsh _
  have hTab : Go.Lib.TabIs Tryz.prog W "internal/strconv.uint64pow10" .u64 Go.Lib.pow10Tab := tabPow hL
  have hval : ∀ (j : Nat) t v, Tryz.f4.params[j]? = some t → args[j]? = some v → Value.okWide Tryz.prog W .any base t v := hval0
  have hW' := hW
  obtain ⟨p, q, hA0, hV, rfl, hfz, hnd⟩ := hW
  have hA : DataW.TrodAll enc Tryz.prog W 0 (fun _ => true) true Tryz.f4.params.toList args.toList ds p := hA0
  rw [Tryz.params4] at hA hval
  obtain ⟨v0, vs0, d0, ds0, p0, q0, hargs, rfl, rfl, h0, r0⟩ := trodAll_cons hA
  obtain ⟨v1, vs1, d1, ds1, p1, q1, rfl, rfl, rfl, h1, r1⟩ := trodAll_cons r0
  obtain ⟨rfl, rfl, rfl⟩ := trodAll_nil r1
  obtain rfl : args = #[v0, v1] := by cases args; simp_all
  obtain ⟨rfl, rfl⟩ := trodVars_none hV
  have k0 := h0
  have lt0 : ∀ x ∈ p0, x.block < W.heap.size := by obtain ⟨m, hm⟩ := k0; exact DataW.trod_lt m _ _ _ hm
  obtain ⟨s0, w0, rfl⟩ := setTypes.arg_set (hval 0 25 v0 rfl rfl) h0
  obtain ⟨a1, rfl, rfl, rfl, w1⟩ := open_int Tryz.underlying5 (hval 1 5 v1 rfl rfl) h1
  clear hA0 hval0
  refine (walk s0 a1  W w0 w1 hTab).mono fun e W' ⟨he, bel⟩ => ?_
  subst he
  exact ⟨_, rfl, _, _, _, [], _, [], hW', trodAll_mk1 (shut_bool Tryz.underlying4 _), (trodAll_cons_mk (Below.trod laidOut (by kernel_rfl) (of_decide_eq_true (by kernel_rfl)) k0 bel lt0) (trodAll_cons_mk (shut_int Tryz.underlying5 w1) trodAll_mk0)), rfl, bel.frame _, fun h => by cases h⟩

theorem over : Rows.ReportTurnsSaid :=
  OpenClaim.holds_of_cond 4 Tryz.f4 rfl rfl rfl rfl rfl rfl rfl ⟨rfl, rfl, rfl, rfl, rfl⟩ rfl rfl rfl rfl rfl (by kernel_rfl) Tryz.func4 (by kernel_rfl)
    (of_decide_eq_true (by kernel_rfl)) (by unfold Func.isWrapper; first | (rw [if_pos (by decide +kernel)]; kernel_rfl) | (rw [if_neg (by decide +kernel)]; exact ⟨rfl, rfl⟩))
    (fun os started H enc _ F0 => by rw [OpenClaim.pre_eq_preRow]; exact lifted os started H enc F0)

/-- THE STATEMENT: the tied card -/
theorem proved : Rows.ReportTurnsCardSaid :=
  Claim7.holds_tied_plain_at .later [] [.data, .data, .data] true (true, "4ae43c0d88ae7c83191992ae37143b99eb28f5c9a732c1732e49016fc388c3c3") false
    over (fun _ h => by cases h) (by kernel_rfl) (fun _ h => by cases h) reportTurns_row_tie rfl ⟨rfl, rfl⟩ (by kernel_rfl) rfl
    (fun f fn hf hfn => by
      obtain rfl : f = 4 := Option.some.inj ((show Tryz.prog.funcNamed Rows.reportTurnsRow.func = some 4 by kernel_rfl).symm.trans hf) |>.symm
      obtain rfl : fn = Tryz.f4 := (Option.some.inj (Tryz.func4.symm.trans hfn)).symm
      refine ⟨by kernel_rfl, fun j t ht => ?_⟩
      rw [Tryz.params4] at ht
      exact standIns _ (by kernel_rfl) j t ht)
    (by kernel_rfl)
#print axioms proved
end Go.Proofs.YtjjlpaampmpdfaaGreatDoor.reportTurns

