/- A row of tasks that the call grows one by one, each with its own row of parts. -/
import Derived.Test.YtnfkebdbfflhdaaLit
import Derived.Test.YtnfkebdbfflhdaaOk3
import Derived.Test.YtnfkebdbfflhdaaOwnPut
namespace Go.Proofs.Ytnfkebdbfflhdaa
open Go.ChangeShapes Go.WideShapes Go.ChangeAt Go.RowKit
set_option linter.unusedVariables false
structure Grown (B : Nat) (w : World) (A : Option Addr) (c : Nat) (ts : List TaskR) : Prop where
  own : OwnT B w A ts.length c ts
  ok : ∀ t ∈ ts, TaskOk w t
  apart : ∀ t ∈ ts, ∀ k ∈ fp t.pa, (B ≤ k ∧ k < w.heap.size) ∧ k ∉ fp A
theorem Grown.none (B : Nat) (w : World) : Grown B w none 0 [] := ⟨OwnT.none B w, by simp, by simp⟩
theorem Grown.turned {B : Nat} {F : List Nat} {w w' : World} {A : Option Addr} {c : Nat} {ts : List TaskR} (h : Grown B w A c ts) (ht : Turned F w w') (hF : ∀ k, B ≤ k → k < w.heap.size → k ∉ F) : Grown B w' A c ts :=
  ⟨h.own.turned ht (fun k hk => hF k (own_fp h.own.own k hk).1 (own_fp h.own.own k hk).2), fun t hm => (h.ok t hm).turned ht (fun k hk => hF k (h.apart t hm k hk).1.1 (h.apart t hm k hk).1.2), fun t hm k hk => ⟨⟨(h.apart t hm k hk).1.1, Nat.lt_of_lt_of_le (h.apart t hm k hk).1.2 ht.size⟩, (h.apart t hm k hk).2⟩⟩
theorem Grown.step {B : Nat} {w w2 : World} {A A' : Option Addr} {c c' gp : Nat} {ts : List TaskR} {t : TaskR} (h : Grown B w A c ts) (hA : t.pa = some ⟨gp, 0, .none⟩) (hg : B ≤ gp ∧ gp < w.heap.size) (hn : gp ∉ fp A) (hok : TaskOk w t)
    (ha : App B 37 6 w A A' (ts.length + 1) c' (ttc ts ++ ttc [t]) w2) : Grown B w2 A' c' (ts ++ [t]) := by
  have hfp : ∀ k, k < w.heap.size → k ∉ fp A → k ∉ fp A' := fun k h1 h2 h3 => by
    rcases ha.fps k h3 with h | h
    · exact h2 h
    · omega
  refine ⟨?_, fun u hu => ?_, fun u hu k hk => ?_⟩
  · have := h.own.app ha rfl
    simpa using this
  · rcases List.mem_append.1 hu with hm | hm
    · exact (h.ok u hm).turned ha.turned (fun k hk => (h.apart u hm k hk).2)
    · simp only [List.mem_cons, List.not_mem_nil, or_false] at hm; subst hm
      exact hok.turned ha.turned (fun k hk => by rw [hA] at hk; simp [fp] at hk; subst hk; exact hn)
  · rcases List.mem_append.1 hu with hm | hm
    · obtain ⟨⟨a, b⟩, d⟩ := h.apart u hm k hk
      exact ⟨⟨a, Nat.lt_of_lt_of_le b ha.turned.size⟩, hfp k b d⟩
    · simp only [List.mem_cons, List.not_mem_nil, or_false] at hm; subst hm
      rw [hA] at hk; simp [fp] at hk; subst hk
      exact ⟨⟨hg.1, Nat.lt_of_lt_of_le hg.2 ha.turned.size⟩, hfp k hg.2 hn⟩
/-- bytes, parts, a task made by literals one behind the other -/
theorem grown_made {B : Nat} {wr : World} {A : Option Addr} {c : Nat} {ts : List TaskR} (h : Grown B wr A c ts) (hB : B ≤ wr.heap.size) (o1 : Obj) (nm : ByteArray) (per dl prio cl : Int) (ps : List PartM) (h1 : nm.size ≤ maxLen) (h2 : I64 per) (h3 : I64 dl) (h4 : I64 prio) (h5 : I64 cl) (h6 : ps.length ≤ maxLen) (h7 : ∀ p ∈ ps, p.wf) :
    Grown B (((wr.alloc o1).alloc (.cells (ptc ps).toArray 40)).alloc (.cells (ttc [⟨nm, per, dl, prio, cl, some ⟨wr.heap.size + 1, 0, none⟩, ps.length, ps⟩]).toArray 37)) A c ts ∧
    TaskOk (((wr.alloc o1).alloc (.cells (ptc ps).toArray 40)).alloc (.cells (ttc [⟨nm, per, dl, prio, cl, some ⟨wr.heap.size + 1, 0, none⟩, ps.length, ps⟩]).toArray 37)) ⟨nm, per, dl, prio, cl, some ⟨wr.heap.size + 1, 0, none⟩, ps.length, ps⟩ ∧
    wr.heap.size + 1 ∉ fp A ∧ (B ≤ wr.heap.size + 1 ∧ wr.heap.size + 1 < (((wr.alloc o1).alloc (.cells (ptc ps).toArray 40)).alloc (.cells (ttc [⟨nm, per, dl, prio, cl, some ⟨wr.heap.size + 1, 0, none⟩, ps.length, ps⟩]).toArray 37)).heap.size) := by
  have T := (((Turned.refl [] wr).alloc o1).alloc (.cells (ptc ps).toArray 40)).alloc (.cells (ttc [⟨nm, per, dl, prio, cl, some ⟨wr.heap.size + 1, 0, none⟩, ps.length, ps⟩]).toArray 37)
  have Bp := (Bk.at_ (w := wr.alloc o1) (g := wr.heap.size + 1) (t := 40) (cs := (ptc ps).toArray) (by simp) rfl).alloc (.cells (ttc [⟨nm, per, dl, prio, cl, some ⟨wr.heap.size + 1, 0, none⟩, ps.length, ps⟩]).toArray 37)
  exact ⟨h.turned T (by simp), task_bk Bp h1 h2 h3 h4 h5 h6 h7, fun hf => by have := (own_fp h.own.own _ hf).2; omega, by omega, by simp⟩
theorem letter_bytes (i : Nat) (hi : i < 6) (w : World) (T8 : TypeId) : ∀ j (hj : j < [UInt8.ofNat (97 + i)].length), (w.alloc (.cells #[.int .u8 (97 + (i : Int))] T8)).cell? ((⟨w.heap.size, 0, none⟩ : Addr).add j) = some (.int .u8 ([UInt8.ofNat (97 + i)][j].toNat : Int)) := by
  intro j hj
  have hj0 : j = 0 := by simpa using hj
  subst hj0
  have e : ((UInt8.ofNat (97 + i)).toNat : Int) = 97 + (i : Int) := by
    have : i = 0 ∨ i = 1 ∨ i = 2 ∨ i = 3 ∨ i = 4 ∨ i = 5 := by omega
    rcases this with rfl | rfl | rfl | rfl | rfl | rfl <;> decide
  show (w.alloc (.cells #[.int .u8 (97 + (i : Int))] T8)).cell? ((⟨w.heap.size, 0, none⟩ : Addr).add 0) = some (.int .u8 ((UInt8.ofNat (97 + i)).toNat : Int))
  rw [e]
  simp [Addr.add]
theorem Grown.tasks {B : Nat} {w : World} {A : Option Addr} {c : Nat} {ts : List TaskR} (h : Grown B w A c ts) : TasksOk w A c ts := ⟨h.own.sl, h.own.tasks, h.ok⟩
/-- one letter -/
def letter (i : Nat) : ByteArray := ⟨#[UInt8.ofNat (97 + i)]⟩
theorem letter_name {i : Nat} (h : i < 6) : nameB (letter i) = true := by
  rcases i with _ | _ | _ | _ | _ | _ | i
  all_goals first | omega | decide +kernel
theorem letters {i k : Nat} (hk : k < 6) (h : i < k) : ((letter i).toList == (letter k).toList) = false := by
  have : ∀ k : Fin 6, ∀ i : Fin k.val, ((letter i.val).toList == (letter k.val).toList) = false := by decide +kernel
  exact this ⟨k, hk⟩ ⟨i, h⟩
end Go.Proofs.Ytnfkebdbfflhdaa
