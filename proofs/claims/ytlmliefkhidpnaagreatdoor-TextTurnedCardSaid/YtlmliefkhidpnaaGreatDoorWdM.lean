/- Rows of texts of the call's own; words and pieces of a text as lists of bytes. -/
import Derived.Test.YtlmliefkhidpnaaGreatDoorUp
import Derived.Test.YtlmliefkhidpnaaGreatDoorWordsName
namespace Go.Proofs.YtlmliefkhidpnaaGreatDoor
open Go.ChangeShapes Go.WideShapes Go.ChangeAt Go.RowKit
set_option linter.unusedVariables false
set_option linter.unusedSimpArgs false
abbrev Bts := List UInt8
def bl (s : ByteArray) : Bts := s.data.toList
def mkB (l : Bts) : ByteArray := ⟨l.toArray⟩
@[simp] theorem bl_mk (l : Bts) : bl (mkB l) = l := rfl
theorem mk_bl (s : ByteArray) : mkB (bl s) = s := by cases s; simp [mkB, bl]
theorem bl_len (s : ByteArray) : (bl s).length = s.size := by simp [bl]
theorem bl_inj {s t : ByteArray} (h : bl s = bl t) : s = t := by rw [← mk_bl s, h, mk_bl]
theorem bl_extract (s : ByteArray) (a b : Nat) : bl (s.extract a b) = ((bl s).take b).drop a := by
  unfold bl
  rw [ByteArray.data_extract, Array.toList_extract]
  simp [List.extract_eq_take_drop, List.drop_take]
theorem bl_append (s t : ByteArray) : bl (s ++ t) = bl s ++ bl t := by simp [bl, ByteArray.data_append]
theorem byteAt_bl (s : ByteArray) (k : Nat) : byteAt s k = (((bl s).getD k 0).toNat : Int) := rfl
/-- the words of a text: cur stands behind the last blank -/
def wl (cur : Bts) : Bts → List Bts
  | [] => if cur = [] then [] else [cur]
  | c :: r => if c = 32 then (if cur = [] then wl [] r else cur :: wl [] r) else wl (cur ++ [c]) r
/-- the pieces of a text, cut at each c; an empty last one goes -/
def pl (c : UInt8) (cur : Bts) : Bts → List Bts
  | [] => if cur = [] then [] else [cur]
  | x :: r => if x = c then cur :: pl c [] r else pl c (cur ++ [x]) r
theorem pl_words (l cur : Bts) : (pl 32 cur l).filter (fun x => !decide (x = [])) = wl cur l := by
  induction l generalizing cur with
  | nil => unfold pl wl; split <;> simp_all
  | cons x r ih =>
    unfold pl wl
    split
    · by_cases hc : cur = []
      · rw [if_pos hc, List.filter_cons_of_neg (by simp [hc]), ih]
      · rw [if_neg hc, List.filter_cons_of_pos (by simp [hc]), ih]
    · exact ih _
/-- what stands ahead of the first mark -/
def ahead35 : Bts → Bts
  | [] => []
  | c :: r => if c = 35 then [] else c :: ahead35 r
def wordsL (s : Bts) : List Bts := wl [] (ahead35 s)
def linesL (s : Bts) : List Bts := pl 10 [] s
/-- a row of texts of the call's own -/
structure OwnS (B : Nat) (w : World) (A : Option Addr) (n c : Nat) (ls : List ByteArray) : Prop where
  own : w.ownsRow B 9 1 (.slice A n c) n (ls.map Value.string)
  len : n = ls.length
  cap : n ≤ c ∧ c ≤ maxLen
  nil : A = none → n = 0 ∧ c = 0
theorem OwnS.none_ (B : Nat) (w : World) : OwnS B w none 0 0 [] := ⟨World.ownsRow_nil _ _ _ _, rfl, by decide, fun _ => ⟨rfl, rfl⟩⟩
theorem infoStr : (Tryz.prog.info? 9).map (fun i => (i.zero, i.size, i.bytes)) = some (some (.string ByteArray.empty), 1, 16) := by kernel_rfl
theorem str_one (ls : List ByteArray) : ∀ u ∈ ls.map Value.string, u.oneCell' = true := fun u hu => by obtain ⟨n, _, rfl⟩ := List.mem_map.1 hu; rfl
theorem OwnS.turned {B : Nat} {w w' : World} {A : Option Addr} {n c : Nat} {ls : List ByteArray} {F : List Nat} (h : OwnS B w A n c ls) (ht : Turned F w w') (hF : ∀ k ∈ fp A, k ∉ F) : OwnS B w' A n c ls := ⟨own_turned h.own ht hF, h.len, h.cap, h.nil⟩
theorem OwnS.app {B : Nat} {w w1 w2 : World} {A A' : Option Addr} {n c c' : Nat} {ls : List ByteArray} {x : ByteArray} (h : OwnS B w A n c ls) (ha : App B 9 1 w1 A A' (n + 1) c' (ls.map Value.string ++ [.string x]) w2) : OwnS B w2 A' (n + 1) c' (ls ++ [x]) :=
  ⟨by rw [List.map_append]; exact ha.own, by rw [List.length_append, h.len]; rfl, ha.cap, ha.nil⟩
theorem OwnS.low {B B' : Nat} {w : World} {A : Option Addr} {n c : Nat} {ls : List ByteArray} (h : OwnS B w A n c ls) (hB : B' ≤ B) : OwnS B' w A n c ls := ⟨own_base h.own (fun k hk => Nat.le_trans hB (h.own.lt k hk).1), h.len, h.cap, h.nil⟩
/-- a row of texts that is only read -/
def StrsAt (w : World) (A : Option Addr) (ls : List ByteArray) : Prop := ls = [] ∨ ∃ b off, A = some ⟨b, off, none⟩ ∧ ∀ i, i < ls.length → w.cell? ⟨b, off + i, none⟩ = some (.string (ls.getD i ByteArray.empty))
theorem StrsAt.of_lies {B : Nat} {w : World} {A : Option Addr} {ls : List ByteArray} (h : Lies B w A (ls.map Value.string)) : StrsAt w A ls := by
  rcases h with h | ⟨b, off, rfl, _, hc⟩
  · left; simpa using h
  · refine .inr ⟨b, off, rfl, fun i hi => hc i _ ?_⟩
    simp [List.getD, hi]
theorem StrsAt.mono {w w' : World} {A : Option Addr} {ls : List ByteArray} (h : StrsAt w A ls) (hk : ∀ p v, w.cell? p = some v → w'.cell? p = some v) : StrsAt w' A ls := by
  rcases h with h | ⟨b, off, e, hc⟩
  · exact .inl h
  · exact .inr ⟨b, off, e, fun i hi => hk _ _ (hc i hi)⟩
theorem StrsAt.below {w w' : World} {A : Option Addr} {ls : List ByteArray} (h : StrsAt w A ls) (hb : Below w.heap.size w w') : StrsAt w' A ls := h.mono fun p v hv => by rw [hb.cell (cell_lt hv)]; exact hv
theorem OwnS.at_ {B : Nat} {w : World} {A : Option Addr} {n c : Nat} {ls : List ByteArray} (h : OwnS B w A n c ls) : StrsAt w A ls := .of_lies (B := w.heap.size) (Lies.of_own h.own)
theorem new_liesW (w : World) (cs : List Value) (T : TypeId) : Lies (w.heap.size + 1) (w.alloc (.cells cs.toArray T)) (some ⟨w.heap.size, 0, none⟩) cs := by
  refine .inr ⟨_, 0, rfl, by omega, fun j v hj => ?_⟩
  have := (Bk.new w T cs.toArray).cell j
  rw [Nat.zero_add, this]
  simpa using hj
def StrsPost (w : World) (ls : List ByteArray) (e : Ending) (w' : World) : Prop := ∃ A c, e = .returned (.slice A ls.length c) ∧ OwnS w.heap.size w' A ls.length c ls ∧ Below w.heap.size w w'
end Go.Proofs.YtlmliefkhidpnaaGreatDoor
