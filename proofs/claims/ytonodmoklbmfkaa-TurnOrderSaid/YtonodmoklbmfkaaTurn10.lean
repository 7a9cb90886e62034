/- turn: the library's stable sort of at most 40. -/
import Derived.Test.YtonodmoklbmfkaaTurn4
import Derived.Test.YtonodmoklbmfkaaTurn9
namespace Go.Proofs.Ytonodmoklbmfkaa
open Go.ChangeShapes Go.WideShapes Go.ChangeAt Go.RowKit
set_option linter.unusedVariables false
set_option linter.unusedSimpArgs false
def StbPost (w : World) (B g n c : Nat) (l : List WhoM) (e : Ending) (w' : World) : Prop := e = .returned (.tuple #[]) ∧ ∃ S, Srt S ∧ S.Perm l ∧ OwnW B w' (some ⟨g, 0, none⟩) n c S ∧ Turned [g] w w'
theorem partW_two {l : List WhoM} (h : 20 ≤ l.length) : partW l 0 20 = sortW (l.take 20) ++ l.drop 20 ∧ partW (partW l 0 20) 20 l.length = sortW (l.take 20) ++ sortW (l.drop 20) := by
  have h1 : partW l 0 20 = sortW (l.take 20) ++ l.drop 20 := by unfold partW; simp
  have hl : (sortW (l.take 20)).length = 20 := by rw [sortW_len, List.length_take]; omega
  refine ⟨h1, ?_⟩
  rw [h1]
  unfold partW
  have e1 : (sortW (l.take 20) ++ l.drop 20).take 20 = sortW (l.take 20) := List.take_left' hl
  have e2 : (sortW (l.take 20) ++ l.drop 20).drop 20 = l.drop 20 := List.drop_left' hl
  have e3 : (l.drop 20).take (l.length - 20) = l.drop 20 := List.take_of_length_le (by rw [List.length_drop]; omega)
  have e4 : (sortW (l.take 20) ++ l.drop 20).drop l.length = [] := List.drop_eq_nil_of_le (by rw [List.length_append, hl, List.length_drop]; omega)
  rw [e1, e2, e3, e4, List.append_nil]
set_option maxHeartbeats 4000000 in
set_option maxRecDepth 100000 in
theorem stable40_any (B : Nat) (g n c : Nat) (l : List WhoM) (w : World) (ho : OwnW B w (some ⟨g, 0, none⟩) n c l) (h20 : 20 < n) (hn : n ≤ 40) (wf : ∀ x ∈ l, x.wf) :
    Calls Try.prog 14 #[.slice (some ⟨g, 0, none⟩) n c, .int .i64 n, .func (Fn.func 13) #[] #[]] w (StbPost w B g n c l) := by
  have hl := ho.len
  obtain ⟨t1, t2⟩ := partW_two (l := l) (by omega)
  rw [← hl] at t2
  obtain ⟨l1, hl1⟩ : ∃ l1, partW l 0 20 = l1 := ⟨_, rfl⟩
  rw [hl1] at t1 t2
  have hla : (sortW (l.take 20)).length = 20 := by rw [sortW_len, List.length_take]; omega
  have hlb : (sortW (l.drop 20)).length = n - 20 := by rw [sortW_len, List.length_drop]; omega
  have sa : Srt (sortW (l.take 20)) := sort_srt _
  have sb : Srt (sortW (l.drop 20)) := sort_srt _
  have hp : (sortW (l.take 20) ++ sortW (l.drop 20)).Perm l := ((sortW_perm _).append (sortW_perm _)).trans (by rw [List.take_append_drop])
  have w1 : ∀ x ∈ l1, x.wf := fun x hx => wf x ((partW_mem (l := l) (a := 0) (b := 20) (by omega)).mem_iff.1 (hl1 ▸ hx))
  have w2 : ∀ x ∈ sortW (l.take 20) ++ sortW (l.drop 20), x.wf := fun x hx => wf x (hp.mem_iff.1 hx)
  have C1 := ins_any B g n c 0 20 l w ho (by omega) (by omega) (by omega) wf
  rw [hl1] at C1
  obtain ⟨LA, hLA⟩ : ∃ LA, sortW (l.take 20) = LA := ⟨_, rfl⟩
  obtain ⟨LB, hLB⟩ : ∃ LB, sortW (l.drop 20) = LB := ⟨_, rfl⟩
  rw [hLA] at hla sa hp w2 t2
  rw [hLB] at hlb sb hp w2 t2
  have C2 : ∀ u, OwnW B u (some ⟨g, 0, none⟩) n c l1 → Calls Try.prog 15 #[.slice (some ⟨g, 0, none⟩) n c, .int .i64 20, .int .i64 n, .func (Fn.func 13) #[] #[]] u (InsPost u B g n c (LA ++ LB)) := fun u h => by
    have := ins_any B g n c 20 n l1 u h (by omega) (by omega) (by omega) w1
    rw [t2] at this
    exact this
  have C3 : ∀ u, OwnW B u (some ⟨g, 0, none⟩) n c (LA ++ LB) → Calls Try.prog 16 #[.slice (some ⟨g, 0, none⟩) n c, .int .i64 0, .int .i64 20, .int .i64 n, .func (Fn.func 13) #[] #[]] u (SymPost u B g n c [] (LA ++ LB) []) := fun u h =>
    sym_any (n + 1) B g n c [] LA LB [] u (by simpa using h) (by omega) sa sb w2 0 20 n rfl (by simp [hla]) (by simp; omega) (by omega) (by omega) (by omega)
  have HC1 := hidp C1
  have HC2 := hidp C2
  have HC3 := hidp C3
  have HP := hidp hp
  have HW2 := hidp w2
  have HLN : Hid ((LA ++ LB).length = n) := hidp (by rw [List.length_append]; omega)
  clear hl t1 t2 hl1 hla hlb sa sb hp w1 w2 C1 C2 C3 hLA hLB wf ho
  by_cases e : n = 40
  · subst e
    have HC4 : Hid (∀ u, OwnW B u (some ⟨g, 0, none⟩) 40 c (LA ++ LB) → Calls Try.prog 15 #[.slice (some ⟨g, 0, none⟩) 40 c, .int .i64 40, .int .i64 40, .func (Fn.func 13) #[] #[]] u (InsPost u B g 40 c (LA ++ LB))) := hidp (fun u h => by
      have := ins_any B g 40 c 40 40 (LA ++ LB) u h (Nat.le_refl _) (Nat.le_refl _) (by omega) HW2.out
      rw [partW_one 40 (by omega) (Nat.le_refl _)] at this
      exact this)
    clear h20 hn
    go_enter Try.func14, Try.ntmps14
    go_wp2
    go_loopg [7, 8] 2 (fun gg a b wr => (gg = 2 ∧ a = .int .i64 0 ∧ b = .int .i64 20 ∧ w = wr) ∨ (gg = 1 ∧ a = .int .i64 20 ∧ b = .int .i64 40 ∧ OwnW B wr (some ⟨g, 0, none⟩) 40 c l1 ∧ Turned [g] w wr) ∨ (gg = 0 ∧ a = .int .i64 40 ∧ b = .int .i64 60 ∧ OwnW B wr (some ⟨g, 0, none⟩) 40 c (LA ++ LB) ∧ Turned [g] w wr))
    case atStart => exact .inl ⟨rfl, rfl, rfl, rfl⟩
    case round =>
      rcases hrel with ⟨hg, rfl, rfl, rfl⟩ | ⟨hg, rfl, rfl, ho, ht⟩ | ⟨hg, rfl, rfl, ho, ht⟩
      · go_wp2_with fail
        refine HC1.out.mono ?_
        rintro e w2 ⟨rfl, ho2, ht2⟩
        go_wp2_with fail
        go_roundg 1
        case measure => omega
        case rel => exact .inr (.inl ⟨rfl, rfl, rfl, ho2, ht2⟩)
      · have C := HC2.out wr ho
        go_wp2_with fail
        refine C.mono ?_
        rintro e w2 ⟨rfl, ho2, ht2⟩
        go_wp2_with fail
        go_roundg 0
        case measure => omega
        case rel => exact .inr (.inr ⟨rfl, rfl, rfl, ho2, ht.trans ht2 (by simp)⟩)
      · have C := HC4.out wr ho
        go_wp2_with fail
        refine C.mono ?_
        rintro e w2 ⟨rfl, ho2, ht2⟩
        have ht3 := ht.trans ht2 (by simp)
        clear ho ht ht2 C
        go_wp2_with fail
        go_loopg [6] 1 (fun gg a w5 => (gg = 1 ∧ a = .int .i64 20 ∧ OwnW B w5 (some ⟨g, 0, none⟩) 40 c (LA ++ LB) ∧ Turned [g] w w5) ∨ (gg = 0 ∧ a = .int .i64 40 ∧ StbPost w B g 40 c l (.returned (.tuple #[])) w5))
        case atStart => exact .inl ⟨rfl, rfl, ho2, ht3⟩
        case round =>
          rcases hrel with ⟨hg, rfl, ho3, ht4⟩ | ⟨hg, rfl, hpost⟩
          · go_wp2_with fail
            go_loopg [7, 8] 1 (fun gg a b w6 => (gg = 1 ∧ a = .int .i64 0 ∧ b = .int .i64 40 ∧ OwnW B w6 (some ⟨g, 0, none⟩) 40 c (LA ++ LB) ∧ Turned [g] w w6) ∨ (gg = 0 ∧ a = .int .i64 40 ∧ b = .int .i64 80 ∧ StbPost w B g 40 c l (.returned (.tuple #[])) w6))
            case atStart => exact .inl ⟨rfl, rfl, rfl, ho3, ht4⟩
            case round =>
              rcases hrel with ⟨hg, rfl, rfl, ho4, ht5⟩ | ⟨hg, rfl, rfl, hpost⟩
              · have C := HC3.out _ ho4
                go_wp2_with fail
                refine C.mono ?_
                rintro e w7 ⟨rfl, S, s1, p1, ho5, ht6⟩
                have HS : Hid (StbPost w B g 40 c l (.returned (.tuple #[])) w7) := hidp ⟨rfl, S, s1, p1.trans HP.out, by simpa using ho5, ht5.trans ht6 (by simp)⟩
                clear C ho4 ht5 ho5 ht6 s1 p1
                go_wp2_with fail
                go_roundg 0
                case measure => omega
                case rel => exact .inr ⟨rfl, rfl, rfl, HS.out⟩
              · go_wp2_with fail
                go_roundg 0
                case measure => omega
                case rel => exact .inr ⟨rfl, rfl, hpost⟩
          · go_wp2_with fail
            refine bodyPost_ret (v := .tuple #[]) (by simp [results, Try.results14, go_sem]) rfl hpost
  · have hlt : n < 40 := by omega
    have h1 : (20 : Int) ≤ (n : Int) := by omega
    have h2 : ¬ (40 : Int) ≤ (n : Int) := by omega
    have h3 : (20 : Int) < (n : Int) := by omega
    have h4 : ¬ (40 : Int) < (n : Int) := by omega
    clear h20 hn e hlt
    go_enter Try.func14, Try.ntmps14
    go_wp2
    go_loopg [7, 8] 1 (fun gg a b wr => (gg = 1 ∧ a = .int .i64 0 ∧ b = .int .i64 20 ∧ w = wr) ∨ (gg = 0 ∧ a = .int .i64 20 ∧ b = .int .i64 40 ∧ OwnW B wr (some ⟨g, 0, none⟩) n c l1 ∧ Turned [g] w wr))
    case atStart => exact .inl ⟨rfl, rfl, rfl, rfl⟩
    case round =>
      rcases hrel with ⟨hg, rfl, rfl, rfl⟩ | ⟨hg, rfl, rfl, ho, ht⟩
      · go_wp2_with fail
        refine HC1.out.mono ?_
        rintro e w2 ⟨rfl, ho2, ht2⟩
        go_wp2_with fail
        go_roundg 0
        case measure => omega
        case rel => exact .inr ⟨rfl, rfl, rfl, ho2, ht2⟩
      · have C := HC2.out wr ho
        go_wp2_with fail
        refine C.mono ?_
        rintro e w2 ⟨rfl, ho2, ht2⟩
        have ht3 := ht.trans ht2 (by simp)
        clear ho ht ht2 C
        go_wp2_with fail
        go_loopg [6] 1 (fun gg a w5 => (gg = 1 ∧ a = .int .i64 20 ∧ OwnW B w5 (some ⟨g, 0, none⟩) n c (LA ++ LB) ∧ Turned [g] w w5) ∨ (gg = 0 ∧ a = .int .i64 40 ∧ StbPost w B g n c l (.returned (.tuple #[])) w5))
        case atStart => exact .inl ⟨rfl, rfl, ho2, ht3⟩
        case round =>
          rcases hrel with ⟨hg, rfl, ho3, ht4⟩ | ⟨hg, rfl, hpost⟩
          · go_wp2_with fail
            go_loopg [7, 8] 0 (fun gg a b w6 => a = .int .i64 0 ∧ b = .int .i64 40 ∧ OwnW B w6 (some ⟨g, 0, none⟩) n c (LA ++ LB) ∧ Turned [g] w w6)
            case atStart => exact ⟨rfl, rfl, ho3, ht4⟩
            case round =>
              obtain ⟨rfl, rfl, ho4, ht5⟩ := hrel
              have C := HC3.out _ ho4
              go_wp2_with fail
              refine C.mono ?_
              rintro e w7 ⟨rfl, S, s1, p1, ho5, ht6⟩
              have HS : Hid (StbPost w B g n c l (.returned (.tuple #[])) w7) := hidp ⟨rfl, S, s1, p1.trans HP.out, by simpa using ho5, ht5.trans ht6 (by simp)⟩
              clear C ho4 ht5 ho5 ht6 s1 p1
              go_wp2_with fail
              go_roundg 0
              case measure => omega
              case rel => exact .inr ⟨rfl, rfl, HS.out⟩
          · go_wp2_with fail
            refine bodyPost_ret (v := .tuple #[]) (by simp [results, Try.results14, go_sem]) rfl hpost
theorem sort40_any (B : Nat) (g n c : Nat) (l : List WhoM) (w : World) (ho : OwnW B w (some ⟨g, 0, none⟩) n c l) (hn : n ≤ 40) (wf : ∀ x ∈ l, x.wf) :
    Calls Try.prog 12 #[.slice (some ⟨g, 0, none⟩) n c, .func (Fn.func 13) #[] #[]] w (StbPost w B g n c l) := by
  by_cases h20 : n ≤ 20
  · refine (sortStable_any B g n c l w ho h20 wf).mono ?_
    rintro e w2 ⟨rfl, ho2, ht2⟩
    exact ⟨rfl, _, sort_srt l, sortW_perm l, ho2, ht2⟩
  · have C := hidp (stable40_any B g n c l w ho (by omega) hn wf)
    clear h20 hn wf ho
    go_enter Try.func12, Try.ntmps12
    go_wp2_with fail
    refine C.out.mono ?_
    rintro e w2 hpost
    have HE := hpost.1
    subst HE
    go_wp2_with fail
    refine bodyPost_ret (v := .tuple #[]) (by simp [results, Try.results12, go_sem]) rfl hpost
def KLe (a b : Int × Int × Int) : Prop := a.1 < b.1 ∨ (a.1 = b.1 ∧ (a.2.1 < b.2.1 ∨ (a.2.1 = b.2.1 ∧ a.2.2 ≤ b.2.2)))
theorem kle_anti {a b : Int × Int × Int} (h1 : KLe a b) (h2 : KLe b a) : a = b := by
  obtain ⟨a0, a1, a2⟩ := a
  obtain ⟨b0, b1, b2⟩ := b
  unfold KLe at h1 h2
  dsimp only at h1 h2
  have e0 : a0 = b0 := by omega
  have e1 : a1 = b1 := by omega
  have e2 : a2 = b2 := by omega
  rw [e0, e1, e2]
theorem lex_uniq : ∀ (a b : List (Int × Int × Int)), a.Perm b → a.Pairwise KLe → b.Pairwise KLe → a = b
  | [], b, h, _, _ => (List.nil_perm.1 h).symm
  | x :: a, [], h, _, _ => absurd h.length_eq (by simp)
  | x :: a, y :: b, h, ha, hb => by
    have hxy : x = y := by
      rcases List.mem_cons.1 (h.mem_iff.2 (List.mem_cons_self ..) : y ∈ x :: a) with e | e
      · exact e.symm
      · rcases List.mem_cons.1 (h.mem_iff.1 (List.mem_cons_self ..) : x ∈ y :: b) with e2 | e2
        · exact e2
        · exact kle_anti ((List.pairwise_cons.1 ha).1 y e) ((List.pairwise_cons.1 hb).1 x e2)
    subst hxy
    rw [lex_uniq a b ((List.perm_cons x).1 h) (List.pairwise_cons.1 ha).2 (List.pairwise_cons.1 hb).2]
/-- whichever of two is put in order: the tasks come in the same order -/
theorem srt_tasks {S T : List WhoM} (hs : Srt S) (ht : Srt T) (h : S.Perm T) : S.map WhoM.task = T.map WhoM.task := by
  have hk : ∀ L : List WhoM, Srt L → (L.map fun x => (key1 x, key2 x, x.task)).Pairwise KLe := fun L hL => by
    rw [List.pairwise_map]
    refine List.Pairwise.imp (fun {x y} hxy => ?_) hL
    unfold Lew at hxy
    rw [not_ahead] at hxy
    unfold KLe
    dsimp only
    omega
  have e := lex_uniq _ _ (h.map fun x => (key1 x, key2 x, x.task)) (hk S hs) (hk T ht)
  have := congrArg (List.map fun q : Int × Int × Int => q.2.2) e
  simpa [List.map_map, Function.comp_def] using this
end Go.Proofs.Ytonodmoklbmfkaa
