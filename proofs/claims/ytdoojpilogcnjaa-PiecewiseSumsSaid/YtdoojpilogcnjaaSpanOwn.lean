/- What the small functions of the developers' span return: isProper, the closures, boundsOf, slices.Equal at spans, Has. Conditions: the lists lie in memory as the arguments say; they are short. -/
import Derived.Test.YtdoojpilogcnjaaSpanMath5
import Derived.Test.YtdoojpilogcnjaaSpanBase
set_option linter.unusedVariables false
set_option linter.unusedSimpArgs false
namespace Go.Proofs.Ytdoojpilogcnjaa.Sp
open Go.RowKit
theorem proper_any (f t : Int) (w : World) : Calls Try.prog 85 #[sv f t] w fun r w' => r = .returned (.bool (decide (Proper (f, t)))) ∧ Below w.heap.size w w' := by
  have hb := alloc_below w (.cells #[.int .i64 f, .int .i64 t] 50)
  have k0 : (w.alloc (.cells #[.int .i64 f, .int .i64 t] 50)).cell? ⟨w.heap.size, 0, none⟩ = some (.int .i64 f) := by simp [World.cell?_alloc_new]
  have k1 : (w.alloc (.cells #[.int .i64 f, .int .i64 t] 50)).cell? ⟨w.heap.size, 1, none⟩ = some (.int .i64 t) := by simp [World.cell?_alloc_new]
  go_enter Try.func85, Try.ntmps85
  go_wp2
  all_goals go_ret
  all_goals exact ⟨ret_bool (by rw [Bool.eq_iff_iff, decide_eq_true_iff (p := Proper (f, t))]; show _ ↔ (-1152921504606846976 ≤ f ∧ t ≤ 1152921504606846976 ∧ f < t); first | exact iff_of_false (by decide) (by omega) | (simp only [decide_eq_true_eq]; omega)), hb⟩
/-- The closures. -/
theorem or_any (x y : Bool) (w : World) : Calls Try.prog 65 #[.bool x, .bool y] w fun r w' => r = .returned (.bool (x || y)) ∧ Below w.heap.size w w' := by
  cases x <;> cases y <;> (go_enter Try.func65, Try.ntmps65; go_wp2; go_ret; exact ⟨rfl, Below.refl _ _⟩)
/-- A bound by value. -/
abbrev bv (x : Bd) : Value := .agg #[.int .i64 x.1, .int .i64 x.2.1, .int .i64 x.2.2]
def flat3 : List Bd → List Value
  | [] => []
  | (a, k, c) :: r => .int .i64 a :: .int .i64 k :: .int .i64 c :: flat3 r
theorem flat3_length : ∀ l : List Bd, (flat3 l).length = l.length * 3
  | [] => rfl
  | (a, k, c) :: r => by
    show (flat3 r).length + 1 + 1 + 1 = (r.length + 1) * 3
    rw [flat3_length r]; omega
theorem flat3_append : ∀ l r : List Bd, flat3 (l ++ r) = flat3 l ++ flat3 r
  | [], _ => rfl
  | (a, k, c) :: l, r => by
    show Value.int .i64 a :: .int .i64 k :: .int .i64 c :: flat3 (l ++ r) = Value.int .i64 a :: .int .i64 k :: .int .i64 c :: (flat3 l ++ flat3 r)
    rw [flat3_append l r]
theorem flat3_get : ∀ (l : List Bd) (i : Nat) (x : Bd), l[i]? = some x → (flat3 l)[i * 3]? = some (.int .i64 x.1) ∧ (flat3 l)[i * 3 + 1]? = some (.int .i64 x.2.1) ∧ (flat3 l)[i * 3 + 2]? = some (.int .i64 x.2.2)
  | [], i, x, h => by simp at h
  | (a, k, c) :: r, 0, x, h => by obtain rfl := Option.some.inj h; exact ⟨rfl, rfl, rfl⟩
  | (a, k, c) :: r, i + 1, x, h => by
    have h' := flat3_get r i x h
    rw [show (i + 1) * 3 = i * 3 + 1 + 1 + 1 by omega]
    exact h'
theorem flat3_cell1 : ∀ l : List Bd, ∀ u ∈ flat3 l, u.oneCell' = true
  | [], u, hu => by cases hu
  | (a, k, c) :: r, u, hu => by
    rcases List.mem_cons.1 hu with rfl | hu
    · rfl
    · rcases List.mem_cons.1 hu with rfl | hu
      · rfl
      · rcases List.mem_cons.1 hu with rfl | hu
        · rfl
        · exact flat3_cell1 r u hu
/-- A list of bounds that the call itself made. -/
def RowB (w : World) (base : Nat) (v : Value) (l : List Bd) : Prop := w.ownsRow base 94 3 v l.length (flat3 l)
theorem RowB.nil (w : World) (base : Nat) : RowB w base (.slice none 0 0) [] := World.ownsRow_nil _ _ _ _
theorem RowB.below {w w' : World} {base : Nat} {v : Value} {l : List Bd} (h : RowB w base v l) (k : Below w.heap.size w w') : RowB w' base v l := by
  refine ⟨h.1, ?_⟩
  rcases h.2 with hn | ⟨g, cap, cur, hv, hb, hg, rest⟩
  · exact .inl hn
  · exact .inr ⟨g, cap, cur, hv, hb, (k.block g (Array.getElem?_eq_some_iff.1 hg).1).trans hg, rest⟩
theorem RowB.lower {w : World} {base base' : Nat} {v : Value} {l : List Bd} (h : RowB w base v l) (hb : base' ≤ base) : RowB w base' v l := by
  refine ⟨h.1, ?_⟩
  rcases h.2 with hn | ⟨g, cap, cur, hv, hb2, rest⟩
  · exact .inl hn
  · exact .inr ⟨g, cap, cur, hv, Nat.le_trans hb hb2, rest⟩
theorem RowB.app {w : World} {base n m : Nat} {v : Value} {l r : List Bd} (hn : n = l.length) (hm : m = r.length) (h : w.ownsRow base 94 3 v (n + m) (flat3 l ++ flat3 r)) : RowB w base v (l ++ r) := by
  subst hn; subst hm
  unfold RowB
  rw [List.length_append, flat3_append]
  exact h
theorem Try.infoB : (Try.prog.info? 94).map (fun i => (i.zero, i.size, i.bytes)) = some (some (.agg #[.int .i64 0, .int .i64 0, .int .i64 0]), 3, 24) := by kernel_rfl
theorem Try.underB : Try.prog.underlying 91 = some (.slice 94) := by kernel_rfl
theorem new_cells {w : World} {o : Obj} {cs : Array Value} {T : TypeId} (ho : o = .cells cs T) : ∀ j u, cs.toList[j]? = some u → (w.alloc o).cell? ((⟨w.heap.size, 0, none⟩ : Addr).add j) = some u := fun j u hu => by
  subst ho
  exact World.news_of_block (cs := cs) (heap_alloc_new w _) j u hu
theorem box_below {w w2 : World} {o : Obj} (hn : Below (w.alloc o).heap.size (w.alloc o) w2) : Below w.heap.size w w2 := (alloc_below w o).trans (hn.mono (alloc_below w o).size)
theorem box_fst {w w2 : World} {f t : Int} (hn : Below (w.alloc (.cells #[.int .i64 f, .int .i64 t] 50)).heap.size (w.alloc (.cells #[.int .i64 f, .int .i64 t] 50)) w2) : w2.cell? ⟨w.heap.size, 0, none⟩ = some (.int .i64 f) := cell_kept hn (by simp [World.cell?_alloc_new])
theorem box_snd {w w2 : World} {f t : Int} (hn : Below (w.alloc (.cells #[.int .i64 f, .int .i64 t] 50)).heap.size (w.alloc (.cells #[.int .i64 f, .int .i64 t] 50)) w2) : w2.cell? ⟨w.heap.size, 1, none⟩ = some (.int .i64 t) := cell_kept hn (by simp [World.cell?_alloc_new])
set_option maxHeartbeats 2000000 in
set_option maxRecDepth 100000 in
theorem bounds_any (a : Option Addr) (c : Nat) (l : List Sn) (k : Int) (w : World) (hl : l.length ≤ 2000) (z : SpansAt a l w) :
    Calls Try.prog 70 #[.slice a l.length c, .int .i64 k] w fun r w' => ∃ v, r = .returned v ∧ RowB w' w.heap.size v (bds k l) ∧ Below w.heap.size w w' := by
  obtain ⟨n, hn⟩ : ∃ n, n = l.length := ⟨_, rfl⟩
  rw [← hn] at hl ⊢
  have HN := Lib.hid hn
  have HZ := Lib.hid (fun w' (k : Below w.heap.size w w') => z.below k)
  clear hn z
  obtain ⟨i0, hi, hz0, hz1, hz2⟩ := info_parts Try.infoB
  have HI0 := Lib.hid (And.intro hi (And.intro hz0 (And.intro hz1 hz2)))
  clear hi hz0 hz1 hz2
  go_enter Try.func70, Try.ntmps70
  go_wp2
  go_loopg [5, 10] n (fun g s5 s10 wx => ∃ (i : Nat) (acc : List Bd), i + g = n ∧ s10 = .int .i64 i ∧ Hid (acc = bds k (l.take i)) ∧ acc.length ≤ i * 2 ∧ Hid (RowB wx w.heap.size s5 acc) ∧ Below w.heap.size w wx)
  case atStart => exact ⟨0, [], by omega, rfl, (show [] = _ by rw [List.take_zero]; rfl), Nat.le_refl _, RowB.nil _ _, Below.refl _ _⟩
  case round =>
    obtain ⟨i, acc, hi, rfl, HA, hal, HR, hb⟩ := hrel
    cases gk with
    | zero =>
      have hlt : ¬ (i : Int) < (n : Int) := by omega
      have HF := Lib.hid (show acc = bds k l by rw [HA.out, List.take_of_length_le (by have := HN.out; omega)])
      clear HA
      go_wp2
      go_ret
      exact ⟨_, rfl, by rw [← HF.out]; exact HR.out, hb⟩
    | succ g =>
      have hlt : (i : Int) < (n : Int) := by omega
      obtain ⟨x, hx⟩ : ∃ x, l[i]? = some x := ⟨_, List.getElem?_eq_getElem (by have := HN.out; omega)⟩
      obtain ⟨bb, off, rfl, c1, c2⟩ := HZ.out _ hb i x hx
      have HT := Lib.hid (bds_snoc (k := k) hx)
      clear hx
      obtain ⟨x1, x2⟩ := x
      have hq := fun w => proper_any x1 x2 w
      by_cases hp : Proper (x1, x2)
      · rw [decide_eq_true hp] at hq
        have HP := Lib.hid hq
        have HA2 := Lib.hid (show acc ++ [(x1, k, 1), (x2, k, -1)] = bds k (l.take (i + 1)) by rw [HT.out, HA.out]; unfold bd2; rw [if_pos hp])
        have hsz := hb.size
        clear hq hp HA HT
        go_wp2_with (first
          | (go_at_call 85; with_reducible refine (HP.out _).mono ?_; rintro e w2 ⟨rfl, hn⟩; have e1 := box_fst hn; have e2 := box_snd hn; replace hn := box_below hn; replace hb := hb.trans (hn.mono hb.size); have HR2 := Lib.hid (HR.out.below hn); clear hn c1 c2)
          | (at_builtin; refine wpList_append_own _ rfl _ _ 91 rfl w.heap.size 94 i0 (.agg #[.int .i64 0, .int .i64 0, .int .i64 0]) 3 24 Try.underB HI0.out.1 HI0.out.2.1 HI0.out.2.2.1 HI0.out.2.2.2 rfl (by decide) _ _ _ rfl (World.ownsRow.alloc HR2.out _) _ 2 2 (flat3 [(x1, k, 1), (x2, k, -1)]) rfl rfl (new_cells rfl) (flat3_cell1 _) (by unfold maxLen; omega) (by omega) (by have := hb.size; simp; omega) ?_; intro v' w4 hown' hgrow _; have hB := row_grown hb hb.size (World.ownsRow.alloc HR2.out _) hgrow (Nat.le_refl _); have HR1 := Lib.hid (RowB.app (l := acc) (r := [(x1, k, 1), (x2, k, -1)]) rfl rfl hown'); clear hown' hgrow))
        go_roundg g
        case measure => omega
        case rel => exact ⟨i + 1, _, by omega, by go_num, HA2.out, by rw [List.length_append]; show _ + 2 ≤ _; omega, HR1.out, hB⟩
      · rw [decide_eq_false hp] at hq
        have HP := Lib.hid hq
        have HA2 := Lib.hid (show acc = bds k (l.take (i + 1)) by rw [HT.out, HA.out]; unfold bd2; rw [if_neg hp, List.append_nil])
        clear hq hp HA HT
        go_wp2_with (first
          | (go_at_call 85; with_reducible refine (HP.out _).mono ?_; rintro e w2 ⟨rfl, hn⟩; replace hn := box_below hn; replace hb := hb.trans (hn.mono hb.size); have HR2 := Lib.hid (HR.out.below hn); clear hn c1 c2))
        go_roundg g
        case measure => omega
        case rel => exact ⟨i + 1, acc, by omega, by go_num, HA2.out, by omega, HR2.out, hb⟩
end Go.Proofs.Ytdoojpilogcnjaa.Sp
