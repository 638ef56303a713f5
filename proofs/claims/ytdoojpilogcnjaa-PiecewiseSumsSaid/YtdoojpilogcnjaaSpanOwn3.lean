/- What slices.Grow and slices.Concat at bounds return. Conditions: the lists lie in memory as the arguments say; they are short. -/
import Derived.Test.YtdoojpilogcnjaaSpanOwn2
import Derived.Test.YtdoojpilogcnjaaSpanRef6
import Derived.Lib.AppendZerosOnto
set_option linter.unusedVariables false
set_option linter.unusedSimpArgs false
namespace Go.Proofs.Ytdoojpilogcnjaa.Sp
open Go.RowKit Go.Lib
theorem RowB.src {w : World} {base : Nat} {v : Value} {l : List Bd} (h : RowB w base v l) : SrcAt w v l.length (flat3 l) := by
  rcases h.2 with ⟨hv, hn⟩ | ⟨g, cap, cur, hv, hb, hg, rest⟩
  · refine .inl ⟨hv, hn, ?_⟩
    rw [List.eq_nil_of_length_eq_zero hn]; rfl
  · exact .inr ⟨⟨g, 0, none⟩, cap, hv, fun j u hu => by subst hv; exact World.ownsRow.cells h (g := g) rfl j u hu⟩
theorem RowB.slice {w : World} {base : Nat} {v : Value} {l : List Bd} (h : RowB w base v l) : ∃ a cap, v = .slice a l.length cap := by
  rcases h.2 with ⟨hv, hn⟩ | ⟨g, cap, cur, hv, hb, hg, rest⟩
  · exact ⟨none, 0, by rw [hv, hn]⟩
  · exact ⟨_, cap, hv⟩
theorem RowB.made {w : World} {base : Nat} (cur : Array Value) (cap : Nat) (hb : base ≤ w.heap.size) (hm : cap ≤ maxLen) (hs : cur.size = cap * 3) : RowB (w.alloc (.cells cur 94)) base (.slice (some ⟨w.heap.size, 0, none⟩) 0 cap) [] := World.ownsRow_made w cur cap hb hm hs
theorem zeroCells_size (cs : Array Value) : ∀ n, (Builtin.zeroCells cs n).size = n * cs.size := fun n => by
  simp [Builtin.zeroCells]
set_option maxHeartbeats 2000000 in
set_option maxRecDepth 100000 in
theorem grow_any (k : Int) (w : World) (h0 : 0 ≤ k) (h1 : k ≤ 100000) :
    Calls Try.prog 84 #[.slice none 0 0, .int .i64 k] w fun r w' => ∃ v, r = .returned v ∧ RowB w' w.heap.size v [] ∧ Below w.heap.size w w' := by
  obtain ⟨n, rfl⟩ := Int.eq_ofNat_of_zero_le h0
  have hn : n ≤ 100000 := by omega
  by_cases hz : n = 0
  · subst hz
    clear h0 h1 hn
    go_enter Try.func84, Try.ntmps84
    go_wp2
    go_ret
    exact ⟨_, rfl, RowB.nil _ _, Below.refl _ _⟩
  · obtain ⟨i0, hi, hz0, hz1, hz2⟩ := info_parts Try.infoB
    have hold : (Builtin.firstCells i0.size 0 (.slice none 0 0)).run Try.prog w.drew = .ok (([] : List Value).toArray) w.drew := run_firstCells_none w.drew i0.size 0 0 0
    have hrz : ∀ ty, (Builtin.append_ #[91, 3] ty #[.slice none 0 0, .int .i64 (n : Int)]).run Try.prog w = .ok (.slice (some ⟨w.heap.size, 0, none⟩) n (grownCap w n 0 94)) (w.drew.alloc (.cells (([] : List Value).toArray ++ Builtin.zeroCells (Value.agg #[.int .i64 0, .int .i64 0, .int .i64 0]).cells n ++ Builtin.zeroCells (Value.agg #[.int .i64 0, .int .i64 0, .int .i64 0]).cells (grownCap w n 0 94 - n)) 94)) := fun ty => by
      have h := Lib.run_append_grow_zeros (P := Try.prog) w 91 3 ty 94 i0 _ .i64 .i64 Try.underB (by kernel_rfl) hi hz0 none 0 0 [] hold n (by omega) (by omega) (by omega) (by omega) (by rw [hz2]; omega) (by
        exact growslice_fits (by omega) (by rw [hz2]; omega))
      simpa only [Nat.zero_add] using h
    have hG : n ≤ grownCap w n 0 94 := grownCap_ge w _ _ _
    have hGm := grownCap_le_maxLen w n 0 94 (by unfold maxLen; omega)
    obtain ⟨G, hG'⟩ : ∃ G, G = grownCap w n 0 94 := ⟨_, rfl⟩
    rw [← hG'] at hrz hG hGm
    have hGm2 := hGm
    unfold maxLen at hGm2
    have hsize : (([] : List Value).toArray ++ Builtin.zeroCells (Value.agg #[.int .i64 0, .int .i64 0, .int .i64 0]).cells n ++ Builtin.zeroCells (Value.agg #[.int .i64 0, .int .i64 0, .int .i64 0]).cells (G - n)).size = G * 3 := by
      rw [Array.size_append, Array.size_append, zeroCells_size, zeroCells_size]
      show 0 + n * 3 + (G - n) * 3 = G * 3
      omega
    generalize hcur : (([] : List Value).toArray ++ Builtin.zeroCells (Value.agg #[.int .i64 0, .int .i64 0, .int .i64 0]).cells n ++ Builtin.zeroCells (Value.agg #[.int .i64 0, .int .i64 0, .int .i64 0]).cells (G - n)) = cur at hrz hsize
    have HR := Lib.hid (RowB.made (w := w.drew) (base := w.heap.size) cur G (Nat.le_refl _) hGm hsize)
    have HB := Lib.hid (show Below w.heap.size w (w.drew.alloc (.cells cur 94)) from (below_drewN (Below.refl _ _) 1).trans ((alloc_below w.drew _).mono (Nat.le_refl _)))
    have hw1 : IntKind.i64.wrap ((n : Int) - 0) = (n : Int) := by rw [Int.sub_zero]; exact IntWalk.i64_in _ (by omega)
    have hpos : (0 : Int) < (n : Int) := by omega
    have hneg : ¬ (n : Int) < 0 := by omega
    clear hold hcur hG' hsize hi hz0 hz1 hz2 hz h0 h1
    go_enter Try.func84, Try.ntmps84
    go_wp2_with (at_builtin; refine Lib.wpList_append_run _ rfl _ _ _ _ rfl _ _ rfl rfl _ _ (hrz _) ?_)
    go_ret
    exact ⟨_, rfl, HR.out, HB.out⟩
set_option maxHeartbeats 4000000 in
set_option maxRecDepth 100000 in
theorem concat_any (g c : Nat) (v1 v2 : Value) (l1 l2 : List Bd) (b1 b2 : Nat) (w : World) (hl1 : l1.length ≤ 4000) (hl2 : l2.length ≤ 4000) (r1 : RowB w b1 v1 l1) (r2 : RowB w b2 v2 l2)
    (k1 : w.cell? ⟨g, 0, none⟩ = some v1) (k2 : w.cell? ⟨g, 1, none⟩ = some v2) :
    Calls Try.prog 69 #[.slice (some ⟨g, 0, none⟩) 2 c] w fun r w' => ∃ v, r = .returned v ∧ RowB w' w.heap.size v (l1 ++ l2) ∧ Below w.heap.size w w' := by
  obtain ⟨a1, c1, rfl⟩ := r1.slice
  obtain ⟨a2, c2, rfl⟩ := r2.slice
  have HK := Lib.hid (fun w' (k : Below w.heap.size w w') => And.intro (cell_kept k k1) (cell_kept k k2))
  have HS1 := Lib.hid (fun w' (k : Below w.heap.size w w') => RowB.src (r1.below k))
  have HS2 := Lib.hid (fun w' (k : Below w.heap.size w w') => RowB.src (r2.below k))
  have HF1 := Lib.hid (flat3_length l1)
  have HF2 := Lib.hid (flat3_length l2)
  obtain ⟨n1, hn1⟩ : ∃ n, n = l1.length := ⟨_, rfl⟩
  obtain ⟨n2, hn2⟩ : ∃ n, n = l2.length := ⟨_, rfl⟩
  rw [← hn1] at HS1 HF1 k1 hl1 HK
  rw [← hn2] at HS2 HF2 k2 hl2 HK
  have HN1 := Lib.hid hn1
  have HN2 := Lib.hid hn2
  clear r1 r2 hn1 hn2
  obtain ⟨i0, hi, hz0, hz1, hz2⟩ := info_parts Try.infoB
  have HI0 := Lib.hid (And.intro hi (And.intro hz0 (And.intro hz1 hz2)))
  clear hi hz0 hz1 hz2
  have HG := Lib.hid (grow_any ((n1 : Int) + (n2 : Int)) w (by omega) (by omega))
  have hw1 := IntWalk.i64_in (0 + (n1 : Int)) (by omega)
  have hw2 := IntWalk.i64_in ((n1 : Int) + (n2 : Int)) (by omega)
  have hp1 : ¬ (n1 : Int) < 0 := by omega
  have hp2 : ¬ (n1 : Int) + (n2 : Int) < 0 := by omega
  go_enter Try.func69, Try.ntmps69
  go_wp2
  go_loopg [3, 11] 2 (fun g s3 s11 wx => ((g = 2 ∧ s11 = .int .i64 0 ∧ s3 = .int .i64 0) ∨ (g = 1 ∧ s11 = .int .i64 1 ∧ s3 = .int .i64 n1) ∨ (g = 0 ∧ s11 = .int .i64 2 ∧ s3 = .int .i64 ((n1 : Int) + (n2 : Int)))) ∧ wx = w)
  case atStart => exact ⟨.inl ⟨rfl, rfl, rfl⟩, rfl⟩
  case round =>
    obtain ⟨hr, hwr⟩ := hrel
    subst hwr
    rcases hr with ⟨rfl, rfl, rfl⟩ | ⟨rfl, rfl, rfl⟩ | ⟨rfl, rfl, rfl⟩
    · go_wp2
      go_roundg 1
      case measure => omega
      case rel => exact ⟨.inr (.inl ⟨rfl, by go_num, by go_num⟩), rfl⟩
    · go_wp2
      go_roundg 0
      case measure => omega
      case rel => exact ⟨.inr (.inr ⟨rfl, by go_num, by go_num⟩), rfl⟩
    · clear k1 k2
      go_wp2_with (first
        | (go_at_call 84; (with_reducible refine HG.out.mono ?_); rintro e w1 ⟨v0, rfl, hr0, hb0⟩; have HR0 := Lib.hid hr0; have HB0 := Lib.hid hb0; clear hr0 hb0 HG))
      clear hw1 hw2 hp1 hp2
      go_loopg [6, 27] 2 (fun g s6 s27 wx => ((g = 2 ∧ s27 = .int .i64 0 ∧ Hid (RowB wx wr.heap.size s6 [])) ∨ (g = 1 ∧ s27 = .int .i64 1 ∧ Hid (RowB wx wr.heap.size s6 l1)) ∨ (g = 0 ∧ s27 = .int .i64 2 ∧ Hid (RowB wx wr.heap.size s6 (l1 ++ l2)))) ∧ Below wr.heap.size wr wx)
      case atStart => exact ⟨.inl ⟨rfl, rfl, HR0.out⟩, HB0.out⟩
      case round =>
        obtain ⟨hr, hb⟩ := hrel
        rcases hr with ⟨rfl, rfl, HR⟩ | ⟨rfl, rfl, HR⟩ | ⟨rfl, rfl, HR⟩
        · have hsz := hb.size
          obtain ⟨k1, k2⟩ := HK.out _ hb
          go_wp2_with (first
            | (at_builtin; refine wpList_append_src rfl _ _ 91 rfl _ 94 i0 (.agg #[.int .i64 0, .int .i64 0, .int .i64 0]) 3 24 Try.underB HI0.out.1 HI0.out.2.1 HI0.out.2.2.1 HI0.out.2.2.2 rfl (by decide) _ 0 (flat3 []) rfl HR.out _ n1 (flat3 l1) rfl (HS1.out _ hb) HF1.out (flat3_cell1 _) (by unfold maxLen; omega) (by omega) hsz ?_; intro v' w4 hown' hgrow; have hB := hb.grown hgrow hsz (fun k hk => (HR.out.lt k hk).1); have HR1 := Lib.hid (RowB.app (l := []) (r := l1) rfl HN1.out hown'); clear hown' hgrow k1 k2))
          go_roundg 1
          case measure => omega
          case rel => exact ⟨.inr (.inl ⟨rfl, by go_num, HR1.out⟩), hB⟩
        · have hsz := hb.size
          obtain ⟨k1, k2⟩ := HK.out _ hb
          go_wp2_with (first
            | (at_builtin; refine wpList_append_src rfl _ _ 91 rfl _ 94 i0 (.agg #[.int .i64 0, .int .i64 0, .int .i64 0]) 3 24 Try.underB HI0.out.1 HI0.out.2.1 HI0.out.2.2.1 HI0.out.2.2.2 rfl (by decide) _ n1 (flat3 l1) rfl (by have h := HR.out; unfold RowB at h; rw [← HN1.out] at h; exact h) _ n2 (flat3 l2) rfl (HS2.out _ hb) HF2.out (flat3_cell1 _) (by unfold maxLen; omega) (by omega) hsz ?_; intro v' w4 hown' hgrow; have hB := hb.grown hgrow hsz (fun k hk => (World.ownsRow.lt HR.out k hk).1); have HR1 := Lib.hid (RowB.app (l := l1) (r := l2) HN1.out HN2.out hown'); clear hown' hgrow k1 k2))
          go_roundg 0
          case measure => omega
          case rel => exact ⟨.inr (.inr ⟨rfl, by go_num, HR1.out⟩), hB⟩
        · go_wp2
          go_ret
          exact ⟨_, rfl, HR.out, hb⟩
end Go.Proofs.Ytdoojpilogcnjaa.Sp
