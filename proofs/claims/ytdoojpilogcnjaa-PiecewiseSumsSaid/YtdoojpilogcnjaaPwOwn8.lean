/- What the developers' sortedKeys returns at pieces and the key of their beginnings: the beginnings in order, each once. Conditions: the pieces lie in memory as the argument says; there is one at least, and not too many. -/
import Derived.Test.YtdoojpilogcnjaaPwOwn2
import Derived.Test.YtdoojpilogcnjaaShelf
import Derived.Lib.RowBridge
set_option linter.unusedVariables false
set_option linter.unusedSimpArgs false
namespace Go.Proofs.Ytdoojpilogcnjaa.Pw
open Go.RowKit Go.Proofs.Ytdoojpilogcnjaa.Sp
def IntsAt (a : Option Addr) (l : List Int) (w : World) : Prop := ∀ i x, l[i]? = some x → ∃ b off, a = some ⟨b, off, none⟩ ∧ w.cell? ⟨b, off + i, none⟩ = some (.int .i64 x)
theorem IntsAt.below {a : Option Addr} {l : List Int} {w w' : World} (h : IntsAt a l w) (k : Below w.heap.size w w') : IntsAt a l w' := fun i x hx => by
  obtain ⟨b, off, e, hc⟩ := h i x hx
  exact ⟨b, off, e, cell_kept k hc⟩
/-- An ordered list without its repetitions. -/
theorem cmp_getD (zs : List Int) (j : Nat) : zs.toArray[j]! = zs.getD j 0 := by
  rw [List.getElem!_toArray, List.getElem!_eq_getElem?_getD, List.getD_eq_getElem?_getD]; rfl
theorem compact_mem (zs : List Int) (x : Int) : x ∈ Lib.compact zs ↔ x ∈ zs := by
  unfold Lib.compact Lib.compactUpTo
  constructor
  · intro h
    obtain ⟨j, hj, rfl⟩ := List.mem_map.1 h
    have hj2 := List.mem_range.1 (List.mem_filter.1 hj).1
    rw [cmp_getD, List.getD_eq_getElem?_getD, List.getElem?_eq_getElem hj2]
    exact List.getElem_mem hj2
  · intro h
    obtain ⟨j, hj, rfl⟩ := List.getElem_of_mem h
    have key : ∀ k : Nat, ∀ hk : k < zs.length, zs[k] ∈ List.map (fun j => zs.toArray[j]!) (List.filter (Lib.keeps zs.toArray) (List.range zs.length)) := by
      intro k
      induction k with
      | zero => intro hk; exact List.mem_map.2 ⟨0, List.mem_filter.2 ⟨List.mem_range.2 hk, by simp [Lib.keeps]⟩, by rw [cmp_getD, List.getD_eq_getElem?_getD, List.getElem?_eq_getElem hk]; rfl⟩
      | succ k ih =>
        intro hk
        by_cases e : zs[k + 1] = zs[k]
        · rw [e]; exact ih (by omega)
        · refine List.mem_map.2 ⟨k + 1, List.mem_filter.2 ⟨List.mem_range.2 hk, ?_⟩, by rw [cmp_getD, List.getD_eq_getElem?_getD, List.getElem?_eq_getElem hk]; rfl⟩
          unfold Lib.keeps
          refine decide_eq_true (Or.inr ?_)
          rw [cmp_getD, cmp_getD, List.getD_eq_getElem?_getD, List.getElem?_eq_getElem hk, List.getD_eq_getElem?_getD, show k + 1 - 1 = k by omega, List.getElem?_eq_getElem (show k < zs.length by omega)]
          exact e
    exact key j hj
theorem compact_up {zs : List Int} (h : zs.Pairwise (· ≤ ·)) : Up (Lib.compact zs) := by
  unfold Lib.compact Lib.compactUpTo Up
  rw [List.pairwise_map]
  refine ((List.pairwise_lt_range (n := zs.length)).filter _).imp_of_mem ?_
  intro i j hi hj hij
  have hi2 := List.mem_range.1 (List.mem_filter.1 hi).1
  have hj2 := List.mem_range.1 (List.mem_filter.1 hj).1
  have hk := (List.mem_filter.1 hj).2
  unfold Lib.keeps at hk
  have hk2 := of_decide_eq_true hk
  have hj1 : j - 1 < zs.length := by omega
  rw [cmp_getD, cmp_getD, List.getD_eq_getElem?_getD, List.getElem?_eq_getElem hj2, List.getD_eq_getElem?_getD, List.getElem?_eq_getElem hj1] at hk2
  rw [cmp_getD, cmp_getD, List.getD_eq_getElem?_getD, List.getElem?_eq_getElem hi2, List.getD_eq_getElem?_getD, List.getElem?_eq_getElem hj2]
  simp only [Option.getD_some] at hk2 ⊢
  have h1 : zs[j - 1] ≤ zs[j] := List.pairwise_iff_getElem.1 h (j - 1) j hj1 hj2 (by omega)
  have h2 : zs[i] ≤ zs[j - 1] := by
    rcases Nat.lt_or_ge i (j - 1) with g | g
    · exact List.pairwise_iff_getElem.1 h i (j - 1) hi2 hj1 g
    · obtain rfl : i = j - 1 := by omega
      exact Int.le_refl _
  rcases hk2 with e | e
  · omega
  · have : zs[j] ≠ zs[j - 1] := e
    omega
theorem sort_asc (zs : List Int) : (zs.mergeSort fun x y => decide (x ≤ y)).Pairwise (· ≤ ·) := by
  refine (List.pairwise_mergeSort (le := fun x y : Int => decide (x ≤ y)) (fun a b c h1 h2 => ?_) (fun a b => ?_) zs).imp (fun h => of_decide_eq_true h)
  · have := of_decide_eq_true h1; have := of_decide_eq_true h2; exact decide_eq_true (by omega)
  · rcases Int.le_total a b with h | h
    · rw [decide_eq_true h]; rfl
    · rw [decide_eq_true h, Bool.or_true]
theorem row_cells {w : World} {base e g n cap : Nat} {xs : List Value} (h : w.ownsRow base e 1 (.slice (some ⟨g, 0, none⟩) n cap) n xs) : base ≤ g ∧ ∀ j, j < n → (∃ u, w.cell? ⟨g, j, none⟩ = some u) ∧ w.frozen? ⟨g, j, none⟩ = false := by
  rcases h.2 with ⟨hv, _⟩ | ⟨g', cap', cur, hv, hb, hg, rest⟩
  · cases hv
  · cases hv
    refine ⟨hb, fun j hj => ⟨?_, by simp [World.frozen?, hg]⟩⟩
    have hl : xs.length = n * 1 := h.1
    have hj2 : j < xs.length := by omega
    have c := World.ownsRow.cells h (g := g) rfl j _ (List.getElem?_eq_getElem hj2)
    rw [show (⟨g, 0, none⟩ : Addr).add j = ⟨g, 0 + j, none⟩ by unfold Addr.add; split <;> simp_all, Nat.zero_add] at c
    exact ⟨_, c⟩
theorem put_below {B blk off n : Nat} {d : Array Int} {os : Array Obj} (w : World) (hB : B ≤ w.heap.size) (hb : B ≤ blk) : Below B w (Go.Sort.grow (Go.Sort.putRow (Value.int .i64) (Go.Sort.ahead w n) blk off d) os) := by
  refine ⟨rfl, rfl, rfl, ?_, fun j hj => ?_⟩
  · simp [Go.Sort.grow, Go.Sort.putRow, Go.Sort.mapBlock, Go.Sort.ahead]
  · have hs : (Go.Sort.putRow (Value.int .i64) (Go.Sort.ahead w n) blk off d).heap.size = w.heap.size := by simp [Go.Sort.putRow, Go.Sort.mapBlock, Go.Sort.ahead]
    show (_ ++ os)[j]? = _
    rw [Array.getElem?_append_left (by rw [hs]; omega)]
    show ((Go.Sort.ahead w n).heap.modify blk _)[j]? = w.heap[j]?
    rw [Array.getElem?_modify, if_neg (by omega)]
    rfl
/-- What sortedKeys leaves. -/
def KeysPost (w : World) (l : List Pc) (r : Ending) (w' : World) : Prop := ∃ g c S, r = .returned (.slice (some ⟨g, 0, none⟩) S.length c) ∧ IntsAt (some ⟨g, 0, none⟩) S w' ∧ (Up S ∧ ∀ x, x ∈ S ↔ ∃ p ∈ l, p.1 = x) ∧ Below w.heap.size w w' ∧ g = w.heap.size ∧ S.length ≤ l.length
theorem pkey_any (q1 q2 q3 : Int) (w : World) : Calls Try.prog 55 #[.agg #[.int .i64 q1, .int .i64 q2, .int .i64 q3]] w fun r w' => r = .returned (.int .i64 q1) ∧ Below w.heap.size w w' := by
  obtain ⟨c0, -, -⟩ := pb_cells w (q1, q2, q3)
  have hb := alloc_below w (pb (q1, q2, q3))
  simp only at c0
  go_enter Try.func55, Try.ntmps55
  go_wp2
  go_ret
  exact ⟨rfl, hb⟩
theorem Try.infoI : (Try.prog.info? 3).map (fun i => (i.zero, i.size, i.bytes)) = some (some (.int .i64 0), 1, 8) := by kernel_rfl
set_option maxHeartbeats 4000000 in
set_option maxRecDepth 100000 in
theorem psorted_any (a : Option Addr) (c : Nat) (l : List Pc) (w : World) (h0 : 0 < l.length) (h1 : l.length ≤ 1000) (z : PcsAt a l w) :
    Calls Try.prog 54 #[.slice a l.length c, .func (.func 55) #[] #[]] w (KeysPost w l) := by
  have HZ := Lib.hid (fun w' (k : Below w.heap.size w w') => z.below k)
  have HK1 := Lib.hid (fun q1 q2 q3 w => pkey_any q1 q2 q3 w)
  obtain ⟨n, hn⟩ : ∃ n, n = l.length := ⟨_, rfl⟩
  rw [← hn] at h0 h1 ⊢
  have HN := Lib.hid hn
  obtain ⟨i0, hi, hz0, hz1, hz2⟩ := info_parts Try.infoI
  have HI0 := Lib.hid (And.intro hi (And.intro hz0 (And.intro hz1 hz2)))
  have hbig : i0.bytes * n ≤ 281474976710656 := by rw [hz2]; omega
  have HBIG := Lib.hid hbig
  clear hn z hi hz0 hz1 hz2 hbig
  have hn0 : ¬ (n : Int) < 0 := by omega
  go_enter Try.func54, Try.ntmps54
  go_wp2_with (at_make; refine wpList_make_full _ rfl _ _ 41 rfl w.heap.size 3 i0 (.int .i64 0) 1 Try.underlying41 HI0.out.1 HI0.out.2.1 HI0.out.2.2.1 .i64 .i64 _ _ n rfl rfl rfl rfl HBIG.out (by unfold maxLen; omega) (Nat.le_refl _) ?_; intro w1 hown hgrow)
  have hb1 : Below w.heap.size w w1 := (Below.refl _ w).grown hgrow (Nat.le_refl _) (fun k hk => by cases hk)
  obtain ⟨-, hcells⟩ := row_cells hown
  have HB1 := Lib.hid hb1
  have HC1 := Lib.hid hcells
  generalize hg : w.heap.size = g at hcells HC1 ⊢
  have HG := Lib.hid hg
  clear hown hgrow hcells hb1 hn0 hg
  go_loopg [13] n (fun k s13 wx => ∃ i : Nat, i + k = n ∧ s13 = .int .i64 i ∧ Hid (∀ j x, j < i → l[j]? = some x → wx.cell? ⟨g, j, none⟩ = some (.int .i64 x.1)) ∧ Hid (∀ j, j < n → (∃ u, wx.cell? ⟨g, j, none⟩ = some u) ∧ wx.frozen? ⟨g, j, none⟩ = false) ∧ Hid (Below w.heap.size w wx))
  case atStart => exact ⟨0, by omega, rfl, Lib.hid (fun j x hj => by omega), HC1, HB1⟩
  case round =>
    obtain ⟨i, hi, rfl, HQ, HC, HK⟩ := hrel
    cases gk with
    | zero =>
      have hlt : ¬ (i : Int) < (n : Int) := by omega
      have hzl : (l.map Prod.fst).length = n := by rw [List.length_map, HN.out]
      have hH : Go.Sort.Holds (Value.int .i64) wr g 0 (l.map Prod.fst).toArray := fun j hj => by
        have hj2 : j < n := by rw [List.size_toArray, hzl] at hj; exact hj
        obtain ⟨x, hx⟩ : ∃ x, l[j]? = some x := ⟨_, List.getElem?_eq_getElem (by have := HN.out; omega)⟩
        refine ⟨?_, by rw [Nat.zero_add]; exact (HC.out j hj2).2⟩
        rw [Nat.zero_add, HQ.out j x (by omega) hx, cmp_getD, List.getD_eq_getElem?_getD, List.getElem?_map, hx]
        rfl
      have hblk : g < wr.heap.size := by obtain ⟨⟨u, hu⟩, -⟩ := HC.out 0 h0; exact World.block_lt_of_cell? _ _ hu
      have hBg : w.heap.size ≤ g := Nat.le_of_eq HG.out
      have hSl : ((l.map Prod.fst).mergeSort fun x y => decide (x ≤ y)).length = n := by rw [List.length_mergeSort, hzl]
      have HSO : Hid (Calls Try.prog 62 #[.slice (some ⟨g, 0, none⟩) n n] wr fun e w' => e = .returned (.tuple #[]) ∧ Go.Sort.Holds (Value.int .i64) w' g 0 ((l.map Prod.fst).mergeSort fun x y => decide (x ≤ y)).toArray ∧ Below w.heap.size w w') := by
        have h := Try.slices_Sort_int g 0 n (l.map Prod.fst) wr hH hblk (by rw [hzl]; omega)
        rw [hzl] at h
        refine h.mono (fun e w' ⟨he, m, os, hw⟩ => ⟨he, ?_, HK.out.trans (by rw [hw]; exact put_below wr HK.out.size hBg)⟩)
        rw [hw]
        exact Go.Proofs.holds_sortWorld (Value.int .i64) wr g 0 m (l.map Prod.fst).toArray _ os hblk hH (by rw [List.size_toArray, List.size_toArray, List.length_mergeSort])
      have HCO : Hid (∀ w1, Go.Sort.Holds (Value.int .i64) w1 g 0 ((l.map Prod.fst).mergeSort fun x y => decide (x ≤ y)).toArray → Below w.heap.size w w1 → Calls Try.prog 63 #[.slice (some ⟨g, 0, none⟩) n n] w1 (KeysPost w l)) := fun w1 hH1 hb1 => by
        have h := Try.slices_Compact_int g 0 n _ w1 hH1 (by rw [hSl]; omega) (Nat.le_of_eq hSl)
        rw [hSl] at h
        refine h.mono (fun e w' ⟨he, q, hw⟩ => ⟨g, n, _, he, fun j x hx => ⟨g, 0, rfl, ?_⟩, ⟨compact_up (sort_asc _), fun x => ?_⟩, hb1.trans ?_, HG.out.symm, ?_⟩)
        · have hj : j < (Lib.compact ((l.map Prod.fst).mergeSort fun x y => decide (x ≤ y))).length := (List.getElem?_eq_some_iff.1 hx).1
          have hle := Lib.compact_length_le ((l.map Prod.fst).mergeSort fun x y => decide (x ≤ y))
          rw [hSl] at hle
          have hh := Go.Sort.holds_putRow (Value.int .i64) (Go.Sort.ahead w1 q) g 0 _ (Lib.compact ((l.map Prod.fst).mergeSort fun x y => decide (x ≤ y)) ++ List.replicate (n - (Lib.compact ((l.map Prod.fst).mergeSort fun x y => decide (x ≤ y))).length) 0).toArray hH1 (by simp only [List.size_toArray, List.length_append, List.length_replicate, hSl]; omega)
          rw [hw, (hh j (by simp only [List.size_toArray, List.length_append]; omega)).1, cmp_getD, List.getD_eq_getElem?_getD, List.getElem?_append_left hj, hx]
          rfl
        · rw [compact_mem, (List.mergeSort_perm _ _).mem_iff, List.mem_map]
        · rw [hw, ← Go.Sort.grow_empty (Go.Sort.putRow _ _ _ _ _)]
          exact put_below w1 hb1.size hBg
        · have hle := Lib.compact_length_le ((l.map Prod.fst).mergeSort fun x y => decide (x ≤ y))
          rw [hSl] at hle
          rw [← HN.out]
          exact hle
      clear hH hblk hBg hSl hzl HQ HC HK HB1 HC1 HZ HK1 HBIG HI0
      go_wp2_with (first
        | (go_at_call 62; with_reducible refine HSO.out.mono ?_; rintro _ w2 ⟨rfl, hH2, hb2⟩; have HH2 := Lib.hid (And.intro hH2 hb2); clear hH2 hb2)
        | (go_at_call 63; (with_reducible refine (HCO.out _ HH2.out.1 HH2.out.2).mono ?_); rintro _ w3 ⟨gg, cc, S, rfl, hS⟩; have HS := Lib.hid hS; clear hS))
      go_ret
      exact ⟨gg, cc, S, rfl, HS.out⟩
    | succ k =>
      have hlt : (i : Int) < (n : Int) := by omega
      have hi0 : (0 : Int) ≤ (i : Int) := by omega
      obtain ⟨q, hq⟩ : ∃ q, l[i]? = some q := ⟨_, List.getElem?_eq_getElem (by have := HN.out; omega)⟩
      obtain ⟨b2, off2, rfl, k0, k1, k2⟩ := HZ.out _ HK.out i q hq
      have HQI := Lib.hid hq
      clear hq
      obtain ⟨q1, q2, q3⟩ := q
      simp only at k0 k1 k2
      obtain ⟨c0, c1, c2⟩ := pb_cells wr (q1, q2, q3)
      have hal := alloc_below wr (pb (q1, q2, q3))
      simp only at c0 c1 c2
      go_upto_region 5 with (fail)
      generalize wr.alloc (pb (q1, q2, q3)) = W3 at *
      have HAL := Lib.hid hal
      obtain ⟨⟨u, hu⟩, hfz⟩ := HC.out i (by omega)
      have HU := Lib.hid (And.intro hu hfz)
      clear hal hu hfz k0 k1 k2
      generalize wr.heap.size = x3 at c0 c1 c2 ⊢
      go_upto_region 6 with (go_at_call 55; with_reducible refine (HK1.out _ _ _ _).mono ?_; rintro _ W4 ⟨rfl, hn4⟩; have HK4 := Lib.hid (HAL.out.trans (hn4.mono HAL.out.size)); have hu := cell_kept HK4.out HU.out.1; have hfz := frozen_kept HK4.out HU.out.2 HU.out.1; clear hn4 c0 c1 c2)
      have HQ2 := Lib.hid (show ∀ j x, j < i + 1 → l[j]? = some x → (W4.setCell ⟨g, i, none⟩ (.int .i64 q1)).cell? ⟨g, j, none⟩ = some (.int .i64 x.1) from fun j x hj hx => by
        rcases Nat.lt_or_ge j i with g1 | g1
        · rw [World.cell?_setCell_other _ _ _ _ (fun e => by cases e; omega)]
          exact cell_kept HK4.out (HQ.out j x g1 hx)
        · obtain rfl : j = i := by omega
          rw [HQI.out] at hx
          obtain rfl := Option.some.inj hx
          exact World.cell?_setCell_same' _ _ _ (by rw [hu]; rfl))
      have HC2 := Lib.hid (show ∀ j, j < n → (∃ u, (W4.setCell ⟨g, i, none⟩ (.int .i64 q1)).cell? ⟨g, j, none⟩ = some u) ∧ (W4.setCell ⟨g, i, none⟩ (.int .i64 q1)).frozen? ⟨g, j, none⟩ = false from fun j hj => by
        obtain ⟨⟨v, hv⟩, hf⟩ := HC.out j hj
        refine ⟨?_, by rw [World.frozen?_setCell]; exact frozen_kept HK4.out hf hv⟩
        by_cases e : j = i
        · subst e; exact ⟨_, World.cell?_setCell_same' _ _ _ (by rw [hu]; rfl)⟩
        · exact ⟨v, by rw [World.cell?_setCell_other _ _ _ _ (fun h => by cases h; exact e rfl)]; exact cell_kept HK4.out hv⟩)
      have HKB := Lib.hid (show Below w.heap.size w (W4.setCell ⟨g, i, none⟩ (.int .i64 q1)) from (HK.out.trans (HK4.out.mono HK.out.size)).setCell (show w.heap.size ≤ g from Nat.le_of_eq HG.out) _)
      go_wp2
      go_roundg k
      case measure => omega
      case rel => exact ⟨i + 1, by omega, by go_num, HQ2, HC2, HKB⟩
end Go.Proofs.Ytdoojpilogcnjaa.Pw
