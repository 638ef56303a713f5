/- What the developers' sortBy at bounds does to a list of bounds. Conditions: the list is the call's own row; it is short. -/
import Derived.Test.YtdoojpilogcnjaaSpanOwn3
import Derived.Test.YtdoojpilogcnjaaShelf
import Derived.Shelf.SlSortCmp.NoneTotal
import Derived.Shelf.SlicesG.Cmp
import Derived.Shelf.SlSortCmp.QuietGrown
set_option linter.unusedVariables false
set_option linter.unusedSimpArgs false
namespace Go.Proofs.Ytdoojpilogcnjaa.Sp
open Go.RowKit Go.Sort Go.Shelf Go.Lib
def encB (x : Bd) : List Value := [.int .i64 x.1, .int .i64 x.2.1, .int .i64 x.2.2]
theorem encB_len (x : Bd) : (encB x).length = 3 := rfl
theorem encB_one (x : Bd) : ∀ v ∈ encB x, v.oneCell' = true := fun v hv => by
  simp [encB] at hv; rcases hv with rfl | rfl | rfl <;> rfl
/-- Bounds in memory. -/
def BdsAt (a : Option Addr) (l : List Bd) (w : World) : Prop :=
  ∀ i x, l[i]? = some x → ∃ b off, a = some ⟨b, off, none⟩ ∧ w.cell? ⟨b, off + i * 3, none⟩ = some (.int .i64 x.1) ∧ w.cell? ⟨b, off + i * 3 + 1, none⟩ = some (.int .i64 x.2.1) ∧ w.cell? ⟨b, off + i * 3 + 2, none⟩ = some (.int .i64 x.2.2)
theorem BdsAt.below {a : Option Addr} {l : List Bd} {w w' : World} (h : BdsAt a l w) (k : Below w.heap.size w w') : BdsAt a l w' := fun i x hx => by
  obtain ⟨b, off, ha, h1, h2, h3⟩ := h i x hx
  exact ⟨b, off, ha, cell_kept k h1, cell_kept k h2, cell_kept k h3⟩
theorem flat3_at (l : List Bd) (j : Nat) (hj : j < l.length * 3) : (flat3 l)[j]? = some (encB l.toArray[j / 3]!)[j % 3]! := by
  have hi : j / 3 < l.length := by omega
  obtain ⟨x, hx⟩ : ∃ x, l[j / 3]? = some x := ⟨_, List.getElem?_eq_getElem hi⟩
  have e : l.toArray[j / 3]! = x := by
    rw [List.getElem!_toArray, List.getElem!_eq_getElem?_getD, hx]; rfl
  obtain ⟨f1, f2, f3⟩ := flat3_get l (j / 3) x hx
  rw [e]
  have hc : j % 3 = 0 ∨ j % 3 = 1 ∨ j % 3 = 2 := by omega
  rcases hc with c | c | c
  · rw [c]
    rw [show j / 3 * 3 = j by omega] at f1
    exact f1
  · rw [c]
    rw [show j / 3 * 3 + 1 = j by omega] at f2
    exact f2
  · rw [c]
    rw [show j / 3 * 3 + 2 = j by omega] at f3
    exact f3
theorem RowB.holds {w : World} {base g n cap : Nat} {l : List Bd} (h : RowB w base (.slice (some ⟨g, 0, none⟩) n cap) l) : HoldsK encB 3 w g 0 l.toArray ∧ base ≤ g ∧ g < w.heap.size ∧ n = l.length := by
  rcases h.2 with ⟨hv, _⟩ | ⟨g', cap', cur, hv, hb, hg, rest⟩
  · cases hv
  · cases hv
    refine ⟨fun j hj => ?_, hb, (Array.getElem?_eq_some_iff.1 hg).1, rfl⟩
    rw [size_flatK, List.size_toArray] at hj
    rw [get_flatK _ _ _ _ (by rw [List.size_toArray]; exact hj)]
    have e := World.ownsRow.cells h (g := g) rfl j _ (flat3_at l j hj)
    rw [show (⟨g, 0, none⟩ : Addr).add j = ⟨g, 0 + j, none⟩ by unfold Addr.add; split <;> simp_all] at e
    exact ⟨e, by simp [World.frozen?, hg]⟩
theorem below_sort {enc : Bd → List Value} {k n B blk off : Nat} {d : Array Bd} {os : Array Obj} (w : World) (hB : B ≤ w.heap.size) (hb : B ≤ blk) : Below B w (sortWorldK enc k w blk off n d os) := by
  refine ⟨rfl, rfl, rfl, size_sortWorldK_c enc k w blk off n d os, fun j hj => ?_⟩
  unfold sortWorldK
  rw [heap_grow_old _ _ (by rw [size_putRowK]; exact Nat.lt_of_lt_of_le hj hB)]
  unfold putRowK putRow mapBlock
  show ((Go.Sort.ahead w n).heap.modify blk _)[j]? = w.heap[j]?
  rw [Array.getElem?_modify, if_neg (by omega)]
  rfl
theorem sort_cell {enc : Bd → List Value} {k n blk off : Nat} {d : Array Bd} {os : Array Obj} {w : World} {a : Addr} {v : Value} (ha : a.block ≠ blk) (h : w.cell? a = some v) : (sortWorldK enc k w blk off n d os).cell? a = some v := by
  have hlt := World.block_lt_of_cell? w a h
  unfold sortWorldK
  rw [cell?_grow _ _ _ (by rw [size_putRowK]; exact hlt), cell?_putRowK_other _ _ _ _ _ _ _ ha]
  exact h
theorem compare_lt (x y : Bd) : ltOf (fun x y : Bd => Lib.compareInt x.1 y.1) x y = decide (x.1 < y.1) := by
  unfold ltOf Lib.compareInt
  by_cases h1 : x.1 < y.1
  · simp [h1]
  · by_cases h2 : y.1 < x.1 <;> simp [h1, h2]
theorem compare_swo : SWO (ltOf fun x y : Bd => Lib.compareInt x.1 y.1) where
  irrefl x := by rw [compare_lt]; simp
  trans x y z h1 h2 := by rw [compare_lt] at *; simp at *; omega
  ntrans x y z h1 h2 := by rw [compare_lt] at *; simp at *; omega
theorem key_any (x : Bd) (W : World) : Calls Try.prog 72 #[bv x] W fun e w' => e = .returned (.int .i64 x.1) ∧ ∃ q os', w' = Go.Sort.grow (W.drewN q) os' := by
  obtain ⟨x1, x2, x3⟩ := x
  have k0 : (W.alloc (.cells #[.int .i64 x1, .int .i64 x2, .int .i64 x3] 94)).cell? ⟨W.heap.size, 0, none⟩ = some (.int .i64 x1) := by simp [World.cell?_alloc_new]
  go_enter Try.func72, Try.ntmps72
  go_wp2
  go_ret
  exact ⟨rfl, 0, _, by rw [alloc_eq_grow]; rfl⟩
set_option maxHeartbeats 2000000 in
set_option maxRecDepth 1000000 in
theorem less_any (x y : Bd) (kb : Nat) (W : World) (hk : W.cell? ⟨kb, 0, none⟩ = some (.func (.func 72) #[] #[])) :
    Calls Try.prog 87 #[bv x, bv y, .pointer (some ⟨kb, 0, none⟩)] W fun e w' => e = .returned (.int .i64 (Lib.compareInt x.1 y.1)) ∧ ∃ q os', w' = Go.Sort.grow (W.drewN q) os' := by
  have hcon := fun W' => Try.cmp_Compare_int x.1 y.1 W'
  have HC := Lib.hid (fun W' => (hcon W').mono (fun e w' ⟨he, hw⟩ => (⟨he, 0, #[], by rw [hw, grow_empty]; rfl⟩ : e = Ending.returned (.int .i64 (Lib.compareInt x.1 y.1)) ∧ ∃ q os', w' = Go.Sort.grow (W'.drewN q) os')))
  have hmix : Try.prog.follows .mixedOrders = true := by kernel_rfl
  obtain ⟨x1, x2, x3⟩ := x
  obtain ⟨y1, y2, y3⟩ := y
  have HX := Lib.hid (fun W' => (show Calls Try.prog 72 #[.agg #[.int .i64 x1, .int .i64 x2, .int .i64 x3]] W' fun e w' => e = .returned (.int .i64 x1) ∧ ∃ q os', w' = Go.Sort.grow (W'.drewN q) os' from key_any (x1, x2, x3) W'))
  have HY := Lib.hid (fun W' => (show Calls Try.prog 72 #[.agg #[.int .i64 y1, .int .i64 y2, .int .i64 y3]] W' fun e w' => e = .returned (.int .i64 y1) ∧ ∃ q os', w' = Go.Sort.grow (W'.drewN q) os' from key_any (y1, y2, y3) W'))
  show Calls _ _ #[.agg #[.int .i64 x1, .int .i64 x2, .int .i64 x3], .agg #[.int .i64 y1, .int .i64 y2, .int .i64 y3], _] _ _
  replace HC : Hid (∀ W', Calls Try.prog 88 #[.int .i64 x1, .int .i64 y1] W' fun e w' => e = Ending.returned (.int .i64 (Lib.compareInt x1 y1)) ∧ ∃ q os', w' = Go.Sort.grow (W'.drewN q) os') := HC
  show Calls _ _ _ _ fun e w' => e = Ending.returned (.int .i64 (Lib.compareInt x1 y1)) ∧ _
  generalize Lib.compareInt x1 y1 = r at HC ⊢
  clear hcon
  have hkb : kb < W.heap.size := World.block_lt_of_cell? W _ hk
  obtain ⟨b1, hb1⟩ : ∃ b, b = W.heap.size := ⟨_, rfl⟩
  obtain ⟨b2, hb2⟩ : ∃ b, b = b1 + 1 := ⟨_, rfl⟩
  go_enter Try.func87, Try.ntmps87
  go_upto_region 1 with (fail)
  have HW := Lib.hid (show ((W.alloc (.cells #[.int .i64 x1, .int .i64 x2, .int .i64 x3] 94)).alloc (.cells #[.int .i64 y1, .int .i64 y2, .int .i64 y3] 94)) = Go.Sort.grow W #[.cells #[.int .i64 x1, .int .i64 x2, .int .i64 x3] 94, .cells #[.int .i64 y1, .int .i64 y2, .int .i64 y3] 94] by rw [alloc_eq_grow, alloc_eq_grow, grow_grow]; rfl)
  have c0 : ((W.alloc (.cells #[.int .i64 x1, .int .i64 x2, .int .i64 x3] 94)).alloc (.cells #[.int .i64 y1, .int .i64 y2, .int .i64 y3] 94)).cell? ⟨kb, 0, none⟩ = some (.func (.func 72) #[] #[]) := cell_kept (box_below (alloc_below _ _)) hk
  have cx : ∀ i, i < 3 → ((W.alloc (.cells #[.int .i64 x1, .int .i64 x2, .int .i64 x3] 94)).alloc (.cells #[.int .i64 y1, .int .i64 y2, .int .i64 y3] 94)).cell? ⟨W.heap.size, i, none⟩ = some (#[Value.int .i64 x1, .int .i64 x2, .int .i64 x3][i]!) := fun i hi => by
    have hi' : i = 0 ∨ i = 1 ∨ i = 2 := by omega
    rcases hi' with rfl | rfl | rfl <;> exact cell_kept (alloc_below _ _) (by simp [World.cell?_alloc_new])
  have cy : ∀ i, i < 3 → ((W.alloc (.cells #[.int .i64 x1, .int .i64 x2, .int .i64 x3] 94)).alloc (.cells #[.int .i64 y1, .int .i64 y2, .int .i64 y3] 94)).cell? ⟨W.heap.size + 1, i, none⟩ = some (#[Value.int .i64 y1, .int .i64 y2, .int .i64 y3][i]!) := fun i hi => by
    have hi' : i = 0 ∨ i = 1 ∨ i = 2 := by omega
    have hs : W.heap.size + 1 = (W.alloc (.cells #[.int .i64 x1, .int .i64 x2, .int .i64 x3] 94)).heap.size := by simp
    rcases hi' with rfl | rfl | rfl <;> (rw [hs]; simp)
  generalize hW2 : ((W.alloc (.cells #[.int .i64 x1, .int .i64 x2, .int .i64 x3] 94)).alloc (.cells #[.int .i64 y1, .int .i64 y2, .int .i64 y3] 94)) = W2 at *
  have hs2 : W2.heap.size = W.heap.size + 2 := by rw [← hW2]; simp
  clear hW2
  rw [← hb1] at cx
  rw [← hb1, ← hb2] at cy
  rw [← hb1] at hs2 hkb ⊢
  rw [← hb2]
  have G0 := fun n os => cell_grown (w := W2) (by show kb < _; omega) c0 n os
  have Gx0 := fun n os => cell_grown (w := W2) (by show b1 < _; omega) (cx 0 (by omega)) n os
  have Gx1 := fun n os => cell_grown (w := W2) (by show b1 < _; omega) (cx 1 (by omega)) n os
  have Gx2 := fun n os => cell_grown (w := W2) (by show b1 < _; omega) (cx 2 (by omega)) n os
  have Gy0 := fun n os => cell_grown (w := W2) (by show b2 < _; omega) (cy 0 (by omega)) n os
  have Gy1 := fun n os => cell_grown (w := W2) (by show b2 < _; omega) (cy 1 (by omega)) n os
  have Gy2 := fun n os => cell_grown (w := W2) (by show b2 < _; omega) (cy 2 (by omega)) n os
  clear cx cy c0 hb1 hb2 hs2 hkb hk
  go_quiet_grown (first | (go_at_call 72; first | refine Calls.grown_of (HX.out _) | refine Calls.grown_of (HY.out _)) | (go_at_call 88; refine Calls.grown_of (HC.out _)))
  go_wp2
  go_ret
  exact ⟨rfl, nq, _, by rw [HW.out]; show Go.Sort.grow (Go.Sort.grow (W.drewN nq) _) osq = _; rw [grow_grow]⟩
theorem perm_of {l : List Bd} {d : Array Bd} (h : PermIn 0 l.toArray.size l.toArray d) : d.toList.Perm l := by
  obtain ⟨h1, -, h3⟩ := h
  have e1 : d.extract 0 l.toArray.size = d := by rw [← h1]; exact Array.extract_size
  have e2 : l.toArray.extract 0 l.toArray.size = l.toArray := Array.extract_size
  rw [e1, e2] at h3
  exact h3
theorem asc_of {d : Array Bd} {n : Nat} (hn : d.size = n) (h : SortedIn (ltOf fun x y : Bd => Lib.compareInt x.1 y.1) 0 n d) : d.toList.Pairwise (fun x y => x.1 ≤ y.1) := by
  rw [List.pairwise_iff_getElem]
  intro i j hi hj hij
  have hi' : i < d.size := by simpa using hi
  have hj' : j < d.size := by simpa using hj
  have := h i j (Nat.zero_le _) hij (by omega)
  rw [compare_lt, getElem!_pos d i hi', getElem!_pos d j hj'] at this
  have h2 := of_decide_eq_false this
  simp only [Array.getElem_toList]
  omega
theorem bds_at {w : World} {g : Nat} {d : Array Bd} (h : HoldsK encB 3 w g 0 d) : BdsAt (some ⟨g, 0, none⟩) d.toList w := fun i x hx => by
  have hi : i < d.size := by simpa using (List.getElem?_eq_some_iff.1 hx).1
  have e : d[i]! = x := by
    rw [getElem!_pos d i hi]
    have := (List.getElem?_eq_some_iff.1 hx).2
    simpa using this
  have c0 := (HoldsK.cell h hi (c := 0) (by omega)).1
  have c1 := (HoldsK.cell h hi (c := 1) (by omega)).1
  have c2 := (HoldsK.cell h hi (c := 2) (by omega)).1
  rw [e] at c0 c1 c2
  exact ⟨g, 0, rfl, c0, c1, c2⟩
set_option maxHeartbeats 1000000 in
theorem sortby_any (v : Value) (l : List Bd) (B : Nat) (w : World) (h : RowB w B v l) (hl : l.length ≤ 100000) (hB : B ≤ w.heap.size) :
    Calls Try.prog 71 #[v, .func (.func 72) #[] #[]] w fun e w' => e = .returned (.tuple #[]) ∧ ∃ L a cap, L.Perm l ∧ L.Pairwise (fun x y : Bd => x.1 ≤ y.1) ∧ v = .slice a L.length cap ∧ BdsAt a L w' ∧ Below B w w' := by
  rcases h.2 with ⟨hv, hn⟩ | ⟨g, cap, cur, hv, hb, hg, rest⟩
  · subst hv
    obtain rfl := List.eq_nil_of_length_eq_zero hn
    have hcon := fun fv W => AnyF.slices_SortFunc_none Try.sortK none 0 fv W
    change ∀ fv W, Calls Try.prog 86 _ _ _ at hcon
    have HC := Lib.hid hcon
    clear hcon h hn
    go_enter Try.func71, Try.ntmps71
    go_wp2_with (go_at_call 86; refine (HC.out _ _).mono ?_; rintro e w' ⟨rfl, rfl⟩)
    go_end0
    exact ⟨rfl, [], none, 0, List.Perm.refl _, List.Pairwise.nil, rfl, fun i x hx => (by simp at hx), (alloc_below w _).mono hB⟩
  · subst hv
    have hW := alloc_below w (.cells #[.func (.func 72) #[] #[]] 97)
    have hcell : (w.alloc (.cells #[.func (.func 72) #[] #[]] 97)).cell? ⟨w.heap.size, 0, none⟩ = some (.func (.func 72) #[] #[]) := by simp
    have hr := RowB.below h hW
    obtain ⟨hH, -, hblk, -⟩ := RowB.holds hr
    have hgw := (RowB.holds h).2.2.1
    have eg : ∀ args w, (callFunc 87 args).run Try.prog w = .ok (.enter 87 args) w := enters_of Try.func87 (by kernel_rfl) rfl
    have hcmp : CmpLays Try.prog 87 #[.pointer (some ⟨w.heap.size, 0, none⟩)] encB 3 (fun x y : Bd => Lib.compareInt x.1 y.1) g 0 l.toArray.size (w.alloc (.cells #[.func (.func 72) #[] #[]] 97)) := fun m os dk hs x y => less_any x y w.heap.size _ (sort_cell (by show w.heap.size ≠ g; omega) hcell)
    have hcon := AnyQ.slices_SortFunc Try.sortK 3 Try.isAgg94 Try.sizeOf94 encB encB_len encB_one (fun x y : Bd => Lib.compareInt x.1 y.1) compare_swo 87 #[.pointer (some ⟨w.heap.size, 0, none⟩)] g 0 cap l.toArray _ eg hcmp hH hblk (by rw [List.size_toArray]; omega)
    have hcon2 : Calls Try.prog 86 #[.slice (some ⟨g, 0, none⟩) l.length cap, .func (.func 87) #[] #[.pointer (some ⟨w.heap.size, 0, none⟩)]] (w.alloc (.cells #[.func (.func 72) #[] #[]] 97)) fun e w' => e = .returned (.tuple #[]) ∧ ∃ L : List Bd, L.length = l.length ∧ L.Perm l ∧ L.Pairwise (fun x y : Bd => x.1 ≤ y.1) ∧ BdsAt (some ⟨g, 0, none⟩) L w' ∧ Below B w w' :=
      hcon.mono (fun e w' ⟨he, d', n, os, hp, hs, hw⟩ => by
        have hd := hp.1
        have hq := perm_of hp
        exact ⟨he, d'.toList, hq.length_eq, hq, asc_of hd hs, by rw [hw]; exact bds_at (holdsK_sortWorldK_c encB 3 _ g 0 _ d' n os hH hblk hd), by rw [hw]; exact (hW.mono hB).trans (below_sort _ (Nat.le_trans hB hW.size) hb)⟩)
    have HC := Lib.hid hcon2
    obtain ⟨n, hn⟩ : ∃ n, n = l.length := ⟨_, rfl⟩
    rw [← hn] at HC ⊢
    have HN := Lib.hid hn
    clear hcon hcon2 hcmp hcell hr hH hblk h hg rest hn
    go_enter Try.func71, Try.ntmps71
    go_wp2_with (go_at_call 86; refine HC.out.mono ?_; rintro e w' ⟨rfl, L, hL, hp, hs, hz, hbw⟩)
    go_end0
    exact ⟨rfl, L, _, cap, hp, hs, by rw [hL, HN.out], hz, hbw⟩
end Go.Proofs.Ytdoojpilogcnjaa.Sp
