/- What the developers' sweep returns, whatever closure decides which points are in the result. Conditions: the lists lie in memory as the arguments say; they are short; the closure returns what a plain function of two truth values says. -/
import Derived.Test.YtdoojpilogcnjaaSpanOwn4
import Derived.Test.YtdoojpilogcnjaaSpanRef4
import Derived.Deep.RegionHeld3
set_option linter.unusedVariables false
set_option linter.unusedSimpArgs false
namespace Go.Proofs.Ytdoojpilogcnjaa.Sp
open Go.RowKit
theorem run_step (h : Bool → Bool → Bool) {s : St} {L : List Bd} {i : Nat} {x : Bd} (hx : L[i]? = some x) : run h s (L.drop i) = run h (stp h x (decide (L[i + 1]?.map (fun y => y.1) = some x.1)) s) (L.drop (i + 1)) := by
  obtain ⟨hi, he⟩ := List.getElem?_eq_some_iff.1 hx
  rw [List.drop_eq_getElem_cons hi, he, run_cons, List.head?_drop]
theorem run_same (h : Bool → Bool → Bool) {a b : Int} {inn : Bool} {res : List Sn} {L : List Bd} {i : Nat} {x : Bd} (hx : L[i]? = some x) (hs : L[i + 1]?.map (fun y => y.1) = some x.1) :
    run h ⟨a, b, inn, res⟩ (L.drop i) = run h ⟨if x.2.1 = 0 then a + x.2.2 else a, if x.2.1 = 0 then b else b + x.2.2, inn, res⟩ (L.drop (i + 1)) := by
  rw [run_step h hx, decide_eq_true hs]; rfl
theorem run_keep (h : Bool → Bool → Bool) {a b : Int} {inn : Bool} {res : List Sn} {L : List Bd} {i : Nat} {x : Bd} (hx : L[i]? = some x) (hs : ¬ L[i + 1]?.map (fun y => y.1) = some x.1)
    (hv : h (decide (0 < if x.2.1 = 0 then a + x.2.2 else a)) (decide (0 < if x.2.1 = 0 then b else b + x.2.2)) = inn) :
    run h ⟨a, b, inn, res⟩ (L.drop i) = run h ⟨if x.2.1 = 0 then a + x.2.2 else a, if x.2.1 = 0 then b else b + x.2.2, inn, res⟩ (L.drop (i + 1)) := by
  rw [run_step h hx, decide_eq_false hs]
  unfold stp
  rw [if_neg (by decide)]
  exact congrArg (fun s => run h s (L.drop (i + 1))) (if_pos hv)
theorem run_flip (h : Bool → Bool → Bool) {a b : Int} {inn : Bool} {res : List Sn} {L : List Bd} {i : Nat} {x : Bd} (hx : L[i]? = some x) (hs : ¬ L[i + 1]?.map (fun y => y.1) = some x.1)
    (hv : ¬ h (decide (0 < if x.2.1 = 0 then a + x.2.2 else a)) (decide (0 < if x.2.1 = 0 then b else b + x.2.2)) = inn) :
    run h ⟨a, b, inn, res⟩ (L.drop i) = run h ⟨if x.2.1 = 0 then a + x.2.2 else a, if x.2.1 = 0 then b else b + x.2.2, !inn, if inn then shut x.1 res else res ++ [(x.1, 0)]⟩ (L.drop (i + 1)) := by
  rw [run_step h hx, decide_eq_false hs]
  unfold stp
  rw [if_neg (by decide)]
  refine (congrArg (fun s => run h s (L.drop (i + 1))) (if_neg hv)).trans ?_
  unfold flip
  cases inn <;> rfl
theorem shut_len (t : Int) : ∀ l : List Sn, (shut t l).length = l.length
  | [] => rfl
  | [y] => rfl
  | y :: z :: r => by
    show (shut t (z :: r)).length + 1 = (z :: r).length + 1
    rw [shut_len t (z :: r)]
/-- The sweep's world: what lay there lies there; the two counts; the result's row. -/
structure SwI (w4 : World) (ob : Nat) (a b : Int) (res : List Sn) (v : Value) (w : World) : Prop where
  hb : Below w4.heap.size w4 w
  le : w4.heap.size ≤ ob
  c0 : w.cell? ⟨ob, 0, none⟩ = some (.int .i64 a)
  c1 : w.cell? ⟨ob, 1, none⟩ = some (.int .i64 b)
  f0 : w.frozen? ⟨ob, 0, none⟩ = false
  f1 : w.frozen? ⟨ob, 1, none⟩ = false
  row : RowS w (ob + 1) v res
section
variable {w4 : World} {ob : Nat} {a b : Int} {res : List Sn} {v : Value} {w : World}
theorem SwI.lt (h : SwI w4 ob a b res v w) : ob < w.heap.size := World.block_lt_of_cell? w ⟨ob, 0, none⟩ h.c0
theorem SwI.below {w' : World} (h : SwI w4 ob a b res v w) (k : Below w.heap.size w w') : SwI w4 ob a b res v w' :=
  ⟨h.hb.trans (k.mono h.hb.size), h.le, cell_kept k h.c0, cell_kept k h.c1, frozen_kept k h.f0 h.c0, frozen_kept k h.f1 h.c1, h.row.below k⟩
theorem SwI.ck (h : SwI w4 ob a b res v w) {k : Nat} (hk : k < 2) : w.cell? ⟨ob, k, none⟩ = some (.int .i64 (if (k : Int) = 0 then a else b)) ∧ w.frozen? ⟨ob, k, none⟩ = false := by
  have : k = 0 ∨ k = 1 := by omega
  rcases this with rfl | rfl
  · exact ⟨h.c0, h.f0⟩
  · exact ⟨h.c1, h.f1⟩
theorem RowS.other {g j : Nat} {u : Value} {base : Nat} (h : RowS w base v res) (hg : g < base) : RowS (w.setCell ⟨g, j, none⟩ u) base v res := by
  refine ⟨h.1, ?_⟩
  rcases h.2 with hn | ⟨g2, cap, cur, hv, hb2, hg2, rest⟩
  · exact .inl hn
  · refine .inr ⟨g2, cap, cur, hv, hb2, ?_, rest⟩
    rw [← hg2]
    unfold World.setCell
    simp only [Array.getElem?_modify]
    rw [if_neg (by omega)]
theorem SwI.bump (h : SwI w4 ob a b res v w) {k : Nat} (hk : k < 2) (c : Int) : SwI w4 ob (if (k : Int) = 0 then a + c else a) (if (k : Int) = 0 then b else b + c) res v (w.setCell ⟨ob, k, none⟩ (.int .i64 ((if (k : Int) = 0 then a else b) + c))) := by
  have hk' : k = 0 ∨ k = 1 := by omega
  refine ⟨h.hb.setCell h.le _, h.le, ?_, ?_, by rw [World.frozen?_setCell]; exact h.f0, by rw [World.frozen?_setCell]; exact h.f1, h.row.other (by omega)⟩
  · rcases hk' with rfl | rfl
    · exact World.cell?_setCell_same' _ _ _ (by rw [h.c0]; rfl)
    · exact (World.cell?_setCell_other _ ⟨ob, 1, none⟩ ⟨ob, 0, none⟩ _ (fun e => by cases e)).trans h.c0
  · rcases hk' with rfl | rfl
    · exact (World.cell?_setCell_other _ ⟨ob, 0, none⟩ ⟨ob, 1, none⟩ _ (fun e => by cases e)).trans h.c1
    · exact World.cell?_setCell_same' _ _ _ (by rw [h.c1]; rfl)
theorem SwI.grown {w' : World} {v' : Value} {res' : List Sn} (h : SwI w4 ob a b res v w) (hg : w.grownBy w' v.ownBlock) (hr : RowS w' (ob + 1) v' res') : SwI w4 ob a b res' v' w' := by
  have hn : ∀ k, v.ownBlock = some k → ob + 1 ≤ k := fun k hk => (h.row.lt k hk).1
  have ho : w'.heap[ob]? = w.heap[ob]? := hg.block ob h.lt (fun e => by have := hn ob e.symm; omega)
  exact ⟨h.hb.grown hg h.hb.size (fun k hk => by have := hn k hk; have := h.le; omega), h.le, (World.cell?_of_block (a := ⟨ob, 0, none⟩) ho).trans h.c0, (World.cell?_of_block (a := ⟨ob, 1, none⟩) ho).trans h.c1, (World.frozen?_of_block (a := ⟨ob, 0, none⟩) ho).trans h.f0, (World.frozen?_of_block (a := ⟨ob, 1, none⟩) ho).trans h.f1, hr⟩
theorem SwI.shut {g n cap i : Nat} {d m k : Int} (h : SwI w4 ob a b res (.slice (some ⟨g, 0, none⟩) n cap) w) (hi : res[i]? = some (d, m)) (hn : i + 1 = res.length) : SwI w4 ob a b (shut k res) (.slice (some ⟨g, 0, none⟩) n cap) (w.setCell ⟨g, i * 2 + 1, none⟩ (.int .i64 k)) := by
  have hg : ob + 1 ≤ g := (h.row.lt g rfl).1
  rw [shut_set hn hi]
  refine ⟨h.hb.setCell (by have := h.le; show _ ≤ g; omega) _, h.le, ?_, ?_, by rw [World.frozen?_setCell]; exact h.f0, by rw [World.frozen?_setCell]; exact h.f1, RowS.bump h.row hi⟩
  · rw [World.cell?_setCell_far _ _ _ _ (by show g ≠ ob; omega)]; exact h.c0
  · rw [World.cell?_setCell_far _ _ _ _ (by show g ≠ ob; omega)]; exact h.c1
end
theorem RowS.at2 {w : World} {base g n cap : Nat} {l : List Sn} (h : RowS w base (.slice (some ⟨g, 0, none⟩) n cap) l) {i : Nat} {x : Sn} (hx : l[i]? = some x) : w.cell? ⟨g, i * 2 + 1, none⟩ = some (.int .i64 x.2) ∧ w.frozen? ⟨g, i * 2 + 1, none⟩ = false := by
  obtain ⟨a, c, e, z⟩ := h.spans
  cases e
  obtain ⟨b, off, e, -, h2⟩ := z i x hx
  cases e
  rw [Nat.zero_add] at h2
  exact ⟨h2, h.free _⟩
set_option maxHeartbeats 16000000 in
set_option maxRecDepth 100000 in
theorem sweep_any (h : Bool → Bool → Bool) (g : FuncId) (eg : ∀ args w, (callFunc g args).run Try.prog w = .ok (.enter g args) w)
    (hg : ∀ x y w, Calls Try.prog g #[.bool x, .bool y] w fun r w' => r = .returned (.bool (h x y)) ∧ Below w.heap.size w w')
    (a1 a2 : Option Addr) (c1 c2 : Nat) (xs ys : List Sn) (w : World) (hn : xs.length ≤ 2000) (hm : ys.length ≤ 2000) (z1 : SpansAt a1 xs w) (z2 : SpansAt a2 ys w) :
    Calls Try.prog 64 #[.slice a1 xs.length c1, .slice a2 ys.length c2, .func (.func g) #[] #[]] w fun r w' => ∃ v, r = .returned v ∧ ∃ L : List Bd, L.Perm (bds 0 xs ++ bds 1 ys) ∧ L.Pairwise (fun x y : Bd => x.1 ≤ y.1) ∧ RowS w' w.heap.size v (run h st0 L).res ∧ Below w.heap.size w w' := by
  have H1 := Lib.hid (bounds_any a1 c1 xs 0 w hn z1)
  have H2 := Lib.hid (fun w' (k : Below w.heap.size w w') => bounds_any a2 c2 ys 1 w' hm (z2.below k))
  have HL1 := Lib.hid (bds_len 0 xs)
  have HL2 := Lib.hid (bds_len 1 ys)
  have HF1 := Lib.hid (fun y (hy : y ∈ bds 0 xs) => bds_fit (.inl rfl) hy)
  have HF2 := Lib.hid (fun y (hy : y ∈ bds 1 ys) => bds_fit (.inr rfl) hy)
  have HG := Lib.hid hg
  obtain ⟨n1, hn1⟩ : ∃ n, n = xs.length := ⟨_, rfl⟩
  obtain ⟨n2, hn2⟩ : ∃ n, n = ys.length := ⟨_, rfl⟩
  rw [← hn1] at H1 HL1 hn ⊢
  rw [← hn2] at H2 HL2 hm ⊢
  generalize bds 0 xs = l1 at H1 HL1 HF1 ⊢
  generalize bds 1 ys = l2 at H2 HL2 HF2 ⊢
  have hlen1 : l1.length ≤ 4000 := by have := HL1.out; omega
  have hlen2 : l2.length ≤ 4000 := by have := HL2.out; omega
  have HLE := Lib.hid (And.intro hlen1 hlen2)
  clear hg z1 z2 hn1 hn2 hlen1 hlen2
  go_enter Try.func64, Try.ntmps64
  go_wp2_with (first
    | (go_at_call 70; (with_reducible refine H1.out.mono ?_); rintro e w1 ⟨v1, rfl, hr1, hb1⟩; obtain ⟨a3, c3, rfl⟩ := hr1.slice; have HR1 := Lib.hid hr1; clear hr1)
    | (go_at_call 70; (with_reducible refine (H2.out _ hb1).mono ?_); rintro e w2 ⟨v2, rfl, hr2, hb2⟩; obtain ⟨a4, c4, rfl⟩ := hr2.slice; have HR2 := Lib.hid hr2; have HB2 := Lib.hid hb2; have HB1 := Lib.hid hb1; clear hr2 hb2 hb1)
    | (go_at_call 69; (with_reducible refine (concat_any w2.heap.size 2 (.slice a3 l1.length c3) (.slice a4 l2.length c4) l1 l2 w.heap.size w1.heap.size _ HLE.out.1 HLE.out.2 (RowB.below HR1.out (HB2.out.trans ((alloc_below _ _).mono HB2.out.size))) (RowB.below HR2.out (alloc_below _ _)) (by simp) (by simp)).mono ?_); rintro e w3 ⟨v3, rfl, hr3, hb3⟩; have HR3 := Lib.hid (RowB.lower hr3 (Nat.le_trans HB1.out.size (Nat.le_trans HB2.out.size (alloc_below _ _).size))); have HB3 := Lib.hid (HB1.out.trans ((HB2.out.trans ((box_below hb3).mono HB2.out.size)).mono HB1.out.size)); clear hr3 hb3)
    | (go_at_call 71; (with_reducible refine (sortby_any v3 (l1 ++ l2) w.heap.size w3 HR3.out (by rw [List.length_append]; have := HLE.out; omega) HB3.out.size).mono ?_); rintro e w4 ⟨rfl, L, a5, c5, hp, hs, rfl, hz, hb4⟩; have HP := Lib.hid (And.intro hp hs); have HZ4 := Lib.hid hz; have HB4 := Lib.hid (HB3.out.trans hb4); clear hp hs hz hb4; obtain ⟨m, hmL⟩ : ∃ m, m = L.length := ⟨_, rfl⟩; rw [← hmL]; have HM := Lib.hid hmL; clear hmL))
  have hmm : m ≤ 8000 := by
    rw [HM.out, HP.out.1.length_eq, List.length_append]; have := HLE.out; omega
  have HFit := Lib.hid (fun x (hx : x ∈ L) => (List.mem_append.1 (HP.out.1.mem_iff.1 hx)).elim (HF1.out x) (HF2.out x))
  obtain ⟨ob, hob⟩ : ∃ ob, ob = w4.heap.size := ⟨_, rfl⟩
  have HZ := Lib.hid (fun w' (k : Below w4.heap.size w4 w') => HZ4.out.below k)
  have hI0 : SwI w4 ob 0 0 [] (.slice none 0 0) (w4.alloc (.cells #[.int .i64 0, .int .i64 0] 98)) := by
    rw [hob]
    exact ⟨alloc_below _ _, Nat.le_refl _, by simp, by simp, by simp, by simp, RowS.nil _ _⟩
  have HI0 := Lib.hid hI0
  obtain ⟨i0, hi, hz0, hz1, hz2⟩ := info_parts Try.infoS
  have HIS := Lib.hid (And.intro hi (And.intro hz0 (And.intro hz1 hz2)))
  rw [← hob]
  have HLEW := Lib.hid (show w4.heap.size ≤ ob by omega)
  clear hi hz0 hz1 hz2 hI0 H1 H2 HL1 HL2 HF1 HF2 HR1 HR2 HR3 HB1 HB2 HB3 HZ4 hob
  go_loopg [8, 10, 23] m (fun gk s8 s10 s23 wx => ∃ (i : Nat) (a b : Int) (inn : Bool) (res : List Sn), i + gk = m ∧ s23 = .int .i64 i ∧ s10 = .bool inn ∧ Hid (run h st0 L = run h ⟨a, b, inn, res⟩ (L.drop i)) ∧ Hid (SwI w4 ob a b res s8 wx) ∧ (-(i : Int) ≤ a ∧ a ≤ i ∧ -(i : Int) ≤ b ∧ b ≤ i) ∧ res.length ≤ i ∧ (inn = true → 0 < res.length))
  case atStart => exact ⟨0, 0, 0, false, [], by omega, rfl, rfl, rfl, HI0.out, ⟨by omega, by omega, by omega, by omega⟩, Nat.le_refl _, fun e => by cases e⟩
  case round =>
    obtain ⟨i, a, b, inn, res, hi, rfl, rfl, HRun, HI, hab, hrl, hin⟩ := hrel
    cases gk with
    | zero =>
      have hlt : ¬ (i : Int) < (m : Int) := by omega
      clear hin
      go_wp2
      go_ret
      refine ⟨_, rfl, L, HP.out.1, HP.out.2, ?_, HB4.out.trans (HI.out.hb.mono HB4.out.size)⟩
      rw [HRun.out, List.drop_of_length_le (by have := HM.out; omega)]
      exact HI.out.row.lower (by have := HB4.out.size; have := HLEW.out; omega)
    | succ gk =>
      have hlt : (i : Int) < (m : Int) := by omega
      obtain ⟨x, hx⟩ : ∃ x, L[i]? = some x := ⟨_, List.getElem?_eq_getElem (by have := HM.out; omega)⟩
      obtain ⟨bb, off, rfl, d1, d2, d3⟩ := HZ.out _ HI.out.hb i x hx
      have HX := Lib.hid hx
      have hfit := HFit.out x (List.mem_of_getElem? hx)
      obtain ⟨x1, k, ch⟩ := x
      obtain ⟨kn, rfl⟩ : ∃ kn : Nat, k = (kn : Int) := ⟨k.toNat, by have := hfit.2.2.1; simp only at this; omega⟩
      have hkn : kn < 2 := by have := hfit.2.2.1; simp only at this; omega
      have hch : -1 ≤ ch ∧ ch ≤ 1 := by have := hfit.2.2.2; simp only at this; omega
      have hx1 := And.intro hfit.1 hfit.2.1
      clear hx hfit
      simp only at d1 d2 d3 hx1
      go_upto_region 9 with (fail)
      have hxlt : wr.heap.size < (wr.alloc (.cells #[.int .i64 x1, .int .i64 (kn : Int), .int .i64 ch] 94)).heap.size := by simp
      have e0 : (wr.alloc (.cells #[.int .i64 x1, .int .i64 (kn : Int), .int .i64 ch] 94)).cell? ⟨wr.heap.size, 0, none⟩ = some (.int .i64 x1) := by simp
      have e1 : (wr.alloc (.cells #[.int .i64 x1, .int .i64 (kn : Int), .int .i64 ch] 94)).cell? ⟨wr.heap.size, 1, none⟩ = some (.int .i64 (kn : Int)) := by simp
      have e2 : (wr.alloc (.cells #[.int .i64 x1, .int .i64 (kn : Int), .int .i64 ch] 94)).cell? ⟨wr.heap.size, 2, none⟩ = some (.int .i64 ch) := by simp
      have hI5 := HI.out.below (alloc_below wr (.cells #[.int .i64 x1, .int .i64 (kn : Int), .int .i64 ch] 94))
      have hobx := HI.out.lt
      generalize hW5 : wr.alloc (.cells #[.int .i64 x1, .int .i64 (kn : Int), .int .i64 ch] 94) = W5 at *
      generalize hxb : wr.heap.size = xb at *
      clear hW5 hxb d1 d2 d3 HI
      have hI6 := hI5.below (Below.refl _ W5).drew
      obtain ⟨ck, fk⟩ := hI6.ck hkn
      have HI9 := Lib.hid (hI6.bump hkn ch)
      have hneq : ob ≠ xb := by omega
      have g0 : (W5.drew.setCell ⟨ob, kn, none⟩ (.int .i64 ((if (kn : Int) = 0 then a else b) + ch))).cell? ⟨xb, 0, none⟩ = some (.int .i64 x1) := (World.cell?_setCell_far _ _ _ _ hneq).trans e0
      obtain ⟨ok, hok⟩ : ∃ ok, ok = if (kn : Int) = 0 then a else b := ⟨_, rfl⟩
      have hokb : -(i : Int) ≤ ok ∧ ok ≤ i := by rw [hok]; split <;> omega
      rw [← hok] at ck HI9 g0
      have HOK := Lib.hid hok
      have hwr := IntWalk.i64_in (ok + ch) (by omega)
      have hk0 : (0 : Int) ≤ (kn : Int) := by omega
      have hk2 : (kn : Int) < 2 := by omega
      have hmix : Try.prog.follows .mixedOrders = true := by kernel_rfl
      clear hok hI5 hI6 hobx e0
      refine wp_region_held_drew (S := fun w' => w'.cell? ⟨xb, 1, none⟩ = some (.int .i64 (kn : Int)) ∧ w'.cell? ⟨xb, 2, none⟩ = some (.int .i64 ch)) hmix ⟨e1, e2⟩ (fun hHeld => ?_)
      refine wpAnyH_take (i := 0) (v := ?_) rfl (by kernel_rfl) (by kernel_rfl) (by kernel_rfl) (fun _ _ _ h => h) (Or.inl ⟨by rfl, ?_⟩) (by assumption) ?_
      rotate_left
      · intro w hSw; (try dsimp only at hSw); go_simp; (try with_reducible rfl)
      (try simp only [Act.put, List.getElem_toArray, List.getElem_cons_zero, List.setIfInBounds_toArray, List.set_cons_zero, List.set_cons_succ])
      refine wpAnyH_take (i := 1) (v := ?_) rfl (by kernel_rfl) (by kernel_rfl) (by kernel_rfl) (fun _ _ _ h => h) (Or.inl ⟨by rfl, ?_⟩) (by assumption) ?_
      rotate_left
      · intro w hSw; (try dsimp only at hSw); go_simp; (try with_reducible rfl)
      (try simp only [Act.put, List.getElem_toArray, List.getElem_cons_succ, List.getElem_cons_zero, List.setIfInBounds_toArray, List.set_cons_zero, List.set_cons_succ])
      refine wpAnyH_take (i := 2) (v := ?_) rfl (by kernel_rfl) (by kernel_rfl) (by kernel_rfl) (fun _ _ _ h => h) (Or.inl ⟨by rfl, ?_⟩) (by assumption) ?_
      rotate_left
      · intro w hSw; (try dsimp only at hSw); go_simp; (try with_reducible rfl)
      (try simp only [Act.put, List.getElem_toArray, List.getElem_cons_succ, List.getElem_cons_zero, List.setIfInBounds_toArray, List.set_cons_zero, List.set_cons_succ])
      refine wpAnyH_take (i := 4) (v := ?_) rfl (by kernel_rfl) (by kernel_rfl) (by kernel_rfl) (fun _ _ _ h => h) (Or.inl ⟨by rfl, ?_⟩) (by assumption) ?_
      rotate_left
      · intro w hSw; (try dsimp only at hSw); go_simp; (try with_reducible rfl)
      (try simp only [Act.put, List.getElem_toArray, List.getElem_cons_succ, List.getElem_cons_zero, List.setIfInBounds_toArray, List.set_cons_zero, List.set_cons_succ])
      refine wpAnyH_take (i := 5) (v := ?_) rfl (by kernel_rfl) (by kernel_rfl) (by kernel_rfl) (fun _ _ _ h => h) (Or.inl ⟨by rfl, ?_⟩) (by assumption) ?_
      rotate_left
      · intro w hSw; (try dsimp only at hSw); go_simp; (try with_reducible rfl)
      (try simp only [Act.put, List.getElem_toArray, List.getElem_cons_succ, List.getElem_cons_zero, List.setIfInBounds_toArray, List.set_cons_zero, List.set_cons_succ])
      refine wpAnyH_ready (rs := [3]) (by kernel_rfl) (by simp) ?_
      refine AllReadyH.cons rfl (fun K hK => ?_) AllReadyH.nil
      go_simp
      (try skip)
      refine hK.out _ _ ⟨e1, e2⟩ (fun hHeld => ?_)
      clear hK K
      (try simp only [Act.put, List.getElem_toArray, List.getElem_cons_succ, List.getElem_cons_zero, List.setIfInBounds_toArray, List.set_cons_zero, List.set_cons_succ])
      refine wpAnyH_take (i := 6) (v := ?_) rfl (by kernel_rfl) (by kernel_rfl) (by kernel_rfl) (fun _ _ _ h => h) (Or.inl ⟨by rfl, ?_⟩) (by assumption) ?_
      rotate_left
      · intro w hSw; (try dsimp only at hSw); go_simp; (try with_reducible rfl)
      (try simp only [Act.put, List.getElem_toArray, List.getElem_cons_succ, List.getElem_cons_zero, List.setIfInBounds_toArray, List.set_cons_zero, List.set_cons_succ])
      refine wpAnyH_take (i := 7) (v := ?_) rfl (by kernel_rfl) (by kernel_rfl) (by kernel_rfl) (fun _ _ _ h => h) (Or.inl ⟨by rfl, ?_⟩) (by assumption) ?_
      rotate_left
      · intro w hSw; (try dsimp only at hSw); go_simp; (try with_reducible rfl)
      (try simp only [Act.put, List.getElem_toArray, List.getElem_cons_succ, List.getElem_cons_zero, List.setIfInBounds_toArray, List.set_cons_zero, List.set_cons_succ])
      refine wpAnyH_ready (rs := [8]) (by kernel_rfl) (by simp) ?_
      refine AllReadyH.cons rfl (fun K hK => ?_) AllReadyH.nil
      go_simp
      (try skip)
      refine hK.out _ _ ⟨(World.cell?_setCell_far _ _ _ _ hneq).trans e1, (World.cell?_setCell_far _ _ _ _ hneq).trans e2⟩ (fun hHeld => ?_)
      clear hK K
      (try simp only [Act.put, List.getElem_toArray, List.getElem_cons_succ, List.getElem_cons_zero, List.setIfInBounds_toArray, List.set_cons_zero, List.set_cons_succ])
      refine wpAnyH_done (by kernel_rfl) ?_ _
      go_upto_region 10 with (fail)
      obtain ⟨na, hna⟩ : ∃ na, na = if (kn : Int) = 0 then a + ch else a := ⟨_, rfl⟩
      obtain ⟨nb, hnb⟩ : ∃ nb, nb = if (kn : Int) = 0 then b else b + ch := ⟨_, rfl⟩
      have hnab : -((i : Int) + 1) ≤ na ∧ na ≤ (i : Int) + 1 ∧ -((i : Int) + 1) ≤ nb ∧ nb ≤ (i : Int) + 1 := by
        rw [hna, hnb]; split <;> omega
      obtain ⟨e, he⟩ : ∃ e, e = h (decide (0 < na)) (decide (0 < nb)) := ⟨_, rfl⟩
      have HC : Hid (∀ w, Calls Try.prog g #[.bool (decide (0 < na)), .bool (decide (0 < nb))] w fun r w' => r = .returned (.bool e) ∧ Below w.heap.size w w') := fun w => by rw [he]; exact HG.out _ _ w
      have HSAME : Hid (L[i + 1]?.map (fun y => y.1) = some x1 → run h st0 L = run h ⟨na, nb, inn, res⟩ (L.drop (i + 1))) := fun hs => by
        rw [HRun.out, hna, hnb]; exact run_same h HX.out hs
      have HKEEP : Hid (¬ L[i + 1]?.map (fun y => y.1) = some x1 → e = inn → run h st0 L = run h ⟨na, nb, inn, res⟩ (L.drop (i + 1))) := fun hs hv => by
        rw [HRun.out, hna, hnb]; rw [he, hna, hnb] at hv; exact run_keep h HX.out hs hv
      have HFLIP : Hid (¬ L[i + 1]?.map (fun y => y.1) = some x1 → ¬ e = inn → run h st0 L = run h ⟨na, nb, !inn, if inn then shut x1 res else res ++ [(x1, 0)]⟩ (L.drop (i + 1))) := fun hs hv => by
        rw [HRun.out, hna, hnb]; rw [he, hna, hnb] at hv; exact run_flip h HX.out hs hv
      replace HI9 : Hid (SwI w4 ob na nb res u8 (W5.setCell ⟨ob, kn, none⟩ (.int .i64 (ok + ch))).drew) := by
        rw [hna, hnb]; exact HI9.out
      replace g0 : (W5.setCell ⟨ob, kn, none⟩ (.int .i64 (ok + ch))).drew.cell? ⟨xb, 0, none⟩ = some (.int .i64 x1) := g0
      have HGE := Lib.hid (show W5.heap.size ≤ (W5.setCell ⟨ob, kn, none⟩ (.int .i64 (ok + ch))).drew.heap.size by simp)
      clear hHeld hab HG HRun HOK hwr hk0 hk2 hokb hneq ck fk e1 e2 hxlt hch hkn he hna hnb
      generalize (W5.setCell ⟨ob, kn, none⟩ (.int .i64 (ok + ch))).drew = W9 at *
      obtain ⟨vv, hvv⟩ : ∃ vv, vv = ok + ch := ⟨_, rfl⟩
      rw [← hvv]
      clear hvv
      have ca := HI9.out.c0
      have cb := HI9.out.c1
      have hw1 := IntWalk.i64_in ((i : Int) + 1) (by omega)
      have hi0 : (0 : Int) ≤ (i : Int) + 1 := by omega
      have hnn : ((i : Int) + 1).toNat = i + 1 := by omega
      by_cases hend : i + 1 < m
      · obtain ⟨y, hy⟩ : ∃ y, L[i + 1]? = some y := ⟨_, List.getElem?_eq_getElem (by have := HM.out; omega)⟩
        obtain ⟨bb2, off2, e2, t1, -, -⟩ := HZ.out _ HI9.out.hb (i + 1) y hy
        cases e2
        have hltn : (i : Int) + 1 < (m : Int) := by omega
        obtain ⟨y1, y2, y3⟩ := y
        simp only at t1
        by_cases hyx : y1 = x1
        · subst hyx
          have HS := Lib.hid (HSAME.out (by rw [hy]; rfl))
          clear hy HSAME HKEEP HFLIP
          go_quiet (fail)
          go_wp2
          go_roundg gk
          case measure => omega
          case rel => exact ⟨i + 1, na, nb, inn, res, by omega, by go_num, rfl, HS.out, HI9.out.below (below_drewN (Below.refl _ _) _), ⟨by omega, by omega, by omega, by omega⟩, by omega, hin⟩
        · have hyb : (y1 == x1) = false := by simpa using hyx
          have HNS := Lib.hid (show ¬ L[i + 1]?.map (fun y => y.1) = some x1 by rw [hy]; exact fun e => hyx (Option.some.inj e))
          clear hy hyx HSAME
          cases inn <;> cases e
          · go_quiet (fail)
            go_wp2_with (first
              | (go_at_fn g; (with_reducible refine (HC.out _).mono ?_); rintro _ w6 ⟨rfl, hb6⟩; have HI11 := Lib.hid ((HI9.out.below (below_drewN (Below.refl _ _) _)).below hb6); have g6 := cell_kept hb6 g0; clear ca cb hb6))
            go_roundg gk
            case measure => omega
            case rel => exact ⟨i + 1, na, nb, false, res, by omega, by go_num, rfl, (HKEEP.out HNS.out (by first | rfl | trivial)), HI11.out, ⟨by omega, by omega, by omega, by omega⟩, by omega, (fun e => by cases e)⟩
          · go_quiet (fail)
            go_wp2_with (first
              | (go_at_fn g; (with_reducible refine (HC.out _).mono ?_); rintro _ w6 ⟨rfl, hb6⟩; have HI11 := Lib.hid ((HI9.out.below (below_drewN (Below.refl _ _) _)).below hb6); have g6 := cell_kept hb6 g0; clear ca cb hb6)
              | (at_builtin; refine wpList_append_own _ rfl _ _ 34 rfl (ob + 1) 50 i0 (.agg #[.int .i64 0, .int .i64 0]) 2 16 Try.underS HIS.out.1 HIS.out.2.1 HIS.out.2.2.1 HIS.out.2.2.2 rfl (by decide) _ _ _ rfl (World.ownsRow.alloc HI11.out.row _) _ 1 1 [.int .i64 x1, .int .i64 0] rfl rfl (two_cells rfl) two_one (by unfold maxLen; omega) (by omega) (by have := HI11.out.lt; simp; omega) ?_; intro v' w7 hown' hgrow _; have HI12 := Lib.hid ((HI11.out.below (alloc_below _ _)).grown hgrow (RowS.push (l := res) hown')); clear hown' hgrow))
            go_roundg gk
            case measure => omega
            case rel => exact ⟨i + 1, na, nb, true, res ++ [(x1, 0)], by omega, by go_num, rfl, (HFLIP.out HNS.out (by decide)), HI12.out, ⟨by omega, by omega, by omega, by omega⟩, by rw [List.length_append]; show _ + 1 ≤ _; omega, (fun _ => by rw [List.length_append]; show 0 < _ + 1; omega)⟩
          · rcases HI9.out.row.2 with ⟨hv, h00⟩ | ⟨gb, cr, cur, eu, -⟩
            · exact absurd h00 (by have := hin rfl; omega)
            · subst eu
              obtain ⟨q, hq⟩ : ∃ q, q + 1 = res.length := ⟨res.length - 1, by have := hin rfl; omega⟩
              obtain ⟨y, hy⟩ : ∃ y, res[q]? = some y := ⟨_, List.getElem?_eq_getElem (by omega)⟩
              obtain ⟨y1, y2⟩ := y
              have HQ := Lib.hid hq
              have HY := Lib.hid hy
              have hq1 : q ≤ 8000 := by omega
              have hqq : (q : Int) < (q : Int) + 1 := by omega
              have hq0 : (0 : Int) ≤ (q : Int) := by omega
              have hwq : IntKind.i64.wrap (q : Int) = (q : Int) := IntWalk.i64_in (q : Int) (by omega)
              have hwq2 : IntKind.i64.wrap ((q : Int) + 1 - 1) = (q : Int) := by rw [Int.add_sub_cancel]; exact hwq
              rw [← hq] at HI9 ⊢
              clear hq hy
              go_quiet (fail)
              go_wp2_with (first
                | (go_at_fn g; (with_reducible refine (HC.out _).mono ?_); rintro _ w6 ⟨rfl, hb6⟩; have HI11 := Lib.hid ((HI9.out.below (below_drewN (Below.refl _ _) _)).below hb6); have g6 := cell_kept hb6 g0; clear ca cb hb6; obtain ⟨s2, s3⟩ := HI11.out.row.at2 HY.out))
              go_roundg gk
              case measure => omega
              case rel => exact ⟨i + 1, na, nb, false, shut x1 res, by omega, by go_num, rfl, (HFLIP.out HNS.out (by decide)), (HI11.out.shut HY.out HQ.out), ⟨by omega, by omega, by omega, by omega⟩, by rw [shut_len]; omega, (fun e => by cases e)⟩
          · go_quiet (fail)
            go_wp2_with (first
              | (go_at_fn g; (with_reducible refine (HC.out _).mono ?_); rintro _ w6 ⟨rfl, hb6⟩; have HI11 := Lib.hid ((HI9.out.below (below_drewN (Below.refl _ _) _)).below hb6); have g6 := cell_kept hb6 g0; clear ca cb hb6))
            go_roundg gk
            case measure => omega
            case rel => exact ⟨i + 1, na, nb, true, res, by omega, by go_num, rfl, (HKEEP.out HNS.out (by first | rfl | trivial)), HI11.out, ⟨by omega, by omega, by omega, by omega⟩, by omega, (fun _ => by have := hin (by first | rfl | trivial); omega)⟩
      · have hltn : ¬ (i : Int) + 1 < (m : Int) := by omega
        have HNS := Lib.hid (show ¬ L[i + 1]?.map (fun y => y.1) = some x1 by rw [List.getElem?_eq_none (by have := HM.out; omega)]; exact fun e => by cases e)
        clear HSAME
        cases inn <;> cases e
        · go_quiet (fail)
          go_wp2_with (first
            | (go_at_fn g; (with_reducible refine (HC.out _).mono ?_); rintro _ w6 ⟨rfl, hb6⟩; have HI11 := Lib.hid ((HI9.out.below (below_drewN (Below.refl _ _) _)).below hb6); have g6 := cell_kept hb6 g0; clear ca cb hb6))
          go_roundg gk
          case measure => omega
          case rel => exact ⟨i + 1, na, nb, false, res, by omega, by go_num, rfl, (HKEEP.out HNS.out (by first | rfl | trivial)), HI11.out, ⟨by omega, by omega, by omega, by omega⟩, by omega, (fun e => by cases e)⟩
        · go_quiet (fail)
          go_wp2_with (first
            | (go_at_fn g; (with_reducible refine (HC.out _).mono ?_); rintro _ w6 ⟨rfl, hb6⟩; have HI11 := Lib.hid ((HI9.out.below (below_drewN (Below.refl _ _) _)).below hb6); have g6 := cell_kept hb6 g0; clear ca cb hb6)
            | (at_builtin; refine wpList_append_own _ rfl _ _ 34 rfl (ob + 1) 50 i0 (.agg #[.int .i64 0, .int .i64 0]) 2 16 Try.underS HIS.out.1 HIS.out.2.1 HIS.out.2.2.1 HIS.out.2.2.2 rfl (by decide) _ _ _ rfl (World.ownsRow.alloc HI11.out.row _) _ 1 1 [.int .i64 x1, .int .i64 0] rfl rfl (two_cells rfl) two_one (by unfold maxLen; omega) (by omega) (by have := HI11.out.lt; simp; omega) ?_; intro v' w7 hown' hgrow _; have HI12 := Lib.hid ((HI11.out.below (alloc_below _ _)).grown hgrow (RowS.push (l := res) hown')); clear hown' hgrow))
          go_roundg gk
          case measure => omega
          case rel => exact ⟨i + 1, na, nb, true, res ++ [(x1, 0)], by omega, by go_num, rfl, (HFLIP.out HNS.out (by decide)), HI12.out, ⟨by omega, by omega, by omega, by omega⟩, by rw [List.length_append]; show _ + 1 ≤ _; omega, (fun _ => by rw [List.length_append]; show 0 < _ + 1; omega)⟩
        · rcases HI9.out.row.2 with ⟨hv, h00⟩ | ⟨gb, cr, cur, eu, -⟩
          · exact absurd h00 (by have := hin rfl; omega)
          · subst eu
            obtain ⟨q, hq⟩ : ∃ q, q + 1 = res.length := ⟨res.length - 1, by have := hin rfl; omega⟩
            obtain ⟨y, hy⟩ : ∃ y, res[q]? = some y := ⟨_, List.getElem?_eq_getElem (by omega)⟩
            obtain ⟨y1, y2⟩ := y
            have HQ := Lib.hid hq
            have HY := Lib.hid hy
            have hq1 : q ≤ 8000 := by omega
            have hqq : (q : Int) < (q : Int) + 1 := by omega
            have hq0 : (0 : Int) ≤ (q : Int) := by omega
            have hwq : IntKind.i64.wrap (q : Int) = (q : Int) := IntWalk.i64_in (q : Int) (by omega)
            have hwq2 : IntKind.i64.wrap ((q : Int) + 1 - 1) = (q : Int) := by rw [Int.add_sub_cancel]; exact hwq
            rw [← hq] at HI9 ⊢
            clear hq hy
            go_quiet (fail)
            go_wp2_with (first
              | (go_at_fn g; (with_reducible refine (HC.out _).mono ?_); rintro _ w6 ⟨rfl, hb6⟩; have HI11 := Lib.hid ((HI9.out.below (below_drewN (Below.refl _ _) _)).below hb6); have g6 := cell_kept hb6 g0; clear ca cb hb6; obtain ⟨s2, s3⟩ := HI11.out.row.at2 HY.out))
            go_roundg gk
            case measure => omega
            case rel => exact ⟨i + 1, na, nb, false, shut x1 res, by omega, by go_num, rfl, (HFLIP.out HNS.out (by decide)), (HI11.out.shut HY.out HQ.out), ⟨by omega, by omega, by omega, by omega⟩, by rw [shut_len]; omega, (fun e => by cases e)⟩
        · go_quiet (fail)
          go_wp2_with (first
            | (go_at_fn g; (with_reducible refine (HC.out _).mono ?_); rintro _ w6 ⟨rfl, hb6⟩; have HI11 := Lib.hid ((HI9.out.below (below_drewN (Below.refl _ _) _)).below hb6); have g6 := cell_kept hb6 g0; clear ca cb hb6))
          go_roundg gk
          case measure => omega
          case rel => exact ⟨i + 1, na, nb, true, res, by omega, by go_num, rfl, (HKEEP.out HNS.out (by first | rfl | trivial)), HI11.out, ⟨by omega, by omega, by omega, by omega⟩, by omega, (fun _ => by have := hin (by first | rfl | trivial); omega)⟩
end Go.Proofs.Ytdoojpilogcnjaa.Sp
