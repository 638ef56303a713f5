/- The walk of the law PiecewiseSlopes: it returns true. Conditions: the numbers are Go's ints; the list lies in memory as the argument says. -/
import Derived.Test.YtgllakooabiliaaPwMade
import Derived.Deep.CutRange
import Derived.Test.YtgllakooabiliaaPwOpen
set_option linter.unusedVariables false
set_option linter.unusedSimpArgs false
namespace Go.Proofs.Ytgllakooabiliaa.Pw
open Go.RowKit Go.Proofs.Ytgllakooabiliaa.Sp
theorem Fine.vd {L : List Pc} (h : Fine L) {D : Int} (h1 : 1 ≤ D) (h2 : D ≤ 1000) : vdB D L = true := by
  unfold vdB
  rw [Bool.and_eq_true, decide_eq_true_eq, okB_iff]
  exact ⟨⟨h1, by omega, by have := h.len; omega⟩, h.ok⟩
theorem Fine.num {L : List Pc} (h : Fine L) {x : Int} (h0 : 0 ≤ x) (h1 : x ≤ 1000000000000) : -2001000000000000 ≤ num L x ∧ num L x ≤ 2001000000000000 := by
  obtain ⟨a, b, -⟩ := pick_spec h.ok h0
  have c := from_nonneg h.ok a
  obtain ⟨d1, d2⟩ := h.at_ _ a
  obtain ⟨e1, e2⟩ := h.sl _ a
  unfold Pw.num
  have k0 : 0 ≤ x - (pick L x).1 := by omega
  have k1 : x - (pick L x).1 ≤ 1000000000000 := by omega
  have m1 : (pick L x).2.2 * (x - (pick L x).1) ≤ 2000 * 1000000000000 := by
    have := Int.mul_le_mul_of_nonneg_right e2 k0
    have := Int.mul_le_mul_of_nonneg_left k1 (show (0 : Int) ≤ 2000 by decide)
    omega
  have m2 : -(2000 * 1000000000000) ≤ (pick L x).2.2 * (x - (pick L x).1) := by
    have := Int.mul_le_mul_of_nonneg_right e1 k0
    have := Int.mul_le_mul_of_nonneg_left k1 (show (0 : Int) ≤ 2000 by decide)
    have e : -2000 * (x - (pick L x).1) = -(2000 * (x - (pick L x).1)) := by rw [Int.neg_mul]
    omega
  omega
/-- A row of ints of the walk's own. -/
def RowI (w : World) (base : Nat) (v : Value) (S : List Int) : Prop := w.ownsRow base 3 1 v S.length (S.map (Value.int .i64))
theorem RowI.cells {w : World} {base : Nat} {v : Value} {S : List Int} (h : RowI w base v S) (h0 : 0 < S.length) : ∃ g cap, v = .slice (some ⟨g, 0, none⟩) S.length cap ∧ base ≤ g ∧ ∀ i x, S[i]? = some x → w.cell? ⟨g, i, none⟩ = some (.int .i64 x) := by
  rcases h.2 with ⟨-, e⟩ | ⟨g, cap, cur, hv, hb, hg, rest⟩
  · omega
  · refine ⟨g, cap, hv, hb, fun i x hx => ?_⟩
    subst hv
    have c := World.ownsRow.cells h (g := g) rfl i (.int .i64 x) (by rw [List.getElem?_map, hx]; rfl)
    rw [show (⟨g, 0, none⟩ : Addr).add i = ⟨g, 0 + i, none⟩ by unfold Addr.add; split <;> simp_all, Nat.zero_add] at c
    exact c
theorem RowI.app {w : World} {base : Nat} {v : Value} {S : List Int} {a b : Int} (h : w.ownsRow base 3 1 v (S.length + 2) (S.map (Value.int .i64) ++ [.int .i64 a, .int .i64 b])) : RowI w base v (S ++ [a, b]) := by
  unfold RowI
  rw [List.length_append, List.map_append]
  exact h
theorem ints_cell1 (S : List Int) : ∀ u ∈ S.map (Value.int .i64), u.oneCell' = true := fun u hu => by
  obtain ⟨x, -, rfl⟩ := List.mem_map.1 hu
  rfl
/-- The function's box and pieces. -/
structure SlF (x0 : Nat) (D : Int) (a : Option Addr) (L : List Pc) (m c : Nat) (W : World) : Prop where
  f0 : W.cell? ⟨x0, 0, none⟩ = some (.int .i64 D)
  f1 : W.cell? ⟨x0, 1, none⟩ = some (.slice a m c)
  p : PcsAt a L W
theorem SlF.below {x0 : Nat} {D : Int} {a : Option Addr} {L : List Pc} {m c : Nat} {W W' : World} (h : SlF x0 D a L m c W) (k : Below W.heap.size W W') : SlF x0 D a L m c W' := ⟨Sp.cell_kept k h.f0, Sp.cell_kept k h.f1, h.p.below k⟩
theorem slf_new {W : World} {D : Int} {a : Option Addr} {L : List Pc} {c : Nat} (hp : PcsAt a L W) : SlF W.heap.size D a L L.length c (W.alloc (fb D a L.length c)) :=
  ⟨(fb_cells_m W D a L.length c).1, (fb_cells_m W D a L.length c).2.1, hp.below (Sp.alloc_below W _)⟩
theorem slf_row {W : World} {C0 C1 : Int} (hb : W.heap.size ≤ W.heap.size) : RowI (W.alloc (.cells #[.int .i64 C0, .int .i64 C1] 3)) W.heap.size (.slice (some ⟨W.heap.size, 0, none⟩) 2 2) [C0, C1] :=
  World.ownsRow_lit (size := 1) W #[.int .i64 C0, .int .i64 C1] 2 (Nat.le_refl _) (by unfold maxLen; decide) rfl
/-- `all`, as far as it is made. -/
structure SlR (Wf : World) (y0 : Nat) (v : Value) (N i : Nat) (S : List Int) (W : World) : Prop where
  len : S.length = N
  cnt : N = 2 + 2 * i
  bd : ∀ x ∈ S, 0 ≤ x ∧ x ≤ 999999999999
  row : RowI W y0 v S
  hb : Below y0 Wf W
theorem SlR.cells {Wf W : World} {y0 gb cp N i : Nat} {S : List Int} (h : SlR Wf y0 (.slice (some ⟨gb, 0, none⟩) N cp) N i S W) : ∀ j x, S[j]? = some x → W.cell? ⟨gb, j, none⟩ = some (.int .i64 x) := fun j x hx => by
  have c := World.ownsRow.cells h.row (g := gb) rfl j (.int .i64 x) (by rw [List.getElem?_map, hx]; rfl)
  rw [show (⟨gb, 0, none⟩ : Addr).add j = ⟨gb, 0 + j, none⟩ by unfold Addr.add; split <;> simp_all, Nat.zero_add] at c
  exact c
theorem ints_two {w : World} {o : Obj} {d n : Int} (ho : o = .cells #[.int .i64 d, .int .i64 n] 3) : ∀ j u, ([Value.int .i64 d, .int .i64 n] : List Value)[j]? = some u → (w.alloc o).cell? ((⟨w.heap.size, 0, none⟩ : Addr).add j) = some u := fun j u hu => by
  subst ho
  exact World.news_of_block (cs := #[.int .i64 d, .int .i64 n]) (heap_alloc_new w _) j u hu
/-- From an argument to the next one: the slope of its piece. -/
theorem slope_fact {L : List Pc} (h : Ok L) {j : Nat} {p : Pc} (hp : L[j]? = some p) {C : Int} (h0 : p.1 ≤ C) (h1 : 0 ≤ C) (hn : ∀ q, L[j + 1]? = some q → C + 1 < q.1) : num L (C + 1) - num L C = p.2.2 := by
  have hlt : ∀ q ∈ L, q.1 ≤ p.1 ∨ C + 1 < q.1 := fun q hq => by
    obtain ⟨k, hk⟩ := List.getElem?_of_mem hq
    obtain ⟨hkl, hke⟩ := List.getElem?_eq_some_iff.1 hk
    obtain ⟨hjl, hje⟩ := List.getElem?_eq_some_iff.1 hp
    rcases Nat.lt_or_ge j k with g | g
    · have hj1 : j + 1 < L.length := by omega
      have hs := hn L[j + 1] (List.getElem?_eq_getElem hj1)
      rcases Nat.lt_or_ge (j + 1) k with g2 | g2
      · have := List.pairwise_iff_getElem.1 h.inc (j + 1) k hj1 hkl g2
        rw [hke] at this; right; omega
      · obtain rfl : k = j + 1 := by omega
        rw [hke] at hs; exact .inr hs
    · rcases Nat.lt_or_ge k j with g2 | g2
      · have := List.pairwise_iff_getElem.1 h.inc k j hkl hjl g2
        rw [hke, hje] at this; left; omega
      · obtain rfl : k = j := by omega
        rw [hje] at hke; subst hke; exact .inl (Int.le_refl _)
  have hpm := List.mem_of_getElem? hp
  rw [num_next h h1 (fun q hq => by rcases hlt q hq with e | e <;> omega)]
  unfold slp
  rw [pick_of h h1 hpm h0 (fun q hq hqx => by rcases hlt q hq with e | e <;> omega)]
set_option maxHeartbeats 16000000 in
set_option maxRecDepth 100000 in
theorem slopes_walk (den x : Int) (a0 : Option Addr) (k0 : Nat) (l : List Pc) (w : World) (hd : Rg den) (hx : Rg x) (hl : l.length ≤ 9223372036854775807) (hr : ∀ p ∈ l, Rg p.1 ∧ Rg p.2.1 ∧ Rg p.2.2) (z : PcsAt a0 l w) :
    Calls Try.prog 8 #[.slice a0 l.length k0, .int .i64 den, .int .i64 x] w fun r w' => r = .returned (.bool true) ∧ Below w.heap.size w w' := by
  have HH := Lib.hid (head_any w)
  have HMD := Lib.hid (fun w' (k : Below w.heap.size w w') => made_any den a0 k0 l w' hd hl hr (z.below k))
  have HP1 := Lib.hid (fun w => pick_any x 1000000000000 w hx (by decide) (by decide))
  have HP2 := Lib.hid (fun w => pick_any x 1000 w hx (by decide) (by decide))
  have hC0 := pk_bd (c := x) (n := 1000000000000) (by decide)
  have hC1 := pk_bd (c := x) (n := 1000) (by decide)
  have hD := pk_bd (c := den) (n := 1000) (by decide)
  generalize pk x 1000000000000 = C0 at *
  generalize pk x 1000 = C1 at *
  obtain ⟨D, hDD⟩ : ∃ D, D = 1 + pk den 1000 := ⟨_, rfl⟩
  rw [← hDD] at HMD
  have HDB := Lib.hid (show 1 ≤ D ∧ D ≤ 1000 by omega)
  have HCB := Lib.hid (show (0 ≤ C0 ∧ C0 ≤ 999999999999) ∧ (0 ≤ C1 ∧ C1 ≤ 999999999999) by omega)
  have HPE := Lib.hid (fun c w d x l a (z : PcsAt a l w) => peval_any d x a c l w z)
  obtain ⟨i0, hi, hz0, hz1, hz2⟩ := info_parts Try.infoI
  have HI0 := Lib.hid (And.intro hi (And.intro hz0 (And.intro hz1 hz2)))
  clear hd hx hl hr z hC0 hC1 hD hDD hi hz0 hz1 hz2
  generalize l.length = n at *
  go_enter Try.func8, Try.ntmps8
  go_upto_region 3 with (first
    | (go_at_call 9; (with_reducible refine HH.out.mono ?_); rintro _ W1 ⟨rfl, hb⟩; have HB1 := Lib.hid hb; clear hb)
    | (go_at_call 10; (with_reducible refine (HMD.out _ HB1.out).mono ?_); rintro _ W2 ⟨a, c, L, rfl, hp, hf, -, -, hb⟩; have HB2 := Lib.hid (HB1.out.trans (hb.mono HB1.out.size)); have HP := Lib.hid hp; have HF := Lib.hid hf; clear hb hp hf))
  clear HMD HH
  go_upto_region 4 with (first
    | (go_at_call 17; (with_reducible refine (HP1.out _).mono ?_); rintro _ W3 ⟨rfl, hw3⟩; subst hw3)
    | (go_at_call 17; (with_reducible refine (HP2.out _).mono ?_); rintro _ W4 ⟨rfl, hw4⟩; subst hw4))
  clear HP1 HP2
  have hFF := slf_new (D := D) (c := c) HP.out
  have hBF := HB2.out.trans ((Sp.alloc_below W2 (fb D a L.length c)).mono HB2.out.size)
  have hRW := slf_row (W := W2.alloc (fb D a L.length c)) (C0 := C0) (C1 := C1) (Nat.le_refl _)
  have hBW := Sp.alloc_below (W2.alloc (fb D a L.length c)) (.cells #[.int .i64 C0, .int .i64 C1] 3)
  have hsz : (W2.alloc (fb D a L.length c)).heap.size = W2.heap.size + 1 := by simp
  have HEV := Lib.hid (fun C (h : 0 ≤ C ∧ C ≤ 1000000000000) w' (z : PcsAt a L w') => (HPE.out c w' D C L a z).mono (fun r w'' (q : _ ∧ _) => (⟨q.1.trans (ev_pos ⟨HF.out.vd HDB.out.1 HDB.out.2, h.1, h.2⟩), q.2⟩ : r = .returned (.tuple #[.int .i64 (num L C), .int .i64 D, .int .i64 0]) ∧ Below w'.heap.size w' w'')))
  clear HP HB1 HB2 HPE
  obtain ⟨m, hm⟩ : ∃ m, m = L.length := ⟨_, rfl⟩
  rw [← hm] at hFF hBF hRW hBW HEV hsz ⊢
  have HM := Lib.hid (show m = L.length ∧ 0 < m ∧ m ≤ 30 by
    refine ⟨hm, ?_, by rw [hm]; exact HF.out.len⟩
    obtain ⟨p, r, e, -⟩ := HF.out.ok.zero
    rw [hm, e]; simp)
  clear hm
  change Code.wp _ _ _ _ ((W2.alloc (fb D a m c)).alloc (.cells #[.int .i64 C0, .int .i64 C1] _))
  rw [← hsz]
  generalize W2.alloc (fb D a m c) = Wf at *
  generalize W2.heap.size = x0 at *
  have HFF := Lib.hid hFF
  have HBF := Lib.hid hBF
  have HRW := Lib.hid hRW
  have HBW := Lib.hid hBW
  have HSZ := Lib.hid hsz
  clear hFF hBF hRW hBW hsz
  generalize hW5 : Wf.alloc (.cells #[.int .i64 C0, .int .i64 C1] 3) = W5 at *
  clear hW5
  generalize hy : Wf.heap.size = y0 at HRW HSZ ⊢
  have HY := Lib.hid hy
  clear hy
  have hy0 : y0 ≤ Wf.heap.size := by have := HY.out; omega
  have HS0 : Hid (SlR Wf y0 (.slice (some ⟨y0, 0, none⟩) 2 2) 2 0 [C0, C1] W5) := by
    refine ⟨rfl, rfl, fun x hx => ?_, HRW.out, by rw [← HY.out]; exact HBW.out⟩
    have := HCB.out
    simp only [List.mem_cons, List.not_mem_nil, or_false] at hx
    rcases hx with rfl | rfl <;> omega
  have HFB := Lib.hid (fun W' (k : Below y0 Wf W') => (show SlF x0 D a L m c W' from HFF.out.below (by rw [HY.out]; exact k)))
  clear HRW HBW HFF
  go_upto_region 4 with (fail)
  go_wp2_with fail
  go_loopg [9, 10] m (fun g s9 s10 wx => ∃ (i : Nat) (S : List Int) (gb cp N : Nat), i + g = m ∧ s10 = .int .i64 i ∧ s9 = .slice (some ⟨gb, 0, none⟩) N cp ∧ Hid (SlR Wf y0 (.slice (some ⟨gb, 0, none⟩) N cp) N i S wx))
  case atStart => exact ⟨0, [C0, C1], y0, 2, 2, by omega, rfl, rfl, HS0⟩
  case round =>
    clear HS0
    obtain ⟨i, S, gb, cp, N, hi, rfl, rfl, HS⟩ := hrel
    have f1 := (HFB.out _ HS.out.hb).f1
    cases gk with
    | zero =>
      obtain rfl : i = m := by omega
      have HL := Lib.hid HS.out.len
      have HBD := Lib.hid HS.out.bd
      have hNb : N ≤ 62 := by have := HS.out.cnt; have := HM.out; omega
      generalize wr = Wl at *
      have HC2 := Lib.hid (fun j x (hx : S[j]? = some x) W' (k : Below Wl.heap.size Wl W') => Sp.cell_kept k (HS.out.cells j x hx))
      have HF2 := Lib.hid (fun W' (k : Below Wl.heap.size Wl W') => (show SlF x0 D a L i c W' from (HFB.out _ HS.out.hb).below k))
      have HB2 := Lib.hid (fun W' (k : Below Wl.heap.size Wl W') => (show Below w.heap.size w W' from (HBF.out.trans (HS.out.hb.mono (by have := HBF.out.size; have := HY.out; omega))).trans (k.mono (by have := HBF.out.size; have := HS.out.hb.size; omega))))
      clear HFB HS HBF hy0 hi
      go_wp2_with fail
      clear f1
      generalize i = m at *
      go_loopg [7, 58] N (fun g s7 s58 wx => ∃ k : Nat, k + g = N ∧ s7 = .bool true ∧ s58 = .int .i64 k ∧ Hid (Below Wl.heap.size Wl wx))
      case atStart => exact ⟨0, by omega, rfl, rfl, Below.refl _ _⟩
      case round =>
        obtain ⟨k, hk, rfl, rfl, HB⟩ := hrel
        cases gk with
        | zero =>
          obtain rfl : k = N := by omega
          go_wp2
          go_ret
          exact ⟨rfl, HB2.out _ HB.out⟩
        | succ g =>
          have hlt : (k : Int) < (N : Int) := by omega
          have hk0 : (0 : Int) ≤ (k : Int) := by omega
          have hwk : IntKind.i64.wrap ((k : Int) + 1) = (k : Int) + 1 := IntWalk.i64_in _ (by omega)
          obtain ⟨C, hC⟩ : ∃ C, S[k]? = some C := ⟨_, List.getElem?_eq_getElem (by have := HL.out; omega)⟩
          have hcC := HC2.out k C hC _ HB.out
          have hCb := HBD.out C (List.mem_of_getElem? hC)
          obtain ⟨Cn, hCn⟩ : ∃ Cn, C + 1 = Cn := ⟨_, rfl⟩
          have hwC : IntKind.i64.wrap (C + 1) = Cn := by rw [hCn]; exact IntWalk.i64_in _ (by omega)
          have f0 := (HF2.out _ HB.out).f0
          have f1 := (HF2.out _ HB.out).f1
          have HE0 := Lib.hid (fun w' z => HEV.out C ⟨hCb.1, by omega⟩ w' z)
          have HE1 := Lib.hid (fun w' z => HEV.out Cn ⟨by omega, by omega⟩ w' z)
          obtain ⟨N0, hN0⟩ : ∃ N0, num L C = N0 := ⟨_, rfl⟩
          obtain ⟨N1, hN1⟩ : ∃ N1, num L Cn = N1 := ⟨_, rfl⟩
          have HNN := Lib.hid (And.intro hCn (And.intro hN0 (And.intro hN1 hCb)))
          rw [hN0] at HE0
          rw [hN1] at HE1
          clear hC hCb hCn hN0 hN1
          go_upto_region 14 with (first
            | (go_at_call 22; ((with_reducible refine (HE0.out _ (HF2.out _ HB.out).p).mono ?_); rintro _ wn ⟨rfl, kn⟩); replace HB := Lib.hid (HB.out.trans (kn.mono HB.out.size)); clear f0 f1 hcC; have f0 := (HF2.out _ HB.out).f0; have f1 := (HF2.out _ HB.out).f1; clear kn)
            | (go_at_call 22; ((with_reducible refine (HE1.out _ (HF2.out _ HB.out).p).mono ?_); rintro _ wn ⟨rfl, kn⟩); replace HB := Lib.hid (HB.out.trans (kn.mono HB.out.size)); clear f0 f1; have f0 := (HF2.out _ HB.out).f0; have f1 := (HF2.out _ HB.out).f1; clear kn))
          clear HE0 HE1
          go_wp2_with fail
          go_loopg [7, 19] m (fun g s7 s19 wx => ∃ j : Nat, j + g = m ∧ s7 = .bool true ∧ s19 = .int .i64 j ∧ Hid (Below Wl.heap.size Wl wx))
          case atStart => exact ⟨0, by omega, rfl, rfl, HB⟩
          case round =>
            clear HB f0 f1
            obtain ⟨j, hj, rfl, rfl, HB⟩ := hrel
            have f1 := (HF2.out _ HB.out).f1
            have hj0 : (0 : Int) ≤ (j : Int) := by omega
            cases gk with
            | zero =>
              obtain rfl : j = m := by omega
              go_wp2
              go_roundg g
              case measure => omega
              case rel => exact ⟨k + 1, by omega, rfl, by go_num, HB⟩
            | succ g3 =>
              have hjlt : (j : Int) < (m : Int) := by omega
              have hwj : IntKind.i64.wrap ((j : Int) + 1) = (j : Int) + 1 := IntWalk.i64_in _ (by have := HM.out; omega)
              obtain ⟨p, hp⟩ : ∃ p, L[j]? = some p := ⟨_, List.getElem?_eq_getElem (by have := HM.out; omega)⟩
              obtain ⟨b, off, ea, e0, e1, e2⟩ := (HF2.out _ HB.out).p j p hp
              subst ea
              have HNX := Lib.hid (fun W' (q : Below Wl.heap.size Wl W') x (hx : L[j + 1]? = some x) => (show W'.cell? ⟨b, off + (j + 1) * 3, none⟩ = some (.int .i64 x.1) by obtain ⟨b2, o2, e, u1, -, -⟩ := (HF2.out W' q).p (j + 1) x hx; cases e; exact u1))
              have hpm := List.mem_of_getElem? hp
              have hst1 : p.1 = C → N0 = p.2.1 := fun e => by rw [← HNN.out.2.1, ← e]; exact num_start HF.out.ok hpm
              have hst2 : p.1 = Cn → N1 = p.2.1 := fun e => by rw [← HNN.out.2.2.1, ← e]; exact num_start HF.out.ok hpm
              have hsl : p.1 ≤ C → (∀ q, L[j + 1]? = some q → Cn < q.1) → N1 - N0 = p.2.2 := fun h1 h2 => by
                rw [← HNN.out.2.1, ← HNN.out.2.2.1, ← HNN.out.1]
                exact slope_fact HF.out.ok hp h1 HNN.out.2.2.2.1 (fun q hq => by have := h2 q hq; have := HNN.out.1; omega)
              have hsb := HF.out.sl p hpm
              obtain ⟨u, y, v⟩ := p
              simp only at e0 e1 e2 hst1 hst2 hsl hsb
              have HST := Lib.hid (And.intro hst1 (And.intro hst2 (And.intro hsl hsb)))
              clear hp hpm hst1 hst2 hsl hsb
              go_upto_region 18 with (fail)
              have kA := Sp.alloc_below wr (pb (u, y, v))
              obtain ⟨p0, p1, p2⟩ := pb_cells wr (u, y, v)
              simp only at p0 p1 p2
              replace HB := Lib.hid (HB.out.trans (kA.mono HB.out.size))
              clear f1 e0 e1 e2 kA
              have f1 := (HF2.out _ HB.out).f1
              change Code.wp _ _ _ _ (wr.alloc (pb (u, y, v)))
              generalize wr.alloc (pb (u, y, v)) = wq at *
              generalize wr.heap.size = q at p0 p1 p2 ⊢
              have hlbx : (((j : Int) + 1) == (m : Int)) = decide (j + 1 = m) := by
                rw [Bool.eq_iff_iff, beq_iff_eq, decide_eq_true_eq]; omega
              obtain ⟨lb, hlb⟩ : ∃ b, decide (j + 1 = m) = b := ⟨_, rfl⟩
              rw [hlb] at hlbx
              have HLB := Lib.hid hlb
              clear hlb
              go_upto_region 19 with (fail)
              clear hlbx
              go_cut [7] from 86 to 157 (fun s7 wx => s7 = .bool true ∧ wx = wq)
              case first =>
                by_cases h1 : u = C
                · have c1 : (u == C) = true := beq_iff_eq.2 h1
                  have c2 : (u != C) = false := by rw [bne, c1]; rfl
                  have c3 : (N0 == y) = true := beq_iff_eq.2 (HST.out.1 h1)
                  have h2 : ¬ u = Cn := by have := HNN.out.1; omega
                  have c4 : (u == Cn) = false := beq_eq_false_iff_ne.2 h2
                  have c5 : (u != Cn) = true := by rw [bne, c4]; rfl
                  clear h1 h2
                  as_aux_lemma => (go_wp2_with fail; go_meet; exact ⟨rfl, rfl⟩)
                · have c1 : (u == C) = false := beq_eq_false_iff_ne.2 h1
                  have c2 : (u != C) = true := by rw [bne, c1]; rfl
                  by_cases h2 : u = Cn
                  · have c4 : (u == Cn) = true := beq_iff_eq.2 h2
                    have c5 : (u != Cn) = false := by rw [bne, c4]; rfl
                    have c6 : (N1 == y) = true := beq_iff_eq.2 (HST.out.2.1 h2)
                    clear h1 h2
                    as_aux_lemma => (go_wp2_with fail; go_meet; exact ⟨rfl, rfl⟩)
                  · have c4 : (u == Cn) = false := beq_eq_false_iff_ne.2 h2
                    have c5 : (u != Cn) = true := by rw [bne, c4]; rfl
                    clear h1 h2
                    as_aux_lemma => (go_wp2_with fail; go_meet; exact ⟨rfl, rfl⟩)
              case rest =>
                obtain ⟨rfl, hwc⟩ := hcut
                subst hwc
                by_cases hle : u ≤ C
                · cases lb
                  · have hjm : ¬ j + 1 = m := of_decide_eq_false HLB.out
                    obtain ⟨q2, hq2⟩ : ∃ q2, L[j + 1]? = some q2 := ⟨_, List.getElem?_eq_getElem (by have := HM.out; omega)⟩
                    have nx := HNX.out _ HB.out q2 hq2
                    have hq1 : (0 : Int) ≤ (j : Int) + 1 := by omega
                    have hq3 : (j : Int) + 1 < (m : Int) := by omega
                    by_cases hgt : Cn < q2.1
                    · have hv := HST.out.2.2.1 hle (fun q hq => by rw [hq2] at hq; obtain rfl := Option.some.inj hq; exact hgt)
                      have hwv : IntKind.i64.wrap (N1 - N0) = v := by rw [hv]; exact IntWalk.i64_in _ (by have := HST.out.2.2.2; omega)
                      generalize q2.1 = Q2 at nx hgt
                      clear hq2 hv hjm
                      as_aux_lemma => (go_wp2; go_roundg g3; (case measure => omega); (case rel => exact ⟨j + 1, by omega, rfl, by go_num, HB⟩))
                    · generalize q2.1 = Q2 at nx hgt
                      clear hq2 hjm
                      as_aux_lemma => (go_wp2; go_roundg g3; (case measure => omega); (case rel => exact ⟨j + 1, by omega, rfl, by go_num, HB⟩))
                  · have hjm : j + 1 = m := of_decide_eq_true HLB.out
                    have hv := HST.out.2.2.1 hle (fun q hq => by have := (List.getElem?_eq_some_iff.1 hq).1; have := HM.out; omega)
                    have hwv : IntKind.i64.wrap (N1 - N0) = v := by rw [hv]; exact IntWalk.i64_in _ (by have := HST.out.2.2.2; omega)
                    clear hv hjm
                    as_aux_lemma => (go_wp2; go_roundg g3; (case measure => omega); (case rel => exact ⟨j + 1, by omega, rfl, by go_num, HB⟩))
                · as_aux_lemma => (go_wp2; go_roundg g3; (case measure => omega); (case rel => exact ⟨j + 1, by omega, rfl, by go_num, HB⟩))
    | succ g =>
      have hlt : (i : Int) < (m : Int) := by omega
      have hi0 : (0 : Int) ≤ (i : Int) := by omega
      have hwi : IntKind.i64.wrap ((i : Int) + 1) = (i : Int) + 1 := IntWalk.i64_in _ (by have := HM.out; omega)
      obtain ⟨p, hp⟩ : ∃ p, L[i]? = some p := ⟨_, List.getElem?_eq_getElem (by have := HM.out; omega)⟩
      obtain ⟨b, off, ea, e0, -, -⟩ := (HFB.out _ HS.out.hb).p i p hp
      subst ea
      have HEZ := Lib.hid (fun W' (q : Below y0 Wf W') => (show W'.cell? ⟨b, off + i * 3, none⟩ = some (.int .i64 p.1) by obtain ⟨b2, o2, e, u1, -, -⟩ := (HFB.out W' q).p i p hp; cases e; exact u1))
      have hpm := List.mem_of_getElem? hp
      have hu0 := from_nonneg HF.out.ok hpm
      have hu1 := HF.out.ok.top p hpm
      generalize p.1 = u at e0 hu0 hu1 HEZ
      obtain ⟨u1, hu⟩ : ∃ u1, u - 1 = u1 := ⟨_, rfl⟩
      have hwu : IntKind.i64.wrap (u - 1) = u1 := by rw [hu]; exact IntWalk.i64_in _ (by omega)
      have HUB := Lib.hid (show (0 ≤ max 0 u1 ∧ max 0 u1 ≤ 999999999999) ∧ (0 ≤ min u 999999999999 ∧ min u 999999999999 ≤ 999999999999) by omega)
      have HR := Lib.hid (show RowI wr.drew y0 (.slice (some ⟨gb, 0, none⟩) N cp) S from HS.out.row)
      have HE := Lib.hid (And.intro f1 e0)
      have hNb : N ≤ 62 := by have := HS.out.cnt; have := HM.out; omega
      clear hp hpm hu hu0 hu1
      have hmix : Try.prog.follows .mixedOrders = true := by kernel_rfl
      go_upto_region 7 with (fail)
      refine wp_region_held_drew (S := fun W => W.cell? ⟨x0, 1, none⟩ = some (.slice (some ⟨b, off, none⟩) m c) ∧ W.cell? ⟨b, off + i * 3, none⟩ = some (.int .i64 u) ∧ Below y0 Wf W) hmix ⟨Sp.cell_kept (Below.refl _ wr).drew HE.out.1, Sp.cell_kept (Below.refl _ wr).drew HE.out.2, HS.out.hb.trans ((Below.refl _ wr).drew.mono (by have := HS.out.hb.size; omega))⟩ (fun hHeld => ?_)
      generalize wr.drew = WR at *
      refine wpAnyH_take (i := 0) (v := ?_) rfl (by kernel_rfl) (by kernel_rfl) (by kernel_rfl) (fun _ _ _ h => h) (Or.inl ⟨by rfl, ?_⟩) (by assumption) ?_
      rotate_left
      · intro w hSw; (try dsimp only at hSw); go_simp; (try with_reducible rfl)
      (try simp only [Act.put, List.getElem_toArray, List.getElem_cons_succ, List.getElem_cons_zero, List.setIfInBounds_toArray, List.set_cons_zero, List.set_cons_succ])
      refine wpAnyH_take (i := 1) (v := ?_) rfl (by kernel_rfl) (by kernel_rfl) (by kernel_rfl) (fun _ _ _ h => h) (Or.inl ⟨by rfl, ?_⟩) (by assumption) ?_
      rotate_left
      · intro w hSw; (try dsimp only at hSw); go_simp; (try with_reducible rfl)
      (try simp only [Act.put, List.getElem_toArray, List.getElem_cons_succ, List.getElem_cons_zero, List.setIfInBounds_toArray, List.set_cons_zero, List.set_cons_succ])
      refine wpAnyH_take (i := 2) (v := ?_) rfl (by kernel_rfl) (by kernel_rfl) (by kernel_rfl) (fun _ _ _ h => h) (Or.inl ⟨by rfl, ?_⟩) (by assumption) ?_
      rotate_left
      · intro w hSw; (try dsimp only at hSw); go_simp; (try with_reducible rfl)
      (try simp only [Act.put, List.getElem_toArray, List.getElem_cons_succ, List.getElem_cons_zero, List.setIfInBounds_toArray, List.set_cons_zero, List.set_cons_succ])
      refine wpAnyH_take (i := 3) (v := ?_) rfl (by kernel_rfl) (by kernel_rfl) (by kernel_rfl) (fun _ _ _ h => h) (Or.inl ⟨by rfl, ?_⟩) (by assumption) ?_
      rotate_left
      · intro w hSw; (try dsimp only at hSw); go_simp; (try with_reducible rfl)
      (try simp only [Act.put, List.getElem_toArray, List.getElem_cons_succ, List.getElem_cons_zero, List.setIfInBounds_toArray, List.set_cons_zero, List.set_cons_succ])
      refine wpAnyH_take (i := 4) (v := ?_) rfl (by kernel_rfl) (by kernel_rfl) (by kernel_rfl) (fun _ _ _ h => h) (Or.inl ⟨by rfl, ?_⟩) (by assumption) ?_
      rotate_left
      · intro w hSw; (try dsimp only at hSw); go_simp; (try with_reducible rfl)
      (try simp only [Act.put, List.getElem_toArray, List.getElem_cons_succ, List.getElem_cons_zero, List.setIfInBounds_toArray, List.set_cons_zero, List.set_cons_succ])
      refine wpAnyH_take (i := 5) (v := ?_) rfl (by kernel_rfl) (by kernel_rfl) (by kernel_rfl) (fun _ _ _ h => h) (Or.inl ⟨by rfl, ?_⟩) (by assumption) ?_
      rotate_left
      · intro w hSw; (try dsimp only at hSw); go_simp; (try with_reducible rfl)
      (try simp only [Act.put, List.getElem_toArray, List.getElem_cons_succ, List.getElem_cons_zero, List.setIfInBounds_toArray, List.set_cons_zero, List.set_cons_succ])
      refine wpAnyH_take (i := 6) (v := ?_) rfl (by kernel_rfl) (by kernel_rfl) (by kernel_rfl) (fun _ _ _ h => h) (Or.inl ⟨by rfl, ?_⟩) (by assumption) ?_
      rotate_left
      · intro w hSw; (try dsimp only at hSw); go_simp; (try with_reducible rfl)
      (try simp only [Act.put, List.getElem_toArray, List.getElem_cons_succ, List.getElem_cons_zero, List.setIfInBounds_toArray, List.set_cons_zero, List.set_cons_succ])
      refine wpAnyH_take (i := 7) (v := ?_) rfl (by kernel_rfl) (by kernel_rfl) (by kernel_rfl) (fun _ _ _ h => h) (Or.inl ⟨by rfl, ?_⟩) (by assumption) ?_
      rotate_left
      · intro w hSw; (try dsimp only at hSw); go_simp; (try with_reducible rfl)
      (try simp only [Act.put, List.getElem_toArray, List.getElem_cons_succ, List.getElem_cons_zero, List.setIfInBounds_toArray, List.set_cons_zero, List.set_cons_succ])
      refine wpAnyH_take (i := 8) (v := ?_) rfl (by kernel_rfl) (by kernel_rfl) (by kernel_rfl) (fun _ _ _ h => h) (Or.inl ⟨by rfl, ?_⟩) (by assumption) ?_
      rotate_left
      · intro w hSw; (try dsimp only at hSw); go_simp; (try with_reducible rfl)
      (try simp only [Act.put, List.getElem_toArray, List.getElem_cons_succ, List.getElem_cons_zero, List.setIfInBounds_toArray, List.set_cons_zero, List.set_cons_succ])
      refine wpAnyH_take (i := 9) (v := ?_) rfl (by kernel_rfl) (by kernel_rfl) (by kernel_rfl) (fun _ _ _ h => h) (Or.inl ⟨by rfl, ?_⟩) (by assumption) ?_
      rotate_left
      · intro w hSw; (try dsimp only at hSw); go_simp; (try with_reducible rfl)
      (try simp only [Act.put, List.getElem_toArray, List.getElem_cons_succ, List.getElem_cons_zero, List.setIfInBounds_toArray, List.set_cons_zero, List.set_cons_succ])
      refine wpAnyH_take (i := 10) (v := ?_) rfl (by kernel_rfl) (by kernel_rfl) (by kernel_rfl) (fun _ _ _ h => h) (Or.inl ⟨by rfl, ?_⟩) (by assumption) ?_
      rotate_left
      · intro w hSw; (try dsimp only at hSw); go_simp; (try with_reducible rfl)
      (try simp only [Act.put, List.getElem_toArray, List.getElem_cons_succ, List.getElem_cons_zero, List.setIfInBounds_toArray, List.set_cons_zero, List.set_cons_succ])
      refine wpAnyH_take (i := 11) (v := ?_) rfl (by kernel_rfl) (by kernel_rfl) (by kernel_rfl) (fun _ _ _ h => h) (Or.inl ⟨by rfl, ?_⟩) (by assumption) ?_
      rotate_left
      · intro w hSw; (try dsimp only at hSw); go_simp; (try with_reducible rfl)
      (try simp only [Act.put, List.getElem_toArray, List.getElem_cons_succ, List.getElem_cons_zero, List.setIfInBounds_toArray, List.set_cons_zero, List.set_cons_succ])
      refine wpAnyH_take (i := 12) (v := ?_) rfl (by kernel_rfl) (by kernel_rfl) (by kernel_rfl) (fun _ _ _ h => h) (Or.inl ⟨by rfl, ?_⟩) (by assumption) ?_
      rotate_left
      · intro w hSw; (try dsimp only at hSw); go_simp; (try with_reducible rfl)
      (try simp only [Act.put, List.getElem_toArray, List.getElem_cons_succ, List.getElem_cons_zero, List.setIfInBounds_toArray, List.set_cons_zero, List.set_cons_succ])
      refine wpAnyH_take (i := 13) (v := ?_) rfl (by kernel_rfl) (by kernel_rfl) (by kernel_rfl) (fun _ _ _ h => h) (Or.inl ⟨by rfl, ?_⟩) (by assumption) ?_
      rotate_left
      · intro w hSw; (try dsimp only at hSw); go_simp; (try with_reducible rfl)
      (try simp only [Act.put, List.getElem_toArray, List.getElem_cons_succ, List.getElem_cons_zero, List.setIfInBounds_toArray, List.set_cons_zero, List.set_cons_succ])
      refine wpAnyH_take (i := 14) (v := ?_) rfl (by kernel_rfl) (by kernel_rfl) (by kernel_rfl) (fun _ _ _ h => h) (Or.inl ⟨by rfl, ?_⟩) (by assumption) ?_
      rotate_left
      · intro w hSw; (try dsimp only at hSw); go_simp; (try with_reducible rfl)
      (try simp only [Act.put, List.getElem_toArray, List.getElem_cons_succ, List.getElem_cons_zero, List.setIfInBounds_toArray, List.set_cons_zero, List.set_cons_succ])
      refine wpAnyH_take (i := 15) (v := ?_) rfl (by kernel_rfl) (by kernel_rfl) (by kernel_rfl) (fun _ _ _ h => h) (Or.inl ⟨by rfl, ?_⟩) (by assumption) ?_
      rotate_left
      · intro w hSw; (try dsimp only at hSw); go_simp; (try with_reducible rfl)
      (try simp only [Act.put, List.getElem_toArray, List.getElem_cons_succ, List.getElem_cons_zero, List.setIfInBounds_toArray, List.set_cons_zero, List.set_cons_succ])
      refine wpAnyH_ready (rs := [16]) (by kernel_rfl) (by simp) ?_
      refine AllReadyH.cons rfl (fun K hK => ?_) AllReadyH.nil
      go_simp
      have kA := Sp.alloc_below WR (.cells #[.int .i64 (max 0 u1), .int .i64 (min u 999999999999)] 3)
      have hz1 := hHeld.2.2.size
      have HRA := Lib.hid (show RowI (WR.alloc (.cells #[.int .i64 (max 0 u1), .int .i64 (min u 999999999999)] 3)) y0 (.slice (some ⟨gb, 0, none⟩) N cp) S from World.ownsRow.alloc HR.out _)
      have HNW := Lib.hid (show SrcAt (WR.alloc (.cells #[.int .i64 (max 0 u1), .int .i64 (min u 999999999999)] 3)) (.slice (some ⟨WR.heap.size, 0, none⟩) 2 2) 2 [.int .i64 (max 0 u1), .int .i64 (min u 999999999999)] from .inr ⟨_, 2, rfl, ints_two rfl⟩)
      refine hK.out _ _ ⟨Sp.cell_kept kA hHeld.1, Sp.cell_kept kA hHeld.2.1, hHeld.2.2.trans (kA.mono (by omega))⟩ (fun hHeld => ?_)
      clear hK K kA
      (try simp only [Act.put, List.getElem_toArray, List.getElem_cons_succ, List.getElem_cons_zero, List.setIfInBounds_toArray, List.set_cons_zero, List.set_cons_succ])
      generalize hWA : WR.alloc (.cells #[.int .i64 (max 0 u1), .int .i64 (min u 999999999999)] 3) = WA at *
      clear hWA
      have hz2 := hHeld.2.2.size
      generalize WR.heap.size = gn at HNW ⊢
      refine wpAnyH_ready (rs := [17]) (by kernel_rfl) (by simp) ?_
      refine AllReadyH.cons rfl (fun K hK => ?_) AllReadyH.nil
      refine step_append_src (by rfl) (.tmp 38) (.tmp 54) 41 (by rfl) y0 3 i0 (.int .i64 0) 1 8 (by kernel_rfl) HI0.out.1 HI0.out.2.1 HI0.out.2.2.1 HI0.out.2.2.2 rfl (by decide) _ S.length (S.map (Value.int .i64)) (by rfl) HRA.out _ 2 [.int .i64 (max 0 u1), .int .i64 (min u 999999999999)] (by rfl) HNW.out rfl (two_one) (by have := HS.out.len; unfold maxLen; omega) (by have := HS.out.len; omega) (by omega) ?_
      intro v5 W14 hown5 hg5
      have hB5 := hHeld.2.2.grown hg5 (by omega) (fun k hk => (World.ownsRow.lt HRA.out k hk).1)
      obtain ⟨g5, c5, hv5, -, -⟩ := (RowI.app hown5).cells (by rw [List.length_append]; show 0 < _ + 2; omega)
      have HR5 := Lib.hid (RowI.app hown5)
      have HS5 : Hid (SlR Wf y0 v5 (N + 2) (i + 1) (S ++ [max 0 u1, min u 999999999999]) W14) := ⟨by rw [List.length_append, HS.out.len]; rfl, by have := HS.out.cnt; omega, fun x hx => by
        have := HUB.out
        rcases List.mem_append.1 hx with hx | hx
        · exact HS.out.bd x hx
        · simp only [List.mem_cons, List.not_mem_nil, or_false] at hx
          rcases hx with rfl | rfl <;> omega, HR5.out, hB5⟩
      rw [show (S ++ [max 0 u1, min u 999999999999]).length = N + 2 by rw [List.length_append, HS.out.len]; rfl] at hv5
      obtain ⟨N2, hN2⟩ : ∃ k, N + 2 = k := ⟨_, rfl⟩
      rw [hN2] at hv5 HS5
      subst hv5
      clear hown5 hg5 HR5 hN2
      refine hK.out _ _ ⟨(HFB.out _ hB5).f1, HEZ.out _ hB5, hB5⟩ (fun hHeld => ?_)
      clear hK K
      (try simp only [Act.put, List.getElem_toArray, List.getElem_cons_succ, List.getElem_cons_zero, List.setIfInBounds_toArray, List.set_cons_zero, List.set_cons_succ])
      refine wpAnyH_take (i := 18) (v := ?_) rfl (by kernel_rfl) (by kernel_rfl) (by kernel_rfl) (fun _ _ _ h => h) (Or.inl ⟨by rfl, ?_⟩) (by assumption) ?_
      rotate_left
      · intro w hSw; (try dsimp only at hSw); go_simp; (try with_reducible rfl)
      (try simp only [Act.put, List.getElem_toArray, List.getElem_cons_succ, List.getElem_cons_zero, List.setIfInBounds_toArray, List.set_cons_zero, List.set_cons_succ])
      refine wpAnyH_done (by kernel_rfl) ?_ _
      clear hHeld HE HR HRA HNW hz1 hz2
      go_wp2_with fail
      go_roundg g
      case measure => omega
      case rel => exact ⟨i + 1, S ++ [max 0 u1, min u 999999999999], g5, c5, N2, by omega, by go_num, rfl, HS5⟩
end Go.Proofs.Ytgllakooabiliaa.Pw
namespace Go.Proofs.Ytgllakooabiliaa.Pw
open Go.ChangeShapes Go.WideShapes Go.ChangeAt Go.RowKit Go.Proofs.Ytgllakooabiliaa.Sp
set_option maxRecDepth 100000 in
theorem slopes_lifted (os : Os) (started : os.Started) (H : Type) (enc : TypeId × Value → H) :
    ReturnsInHanded {} Try.checked os 8 .any (Rows.piecewiseSlopesSpec.pre6 enc Try.prog Try.f8 Rows.piecewiseSlopesRow.domain false) (Rows.piecewiseSlopesSpec.post enc Try.prog Try.f8 false true false false) := by
  refine returnsInHanded_of_change (C := Try.checked) Sp.own started (by kernel_rfl) Try.func8
    (ChangeSpec.witness6 (enc := enc) (C := Try.checked) false ⟨#[], #[.slice none 0 0, .int .i64 0, .int .i64 0], []⟩ 8 (by kernel_rfl) (by kernel_rfl) (by kernel_rfl) (by kernel_rfl)) ?_
  intro W base args ds gs before hval0 hW hcnd _
  have hval : ∀ (j : Nat) t v, Try.f8.params[j]? = some t → args[j]? = some v → Value.okWide Try.prog W .any base t v := hval0
  have hW' := hW
  have hlt := hW.lt
  obtain ⟨p, q, hA0, hV, rfl, hfz, hnd⟩ := hW
  have hA : DataW.TrodAll enc Try.prog W 0 (fun _ => true) true Try.f8.params.toList args.toList ds p := hA0
  have hkeep := fun W' (hb : Below W.heap.size W W') => trodAll_below Sp.laidOut hb (by rw [Try.params8]; intro t ht; simp only [List.mem_cons, List.not_mem_nil, or_false] at ht; rcases ht with rfl | rfl | rfl <;> exact ⟨by kernel_rfl, of_decide_eq_true (by kernel_rfl)⟩) hA (fun x hx => hlt x (List.mem_append_left _ hx))
  rw [Try.params8] at hA hval
  obtain ⟨v0, vs0, d0, ds0, p0, q0, hargs, rfl, rfl, h0, r0⟩ := trodAll_cons hA
  obtain ⟨v1, vs1, d1, ds1, p1, q1, rfl, rfl, rfl, h1, r1⟩ := trodAll_cons r0
  obtain ⟨v2, vs2, d2, ds2, p2, q2, rfl, rfl, rfl, h2, r2⟩ := trodAll_cons r1
  obtain ⟨rfl, rfl, rfl⟩ := trodAll_nil r2
  obtain rfl : args = #[v0, v1, v2] := by cases args; simp_all
  obtain ⟨rfl, rfl⟩ := trodVars_none hV
  obtain ⟨a0, c0, x0, rfl, z0⟩ := open_pcs (hval 0 25 v0 rfl rfl) h0
  obtain ⟨y1, rfl, rfl, rfl, w1⟩ := open_int Try.underlying3 (hval 1 3 v1 rfl rfl) h1
  obtain ⟨y2, rfl, rfl, rfl, w2⟩ := open_int Try.underlying3 (hval 2 3 v2 rfl rfl) h2
  clear hA0 hval0
  simp only [List.append_nil] at hW'
  refine (slopes_walk y1 y2 a0 c0 x0 W (bounds_i64 w1) (bounds_i64 w2) (Nat.le_trans z0.len (by decide)) z0.rg z0.at_).mono fun e W' ⟨he, hg⟩ => ?_
  subst he
  exact ⟨_, rfl, _, _, _, [], _, [], hW', trodAll_mk1 (shut_bool Try.underlying4 _), hkeep W' hg, rfl, hg.frame _, fun h => by cases h⟩
theorem slopes_said : Rows.PiecewiseSlopesSaid :=
  OpenClaim.holds_of_wide 8 Try.f8 rfl rfl rfl rfl rfl rfl rfl ⟨rfl, rfl, rfl, rfl, rfl⟩ rfl rfl rfl rfl rfl (by kernel_rfl) Try.func8 (by kernel_rfl)
    (of_decide_eq_true (by kernel_rfl)) (by unfold Func.isWrapper; first | (rw [if_pos (by decide +kernel)]; kernel_rfl) | (rw [if_neg (by decide +kernel)]; exact ⟨rfl, rfl⟩))
    (fun os started H enc _ => slopes_lifted os started H enc)
end Go.Proofs.Ytgllakooabiliaa.Pw
