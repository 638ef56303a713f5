/- What the developers' two ways of joining two pieces return: their sum, the lesser one. Conditions: both pieces begin at one argument, their numbers are those of valid functions. -/
import Derived.Test.YtdoojpilogcnjaaPwOwn2
set_option linter.unusedVariables false
set_option linter.unusedSimpArgs false
namespace Go.Proofs.Ytdoojpilogcnjaa.Pw
open Go.RowKit Go.Proofs.Ytdoojpilogcnjaa.Sp
theorem pcs_new1 (w : World) (p : Pc) : PcsAt (some ⟨w.heap.size, 0, none⟩) [p] (w.alloc (.cells #[.int .i64 p.1, .int .i64 p.2.1, .int .i64 p.2.2] 55)) := fun i x hx => by
  cases i with
  | zero => obtain rfl := Option.some.inj hx; exact ⟨_, 0, rfl, by simp [World.cell?_alloc_new], by simp [World.cell?_alloc_new], by simp [World.cell?_alloc_new]⟩
  | succ i => simp at hx
theorem pcs_new2 (w : World) (p q : Pc) : PcsAt (some ⟨w.heap.size, 0, none⟩) [p, q] (w.alloc (.cells #[.int .i64 p.1, .int .i64 p.2.1, .int .i64 p.2.2, .int .i64 q.1, .int .i64 q.2.1, .int .i64 q.2.2] 55)) := fun i x hx => by
  cases i with
  | zero => obtain rfl := Option.some.inj hx; exact ⟨_, 0, rfl, by simp [World.cell?_alloc_new], by simp [World.cell?_alloc_new], by simp [World.cell?_alloc_new]⟩
  | succ i => cases i with
    | zero => obtain rfl := Option.some.inj hx; exact ⟨_, 0, rfl, by simp [World.cell?_alloc_new], by simp [World.cell?_alloc_new], by simp [World.cell?_alloc_new]⟩
    | succ i => simp at hx
/-- Two pieces from one argument on, before an end. -/
structure Two (p q : Pc) (e : Int) : Prop where
  same : q.1 = p.1
  s0 : 0 ≤ p.1
  se : p.1 < e
  e1 : e ≤ 1000000000001
  pa : -2000000000000000000 ≤ p.2.1 ∧ p.2.1 ≤ 2000000000000000000
  qa : -2000000000000000000 ≤ q.2.1 ∧ q.2.1 ≤ 2000000000000000000
  pm : -1000000 ≤ p.2.2 ∧ p.2.2 ≤ 1000000
  qm : -1000000 ≤ q.2.2 ∧ q.2.2 ≤ 1000000
/-- What a way of joining returns. -/
def JoinPost (w : World) (L : List Pc) (r : Ending) (w' : World) : Prop := ∃ b c, r = .returned (.slice (some ⟨b, 0, none⟩) L.length c) ∧ PcsAt (some ⟨b, 0, none⟩) L w' ∧ Below w.heap.size w w'
theorem JoinPost.of {w w' : World} {L M : List Pc} {r : Ending} {b c : Nat} (h : M = L) (hr : r = .returned (.slice (some ⟨b, 0, none⟩) L.length c)) (hp : PcsAt (some ⟨b, 0, none⟩) L w') (hb : Below w.heap.size w w') : JoinPost w M r w' := by subst h; exact ⟨b, c, hr, hp, hb⟩
def Joins (g : Nat) (J : Pc → Pc → Int → List Pc) : Prop := ∀ (p q : Pc) (e : Int) (w : World), Two p q e → Calls Try.prog g #[pv p, pv q, .int .i64 e] w (JoinPost w (J p q e))
/-- The cells of two boxes. -/
theorem two_boxes (w : World) (p q : Pc) : (((w.alloc (pb p)).alloc (pb q)).cell? ⟨w.heap.size, 0, none⟩ = some (.int .i64 p.1) ∧ ((w.alloc (pb p)).alloc (pb q)).cell? ⟨w.heap.size, 1, none⟩ = some (.int .i64 p.2.1) ∧ ((w.alloc (pb p)).alloc (pb q)).cell? ⟨w.heap.size, 2, none⟩ = some (.int .i64 p.2.2)) ∧
    (((w.alloc (pb p)).alloc (pb q)).cell? ⟨w.heap.size + 1, 0, none⟩ = some (.int .i64 q.1) ∧ ((w.alloc (pb p)).alloc (pb q)).cell? ⟨w.heap.size + 1, 1, none⟩ = some (.int .i64 q.2.1) ∧ ((w.alloc (pb p)).alloc (pb q)).cell? ⟨w.heap.size + 1, 2, none⟩ = some (.int .i64 q.2.2)) ∧
    (∀ i, ((w.alloc (pb p)).alloc (pb q)).frozen? ⟨w.heap.size, i, none⟩ = false) ∧ (∀ i, ((w.alloc (pb p)).alloc (pb q)).frozen? ⟨w.heap.size + 1, i, none⟩ = false) ∧ Below w.heap.size w ((w.alloc (pb p)).alloc (pb q)) := by
  have hs : (w.alloc (pb p)).heap.size = w.heap.size + 1 := by simp
  obtain ⟨a0, a1, a2⟩ := pb_cells w p
  have g := pb_cells (w.alloc (pb p)) q
  have y := fun i => pb_free (w.alloc (pb p)) q i
  rw [hs] at g
  simp only [hs] at y
  have k := alloc_below (w.alloc (pb p)) (pb q)
  refine ⟨⟨cell_kept k a0, cell_kept k a1, cell_kept k a2⟩, g, fun i => ?_, y, (alloc_below w _).trans (k.mono (alloc_below w _).size)⟩
  have e : ((w.alloc (pb p)).alloc (pb q)).frozen? ⟨w.heap.size, i, none⟩ = (w.alloc (pb p)).frozen? ⟨w.heap.size, i, none⟩ := k.frozen (show (⟨w.heap.size, i, none⟩ : Addr).block < (w.alloc (pb p)).heap.size by rw [hs]; exact Nat.lt_succ_self _)
  rw [e]; exact pb_free w p i
set_option maxHeartbeats 2000000 in
set_option maxRecDepth 100000 in
theorem padd1_any : Joins 29 (fun p q _ => [(p.1, p.2.1 + q.2.1, p.2.2 + q.2.2)]) := fun p q e w H => by
  obtain ⟨p1, p2, p3⟩ := p
  obtain ⟨q1, q2, q3⟩ := q
  obtain ⟨-, -, -, -, ha, hb, hc, hd⟩ := H
  simp only at ha hb hc hd
  have hw1 := IntWalk.i64_in (p2 + q2) (by omega)
  have hw2 := IntWalk.i64_in (p3 + q3) (by omega)
  obtain ⟨⟨a0, a1, a2⟩, ⟨b0, b1, b2⟩, -, -, hB⟩ := two_boxes w (p1, p2, p3) (q1, q2, q3)
  simp only at a0 a1 a2 b0 b1 b2
  clear ha hb hc hd
  go_enter Try.func29, Try.ntmps29
  go_upto_region 1 with (fail)
  generalize (w.alloc (pb (p1, p2, p3))).alloc (pb (q1, q2, q3)) = W1 at *
  have HB := Lib.hid hB
  clear hB
  go_wp2
  go_ret
  exact JoinPost.of rfl rfl (pcs_new1 W1 (p1, p2 + q2, p3 + q3)) (HB.out.trans ((alloc_below W1 _).mono HB.out.size))
/-- Two boxes exchanged, cell by cell. -/
theorem swap33 {B xb yb : Nat} {w0 w : World} {x0 x1 x2 y0 y1 y2 : Value} (hb : Below B w0 w) (hx : B ≤ xb) (hy : B ≤ yb) (hne : xb ≠ yb) (h0 : w.cell? ⟨xb, 0, none⟩ = some x0) (h1 : w.cell? ⟨xb, 1, none⟩ = some x1) (h2 : w.cell? ⟨xb, 2, none⟩ = some x2) (g0 : w.cell? ⟨yb, 0, none⟩ = some y0) (g1 : w.cell? ⟨yb, 1, none⟩ = some y1) (g2 : w.cell? ⟨yb, 2, none⟩ = some y2) :
    ((((((w.setCell ⟨xb, 0, none⟩ y0).setCell ⟨xb, 1, none⟩ y1).setCell ⟨xb, 2, none⟩ y2).setCell ⟨yb, 0, none⟩ x0).setCell ⟨yb, 1, none⟩ x1).setCell ⟨yb, 2, none⟩ x2).cell? ⟨xb, 0, none⟩ = some y0 ∧ ((((((w.setCell ⟨xb, 0, none⟩ y0).setCell ⟨xb, 1, none⟩ y1).setCell ⟨xb, 2, none⟩ y2).setCell ⟨yb, 0, none⟩ x0).setCell ⟨yb, 1, none⟩ x1).setCell ⟨yb, 2, none⟩ x2).cell? ⟨xb, 1, none⟩ = some y1 ∧ ((((((w.setCell ⟨xb, 0, none⟩ y0).setCell ⟨xb, 1, none⟩ y1).setCell ⟨xb, 2, none⟩ y2).setCell ⟨yb, 0, none⟩ x0).setCell ⟨yb, 1, none⟩ x1).setCell ⟨yb, 2, none⟩ x2).cell? ⟨xb, 2, none⟩ = some y2 ∧
    ((((((w.setCell ⟨xb, 0, none⟩ y0).setCell ⟨xb, 1, none⟩ y1).setCell ⟨xb, 2, none⟩ y2).setCell ⟨yb, 0, none⟩ x0).setCell ⟨yb, 1, none⟩ x1).setCell ⟨yb, 2, none⟩ x2).cell? ⟨yb, 0, none⟩ = some x0 ∧ ((((((w.setCell ⟨xb, 0, none⟩ y0).setCell ⟨xb, 1, none⟩ y1).setCell ⟨xb, 2, none⟩ y2).setCell ⟨yb, 0, none⟩ x0).setCell ⟨yb, 1, none⟩ x1).setCell ⟨yb, 2, none⟩ x2).cell? ⟨yb, 1, none⟩ = some x1 ∧ ((((((w.setCell ⟨xb, 0, none⟩ y0).setCell ⟨xb, 1, none⟩ y1).setCell ⟨xb, 2, none⟩ y2).setCell ⟨yb, 0, none⟩ x0).setCell ⟨yb, 1, none⟩ x1).setCell ⟨yb, 2, none⟩ x2).cell? ⟨yb, 2, none⟩ = some x2 ∧
    Below B w0 ((((((w.setCell ⟨xb, 0, none⟩ y0).setCell ⟨xb, 1, none⟩ y1).setCell ⟨xb, 2, none⟩ y2).setCell ⟨yb, 0, none⟩ x0).setCell ⟨yb, 1, none⟩ x1).setCell ⟨yb, 2, none⟩ x2) := by
  obtain ⟨a0, a1, a2, ab⟩ := fill3 (a := y0) (b := y1) (c := y2) hb hx h0 h1 h2
  have f0 : (((w.setCell ⟨xb, 0, none⟩ y0).setCell ⟨xb, 1, none⟩ y1).setCell ⟨xb, 2, none⟩ y2).cell? ⟨yb, 0, none⟩ = some y0 := by rw [World.cell?_setCell_far _ _ _ _ hne, World.cell?_setCell_far _ _ _ _ hne, World.cell?_setCell_far _ _ _ _ hne]; exact g0
  have f1 : (((w.setCell ⟨xb, 0, none⟩ y0).setCell ⟨xb, 1, none⟩ y1).setCell ⟨xb, 2, none⟩ y2).cell? ⟨yb, 1, none⟩ = some y1 := by rw [World.cell?_setCell_far _ _ _ _ hne, World.cell?_setCell_far _ _ _ _ hne, World.cell?_setCell_far _ _ _ _ hne]; exact g1
  have f2 : (((w.setCell ⟨xb, 0, none⟩ y0).setCell ⟨xb, 1, none⟩ y1).setCell ⟨xb, 2, none⟩ y2).cell? ⟨yb, 2, none⟩ = some y2 := by rw [World.cell?_setCell_far _ _ _ _ hne, World.cell?_setCell_far _ _ _ _ hne, World.cell?_setCell_far _ _ _ _ hne]; exact g2
  obtain ⟨b0, b1, b2, bb⟩ := fill3 (a := x0) (b := x1) (c := x2) ab hy f0 f1 f2
  refine ⟨?_, ?_, ?_, b0, b1, b2, bb⟩
  · rw [World.cell?_setCell_far _ _ _ _ hne.symm, World.cell?_setCell_far _ _ _ _ hne.symm, World.cell?_setCell_far _ _ _ _ hne.symm]; exact a0
  · rw [World.cell?_setCell_far _ _ _ _ hne.symm, World.cell?_setCell_far _ _ _ _ hne.symm, World.cell?_setCell_far _ _ _ _ hne.symm]; exact a1
  · rw [World.cell?_setCell_far _ _ _ _ hne.symm, World.cell?_setCell_far _ _ _ _ hne.symm, World.cell?_setCell_far _ _ _ _ hne.symm]; exact a2
theorem mul_bd {m k : Int} (hm : -1000000 ≤ m ∧ m ≤ 1000000) (h0 : 0 ≤ k) (h1 : k ≤ 1000000000001) : -2000000000000000000 ≤ m * k ∧ m * k ≤ 2000000000000000000 := by
  have a := Int.mul_le_mul_of_nonneg_right hm.1 h0
  have b := Int.mul_le_mul_of_nonneg_right hm.2 h0
  omega
set_option maxHeartbeats 8000000 in
set_option maxRecDepth 100000 in
theorem plesser_any : Joins 35 (fun p q e => cell (p.2.1, p.2.2) (q.2.1, q.2.2) p.1 (e - 1)) := fun p q e w H => by
  obtain ⟨r, p2, p3⟩ := p
  obtain ⟨s, q2, q3⟩ := q
  obtain ⟨hs, s0, se, e1, pa, qa, pm, qm⟩ := H
  simp only at hs s0 se e1 pa qa pm qm ⊢
  subst hs
  obtain ⟨⟨c0, c1, c2⟩, ⟨d0, d1, d2⟩, y0, y1, hB⟩ := two_boxes w (s, p2, p3) (s, q2, q3)
  simp only at c0 c1 c2 d0 d1 d2
  have hxy : w.heap.size ≠ w.heap.size + 1 := by omega
  obtain ⟨ya0, ya1, ya2⟩ := And.intro (y0 0) (And.intro (y0 1) (y0 2))
  obtain ⟨yb0, yb1, yb2⟩ := And.intro (y1 0) (And.intro (y1 1) (y1 2))
  clear y0 y1
  have HSW := Lib.hid (swap33 hB (Nat.le_refl _) (Nat.le_succ _) hxy c0 c1 c2 d0 d1 d2)
  have HCELL := Lib.hid (show cell (p2, p3) (q2, q3) s (e - 1) = (s, (lo (p2, p3) (q2, q3)).1, (lo (p2, p3) (q2, q3)).2) :: if turn s (e - 1) (lo (p2, p3) (q2, q3)) (hi (p2, p3) (q2, q3)) ≤ e - 1 then [(turn s (e - 1) (lo (p2, p3) (q2, q3)) (hi (p2, p3) (q2, q3)), (hi (p2, p3) (q2, q3)).1 + (hi (p2, p3) (q2, q3)).2 * (turn s (e - 1) (lo (p2, p3) (q2, q3)) (hi (p2, p3) (q2, q3)) - s), (hi (p2, p3) (q2, q3)).2)] else [] from rfl)
  have HLO := Lib.hid (lo_le (p2, p3) (q2, q3))
  go_enter Try.func35, Try.ntmps35
  go_upto_region 1 with (fail)
  generalize (w.alloc (pb (s, p2, p3))).alloc (pb (s, q2, q3)) = W1 at *
  have HB1 := Lib.hid hB
  clear hB hxy
  generalize hxb : w.heap.size = xb at c0 c1 c2 d0 d1 d2 ya0 ya1 ya2 yb0 yb1 yb2 HSW ⊢
  have HXB := Lib.hid hxb
  clear hxb
  by_cases g1 : q2 < p2
  · skip
    have hl : lower (p2, p3) (q2, q3) := by unfold lower; omega
    have elo : lo (p2, p3) (q2, q3) = (q2, q3) := by unfold lo; rw [if_pos hl]
    have ehi : hi (p2, p3) (q2, q3) = (p2, p3) := by unfold hi; rw [if_pos hl]
    rw [elo, ehi] at HCELL HLO
    have hle : _ ∧ _ := HLO.out
    clear elo ehi hl HLO
    go_upto_region 3 with (fail)
    obtain ⟨k0, k1, k2, m0, m1, m2, hBs⟩ := HSW.out
    generalize (((((W1.setCell ⟨xb, 0, none⟩ (.int .i64 s)).setCell ⟨xb, 1, none⟩ (.int .i64 q2)).setCell ⟨xb, 2, none⟩ (.int .i64 q3)).setCell ⟨xb + 1, 0, none⟩ (.int .i64 s)).setCell ⟨xb + 1, 1, none⟩ (.int .i64 p2)).setCell ⟨xb + 1, 2, none⟩ (.int .i64 p3) = W2 at *
    clear c0 c1 c2 d0 d1 d2 ya0 ya1 ya2 yb0 yb1 yb2 HSW HB1
    have HB2 := Lib.hid (show Below w.heap.size w W2 by rw [HXB.out]; exact hBs)
    clear hBs
    have c0 := k0
    have c1 := k1
    have c2 := k2
    have d0 := m0
    have d1 := m1
    have d2 := m2
    have e0 := k0
    have e1 := k1
    have e2 := k2
    have f0 := m0
    have f1 := m1
    have f2 := m2
    clear k0 k1 k2 m0 m1 m2
    have hw1 := IntWalk.i64_in (q2 - p2) (by omega)
    have hw2 := IntWalk.i64_in (q3 - p3) (by omega)
    have hxs : (W2.alloc (.cells #[.int .i64 s, .int .i64 (q2 - p2), .int .i64 (q3 - p3)] 55)).cell? ⟨W2.heap.size, 0, none⟩ = some (.int .i64 s) ∧ (W2.alloc (.cells #[.int .i64 s, .int .i64 (q2 - p2), .int .i64 (q3 - p3)] 55)).cell? ⟨W2.heap.size, 1, none⟩ = some (.int .i64 (q2 - p2)) ∧ (W2.alloc (.cells #[.int .i64 s, .int .i64 (q2 - p2), .int .i64 (q3 - p3)] 55)).cell? ⟨W2.heap.size, 2, none⟩ = some (.int .i64 (q3 - p3)) := pb_cells W2 (s, q2 - p2, q3 - p3)
    have hBx : Below W2.heap.size W2 (W2.alloc (.cells #[.int .i64 s, .int .i64 (q2 - p2), .int .i64 (q3 - p3)] 55)) := alloc_below W2 _
    have HKX := Lib.hid (And.intro (cell_kept (Below.refl _ W2) e0) (And.intro (cell_kept (Below.refl _ W2) e1) (And.intro (cell_kept (Below.refl _ W2) e2) (And.intro (cell_kept (Below.refl _ W2) f0) (And.intro (cell_kept (Below.refl _ W2) f1) (cell_kept (Below.refl _ W2) f2))))))
    clear c0 c1 c2 d0 d1 d2
    go_upto_region 4 with (fail)
    generalize W2.alloc (.cells #[.int .i64 s, .int .i64 (q2 - p2), .int .i64 (q3 - p3)] 55) = W4 at hxs hBx ⊢
    obtain ⟨x0, x1, x2⟩ := hxs
    clear e0 e1 e2 f0 f1 f2
    have c0 := cell_kept hBx HKX.out.1
    have c1 := cell_kept hBx HKX.out.2.1
    have c2 := cell_kept hBx HKX.out.2.2.1
    have d0 := cell_kept hBx HKX.out.2.2.2.1
    have d1 := cell_kept hBx HKX.out.2.2.2.2.1
    have d2 := cell_kept hBx HKX.out.2.2.2.2.2
    have HB5 := Lib.hid (HB2.out.trans (hBx.mono HB2.out.size))
    generalize W2.heap.size = eb at x0 x1 x2 ⊢
    clear hBx HKX hw1 hw2
    by_cases h1 : 0 < q3 - p3
    · have HEX := Lib.hid (fun w => pexceed_any (s, q2 - p2, q3 - p3) 0 w h1 (by show q3 - p3 ≤ _; omega) (by show _ ≤ 0 - (q2 - p2) ∧ 0 - (q2 - p2) ≤ _; omega) (by show _ ≤ s ∧ s ≤ _; omega))
      have hsub : (s, q2 - p2, q3 - p3).1 + (0 - (s, q2 - p2, q3 - p3).2.1) / (s, q2 - p2, q3 - p3).2.2 + 1 = s + (p2 - q2) / (q3 - p3) + 1 := by show s + (0 - (q2 - p2)) / (q3 - p3) + 1 = _; rw [show (0 : Int) - (q2 - p2) = p2 - q2 by omega]
      rw [hsub] at HEX
      clear hsub
      have hq0 : 0 ≤ (p2 - q2) / (q3 - p3) := Int.ediv_nonneg (by omega) (by omega)
      obtain ⟨t, ht⟩ : ∃ t, s + (p2 - q2) / (q3 - p3) + 1 = t := ⟨_, rfl⟩
      have hts : s < t := by omega
      have HTU := Lib.hid (show turn s (e - 1) (q2, q3) (p2, p3) = if p3 < q3 ∧ t ≤ e - 1 then t else e - 1 + 1 by unfold turn; rw [ht])
      rw [ht] at HEX
      clear hq0 ht
      have HX4 := Lib.hid (And.intro c0 (And.intro c1 (And.intro c2 (And.intro d0 (And.intro d1 d2)))))
      go_upto_region 6 with (go_at_call 51; with_reducible refine (HEX.out _).mono ?_; rintro _ W5 ⟨rfl, hn⟩)
      clear c0 c1 c2 d0 d1 d2 x0 x1 x2 HEX
      have c0 := cell_kept hn HX4.out.1
      have c1 := cell_kept hn HX4.out.2.1
      have c2 := cell_kept hn HX4.out.2.2.1
      have d0 := cell_kept hn HX4.out.2.2.2.1
      have d1 := cell_kept hn HX4.out.2.2.2.2.1
      have d2 := cell_kept hn HX4.out.2.2.2.2.2
      replace HB5 := Lib.hid (HB5.out.trans (hn.mono HB5.out.size))
      clear hn HX4
      by_cases h2 : t < e
      · have HCO := Lib.hid (fun w => pcont_any (s, p2, p3) t w (by show _ ≤ t - s ∧ t - s ≤ _; omega) (by show _ ≤ p3 * (t - s) ∧ p3 * (t - s) ≤ _; have := mul_bd (m := p3) (k := t - s) (by omega) (by omega) (by omega); omega) (by show _ ≤ p2 ∧ p2 ≤ _; omega))
        have HR := Lib.hid (show cell (p2, p3) (q2, q3) s (e - 1) = [(s, q2, q3), (t, p2 + p3 * (t - s), p3)] by rw [HCELL.out, HTU.out, if_pos (show p3 < q3 ∧ t ≤ e - 1 by omega), if_pos (show t ≤ e - 1 by omega)])
        have HV : Hid (∀ w : World, Calls Try.prog 52 #[.agg #[.int .i64 s, .int .i64 p2, .int .i64 p3], .int .i64 t] w fun r w' => r = .returned (.agg #[.int .i64 t, .int .i64 (p2 + p3 * (t - s)), .int .i64 p3]) ∧ Below w.heap.size w w') := HCO.out
        clear HCO HCELL HTU h1
        generalize p2 + p3 * (t - s) = V at *
        go_upto_region 7 with (fail)
        have HX5 := Lib.hid (And.intro c0 (And.intro c1 (And.intro c2 (And.intro d0 (And.intro d1 d2)))))
        have hmix : Try.prog.follows .mixedOrders = true := by kernel_rfl
        refine wp_region_held_drew (S := fun W => W.cell? ⟨xb, 0, none⟩ = some (.int .i64 s) ∧ W.cell? ⟨xb, 1, none⟩ = some (.int .i64 q2) ∧ W.cell? ⟨xb, 2, none⟩ = some (.int .i64 q3) ∧ W.cell? ⟨xb + 1, 0, none⟩ = some (.int .i64 s) ∧ W.cell? ⟨xb + 1, 1, none⟩ = some (.int .i64 p2) ∧ W.cell? ⟨xb + 1, 2, none⟩ = some (.int .i64 p3) ∧ Below w.heap.size w W) hmix ⟨cell_kept ((Below.refl _ W5).drew) HX5.out.1, cell_kept ((Below.refl _ W5).drew) HX5.out.2.1, cell_kept ((Below.refl _ W5).drew) HX5.out.2.2.1, cell_kept ((Below.refl _ W5).drew) HX5.out.2.2.2.1, cell_kept ((Below.refl _ W5).drew) HX5.out.2.2.2.2.1, cell_kept ((Below.refl _ W5).drew) HX5.out.2.2.2.2.2, HB5.out.trans (((Below.refl _ W5).drew).mono HB5.out.size)⟩ (fun hHeld => ?_)
        refine wpAnyH_take (i := 0) (v := ?_) rfl (by kernel_rfl) (by kernel_rfl) (by kernel_rfl) (fun _ _ _ h => h) (Or.inl ⟨by rfl, ?_⟩) (by assumption) ?_
        rotate_left
        · intro w hSw; (try dsimp only at hSw); go_simp; (try with_reducible rfl)
        (try simp only [Act.put, List.getElem_toArray, List.getElem_cons_succ, List.getElem_cons_zero, List.setIfInBounds_toArray, List.set_cons_zero, List.set_cons_succ])
        refine wpAnyH_take (i := 1) (v := ?_) rfl (by kernel_rfl) (by kernel_rfl) (by kernel_rfl) (fun _ _ _ h => h) (Or.inl ⟨by rfl, ?_⟩) (by assumption) ?_
        rotate_left
        · intro w hSw; (try dsimp only at hSw); go_simp; (try with_reducible rfl)
        (try simp only [Act.put, List.getElem_toArray, List.getElem_cons_succ, List.getElem_cons_zero, List.setIfInBounds_toArray, List.set_cons_zero, List.set_cons_succ])
        refine wpAnyH_take (i := 2) (v := ?_) rfl (by kernel_rfl) (by kernel_rfl) (by kernel_rfl) (fun _ _ _ h => h) (Or.inl ⟨by rfl, ?_⟩) (by assumption) ?_
        rotate_left
        · intro w hSw; (try dsimp only at hSw); go_simp; (try with_reducible rfl)
        (try simp only [Act.put, List.getElem_toArray, List.getElem_cons_succ, List.getElem_cons_zero, List.setIfInBounds_toArray, List.set_cons_zero, List.set_cons_succ])
        refine wpAnyH_ready (rs := [3]) (by kernel_rfl) (by simp) ?_
        refine AllReadyH.cons rfl (fun K hK => ?_) AllReadyH.nil
        go_simp
        refine (HV.out _).mono ?_
        rintro _ wc ⟨rfl, kc⟩
        refine hK.out _ _ ⟨cell_kept (kc) hHeld.1, cell_kept (kc) hHeld.2.1, cell_kept (kc) hHeld.2.2.1, cell_kept (kc) hHeld.2.2.2.1, cell_kept (kc) hHeld.2.2.2.2.1, cell_kept (kc) hHeld.2.2.2.2.2.1, hHeld.2.2.2.2.2.2.trans (kc.mono hHeld.2.2.2.2.2.2.size)⟩ (fun hHeld => ?_)
        clear hK K
        (try simp only [Act.put, List.getElem_toArray, List.getElem_cons_succ, List.getElem_cons_zero, List.setIfInBounds_toArray, List.set_cons_zero, List.set_cons_succ])
        refine wpAnyH_ready (rs := [4]) (by kernel_rfl) (by simp) ?_
        refine AllReadyH.cons rfl (fun K hK => ?_) AllReadyH.nil
        go_simp
        (try skip)
        refine hK.out _ _ ⟨cell_kept (alloc_below wc _) hHeld.1, cell_kept (alloc_below wc _) hHeld.2.1, cell_kept (alloc_below wc _) hHeld.2.2.1, cell_kept (alloc_below wc _) hHeld.2.2.2.1, cell_kept (alloc_below wc _) hHeld.2.2.2.2.1, cell_kept (alloc_below wc _) hHeld.2.2.2.2.2.1, hHeld.2.2.2.2.2.2.trans ((alloc_below wc _).mono hHeld.2.2.2.2.2.2.size)⟩ (fun hHeld => ?_)
        clear hK K
        (try simp only [Act.put, List.getElem_toArray, List.getElem_cons_succ, List.getElem_cons_zero, List.setIfInBounds_toArray, List.set_cons_zero, List.set_cons_succ])
        refine wpAnyH_take (i := 5) (v := ?_) rfl (by kernel_rfl) (by kernel_rfl) (by kernel_rfl) (fun _ _ _ h => h) (Or.inl ⟨by rfl, ?_⟩) (by assumption) ?_
        rotate_left
        · intro w hSw; (try dsimp only at hSw); go_simp; (try with_reducible rfl)
        (try simp only [Act.put, List.getElem_toArray, List.getElem_cons_succ, List.getElem_cons_zero, List.setIfInBounds_toArray, List.set_cons_zero, List.set_cons_succ])
        refine wpAnyH_done (by kernel_rfl) ?_ _
        go_wp2
        go_ret
        exact JoinPost.of HR.out rfl (pcs_new2 wc (s, q2, q3) (t, V, p3)) hHeld.2.2.2.2.2.2
      · skip
        have HR := Lib.hid (show cell (p2, p3) (q2, q3) s (e - 1) = [(s, q2, q3)] by rw [HCELL.out, HTU.out, if_neg (show ¬ (p3 < q3 ∧ t ≤ e - 1) by omega), if_neg (show ¬ e - 1 + 1 ≤ e - 1 by omega)])
        clear HCELL
        go_wp2
        go_ret
        exact JoinPost.of HR.out rfl (pcs_new1 _ (s, q2, q3)) (HB5.out.trans ((alloc_below _ _).mono HB5.out.size))
    · have HTU := Lib.hid (show turn s (e - 1) (q2, q3) (p2, p3) = e - 1 + 1 by unfold turn; rw [if_neg (show ¬ (p3 < q3 ∧ s + (p2 - q2) / (q3 - p3) + 1 ≤ e - 1) by omega)])
      have HR := Lib.hid (show cell (p2, p3) (q2, q3) s (e - 1) = [(s, q2, q3)] by rw [HCELL.out, HTU.out, if_neg (show ¬ e - 1 + 1 ≤ e - 1 by omega)])
      clear HCELL
      go_wp2
      go_ret
      exact JoinPost.of HR.out rfl (pcs_new1 _ (s, q2, q3)) (HB5.out.trans ((alloc_below _ _).mono HB5.out.size))
  by_cases g2 : q2 = p2
  · have t2 : (q2 == p2) = true := by simpa using g2
    by_cases g3 : q3 < p3
    · skip
      have hl : lower (p2, p3) (q2, q3) := by unfold lower; omega
      have elo : lo (p2, p3) (q2, q3) = (q2, q3) := by unfold lo; rw [if_pos hl]
      have ehi : hi (p2, p3) (q2, q3) = (p2, p3) := by unfold hi; rw [if_pos hl]
      rw [elo, ehi] at HCELL HLO
      have hle : _ ∧ _ := HLO.out
      clear elo ehi hl HLO
      clear g2
      go_upto_region 2 with (fail)
      clear t2
      go_upto_region 3 with (fail)
      obtain ⟨k0, k1, k2, m0, m1, m2, hBs⟩ := HSW.out
      generalize (((((W1.setCell ⟨xb, 0, none⟩ (.int .i64 s)).setCell ⟨xb, 1, none⟩ (.int .i64 q2)).setCell ⟨xb, 2, none⟩ (.int .i64 q3)).setCell ⟨xb + 1, 0, none⟩ (.int .i64 s)).setCell ⟨xb + 1, 1, none⟩ (.int .i64 p2)).setCell ⟨xb + 1, 2, none⟩ (.int .i64 p3) = W2 at *
      clear c0 c1 c2 d0 d1 d2 ya0 ya1 ya2 yb0 yb1 yb2 HSW HB1
      have HB2 := Lib.hid (show Below w.heap.size w W2 by rw [HXB.out]; exact hBs)
      clear hBs
      have c0 := k0
      have c1 := k1
      have c2 := k2
      have d0 := m0
      have d1 := m1
      have d2 := m2
      have e0 := k0
      have e1 := k1
      have e2 := k2
      have f0 := m0
      have f1 := m1
      have f2 := m2
      clear k0 k1 k2 m0 m1 m2
      have hw1 := IntWalk.i64_in (q2 - p2) (by omega)
      have hw2 := IntWalk.i64_in (q3 - p3) (by omega)
      have hxs : (W2.alloc (.cells #[.int .i64 s, .int .i64 (q2 - p2), .int .i64 (q3 - p3)] 55)).cell? ⟨W2.heap.size, 0, none⟩ = some (.int .i64 s) ∧ (W2.alloc (.cells #[.int .i64 s, .int .i64 (q2 - p2), .int .i64 (q3 - p3)] 55)).cell? ⟨W2.heap.size, 1, none⟩ = some (.int .i64 (q2 - p2)) ∧ (W2.alloc (.cells #[.int .i64 s, .int .i64 (q2 - p2), .int .i64 (q3 - p3)] 55)).cell? ⟨W2.heap.size, 2, none⟩ = some (.int .i64 (q3 - p3)) := pb_cells W2 (s, q2 - p2, q3 - p3)
      have hBx : Below W2.heap.size W2 (W2.alloc (.cells #[.int .i64 s, .int .i64 (q2 - p2), .int .i64 (q3 - p3)] 55)) := alloc_below W2 _
      have HKX := Lib.hid (And.intro (cell_kept (Below.refl _ W2) e0) (And.intro (cell_kept (Below.refl _ W2) e1) (And.intro (cell_kept (Below.refl _ W2) e2) (And.intro (cell_kept (Below.refl _ W2) f0) (And.intro (cell_kept (Below.refl _ W2) f1) (cell_kept (Below.refl _ W2) f2))))))
      clear c0 c1 c2 d0 d1 d2
      go_upto_region 4 with (fail)
      generalize W2.alloc (.cells #[.int .i64 s, .int .i64 (q2 - p2), .int .i64 (q3 - p3)] 55) = W4 at hxs hBx ⊢
      obtain ⟨x0, x1, x2⟩ := hxs
      clear e0 e1 e2 f0 f1 f2
      have c0 := cell_kept hBx HKX.out.1
      have c1 := cell_kept hBx HKX.out.2.1
      have c2 := cell_kept hBx HKX.out.2.2.1
      have d0 := cell_kept hBx HKX.out.2.2.2.1
      have d1 := cell_kept hBx HKX.out.2.2.2.2.1
      have d2 := cell_kept hBx HKX.out.2.2.2.2.2
      have HB5 := Lib.hid (HB2.out.trans (hBx.mono HB2.out.size))
      generalize W2.heap.size = eb at x0 x1 x2 ⊢
      clear hBx HKX hw1 hw2
      have h1 : ¬ 0 < q3 - p3 := by omega
      have HTU := Lib.hid (show turn s (e - 1) (q2, q3) (p2, p3) = e - 1 + 1 by unfold turn; rw [if_neg (show ¬ (p3 < q3 ∧ s + (p2 - q2) / (q3 - p3) + 1 ≤ e - 1) by omega)])
      have HR := Lib.hid (show cell (p2, p3) (q2, q3) s (e - 1) = [(s, q2, q3)] by rw [HCELL.out, HTU.out, if_neg (show ¬ e - 1 + 1 ≤ e - 1 by omega)])
      clear HCELL
      go_wp2
      go_ret
      exact JoinPost.of HR.out rfl (pcs_new1 _ (s, q2, q3)) (HB5.out.trans ((alloc_below _ _).mono HB5.out.size))
    · skip
      have hl : ¬ lower (p2, p3) (q2, q3) := by unfold lower; omega
      have elo : lo (p2, p3) (q2, q3) = (p2, p3) := by unfold lo; rw [if_neg hl]
      have ehi : hi (p2, p3) (q2, q3) = (q2, q3) := by unfold hi; rw [if_neg hl]
      rw [elo, ehi] at HCELL HLO
      have hle : _ ∧ _ := HLO.out
      clear elo ehi hl HLO
      clear g2
      go_upto_region 3 with (fail)
      clear t2
      have HB2 := HB1
      clear ya0 ya1 ya2 yb0 yb1 yb2 HSW HB1
      generalize W1 = W2 at *
      have e0 := c0
      have e1 := c1
      have e2 := c2
      have f0 := d0
      have f1 := d1
      have f2 := d2
      have hw1 := IntWalk.i64_in (p2 - q2) (by omega)
      have hw2 := IntWalk.i64_in (p3 - q3) (by omega)
      have hxs : (W2.alloc (.cells #[.int .i64 s, .int .i64 (p2 - q2), .int .i64 (p3 - q3)] 55)).cell? ⟨W2.heap.size, 0, none⟩ = some (.int .i64 s) ∧ (W2.alloc (.cells #[.int .i64 s, .int .i64 (p2 - q2), .int .i64 (p3 - q3)] 55)).cell? ⟨W2.heap.size, 1, none⟩ = some (.int .i64 (p2 - q2)) ∧ (W2.alloc (.cells #[.int .i64 s, .int .i64 (p2 - q2), .int .i64 (p3 - q3)] 55)).cell? ⟨W2.heap.size, 2, none⟩ = some (.int .i64 (p3 - q3)) := pb_cells W2 (s, p2 - q2, p3 - q3)
      have hBx : Below W2.heap.size W2 (W2.alloc (.cells #[.int .i64 s, .int .i64 (p2 - q2), .int .i64 (p3 - q3)] 55)) := alloc_below W2 _
      have HKX := Lib.hid (And.intro (cell_kept (Below.refl _ W2) e0) (And.intro (cell_kept (Below.refl _ W2) e1) (And.intro (cell_kept (Below.refl _ W2) e2) (And.intro (cell_kept (Below.refl _ W2) f0) (And.intro (cell_kept (Below.refl _ W2) f1) (cell_kept (Below.refl _ W2) f2))))))
      clear c0 c1 c2 d0 d1 d2
      go_upto_region 4 with (fail)
      generalize W2.alloc (.cells #[.int .i64 s, .int .i64 (p2 - q2), .int .i64 (p3 - q3)] 55) = W4 at hxs hBx ⊢
      obtain ⟨x0, x1, x2⟩ := hxs
      clear e0 e1 e2 f0 f1 f2
      have c0 := cell_kept hBx HKX.out.1
      have c1 := cell_kept hBx HKX.out.2.1
      have c2 := cell_kept hBx HKX.out.2.2.1
      have d0 := cell_kept hBx HKX.out.2.2.2.1
      have d1 := cell_kept hBx HKX.out.2.2.2.2.1
      have d2 := cell_kept hBx HKX.out.2.2.2.2.2
      have HB5 := Lib.hid (HB2.out.trans (hBx.mono HB2.out.size))
      generalize W2.heap.size = eb at x0 x1 x2 ⊢
      clear hBx HKX hw1 hw2
      have h1 : ¬ 0 < p3 - q3 := by omega
      have HTU := Lib.hid (show turn s (e - 1) (p2, p3) (q2, q3) = e - 1 + 1 by unfold turn; rw [if_neg (show ¬ (q3 < p3 ∧ s + (q2 - p2) / (p3 - q3) + 1 ≤ e - 1) by omega)])
      have HR := Lib.hid (show cell (p2, p3) (q2, q3) s (e - 1) = [(s, p2, p3)] by rw [HCELL.out, HTU.out, if_neg (show ¬ e - 1 + 1 ≤ e - 1 by omega)])
      clear HCELL
      go_wp2
      go_ret
      exact JoinPost.of HR.out rfl (pcs_new1 _ (s, p2, p3)) (HB5.out.trans ((alloc_below _ _).mono HB5.out.size))
  · have t2 : (q2 == p2) = false := by simpa using g2
    have hl : ¬ lower (p2, p3) (q2, q3) := by unfold lower; omega
    have elo : lo (p2, p3) (q2, q3) = (p2, p3) := by unfold lo; rw [if_neg hl]
    have ehi : hi (p2, p3) (q2, q3) = (q2, q3) := by unfold hi; rw [if_neg hl]
    rw [elo, ehi] at HCELL HLO
    have hle : _ ∧ _ := HLO.out
    clear elo ehi hl HLO
    go_upto_region 3 with (fail)
    have HB2 := HB1
    clear ya0 ya1 ya2 yb0 yb1 yb2 HSW HB1
    generalize W1 = W2 at *
    have e0 := c0
    have e1 := c1
    have e2 := c2
    have f0 := d0
    have f1 := d1
    have f2 := d2
    have hw1 := IntWalk.i64_in (p2 - q2) (by omega)
    have hw2 := IntWalk.i64_in (p3 - q3) (by omega)
    have hxs : (W2.alloc (.cells #[.int .i64 s, .int .i64 (p2 - q2), .int .i64 (p3 - q3)] 55)).cell? ⟨W2.heap.size, 0, none⟩ = some (.int .i64 s) ∧ (W2.alloc (.cells #[.int .i64 s, .int .i64 (p2 - q2), .int .i64 (p3 - q3)] 55)).cell? ⟨W2.heap.size, 1, none⟩ = some (.int .i64 (p2 - q2)) ∧ (W2.alloc (.cells #[.int .i64 s, .int .i64 (p2 - q2), .int .i64 (p3 - q3)] 55)).cell? ⟨W2.heap.size, 2, none⟩ = some (.int .i64 (p3 - q3)) := pb_cells W2 (s, p2 - q2, p3 - q3)
    have hBx : Below W2.heap.size W2 (W2.alloc (.cells #[.int .i64 s, .int .i64 (p2 - q2), .int .i64 (p3 - q3)] 55)) := alloc_below W2 _
    have HKX := Lib.hid (And.intro (cell_kept (Below.refl _ W2) e0) (And.intro (cell_kept (Below.refl _ W2) e1) (And.intro (cell_kept (Below.refl _ W2) e2) (And.intro (cell_kept (Below.refl _ W2) f0) (And.intro (cell_kept (Below.refl _ W2) f1) (cell_kept (Below.refl _ W2) f2))))))
    clear c0 c1 c2 d0 d1 d2
    go_upto_region 4 with (fail)
    generalize W2.alloc (.cells #[.int .i64 s, .int .i64 (p2 - q2), .int .i64 (p3 - q3)] 55) = W4 at hxs hBx ⊢
    obtain ⟨x0, x1, x2⟩ := hxs
    clear e0 e1 e2 f0 f1 f2
    have c0 := cell_kept hBx HKX.out.1
    have c1 := cell_kept hBx HKX.out.2.1
    have c2 := cell_kept hBx HKX.out.2.2.1
    have d0 := cell_kept hBx HKX.out.2.2.2.1
    have d1 := cell_kept hBx HKX.out.2.2.2.2.1
    have d2 := cell_kept hBx HKX.out.2.2.2.2.2
    have HB5 := Lib.hid (HB2.out.trans (hBx.mono HB2.out.size))
    generalize W2.heap.size = eb at x0 x1 x2 ⊢
    clear hBx HKX hw1 hw2
    by_cases h1 : 0 < p3 - q3
    · have HEX := Lib.hid (fun w => pexceed_any (s, p2 - q2, p3 - q3) 0 w h1 (by show p3 - q3 ≤ _; omega) (by show _ ≤ 0 - (p2 - q2) ∧ 0 - (p2 - q2) ≤ _; omega) (by show _ ≤ s ∧ s ≤ _; omega))
      have hsub : (s, p2 - q2, p3 - q3).1 + (0 - (s, p2 - q2, p3 - q3).2.1) / (s, p2 - q2, p3 - q3).2.2 + 1 = s + (q2 - p2) / (p3 - q3) + 1 := by show s + (0 - (p2 - q2)) / (p3 - q3) + 1 = _; rw [show (0 : Int) - (p2 - q2) = q2 - p2 by omega]
      rw [hsub] at HEX
      clear hsub
      have hq0 : 0 ≤ (q2 - p2) / (p3 - q3) := Int.ediv_nonneg (by omega) (by omega)
      obtain ⟨t, ht⟩ : ∃ t, s + (q2 - p2) / (p3 - q3) + 1 = t := ⟨_, rfl⟩
      have hts : s < t := by omega
      have HTU := Lib.hid (show turn s (e - 1) (p2, p3) (q2, q3) = if q3 < p3 ∧ t ≤ e - 1 then t else e - 1 + 1 by unfold turn; rw [ht])
      rw [ht] at HEX
      clear hq0 ht
      have HX4 := Lib.hid (And.intro c0 (And.intro c1 (And.intro c2 (And.intro d0 (And.intro d1 d2)))))
      go_upto_region 6 with (go_at_call 51; with_reducible refine (HEX.out _).mono ?_; rintro _ W5 ⟨rfl, hn⟩)
      clear c0 c1 c2 d0 d1 d2 x0 x1 x2 HEX
      have c0 := cell_kept hn HX4.out.1
      have c1 := cell_kept hn HX4.out.2.1
      have c2 := cell_kept hn HX4.out.2.2.1
      have d0 := cell_kept hn HX4.out.2.2.2.1
      have d1 := cell_kept hn HX4.out.2.2.2.2.1
      have d2 := cell_kept hn HX4.out.2.2.2.2.2
      replace HB5 := Lib.hid (HB5.out.trans (hn.mono HB5.out.size))
      clear hn HX4
      by_cases h2 : t < e
      · have HCO := Lib.hid (fun w => pcont_any (s, q2, q3) t w (by show _ ≤ t - s ∧ t - s ≤ _; omega) (by show _ ≤ q3 * (t - s) ∧ q3 * (t - s) ≤ _; have := mul_bd (m := q3) (k := t - s) (by omega) (by omega) (by omega); omega) (by show _ ≤ q2 ∧ q2 ≤ _; omega))
        have HR := Lib.hid (show cell (p2, p3) (q2, q3) s (e - 1) = [(s, p2, p3), (t, q2 + q3 * (t - s), q3)] by rw [HCELL.out, HTU.out, if_pos (show q3 < p3 ∧ t ≤ e - 1 by omega), if_pos (show t ≤ e - 1 by omega)])
        have HV : Hid (∀ w : World, Calls Try.prog 52 #[.agg #[.int .i64 s, .int .i64 q2, .int .i64 q3], .int .i64 t] w fun r w' => r = .returned (.agg #[.int .i64 t, .int .i64 (q2 + q3 * (t - s)), .int .i64 q3]) ∧ Below w.heap.size w w') := HCO.out
        clear HCO HCELL HTU h1
        generalize q2 + q3 * (t - s) = V at *
        go_upto_region 7 with (fail)
        have HX5 := Lib.hid (And.intro c0 (And.intro c1 (And.intro c2 (And.intro d0 (And.intro d1 d2)))))
        have hmix : Try.prog.follows .mixedOrders = true := by kernel_rfl
        refine wp_region_held_drew (S := fun W => W.cell? ⟨xb, 0, none⟩ = some (.int .i64 s) ∧ W.cell? ⟨xb, 1, none⟩ = some (.int .i64 p2) ∧ W.cell? ⟨xb, 2, none⟩ = some (.int .i64 p3) ∧ W.cell? ⟨xb + 1, 0, none⟩ = some (.int .i64 s) ∧ W.cell? ⟨xb + 1, 1, none⟩ = some (.int .i64 q2) ∧ W.cell? ⟨xb + 1, 2, none⟩ = some (.int .i64 q3) ∧ Below w.heap.size w W) hmix ⟨cell_kept ((Below.refl _ W5).drew) HX5.out.1, cell_kept ((Below.refl _ W5).drew) HX5.out.2.1, cell_kept ((Below.refl _ W5).drew) HX5.out.2.2.1, cell_kept ((Below.refl _ W5).drew) HX5.out.2.2.2.1, cell_kept ((Below.refl _ W5).drew) HX5.out.2.2.2.2.1, cell_kept ((Below.refl _ W5).drew) HX5.out.2.2.2.2.2, HB5.out.trans (((Below.refl _ W5).drew).mono HB5.out.size)⟩ (fun hHeld => ?_)
        refine wpAnyH_take (i := 0) (v := ?_) rfl (by kernel_rfl) (by kernel_rfl) (by kernel_rfl) (fun _ _ _ h => h) (Or.inl ⟨by rfl, ?_⟩) (by assumption) ?_
        rotate_left
        · intro w hSw; (try dsimp only at hSw); go_simp; (try with_reducible rfl)
        (try simp only [Act.put, List.getElem_toArray, List.getElem_cons_succ, List.getElem_cons_zero, List.setIfInBounds_toArray, List.set_cons_zero, List.set_cons_succ])
        refine wpAnyH_take (i := 1) (v := ?_) rfl (by kernel_rfl) (by kernel_rfl) (by kernel_rfl) (fun _ _ _ h => h) (Or.inl ⟨by rfl, ?_⟩) (by assumption) ?_
        rotate_left
        · intro w hSw; (try dsimp only at hSw); go_simp; (try with_reducible rfl)
        (try simp only [Act.put, List.getElem_toArray, List.getElem_cons_succ, List.getElem_cons_zero, List.setIfInBounds_toArray, List.set_cons_zero, List.set_cons_succ])
        refine wpAnyH_take (i := 2) (v := ?_) rfl (by kernel_rfl) (by kernel_rfl) (by kernel_rfl) (fun _ _ _ h => h) (Or.inl ⟨by rfl, ?_⟩) (by assumption) ?_
        rotate_left
        · intro w hSw; (try dsimp only at hSw); go_simp; (try with_reducible rfl)
        (try simp only [Act.put, List.getElem_toArray, List.getElem_cons_succ, List.getElem_cons_zero, List.setIfInBounds_toArray, List.set_cons_zero, List.set_cons_succ])
        refine wpAnyH_ready (rs := [3]) (by kernel_rfl) (by simp) ?_
        refine AllReadyH.cons rfl (fun K hK => ?_) AllReadyH.nil
        go_simp
        refine (HV.out _).mono ?_
        rintro _ wc ⟨rfl, kc⟩
        refine hK.out _ _ ⟨cell_kept (kc) hHeld.1, cell_kept (kc) hHeld.2.1, cell_kept (kc) hHeld.2.2.1, cell_kept (kc) hHeld.2.2.2.1, cell_kept (kc) hHeld.2.2.2.2.1, cell_kept (kc) hHeld.2.2.2.2.2.1, hHeld.2.2.2.2.2.2.trans (kc.mono hHeld.2.2.2.2.2.2.size)⟩ (fun hHeld => ?_)
        clear hK K
        (try simp only [Act.put, List.getElem_toArray, List.getElem_cons_succ, List.getElem_cons_zero, List.setIfInBounds_toArray, List.set_cons_zero, List.set_cons_succ])
        refine wpAnyH_ready (rs := [4]) (by kernel_rfl) (by simp) ?_
        refine AllReadyH.cons rfl (fun K hK => ?_) AllReadyH.nil
        go_simp
        (try skip)
        refine hK.out _ _ ⟨cell_kept (alloc_below wc _) hHeld.1, cell_kept (alloc_below wc _) hHeld.2.1, cell_kept (alloc_below wc _) hHeld.2.2.1, cell_kept (alloc_below wc _) hHeld.2.2.2.1, cell_kept (alloc_below wc _) hHeld.2.2.2.2.1, cell_kept (alloc_below wc _) hHeld.2.2.2.2.2.1, hHeld.2.2.2.2.2.2.trans ((alloc_below wc _).mono hHeld.2.2.2.2.2.2.size)⟩ (fun hHeld => ?_)
        clear hK K
        (try simp only [Act.put, List.getElem_toArray, List.getElem_cons_succ, List.getElem_cons_zero, List.setIfInBounds_toArray, List.set_cons_zero, List.set_cons_succ])
        refine wpAnyH_take (i := 5) (v := ?_) rfl (by kernel_rfl) (by kernel_rfl) (by kernel_rfl) (fun _ _ _ h => h) (Or.inl ⟨by rfl, ?_⟩) (by assumption) ?_
        rotate_left
        · intro w hSw; (try dsimp only at hSw); go_simp; (try with_reducible rfl)
        (try simp only [Act.put, List.getElem_toArray, List.getElem_cons_succ, List.getElem_cons_zero, List.setIfInBounds_toArray, List.set_cons_zero, List.set_cons_succ])
        refine wpAnyH_done (by kernel_rfl) ?_ _
        go_wp2
        go_ret
        exact JoinPost.of HR.out rfl (pcs_new2 wc (s, p2, p3) (t, V, q3)) hHeld.2.2.2.2.2.2
      · skip
        have HR := Lib.hid (show cell (p2, p3) (q2, q3) s (e - 1) = [(s, p2, p3)] by rw [HCELL.out, HTU.out, if_neg (show ¬ (q3 < p3 ∧ t ≤ e - 1) by omega), if_neg (show ¬ e - 1 + 1 ≤ e - 1 by omega)])
        clear HCELL
        go_wp2
        go_ret
        exact JoinPost.of HR.out rfl (pcs_new1 _ (s, p2, p3)) (HB5.out.trans ((alloc_below _ _).mono HB5.out.size))
    · have HTU := Lib.hid (show turn s (e - 1) (p2, p3) (q2, q3) = e - 1 + 1 by unfold turn; rw [if_neg (show ¬ (q3 < p3 ∧ s + (q2 - p2) / (p3 - q3) + 1 ≤ e - 1) by omega)])
      have HR := Lib.hid (show cell (p2, p3) (q2, q3) s (e - 1) = [(s, p2, p3)] by rw [HCELL.out, HTU.out, if_neg (show ¬ e - 1 + 1 ≤ e - 1 by omega)])
      clear HCELL
      go_wp2
      go_ret
      exact JoinPost.of HR.out rfl (pcs_new1 _ (s, p2, p3)) (HB5.out.trans ((alloc_below _ _).mono HB5.out.size))
end Go.Proofs.Ytdoojpilogcnjaa.Pw
