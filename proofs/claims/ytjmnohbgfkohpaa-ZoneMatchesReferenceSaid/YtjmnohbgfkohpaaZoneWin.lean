/- What package zone's Window returns. Condition: the zone's changes lie in memory as the argument says. -/
import Derived.Test.YtjmnohbgfkohpaaZoneDays
namespace Go.Proofs.Ytjmnohbgfkohpaa.Zn
open Go Go.RowKit Go.Shelf
attribute [local go_sem] Oper.semAt_some
/-- What the loop over the days keeps: the count so far, the window. -/
structure WinI (w : World) (gc gw : Nat) (wf wt : Int) (s : List Piece) (X : World) : Prop where
  sum : Boxed X gc 3 (.int .i64 (totP (fun x => inw x.2.1 x.2.2 wf wt) s))
  w0 : X.cell? ⟨gw, 0, none⟩ = some (.int .i64 wf)
  w1 : X.cell? ⟨gw, 1, none⟩ = some (.int .i64 wt)
  below : Below w.heap.size w X
theorem WinI.step {w : World} {gc gw : Nat} {wf wt : Int} {s : List Piece} {X Y : World} {B : Nat} (h : WinI w gc gw wf wt s X) (k : Below B X Y) (h1 : gc < B) (h2 : gw < B) (h3 : w.heap.size ≤ B) : WinI w gc gw wf wt s Y :=
  ⟨(k.block gc h1).trans h.sum, (k.cell (p := ⟨gw, 0, none⟩) h2).trans h.w0, (k.cell (p := ⟨gw, 1, none⟩) h2).trans h.w1, h.below.trans (k.mono h3)⟩
theorem WinI.put {w : World} {gc gw : Nat} {wf wt : Int} {pre : List Piece} {x : Piece} {X Z : World} (h : WinI w gc gw wf wt pre X) (hn : Below X.heap.size X Z) (hne : gc ≠ gw) (hgc : w.heap.size ≤ gc) {v : Int} (hv : totP (fun x => inw x.2.1 x.2.2 wf wt) (pre ++ [x]) = v) :
    Oth (fun k => k = gc) X (Z.setCell ⟨gc, 0, none⟩ (.int .i64 v)) ∧ WinI w gc gw wf wt (pre ++ [x]) (Z.setCell ⟨gc, 0, none⟩ (.int .i64 v)) := by
  have hX := h.sum.lt
  refine ⟨Oth.setCell (mine := fun k => k = gc) ((Oth.refl _ _).call hn) (p := ⟨gc, 0, none⟩) (.inl rfl) _, ?_, ?_, ?_, ?_⟩
  · rw [hv]
    exact Boxed.set (v := .int .i64 (totP (fun x => inw x.2.1 x.2.2 wf wt) pre)) _ ((hn.block gc hX).trans h.sum)
  · rw [World.cell?_setCell_far _ _ _ _ hne]; exact cell_kept hn h.w0
  · rw [World.cell?_setCell_far _ _ _ _ hne]; exact cell_kept hn h.w1
  · exact (h.below.trans (hn.mono h.below.size)).setCell hgc _
set_option maxHeartbeats 4000000 in
set_option maxRecDepth 100000 in
theorem zwindow_in (nm : ByteArray) (b : Int) (a : Option Addr) (cap : Nat) (cs : List (Int × Int)) (f t wf wt : Int) (w : World) (v : Valid b cs) (hst : Str f t) (hfr : Frm wf wt) (hbig : t - f ≤ 44640) (z : ZoneAt a cs w) :
    Calls Try.prog 22 #[zv nm b a cs.length cap, .int .i64 f, .int .i64 t, sv wf wt] w fun r w' => r = .returned (.tuple #[.int .i64 (win b cs f (t - f).toNat wf wt), .int .i64 0]) ∧ Below w.heap.size w w' := by
  have hV := fun w (z : ZoneAt a cs w) => zvalid_any nm b a cap cs w (by have := v.1; omega) z
  rw [decide_eq_true v] at hV
  have HV := Lib.hid (fun m w z => (callsIn_wide (n := m)).2 (hV w z))
  have HS := Lib.hid (fun m w => (callsIn_wide (n := m)).2 (zstretch_is (f := f) (t := t) true (decide_eq_true hst) w))
  have HF := Lib.hid (fun m w => (callsIn_wide (n := m)).2 (zwindow_is (f := wf) (t := wt) true (decide_eq_true hfr) w))
  have HM := Lib.hid (fun m w => (callsIn_wide (n := m)).2 (zdays_any nm b a cs.length cap f t w))
  have HT := Lib.hid (win_total v f t wf wt hst.1 hst.2.1 hfr.1 hfr.2.1 hfr.2.2.1 hfr.2.2.2)
  have HL := Lib.hid (show win b cs f (t - f).toNat wf wt ≤ (t - f).toNat from cnt_le _ _ _)
  have HPB := Lib.hid (fun x hx => dall_mem v (f := f) (t := t) hst.1 (x := x) hx)
  have HSQ := Lib.hid (fun W hb gz gf gt hc mine hm l => zdays_seq nm b a cap cs f t v hst w z W hb gz gf gt hc mine hm l)
  have HFR := Lib.hid hfr
  have inv := ZS.start w nm b a cs.length cap cs wf wt z
  obtain ⟨st0, st1, st2⟩ := hst
  clear hV v z hfr
  generalize cs.length = len at *
  have k0 := inv.zw.c0
  have k1 := inv.zw.c1
  have k2 := inv.zw.c2
  have k3 := inv.s0
  have k4 := inv.s1
  have hf1 : Fence.wide.fn 16 := trivial
  have hf2 : Fence.wide.fn 43 := trivial
  have hf3 : Fence.wide.fn 49 := trivial
  have hf4 : Fence.wide.fn 44 := trivial
  have hdep : Fence.wide.depth = none := rfl
  refine (callsIn_wide (n := 3)).1 ?_
  refine callsIn_of_wp_marks Try.func22 rfl trivial ?_ rfl
  simp only [Try.ntmps22, List.size_toArray, List.length_cons, List.length_nil, Nat.reduceAdd, Nat.reduceSub, Array.replicate_succ, Array.replicate_zero, List.push_toArray, List.append_toArray, List.nil_append, List.cons_append]
  gi_upto_region 6 with (first
    | (gi_at_call 16; ((with_reducible refine (HV.out _ _ inv.zw.zone).mono ?_); rintro e wv ⟨rfl, hn⟩); replace inv := inv.step hn; have k0 := inv.zw.c0; have k1 := inv.zw.c1; have k2 := inv.zw.c2; have k3 := inv.s0; have k4 := inv.s1; clear hn)
    | (gi_at_call 43; ((with_reducible refine (HS.out _ _).mono ?_); rintro e w' ⟨rfl, rfl⟩))
    | (gi_at_call 49; ((with_reducible refine (HF.out _ _).mono ?_); rintro e w1 ⟨rfl, hn⟩); replace inv := inv.step hn; have k0 := inv.zw.c0; have k1 := inv.zw.c1; have k2 := inv.zw.c2; have k3 := inv.s0; have k4 := inv.s1; clear hn))
  have hsz : Below w1.heap.size w1 (w1.alloc (.cells #[.int .i64 0] 3)) := (Below.refl _ _).alloc (Nat.le_refl _) _
  have hgl : w.heap.size + 1 < w1.heap.size := World.block_lt_of_cell? _ _ inv.s0
  have hL : WinI w w1.heap.size (w.heap.size + 1) wf wt [] (w1.alloc (.cells #[.int .i64 0] 3)) :=
    ⟨Boxed.new w1 3 (.int .i64 0), cell_kept hsz inv.s0, cell_kept hsz inv.s1, inv.zw.below.trans (hsz.mono inv.zw.below.size)⟩
  replace inv := inv.step hsz
  have hsz2 : (w1.alloc (.cells #[.int .i64 0] 3)).heap.size = w1.heap.size + 1 := by simp
  generalize w1.alloc (.cells #[.int .i64 0] 3) = w2 at *
  clear hsz k0 k1 k2 k3 k4
  have k0 := inv.zw.c0
  have k1 := inv.zw.c1
  have k2 := inv.zw.c2
  have HL1 := Lib.hid hL
  have HG := Lib.hid (And.intro hgl hsz2)
  clear hL hgl hsz2
  gi_wp2_with (gi_at_call 44; ((with_reducible refine (HM.out _ _).mono ?_); rintro e w3 ⟨rfl, hn⟩); have HN := Lib.hid hn; clear hn)
  have hs3 : w3.heap.size = w2.heap.size + 3 := by rw [HN.out]; exact capsW_size _ _ _ _ _ _ _ _
  have hb3 : Below w2.heap.size w2 w3 := by rw [HN.out]; exact capsW_below _ _ _ _ _ _ _ _
  have hc3 : Caps w3 w2.heap.size (w2.heap.size + 1) (w2.heap.size + 2) nm b a len cap f t := by rw [HN.out]; exact capsW_caps _ _ _ _ _ _ _ _
  have hL3 := HL1.out.step hb3 (by have := HG.out; omega) (by have := HG.out; omega) inv.zw.below.size
  have hbw := inv.zw.below.trans (hb3.mono inv.zw.below.size)
  obtain ⟨hg1, hg2⟩ := HG.out
  generalize w1.heap.size = g1 at *
  clear HN HL1 HG inv k0 k1 k2
  refine range_outer (α := Piece) rfl (enters_of Try.func57 (by kernel_rfl) rfl) (encs := encPiece) (fun _ => rfl) (fun k => k = g1) (fun k hk => by omega) (dall f b t cs)
    (fun W hW hsW => HSQ.out W (hbw.trans (hW.mono hbw.size)) _ _ _ (hc3.below hW) _ (fun i hi => by rcases hi with rfl | rfl <;> omega) _)
    (fun s X => WinI w g1 (w.heap.size + 1) wf wt s X) (fun _ _ => False)
    (fun s X Y h k => h.step k (by omega) (by omega) hbw.size) (fun _ _ _ h _ => h) hL3 ?round ?done (fun _ _ h => h.elim)
  case round =>
    intro pre x rest X hx hI hlt
    gi_wp2
    refine ⟨(Oth.refl _ _).alloc _, fun X2 hT => ?_⟩
    obtain ⟨dd, m0, m1⟩ := x
    obtain ⟨s0, s1, s2, -⟩ := HPB.out (dd, m0, m1) (by rw [hx]; simp)
    simp only at s0 s1 s2
    have p0 : X2.cell? ⟨X.heap.size, 0, none⟩ = some (.int .i64 m0) := hT.cell (by simp [World.cell?_alloc_new]) (by show X.heap.size ≠ _; omega)
    have p1 : X2.cell? ⟨X.heap.size, 1, none⟩ = some (.int .i64 m1) := hT.cell (by simp [World.cell?_alloc_new]) (by show X.heap.size ≠ _; omega)
    have hI2 : WinI w g1 (w.heap.size + 1) wf wt pre X2 := (hI.step ((Below.refl w3.heap.size X).alloc (by omega) _) (by omega) (by omega) hbw.size).step (hT.below (Nat.le_succ _)) (by omega) (by omega) hbw.size
    have hF : 0 ≤ inw m0 m1 wf wt := inw_nonneg _ _ _ _
    have hT0 : 0 ≤ totP (fun x => inw x.2.1 x.2.2 wf wt) pre := totP_nonneg _ _ (fun _ _ => inw_nonneg _ _ _ _)
    have hT1 : totP (fun x => inw x.2.1 x.2.2 wf wt) pre + inw m0 m1 wf wt ≤ 44640 := by
      have h1 := HT.out
      have h2 := HL.out
      have h3 := totP_nonneg (fun x => inw x.2.1 x.2.2 wf wt) rest (fun _ _ => inw_nonneg _ _ _ _)
      rw [hx, totP_append, totP_cons] at h1
      simp only at h1
      omega
    have HCP := Lib.hid (fun w => zinwin_any m0 m1 wf wt s0 (by omega) s2 HFR.out w)
    have HI2 := Lib.hid hI2
    have kl := hI2.sum.cell
    have kf := hI2.sum.frozen
    have q0 := hI2.w0
    have q1 := hI2.w1
    have HSN := Lib.hid (totP_snoc (fun x => inw x.2.1 x.2.2 wf wt) pre (dd, m0, m1))
    simp only at HSN
    generalize totP (fun x => inw x.2.1 x.2.2 wf wt) pre = T at *
    generalize inw m0 m1 wf wt = Fx at *
    clear hI hI2 hx HT HPB HSQ HL hL3 hc3 hT HFR
    have hw3 := IntWalk.i64_in (T + Fx) (by omega)
    have hmix : Try.prog.follows .mixedOrders = true := by kernel_rfl
    gi_wp2
    have hS : (fun w' => w'.cell? ⟨X.heap.size, 0, none⟩ = some (.int .i64 m0) ∧ w'.cell? ⟨X.heap.size, 1, none⟩ = some (.int .i64 m1) ∧ w'.cell? ⟨w.heap.size + 1, 0, none⟩ = some (.int .i64 wf) ∧ w'.cell? ⟨w.heap.size + 1, 1, none⟩ = some (.int .i64 wt)) X2.drew := ⟨p0, p1, q0, q1⟩
    refine region_inRound (S := fun w' => w'.cell? ⟨X.heap.size, 0, none⟩ = some (.int .i64 m0) ∧ w'.cell? ⟨X.heap.size, 1, none⟩ = some (.int .i64 m1) ∧ w'.cell? ⟨w.heap.size + 1, 0, none⟩ = some (.int .i64 wf) ∧ w'.cell? ⟨w.heap.size + 1, 1, none⟩ = some (.int .i64 wt)) hmix (by kernel_rfl) (fun ⟨_, _, h⟩ => h) hS (fun hHeld => ?_)
    refine wpAnyH_take (i := 1) (v := ?_) rfl (by kernel_rfl) (by kernel_rfl) (by kernel_rfl) (fun _ _ _ h => h) (Or.inl ⟨by rfl, ?_⟩) (by assumption) ?_
    rotate_left
    · intro w hSw; go_simp; (try with_reducible rfl)
    (try simp only [Act.put, List.setIfInBounds_toArray, List.set_cons_zero, List.set_cons_succ])
    refine wpAnyH_take (i := 2) (v := ?_) rfl (by kernel_rfl) (by kernel_rfl) (by kernel_rfl) (fun _ _ _ h => h) (Or.inl ⟨by rfl, ?_⟩) (by assumption) ?_
    rotate_left
    · intro w hSw; go_simp; (try with_reducible rfl)
    (try simp only [Act.put, List.setIfInBounds_toArray, List.set_cons_zero, List.set_cons_succ])
    refine wpAnyH_ready (rs := [0, 3]) (by kernel_rfl) (by simp) ?_
    refine AllReadyH.cons rfl (fun K hK => ?_) (AllReadyH.cons rfl (fun K hK => ?_) AllReadyH.nil)
    · go_simp
      refine hK.out _ _ hS (fun hHeld => ?_)
      clear hK K
      (try simp only [Act.put, List.setIfInBounds_toArray, List.set_cons_zero, List.set_cons_succ])
      refine wpAnyH_ready (rs := [3]) (by kernel_rfl) (by simp) ?_
      refine AllReadyH.cons rfl (fun K hK => ?_) AllReadyH.nil
      go_simp
      refine (HCP.out _).mono ?_
      rintro e' w6 ⟨rfl, hn⟩
      have kl6 := cell_kept hn kl
      have kf6 := frozen_kept_b hn kf kl
      refine hK.out _ _ ⟨cell_kept hn p0, cell_kept hn p1, cell_kept hn q0, cell_kept hn q1⟩ (fun hHeld => ?_)
      clear hK K
      (try simp only [Act.put, List.setIfInBounds_toArray, List.set_cons_zero, List.set_cons_succ])
      refine wpAnyH_take (i := 4) (v := ?_) rfl (by kernel_rfl) (by kernel_rfl) (by kernel_rfl) (fun _ _ _ h => h) (Or.inl ⟨by rfl, ?_⟩) (by assumption) ?_
      rotate_left
      · intro w hSw; go_simp; (try with_reducible rfl)
      (try simp only [Act.put, List.setIfInBounds_toArray, List.set_cons_zero, List.set_cons_succ])
      refine wpAnyH_ready (rs := [5]) (by kernel_rfl) (by simp) ?_
      refine AllReadyH.cons rfl (fun K hK => ?_) AllReadyH.nil
      go_simp
      refine hK.out _ _ ⟨by rw [World.cell?_setCell_far _ _ _ _ (by show g1 ≠ X.heap.size; omega)]; exact cell_kept hn p0, by rw [World.cell?_setCell_far _ _ _ _ (by show g1 ≠ X.heap.size; omega)]; exact cell_kept hn p1, by rw [World.cell?_setCell_far _ _ _ _ (by show g1 ≠ w.heap.size + 1; omega)]; exact cell_kept hn q0, by rw [World.cell?_setCell_far _ _ _ _ (by show g1 ≠ w.heap.size + 1; omega)]; exact cell_kept hn q1⟩ (fun hHeld => ?_)
      clear hK K
      refine wpAnyH_done (by kernel_rfl) ?_ _
      exact HI2.out.put (undrew hn) (by omega) (by omega) HSN.out
    · go_simp
      refine (HCP.out _).mono ?_
      rintro e' w6 ⟨rfl, hn⟩
      have kl6 := cell_kept hn kl
      have kf6 := frozen_kept_b hn kf kl
      refine hK.out _ _ ⟨cell_kept hn p0, cell_kept hn p1, cell_kept hn q0, cell_kept hn q1⟩ (fun hHeld => ?_)
      clear hK K
      (try simp only [Act.put, List.setIfInBounds_toArray, List.set_cons_zero, List.set_cons_succ])
      refine wpAnyH_ready (rs := [0]) (by kernel_rfl) (by simp) ?_
      refine AllReadyH.cons rfl (fun K hK => ?_) AllReadyH.nil
      go_simp
      refine hK.out _ _ ⟨cell_kept hn p0, cell_kept hn p1, cell_kept hn q0, cell_kept hn q1⟩ (fun hHeld => ?_)
      clear hK K
      (try simp only [Act.put, List.setIfInBounds_toArray, List.set_cons_zero, List.set_cons_succ])
      refine wpAnyH_take (i := 4) (v := ?_) rfl (by kernel_rfl) (by kernel_rfl) (by kernel_rfl) (fun _ _ _ h => h) (Or.inl ⟨by rfl, ?_⟩) (by assumption) ?_
      rotate_left
      · intro w hSw; go_simp; (try with_reducible rfl)
      (try simp only [Act.put, List.setIfInBounds_toArray, List.set_cons_zero, List.set_cons_succ])
      refine wpAnyH_ready (rs := [5]) (by kernel_rfl) (by simp) ?_
      refine AllReadyH.cons rfl (fun K hK => ?_) AllReadyH.nil
      go_simp
      refine hK.out _ _ ⟨by rw [World.cell?_setCell_far _ _ _ _ (by show g1 ≠ X.heap.size; omega)]; exact cell_kept hn p0, by rw [World.cell?_setCell_far _ _ _ _ (by show g1 ≠ X.heap.size; omega)]; exact cell_kept hn p1, by rw [World.cell?_setCell_far _ _ _ _ (by show g1 ≠ w.heap.size + 1; omega)]; exact cell_kept hn q0, by rw [World.cell?_setCell_far _ _ _ _ (by show g1 ≠ w.heap.size + 1; omega)]; exact cell_kept hn q1⟩ (fun hHeld => ?_)
      clear hK K
      refine wpAnyH_done (by kernel_rfl) ?_ _
      exact HI2.out.put (undrew hn) (by omega) (by omega) HSN.out
  case done =>
    intro Y hI hlt hK
    have hsum := hI.sum.cell
    rw [HT.out] at hsum
    gi_wp2
    refine ⟨by simp, .inl ⟨_, _, rfl, run_takeDeferred hK, ?_⟩⟩
    exact ⟨_, results_tmp2 rfl _ _ _, rfl, hI.below.trans ((Turned.putObj _ Y _).below hbw.size)⟩
end Go.Proofs.Ytjmnohbgfkohpaa.Zn
