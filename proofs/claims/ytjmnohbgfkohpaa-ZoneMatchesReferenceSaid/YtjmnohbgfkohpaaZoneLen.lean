/- What package zone's Length returns. Condition: the zone's changes lie in memory as the argument says. -/
import Derived.Test.YtjmnohbgfkohpaaZoneOwn4
import Derived.Test.YtjmnohbgfkohpaaZoneSeq
import Derived.RangeFuncBox
import Derived.Sort.CutIn
import Derived.Test.YtjmnohbgfkohpaaZoneRound
namespace Go.Proofs.Ytjmnohbgfkohpaa.Zn
open Go Go.RowKit Go.Shelf
attribute [local go_sem] Oper.semAt_some
theorem seg_bds {b : Int} {cs : List (Int × Int)} (v : Valid b cs) {s t : Int} (hs : 0 ≤ s) {x : Seg} (hx : x ∈ segs s b t cs) : s ≤ x.1.1 ∧ x.1.1 < x.1.2 ∧ x.1.2 ≤ t ∧ -840 ≤ x.2 ∧ x.2 ≤ 840 ∧ ∀ u, x.1.1 ≤ u → u < x.1.2 → offFrom b cs u = x.2 :=
  segs_mem b cs cs (-2880) b s t v.2.2.2 (by omega) v.2.1 v.2.2.1 (fun u _ => rfl) x hx
theorem dlen_bd3 (b : Int) (cs : List (Int × Int)) (d : Int) : dlen b cs d ≤ 3120 := cnt_le _ _ _
theorem frozen_kept_b {w w' : World} (hb : Below w.heap.size w w') {a : Addr} {v : Value} {k : Bool} (hf : w.frozen? a = k) (hc : w.cell? a = some v) : w'.frozen? a = k := (hb.frozen (World.block_lt_of_cell? w a hc)).trans hf
/-- What the loop over the stretches keeps: the sum so far, the day. -/
structure LenI (w : World) (gl gw : Nat) (n : Int) (s : List Seg) (X : World) : Prop where
  sum : Boxed X gl 3 (.int .i64 (total (dayF n) s))
  w0 : X.cell? ⟨gw, 0, none⟩ = some (.int .i64 n)
  w1 : X.cell? ⟨gw, 1, none⟩ = some (.int .i64 (n + 1440))
  below : Below w.heap.size w X
theorem LenI.step {w : World} {gl gw : Nat} {n : Int} {s : List Seg} {X Y : World} {B : Nat} (h : LenI w gl gw n s X) (k : Below B X Y) (h1 : gl < B) (h2 : gw < B) (h3 : w.heap.size ≤ B) : LenI w gl gw n s Y :=
  ⟨(k.block gl h1).trans h.sum, (k.cell (p := ⟨gw, 0, none⟩) h2).trans h.w0, (k.cell (p := ⟨gw, 1, none⟩) h2).trans h.w1, h.below.trans (k.mono h3)⟩
theorem undrew {w x : World} (h : Below w.drew.heap.size w.drew x) : Below w.heap.size w x := ⟨h.os, h.tape, h.output, h.size, h.block⟩
theorem LenI.put {w : World} {gl gw : Nat} {n : Int} {pre : List Seg} {x : Seg} {X Z : World} (h : LenI w gl gw n pre X) (hn : Below X.heap.size X Z) (hne : gl ≠ gw) (hgl : w.heap.size ≤ gl) {v : Int} (hv : total (dayF n) (pre ++ [x]) = v) :
    Oth (fun k => k = gl) X (Z.setCell ⟨gl, 0, none⟩ (.int .i64 v)) ∧ LenI w gl gw n (pre ++ [x]) (Z.setCell ⟨gl, 0, none⟩ (.int .i64 v)) := by
  have hX := h.sum.lt
  refine ⟨Oth.setCell (mine := fun k => k = gl) ((Oth.refl _ _).call hn) (p := ⟨gl, 0, none⟩) (.inl rfl) _, ?_, ?_, ?_, ?_⟩
  · rw [hv]
    exact Boxed.set (v := .int .i64 (total (dayF n) pre)) _ ((hn.block gl hX).trans h.sum)
  · rw [World.cell?_setCell_far _ _ _ _ hne]; exact cell_kept hn h.w0
  · rw [World.cell?_setCell_far _ _ _ _ hne]; exact cell_kept hn h.w1
  · exact (h.below.trans (hn.mono h.below.size)).setCell hgl _
set_option maxHeartbeats 2000000 in
set_option maxRecDepth 100000 in
theorem zlength_in (nm : ByteArray) (b : Int) (a : Option Addr) (cap : Nat) (cs : List (Int × Int)) (d : Int) (w : World) (v : Valid b cs) (z : ZoneAt a cs w) (d0 : 0 ≤ d) (d1 : d ≤ 36524) :
    Calls Try.prog 28 #[zv nm b a cs.length cap, .int .i64 d] w fun r w' => r = .returned (.int .i64 (dlen b cs d)) ∧ Below w.heap.size w w' := by
  have hV := fun w (z : ZoneAt a cs w) => zvalid_any nm b a cap cs w (by have := v.1; omega) z
  rw [decide_eq_true v] at hV
  have HV := Lib.hid (fun m w z => (callsIn_wide (n := m)).2 (hV w z))
  have HD := Lib.hid (fun m w => (callsIn_wide (n := m)).2 (zday_is (n := d) true (decide_eq_true ⟨d0, d1⟩) w))
  have HM := Lib.hid (fun m w => (callsIn_wide (n := m)).2 (zstretches_any nm b a cs.length cap 0 52596000 w))
  have HT := Lib.hid (day_total v d d0 d1)
  have HL := Lib.hid (dlen_bd3 b cs d)
  have HSB := Lib.hid (fun x hx => seg_bds v (s := 0) (t := 52596000) (by decide) (x := x) hx)
  have HSQ := Lib.hid (fun W hb gz gf gt hc mine hm l => zsegs_seq nm b a cap cs 0 52596000 (by have := v.1; omega) w z W hb gz gf gt hc mine hm l)
  have inv := ZW.start w nm b a cs.length cap cs z
  clear hV v z
  generalize cs.length = len at *
  have k0 := inv.c0
  have k1 := inv.c1
  have k2 := inv.c2
  have hf1 : Fence.wide.fn 16 := trivial
  have hf2 : Fence.wide.fn 35 := trivial
  have hf3 : Fence.wide.fn 55 := trivial
  refine (callsIn_wide (n := 3)).1 ?_
  refine callsIn_of_wp_marks Try.func28 rfl trivial ?_ rfl
  simp only [Try.ntmps28, List.size_toArray, List.length_cons, List.length_nil, Nat.reduceAdd, Nat.reduceSub, Array.replicate_succ, Array.replicate_zero, List.push_toArray, List.append_toArray, List.nil_append, List.cons_append]
  gi_upto_region 6 with (first
    | (gi_at_call 16; ((with_reducible refine (HV.out _ _ inv.zone).mono ?_); rintro e w1 ⟨rfl, hn⟩); replace inv := inv.step hn; have k0 := inv.c0; have k1 := inv.c1; have k2 := inv.c2; clear hn)
    | (gi_at_call 35; ((with_reducible refine (HD.out _ _).mono ?_); rintro e w' ⟨rfl, rfl⟩)))
  have hsz : ∀ (X : World) (o : Obj), Below X.heap.size X (X.alloc o) := fun X o => (Below.refl _ _).alloc (Nat.le_refl _) _
  have hL : LenI w (w1.heap.size + 1) w1.heap.size (1440 * d) [] ((w1.alloc (.cells #[.int .i64 (1440 * d), .int .i64 (1440 * d + 1440)] 26)).alloc (.cells #[.int .i64 0] 3)) := by
    refine ⟨?_, ?_, ?_, ?_⟩
    · have h := Boxed.new (w1.alloc (.cells #[.int .i64 (1440 * d), .int .i64 (1440 * d + 1440)] 26)) 3 (.int .i64 0)
      rwa [World.size_alloc] at h
    · exact cell_kept (hsz _ _) (by simp [World.cell?_alloc_new])
    · exact cell_kept (hsz _ _) (by simp [World.cell?_alloc_new])
    · exact inv.below.trans (((hsz _ _).trans ((hsz _ _).mono (by simp))).mono inv.below.size)
  have hgl : w.heap.size < w1.heap.size := World.block_lt_of_cell? _ _ inv.c0
  replace inv := (inv.step (hsz _ (.cells #[.int .i64 (1440 * d), .int .i64 (1440 * d + 1440)] 26))).step (hsz _ (.cells #[.int .i64 0] 3))
  have hsz2 : ((w1.alloc (.cells #[.int .i64 (1440 * d), .int .i64 (1440 * d + 1440)] 26)).alloc (.cells #[.int .i64 0] 3)).heap.size = w1.heap.size + 2 := by simp
  generalize (w1.alloc (.cells #[.int .i64 (1440 * d), .int .i64 (1440 * d + 1440)] 26)).alloc (.cells #[.int .i64 0] 3) = w2 at *
  clear hsz k0 k1 k2
  have k0 := inv.c0
  have k1 := inv.c1
  have k2 := inv.c2
  have HL1 := Lib.hid hL
  have HG := Lib.hid (And.intro hgl hsz2)
  clear hL hgl hsz2
  gi_wp2_with (gi_at_call 55; ((with_reducible refine (HM.out _ _).mono ?_); rintro e w3 ⟨rfl, hn⟩); have HN := Lib.hid hn; clear hn)
  have hs3 : w3.heap.size = w2.heap.size + 3 := by rw [HN.out]; exact capsW_size _ _ _ _ _ _ _ _
  have hb3 : Below w2.heap.size w2 w3 := by rw [HN.out]; exact capsW_below _ _ _ _ _ _ _ _
  have hc3 : Caps w3 w2.heap.size (w2.heap.size + 1) (w2.heap.size + 2) nm b a len cap 0 52596000 := by rw [HN.out]; exact capsW_caps _ _ _ _ _ _ _ _
  have hL3 := HL1.out.step hb3 (by have := HG.out; omega) (by have := HG.out; omega) inv.below.size
  have hbw := inv.below.trans (hb3.mono inv.below.size)
  obtain ⟨hg1, hg2⟩ := HG.out
  generalize w1.heap.size = g1 at *
  clear HN HL1 HG inv k0 k1 k2
  refine range_outer (α := Seg) rfl (enters_of Try.func61 (by kernel_rfl) rfl) (encs := encSeg) (fun _ => rfl) (fun k => k = g1 + 1) (fun k hk => by omega) (segs 0 b 52596000 cs)
    (fun W hW hsW => HSQ.out W (hbw.trans (hW.mono hbw.size)) _ _ _ (hc3.below hW) _ (fun i hi => by rcases hi with rfl | rfl <;> omega) _)
    (fun s X => LenI w (g1 + 1) g1 (1440 * d) s X) (fun _ _ => False)
    (fun s X Y h k => h.step k (by omega) (by omega) hbw.size) (fun _ _ _ h _ => h) hL3 ?round ?done (fun _ _ h => h.elim)
  case round =>
    intro pre x rest X hx hI hlt
    gi_wp2
    refine ⟨(Oth.refl _ _).alloc _, fun X2 hT => ?_⟩
    obtain ⟨⟨s, e⟩, o⟩ := x
    obtain ⟨s0, s1, s2, o0, o1, -⟩ := HSB.out ((s, e), o) (by rw [hx]; simp)
    simp only at s0 s1 s2 o0 o1
    have p0 : X2.cell? ⟨X.heap.size, 0, none⟩ = some (.int .i64 s) := hT.cell (by simp [World.cell?_alloc_new]) (by show X.heap.size ≠ _; omega)
    have p1 : X2.cell? ⟨X.heap.size, 1, none⟩ = some (.int .i64 e) := hT.cell (by simp [World.cell?_alloc_new]) (by show X.heap.size ≠ _; omega)
    have hI2 : LenI w (g1 + 1) g1 (1440 * d) pre X2 := (hI.step ((Below.refl w3.heap.size X).alloc (by omega) _) (by omega) (by omega) hbw.size).step (hT.below (Nat.le_succ _)) (by omega) (by omega) hbw.size
    have hF : 0 ≤ dayF (1440 * d) ((s, e), o) := dayF_nonneg _ _
    have hT0 : 0 ≤ total (dayF (1440 * d)) pre := total_nonneg _ _ (fun _ _ => dayF_nonneg _ _)
    have hT1 : total (dayF (1440 * d)) pre + dayF (1440 * d) ((s, e), o) ≤ 3120 := by
      have h1 := HT.out
      have h2 := HL.out
      have h3 := total_nonneg (dayF (1440 * d)) rest (fun _ _ => dayF_nonneg _ _)
      rw [hx, total_append] at h1
      have h4 : total (dayF (1440 * d)) (((s, e), o) :: rest) = dayF (1440 * d) ((s, e), o) + total (dayF (1440 * d)) rest := rfl
      omega
    have HCP := Lib.hid (fun w => (zcommon_any (s + o) (e + o) (1440 * d) (1440 * d + 1440) (by omega) (by omega) (by omega) (by omega) w))
    have hFe : com (s + o) (e + o) (1440 * d) (1440 * d + 1440) = dayF (1440 * d) ((s, e), o) := rfl
    rw [hFe] at HCP
    have HI2 := Lib.hid hI2
    have kl := hI2.sum.cell
    have kf := hI2.sum.frozen
    have q0 := hI2.w0
    have q1 := hI2.w1
    have HSN := Lib.hid (total_snoc (dayF (1440 * d)) pre ((s, e), o))
    generalize total (dayF (1440 * d)) pre = T at *
    generalize dayF (1440 * d) ((s, e), o) = Fx at *
    clear hI hI2 hFe hx HT HSB HSQ HL hL3 hc3 hT k0 k1 k2
    have hw1 := IntWalk.i64_in (s + o) (by omega)
    have hw2 := IntWalk.i64_in (e + o) (by omega)
    have hw3 := IntWalk.i64_in (T + Fx) (by omega)
    have hf4 : Fence.wide.fn 56 := trivial
    have hdep : Fence.wide.depth = none := rfl
    have hmix : Try.prog.follows .mixedOrders = true := by kernel_rfl
    gi_wp2
    have hS : (fun w' => w'.cell? ⟨X.heap.size, 0, none⟩ = some (.int .i64 s) ∧ w'.cell? ⟨X.heap.size, 1, none⟩ = some (.int .i64 e) ∧ w'.cell? ⟨g1, 0, none⟩ = some (.int .i64 (1440 * d)) ∧ w'.cell? ⟨g1, 1, none⟩ = some (.int .i64 (1440 * d + 1440))) X2.drew := ⟨p0, p1, q0, q1⟩
    refine region_inRound (S := fun w' => w'.cell? ⟨X.heap.size, 0, none⟩ = some (.int .i64 s) ∧ w'.cell? ⟨X.heap.size, 1, none⟩ = some (.int .i64 e) ∧ w'.cell? ⟨g1, 0, none⟩ = some (.int .i64 (1440 * d)) ∧ w'.cell? ⟨g1, 1, none⟩ = some (.int .i64 (1440 * d + 1440))) hmix (by kernel_rfl) (fun ⟨_, _, h⟩ => h) hS (fun hHeld => ?_)
    refine wpAnyH_take (i := 1) (v := ?_) rfl (by kernel_rfl) (by kernel_rfl) (by kernel_rfl) (fun _ _ _ h => h) (Or.inl ⟨by rfl, ?_⟩) (by assumption) ?_
    rotate_left
    · intro w hSw; go_simp; (try with_reducible rfl)
    (try simp only [Act.put, List.setIfInBounds_toArray, List.set_cons_zero, List.set_cons_succ])
    refine wpAnyH_take (i := 2) (v := ?_) rfl (by kernel_rfl) (by kernel_rfl) (by kernel_rfl) (fun _ _ _ h => h) (Or.inl ⟨by rfl, ?_⟩) (by assumption) ?_
    rotate_left
    · intro w hSw; go_simp; (try with_reducible rfl)
    (try simp only [Act.put, List.setIfInBounds_toArray, List.set_cons_zero, List.set_cons_succ])
    refine wpAnyH_take (i := 3) (v := ?_) rfl (by kernel_rfl) (by kernel_rfl) (by kernel_rfl) (fun _ _ _ h => h) (Or.inl ⟨by rfl, ?_⟩) (by assumption) ?_
    rotate_left
    · intro w hSw; go_simp; (try with_reducible rfl)
    (try simp only [Act.put, List.setIfInBounds_toArray, List.set_cons_zero, List.set_cons_succ])
    refine wpAnyH_take (i := 4) (v := ?_) rfl (by kernel_rfl) (by kernel_rfl) (by kernel_rfl) (fun _ _ _ h => h) (Or.inl ⟨by rfl, ?_⟩) (by assumption) ?_
    rotate_left
    · intro w hSw; go_simp; (try with_reducible rfl)
    (try simp only [Act.put, List.setIfInBounds_toArray, List.set_cons_zero, List.set_cons_succ])
    refine wpAnyH_take (i := 5) (v := ?_) rfl (by kernel_rfl) (by kernel_rfl) (by kernel_rfl) (fun _ _ _ h => h) (Or.inl ⟨by rfl, ?_⟩) (by assumption) ?_
    rotate_left
    · intro w hSw; go_simp; (try with_reducible rfl)
    (try simp only [Act.put, List.setIfInBounds_toArray, List.set_cons_zero, List.set_cons_succ])
    refine wpAnyH_take (i := 6) (v := ?_) rfl (by kernel_rfl) (by kernel_rfl) (by kernel_rfl) (fun _ _ _ h => h) (Or.inl ⟨by rfl, ?_⟩) (by assumption) ?_
    rotate_left
    · intro w hSw; go_simp; (try with_reducible rfl)
    (try simp only [Act.put, List.setIfInBounds_toArray, List.set_cons_zero, List.set_cons_succ])
    refine wpAnyH_take (i := 7) (v := ?_) rfl (by kernel_rfl) (by kernel_rfl) (by kernel_rfl) (fun _ _ _ h => h) (Or.inl ⟨by rfl, ?_⟩) (by assumption) ?_
    rotate_left
    · intro w hSw; go_simp; (try with_reducible rfl)
    (try simp only [Act.put, List.setIfInBounds_toArray, List.set_cons_zero, List.set_cons_succ])
    refine wpAnyH_take (i := 8) (v := ?_) rfl (by kernel_rfl) (by kernel_rfl) (by kernel_rfl) (fun _ _ _ h => h) (Or.inl ⟨by rfl, ?_⟩) (by assumption) ?_
    rotate_left
    · intro w hSw; go_simp; (try with_reducible rfl)
    (try simp only [Act.put, List.setIfInBounds_toArray, List.set_cons_zero, List.set_cons_succ])
    refine wpAnyH_take (i := 9) (v := ?_) rfl (by kernel_rfl) (by kernel_rfl) (by kernel_rfl) (fun _ _ _ h => h) (Or.inl ⟨by rfl, ?_⟩) (by assumption) ?_
    rotate_left
    · intro w hSw; go_simp; (try with_reducible rfl)
    (try simp only [Act.put, List.setIfInBounds_toArray, List.set_cons_zero, List.set_cons_succ])
    refine wpAnyH_take (i := 10) (v := ?_) rfl (by kernel_rfl) (by kernel_rfl) (by kernel_rfl) (fun _ _ _ h => h) (Or.inl ⟨by rfl, ?_⟩) (by assumption) ?_
    rotate_left
    · intro w hSw; go_simp; (try with_reducible rfl)
    (try simp only [Act.put, List.setIfInBounds_toArray, List.set_cons_zero, List.set_cons_succ])
    refine wpAnyH_ready (rs := [0, 11]) (by kernel_rfl) (by simp) ?_
    refine AllReadyH.cons rfl (fun K hK => ?_) (AllReadyH.cons rfl (fun K hK => ?_) AllReadyH.nil)
    · go_simp
      refine hK.out _ _ hS (fun hHeld => ?_)
      clear hK K
      (try simp only [Act.put, List.setIfInBounds_toArray, List.set_cons_zero, List.set_cons_succ])
      refine wpAnyH_ready (rs := [11]) (by kernel_rfl) (by simp) ?_
      refine AllReadyH.cons rfl (fun K hK => ?_) AllReadyH.nil
      go_simp
      refine (HCP.out _).mono ?_
      rintro e' w6 ⟨rfl, hn⟩
      have kl6 := cell_kept hn kl
      have kf6 := frozen_kept_b hn kf kl
      refine hK.out _ _ ⟨cell_kept hn p0, cell_kept hn p1, cell_kept hn q0, cell_kept hn q1⟩ (fun hHeld => ?_)
      clear hK K
      (try simp only [Act.put, List.setIfInBounds_toArray, List.set_cons_zero, List.set_cons_succ])
      refine wpAnyH_take (i := 12) (v := ?_) rfl (by kernel_rfl) (by kernel_rfl) (by kernel_rfl) (fun _ _ _ h => h) (Or.inl ⟨by rfl, ?_⟩) (by assumption) ?_
      rotate_left
      · intro w hSw; go_simp; (try with_reducible rfl)
      (try simp only [Act.put, List.setIfInBounds_toArray, List.set_cons_zero, List.set_cons_succ])
      refine wpAnyH_ready (rs := [13]) (by kernel_rfl) (by simp) ?_
      refine AllReadyH.cons rfl (fun K hK => ?_) AllReadyH.nil
      go_simp
      refine hK.out _ _ ⟨by rw [World.cell?_setCell_far _ _ _ _ (by show g1 + 1 ≠ X.heap.size; omega)]; exact cell_kept hn p0, by rw [World.cell?_setCell_far _ _ _ _ (by show g1 + 1 ≠ X.heap.size; omega)]; exact cell_kept hn p1, by rw [World.cell?_setCell_far _ _ _ _ (by show g1 + 1 ≠ g1; omega)]; exact cell_kept hn q0, by rw [World.cell?_setCell_far _ _ _ _ (by show g1 + 1 ≠ g1; omega)]; exact cell_kept hn q1⟩ (fun hHeld => ?_)
      clear hK K
      refine wpAnyH_done (by kernel_rfl) ?_ _
      exact HI2.out.put (undrew hn) (by omega) (by omega) HSN.out
    · go_simp
      refine (HCP.out _).mono ?_
      rintro e' w6 ⟨rfl, hn⟩
      have kl6 := cell_kept hn kl
      have kf6 := frozen_kept_b hn kf kl
      refine hK.out _ _ ⟨cell_kept hn p0, cell_kept hn p1, cell_kept hn q0, cell_kept hn q1⟩ (fun hHeld => ?_)
      clear hK K
      (try simp only [Act.put, List.setIfInBounds_toArray, List.set_cons_zero, List.set_cons_succ])
      refine wpAnyH_ready (rs := [0]) (by kernel_rfl) (by simp) ?_
      refine AllReadyH.cons rfl (fun K hK => ?_) AllReadyH.nil
      go_simp
      refine hK.out _ _ ⟨cell_kept hn p0, cell_kept hn p1, cell_kept hn q0, cell_kept hn q1⟩ (fun hHeld => ?_)
      clear hK K
      (try simp only [Act.put, List.setIfInBounds_toArray, List.set_cons_zero, List.set_cons_succ])
      refine wpAnyH_take (i := 12) (v := ?_) rfl (by kernel_rfl) (by kernel_rfl) (by kernel_rfl) (fun _ _ _ h => h) (Or.inl ⟨by rfl, ?_⟩) (by assumption) ?_
      rotate_left
      · intro w hSw; go_simp; (try with_reducible rfl)
      (try simp only [Act.put, List.setIfInBounds_toArray, List.set_cons_zero, List.set_cons_succ])
      refine wpAnyH_ready (rs := [13]) (by kernel_rfl) (by simp) ?_
      refine AllReadyH.cons rfl (fun K hK => ?_) AllReadyH.nil
      go_simp
      refine hK.out _ _ ⟨by rw [World.cell?_setCell_far _ _ _ _ (by show g1 + 1 ≠ X.heap.size; omega)]; exact cell_kept hn p0, by rw [World.cell?_setCell_far _ _ _ _ (by show g1 + 1 ≠ X.heap.size; omega)]; exact cell_kept hn p1, by rw [World.cell?_setCell_far _ _ _ _ (by show g1 + 1 ≠ g1; omega)]; exact cell_kept hn q0, by rw [World.cell?_setCell_far _ _ _ _ (by show g1 + 1 ≠ g1; omega)]; exact cell_kept hn q1⟩ (fun hHeld => ?_)
      clear hK K
      refine wpAnyH_done (by kernel_rfl) ?_ _
      exact HI2.out.put (undrew hn) (by omega) (by omega) HSN.out
  case done =>
    intro Y hI hlt hK
    have hsum := hI.sum.cell
    rw [HT.out] at hsum
    gi_wp2
    refine ⟨by simp, .inl ⟨_, _, rfl, run_takeDeferred hK, ?_⟩⟩
    exact ⟨_, results_tmp rfl _ _ _, rfl, hI.below.trans ((Turned.putObj _ Y _).below hbw.size)⟩
end Go.Proofs.Ytjmnohbgfkohpaa.Zn
