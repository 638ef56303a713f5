/- The iterator over the parts of a stretch by changes and local midnights: what it gives, one by one, to whatever loop. Conditions: the zone is valid, its changes lie in memory as the argument says, the stretch is one, and the loop's body leaves them and the iterator's own blocks alone. -/
import Derived.Test.YtjmnohbgfkohpaaZoneLen
import Derived.Test.YtjmnohbgfkohpaaZoneMath5
namespace Go.Proofs.Ytjmnohbgfkohpaa.Zn
open Go Go.RowKit Go.Shelf
attribute [local go_sem] Oper.semAt_some
abbrev encPiece (x : Piece) : Array Value := #[.int .i64 x.1, sv x.2.1 x.2.2]
theorem Oth.under {mine : Nat → Prop} {W X Y : World} {B : Nat} (h : Oth mine W X) (k : Below B X Y) (hB : W.heap.size ≤ B) : Oth mine W Y :=
  ⟨k.os.trans h.os, k.tape.trans h.tape, k.output.trans h.output, Nat.le_trans h.size k.size, fun i hi hm => (k.block i (by omega)).trans (h.block i hi hm)⟩
/-- What the loop over the stretches keeps while it hands on the parts. -/
structure DayI (J : List Piece → World → Prop) (mine : Nat → Prop) (W : World) (gy l : Nat) (s : List Seg) (X : World) : Prop where
  j : J (s.flatMap dseg) X
  oth : Oth mine W X
  y : X.cell? ⟨gy, 0, none⟩ = some (.func (.yield l) #[] #[])
set_option maxHeartbeats 4000000 in
set_option maxRecDepth 100000 in
theorem zdays_seq (nm : ByteArray) (b : Int) (a : Option Addr) (cap : Nat) (cs : List (Int × Int)) (f t : Int) (v : Valid b cs) (hst : Str f t) (w0 : World) (z : ZoneAt a cs w0) (W : World) (hb : Below w0.heap.size w0 W)
    (gz gf gt : Nat) (hc : Caps W gz gf gt nm b a cs.length cap f t) (mine : Nat → Prop) (hm : ∀ i, mine i → w0.heap.size ≤ i ∧ i < W.heap.size ∧ i ≠ gz ∧ i ≠ gf ∧ i ≠ gt) (l : Nat) :
    SeqAt Try.prog 57 #[.pointer (some ⟨gz, 0, none⟩), .pointer (some ⟨gf, 0, none⟩), .pointer (some ⟨gt, 0, none⟩)] encPiece mine (dall f b t cs) l W := by
  intro J Jx hJ hJx hY h0
  obtain ⟨st0, st1, st2⟩ := hst
  have HY := Lib.hid hY
  have HJ := Lib.hid hJ
  have HJX := Lib.hid hJx
  have HM := Lib.hid hm
  have HSB := Lib.hid (fun x hx => seg_bds v (s := f) (t := t) st0 (x := x) hx)
  have HMK := Lib.hid (fun m w => (callsIn_wide (n := m)).2 (zstretches_any nm b a cs.length cap f t w))
  have HSQ := Lib.hid (fun W hb gz gf gt hc mine hm l => zsegs_seq nm b a cap cs f t (by have := v.1; omega) w0 z W hb gz gf gt hc mine hm l)
  have HB := Lib.hid hb
  have hl := v.1
  clear hY hJ hJx hm z v
  generalize cs.length = len at *
  have k0 := hc.z0
  have k1 := hc.z1
  have k2 := hc.z2
  have k3 := hc.f0
  have k4 := hc.t0
  have HC := Lib.hid hc
  clear hc hb
  have hf1 : Fence.wide.fn 55 := trivial
  have hf2 : Fence.wide.fn 33 := trivial
  have hdep : Fence.wide.depth = none := rfl
  refine (callsIn_wide (n := 3)).1 ?_
  refine callsIn_of_wp_marks Try.func57 rfl trivial ?_ rfl
  simp only [Try.ntmps57, List.size_toArray, List.length_cons, List.length_nil, Nat.reduceAdd, Nat.reduceSub, Array.replicate_succ, Array.replicate_zero, List.push_toArray, List.append_toArray, List.nil_append, List.cons_append]
  gi_upto_region 1 with (fail)
  have hal : Below W.heap.size W (W.alloc (.cells #[.func (.yield l) #[] #[]] 76)) := (Below.refl _ _).alloc (Nat.le_refl _) _
  have hys : (W.alloc (.cells #[.func (.yield l) #[] #[]] 76)).heap.size = W.heap.size + 1 := by simp
  have hy0 : (W.alloc (.cells #[.func (.yield l) #[] #[]] 76)).cell? ⟨W.heap.size, 0, none⟩ = some (.func (.yield l) #[] #[]) := by simp [World.cell?_alloc_new]
  have hc1 := HC.out.below hal
  have HI1 := Lib.hid (show DayI J mine W W.heap.size l [] (W.alloc (.cells #[.func (.yield l) #[] #[]] 76)) from ⟨HJ.out _ _ _ h0 hal, (Oth.refl _ _).alloc _, hy0⟩)
  have HAL := Lib.hid hal
  clear hy0 h0 k0 k1 k2 k3 k4 hal
  generalize W.alloc (.cells #[.func (.yield l) #[] #[]] 76) = W1 at *
  have k0 := hc1.z0
  have k1 := hc1.z1
  have k2 := hc1.z2
  have k3 := hc1.f0
  have k4 := hc1.t0
  clear hc1
  have HYS := Lib.hid hys
  clear hys
  gi_wp2_with (gi_at_call 55; ((with_reducible refine (HMK.out _ _).mono ?_); rintro e w3 ⟨rfl, hn⟩); have HN := Lib.hid hn; clear hn)
  have hs3 : w3.heap.size = W1.heap.size + 3 := by rw [HN.out]; exact capsW_size _ _ _ _ _ _ _ _
  have hb3 : Below W1.heap.size W1 w3 := by rw [HN.out]; exact capsW_below _ _ _ _ _ _ _ _
  have hc3 : Caps w3 W1.heap.size (W1.heap.size + 1) (W1.heap.size + 2) nm b a len cap f t := by rw [HN.out]; exact capsW_caps _ _ _ _ _ _ _ _
  have hys := HYS.out
  have hWw : Below W.heap.size W w3 := HAL.out.trans (hb3.mono (by omega))
  have hbw := HB.out.trans (hWw.mono HB.out.size)
  have hI3 : DayI J mine W W.heap.size l [] w3 := ⟨HJ.out _ _ _ HI1.out.j (hb3.mono (by omega)), HI1.out.oth.under hb3 (by omega), (hb3.cell (p := ⟨W.heap.size, 0, none⟩) (by show W.heap.size < _; omega)).trans HI1.out.y⟩
  clear HN HI1 k0 k1 k2 k3 k4
  refine range_outer (α := Seg) rfl (enters_of Try.func61 (by kernel_rfl) rfl) (encs := encSeg) (fun _ => rfl) mine (fun k hk => by have := (HM.out k hk).2.1; omega) (segs f b t cs)
    (fun V hV hsV => HSQ.out V (hbw.trans (hV.mono hbw.size)) _ _ _ (hc3.below hV) _ (fun i hi => by
      rcases hi with hi | rfl
      · have := HM.out i hi; omega
      · have := hbw.size; omega) _)
    (DayI J mine W W.heap.size l) (fun s X => ∃ pre, Jx pre X)
    (fun s X Y h k => ⟨HJ.out _ _ _ h.j (k.mono (by omega)), h.oth.under k (by omega), (k.cell (p := ⟨W.heap.size, 0, none⟩) (by show W.heap.size < _; omega)).trans h.y⟩)
    (fun s X Y h k => h.imp (fun pre hp => HJX.out _ _ _ hp (k.mono (by omega)))) hI3 ?round ?done ?stop
  case round =>
    intro pre x rest X hx hI hlt
    gi_wp2
    refine ⟨(Oth.refl _ _).alloc _, fun X2 hT => ?_⟩
    obtain ⟨⟨s, e⟩, o⟩ := x
    obtain ⟨s0, s1, s2, o0, o1, -⟩ := HSB.out ((s, e), o) (by rw [hx]; simp)
    simp only at s0 s1 s2 o0 o1
    have p0 : X2.cell? ⟨X.heap.size, 0, none⟩ = some (.int .i64 s) := hT.cell (by simp [World.cell?_alloc_new]) (by show X.heap.size ≠ _; omega)
    have p1 : X2.cell? ⟨X.heap.size, 1, none⟩ = some (.int .i64 e) := hT.cell (by simp [World.cell?_alloc_new]) (by show X.heap.size ≠ _; omega)
    have hXX : Below w3.heap.size X X2 := ((Below.refl w3.heap.size X).alloc (by omega) _).trans (hT.below (Nat.le_succ _))
    have hX2 : X2.heap.size = X.heap.size + 1 := by rw [hT.size]; simp
    have hI2 : DayI J mine W W.heap.size l pre X2 := ⟨HJ.out _ _ _ hI.j (hXX.mono (by omega)), hI.oth.under hXX (by omega), (hXX.cell (p := ⟨W.heap.size, 0, none⟩) (by show W.heap.size < _; omega)).trans hI.y⟩
    have HI2 := Lib.hid hI2
    have HP := Lib.hid (And.intro p0 p1)
    have HXS := Lib.hid (show W.heap.size < X.heap.size ∧ X2.heap.size = X.heap.size + 1 from ⟨by omega, hX2⟩)
    have HALL := Lib.hid (show dall f b t cs = pre.flatMap dseg ++ (dseg ((s, e), o) ++ rest.flatMap dseg) by
      unfold dall; rw [hx, flat_app]; rfl)
    clear hI hI2 hx hT hXX hX2 hI3 hc3 HSB HSQ
    have q0 := HI2.out.y
    gi_wp2
    clear q0 p0 p1
    gi_loopg [7] ((e - s).toNat) (fun g s7 wx => ∃ (k : Int) (m : Nat) (dn : List Piece), s7 = .int .i64 k ∧ 0 ≤ k ∧ k ≤ e - s ∧ k.toNat = g ∧ k.toNat ≤ m ∧ Hid (dseg ((s, e), o) = dn ++ dcut m (e - k + o) k) ∧ Hid (J (pre.flatMap dseg ++ dn) wx) ∧ Hid (Oth mine X2 wx))
    case atStart => exact ⟨e - s, (e - s).toNat, [], rfl, by omega, by omega, rfl, by omega, show dcut (e - s).toNat (s + o) (e - s) = [] ++ dcut (e - s).toNat (e - (e - s) + o) (e - s) by rw [show e - (e - s) + o = s + o by omega]; rfl, show J _ _ by rw [List.append_nil]; exact HI2.out.j, Oth.refl _ _⟩
    case round =>
      obtain ⟨k, m, dn, rfl, hk0, hk1, hkg, hkm, HS, HJJ, HO⟩ := hrel
      have hmine : ∀ i, mine i → i < W.heap.size := fun i hi => (HM.out i hi).2.1
      have HMI := Lib.hid hmine
      have p1 := HO.out.cell HP.out.2 (fun h => by have h2 : X.heap.size < W.heap.size := HMI.out _ h; have h3 := HXS.out.1; omega)
      have q0 := HO.out.cell HI2.out.y (fun h => by have h2 : W.heap.size < W.heap.size := HMI.out _ h; omega)
      clear hmine
      cases gk with
      | zero =>
        have hk : k = 0 := by omega
        subst hk
        have HE := Lib.hid (show dseg ((s, e), o) = dn by rw [HS.out, dcut_none, List.append_nil])
        gi_wp2
        refine ⟨HO.out, ?_, ?_, ?_⟩
        · rw [flat_one, HE.out]; exact HJJ.out
        · exact HI2.out.oth.trans (HO.out)
        · exact q0
      | succ g =>
        have hkpos : 0 < k := by omega
        obtain ⟨m, rfl⟩ : ∃ m', m = m' + 1 := ⟨m - 1, by omega⟩
        have hq := zclock_any (e - k + o) (by omega) (by omega)
        have HQ := Lib.hid (fun m' w => (callsIn_wide (n := m')).2 (hq w))
        have hr0 := Int.emod_nonneg (e - k + o) (show (1440 : Int) ≠ 0 by decide)
        have hr1 := Int.emod_lt_of_pos (e - k + o) (show (0 : Int) < 1440 by decide)
        have HS2 := Lib.hid (show dseg ((s, e), o) = dn ++ ((e - k + o) / 1440, (e - k + o) % 1440, min ((e - k + o) % 1440 + k) 1440) :: dcut m (e - k + o + (min ((e - k + o) % 1440 + k) 1440 - (e - k + o) % 1440)) (k - (min ((e - k + o) % 1440 + k) 1440 - (e - k + o) % 1440)) by
          rw [HS.out]; conv => lhs; unfold dcut; rw [if_pos hkpos])
        have hn0 : -1000000 ≤ (e - k + o) / 1440 ∧ (e - k + o) / 1440 ≤ 1000000 := by omega
        have HN2 := Lib.hid (show ∀ j : Int, e - k + o + j = e - (k - j) + o from fun j => by omega)
        clear hq
        generalize (e - k + o) / 1440 = q at *
        generalize (e - k + o) % 1440 = r at *
        have hen0 : r < min (r + k) 1440 := by omega
        have hen1 : min (r + k) 1440 ≤ 1440 := by omega
        have hen2 : min (r + k) 1440 ≤ r + k := by omega
        have HSP := Lib.hid (show dall f b t cs = (pre.flatMap dseg ++ dn) ++ (q, r, min (r + k) 1440) :: (dcut m (e - k + o + (min (r + k) 1440 - r)) (k - (min (r + k) 1440 - r)) ++ rest.flatMap dseg) by
          rw [HALL.out, HS2.out]; simp only [List.append_assoc, List.cons_append])
        gi_upto_region 7 with (gi_at_call 33; ((with_reducible refine (CallsIn.inRound _ (HQ.out _ _)).mono ?_); rintro e' w6 ⟨rfl, hn⟩))
        have hn2 : Below wr.heap.size wr (w6.alloc (.cells #[.int .i64 q, .int .i64 r] 46)) := hn.trans (((Below.refl _ _).alloc (Nat.le_refl _) _).mono hn.size)
        have t0 : (w6.alloc (.cells #[.int .i64 q, .int .i64 r] 46)).cell? ⟨w6.heap.size, 0, none⟩ = some (.int .i64 q) := by simp [World.cell?_alloc_new]
        have t1 : (w6.alloc (.cells #[.int .i64 q, .int .i64 r] 46)).cell? ⟨w6.heap.size, 1, none⟩ = some (.int .i64 r) := by simp [World.cell?_alloc_new]
        replace q0 := cell_kept hn2 q0
        have HJ7 := Lib.hid (HJ.out _ _ _ HJJ.out (hn2.mono (by have := HO.out.size; have := HXS.out; omega)))
        have HO7 := Lib.hid (HO.out.call hn2)
        have HG := Lib.hid (show wr.heap.size ≤ w6.heap.size from hn.size)
        generalize w6.alloc (.cells #[.int .i64 q, .int .i64 r] 46) = w7 at *
        generalize w6.heap.size = g6 at *
        clear hn hn2 HQ p1
        obtain ⟨fn, tmps, assign, body, hy, hR⟩ := HY.out _ _ _ w7 HSP.out HJ7.out
        have hy' : (Instr.yield l #[.int .i64 q, sv r (min (r + k) 1440)]).run Try.prog w7 = .ok (.round l fn tmps assign body) w7 := hy
        have HR := Lib.hid hR
        have HT7 := Lib.hid (And.intro t0 t1)
        clear hy hR
        gi_wp2
        refine (round_inner HR.out).mono ?_
        rintro e' W3 (⟨rfl, hJ3, hO3⟩ | ⟨rfl, hJ3, hO3⟩)
        · have hnm : ¬ mine g6 := fun h => by have h2 : g6 < W.heap.size := HMI.out _ h; have h3 := HXS.out; have h4 := HO.out.size; have h5 := HG.out; omega
          have t1 := hO3.cell HT7.out.2 hnm
          have HE := Lib.hid (And.intro hJ3 (HO7.out.trans hO3))
          have HS3 := Lib.hid (show dseg ((s, e), o) = (dn ++ [(q, r, min (r + k) 1440)]) ++ dcut m (e - (k - (min (r + k) 1440 - r)) + o) (k - (min (r + k) 1440 - r)) by
            rw [HS2.out, HN2.out, List.append_assoc]; rfl)
          clear hJ3 hO3 hnm hy' q0
          gi_wp2
          gi_roundg ((k - (min (r + k) 1440 - r)).toNat)
          case measure => omega
          case rel => exact ⟨k - (min (r + k) 1440 - r), m, dn ++ [(q, r, min (r + k) 1440)], rfl, by omega, by omega, rfl, by omega, HS3.out, show J _ _ by rw [← List.append_assoc]; exact HE.out.1, HE.out.2⟩
        · have HE := Lib.hid (And.intro hJ3 (HO7.out.trans hO3))
          clear hJ3 hO3 hy' q0
          gi_wp2
          exact ⟨HE.out.2, _, HE.out.1⟩
  case done =>
    intro Y hI hlt hK
    gi_wp2
    refine ⟨by simp, .inl ⟨_, _, rfl, run_takeDeferred hK, ?_⟩⟩
    exact ⟨_, results_none rfl _ _ _, ⟨_, rfl⟩, .inl (HJ.out _ _ _ hI.j ((Turned.putObj _ Y _).below (by omega)))⟩
  case stop =>
    intro pre Y hI hlt hK
    obtain ⟨pre2, hp⟩ := hI
    gi_wp2
    refine ⟨by simp, .inl ⟨_, _, rfl, run_takeDeferred hK, ?_⟩⟩
    exact ⟨_, results_none rfl _ _ _, ⟨_, rfl⟩, .inr ⟨pre2, HJX.out _ _ _ hp ((Turned.putObj _ Y _).below (by omega))⟩⟩
end Go.Proofs.Ytjmnohbgfkohpaa.Zn
