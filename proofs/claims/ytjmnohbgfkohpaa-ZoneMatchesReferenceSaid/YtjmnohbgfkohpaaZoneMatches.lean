/- The law ZoneMatchesReference returns true. Conditions: package zone's contracts; the zone's changes lie in memory as the argument says. -/
import Derived.Test.YtjmnohbgfkohpaaZoneWindows
import Derived.Test.YtjmnohbgfkohpaaZoneRSplit
import Derived.Deep.RegionHeld3
namespace Go.Proofs.Ytjmnohbgfkohpaa.Zn
open Go.RowKit
theorem splitL_few (b : Int) (cs : List (Int × Int)) (f t : Int) : (splitL b cs f t).length ≤ 100 := by
  unfold splitL
  split
  · rename_i h
    unfold splitE at h
    split at h
    · rename_i hv
      split at h
      · exact absurd h (by decide)
      · exact (ports_fit hv.1 f _ (by omega)).1
    · exact absurd h (by decide)
  · exact Nat.zero_le _
theorem rOffset_is (nm : ByteArray) (b : Int) (a : Option Addr) (cap : Nat) (cs : List (Int × Int)) (t : Int) (w : World) (hl : cs.length ≤ 9223372036854775807) (z : ZoneAt a cs w) :
    Calls Try.prog 19 #[zv nm b a cs.length cap, .int .i64 t] w fun e w' => e = .returned (.int .i64 (offR b cs t)) ∧ Below w.heap.size w w' := roff_any nm b a cap cs t w hl z
theorem insR_few (b : Int) (cs : List (Int × Int)) (d m : Int) : (insR b cs d m).length ≤ 100 := by
  unfold insR
  split
  · rename_i h
    have := insts_two h.1 d m
    omega
  · exact Nat.zero_le _
set_option maxHeartbeats 4000000 in
set_option maxRecDepth 100000 in
theorem matches_walk {OK : World → Prop} (H : ZC OK) (nm : ByteArray) (b : Int) (a : Option Addr) (cap : Nat) (cs : List (Int × Int)) (u d m f t wf wt : Int) (w : World) (hb : Rng b) (hm : ∀ x ∈ cs, Rng x.1 ∧ Rng x.2) (hl : cs.length ≤ 9223372036854775807) (hu : Rng u) (hd : Rng d) (hmm : Rng m) (hf : Rng f) (ht : Rng t) (hwf : Rng wf) (hwt : Rng wt) (ok : OK w) (z : ZoneAt a cs w) :
    Calls Try.prog 3 #[zv nm b a cs.length cap, .int .i64 u, .int .i64 d, .int .i64 m, .int .i64 f, .int .i64 t, sv wf wt] w fun r w' => r = .returned (.bool true) ∧ Below w.heap.size w w' := by
  have inv := ZKS.start H w nm b a cs.length cap cs wf wt ok z
  clear z ok
  have HSH := Lib.hid (fun w => short_any f t w)
  by_cases hs : cs.length ≤ 70
  · have zr : ZR b cs := ⟨hs, hb, hm⟩
    have HSM := Lib.hid (fun w => small_yes nm b a cs.length cap hs w)
    have HA1 := Lib.hid (H.loc nm b a cap cs u zr hu)
    have HA2 := Lib.hid (H.valid nm b a cap cs zr)
    have HA3 := Lib.hid (H.offset nm b a cap cs u zr hu)
    have HA4 := Lib.hid (H.split nm b a cap cs f t zr hf ht)
    have HA5 := Lib.hid (H.win nm b a cap cs f t wf wt zr hf ht hwf hwt)
    have HA6 := Lib.hid (H.insts nm b a cap cs d m zr hd hmm)
    have HA7 := Lib.hid (H.len nm b a cap cs d zr hd)
    have HB1 := Lib.hid (fun w => rLocal_any nm b a cap cs u w hl)
    have HB2 := Lib.hid (fun w => rvalid_any nm b a cap cs w hl)
    have HB3 := Lib.hid (fun w => rOffset_is nm b a cap cs u w hl)
    have HB4 := Lib.hid (fun w => rsplit_any nm b a cap cs f t w hl)
    have HB5 := Lib.hid (fun w => rWindow_any nm b a cap cs f t wf wt w hl)
    have HB6 := Lib.hid (fun w => rinstants_any nm b a cap cs d m w hl)
    have HB7 := Lib.hid (fun w => rlength_any nm b a cap cs d w hl)
    have HSF := Lib.hid (splitL_few b cs f t)
    have HIF := Lib.hid (insR_few b cs d m)
    have HSame := Lib.hid (show ∀ a1 a2 c1 c2 w, PortsAt a1 (splitL b cs f t) w → PortsAt a2 (splitL b cs f t) w → Calls Try.prog 24 #[.slice a1 (splitL b cs f t).length c1, .slice a2 (splitL b cs f t).length c2] w fun e w' => e = .returned (.bool true) ∧ Below w.heap.size w w' from fun a1 a2 c1 c2 w z1 z2 => by
      have h := rsame_any a1 a2 c1 c2 _ _ w (by have := HSF.out; omega) z1 z2
      rwa [decide_eq_true rfl] at h)
    have HInts := Lib.hid (show ∀ a1 a2 c1 c2 w, IntsAt a1 (insR b cs d m) w → IntsAt a2 (insR b cs d m) w → Calls Try.prog 25 #[.slice a1 (insR b cs d m).length c1, .slice a2 (insR b cs d m).length c2] w fun e w' => e = .returned (.bool true) ∧ Below w.heap.size w w' from fun a1 a2 c1 c2 w z1 z2 => by
      have h := rints_any a1 a2 c1 c2 _ _ w (by have := HIF.out; omega) z1 z2
      rwa [decide_eq_true rfl] at h)
    clear HSF HIF
    have C := Lib.hid H
    cases hk : decide (wrap64 (t - f) ≤ 6000 ∨ 44640 < wrap64 (t - f)) with
    | false =>
      rw [hk] at HSH
      clear HA1 HA2 HA3 HA4 HA5 HA6 HA7 HB1 HB2 HB3 HB4 HB5 HB6 HB7 HSame HInts H hb hm hl hs zr hf ht hwf hwt hu hd hmm hk
      generalize cs.length = len at *
      have k0 := inv.zs.zw.c0
      have k1 := inv.zs.zw.c1
      have k2 := inv.zs.zw.c2
      have k3 := inv.zs.s0
      have k4 := inv.zs.s1
      go_enter Try.func3, Try.ntmps3
      go_wp2_with (first
        | (go_at_call 11; with_reducible refine (head_any C.out _ inv.ok).mono ?_; rintro e w2 ⟨rfl, hn⟩; replace inv := inv.step C.out hn; have k0 := inv.zs.zw.c0; have k1 := inv.zs.zw.c1; have k2 := inv.zs.zw.c2; have k3 := inv.zs.s0; have k4 := inv.zs.s1; clear hn)
        | (go_at_call 12; with_reducible refine (HSM.out _).mono ?_; rintro e w2 ⟨rfl, hn⟩; replace inv := inv.step C.out hn; have k0 := inv.zs.zw.c0; have k1 := inv.zs.zw.c1; have k2 := inv.zs.zw.c2; have k3 := inv.zs.s0; have k4 := inv.zs.s1; clear hn)
        | (go_at_call 13; with_reducible refine (HSH.out _).mono ?_; rintro e w2 ⟨rfl, rfl⟩))
      go_ret
      exact ⟨rfl, inv.zs.zw.below⟩
    | true =>
      rw [hk] at HSH
      clear H hb hm hl hs zr hf ht hwf hwt hu hd hmm hk
      generalize cs.length = len at *
      generalize decide (Valid b cs) = vv at *
      generalize locD b cs u = ld at *
      generalize locM b cs u = lm at *
      generalize locE b cs u = le at *
      generalize offR b cs u = oo at *
      generalize splitL b cs f t = L at *
      generalize splitE b cs f t = E at *
      generalize winN b cs f t wf wt = wn at *
      generalize winE b cs f t wf wt = we at *
      generalize insR b cs d m = I at *
      generalize lenR b cs d = ln at *
      have k0 := inv.zs.zw.c0
      have k1 := inv.zs.zw.c1
      have k2 := inv.zs.zw.c2
      have k3 := inv.zs.s0
      have k4 := inv.zs.s1
      go_enter Try.func3, Try.ntmps3
      go_upto_region 6 with (first
        | (go_at_call 11; with_reducible refine (head_any C.out _ inv.ok).mono ?_; rintro e w2 ⟨rfl, hn⟩; replace inv := inv.step C.out hn; have k0 := inv.zs.zw.c0; have k1 := inv.zs.zw.c1; have k2 := inv.zs.zw.c2; have k3 := inv.zs.s0; have k4 := inv.zs.s1; clear hn)
        | (go_at_call 12; with_reducible refine (HSM.out _).mono ?_; rintro e w2 ⟨rfl, hn⟩; replace inv := inv.step C.out hn; have k0 := inv.zs.zw.c0; have k1 := inv.zs.zw.c1; have k2 := inv.zs.zw.c2; have k3 := inv.zs.s0; have k4 := inv.zs.s1; clear hn)
        | (go_at_call 13; with_reducible refine (HSH.out _).mono ?_; rintro e w2 ⟨rfl, rfl⟩)
        | (go_at_call 14; with_reducible refine (HA1.out _ inv.ok inv.zs.zw.zone).mono ?_; rintro e w2 ⟨rfl, hn⟩; replace inv := inv.step C.out hn; have k0 := inv.zs.zw.c0; have k1 := inv.zs.zw.c1; have k2 := inv.zs.zw.c2; have k3 := inv.zs.s0; have k4 := inv.zs.s1; clear hn)
        | (go_at_call 15; with_reducible refine (HB1.out _ inv.zs.zw.zone).mono ?_; rintro e w2 ⟨rfl, hn⟩; replace inv := inv.step C.out hn; have k0 := inv.zs.zw.c0; have k1 := inv.zs.zw.c1; have k2 := inv.zs.zw.c2; have k3 := inv.zs.s0; have k4 := inv.zs.s1; clear hn))
      replace inv := inv.step C.out (Below.refl _ _).drew
      clear k0 k1 k2 k3 k4
      go_region_held3 (fun w' => w'.cell? ⟨w.heap.size, 0, none⟩ = some (.string nm) ∧ w'.cell? ⟨w.heap.size, 1, none⟩ = some (.int .i64 b) ∧ w'.cell? ⟨w.heap.size, 2, none⟩ = some (.slice a len cap) ∧ ZKS OK w w.heap.size nm b a len cap cs (w.heap.size + 1) wf wt w')
        (first
          | exact ⟨inv.zs.zw.c0, inv.zs.zw.c1, inv.zs.zw.c2, inv⟩)
        (first
          | (go_at_call 16; with_reducible refine (HA2.out _ inv.ok inv.zs.zw.zone).mono ?_; rintro e w2 ⟨rfl, hn⟩; replace inv := inv.step C.out hn; clear hn)
          | (go_at_call 17; with_reducible refine (HB2.out _ inv.zs.zw.zone).mono ?_; rintro e w2 ⟨rfl, hn⟩; replace inv := inv.step C.out hn; clear hn)
          | (go_at_call 18; with_reducible refine (HA3.out _ inv.ok inv.zs.zw.zone).mono ?_; rintro e w2 ⟨rfl, hn⟩; replace inv := inv.step C.out hn; clear hn)
          | (go_at_call 19; with_reducible refine (HB3.out _ inv.zs.zw.zone).mono ?_; rintro e w2 ⟨rfl, hn⟩; replace inv := inv.step C.out hn; clear hn))
      have k0 := inv.zs.zw.c0
      have k1 := inv.zs.zw.c1
      have k2 := inv.zs.zw.c2
      have k3 := inv.zs.s0
      have k4 := inv.zs.s1
      go_upto_region 12 with (first
        | (go_at_call 20; with_reducible refine (HA4.out _ inv.ok inv.zs.zw.zone).mono ?_; rintro e w2 ⟨a1, c1, rfl, hP1, hn⟩; replace inv := inv.step C.out hn; have k0 := inv.zs.zw.c0; have k1 := inv.zs.zw.c1; have k2 := inv.zs.zw.c2; have k3 := inv.zs.s0; have k4 := inv.zs.s1; clear hn)
        | (go_at_call 21; with_reducible refine (HB4.out _ inv.zs.zw.zone).mono ?_; rintro e w2 ⟨a2, c2, rfl, hP2, hn⟩; replace inv := inv.step C.out hn; replace hP1 := hP1.below hn; have k0 := inv.zs.zw.c0; have k1 := inv.zs.zw.c1; have k2 := inv.zs.zw.c2; have k3 := inv.zs.s0; have k4 := inv.zs.s1; clear hn)
        | (go_at_call 22; with_reducible refine (HA5.out _ inv.ok inv.zs.zw.zone).mono ?_; rintro e w2 ⟨rfl, hn⟩; replace inv := inv.step C.out hn; replace hP1 := hP1.below hn; replace hP2 := hP2.below hn; have k0 := inv.zs.zw.c0; have k1 := inv.zs.zw.c1; have k2 := inv.zs.zw.c2; have k3 := inv.zs.s0; have k4 := inv.zs.s1; clear hn)
        | (go_at_call 23; with_reducible refine (HB5.out _ inv.zs.zw.zone).mono ?_; rintro e w2 ⟨rfl, hn⟩; replace inv := inv.step C.out hn; replace hP1 := hP1.below hn; replace hP2 := hP2.below hn; have k0 := inv.zs.zw.c0; have k1 := inv.zs.zw.c1; have k2 := inv.zs.zw.c2; have k3 := inv.zs.s0; have k4 := inv.zs.s1; clear hn)
        | (go_at_call 24; with_reducible refine (HSame.out _ _ _ _ _ hP1 hP2).mono ?_; rintro e w2 ⟨rfl, hn⟩; replace inv := inv.step C.out hn; clear hP1 hP2; have k0 := inv.zs.zw.c0; have k1 := inv.zs.zw.c1; have k2 := inv.zs.zw.c2; have k3 := inv.zs.s0; have k4 := inv.zs.s1; clear hn))
      replace inv := inv.step C.out (Below.refl _ _).drew
      clear k0 k1 k2 k3 k4
      go_region_held3 (fun w' => w'.cell? ⟨w.heap.size, 0, none⟩ = some (.string nm) ∧ w'.cell? ⟨w.heap.size, 1, none⟩ = some (.int .i64 b) ∧ w'.cell? ⟨w.heap.size, 2, none⟩ = some (.slice a len cap) ∧ ZKS OK w w.heap.size nm b a len cap cs (w.heap.size + 1) wf wt w')
        (first
          | exact ⟨inv.zs.zw.c0, inv.zs.zw.c1, inv.zs.zw.c2, inv⟩)
        (first
          | (go_at_call 26; with_reducible refine (HA6.out _ inv.ok inv.zs.zw.zone).mono ?_; rintro e w2 ⟨a1, c1, rfl, hI1, hn⟩; replace inv := inv.step C.out hn; skip; clear hn)
          | (go_at_call 27; with_reducible refine (HB6.out _ inv.zs.zw.zone).mono ?_; rintro e w2 ⟨a2, c2, rfl, hI2, hn⟩; replace inv := inv.step C.out hn; replace hI1 := hI1.below hn; clear hn)
          | (go_at_call 25; with_reducible refine (HInts.out _ _ _ _ _ hI1 hI2).mono ?_; rintro e w2 ⟨rfl, hn⟩; replace inv := inv.step C.out hn; clear hI1 hI2; clear hn)
          | (go_at_call 28; with_reducible refine (HA7.out _ inv.ok inv.zs.zw.zone).mono ?_; rintro e w2 ⟨rfl, hn⟩; replace inv := inv.step C.out hn; skip; clear hn)
          | (go_at_call 29; with_reducible refine (HB7.out _ inv.zs.zw.zone).mono ?_; rintro e w2 ⟨rfl, hn⟩; replace inv := inv.step C.out hn; skip; clear hn))
      go_wp2
      go_ret
      exact ⟨rfl, inv.zs.zw.below⟩
  · have HSM := Lib.hid (fun w => small_no nm b a cs.length cap hs hl w)
    have C := Lib.hid H
    clear H hb hm hl hs hf ht hwf hwt hu hd hmm HSH
    generalize cs.length = len at *
    have k0 := inv.zs.zw.c0
    have k1 := inv.zs.zw.c1
    have k2 := inv.zs.zw.c2
    have k3 := inv.zs.s0
    have k4 := inv.zs.s1
    go_enter Try.func3, Try.ntmps3
    go_wp2_with (first
      | (go_at_call 11; with_reducible refine (head_any C.out _ inv.ok).mono ?_; rintro e w2 ⟨rfl, hn⟩; replace inv := inv.step C.out hn; have k0 := inv.zs.zw.c0; have k1 := inv.zs.zw.c1; have k2 := inv.zs.zw.c2; have k3 := inv.zs.s0; have k4 := inv.zs.s1; clear hn)
      | (go_at_call 12; with_reducible refine (HSM.out _).mono ?_; rintro e w2 ⟨rfl, hn⟩; replace inv := inv.step C.out hn; have k0 := inv.zs.zw.c0; have k1 := inv.zs.zw.c1; have k2 := inv.zs.zw.c2; have k3 := inv.zs.s0; have k4 := inv.zs.s1; clear hn))
    go_ret
    exact ⟨rfl, inv.zs.zw.below⟩
end Go.Proofs.Ytjmnohbgfkohpaa.Zn
