/- What package zone's Offset and Local return. Condition: the zone's changes lie in memory as the argument says. -/
import Derived.Test.YtjmnohbgfkohpaaZoneOwn
namespace Go.Proofs.Ytjmnohbgfkohpaa.Zn
open Go.RowKit
theorem zinst_is {n : Int} (b : Bool) (h : decide (0 ≤ n ∧ n ≤ 52595999) = b) (w : World) : Calls Try.prog 32 #[.int .i64 n] w fun r w' => r = .returned (.bool b) ∧ w = w' := h ▸ zinst_any n w
theorem zday_is {n : Int} (b : Bool) (h : decide (0 ≤ n ∧ n ≤ 36524) = b) (w : World) : Calls Try.prog 35 #[.int .i64 n] w fun r w' => r = .returned (.bool b) ∧ w = w' := h ▸ zday_any n w
theorem zminute_is {n : Int} (b : Bool) (h : decide (0 ≤ n ∧ n ≤ 1439) = b) (w : World) : Calls Try.prog 53 #[.int .i64 n] w fun r w' => r = .returned (.bool b) ∧ w = w' := h ▸ zminute_any n w
theorem zstretch_is {f t : Int} (b : Bool) (h : decide (Str f t) = b) (w : World) : Calls Try.prog 43 #[.int .i64 f, .int .i64 t] w fun r w' => r = .returned (.bool b) ∧ w = w' := h ▸ zstretch_any f t w
theorem zOffset_any (nm : ByteArray) (b : Int) (a : Option Addr) (cap : Nat) (cs : List (Int × Int)) (t : Int) (w : World) (hl : cs.length ≤ 9223372036854775807) (z : ZoneAt a cs w) :
    Calls Try.prog 18 #[zv nm b a cs.length cap, .int .i64 t] w fun r w' => r = .returned (.int .i64 (offR b cs t)) ∧ Below w.heap.size w w' := by
  have hV := fun w (z : ZoneAt a cs w) => zvalid_any nm b a cap cs w hl z
  unfold offR
  by_cases v : Valid b cs
  · rw [decide_eq_true v] at hV
    rw [if_pos v]
    have HO := Lib.hid (fun w (z : ZoneAt a cs w) => zoffset_any nm b a cap cs t w (by have := v.1; omega) z)
    have HV := Lib.hid hV
    have inv := ZW.start w nm b a cs.length cap cs z
    clear hV z v
    generalize offFrom b cs t = o at *
    generalize cs.length = len at *
    have k0 := inv.c0
    have k1 := inv.c1
    have k2 := inv.c2
    go_enter Try.func18, Try.ntmps18
    go_wp2_with (first
      | (go_at_call 16; with_reducible refine (HV.out _ inv.zone).mono ?_; rintro e w1 ⟨rfl, hn⟩; replace inv := inv.step hn; have k0 := inv.c0; have k1 := inv.c1; have k2 := inv.c2; clear hn)
      | (go_at_call 34; with_reducible refine (HO.out _ inv.zone).mono ?_; rintro e w1 ⟨rfl, hn⟩; replace inv := inv.step hn; clear hn))
    go_ret
    exact ⟨rfl, inv.below⟩
  · rw [decide_eq_false v] at hV
    rw [if_neg v]
    have HV := Lib.hid hV
    have inv := ZW.start w nm b a cs.length cap cs z
    clear hV z v
    generalize cs.length = len at *
    have k0 := inv.c0
    have k1 := inv.c1
    have k2 := inv.c2
    go_enter Try.func18, Try.ntmps18
    go_wp2_with (first
      | (go_at_call 16; with_reducible refine (HV.out _ inv.zone).mono ?_; rintro e w1 ⟨rfl, hn⟩; replace inv := inv.step hn; clear hn))
    go_ret
    exact ⟨rfl, inv.below⟩
set_option maxHeartbeats 1000000 in
theorem zLocal_ex (nm : ByteArray) (b : Int) (a : Option Addr) (cap : Nat) (cs : List (Int × Int)) (t : Int) (hl : cs.length ≤ 9223372036854775807) : ∃ d m e : Int, LocRes b cs t d m e ∧
    ∀ w, ZoneAt a cs w → Calls Try.prog 14 #[zv nm b a cs.length cap, .int .i64 t] w fun r w' => r = .returned (.tuple #[.int .i64 d, .int .i64 m, .int .i64 e]) ∧ Below w.heap.size w w' := by
  have hV := fun w (z : ZoneAt a cs w) => zvalid_any nm b a cap cs w hl z
  by_cases v : Valid b cs
  · rw [decide_eq_true v] at hV
    have HV := Lib.hid hV
    by_cases ht : 0 ≤ t ∧ t ≤ 52595999
    · have HI := Lib.hid (fun w => zinst_is (n := t) true (decide_eq_true ht) w)
      have HO := Lib.hid (fun w (z : ZoneAt a cs w) => zoffset_any nm b a cap cs t w (by have := v.1; omega) z)
      have ho := bd v t
      have hL : loc b cs t = t + offFrom b cs t := rfl
      by_cases hd : 0 ≤ loc b cs t / 1440 ∧ loc b cs t / 1440 ≤ 36524
      · refine ⟨_, _, _, .inr (.inr ⟨v, ht.1, ht.2, hd.1, hd.2, rfl, rfl, rfl⟩), fun w z => ?_⟩
        rw [hL]
        rw [hL] at hd
        have inv := ZW.start w nm b a cs.length cap cs z
        generalize offFrom b cs t = o at *
        generalize cs.length = len at *
        clear hL hV z v
        have k0 := inv.c0
        have k1 := inv.c1
        have k2 := inv.c2
        have HC := Lib.hid (fun w => zclock_any (t + o) (by omega) (by omega) w)
        have HD := Lib.hid (fun w => zday_is (n := (t + o) / 1440) true (decide_eq_true hd) w)
        have hw := IntWalk.i64_in (t + o) (by omega)
        clear hd ho
        go_enter Try.func14, Try.ntmps14
        go_wp2_with (first
          | (go_at_call 16; with_reducible refine (HV.out _ inv.zone).mono ?_; rintro e w1 ⟨rfl, hn⟩; replace inv := inv.step hn; have k0 := inv.c0; have k1 := inv.c1; have k2 := inv.c2; clear hn)
          | (go_at_call 32; with_reducible refine (HI.out _).mono ?_; rintro e w' ⟨rfl, rfl⟩)
          | (go_at_call 34; with_reducible refine (HO.out _ inv.zone).mono ?_; rintro e w1 ⟨rfl, hn⟩; replace inv := inv.step hn; clear hn)
          | (go_at_call 33; with_reducible refine (HC.out _).mono ?_; rintro e w1 ⟨rfl, hn⟩; replace inv := inv.step hn; clear hn)
          | (go_at_call 35; with_reducible refine (HD.out _).mono ?_; rintro e w' ⟨rfl, rfl⟩))
        go_quiet (fail)
        go_wp2
        go_ret3
        exact ⟨rfl, inv.below.trans ((below_drewN ((Below.refl _ _).alloc (Nat.le_refl _) _) _).mono inv.below.size)⟩
      · refine ⟨0, 0, 21, .inr (.inl ⟨v, ht.1, ht.2, hd, rfl, rfl, rfl⟩), fun w z => ?_⟩
        rw [hL] at hd
        have inv := ZW.start w nm b a cs.length cap cs z
        generalize offFrom b cs t = o at *
        generalize cs.length = len at *
        clear hL hV z v
        have k0 := inv.c0
        have k1 := inv.c1
        have k2 := inv.c2
        have HC := Lib.hid (fun w => zclock_any (t + o) (by omega) (by omega) w)
        have HD := Lib.hid (fun w => zday_is (n := (t + o) / 1440) false (decide_eq_false hd) w)
        have hw := IntWalk.i64_in (t + o) (by omega)
        clear hd ho
        go_enter Try.func14, Try.ntmps14
        go_wp2_with (first
          | (go_at_call 16; with_reducible refine (HV.out _ inv.zone).mono ?_; rintro e w1 ⟨rfl, hn⟩; replace inv := inv.step hn; have k0 := inv.c0; have k1 := inv.c1; have k2 := inv.c2; clear hn)
          | (go_at_call 32; with_reducible refine (HI.out _).mono ?_; rintro e w' ⟨rfl, rfl⟩)
          | (go_at_call 34; with_reducible refine (HO.out _ inv.zone).mono ?_; rintro e w1 ⟨rfl, hn⟩; replace inv := inv.step hn; clear hn)
          | (go_at_call 33; with_reducible refine (HC.out _).mono ?_; rintro e w1 ⟨rfl, hn⟩; replace inv := inv.step hn; clear hn)
          | (go_at_call 35; with_reducible refine (HD.out _).mono ?_; rintro e w' ⟨rfl, rfl⟩))
        go_ret3
        exact ⟨rfl, inv.below.trans (((Below.refl _ _).alloc (Nat.le_refl _) _).mono inv.below.size)⟩
    · have HI := Lib.hid (fun w => zinst_is (n := t) false (decide_eq_false ht) w)
      refine ⟨0, 0, 1, .inl ⟨fun h => ht h.2, rfl, rfl, rfl⟩, fun w z => ?_⟩
      have inv := ZW.start w nm b a cs.length cap cs z
      generalize cs.length = len at *
      clear hV z v ht
      have k0 := inv.c0
      have k1 := inv.c1
      have k2 := inv.c2
      go_enter Try.func14, Try.ntmps14
      go_wp2_with (first
        | (go_at_call 16; with_reducible refine (HV.out _ inv.zone).mono ?_; rintro e w1 ⟨rfl, hn⟩; replace inv := inv.step hn; have k0 := inv.c0; have k1 := inv.c1; have k2 := inv.c2; clear hn)
        | (go_at_call 32; with_reducible refine (HI.out _).mono ?_; rintro e w' ⟨rfl, rfl⟩))
      go_ret3
      exact ⟨rfl, inv.below⟩
  · rw [decide_eq_false v] at hV
    have HV := Lib.hid hV
    refine ⟨0, 0, 1, .inl ⟨fun h => v h.1, rfl, rfl, rfl⟩, fun w z => ?_⟩
    have inv := ZW.start w nm b a cs.length cap cs z
    generalize cs.length = len at *
    clear hV z v
    have k0 := inv.c0
    have k1 := inv.c1
    have k2 := inv.c2
    go_enter Try.func14, Try.ntmps14
    go_wp2_with (first
      | (go_at_call 16; with_reducible refine (HV.out _ inv.zone).mono ?_; rintro e w1 ⟨rfl, hn⟩; replace inv := inv.step hn; clear hn))
    go_ret3
    exact ⟨rfl, inv.below⟩
theorem zLocal_any (nm : ByteArray) (b : Int) (a : Option Addr) (cap : Nat) (cs : List (Int × Int)) (t : Int) (w : World) (hl : cs.length ≤ 9223372036854775807) (z : ZoneAt a cs w) :
    Calls Try.prog 14 #[zv nm b a cs.length cap, .int .i64 t] w fun r w' => r = .returned (.tuple #[.int .i64 (locD b cs t), .int .i64 (locM b cs t), .int .i64 (locE b cs t)]) ∧ Below w.heap.size w w' := by
  obtain ⟨d, m, e, hr, hc⟩ := zLocal_ex nm b a cap cs t hl
  obtain ⟨rfl, rfl, rfl⟩ := hr.fn
  exact hc w z
end Go.Proofs.Ytjmnohbgfkohpaa.Zn
