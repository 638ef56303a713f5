/- What the reference implementation's Local, Length and Window return, as the chapter's mathematics has it; and small. Condition: the zone's changes lie in memory as the argument says. -/
import Derived.Test.YtjmnohbgfkohpaaZoneRef3
namespace Go.Proofs.Ytjmnohbgfkohpaa.Zn
open Go.RowKit
theorem flip_same {P : Program} {f : FuncId} {args : Array Value} {w : World} {v : Value} (h : Calls P f args w fun e w' => e = .returned v ∧ w' = w) : Calls P f args w fun e w' => e = .returned v ∧ w = w' :=
  h.mono fun _ _ ⟨a, b⟩ => ⟨a, b.symm⟩
theorem small_any (nm : ByteArray) (b : Int) (a : Option Addr) (len cap : Nat) (w : World) (hl : len ≤ 9223372036854775807) :
    Calls Try.prog 12 #[zv nm b a len cap] w fun e w' => e = .returned (.bool (decide (len ≤ 70))) ∧ Below w.heap.size w w' := by
  go_enter Try.func12, Try.ntmps12
  go_wp2
  go_ret
  exact ⟨ret_bool (by rw [Bool.eq_iff_iff]; simp only [decide_eq_true_eq]; omega), (Below.refl _ _).alloc (Nat.le_refl _) _⟩
theorem rlocal2 (nm : ByteArray) (b : Int) (a : Option Addr) (cap : Nat) (cs : List (Int × Int)) (t : Int) (w : World) (v : Valid b cs) (z : ZoneAt a cs w) (t0 : -840 ≤ t + 840) (t1 : t ≤ 60000000) (h0 : -1440 ≤ loc b cs t) :
    Calls Try.prog 37 #[zv nm b a cs.length cap, .int .i64 t] w fun e w' => e = .returned (.tuple #[.int .i64 (loc b cs t / 1440), .int .i64 (loc b cs t % 1440)]) ∧ Below w.heap.size w w' := by
  have h := rlocal_any nm b a cap cs t w (by have := v.1; omega) z (bd v t) (by omega) t1
  by_cases hn : loc b cs t < 0
  · rw [if_pos hn, if_pos hn] at h
    rwa [show loc b cs t / 1440 = -1 by omega, show loc b cs t % 1440 = loc b cs t + 1440 by omega]
  · rw [if_neg hn, if_neg hn] at h
    exact h
/-- The local time of an instant, or the error. -/
def LocRes (b : Int) (cs : List (Int × Int)) (t d m e : Int) : Prop :=
  (¬ (Valid b cs ∧ 0 ≤ t ∧ t ≤ 52595999) ∧ d = 0 ∧ m = 0 ∧ e = 1) ∨
  (Valid b cs ∧ 0 ≤ t ∧ t ≤ 52595999 ∧ ¬ (0 ≤ loc b cs t / 1440 ∧ loc b cs t / 1440 ≤ 36524) ∧ d = 0 ∧ m = 0 ∧ e = 21) ∨
  (Valid b cs ∧ 0 ≤ t ∧ t ≤ 52595999 ∧ 0 ≤ loc b cs t / 1440 ∧ loc b cs t / 1440 ≤ 36524 ∧ d = loc b cs t / 1440 ∧ m = loc b cs t % 1440 ∧ e = 0)
set_option maxHeartbeats 1000000 in
theorem rLocal_ex (nm : ByteArray) (b : Int) (a : Option Addr) (cap : Nat) (cs : List (Int × Int)) (t : Int) (hl : cs.length ≤ 9223372036854775807) : ∃ d m e : Int, LocRes b cs t d m e ∧
    ∀ w, ZoneAt a cs w → Calls Try.prog 15 #[zv nm b a cs.length cap, .int .i64 t] w fun r w' => r = .returned (.tuple #[.int .i64 d, .int .i64 m, .int .i64 e]) ∧ Below w.heap.size w w' := by
  have hV := fun w (z : ZoneAt a cs w) => rvalid_any nm b a cap cs w hl z
  by_cases v : Valid b cs
  · rw [decide_eq_true v] at hV
    have HV := Lib.hid hV
    by_cases ht : 0 ≤ t ∧ t ≤ 52595999
    · obtain ⟨t0, t1⟩ := ht
      have hbd := bd v t
      have hL := fun w (z : ZoneAt a cs w) => rlocal2 nm b a cap cs t w v z (by omega) (by omega) (by unfold loc; omega)
      have HL := Lib.hid hL
      have HI := Lib.hid (fun w => flip_same (rinst_yes t w t0 t1))
      by_cases hd : 0 ≤ loc b cs t / 1440 ∧ loc b cs t / 1440 ≤ 36524
      · refine ⟨_, _, _, Or.inr (Or.inr ⟨v, t0, t1, hd.1, hd.2, rfl, rfl, rfl⟩), fun w z => ?_⟩
        have inv := ZW.start w nm b a cs.length cap cs z
        have HD := Lib.hid (fun w => flip_same (rday_yes _ w hd.1 hd.2))
        clear hV hL z v hd hbd
        generalize loc b cs t / 1440 = dd at *
        generalize loc b cs t % 1440 = mm at *
        generalize cs.length = len at *
        have k0 := inv.c0
        have k1 := inv.c1
        have k2 := inv.c2
        go_enter Try.func15, Try.ntmps15
        go_wp2_with (first
          | (go_at_call 17; with_reducible refine (HV.out _ inv.zone).mono ?_; rintro e w1 ⟨rfl, hn⟩; replace inv := inv.step hn; have k0 := inv.c0; have k1 := inv.c1; have k2 := inv.c2; clear hn)
          | (go_at_call 37; with_reducible refine (HL.out _ inv.zone).mono ?_; rintro e w1 ⟨rfl, hn⟩; replace inv := inv.step hn; clear hn)
          | (go_at_call 36; with_reducible refine (HI.out _).mono ?_; rintro e w' ⟨rfl, rfl⟩)
          | (go_at_call 38; with_reducible refine (HD.out _).mono ?_; rintro e w' ⟨rfl, rfl⟩))
        go_ret3
        exact ⟨rfl, inv.below⟩
      · refine ⟨_, _, _, Or.inr (Or.inl ⟨v, t0, t1, hd, rfl, rfl, rfl⟩), fun w z => ?_⟩
        have inv := ZW.start w nm b a cs.length cap cs z
        have HD := Lib.hid (fun w => flip_same (rday_no (loc b cs t / 1440) w (by omega)))
        clear hV hL z v hd hbd
        generalize loc b cs t / 1440 = dd at *
        generalize loc b cs t % 1440 = mm at *
        generalize cs.length = len at *
        have k0 := inv.c0
        have k1 := inv.c1
        have k2 := inv.c2
        go_enter Try.func15, Try.ntmps15
        go_wp2_with (first
          | (go_at_call 17; with_reducible refine (HV.out _ inv.zone).mono ?_; rintro e w1 ⟨rfl, hn⟩; replace inv := inv.step hn; have k0 := inv.c0; have k1 := inv.c1; have k2 := inv.c2; clear hn)
          | (go_at_call 37; with_reducible refine (HL.out _ inv.zone).mono ?_; rintro e w1 ⟨rfl, hn⟩; replace inv := inv.step hn; clear hn)
          | (go_at_call 36; with_reducible refine (HI.out _).mono ?_; rintro e w' ⟨rfl, rfl⟩)
          | (go_at_call 38; with_reducible refine (HD.out _).mono ?_; rintro e w' ⟨rfl, rfl⟩))
        go_ret3
        exact ⟨rfl, inv.below⟩
    · refine ⟨_, _, _, Or.inl ⟨fun h => ht h.2, rfl, rfl, rfl⟩, fun w z => ?_⟩
      have inv := ZW.start w nm b a cs.length cap cs z
      have HI := Lib.hid (fun w => flip_same (rinst_no t w (by omega)))
      clear hV z v ht
      generalize cs.length = len at *
      have k0 := inv.c0
      have k1 := inv.c1
      have k2 := inv.c2
      go_enter Try.func15, Try.ntmps15
      go_wp2_with (first
        | (go_at_call 17; with_reducible refine (HV.out _ inv.zone).mono ?_; rintro e w1 ⟨rfl, hn⟩; replace inv := inv.step hn; have k0 := inv.c0; have k1 := inv.c1; have k2 := inv.c2; clear hn)
        | (go_at_call 36; with_reducible refine (HI.out _).mono ?_; rintro e w' ⟨rfl, rfl⟩))
      go_ret3
      exact ⟨rfl, inv.below⟩
  · rw [decide_eq_false v] at hV
    have HV := Lib.hid hV
    refine ⟨_, _, _, Or.inl ⟨fun h => v h.1, rfl, rfl, rfl⟩, fun w z => ?_⟩
    have inv := ZW.start w nm b a cs.length cap cs z
    clear hV z v
    generalize cs.length = len at *
    have k0 := inv.c0
    have k1 := inv.c1
    have k2 := inv.c2
    go_enter Try.func15, Try.ntmps15
    go_wp2_with (first
      | (go_at_call 17; with_reducible refine (HV.out _ inv.zone).mono ?_; rintro e w1 ⟨rfl, hn⟩; replace inv := inv.step hn; have k0 := inv.c0; have k1 := inv.c1; have k2 := inv.c2; clear hn))
    go_ret3
    exact ⟨rfl, inv.below⟩
/-- The reference's local time of any minute near the days: its day, where that is one. -/
theorem rlocal_ex (nm : ByteArray) (b : Int) (a : Option Addr) (cap : Nat) (cs : List (Int × Int)) (t : Int) (v : Valid b cs) (t0 : -10000 ≤ t) (t1 : t ≤ 60000000) : ∃ dd mm : Int, (∀ d, 0 ≤ d → (dd = d ↔ 1440 * d ≤ loc b cs t ∧ loc b cs t < 1440 * d + 1440)) ∧ (-1440 ≤ loc b cs t → dd = loc b cs t / 1440 ∧ mm = loc b cs t % 1440) ∧
    ∀ w, ZoneAt a cs w → Calls Try.prog 37 #[zv nm b a cs.length cap, .int .i64 t] w fun e w' => e = .returned (.tuple #[.int .i64 dd, .int .i64 mm]) ∧ Below w.heap.size w w' := by
  refine ⟨_, _, fun d hd => ?_, fun h => ?_, fun w z => rlocal_any nm b a cap cs t w (by have := v.1; omega) z (bd v t) t0 t1⟩
  · split <;> omega
  · split <;> omega
/-- Length counts the minutes of a day, one by one. -/
theorem dlen_count (b : Int) (cs : List (Int × Int)) (d : Int) : ∃ C : Nat → Int, C 0 = 0 ∧ C 3120 = dlen b cs d ∧ (∀ k, 0 ≤ C k ∧ C k ≤ k) ∧
    ∀ (k : Nat) (t : Int), t = 1440 * d - 840 + k → C (k + 1) = C k + if (0 ≤ t ∧ t ≤ 52595999) ∧ 1440 * d ≤ loc b cs t ∧ loc b cs t < 1440 * d + 1440 then 1 else 0 := by
  refine ⟨fun k => (cnt (1440 * d - 840) (fun t => inst t && decide (1440 * d ≤ loc b cs t ∧ loc b cs t < 1440 * d + 1440)) k : Int), rfl, rfl, fun k => ⟨Int.natCast_nonneg _, by have := cnt_le (1440 * d - 840) (fun t => inst t && decide (1440 * d ≤ loc b cs t ∧ loc b cs t < 1440 * d + 1440)) k; exact Int.ofNat_le.2 this⟩, fun k t h => ?_⟩
  subst h
  show ((cnt _ _ k + if _ then 1 else 0 : Nat) : Int) = (cnt _ _ k : Int) + _
  by_cases c : (0 ≤ 1440 * d - 840 + (k : Int) ∧ 1440 * d - 840 + (k : Int) ≤ 52595999) ∧ 1440 * d ≤ loc b cs (1440 * d - 840 + k) ∧ loc b cs (1440 * d - 840 + k) < 1440 * d + 1440
  · rw [if_pos c, if_pos (by simp only [inst, Bool.and_eq_true, decide_eq_true_eq]; exact c)]
    omega
  · rw [if_neg c, if_neg (fun hh => c (by simpa only [inst, Bool.and_eq_true, decide_eq_true_eq] using hh))]
    omega
set_option maxHeartbeats 2000000 in
theorem rlength_in (nm : ByteArray) (b : Int) (a : Option Addr) (cap : Nat) (cs : List (Int × Int)) (d : Int) (w : World) (v : Valid b cs) (z : ZoneAt a cs w) (d0 : 0 ≤ d) (d1 : d ≤ 36524) :
    Calls Try.prog 29 #[zv nm b a cs.length cap, .int .i64 d] w fun r w' => r = .returned (.int .i64 (dlen b cs d)) ∧ Below w.heap.size w w' := by
  have hV := fun w (z : ZoneAt a cs w) => rvalid_any nm b a cap cs w (by have := v.1; omega) z
  rw [decide_eq_true v] at hV
  have HV := Lib.hid hV
  have HD := Lib.hid (fun w => flip_same (rday_yes d w d0 d1))
  have HLL := Lib.hid (fun t t0 t1 => rlocal_ex nm b a cap cs t v t0 t1)
  obtain ⟨C, hC0, hCe, hCb, hCs⟩ := dlen_count b cs d
  have HCB := Lib.hid hCb
  have HCS := Lib.hid hCs
  have HE := Lib.hid hCe
  have inv := ZW.start w nm b a cs.length cap cs z
  clear hV hCb hCs hCe v z
  generalize cs.length = len at *
  have k0 := inv.c0
  have k1 := inv.c1
  have k2 := inv.c2
  go_enter Try.func29, Try.ntmps29
  go_wp2_with (first
    | (go_at_call 17; with_reducible refine (HV.out _ inv.zone).mono ?_; rintro e w1 ⟨rfl, hn⟩; replace inv := inv.step hn; have k0 := inv.c0; have k1 := inv.c1; have k2 := inv.c2; clear hn)
    | (go_at_call 38; with_reducible refine (HD.out _).mono ?_; rintro e w' ⟨rfl, rfl⟩))
  go_loopg [5, 6] 3120 (fun g s5 s6 wx => ∃ (k : Nat) (t : Int), k + g = 3120 ∧ Hid (t = 1440 * d - 840 + k) ∧ s5 = .int .i64 (C k) ∧ s6 = .int .i64 t ∧ ZW w w.heap.size nm b a len cap cs wx)
  case atStart => exact ⟨0, _, by omega, show d * 1440 - 840 = _ by omega, by rw [hC0], rfl, inv⟩
  case round =>
    clear inv k0 k1 k2
    obtain ⟨k, t, hk, HT, rfl, rfl, inv⟩ := hrel
    have k0 := inv.c0
    have k1 := inv.c1
    have k2 := inv.c2
    have hcb := HCB.out k
    cases gk with
    | zero =>
      obtain rfl : k = 3120 := by omega
      have hlt : ¬ t < d * 1440 + 1440 + 840 := by have := HT.out; omega
      go_wp2
      go_ret
      exact ⟨ret_int HE.out, inv.below⟩
    | succ g =>
      have hlt : t < d * 1440 + 1440 + 840 := by have := HT.out; omega
      have t0 : -10000 ≤ t := by have := HT.out; omega
      have t1 : t ≤ 60000000 := by have := HT.out; omega
      obtain ⟨dd, mm, hdd, -, hl⟩ := HLL.out t t0 t1
      have HL := Lib.hid hl
      have hs := HCS.out k t HT.out
      have hd' := hdd d d0
      clear hl hdd
      by_cases hin : 0 ≤ t ∧ t ≤ 52595999
      · have HI := Lib.hid (fun w => flip_same (rinst_yes t w hin.1 hin.2))
        by_cases hdq : dd = d
        · rw [if_pos ⟨hin, hd'.1 hdq⟩] at hs
          have HS := Lib.hid hs
          have tq : (dd == d) = true := by simpa using hdq
          clear hs hd' hdq
          go_wp2_with (first
            | (go_at_call 37; with_reducible refine (HL.out _ inv.zone).mono ?_; rintro e w1 ⟨rfl, hn⟩; replace inv := inv.step hn; clear hn)
            | (go_at_call 36; with_reducible refine (HI.out _).mono ?_; rintro e w' ⟨rfl, rfl⟩))
          go_roundg g
          case measure => omega
          case rel => exact ⟨k + 1, t + 1, by omega, show t + 1 = 1440 * d - 840 + ((k + 1 : Nat) : Int) by have := HT.out; omega, by rw [HS.out], rfl, inv⟩
        · rw [if_neg (fun h => hdq (hd'.2 h.2))] at hs
          have HS := Lib.hid hs
          have tq : (dd == d) = false := by simpa using hdq
          clear hs hd' hdq
          go_wp2_with (first
            | (go_at_call 37; with_reducible refine (HL.out _ inv.zone).mono ?_; rintro e w1 ⟨rfl, hn⟩; replace inv := inv.step hn; clear hn)
            | (go_at_call 36; with_reducible refine (HI.out _).mono ?_; rintro e w' ⟨rfl, rfl⟩))
          go_roundg g
          case measure => omega
          case rel => exact ⟨k + 1, t + 1, by omega, show t + 1 = 1440 * d - 840 + ((k + 1 : Nat) : Int) by have := HT.out; omega, by rw [HS.out, Int.add_zero], rfl, inv⟩
      · rw [if_neg (fun h => hin h.1)] at hs
        have HS := Lib.hid hs
        have HI := Lib.hid (fun w => flip_same (rinst_no t w (by omega)))
        clear hs hd' hin
        go_wp2_with (first
          | (go_at_call 37; with_reducible refine (HL.out _ inv.zone).mono ?_; rintro e w1 ⟨rfl, hn⟩; replace inv := inv.step hn; clear hn)
          | (go_at_call 36; with_reducible refine (HI.out _).mono ?_; rintro e w' ⟨rfl, rfl⟩))
        go_roundg g
        case measure => omega
        case rel => exact ⟨k + 1, t + 1, by omega, show t + 1 = 1440 * d - 840 + ((k + 1 : Nat) : Int) by have := HT.out; omega, by rw [HS.out, Int.add_zero], rfl, inv⟩
end Go.Proofs.Ytjmnohbgfkohpaa.Zn
