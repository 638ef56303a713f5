/- The law ZoneLengths returns true. Conditions: package zone's contracts; the zone's changes lie in memory as the argument says. -/
import Derived.Test.YtjmnohbgfkohpaaZoneRunning
namespace Go.Proofs.Ytjmnohbgfkohpaa.Zn
open Go.RowKit
theorem lens_count {b : Int} {cs : List (Int × Int)} (v : Valid b cs) (d : Int) : ∃ (S : Nat → Nat) (L : Nat → Nat), S 0 = 0 ∧ S 1440 = dlen b cs d ∧ (∀ k, L k = (insts b cs d k).length) ∧ (∀ k, S (k + 1) = S k + L k ∧ L k ≤ 2) ∧ ∀ k, S k ≤ 2 * k := by
  have h2 : ∀ k : Nat, sumTo (fun i => (insts b cs d i).length) (k + 1) = sumTo (fun i => (insts b cs d i).length) k + (insts b cs d k).length := fun k => rfl
  refine ⟨sumTo (fun i => (insts b cs d i).length), fun k => (insts b cs d k).length, rfl, dlen_sum v d, fun k => rfl, fun k => ⟨h2 k, insts_two v d k⟩, fun k => ?_⟩
  induction k with
  | zero => exact Nat.le_refl _
  | succ k ih => rw [h2 k]; have := insts_two v d k; omega
set_option maxHeartbeats 2000000 in
theorem lengths_walk {OK : World → Prop} (H : ZC OK) (nm : ByteArray) (b : Int) (a : Option Addr) (cap : Nat) (cs : List (Int × Int)) (d : Int) (w : World) (hb : Rng b) (hm : ∀ x ∈ cs, Rng x.1 ∧ Rng x.2) (hl : cs.length ≤ 9223372036854775807) (hd : Rng d) (ok : OK w) (z : ZoneAt a cs w) :
    Calls Try.prog 6 #[zv nm b a cs.length cap, .int .i64 d] w fun r w' => r = .returned (.bool true) ∧ Below w.heap.size w w' := by
  have inv := ZK.start H w nm b a cs.length cap cs ok z
  have hV := fun w (z : ZoneAt a cs w) => rvalid_any nm b a cap cs w hl z
  clear z ok
  by_cases hs : cs.length ≤ 70
  · have zr : ZR b cs := ⟨hs, hb, hm⟩
    have HSM := Lib.hid (fun w => small_yes nm b a cs.length cap hs w)
    by_cases v : Valid b cs
    · rw [decide_eq_true v] at hV
      have HV := Lib.hid hV
      by_cases hin : 2 ≤ d ∧ d ≤ 36522
      · obtain ⟨d0, d1⟩ := hin
        obtain ⟨S, L, hS0, hS1, hL, hSL, hSb⟩ := lens_count v d
        have hI : ∀ k : Nat, k < 1440 → ∀ w, OK w → ZoneAt a cs w → Calls Try.prog 26 #[zv nm b a cs.length cap, .int .i64 d, .int .i64 k] w fun r w' => ∃ a' c', r = .returned (.slice a' (L k) c') ∧ Below w.heap.size w w' := fun k hk w ok z => by
          have h := H.insts nm b a cap cs d k zr hd (rng_small (by omega) (by omega)) w ok z
          rw [show insR b cs d k = insts b cs d k from if_pos ⟨v, ⟨by omega, by omega⟩, by omega, by omega⟩, ← hL k] at h
          exact h.mono (fun r w' ⟨a', c', h1, _, h3⟩ => ⟨a', c', h1, h3⟩)
        have hN := H.len nm b a cap cs d zr hd
        rw [show lenR b cs d = dlen b cs d from if_pos ⟨v, by omega, by omega⟩, ← hS1] at hN
        obtain ⟨n0, n1⟩ := dlen_bd v d d0 d1
        rw [← hS1] at n0 n1
        have HI := Lib.hid hI
        have HN := Lib.hid hN
        have HSL := Lib.hid hSL
        have HSB := Lib.hid hSb
        have C := Lib.hid H
        clear H hb hm hl hs zr hV v hI hN hL hSL hSb hd hS1
        generalize cs.length = len at *
        have k0 := inv.zw.c0
        have k1 := inv.zw.c1
        have k2 := inv.zw.c2
        go_enter Try.func6, Try.ntmps6
        go_wp2_with (first
          | (go_at_call 11; with_reducible refine (head_any C.out _ inv.ok).mono ?_; rintro e w2 ⟨rfl, hn⟩; replace inv := inv.step C.out hn; have k0 := inv.zw.c0; have k1 := inv.zw.c1; have k2 := inv.zw.c2; clear hn)
          | (go_at_call 12; with_reducible refine (HSM.out _).mono ?_; rintro e w2 ⟨rfl, hn⟩; replace inv := inv.step C.out hn; have k0 := inv.zw.c0; have k1 := inv.zw.c1; have k2 := inv.zw.c2; clear hn)
          | (go_at_call 17; with_reducible refine (HV.out _ inv.zw.zone).mono ?_; rintro e w2 ⟨rfl, hn⟩; replace inv := inv.step C.out hn; have k0 := inv.zw.c0; have k1 := inv.zw.c1; have k2 := inv.zw.c2; clear hn))
        go_loopg [6, 7] 1440 (fun g s6 s7 wx => ∃ k : Nat, k + g = 1440 ∧ s6 = .int .i64 (S k) ∧ s7 = .int .i64 k ∧ ZK OK w w.heap.size nm b a len cap cs wx)
        case atStart => exact ⟨0, by omega, by rw [hS0]; rfl, rfl, inv⟩
        case round =>
          clear inv k0 k1 k2
          obtain ⟨k, hk, rfl, rfl, inv⟩ := hrel
          have k0 := inv.zw.c0
          have k1 := inv.zw.c1
          have k2 := inv.zw.c2
          cases gk with
          | zero =>
            obtain rfl : k = 1440 := by omega
            have n2 : (1380 : Int) ≤ (S 1440 : Int) := by omega
            have n3 : (S 1440 : Int) ≤ 1500 := by omega
            go_wp2_with (first
              | (go_at_call 28; with_reducible refine (HN.out _ inv.ok inv.zw.zone).mono ?_; rintro e w2 ⟨rfl, hn⟩; replace inv := inv.step C.out hn; have k0 := inv.zw.c0; have k1 := inv.zw.c1; have k2 := inv.zw.c2; clear hn))
            go_ret
            exact ⟨rfl, inv.zw.below⟩
          | succ g =>
            have hlt : (k : Int) < 1440 := by omega
            have HIK := Lib.hid (HI.out k (by omega))
            have HS := Lib.hid (HSL.out k).1
            have hL2 := (HSL.out k).2
            have hSk := HSB.out k
            go_wp2_with (first
              | (go_at_call 26; with_reducible refine (HIK.out _ inv.ok inv.zw.zone).mono ?_; rintro e w2 ⟨a1, c1, rfl, hn⟩; replace inv := inv.step C.out hn; have k0 := inv.zw.c0; have k1 := inv.zw.c1; have k2 := inv.zw.c2; clear hn))
            go_roundg g
            case measure => omega
            case rel => exact ⟨k + 1, by omega, by rw [HS.out]; go_num, by go_num, inv⟩
      · have C := Lib.hid H
        clear H hb hm hl hs zr hV v
        generalize cs.length = len at *
        have k0 := inv.zw.c0
        have k1 := inv.zw.c1
        have k2 := inv.zw.c2
        by_cases h0 : d < 2
        · have e : decide (d < 2) = true := decide_eq_true h0
          clear hin
          go_enter Try.func6, Try.ntmps6
          go_wp2_with (first
            | (go_at_call 11; with_reducible refine (head_any C.out _ inv.ok).mono ?_; rintro e w2 ⟨rfl, hn⟩; replace inv := inv.step C.out hn; have k0 := inv.zw.c0; have k1 := inv.zw.c1; have k2 := inv.zw.c2; clear hn)
            | (go_at_call 12; with_reducible refine (HSM.out _).mono ?_; rintro e w2 ⟨rfl, hn⟩; replace inv := inv.step C.out hn; have k0 := inv.zw.c0; have k1 := inv.zw.c1; have k2 := inv.zw.c2; clear hn)
            | (go_at_call 17; with_reducible refine (HV.out _ inv.zw.zone).mono ?_; rintro e w2 ⟨rfl, hn⟩; replace inv := inv.step C.out hn; have k0 := inv.zw.c0; have k1 := inv.zw.c1; have k2 := inv.zw.c2; clear hn))
          go_ret
          exact ⟨rfl, inv.zw.below⟩
        · have e : decide (d < 2) = false := decide_eq_false h0
          have e2 : decide (36522 < d) = true := decide_eq_true (by omega)
          clear hin h0
          go_enter Try.func6, Try.ntmps6
          go_wp2_with (first
            | (go_at_call 11; with_reducible refine (head_any C.out _ inv.ok).mono ?_; rintro e w2 ⟨rfl, hn⟩; replace inv := inv.step C.out hn; have k0 := inv.zw.c0; have k1 := inv.zw.c1; have k2 := inv.zw.c2; clear hn)
            | (go_at_call 12; with_reducible refine (HSM.out _).mono ?_; rintro e w2 ⟨rfl, hn⟩; replace inv := inv.step C.out hn; have k0 := inv.zw.c0; have k1 := inv.zw.c1; have k2 := inv.zw.c2; clear hn)
            | (go_at_call 17; with_reducible refine (HV.out _ inv.zw.zone).mono ?_; rintro e w2 ⟨rfl, hn⟩; replace inv := inv.step C.out hn; have k0 := inv.zw.c0; have k1 := inv.zw.c1; have k2 := inv.zw.c2; clear hn))
          go_ret
          exact ⟨rfl, inv.zw.below⟩
    · rw [decide_eq_false v] at hV
      have HV := Lib.hid hV
      have C := Lib.hid H
      clear H hb hm hl hs zr hV v
      generalize cs.length = len at *
      have k0 := inv.zw.c0
      have k1 := inv.zw.c1
      have k2 := inv.zw.c2
      go_enter Try.func6, Try.ntmps6
      go_wp2_with (first
        | (go_at_call 11; with_reducible refine (head_any C.out _ inv.ok).mono ?_; rintro e w2 ⟨rfl, hn⟩; replace inv := inv.step C.out hn; have k0 := inv.zw.c0; have k1 := inv.zw.c1; have k2 := inv.zw.c2; clear hn)
        | (go_at_call 12; with_reducible refine (HSM.out _).mono ?_; rintro e w2 ⟨rfl, hn⟩; replace inv := inv.step C.out hn; have k0 := inv.zw.c0; have k1 := inv.zw.c1; have k2 := inv.zw.c2; clear hn)
        | (go_at_call 17; with_reducible refine (HV.out _ inv.zw.zone).mono ?_; rintro e w2 ⟨rfl, hn⟩; replace inv := inv.step C.out hn; have k0 := inv.zw.c0; have k1 := inv.zw.c1; have k2 := inv.zw.c2; clear hn))
      go_ret
      exact ⟨rfl, inv.zw.below⟩
  · have HSM := Lib.hid (fun w => small_no nm b a cs.length cap hs hl w)
    have C := Lib.hid H
    clear H hb hm hl hs hV
    generalize cs.length = len at *
    have k0 := inv.zw.c0
    have k1 := inv.zw.c1
    have k2 := inv.zw.c2
    go_enter Try.func6, Try.ntmps6
    go_wp2_with (first
      | (go_at_call 11; with_reducible refine (head_any C.out _ inv.ok).mono ?_; rintro e w2 ⟨rfl, hn⟩; replace inv := inv.step C.out hn; have k0 := inv.zw.c0; have k1 := inv.zw.c1; have k2 := inv.zw.c2; clear hn)
      | (go_at_call 12; with_reducible refine (HSM.out _).mono ?_; rintro e w2 ⟨rfl, hn⟩; replace inv := inv.step C.out hn; have k0 := inv.zw.c0; have k1 := inv.zw.c1; have k2 := inv.zw.c2; clear hn))
    go_ret
    exact ⟨rfl, inv.zw.below⟩
end Go.Proofs.Ytjmnohbgfkohpaa.Zn
