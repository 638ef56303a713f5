/- The law ZoneRunning returns true. Conditions: package zone's contracts; the zone's changes lie in memory as the argument says. -/
import Derived.Test.YtjmnohbgfkohpaaZoneHead
import Derived.Deep.RegionHeld3
import Derived.Deep.DeepCutAuto
import Derived.IntWalk
namespace Go.Proofs.Ytjmnohbgfkohpaa.Zn
open Go.RowKit
theorem locE_kinds (b : Int) (cs : List (Int × Int)) (t : Int) : locE b cs t = 0 ∨ locE b cs t = 1 ∨ locE b cs t = 21 := by
  unfold locE
  split
  · split
    · exact .inl rfl
    · exact .inr (.inr rfl)
  · exact .inr (.inl rfl)
theorem locE_arg (b : Int) (cs : List (Int × Int)) (t : Int) : locE b cs t = 1 ↔ ¬ (Valid b cs ∧ 0 ≤ t ∧ t ≤ 52595999) := by
  unfold locE
  split
  · split <;> constructor <;> intro h <;> first | (exact absurd h (by decide)) | (rename_i h2 _; exact absurd h2 h)
  · rename_i h2; exact ⟨fun _ => h2, fun _ => rfl⟩
theorem locE_ok {b : Int} {cs : List (Int × Int)} {t : Int} (h : locE b cs t = 0) : (Valid b cs ∧ 0 ≤ t ∧ t ≤ 52595999) ∧ locD b cs t * 1440 + locM b cs t = loc b cs t ∧ 0 ≤ locD b cs t ∧ locD b cs t ≤ 36524 ∧ 0 ≤ locM b cs t ∧ locM b cs t ≤ 1439 ∧ locD b cs t = loc b cs t / 1440 ∧ locM b cs t = loc b cs t % 1440 := by
  have h1 : Valid b cs ∧ 0 ≤ t ∧ t ≤ 52595999 := Classical.byContradiction (fun hn => by rw [(locE_arg b cs t).2 hn] at h; exact absurd h (by decide))
  have h2 : 0 ≤ loc b cs t / 1440 ∧ loc b cs t / 1440 ≤ 36524 := Classical.byContradiction (fun hn => by unfold locE at h; rw [if_pos h1, if_neg hn] at h; exact absurd h (by decide))
  unfold locD locM
  rw [if_pos h, if_pos h]
  refine ⟨h1, ?_⟩
  omega
theorem small_yes (nm : ByteArray) (b : Int) (a : Option Addr) (len cap : Nat) (h : len ≤ 70) (w : World) : Calls Try.prog 12 #[zv nm b a len cap] w fun r w' => r = .returned (.bool true) ∧ Below w.heap.size w w' := by
  have := small_any nm b a len cap w (by omega)
  rwa [decide_eq_true h] at this
theorem small_no (nm : ByteArray) (b : Int) (a : Option Addr) (len cap : Nat) (h : ¬ len ≤ 70) (hl : len ≤ 9223372036854775807) (w : World) : Calls Try.prog 12 #[zv nm b a len cap] w fun r w' => r = .returned (.bool false) ∧ Below w.heap.size w w' := by
  have := small_any nm b a len cap w hl
  rwa [decide_eq_false h] at this
theorem ZK.drew {OK : World → Prop} {w : World} {g : Nat} {nm : ByteArray} {b : Int} {a : Option Addr} {len cap : Nat} {cs : List (Int × Int)} {wx : World} (H : ZC OK) (h : ZK OK w g nm b a len cap cs wx) : ZK OK w g nm b a len cap cs wx.drew :=
  h.step H (Below.refl _ _).drew
set_option maxHeartbeats 2000000 in
theorem running_walk {OK : World → Prop} (H : ZC OK) (nm : ByteArray) (b : Int) (a : Option Addr) (cap : Nat) (cs : List (Int × Int)) (t : Int) (w : World) (hb : Rng b) (hm : ∀ x ∈ cs, Rng x.1 ∧ Rng x.2) (hl : cs.length ≤ 9223372036854775807) (ht : Rng t) (ok : OK w) (z : ZoneAt a cs w) :
    Calls Try.prog 10 #[zv nm b a cs.length cap, .int .i64 t] w fun r w' => r = .returned (.bool true) ∧ Below w.heap.size w w' := by
  have inv := ZK.start H w nm b a cs.length cap cs ok z
  clear z ok
  by_cases hs : cs.length ≤ 70
  · have zr : ZR b cs := ⟨hs, hb, hm⟩
    have hL := H.loc nm b a cap cs t zr ht
    have HSM := Lib.hid (fun w => small_yes nm b a cs.length cap hs w)
    by_cases he : locE b cs t = 0
    · obtain ⟨⟨v, t0, t1⟩, h1, h2, h3, h4, h5, -⟩ := locE_ok he
      rw [he] at hL
      by_cases hlt : t = 52595999
      · have HL := Lib.hid hL
        have C := Lib.hid H
        clear H hb hm hl hs zr hL v he
        have hge : 52595999 ≤ t := by omega
        clear hlt t1
        generalize cs.length = len at *
        generalize locD b cs t = x at *
        generalize locM b cs t = y at *
        have k0 := inv.zw.c0
        have k1 := inv.zw.c1
        have k2 := inv.zw.c2
        go_enter Try.func10, Try.ntmps10
        go_wp2_with (first
          | (go_at_call 11; with_reducible refine (head_any C.out _ inv.ok).mono ?_; rintro e w2 ⟨rfl, hn⟩; replace inv := inv.step C.out hn; have k0 := inv.zw.c0; have k1 := inv.zw.c1; have k2 := inv.zw.c2; clear hn)
          | (go_at_call 12; with_reducible refine (HSM.out _).mono ?_; rintro e w2 ⟨rfl, hn⟩; replace inv := inv.step C.out hn; have k0 := inv.zw.c0; have k1 := inv.zw.c1; have k2 := inv.zw.c2; clear hn)
          | (go_at_call 14; with_reducible refine (HL.out _ inv.ok inv.zw.zone).mono ?_; rintro e w2 ⟨rfl, hn⟩; replace inv := inv.step C.out hn; have k0 := inv.zw.c0; have k1 := inv.zw.c1; have k2 := inv.zw.c2; clear hn))
        go_ret
        exact ⟨rfl, inv.zw.below⟩
      · have hr1 : Rng (t + 1) := rng_small (by omega) (by omega)
        have hM := H.loc nm b a cap cs (t + 1) zr hr1
        have hbd := bd v t
        have t2 : t < 52595999 := by omega
        by_cases hf : locE b cs (t + 1) = 0
        · obtain ⟨-, g1, g2, g3, g4, g5, -⟩ := locE_ok hf
          obtain ⟨n1, n2, n3⟩ := loc_next v t
          rw [hf] at hM
          have hO := H.offset nm b a cap cs t zr ht
          have hP := H.offset nm b a cap cs (t + 1) zr hr1
          rw [show offR b cs t = offFrom b cs t from if_pos v] at hO
          rw [show offR b cs (t + 1) = offFrom b cs (t + 1) from if_pos v] at hP
          have HL := Lib.hid hL
          have HM := Lib.hid hM
          have HO := Lib.hid hO
          have HP := Lib.hid hP
          have C := Lib.hid H
          have HW := Lib.hid (show IntKind.i64.wrap (t + 1) = t + 1 from IntWalk.i64_in (t + 1) (by omega))
          clear H hb hm hl hs zr hL hM hO hP v he hf hr1
          generalize cs.length = len at *
          generalize locD b cs t = x at *
          generalize locM b cs t = y at *
          generalize locD b cs (t + 1) = x1 at *
          generalize locM b cs (t + 1) = y1 at *
          generalize loc b cs t = l at *
          generalize loc b cs (t + 1) = l1 at *
          generalize offFrom b cs t = o at *
          generalize offFrom b cs (t + 1) = o1 at *
          have k0 := inv.zw.c0
          have k1 := inv.zw.c1
          have k2 := inv.zw.c2
          go_enter Try.func10, Try.ntmps10
          go_upto_region 10 with (first
            | (go_at_call 11; with_reducible refine (head_any C.out _ inv.ok).mono ?_; rintro e w2 ⟨rfl, hn⟩; replace inv := inv.step C.out hn; have k0 := inv.zw.c0; have k1 := inv.zw.c1; have k2 := inv.zw.c2; clear hn)
            | (go_at_call 12; with_reducible refine (HSM.out _).mono ?_; rintro e w2 ⟨rfl, hn⟩; replace inv := inv.step C.out hn; have k0 := inv.zw.c0; have k1 := inv.zw.c1; have k2 := inv.zw.c2; clear hn)
            | (go_at_call 14; with_reducible refine (HL.out _ inv.ok inv.zw.zone).mono ?_; rintro e w2 ⟨rfl, hn⟩; replace inv := inv.step C.out hn; have k0 := inv.zw.c0; have k1 := inv.zw.c1; have k2 := inv.zw.c2; clear hn)
            | (go_at_call 14; with_reducible refine (HM.out _ inv.ok inv.zw.zone).mono ?_; rintro e w2 ⟨rfl, hn⟩; replace inv := inv.step C.out hn; have k0 := inv.zw.c0; have k1 := inv.zw.c1; have k2 := inv.zw.c2; clear hn))
          go_cut [12] (fun s12 wx => s12 = .int .i64 (o1 - o) ∧ Below w.heap.size w wx)
          case first =>
            replace inv := inv.drew C.out
            go_region_held3 (fun w' => w'.cell? ⟨w.heap.size, 0, none⟩ = some (.string nm) ∧ w'.cell? ⟨w.heap.size, 1, none⟩ = some (.int .i64 b) ∧ w'.cell? ⟨w.heap.size, 2, none⟩ = some (.slice a len cap) ∧ ZK OK w w.heap.size nm b a len cap cs w')
              (exact ⟨inv.zw.c0, inv.zw.c1, inv.zw.c2, inv⟩)
              (first
                | (go_at_call 18; with_reducible refine (HO.out _ inv.ok inv.zw.zone).mono ?_; rintro e w2 ⟨rfl, hn⟩; replace inv := inv.step C.out hn; clear hn)
                | (go_at_call 18; rw [HW.out]; with_reducible refine (HP.out _ inv.ok inv.zw.zone).mono ?_; rintro e w2 ⟨rfl, hn⟩; replace inv := inv.step C.out hn; clear hn))
            all_goals (go_wp2_with fail; go_meet; exact ⟨by rw [IntWalk.i64_in (o1 - o) (by omega)], inv.zw.below⟩)
          case rest =>
            obtain ⟨rfl, hbw⟩ := hcut
            go_wp2
            go_ret
            exact ⟨rfl, hbw⟩
        · have hf2 : locE b cs (t + 1) = 21 := by
            rcases locE_kinds b cs (t + 1) with h | h | h
            · exact absurd h hf
            · exact absurd ⟨v, by omega, by omega⟩ ((locE_arg b cs (t + 1)).1 h)
            · exact h
          rw [hf2] at hM
          have HL := Lib.hid hL
          have HM := Lib.hid hM
          have C := Lib.hid H
          clear H hb hm hl hs zr hL hM v he hf hf2 hr1
          generalize cs.length = len at *
          generalize locD b cs t = x at *
          generalize locM b cs t = y at *
          generalize locD b cs (t + 1) = x1 at *
          generalize locM b cs (t + 1) = y1 at *
          have k0 := inv.zw.c0
          have k1 := inv.zw.c1
          have k2 := inv.zw.c2
          go_enter Try.func10, Try.ntmps10
          go_wp2_with (first
            | (go_at_call 11; with_reducible refine (head_any C.out _ inv.ok).mono ?_; rintro e w2 ⟨rfl, hn⟩; replace inv := inv.step C.out hn; have k0 := inv.zw.c0; have k1 := inv.zw.c1; have k2 := inv.zw.c2; clear hn)
            | (go_at_call 12; with_reducible refine (HSM.out _).mono ?_; rintro e w2 ⟨rfl, hn⟩; replace inv := inv.step C.out hn; have k0 := inv.zw.c0; have k1 := inv.zw.c1; have k2 := inv.zw.c2; clear hn)
            | (go_at_call 14; with_reducible refine (HL.out _ inv.ok inv.zw.zone).mono ?_; rintro e w2 ⟨rfl, hn⟩; replace inv := inv.step C.out hn; have k0 := inv.zw.c0; have k1 := inv.zw.c1; have k2 := inv.zw.c2; clear hn)
            | (go_at_call 14; with_reducible refine (HM.out _ inv.ok inv.zw.zone).mono ?_; rintro e w2 ⟨rfl, hn⟩; replace inv := inv.step C.out hn; have k0 := inv.zw.c0; have k1 := inv.zw.c1; have k2 := inv.zw.c2; clear hn))
          go_ret
          exact ⟨rfl, inv.zw.below⟩
    · have HL := Lib.hid hL
      have C := Lib.hid H
      have hne : (locE b cs t != 0) = true := by simpa using he
      clear H hb hm hl hs zr hL he
      generalize cs.length = len at *
      generalize locE b cs t = q at *
      generalize locD b cs t = x at *
      generalize locM b cs t = y at *
      have k0 := inv.zw.c0
      have k1 := inv.zw.c1
      have k2 := inv.zw.c2
      go_enter Try.func10, Try.ntmps10
      go_wp2_with (first
        | (go_at_call 11; with_reducible refine (head_any C.out _ inv.ok).mono ?_; rintro e w2 ⟨rfl, hn⟩; replace inv := inv.step C.out hn; have k0 := inv.zw.c0; have k1 := inv.zw.c1; have k2 := inv.zw.c2; clear hn)
        | (go_at_call 12; with_reducible refine (HSM.out _).mono ?_; rintro e w2 ⟨rfl, hn⟩; replace inv := inv.step C.out hn; have k0 := inv.zw.c0; have k1 := inv.zw.c1; have k2 := inv.zw.c2; clear hn)
        | (go_at_call 14; with_reducible refine (HL.out _ inv.ok inv.zw.zone).mono ?_; rintro e w2 ⟨rfl, hn⟩; replace inv := inv.step C.out hn; have k0 := inv.zw.c0; have k1 := inv.zw.c1; have k2 := inv.zw.c2; clear hn))
      go_ret
      exact ⟨rfl, inv.zw.below⟩
  · have HSM := Lib.hid (fun w => small_no nm b a cs.length cap hs hl w)
    have C := Lib.hid H
    clear H hb hm hl hs
    generalize cs.length = len at *
    have k0 := inv.zw.c0
    have k1 := inv.zw.c1
    have k2 := inv.zw.c2
    go_enter Try.func10, Try.ntmps10
    go_wp2_with (first
      | (go_at_call 11; with_reducible refine (head_any C.out _ inv.ok).mono ?_; rintro e w2 ⟨rfl, hn⟩; replace inv := inv.step C.out hn; have k0 := inv.zw.c0; have k1 := inv.zw.c1; have k2 := inv.zw.c2; clear hn)
      | (go_at_call 12; with_reducible refine (HSM.out _).mono ?_; rintro e w2 ⟨rfl, hn⟩; replace inv := inv.step C.out hn; have k0 := inv.zw.c0; have k1 := inv.zw.c1; have k2 := inv.zw.c2; clear hn))
    go_ret
    exact ⟨rfl, inv.zw.below⟩
end Go.Proofs.Ytjmnohbgfkohpaa.Zn
