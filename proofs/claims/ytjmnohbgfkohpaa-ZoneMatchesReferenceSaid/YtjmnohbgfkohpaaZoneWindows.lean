/- The law ZoneWindows returns true. Conditions: package zone's contracts; the zone's changes lie in memory as the argument says. -/
import Derived.Test.YtjmnohbgfkohpaaZoneRunning
namespace Go.Proofs.Ytjmnohbgfkohpaa.Zn
open Go.RowKit
structure ZKS (OK : World → Prop) (w : World) (g : Nat) (nm : ByteArray) (b : Int) (a : Option Addr) (len cap : Nat) (cs : List (Int × Int)) (g2 : Nat) (f t : Int) (wx : World) : Prop where
  zs : ZS w g nm b a len cap cs g2 f t wx
  ok : OK wx
theorem ZKS.step {OK : World → Prop} {w : World} {g : Nat} {nm : ByteArray} {b : Int} {a : Option Addr} {len cap : Nat} {cs : List (Int × Int)} {g2 : Nat} {f t : Int} {wx wn : World} (H : ZC OK) (h : ZKS OK w g nm b a len cap cs g2 f t wx) (k : Below wx.heap.size wx wn) : ZKS OK w g nm b a len cap cs g2 f t wn :=
  ⟨h.zs.step k, H.step _ _ h.ok k⟩
theorem ZKS.start {OK : World → Prop} (H : ZC OK) (w : World) (nm : ByteArray) (b : Int) (a : Option Addr) (len cap : Nat) (cs : List (Int × Int)) (f t : Int) (ok : OK w) (z : ZoneAt a cs w) : ZKS OK w w.heap.size nm b a len cap cs (w.heap.size + 1) f t ((w.alloc (.cells #[.string nm, .int .i64 b, .slice a len cap] 24)).alloc (.cells #[.int .i64 f, .int .i64 t] 26)) :=
  ⟨ZS.start w nm b a len cap cs f t z, H.step _ _ (H.step _ _ ok (alloc_below _ _)) (alloc_below _ _)⟩
theorem winE_ok {b : Int} {cs : List (Int × Int)} {f t wf wt : Int} (h : winE b cs f t wf wt = 0) : Valid b cs ∧ Str f t ∧ Frm wf wt ∧ t - f ≤ 44640 := by
  unfold winE at h
  split at h
  · rename_i h1
    split at h
    · exact absurd h (by decide)
    · exact ⟨h1.1, h1.2.1, h1.2.2, by omega⟩
  · exact absurd h (by decide)
theorem winE_zero {b : Int} {cs : List (Int × Int)} {f t wf wt : Int} (v : Valid b cs) (s : Str f t) (g : Frm wf wt) (h : t - f ≤ 44640) : winE b cs f t wf wt = 0 := by
  unfold winE
  rw [if_pos ⟨v, s, g⟩, if_neg (by omega)]
theorem winN_ok {b : Int} {cs : List (Int × Int)} {f t wf wt : Int} (h : winE b cs f t wf wt = 0) : winN b cs f t wf wt = win b cs f (t - f).toNat wf wt := by
  unfold winN
  rw [if_pos h]
theorem wins_all {b : Int} {cs : List (Int × Int)} {f m t wf wt : Int} (h : winE b cs f t wf wt = 0) (h1 : f ≤ m) (h2 : m ≤ t) :
    (winE b cs f t wt wf = 0 ∧ winE b cs f t 0 1440 = 0 ∧ winE b cs f m wf wt = 0 ∧ winE b cs m t wf wt = 0) ∧ winN b cs f t 0 1440 = t - f ∧ winN b cs f m wf wt + winN b cs m t wf wt = winN b cs f t wf wt ∧ (wf ≠ wt → winN b cs f t wf wt + winN b cs f t wt wf = t - f) ∧ 0 ≤ winN b cs f t wf wt ∧ winN b cs f t wf wt ≤ t - f ∧ 0 ≤ winN b cs f m wf wt ∧ 0 ≤ winN b cs m t wf wt ∧ 0 ≤ winN b cs f t wt wf ∧ winN b cs f t wt wf ≤ t - f := by
  obtain ⟨v, s, g, hk⟩ := winE_ok h
  have s' := s
  have g' := g
  unfold Str at s'
  unfold Frm at g'
  have e1 : winE b cs f t wt wf = 0 := winE_zero v s (by unfold Frm; omega) hk
  have e2 : winE b cs f t 0 1440 = 0 := winE_zero v s (by unfold Frm; omega) hk
  have e3 : winE b cs f m wf wt = 0 := winE_zero v (by unfold Str; omega) g (by omega)
  have e4 : winE b cs m t wf wt = 0 := winE_zero v (by unfold Str; omega) g (by omega)
  rw [winN_ok h, winN_ok e1, winN_ok e2, winN_ok e3, winN_ok e4]
  have a1 := win_all (b := b) (cs := cs) f (t - f).toNat
  have a2 := win_add (b := b) (cs := cs) f (m - f).toNat (t - m).toNat wf wt
  rw [show (m - f).toNat + (t - m).toNat = (t - f).toNat by omega, show f + ((m - f).toNat : Int) = m by omega] at a2
  have a3 : wf ≠ wt → _ := win_swap (b := b) (cs := cs) f (t - f).toNat wf wt
  have a4 := cnt_le f (fun s => inW wf wt (loc b cs s % 1440)) (t - f).toNat
  have a5 := cnt_le f (fun s => inW wt wf (loc b cs s % 1440)) (t - f).toNat
  refine ⟨⟨e1, e2, e3, e4⟩, ?_⟩
  unfold win at *
  refine ⟨by omega, by omega, fun hne => ?_, by omega, by omega, by omega, by omega, by omega, by omega⟩
  have := a3 hne
  omega
set_option maxHeartbeats 4000000 in
theorem windows_walk {OK : World → Prop} (H : ZC OK) (nm : ByteArray) (b : Int) (a : Option Addr) (cap : Nat) (cs : List (Int × Int)) (f m t wf wt : Int) (w : World) (hb : Rng b) (hm : ∀ x ∈ cs, Rng x.1 ∧ Rng x.2) (hl : cs.length ≤ 9223372036854775807) (hf : Rng f) (hmm : Rng m) (ht : Rng t) (hwf : Rng wf) (hwt : Rng wt) (ok : OK w) (z : ZoneAt a cs w) :
    Calls Try.prog 7 #[zv nm b a cs.length cap, .int .i64 f, .int .i64 m, .int .i64 t, sv wf wt] w fun r w' => r = .returned (.bool true) ∧ Below w.heap.size w w' := by
  have inv := ZKS.start H w nm b a cs.length cap cs wf wt ok z
  clear z ok
  by_cases hs : cs.length ≤ 70
  · have zr : ZR b cs := ⟨hs, hb, hm⟩
    have HSM := Lib.hid (fun w => small_yes nm b a cs.length cap hs w)
    by_cases hfm : f ≤ m
    · by_cases hmt : m ≤ t
      · have hA := H.win nm b a cap cs f t wf wt zr hf ht hwf hwt
        by_cases he : winE b cs f t wf wt = 0
        · obtain ⟨⟨e1, e2, e3, e4⟩, q1, q2, q3, q4, q5, q6, q7, q8, q9⟩ := wins_all he hfm hmt
          obtain ⟨v, s, -, hk⟩ := winE_ok he
          obtain ⟨s0, s1, s2⟩ := s
          rw [he] at hA
          have hB := H.win nm b a cap cs f t wt wf zr hf ht hwt hwf
          have hE := H.win nm b a cap cs f t 0 1440 zr hf ht (rng_small (by decide) (by decide)) (rng_small (by decide) (by decide))
          have hC := H.win nm b a cap cs f m wf wt zr hf hmm hwf hwt
          have hD := H.win nm b a cap cs m t wf wt zr hmm ht hwf hwt
          rw [e1] at hB
          rw [e2, q1] at hE
          rw [e3] at hC
          rw [e4] at hD
          have HA := Lib.hid hA
          have HE := Lib.hid hE
          have HC := Lib.hid hC
          have HD := Lib.hid hD
          have C := Lib.hid H
          by_cases hne : wf = wt
          · subst hne
            clear H hb hm hl hs zr v he e1 e2 e3 e4 hA hB hE hC hD hf ht hmm hwf hwt q1 q3
            generalize cs.length = len at *
            generalize winN b cs f t wf wf = n1 at *
            generalize winN b cs f m wf wf = n3 at *
            generalize winN b cs m t wf wf = n4 at *
            have k0 := inv.zs.zw.c0
            have k1 := inv.zs.zw.c1
            have k2 := inv.zs.zw.c2
            have k3 := inv.zs.s0
            have k4 := inv.zs.s1
            by_cases h6 : t - f ≤ 6000
            · go_enter Try.func7, Try.ntmps7
              go_wp2_with (first
                | (go_at_call 11; with_reducible refine (head_any C.out _ inv.ok).mono ?_; rintro e w2 ⟨rfl, hn⟩; replace inv := inv.step C.out hn; have k0 := inv.zs.zw.c0; have k1 := inv.zs.zw.c1; have k2 := inv.zs.zw.c2; have k3 := inv.zs.s0; have k4 := inv.zs.s1; clear hn)
                | (go_at_call 12; with_reducible refine (HSM.out _).mono ?_; rintro e w2 ⟨rfl, hn⟩; replace inv := inv.step C.out hn; have k0 := inv.zs.zw.c0; have k1 := inv.zs.zw.c1; have k2 := inv.zs.zw.c2; have k3 := inv.zs.s0; have k4 := inv.zs.s1; clear hn)
                | (go_at_call 22; with_reducible refine (HA.out _ inv.ok inv.zs.zw.zone).mono ?_; rintro e w2 ⟨rfl, hn⟩; replace inv := inv.step C.out hn; have k0 := inv.zs.zw.c0; have k1 := inv.zs.zw.c1; have k2 := inv.zs.zw.c2; have k3 := inv.zs.s0; have k4 := inv.zs.s1; clear hn)
                | (go_at_call 22; with_reducible refine (HE.out _ inv.ok inv.zs.zw.zone).mono ?_; rintro e w2 ⟨rfl, hn⟩; replace inv := inv.step C.out hn; have k0 := inv.zs.zw.c0; have k1 := inv.zs.zw.c1; have k2 := inv.zs.zw.c2; have k3 := inv.zs.s0; have k4 := inv.zs.s1; clear hn)
                | (go_at_call 22; with_reducible refine (HC.out _ inv.ok inv.zs.zw.zone).mono ?_; rintro e w2 ⟨rfl, hn⟩; replace inv := inv.step C.out hn; have k0 := inv.zs.zw.c0; have k1 := inv.zs.zw.c1; have k2 := inv.zs.zw.c2; have k3 := inv.zs.s0; have k4 := inv.zs.s1; clear hn)
                | (go_at_call 22; with_reducible refine (HD.out _ inv.ok inv.zs.zw.zone).mono ?_; rintro e w2 ⟨rfl, hn⟩; replace inv := inv.step C.out hn; have k0 := inv.zs.zw.c0; have k1 := inv.zs.zw.c1; have k2 := inv.zs.zw.c2; have k3 := inv.zs.s0; have k4 := inv.zs.s1; clear hn))
              go_ret
              exact ⟨rfl, inv.zs.zw.below⟩
            · go_enter Try.func7, Try.ntmps7
              go_wp2_with (first
                | (go_at_call 11; with_reducible refine (head_any C.out _ inv.ok).mono ?_; rintro e w2 ⟨rfl, hn⟩; replace inv := inv.step C.out hn; have k0 := inv.zs.zw.c0; have k1 := inv.zs.zw.c1; have k2 := inv.zs.zw.c2; have k3 := inv.zs.s0; have k4 := inv.zs.s1; clear hn)
                | (go_at_call 12; with_reducible refine (HSM.out _).mono ?_; rintro e w2 ⟨rfl, hn⟩; replace inv := inv.step C.out hn; have k0 := inv.zs.zw.c0; have k1 := inv.zs.zw.c1; have k2 := inv.zs.zw.c2; have k3 := inv.zs.s0; have k4 := inv.zs.s1; clear hn))
              go_ret
              exact ⟨rfl, inv.zs.zw.below⟩
          · have q3' := q3 hne
            have hneb : (wf == wt) = false := by simpa using hne
            have HB := Lib.hid hB
            clear H hb hm hl hs zr v he e1 e2 e3 e4 hA hB hE hC hD hf ht hmm hwf hwt q1 q3 hne
            generalize cs.length = len at *
            generalize winN b cs f t wf wt = n1 at *
            generalize winN b cs f t wt wf = n2 at *
            generalize winN b cs f m wf wt = n3 at *
            generalize winN b cs m t wf wt = n4 at *
            have k0 := inv.zs.zw.c0
            have k1 := inv.zs.zw.c1
            have k2 := inv.zs.zw.c2
            have k3 := inv.zs.s0
            have k4 := inv.zs.s1
            by_cases h6 : t - f ≤ 6000
            · go_enter Try.func7, Try.ntmps7
              go_wp2_with (first
                | (go_at_call 11; with_reducible refine (head_any C.out _ inv.ok).mono ?_; rintro e w2 ⟨rfl, hn⟩; replace inv := inv.step C.out hn; have k0 := inv.zs.zw.c0; have k1 := inv.zs.zw.c1; have k2 := inv.zs.zw.c2; have k3 := inv.zs.s0; have k4 := inv.zs.s1; clear hn)
                | (go_at_call 12; with_reducible refine (HSM.out _).mono ?_; rintro e w2 ⟨rfl, hn⟩; replace inv := inv.step C.out hn; have k0 := inv.zs.zw.c0; have k1 := inv.zs.zw.c1; have k2 := inv.zs.zw.c2; have k3 := inv.zs.s0; have k4 := inv.zs.s1; clear hn)
                | (go_at_call 22; with_reducible refine (HA.out _ inv.ok inv.zs.zw.zone).mono ?_; rintro e w2 ⟨rfl, hn⟩; replace inv := inv.step C.out hn; have k0 := inv.zs.zw.c0; have k1 := inv.zs.zw.c1; have k2 := inv.zs.zw.c2; have k3 := inv.zs.s0; have k4 := inv.zs.s1; clear hn)
                | (go_at_call 22; with_reducible refine (HB.out _ inv.ok inv.zs.zw.zone).mono ?_; rintro e w2 ⟨rfl, hn⟩; replace inv := inv.step C.out hn; have k0 := inv.zs.zw.c0; have k1 := inv.zs.zw.c1; have k2 := inv.zs.zw.c2; have k3 := inv.zs.s0; have k4 := inv.zs.s1; clear hn)
                | (go_at_call 22; with_reducible refine (HE.out _ inv.ok inv.zs.zw.zone).mono ?_; rintro e w2 ⟨rfl, hn⟩; replace inv := inv.step C.out hn; have k0 := inv.zs.zw.c0; have k1 := inv.zs.zw.c1; have k2 := inv.zs.zw.c2; have k3 := inv.zs.s0; have k4 := inv.zs.s1; clear hn)
                | (go_at_call 22; with_reducible refine (HC.out _ inv.ok inv.zs.zw.zone).mono ?_; rintro e w2 ⟨rfl, hn⟩; replace inv := inv.step C.out hn; have k0 := inv.zs.zw.c0; have k1 := inv.zs.zw.c1; have k2 := inv.zs.zw.c2; have k3 := inv.zs.s0; have k4 := inv.zs.s1; clear hn)
                | (go_at_call 22; with_reducible refine (HD.out _ inv.ok inv.zs.zw.zone).mono ?_; rintro e w2 ⟨rfl, hn⟩; replace inv := inv.step C.out hn; have k0 := inv.zs.zw.c0; have k1 := inv.zs.zw.c1; have k2 := inv.zs.zw.c2; have k3 := inv.zs.s0; have k4 := inv.zs.s1; clear hn))
              go_ret
              exact ⟨rfl, inv.zs.zw.below⟩
            · go_enter Try.func7, Try.ntmps7
              go_wp2_with (first
                | (go_at_call 11; with_reducible refine (head_any C.out _ inv.ok).mono ?_; rintro e w2 ⟨rfl, hn⟩; replace inv := inv.step C.out hn; have k0 := inv.zs.zw.c0; have k1 := inv.zs.zw.c1; have k2 := inv.zs.zw.c2; have k3 := inv.zs.s0; have k4 := inv.zs.s1; clear hn)
                | (go_at_call 12; with_reducible refine (HSM.out _).mono ?_; rintro e w2 ⟨rfl, hn⟩; replace inv := inv.step C.out hn; have k0 := inv.zs.zw.c0; have k1 := inv.zs.zw.c1; have k2 := inv.zs.zw.c2; have k3 := inv.zs.s0; have k4 := inv.zs.s1; clear hn))
              go_ret
              exact ⟨rfl, inv.zs.zw.below⟩
        · have HA := Lib.hid hA
          have C := Lib.hid H
          have hne : (winE b cs f t wf wt != 0) = true := by simpa using he
          clear H hb hm hl hs zr hA he hf ht hmm hwf hwt
          generalize cs.length = len at *
          generalize winE b cs f t wf wt = q at *
          generalize winN b cs f t wf wt = n1 at *
          have k0 := inv.zs.zw.c0
          have k1 := inv.zs.zw.c1
          have k2 := inv.zs.zw.c2
          have k3 := inv.zs.s0
          have k4 := inv.zs.s1
          cases h6 : decide (6000 < wrap64 (t - f)) with
          | true =>
            go_enter Try.func7, Try.ntmps7
            go_wp2_with (first
              | (go_at_call 11; with_reducible refine (head_any C.out _ inv.ok).mono ?_; rintro e w2 ⟨rfl, hn⟩; replace inv := inv.step C.out hn; have k0 := inv.zs.zw.c0; have k1 := inv.zs.zw.c1; have k2 := inv.zs.zw.c2; have k3 := inv.zs.s0; have k4 := inv.zs.s1; clear hn)
              | (go_at_call 12; with_reducible refine (HSM.out _).mono ?_; rintro e w2 ⟨rfl, hn⟩; replace inv := inv.step C.out hn; have k0 := inv.zs.zw.c0; have k1 := inv.zs.zw.c1; have k2 := inv.zs.zw.c2; have k3 := inv.zs.s0; have k4 := inv.zs.s1; clear hn))
            go_ret
            exact ⟨rfl, inv.zs.zw.below⟩
          | false =>
            go_enter Try.func7, Try.ntmps7
            go_wp2_with (first
              | (go_at_call 11; with_reducible refine (head_any C.out _ inv.ok).mono ?_; rintro e w2 ⟨rfl, hn⟩; replace inv := inv.step C.out hn; have k0 := inv.zs.zw.c0; have k1 := inv.zs.zw.c1; have k2 := inv.zs.zw.c2; have k3 := inv.zs.s0; have k4 := inv.zs.s1; clear hn)
              | (go_at_call 12; with_reducible refine (HSM.out _).mono ?_; rintro e w2 ⟨rfl, hn⟩; replace inv := inv.step C.out hn; have k0 := inv.zs.zw.c0; have k1 := inv.zs.zw.c1; have k2 := inv.zs.zw.c2; have k3 := inv.zs.s0; have k4 := inv.zs.s1; clear hn)
              | (go_at_call 22; with_reducible refine (HA.out _ inv.ok inv.zs.zw.zone).mono ?_; rintro e w2 ⟨rfl, hn⟩; replace inv := inv.step C.out hn; have k0 := inv.zs.zw.c0; have k1 := inv.zs.zw.c1; have k2 := inv.zs.zw.c2; have k3 := inv.zs.s0; have k4 := inv.zs.s1; clear hn))
            go_ret
            exact ⟨rfl, inv.zs.zw.below⟩
      · have C := Lib.hid H
        clear H hb hm hl hs zr hf ht hmm hwf hwt
        generalize cs.length = len at *
        have k0 := inv.zs.zw.c0
        have k1 := inv.zs.zw.c1
        have k2 := inv.zs.zw.c2
        go_enter Try.func7, Try.ntmps7
        go_wp2_with (first
          | (go_at_call 11; with_reducible refine (head_any C.out _ inv.ok).mono ?_; rintro e w2 ⟨rfl, hn⟩; replace inv := inv.step C.out hn; have k0 := inv.zs.zw.c0; have k1 := inv.zs.zw.c1; have k2 := inv.zs.zw.c2; have k3 := inv.zs.s0; have k4 := inv.zs.s1; clear hn)
          | (go_at_call 12; with_reducible refine (HSM.out _).mono ?_; rintro e w2 ⟨rfl, hn⟩; replace inv := inv.step C.out hn; have k0 := inv.zs.zw.c0; have k1 := inv.zs.zw.c1; have k2 := inv.zs.zw.c2; have k3 := inv.zs.s0; have k4 := inv.zs.s1; clear hn))
        go_ret
        exact ⟨rfl, inv.zs.zw.below⟩
    · have C := Lib.hid H
      clear H hb hm hl hs zr hf ht hmm hwf hwt
      generalize cs.length = len at *
      have k0 := inv.zs.zw.c0
      have k1 := inv.zs.zw.c1
      have k2 := inv.zs.zw.c2
      go_enter Try.func7, Try.ntmps7
      go_wp2_with (first
        | (go_at_call 11; with_reducible refine (head_any C.out _ inv.ok).mono ?_; rintro e w2 ⟨rfl, hn⟩; replace inv := inv.step C.out hn; have k0 := inv.zs.zw.c0; have k1 := inv.zs.zw.c1; have k2 := inv.zs.zw.c2; have k3 := inv.zs.s0; have k4 := inv.zs.s1; clear hn)
        | (go_at_call 12; with_reducible refine (HSM.out _).mono ?_; rintro e w2 ⟨rfl, hn⟩; replace inv := inv.step C.out hn; have k0 := inv.zs.zw.c0; have k1 := inv.zs.zw.c1; have k2 := inv.zs.zw.c2; have k3 := inv.zs.s0; have k4 := inv.zs.s1; clear hn))
      go_ret
      exact ⟨rfl, inv.zs.zw.below⟩
  · have HSM := Lib.hid (fun w => small_no nm b a cs.length cap hs hl w)
    have C := Lib.hid H
    clear H hb hm hl hs hf ht hmm hwf hwt
    generalize cs.length = len at *
    have k0 := inv.zs.zw.c0
    have k1 := inv.zs.zw.c1
    have k2 := inv.zs.zw.c2
    go_enter Try.func7, Try.ntmps7
    go_wp2_with (first
      | (go_at_call 11; with_reducible refine (head_any C.out _ inv.ok).mono ?_; rintro e w2 ⟨rfl, hn⟩; replace inv := inv.step C.out hn; have k0 := inv.zs.zw.c0; have k1 := inv.zs.zw.c1; have k2 := inv.zs.zw.c2; have k3 := inv.zs.s0; have k4 := inv.zs.s1; clear hn)
      | (go_at_call 12; with_reducible refine (HSM.out _).mono ?_; rintro e w2 ⟨rfl, hn⟩; replace inv := inv.step C.out hn; have k0 := inv.zs.zw.c0; have k1 := inv.zs.zw.c1; have k2 := inv.zs.zw.c2; have k3 := inv.zs.s0; have k4 := inv.zs.s1; clear hn))
    go_ret
    exact ⟨rfl, inv.zs.zw.below⟩
end Go.Proofs.Ytjmnohbgfkohpaa.Zn
