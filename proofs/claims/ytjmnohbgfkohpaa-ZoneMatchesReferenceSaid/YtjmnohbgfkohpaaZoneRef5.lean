/- What the reference implementation's In, Frame, Stretch and Window return. Condition: the zone's changes lie in memory as the argument says. -/
import Derived.Test.YtjmnohbgfkohpaaZoneRef4
namespace Go.Proofs.Ytjmnohbgfkohpaa.Zn
open Go.RowKit
/-- A window by value. -/
abbrev sv (f t : Int) : Value := .agg #[.int .i64 f, .int .i64 t]
theorem box2 (w : World) (f t : Int) : Below w.heap.size w (w.alloc (.cells #[.int .i64 f, .int .i64 t] 26)) := (Below.refl _ _).alloc (Nat.le_refl _) _
theorem rin_any (f t m : Int) (w : World) :
    Calls Try.prog 52 #[sv f t, .int .i64 m] w fun e w' => e = .returned (.bool (inW f t m)) ∧ Below w.heap.size w w' := by
  unfold inW
  by_cases h : t < f
  · rw [if_pos h]
    by_cases h1 : f ≤ m
    · rw [decide_eq_true h1]
      go_enter Try.func52, Try.ntmps52
      go_wp2
      go_ret
      exact ⟨rfl, box2 _ _ _⟩
    · have e1 : decide (f ≤ m) = false := decide_eq_false h1
      by_cases h2 : m < t
      · rw [e1, decide_eq_true h2]
        go_enter Try.func52, Try.ntmps52
        go_wp2
        go_ret
        exact ⟨rfl, box2 _ _ _⟩
      · have e2 : decide (m < t) = false := decide_eq_false h2
        rw [e1, e2]
        go_enter Try.func52, Try.ntmps52
        go_wp2
        go_ret
        exact ⟨rfl, box2 _ _ _⟩
  · rw [if_neg h]
    by_cases h1 : f ≤ m
    · rw [decide_eq_true h1]
      by_cases h2 : m < t
      · rw [decide_eq_true h2]
        go_enter Try.func52, Try.ntmps52
        go_wp2
        go_ret
        exact ⟨rfl, box2 _ _ _⟩
      · have e2 : decide (m < t) = false := decide_eq_false h2
        rw [e2]
        go_enter Try.func52, Try.ntmps52
        go_wp2
        go_ret
        exact ⟨rfl, box2 _ _ _⟩
    · have e1 : decide (f ≤ m) = false := decide_eq_false h1
      rw [e1]
      go_enter Try.func52, Try.ntmps52
      go_wp2
      go_ret
      exact ⟨rfl, box2 _ _ _⟩
/-- A window's bounds. -/
def Frm (f t : Int) : Prop := 0 ≤ f ∧ f ≤ 1440 ∧ 0 ≤ t ∧ t ≤ 1440
theorem rframe_yes (f t : Int) (w : World) (h : Frm f t) :
    Calls Try.prog 51 #[sv f t] w fun e w' => e = .returned (.bool true) ∧ Below w.heap.size w w' := by
  obtain ⟨f0, f1, t0, t1⟩ := h
  go_enter Try.func51, Try.ntmps51
  go_wp2
  go_ret
  exact ⟨rfl, box2 _ _ _⟩
theorem rframe_no (f t : Int) (w : World) (h : ¬ Frm f t) :
    Calls Try.prog 51 #[sv f t] w fun e w' => e = .returned (.bool false) ∧ Below w.heap.size w w' := by
  unfold Frm at h
  by_cases f0 : 0 ≤ f
  · by_cases f1 : f ≤ 1440
    · by_cases t0 : 0 ≤ t
      · have t1 : decide (t ≤ 1440) = false := decide_eq_false (by omega)
        clear h
        go_enter Try.func51, Try.ntmps51
        go_wp2
        go_ret
        exact ⟨rfl, box2 _ _ _⟩
      · have e : decide (0 ≤ t) = false := decide_eq_false t0
        have t0' : t < 0 := by omega
        clear h t0
        go_enter Try.func51, Try.ntmps51
        go_wp2
        go_ret
        exact ⟨rfl, box2 _ _ _⟩
    · have e : decide (f ≤ 1440) = false := decide_eq_false f1
      clear h f1
      go_enter Try.func51, Try.ntmps51
      go_wp2
      go_ret
      exact ⟨rfl, box2 _ _ _⟩
  · have e : decide (0 ≤ f) = false := decide_eq_false f0
    have f0' : f < 0 := by omega
    clear h f0
    go_enter Try.func51, Try.ntmps51
    go_wp2
    go_ret
    exact ⟨rfl, box2 _ _ _⟩
/-- A stretch's bounds. -/
def Str (f t : Int) : Prop := 0 ≤ f ∧ f ≤ t ∧ t ≤ 52596000
theorem rstretch_yes (f t : Int) (w : World) (h : Str f t) :
    Calls Try.prog 47 #[.int .i64 f, .int .i64 t] w fun e w' => e = .returned (.bool true) ∧ w = w' := by
  obtain ⟨f0, f1, t1⟩ := h
  go_enter Try.func47, Try.ntmps47
  go_wp2
  go_ret
  exact ⟨rfl, rfl⟩
theorem rstretch_no (f t : Int) (w : World) (h : ¬ Str f t) :
    Calls Try.prog 47 #[.int .i64 f, .int .i64 t] w fun e w' => e = .returned (.bool false) ∧ w = w' := by
  unfold Str at h
  by_cases f0 : 0 ≤ f
  · by_cases f1 : f ≤ t
    · have t1 : decide (t ≤ 52596000) = false := decide_eq_false (by omega)
      clear h
      go_enter Try.func47, Try.ntmps47
      go_wp2
      go_ret
      exact ⟨rfl, rfl⟩
    · have e : decide (f ≤ t) = false := decide_eq_false f1
      clear h f1
      go_enter Try.func47, Try.ntmps47
      go_wp2
      go_ret
      exact ⟨rfl, rfl⟩
  · have e : decide (0 ≤ f) = false := decide_eq_false f0
    have f0' : f < 0 := by omega
    clear h f0
    go_enter Try.func47, Try.ntmps47
    go_wp2
    go_ret
    exact ⟨rfl, rfl⟩
/-- The zone's box and the window's. -/
structure ZS (w : World) (g : Nat) (nm : ByteArray) (b : Int) (a : Option Addr) (len cap : Nat) (cs : List (Int × Int)) (g2 : Nat) (f t : Int) (wx : World) : Prop where
  zw : ZW w g nm b a len cap cs wx
  s0 : wx.cell? ⟨g2, 0, none⟩ = some (.int .i64 f)
  s1 : wx.cell? ⟨g2, 1, none⟩ = some (.int .i64 t)
theorem ZS.step {w : World} {g : Nat} {nm : ByteArray} {b : Int} {a : Option Addr} {len cap : Nat} {cs : List (Int × Int)} {g2 : Nat} {f t : Int} {wx wn : World} (h : ZS w g nm b a len cap cs g2 f t wx) (k : Below wx.heap.size wx wn) : ZS w g nm b a len cap cs g2 f t wn :=
  ⟨h.zw.step k, cell_kept k h.s0, cell_kept k h.s1⟩
theorem ZS.start (w : World) (nm : ByteArray) (b : Int) (a : Option Addr) (len cap : Nat) (cs : List (Int × Int)) (f t : Int) (z : ZoneAt a cs w) :
    ZS w w.heap.size nm b a len cap cs (w.heap.size + 1) f t ((w.alloc (.cells #[.string nm, .int .i64 b, .slice a len cap] 24)).alloc (.cells #[.int .i64 f, .int .i64 t] 26)) := by
  have h := (ZW.start w nm b a len cap cs z).step (box2 _ f t)
  have e : (w.alloc (.cells #[.string nm, .int .i64 b, .slice a len cap] 24)).heap.size = w.heap.size + 1 := by simp
  refine ⟨h, ?_, ?_⟩
  · rw [← e, World.cell?_alloc_new]; rfl
  · rw [← e, World.cell?_alloc_new]; rfl
/-- The minutes of a stretch in a window, or the error. -/
def WinRes (b : Int) (cs : List (Int × Int)) (f t wf wt n e : Int) : Prop :=
  (¬ (Valid b cs ∧ Str f t ∧ Frm wf wt) ∧ n = 0 ∧ e = 1) ∨ (Valid b cs ∧ Str f t ∧ Frm wf wt ∧ 44640 < t - f ∧ n = 0 ∧ e = 2) ∨ (Valid b cs ∧ Str f t ∧ Frm wf wt ∧ t - f ≤ 44640 ∧ n = win b cs f (t - f).toNat wf wt ∧ e = 0)
theorem win_count (b : Int) (cs : List (Int × Int)) (f wf wt : Int) : ∃ C : Nat → Int, C 0 = 0 ∧ (∀ k, C k = win b cs f k wf wt) ∧ (∀ k, 0 ≤ C k ∧ C k ≤ k) ∧ ∀ (k : Nat) (t : Int), t = f + k → C (k + 1) = C k + if inW wf wt (loc b cs t % 1440) = true then 1 else 0 := by
  refine ⟨fun k => (win b cs f k wf wt : Int), rfl, fun k => rfl, fun k => ⟨Int.natCast_nonneg _, Int.ofNat_le.2 (cnt_le _ _ _)⟩, fun k t h => ?_⟩
  subst h
  show ((cnt f (fun s => inW wf wt (loc b cs s % 1440)) k + (if inW wf wt (loc b cs (f + k) % 1440) = true then 1 else 0) : Nat) : Int) = (cnt f (fun s => inW wf wt (loc b cs s % 1440)) k : Int) + _
  by_cases h : inW wf wt (loc b cs (f + k) % 1440) = true
  · rw [if_pos h, if_pos h]; omega
  · rw [if_neg h, if_neg h]; omega
set_option maxHeartbeats 2000000 in
theorem rwindow_ex (nm : ByteArray) (b : Int) (a : Option Addr) (cap : Nat) (cs : List (Int × Int)) (f t wf wt : Int) (hl : cs.length ≤ 9223372036854775807) : ∃ n e : Int, WinRes b cs f t wf wt n e ∧
    ∀ w, ZoneAt a cs w → Calls Try.prog 23 #[zv nm b a cs.length cap, .int .i64 f, .int .i64 t, sv wf wt] w fun r w' => r = .returned (.tuple #[.int .i64 n, .int .i64 e]) ∧ Below w.heap.size w w' := by
  have hV := fun w (z : ZoneAt a cs w) => rvalid_any nm b a cap cs w hl z
  by_cases v : Valid b cs
  · rw [decide_eq_true v] at hV
    have HV := Lib.hid hV
    by_cases hs : Str f t
    · have HS := Lib.hid (fun w => rstretch_yes f t w hs)
      by_cases hf : Frm wf wt
      · have HF := Lib.hid (fun w => rframe_yes wf wt w hf)
        by_cases hbig : 44640 < t - f
        · refine ⟨_, _, Or.inr (Or.inl ⟨v, hs, hf, hbig, rfl, rfl⟩), fun w z => ?_⟩
          have inv := ZS.start w nm b a cs.length cap cs wf wt z
          obtain ⟨f0, f1, f2⟩ := hs
          clear hV z v hf
          generalize cs.length = len at *
          have k0 := inv.zw.c0
          have k1 := inv.zw.c1
          have k2 := inv.zw.c2
          have k3 := inv.s0
          have k4 := inv.s1
          go_enter Try.func23, Try.ntmps23
          go_wp2_with (first
            | (go_at_call 17; with_reducible refine (HV.out _ inv.zw.zone).mono ?_; rintro e w1 ⟨rfl, hn⟩; replace inv := inv.step hn; have k0 := inv.zw.c0; have k1 := inv.zw.c1; have k2 := inv.zw.c2; have k3 := inv.s0; have k4 := inv.s1; clear hn)
            | (go_at_call 47; with_reducible refine (HS.out _).mono ?_; rintro e w' ⟨rfl, rfl⟩)
            | (go_at_call 51; with_reducible refine (HF.out _).mono ?_; rintro e w1 ⟨rfl, hn⟩; replace inv := inv.step hn; have k0 := inv.zw.c0; have k1 := inv.zw.c1; have k2 := inv.zw.c2; have k3 := inv.s0; have k4 := inv.s1; clear hn))
          go_ret2
          exact ⟨rfl, inv.zw.below⟩
        · obtain ⟨C, hC0, hCe, hCb, hCs⟩ := win_count b cs f wf wt
          refine ⟨C (t - f).toNat, 0, Or.inr (Or.inr ⟨v, hs, hf, by omega, hCe _, rfl⟩), fun w z => ?_⟩
          have inv := ZS.start w nm b a cs.length cap cs wf wt z
          obtain ⟨f0, f1, f2⟩ := hs
          have HLL := Lib.hid (fun t t0 t1 => rlocal_ex nm b a cap cs t v t0 t1)
          have HBD := Lib.hid (fun t => bd v t)
          have HCB := Lib.hid hCb
          have HCS := Lib.hid hCs
          have hbig' : t - f ≤ 44640 := by omega
          clear hV z v hf hCb hCs hCe hbig
          generalize cs.length = len at *
          have k0 := inv.zw.c0
          have k1 := inv.zw.c1
          have k2 := inv.zw.c2
          have k3 := inv.s0
          have k4 := inv.s1
          go_enter Try.func23, Try.ntmps23
          go_wp2_with (first
            | (go_at_call 17; with_reducible refine (HV.out _ inv.zw.zone).mono ?_; rintro e w1 ⟨rfl, hn⟩; replace inv := inv.step hn; have k0 := inv.zw.c0; have k1 := inv.zw.c1; have k2 := inv.zw.c2; have k3 := inv.s0; have k4 := inv.s1; clear hn)
            | (go_at_call 47; with_reducible refine (HS.out _).mono ?_; rintro e w' ⟨rfl, rfl⟩)
            | (go_at_call 51; with_reducible refine (HF.out _).mono ?_; rintro e w1 ⟨rfl, hn⟩; replace inv := inv.step hn; have k0 := inv.zw.c0; have k1 := inv.zw.c1; have k2 := inv.zw.c2; have k3 := inv.s0; have k4 := inv.s1; clear hn))
          go_loopg [10, 11] (t - f).toNat (fun g s10 s11 wx => ∃ (k : Nat) (u : Int), k + g = (t - f).toNat ∧ Hid (u = f + k) ∧ s10 = .int .i64 (C k) ∧ s11 = .int .i64 u ∧ ZS w w.heap.size nm b a len cap cs (w.heap.size + 1) wf wt wx)
          case atStart => exact ⟨0, f, by omega, show f = f + ((0 : Nat) : Int) by omega, by rw [hC0], rfl, inv⟩
          case round =>
            clear inv k0 k1 k2 k3 k4
            obtain ⟨k, u, hk, HU, rfl, rfl, inv⟩ := hrel
            have k0 := inv.zw.c0
            have k1 := inv.zw.c1
            have k2 := inv.zw.c2
            have k3 := inv.s0
            have k4 := inv.s1
            have hcb := HCB.out k
            cases gk with
            | zero =>
              have HK := Lib.hid (show k = (t - f).toNat by omega)
              have hlt : ¬ u < t := by have := HU.out; omega
              go_wp2
              go_ret2
              exact ⟨by rw [HK.out]; rfl, inv.zw.below⟩
            | succ g =>
              have hlt : u < t := by have := HU.out; omega
              have hkb : (k : Int) ≤ 50000 := by omega
              have hu0 : 0 ≤ u := by have := HU.out; omega
              have hu1 : u ≤ 60000000 := by omega
              obtain ⟨dd, mm, -, hmm, hl⟩ := HLL.out u (by have := HU.out; omega) (by omega)
              have hm := (hmm (by have := HBD.out u; have := HU.out; unfold loc; omega)).2
              have HL := Lib.hid hl
              have hs := HCS.out k u HU.out
              rw [← hm] at hs
              have hI := fun w => rin_any wf wt mm w
              clear hl hmm hm
              cases hq : inW wf wt mm with
              | true =>
                rw [hq] at hs hI
                rw [if_pos rfl] at hs
                have HS2 := Lib.hid hs
                have HI := Lib.hid hI
                clear hs hI hq
                go_wp2_with (first
                  | (go_at_call 37; with_reducible refine (HL.out _ inv.zw.zone).mono ?_; rintro e w1 ⟨rfl, hn⟩; replace inv := inv.step hn; have k0 := inv.zw.c0; have k1 := inv.zw.c1; have k2 := inv.zw.c2; have k3 := inv.s0; have k4 := inv.s1; clear hn)
                  | (go_at_call 52; with_reducible refine (HI.out _).mono ?_; rintro e w1 ⟨rfl, hn⟩; replace inv := inv.step hn; have k0 := inv.zw.c0; have k1 := inv.zw.c1; have k2 := inv.zw.c2; have k3 := inv.s0; have k4 := inv.s1; clear hn))
                go_roundg g
                case measure => omega
                case rel => exact ⟨k + 1, u + 1, by omega, show u + 1 = f + ((k + 1 : Nat) : Int) by have := HU.out; omega, by rw [HS2.out], rfl, inv⟩
              | false =>
                rw [hq] at hs hI
                rw [if_neg (by decide)] at hs
                have HS2 := Lib.hid hs
                have HI := Lib.hid hI
                clear hs hI hq
                go_wp2_with (first
                  | (go_at_call 37; with_reducible refine (HL.out _ inv.zw.zone).mono ?_; rintro e w1 ⟨rfl, hn⟩; replace inv := inv.step hn; have k0 := inv.zw.c0; have k1 := inv.zw.c1; have k2 := inv.zw.c2; have k3 := inv.s0; have k4 := inv.s1; clear hn)
                  | (go_at_call 52; with_reducible refine (HI.out _).mono ?_; rintro e w1 ⟨rfl, hn⟩; replace inv := inv.step hn; have k0 := inv.zw.c0; have k1 := inv.zw.c1; have k2 := inv.zw.c2; have k3 := inv.s0; have k4 := inv.s1; clear hn))
                go_roundg g
                case measure => omega
                case rel => exact ⟨k + 1, u + 1, by omega, show u + 1 = f + ((k + 1 : Nat) : Int) by have := HU.out; omega, by rw [HS2.out, Int.add_zero], rfl, inv⟩
      · have HF := Lib.hid (fun w => rframe_no wf wt w hf)
        refine ⟨_, _, Or.inl ⟨fun h => hf h.2.2, rfl, rfl⟩, fun w z => ?_⟩
        have inv := ZS.start w nm b a cs.length cap cs wf wt z
        clear hV z v hs hf
        generalize cs.length = len at *
        have k0 := inv.zw.c0
        have k1 := inv.zw.c1
        have k2 := inv.zw.c2
        have k3 := inv.s0
        have k4 := inv.s1
        go_enter Try.func23, Try.ntmps23
        go_wp2_with (first
          | (go_at_call 17; with_reducible refine (HV.out _ inv.zw.zone).mono ?_; rintro e w1 ⟨rfl, hn⟩; replace inv := inv.step hn; have k0 := inv.zw.c0; have k1 := inv.zw.c1; have k2 := inv.zw.c2; have k3 := inv.s0; have k4 := inv.s1; clear hn)
          | (go_at_call 47; with_reducible refine (HS.out _).mono ?_; rintro e w' ⟨rfl, rfl⟩)
          | (go_at_call 51; with_reducible refine (HF.out _).mono ?_; rintro e w1 ⟨rfl, hn⟩; replace inv := inv.step hn; have k0 := inv.zw.c0; have k1 := inv.zw.c1; have k2 := inv.zw.c2; have k3 := inv.s0; have k4 := inv.s1; clear hn))
        go_ret2
        exact ⟨rfl, inv.zw.below⟩
    · have HS := Lib.hid (fun w => rstretch_no f t w hs)
      refine ⟨_, _, Or.inl ⟨fun h => hs h.2.1, rfl, rfl⟩, fun w z => ?_⟩
      have inv := ZS.start w nm b a cs.length cap cs wf wt z
      clear hV z v hs
      generalize cs.length = len at *
      have k0 := inv.zw.c0
      have k1 := inv.zw.c1
      have k2 := inv.zw.c2
      have k3 := inv.s0
      have k4 := inv.s1
      go_enter Try.func23, Try.ntmps23
      go_wp2_with (first
        | (go_at_call 17; with_reducible refine (HV.out _ inv.zw.zone).mono ?_; rintro e w1 ⟨rfl, hn⟩; replace inv := inv.step hn; have k0 := inv.zw.c0; have k1 := inv.zw.c1; have k2 := inv.zw.c2; have k3 := inv.s0; have k4 := inv.s1; clear hn)
        | (go_at_call 47; with_reducible refine (HS.out _).mono ?_; rintro e w' ⟨rfl, rfl⟩))
      go_ret2
      exact ⟨rfl, inv.zw.below⟩
  · rw [decide_eq_false v] at hV
    have HV := Lib.hid hV
    refine ⟨_, _, Or.inl ⟨fun h => v h.1, rfl, rfl⟩, fun w z => ?_⟩
    have inv := ZS.start w nm b a cs.length cap cs wf wt z
    clear hV z v
    generalize cs.length = len at *
    have k0 := inv.zw.c0
    have k1 := inv.zw.c1
    have k2 := inv.zw.c2
    have k3 := inv.s0
    have k4 := inv.s1
    go_enter Try.func23, Try.ntmps23
    go_wp2_with (first
      | (go_at_call 17; with_reducible refine (HV.out _ inv.zw.zone).mono ?_; rintro e w1 ⟨rfl, hn⟩; replace inv := inv.step hn; have k0 := inv.zw.c0; have k1 := inv.zw.c1; have k2 := inv.zw.c2; have k3 := inv.s0; have k4 := inv.s1; clear hn))
    go_ret2
    exact ⟨rfl, inv.zw.below⟩
end Go.Proofs.Ytjmnohbgfkohpaa.Zn
