/- What package zone's Length, Window and Split return for every argument. Condition: the zone's changes lie in memory as the argument says. -/
import Derived.Test.YtjmnohbgfkohpaaZoneWin
import Derived.Test.YtjmnohbgfkohpaaZoneSplit
import Derived.Test.YtjmnohbgfkohpaaZoneC
namespace Go.Proofs.Ytjmnohbgfkohpaa.Zn
open Go Go.RowKit Go.Shelf
set_option maxHeartbeats 1000000 in
set_option maxRecDepth 100000 in
theorem zlength_v (nm : ByteArray) (b : Int) (a : Option Addr) (cap : Nat) (cs : List (Int × Int)) (d : Int) (w : World) (hl : cs.length ≤ 9223372036854775807) (v : ¬ Valid b cs) (z : ZoneAt a cs w) :
    Calls Try.prog 28 #[zv nm b a cs.length cap, .int .i64 d] w fun r w' => r = .returned (.int .i64 0) ∧ Below w.heap.size w w' := by
  have hV := fun w (z : ZoneAt a cs w) => zvalid_any nm b a cap cs w hl z
  rw [decide_eq_false v] at hV
  have HV := Lib.hid hV
  have inv := ZW.start w nm b a cs.length cap cs z
  clear hV z
  generalize cs.length = len at *
  have k0 := inv.c0
  have k1 := inv.c1
  have k2 := inv.c2
  go_enter Try.func28, Try.ntmps28
  go_wp2_with (first
    | (go_at_call 16; ((with_reducible refine (HV.out _ inv.zone).mono ?_); rintro e w1 ⟨rfl, hn⟩); replace inv := inv.step hn; have k0 := inv.c0; have k1 := inv.c1; have k2 := inv.c2; clear hn))
  go_ret
  exact ⟨rfl, inv.below⟩
set_option maxHeartbeats 1000000 in
set_option maxRecDepth 100000 in
theorem zlength_d (nm : ByteArray) (b : Int) (a : Option Addr) (cap : Nat) (cs : List (Int × Int)) (d : Int) (w : World) (hl : cs.length ≤ 9223372036854775807) (v : Valid b cs) (hd : ¬ (0 ≤ d ∧ d ≤ 36524)) (z : ZoneAt a cs w) :
    Calls Try.prog 28 #[zv nm b a cs.length cap, .int .i64 d] w fun r w' => r = .returned (.int .i64 0) ∧ Below w.heap.size w w' := by
  have hV := fun w (z : ZoneAt a cs w) => zvalid_any nm b a cap cs w hl z
  rw [decide_eq_true v] at hV
  have HV := Lib.hid hV
  have HD := Lib.hid (fun w => zday_is (n := d) false (decide_eq_false hd) w)
  have inv := ZW.start w nm b a cs.length cap cs z
  clear hV z
  generalize cs.length = len at *
  have k0 := inv.c0
  have k1 := inv.c1
  have k2 := inv.c2
  go_enter Try.func28, Try.ntmps28
  go_wp2_with (first
    | (go_at_call 16; ((with_reducible refine (HV.out _ inv.zone).mono ?_); rintro e w1 ⟨rfl, hn⟩); replace inv := inv.step hn; have k0 := inv.c0; have k1 := inv.c1; have k2 := inv.c2; clear hn)
    | (go_at_call 35; ((with_reducible refine (HD.out _).mono ?_); rintro e w' ⟨rfl, rfl⟩)))
  go_ret
  exact ⟨rfl, inv.below⟩
theorem zlength_any (nm : ByteArray) (b : Int) (a : Option Addr) (cap : Nat) (cs : List (Int × Int)) (d : Int) (w : World) (hl : cs.length ≤ 9223372036854775807) (z : ZoneAt a cs w) :
    Calls Try.prog 28 #[zv nm b a cs.length cap, .int .i64 d] w fun r w' => r = .returned (.int .i64 (lenR b cs d)) ∧ Below w.heap.size w w' := by
  unfold lenR
  by_cases v : Valid b cs
  · by_cases hd : 0 ≤ d ∧ d ≤ 36524
    · rw [if_pos ⟨v, hd⟩]
      exact zlength_in nm b a cap cs d w v z hd.1 hd.2
    · rw [if_neg (fun h => hd h.2)]
      exact zlength_d nm b a cap cs d w hl v hd z
  · rw [if_neg (fun h => v h.1)]
    exact zlength_v nm b a cap cs d w hl v z
set_option maxHeartbeats 1000000 in
set_option maxRecDepth 100000 in
theorem zwindow_v (nm : ByteArray) (b : Int) (a : Option Addr) (cap : Nat) (cs : List (Int × Int)) (f t wf wt : Int) (w : World) (hl : cs.length ≤ 9223372036854775807) (v : ¬ Valid b cs) (z : ZoneAt a cs w) :
    Calls Try.prog 22 #[zv nm b a cs.length cap, .int .i64 f, .int .i64 t, sv wf wt] w fun r w' => r = .returned (.tuple #[.int .i64 0, .int .i64 1]) ∧ Below w.heap.size w w' := by
  have hV := fun w (z : ZoneAt a cs w) => zvalid_any nm b a cap cs w hl z
  rw [decide_eq_false v] at hV
  have HV := Lib.hid hV
  have inv := ZS.start w nm b a cs.length cap cs wf wt z
  clear hV z
  generalize cs.length = len at *
  have k0 := inv.zw.c0
  have k1 := inv.zw.c1
  have k2 := inv.zw.c2
  have k3 := inv.s0
  have k4 := inv.s1
  go_enter Try.func22, Try.ntmps22
  go_wp2_with (first
    | (go_at_call 16; ((with_reducible refine (HV.out _ inv.zw.zone).mono ?_); rintro e w1 ⟨rfl, hn⟩); replace inv := inv.step hn; have k0 := inv.zw.c0; have k1 := inv.zw.c1; have k2 := inv.zw.c2; have k3 := inv.s0; have k4 := inv.s1; clear hn))
  refine bodyPost_ret (results_tmp2 rfl _ _ _) rfl ?_
  exact ⟨rfl, inv.zw.below⟩
set_option maxHeartbeats 1000000 in
set_option maxRecDepth 100000 in
theorem zwindow_s (nm : ByteArray) (b : Int) (a : Option Addr) (cap : Nat) (cs : List (Int × Int)) (f t wf wt : Int) (w : World) (hl : cs.length ≤ 9223372036854775807) (v : Valid b cs) (hs : ¬ Str f t) (z : ZoneAt a cs w) :
    Calls Try.prog 22 #[zv nm b a cs.length cap, .int .i64 f, .int .i64 t, sv wf wt] w fun r w' => r = .returned (.tuple #[.int .i64 0, .int .i64 1]) ∧ Below w.heap.size w w' := by
  have hV := fun w (z : ZoneAt a cs w) => zvalid_any nm b a cap cs w hl z
  rw [decide_eq_true v] at hV
  have HV := Lib.hid hV
  have HS := Lib.hid (fun w => zstretch_is (f := f) (t := t) false (decide_eq_false hs) w)
  have inv := ZS.start w nm b a cs.length cap cs wf wt z
  clear hV z
  generalize cs.length = len at *
  have k0 := inv.zw.c0
  have k1 := inv.zw.c1
  have k2 := inv.zw.c2
  have k3 := inv.s0
  have k4 := inv.s1
  go_enter Try.func22, Try.ntmps22
  go_wp2_with (first
    | (go_at_call 16; ((with_reducible refine (HV.out _ inv.zw.zone).mono ?_); rintro e w1 ⟨rfl, hn⟩); replace inv := inv.step hn; have k0 := inv.zw.c0; have k1 := inv.zw.c1; have k2 := inv.zw.c2; have k3 := inv.s0; have k4 := inv.s1; clear hn)
    | (go_at_call 43; ((with_reducible refine (HS.out _).mono ?_); rintro e w' ⟨rfl, rfl⟩)))
  refine bodyPost_ret (results_tmp2 rfl _ _ _) rfl ?_
  exact ⟨rfl, inv.zw.below⟩
set_option maxHeartbeats 1000000 in
set_option maxRecDepth 100000 in
theorem zwindow_f (nm : ByteArray) (b : Int) (a : Option Addr) (cap : Nat) (cs : List (Int × Int)) (f t wf wt : Int) (w : World) (hl : cs.length ≤ 9223372036854775807) (v : Valid b cs) (hs : Str f t) (hf : ¬ Frm wf wt) (z : ZoneAt a cs w) :
    Calls Try.prog 22 #[zv nm b a cs.length cap, .int .i64 f, .int .i64 t, sv wf wt] w fun r w' => r = .returned (.tuple #[.int .i64 0, .int .i64 1]) ∧ Below w.heap.size w w' := by
  have hV := fun w (z : ZoneAt a cs w) => zvalid_any nm b a cap cs w hl z
  rw [decide_eq_true v] at hV
  have HV := Lib.hid hV
  have HS := Lib.hid (fun w => zstretch_is (f := f) (t := t) true (decide_eq_true hs) w)
  have HF := Lib.hid (fun w => zwindow_is (f := wf) (t := wt) false (decide_eq_false hf) w)
  have inv := ZS.start w nm b a cs.length cap cs wf wt z
  clear hV z
  generalize cs.length = len at *
  have k0 := inv.zw.c0
  have k1 := inv.zw.c1
  have k2 := inv.zw.c2
  have k3 := inv.s0
  have k4 := inv.s1
  go_enter Try.func22, Try.ntmps22
  go_wp2_with (first
    | (go_at_call 16; ((with_reducible refine (HV.out _ inv.zw.zone).mono ?_); rintro e w1 ⟨rfl, hn⟩); replace inv := inv.step hn; have k0 := inv.zw.c0; have k1 := inv.zw.c1; have k2 := inv.zw.c2; have k3 := inv.s0; have k4 := inv.s1; clear hn)
    | (go_at_call 43; ((with_reducible refine (HS.out _).mono ?_); rintro e w' ⟨rfl, rfl⟩))
    | (go_at_call 49; ((with_reducible refine (HF.out _).mono ?_); rintro e w1 ⟨rfl, hn⟩); replace inv := inv.step hn; have k0 := inv.zw.c0; have k1 := inv.zw.c1; have k2 := inv.zw.c2; have k3 := inv.s0; have k4 := inv.s1; clear hn))
  refine bodyPost_ret (results_tmp2 rfl _ _ _) rfl ?_
  exact ⟨rfl, inv.zw.below⟩
set_option maxHeartbeats 1000000 in
set_option maxRecDepth 100000 in
theorem zwindow_b (nm : ByteArray) (b : Int) (a : Option Addr) (cap : Nat) (cs : List (Int × Int)) (f t wf wt : Int) (w : World) (hl : cs.length ≤ 9223372036854775807) (v : Valid b cs) (hs : Str f t) (hf : Frm wf wt) (hb : 44640 < t - f) (z : ZoneAt a cs w) :
    Calls Try.prog 22 #[zv nm b a cs.length cap, .int .i64 f, .int .i64 t, sv wf wt] w fun r w' => r = .returned (.tuple #[.int .i64 0, .int .i64 2]) ∧ Below w.heap.size w w' := by
  have hV := fun w (z : ZoneAt a cs w) => zvalid_any nm b a cap cs w hl z
  rw [decide_eq_true v] at hV
  have HV := Lib.hid hV
  have HS := Lib.hid (fun w => zstretch_is (f := f) (t := t) true (decide_eq_true hs) w)
  have HF := Lib.hid (fun w => zwindow_is (f := wf) (t := wt) true (decide_eq_true hf) w)
  obtain ⟨st0, st1, st2⟩ := hs
  have inv := ZS.start w nm b a cs.length cap cs wf wt z
  clear hV z
  generalize cs.length = len at *
  have k0 := inv.zw.c0
  have k1 := inv.zw.c1
  have k2 := inv.zw.c2
  have k3 := inv.s0
  have k4 := inv.s1
  go_enter Try.func22, Try.ntmps22
  go_wp2_with (first
    | (go_at_call 16; ((with_reducible refine (HV.out _ inv.zw.zone).mono ?_); rintro e w1 ⟨rfl, hn⟩); replace inv := inv.step hn; have k0 := inv.zw.c0; have k1 := inv.zw.c1; have k2 := inv.zw.c2; have k3 := inv.s0; have k4 := inv.s1; clear hn)
    | (go_at_call 43; ((with_reducible refine (HS.out _).mono ?_); rintro e w' ⟨rfl, rfl⟩))
    | (go_at_call 49; ((with_reducible refine (HF.out _).mono ?_); rintro e w1 ⟨rfl, hn⟩); replace inv := inv.step hn; have k0 := inv.zw.c0; have k1 := inv.zw.c1; have k2 := inv.zw.c2; have k3 := inv.s0; have k4 := inv.s1; clear hn))
  refine bodyPost_ret (results_tmp2 rfl _ _ _) rfl ?_
  exact ⟨rfl, inv.zw.below⟩
theorem zwindow_any (nm : ByteArray) (b : Int) (a : Option Addr) (cap : Nat) (cs : List (Int × Int)) (f t wf wt : Int) (w : World) (hl : cs.length ≤ 9223372036854775807) (z : ZoneAt a cs w) :
    Calls Try.prog 22 #[zv nm b a cs.length cap, .int .i64 f, .int .i64 t, sv wf wt] w fun r w' => r = .returned (.tuple #[.int .i64 (winN b cs f t wf wt), .int .i64 (winE b cs f t wf wt)]) ∧ Below w.heap.size w w' := by
  suffices h : ∃ n e, WinRes b cs f t wf wt n e ∧ Calls Try.prog 22 #[zv nm b a cs.length cap, .int .i64 f, .int .i64 t, sv wf wt] w fun r w' => r = .returned (.tuple #[.int .i64 n, .int .i64 e]) ∧ Below w.heap.size w w' by
    obtain ⟨n, e, hr, hc⟩ := h
    obtain ⟨rfl, rfl⟩ := hr.fn
    exact hc
  by_cases v : Valid b cs
  · by_cases hs : Str f t
    · by_cases hf : Frm wf wt
      · by_cases hb : 44640 < t - f
        · exact ⟨0, 2, .inr (.inl ⟨v, hs, hf, hb, rfl, rfl⟩), zwindow_b nm b a cap cs f t wf wt w hl v hs hf hb z⟩
        · exact ⟨_, 0, .inr (.inr ⟨v, hs, hf, by omega, rfl, rfl⟩), zwindow_in nm b a cap cs f t wf wt w v hs hf (by omega) z⟩
      · exact ⟨0, 1, .inl ⟨fun h => hf h.2.2, rfl, rfl⟩, zwindow_f nm b a cap cs f t wf wt w hl v hs hf z⟩
    · exact ⟨0, 1, .inl ⟨fun h => hs h.2.1, rfl, rfl⟩, zwindow_s nm b a cap cs f t wf wt w hl v hs z⟩
  · exact ⟨0, 1, .inl ⟨fun h => v h.1, rfl, rfl⟩, zwindow_v nm b a cap cs f t wf wt w hl v z⟩
/-- The zone's box and the results'. -/
structure SZ (w : World) (nm : ByteArray) (b : Int) (a : Option Addr) (len cap : Nat) (cs : List (Int × Int)) (wx : World) : Prop where
  zw : ZW w w.heap.size nm b a len cap cs wx
  r : Boxed wx (w.heap.size + 1) 34 (.slice none 0 0)
  e : Boxed wx (w.heap.size + 1 + 1) 30 (.int .i64 0)
theorem SZ.step {w : World} {nm : ByteArray} {b : Int} {a : Option Addr} {len cap : Nat} {cs : List (Int × Int)} {wx wn : World} (h : SZ w nm b a len cap cs wx) (k : Below wx.heap.size wx wn) : SZ w nm b a len cap cs wn :=
  ⟨h.zw.step k, (k.block _ h.r.lt).trans h.r, (k.block _ h.e.lt).trans h.e⟩
theorem SZ.start (w : World) (nm : ByteArray) (b : Int) (a : Option Addr) (len cap : Nat) (cs : List (Int × Int)) (z : ZoneAt a cs w) :
    SZ w nm b a len cap cs (((w.alloc (.cells #[.string nm, .int .i64 b, .slice a len cap] 24)).alloc (.cells #[.slice none 0 0] 34)).alloc (.cells #[.int .i64 0] 30)) := by
  have h1 := (Boxed.new (w.alloc (.cells #[.string nm, .int .i64 b, .slice a len cap] 24)) 34 (.slice none 0 0)).alloc (.cells #[.int .i64 0] 30)
  have h2 := Boxed.new ((w.alloc (.cells #[.string nm, .int .i64 b, .slice a len cap] 24)).alloc (.cells #[.slice none 0 0] 34)) 30 (.int .i64 0)
  simp only [World.size_alloc] at h1 h2
  exact ⟨((ZW.start w nm b a len cap cs z).step ((Below.refl _ _).alloc (Nat.le_refl _) _)).step ((Below.refl _ _).alloc (Nat.le_refl _) _), h1, h2⟩
theorem SZ.fin {w : World} {nm : ByteArray} {b : Int} {a : Option Addr} {len cap : Nat} {cs : List (Int × Int)} {wx : World} (h : SZ w nm b a len cap cs wx) (v : Int) :
    ((wx.setCell ⟨w.heap.size + 1, 0, none⟩ (.slice none 0 0)).setCell ⟨w.heap.size + 1 + 1, 0, none⟩ (.int .i64 v)).cell? ⟨w.heap.size + 1, 0, none⟩ = some (.slice none 0 0) ∧
    ((wx.setCell ⟨w.heap.size + 1, 0, none⟩ (.slice none 0 0)).setCell ⟨w.heap.size + 1 + 1, 0, none⟩ (.int .i64 v)).cell? ⟨w.heap.size + 1 + 1, 0, none⟩ = some (.int .i64 v) ∧
    Below w.heap.size w ((wx.setCell ⟨w.heap.size + 1, 0, none⟩ (.slice none 0 0)).setCell ⟨w.heap.size + 1 + 1, 0, none⟩ (.int .i64 v)) :=
  ⟨(Boxed.other (Boxed.set _ h.r) (by omega) _).cell, (Boxed.set _ (Boxed.other h.e (by omega) _)).cell, (h.zw.below.setCell (p := ⟨w.heap.size + 1, 0, none⟩) (by show _ ≤ w.heap.size + 1; omega) _).setCell (p := ⟨w.heap.size + 1 + 1, 0, none⟩) (by show _ ≤ w.heap.size + 1 + 1; omega) _⟩
set_option maxHeartbeats 1000000 in
set_option maxRecDepth 100000 in
theorem zsplit_v (nm : ByteArray) (b : Int) (a : Option Addr) (cap : Nat) (cs : List (Int × Int)) (f t : Int) (w : World) (hl : cs.length ≤ 9223372036854775807) (v : ¬ Valid b cs) (z : ZoneAt a cs w) :
    Calls Try.prog 20 #[zv nm b a cs.length cap, .int .i64 f, .int .i64 t] w fun r w' => r = .returned (.tuple #[.slice none 0 0, .int .i64 1]) ∧ Below w.heap.size w w' := by
  have hV := fun w (z : ZoneAt a cs w) => zvalid_any nm b a cap cs w hl z
  rw [decide_eq_false v] at hV
  have HV := Lib.hid hV
  have inv := SZ.start w nm b a cs.length cap cs z
  clear hV z
  generalize cs.length = len at *
  have k0 := inv.zw.c0
  have k1 := inv.zw.c1
  have k2 := inv.zw.c2
  go_enter Try.func20, Try.ntmps20
  go_wp2_with (first
    | (go_at_call 16; ((with_reducible refine (HV.out _ inv.zw.zone).mono ?_); rintro e w1 ⟨rfl, hn⟩); replace inv := inv.step hn; have k0 := inv.zw.c0; have k1 := inv.zw.c1; have k2 := inv.zw.c2; have k3 := inv.r.cell; have k4 := inv.r.frozen; have k5 := inv.e.cell; have k6 := inv.e.frozen; clear hn))
  obtain ⟨f1, f2, f3⟩ := inv.fin 1
  generalize (_ : World).setCell ⟨w.heap.size + 1 + 1, 0, none⟩ (.int .i64 1) = Z at *
  refine bodyPost_ret (v := .tuple #[.slice none 0 0, .int .i64 1]) (by rw [results_cells2 rfl]; go_simp) rfl ?_
  exact ⟨rfl, f3⟩
set_option maxHeartbeats 1000000 in
set_option maxRecDepth 100000 in
theorem zsplit_s (nm : ByteArray) (b : Int) (a : Option Addr) (cap : Nat) (cs : List (Int × Int)) (f t : Int) (w : World) (hl : cs.length ≤ 9223372036854775807) (v : Valid b cs) (hs : ¬ Str f t) (z : ZoneAt a cs w) :
    Calls Try.prog 20 #[zv nm b a cs.length cap, .int .i64 f, .int .i64 t] w fun r w' => r = .returned (.tuple #[.slice none 0 0, .int .i64 1]) ∧ Below w.heap.size w w' := by
  have hV := fun w (z : ZoneAt a cs w) => zvalid_any nm b a cap cs w hl z
  rw [decide_eq_true v] at hV
  have HV := Lib.hid hV
  have HS := Lib.hid (fun w => zstretch_is (f := f) (t := t) false (decide_eq_false hs) w)
  have inv := SZ.start w nm b a cs.length cap cs z
  clear hV z
  generalize cs.length = len at *
  have k0 := inv.zw.c0
  have k1 := inv.zw.c1
  have k2 := inv.zw.c2
  go_enter Try.func20, Try.ntmps20
  go_wp2_with (first
    | (go_at_call 16; ((with_reducible refine (HV.out _ inv.zw.zone).mono ?_); rintro e w1 ⟨rfl, hn⟩); replace inv := inv.step hn; have k0 := inv.zw.c0; have k1 := inv.zw.c1; have k2 := inv.zw.c2; have k3 := inv.r.cell; have k4 := inv.r.frozen; have k5 := inv.e.cell; have k6 := inv.e.frozen; clear hn)
    | (go_at_call 43; ((with_reducible refine (HS.out _).mono ?_); rintro e w' ⟨rfl, rfl⟩)))
  obtain ⟨f1, f2, f3⟩ := inv.fin 1
  generalize (_ : World).setCell ⟨w.heap.size + 1 + 1, 0, none⟩ (.int .i64 1) = Z at *
  refine bodyPost_ret (v := .tuple #[.slice none 0 0, .int .i64 1]) (by rw [results_cells2 rfl]; go_simp) rfl ?_
  exact ⟨rfl, f3⟩
set_option maxHeartbeats 1000000 in
set_option maxRecDepth 100000 in
theorem zsplit_b (nm : ByteArray) (b : Int) (a : Option Addr) (cap : Nat) (cs : List (Int × Int)) (f t : Int) (w : World) (hl : cs.length ≤ 9223372036854775807) (v : Valid b cs) (hs : Str f t) (hb : 44640 < t - f) (z : ZoneAt a cs w) :
    Calls Try.prog 20 #[zv nm b a cs.length cap, .int .i64 f, .int .i64 t] w fun r w' => r = .returned (.tuple #[.slice none 0 0, .int .i64 2]) ∧ Below w.heap.size w w' := by
  have hV := fun w (z : ZoneAt a cs w) => zvalid_any nm b a cap cs w hl z
  rw [decide_eq_true v] at hV
  have HV := Lib.hid hV
  have HS := Lib.hid (fun w => zstretch_is (f := f) (t := t) true (decide_eq_true hs) w)
  obtain ⟨st0, st1, st2⟩ := hs
  have inv := SZ.start w nm b a cs.length cap cs z
  clear hV z
  generalize cs.length = len at *
  have k0 := inv.zw.c0
  have k1 := inv.zw.c1
  have k2 := inv.zw.c2
  go_enter Try.func20, Try.ntmps20
  go_wp2_with (first
    | (go_at_call 16; ((with_reducible refine (HV.out _ inv.zw.zone).mono ?_); rintro e w1 ⟨rfl, hn⟩); replace inv := inv.step hn; have k0 := inv.zw.c0; have k1 := inv.zw.c1; have k2 := inv.zw.c2; have k3 := inv.r.cell; have k4 := inv.r.frozen; have k5 := inv.e.cell; have k6 := inv.e.frozen; clear hn)
    | (go_at_call 43; ((with_reducible refine (HS.out _).mono ?_); rintro e w' ⟨rfl, rfl⟩)))
  obtain ⟨f1, f2, f3⟩ := inv.fin 2
  generalize (_ : World).setCell ⟨w.heap.size + 1 + 1, 0, none⟩ (.int .i64 2) = Z at *
  refine bodyPost_ret (v := .tuple #[.slice none 0 0, .int .i64 2]) (by rw [results_cells2 rfl]; go_simp) rfl ?_
  exact ⟨rfl, f3⟩
theorem zsplit_any (nm : ByteArray) (b : Int) (a : Option Addr) (cap : Nat) (cs : List (Int × Int)) (f t : Int) (w : World) (hl : cs.length ≤ 9223372036854775807) (z : ZoneAt a cs w) :
    Calls Try.prog 20 #[zv nm b a cs.length cap, .int .i64 f, .int .i64 t] w fun r w' => ∃ a' c', r = .returned (.tuple #[.slice a' (splitL b cs f t).length c', .int .i64 (splitE b cs f t)]) ∧ PortsAt a' (splitL b cs f t) w' ∧ Below w.heap.size w w' := by
  have nilAt : ∀ w', PortsAt none [] w' := fun w' i x hx => by simp at hx
  by_cases v : Valid b cs
  · by_cases hs : Str f t
    · by_cases hb : 44640 < t - f
      · have hE : splitE b cs f t = 2 := by unfold splitE; rw [if_pos ⟨v, hs⟩, if_pos hb]
        have hL : splitL b cs f t = [] := by unfold splitL; rw [if_neg (by omega)]
        rw [hE, hL]
        exact (zsplit_b nm b a cap cs f t w hl v hs hb z).mono (fun r w' h => ⟨none, 0, h.1, nilAt w', h.2⟩)
      · have hs' : 0 ≤ f ∧ f ≤ t := ⟨hs.1, hs.2.1⟩
        have hiff : cnt f (fun s => !decide (0 ≤ loc b cs s / 1440 ∧ loc b cs s / 1440 ≤ 36524)) (t - f).toNat = 0 ↔ ∀ x ∈ dall f b t cs, 0 ≤ x.1 ∧ x.1 ≤ 36524 := by
          have hsum := dall_sum v (fun x => if 0 ≤ x.1 ∧ x.1 ≤ 36524 then 0 else x.2.2 - x.2.1) (fun u => !decide (0 ≤ u / 1440 ∧ u / 1440 ≤ 36524)) (fun n k hk hn => by
            have hr0 := Int.emod_nonneg n (show (1440 : Int) ≠ 0 by decide)
            show (if 0 ≤ n / 1440 ∧ n / 1440 ≤ 36524 then (0 : Int) else n % 1440 + k - n % 1440) = _
            have hc : ∀ u, n ≤ u → u < n + (k.toNat : Int) → u / 1440 = n / 1440 := fun u u0 u1 => by omega
            by_cases h : 0 ≤ n / 1440 ∧ n / 1440 ≤ 36524
            · rw [if_pos h, cnt_congr n (q := fun u => decide (n ≤ u ∧ u < n)) k.toNat (fun u u0 u1 => by
                show (!decide (0 ≤ u / 1440 ∧ u / 1440 ≤ 36524)) = decide _
                rw [hc u u0 u1, decide_eq_true h, decide_eq_false (by omega)]; rfl), cnt_interval]
              omega
            · rw [if_neg h, cnt_congr n (q := fun u => decide (n ≤ u ∧ u < n + k)) k.toNat (fun u u0 u1 => by
                show (!decide (0 ≤ u / 1440 ∧ u / 1440 ≤ 36524)) = decide _
                rw [hc u u0 u1, decide_eq_false h, decide_eq_true (by omega)]; rfl), cnt_interval]
              omega) f t hs'.1 hs'.2
          constructor
          · intro h x hx
            rw [h] at hsum
            by_cases hd : 0 ≤ x.1 ∧ x.1 ≤ 36524
            · exact hd
            · exfalso
              obtain ⟨p, q, hpq⟩ := List.append_of_mem hx
              have hm := fun y (hy : y ∈ dall f b t cs) => dall_mem v (f := f) (t := t) hs'.1 (x := y) hy
              rw [hpq] at hsum hm
              rw [totP_append, totP_cons, if_neg hd] at hsum
              have g := fun (l : List Piece) (hl : ∀ y ∈ l, y ∈ p ++ x :: q) => totP_nonneg (fun x : Piece => if 0 ≤ x.1 ∧ x.1 ≤ 36524 then 0 else x.2.2 - x.2.1) l (fun y hy => by
                have := (hm y (hl y hy)).2.1
                show 0 ≤ (if 0 ≤ y.1 ∧ y.1 ≤ 36524 then (0 : Int) else y.2.2 - y.2.1)
                split <;> omega)
              have h1 := g p (fun y hy => by simp [hy])
              have h2 := g q (fun y hy => by simp [hy])
              have h3 := (hm x (by simp)).2.1
              omega
          · intro h
            have h0 : ∀ l : List Piece, (∀ y ∈ l, 0 ≤ y.1 ∧ y.1 ≤ 36524) → totP (fun x : Piece => if 0 ≤ x.1 ∧ x.1 ≤ 36524 then 0 else x.2.2 - x.2.1) l = 0 := fun l => by
              induction l with
              | nil => intro _; rfl
              | cons y l ih =>
                intro hy
                rw [totP_cons, if_pos (hy y List.mem_cons_self), ih (fun z hz => hy z (List.mem_cons_of_mem _ hz))]; rfl
            rw [h0 _ h] at hsum
            omega
        refine (zsplit_in nm b a cap cs f t w v hs (by omega) z).mono ?_
        rintro r w' ⟨(⟨u, rfl, hR, hall⟩ | ⟨rfl, x, hx, hbad⟩), hB⟩
        · have hE : splitE b cs f t = 0 := by unfold splitE; rw [if_pos ⟨v, hs⟩, if_neg hb, if_pos (hiff.2 hall)]
          have hL : splitL b cs f t = ports (fun s => loc b cs s / 1440) f (t - f).toNat := by unfold splitL; rw [if_pos hE]
          rw [hE, hL]
          obtain ⟨a', c', rfl, hP⟩ := hR.ports
          exact ⟨a', c', rfl, hP, hB⟩
        · have hE : splitE b cs f t = 21 := by unfold splitE; rw [if_pos ⟨v, hs⟩, if_neg hb, if_neg (fun h => hbad (hiff.1 h x hx))]
          have hL : splitL b cs f t = [] := by unfold splitL; rw [if_neg (by omega)]
          rw [hE, hL]
          exact ⟨none, 0, rfl, nilAt w', hB⟩
    · have hE : splitE b cs f t = 1 := by unfold splitE; rw [if_neg (fun h => hs h.2)]
      have hL : splitL b cs f t = [] := by unfold splitL; rw [if_neg (by omega)]
      rw [hE, hL]
      exact (zsplit_s nm b a cap cs f t w hl v hs z).mono (fun r w' h => ⟨none, 0, h.1, nilAt w', h.2⟩)
  · have hE : splitE b cs f t = 1 := by unfold splitE; rw [if_neg (fun h => v h.1)]
    have hL : splitL b cs f t = [] := by unfold splitL; rw [if_neg (by omega)]
    rw [hE, hL]
    exact (zsplit_v nm b a cap cs f t w hl v z).mono (fun r w' h => ⟨none, 0, h.1, nilAt w', h.2⟩)
theorem zc : ZC (fun _ => True) where
  step := fun _ _ _ _ => trivial
  valid := fun nm b a cap cs h w _ z => zvalid_any nm b a cap cs w (by have := h.len; omega) z
  offset := fun nm b a cap cs t h _ w _ z => zOffset_any nm b a cap cs t w (by have := h.len; omega) z
  loc := fun nm b a cap cs t h _ w _ z => zLocal_any nm b a cap cs t w (by have := h.len; omega) z
  insts := fun nm b a cap cs d m h _ _ w _ z => zinstants_any nm b a cap cs d m w (by have := h.len; omega) z
  len := fun nm b a cap cs d h _ w _ z => zlength_any nm b a cap cs d w (by have := h.len; omega) z
  split := fun nm b a cap cs f t h _ _ w _ z => zsplit_any nm b a cap cs f t w (by have := h.len; omega) z
  win := fun nm b a cap cs f t wf wt h _ _ _ _ w _ z => zwindow_any nm b a cap cs f t wf wt w (by have := h.len; omega) z
end Go.Proofs.Ytjmnohbgfkohpaa.Zn
