/- The helpers of the laws on zones: the example, what is short; and that the fixed examples come out as the document says. Condition: package zone's contracts. -/
import Derived.Test.YtjmnohbgfkohpaaZoneC
namespace Go.Proofs.Ytjmnohbgfkohpaa.Zn
open Go.RowKit
theorem PortsAt.below {a : Option Addr} {l : List (Int × Int)} {w w' : World} (h : PortsAt a l w) (k : Below w.heap.size w w') : PortsAt a l w' := ZoneAt.below (show ZoneAt a l w from h) k
theorem example_any (w : World) : Calls Try.prog 31 #[] w fun r w' => ∃ nm a, r = .returned (zv nm 60 a 2 2) ∧ ZoneAt a ex w' ∧ Below w.heap.size w w' := by
  go_enter Try.func31, Try.ntmps31
  go_wp2
  refine bodyPost_ret (v := zv ⟨#[120]⟩ 60 (some ⟨w.heap.size + 1, 0, none⟩) 2 2) (by simp [results, Try.results31, go_sem]) rfl ⟨_, _, rfl, fun i x hx => ⟨w.heap.size + 1, 0, rfl, ?_⟩, ((Below.refl _ _).alloc (Nat.le_refl _) _).alloc (by simp) _⟩
  rw [World.cell?_alloc_at _ _ _ _ (by simp), World.cell?_alloc_at _ _ _ _ (by simp)]
  match i, hx with
  | 0, hx => obtain rfl := Option.some.inj hx; exact ⟨rfl, rfl⟩
  | 1, hx => obtain rfl := Option.some.inj hx; exact ⟨rfl, rfl⟩
  | i + 2, hx => simp at hx
theorem short_any (f t : Int) (w : World) : Calls Try.prog 13 #[.int .i64 f, .int .i64 t] w fun r w' => r = .returned (.bool (decide (wrap64 (t - f) ≤ 6000 ∨ 44640 < wrap64 (t - f)))) ∧ w = w' := by
  go_enter Try.func13, Try.ntmps13
  go_wp2
  all_goals go_ret
  all_goals exact ⟨ret_bool (by simp), rfl⟩
section
variable {OK : World → Prop}
/-- What holds on the way of a law: the zone's box, and the world is in order. -/
structure ZK (OK : World → Prop) (w : World) (g : Nat) (nm : ByteArray) (b : Int) (a : Option Addr) (len cap : Nat) (cs : List (Int × Int)) (wx : World) : Prop where
  zw : ZW w g nm b a len cap cs wx
  ok : OK wx
theorem ZK.step {w : World} {g : Nat} {nm : ByteArray} {b : Int} {a : Option Addr} {len cap : Nat} {cs : List (Int × Int)} {wx wn : World} (H : ZC OK) (h : ZK OK w g nm b a len cap cs wx) (k : Below wx.heap.size wx wn) : ZK OK w g nm b a len cap cs wn :=
  ⟨h.zw.step k, H.step _ _ h.ok k⟩
theorem ZK.start (H : ZC OK) (w : World) (nm : ByteArray) (b : Int) (a : Option Addr) (len cap : Nat) (cs : List (Int × Int)) (ok : OK w) (z : ZoneAt a cs w) : ZK OK w w.heap.size nm b a len cap cs (w.alloc (.cells #[.string nm, .int .i64 b, .slice a len cap] 24)) :=
  ⟨ZW.start w nm b a len cap cs z, H.step _ _ ok ((Below.refl _ _).alloc (Nat.le_refl _) _)⟩
theorem alloc_below (w : World) (o : Obj) : Below w.heap.size w (w.alloc o) := (Below.refl _ _).alloc (Nat.le_refl _) _
theorem rng_small {x : Int} (h : -1000000000 ≤ x) (h2 : x ≤ 1000000000) : Rng x := by unfold Rng; omega
theorem h_loc1 (H : ZC OK) (nm : ByteArray) (a : Option Addr) (w : World) (ok : OK w) (z : ZoneAt a ex w) : Calls Try.prog 14 #[zv nm 60 a 2 2, .int .i64 4999] w fun r w' => r = .returned (.tuple #[.int .i64 3, .int .i64 739, .int .i64 0]) ∧ Below w.heap.size w w' := by
  have h := H.loc nm 60 a 2 ex 4999 ex_zr (rng_small (by decide) (by decide)) w ok z
  rwa [ex_loc1.1, ex_loc1.2.1, ex_loc1.2.2] at h
theorem h_loc2 (H : ZC OK) (nm : ByteArray) (a : Option Addr) (w : World) (ok : OK w) (z : ZoneAt a ex w) : Calls Try.prog 14 #[zv nm 60 a 2 2, .int .i64 5000] w fun r w' => r = .returned (.tuple #[.int .i64 3, .int .i64 800, .int .i64 0]) ∧ Below w.heap.size w w' := by
  have h := H.loc nm 60 a 2 ex 5000 ex_zr (rng_small (by decide) (by decide)) w ok z
  rwa [ex_loc2.1, ex_loc2.2.1, ex_loc2.2.2] at h
theorem h_loc3 (H : ZC OK) (nm : ByteArray) (a : Option Addr) (w : World) (ok : OK w) (z : ZoneAt a ex w) : Calls Try.prog 14 #[zv nm 60 a 2 2, .int .i64 (-1)] w fun r w' => r = .returned (.tuple #[.int .i64 0, .int .i64 0, .int .i64 1]) ∧ Below w.heap.size w w' := by
  have h := H.loc nm 60 a 2 ex (-1) ex_zr (rng_small (by decide) (by decide)) w ok z
  rwa [ex_loc3.1, ex_loc3.2.1, ex_loc3.2.2] at h
theorem h_valid (H : ZC OK) (nm : ByteArray) (a : Option Addr) (w : World) (ok : OK w) (z : ZoneAt a ex w) : Calls Try.prog 16 #[zv nm 60 a 2 2] w fun r w' => r = .returned (.bool true) ∧ Below w.heap.size w w' := by
  have h := H.valid nm 60 a 2 ex ex_zr w ok z
  rwa [ex_valid] at h
theorem h_off (H : ZC OK) (nm : ByteArray) (a : Option Addr) (w : World) (ok : OK w) (z : ZoneAt a ex w) : Calls Try.prog 18 #[zv nm 60 a 2 2, .int .i64 (-5)] w fun r w' => r = .returned (.int .i64 60) ∧ Below w.heap.size w w' := by
  have h := H.offset nm 60 a 2 ex (-5) ex_zr (rng_small (by decide) (by decide)) w ok z
  rwa [ex_off] at h
theorem h_ins1 (H : ZC OK) (nm : ByteArray) (a : Option Addr) (w : World) (ok : OK w) (z : ZoneAt a ex w) : Calls Try.prog 26 #[zv nm 60 a 2 2, .int .i64 3, .int .i64 750] w fun r w' => ∃ a' c', r = .returned (.slice a' 0 c') ∧ Below w.heap.size w w' := by
  have h := H.insts nm 60 a 2 ex 3 750 ex_zr (rng_small (by decide) (by decide)) (rng_small (by decide) (by decide)) w ok z
  rw [ex_ins1] at h
  exact h.mono (fun r w' ⟨a', c', h1, _, h3⟩ => ⟨a', c', h1, h3⟩)
theorem h_ins2 (H : ZC OK) (nm : ByteArray) (a : Option Addr) (w : World) (ok : OK w) (z : ZoneAt a ex w) : Calls Try.prog 26 #[zv nm 60 a 2 2, .int .i64 13, .int .i64 1370] w fun r w' => ∃ a' c', r = .returned (.slice a' 2 c') ∧ IntsAt a' [19970, 20030] w' ∧ Below w.heap.size w w' := by
  have h := H.insts nm 60 a 2 ex 13 1370 ex_zr (rng_small (by decide) (by decide)) (rng_small (by decide) (by decide)) w ok z
  rwa [ex_ins2] at h
theorem h_len1 (H : ZC OK) (nm : ByteArray) (a : Option Addr) (w : World) (ok : OK w) (z : ZoneAt a ex w) : Calls Try.prog 28 #[zv nm 60 a 2 2, .int .i64 3] w fun r w' => r = .returned (.int .i64 1380) ∧ Below w.heap.size w w' := by
  have h := H.len nm 60 a 2 ex 3 ex_zr (rng_small (by decide) (by decide)) w ok z
  rwa [ex_len1] at h
theorem h_len2 (H : ZC OK) (nm : ByteArray) (a : Option Addr) (w : World) (ok : OK w) (z : ZoneAt a ex w) : Calls Try.prog 28 #[zv nm 60 a 2 2, .int .i64 13] w fun r w' => r = .returned (.int .i64 1500) ∧ Below w.heap.size w w' := by
  have h := H.len nm 60 a 2 ex 13 ex_zr (rng_small (by decide) (by decide)) w ok z
  rwa [ex_len2] at h
theorem h_len3 (H : ZC OK) (nm : ByteArray) (a : Option Addr) (w : World) (ok : OK w) (z : ZoneAt a ex w) : Calls Try.prog 28 #[zv nm 60 a 2 2, .int .i64 14] w fun r w' => r = .returned (.int .i64 1440) ∧ Below w.heap.size w w' := by
  have h := H.len nm 60 a 2 ex 14 ex_zr (rng_small (by decide) (by decide)) w ok z
  rwa [ex_len3] at h
theorem h_split (H : ZC OK) (nm : ByteArray) (a : Option Addr) (w : World) (ok : OK w) (z : ZoneAt a ex w) : Calls Try.prog 20 #[zv nm 60 a 2 2, .int .i64 4200, .int .i64 5800] w fun r w' => ∃ a' c', r = .returned (.tuple #[.slice a' 3 c', .int .i64 0]) ∧ PortsAt a' [(2, 60), (3, 1380), (4, 160)] w' ∧ Below w.heap.size w w' := by
  have h := H.split nm 60 a 2 ex 4200 5800 ex_zr (rng_small (by decide) (by decide)) (rng_small (by decide) (by decide)) w ok z
  rwa [ex_split.1, ex_split.2] at h
theorem h_win (H : ZC OK) (nm : ByteArray) (a : Option Addr) (w : World) (ok : OK w) (z : ZoneAt a ex w) : Calls Try.prog 22 #[zv nm 60 a 2 2, .int .i64 4200, .int .i64 5800, sv 1380 360] w fun r w' => r = .returned (.tuple #[.int .i64 640, .int .i64 0]) ∧ Below w.heap.size w w' := by
  have h := H.win nm 60 a 2 ex 4200 5800 1380 360 ex_zr (rng_small (by decide) (by decide)) (rng_small (by decide) (by decide)) (rng_small (by decide) (by decide)) (rng_small (by decide) (by decide)) w ok z
  rwa [ex_win.1, ex_win.2] at h
end
theorem h_ints (a' : Option Addr) (c' : Nat) (w : World) (h : IntsAt a' [19970, 20030] w) : Calls Try.prog 25 #[.slice a' 2 c', .slice (some ⟨w.heap.size, 0, none⟩) 2 2] (w.alloc (.cells #[.int .i64 19970, .int .i64 20030] 3)) fun r w' => r = .returned (.bool true) ∧ Below w.heap.size w w' := by
  have h2 : IntsAt (some ⟨w.heap.size, 0, none⟩) [19970, 20030] (w.alloc (.cells #[.int .i64 19970, .int .i64 20030] 3)) := fun i x hx => ⟨w.heap.size, 0, rfl, by
    rw [World.cell?_alloc_new]
    match i, hx with
    | 0, hx => obtain rfl := Option.some.inj hx; rfl
    | 1, hx => obtain rfl := Option.some.inj hx; rfl
    | i + 2, hx => simp at hx⟩
  refine (rints_any a' (some ⟨w.heap.size, 0, none⟩) c' 2 [19970, 20030] [19970, 20030] _ (by decide) (h.below (alloc_below _ _)) h2).mono ?_
  rintro r w' ⟨rfl, hb⟩
  exact ⟨ret_bool (decide_eq_true rfl), block_then (alloc_below _ _) hb⟩
theorem h_same (a' : Option Addr) (c' : Nat) (w : World) (h : PortsAt a' [(2, 60), (3, 1380), (4, 160)] w) : Calls Try.prog 24 #[.slice a' 3 c', .slice (some ⟨w.heap.size, 0, none⟩) 3 3] (w.alloc (.cells #[.int .i64 2, .int .i64 60, .int .i64 3, .int .i64 1380, .int .i64 4, .int .i64 160] 46)) fun r w' => r = .returned (.bool true) ∧ Below w.heap.size w w' := by
  have h2 : PortsAt (some ⟨w.heap.size, 0, none⟩) [(2, 60), (3, 1380), (4, 160)] (w.alloc (.cells #[.int .i64 2, .int .i64 60, .int .i64 3, .int .i64 1380, .int .i64 4, .int .i64 160] 46)) := fun i x hx => ⟨w.heap.size, 0, rfl, by
    rw [World.cell?_alloc_new, World.cell?_alloc_new]
    match i, hx with
    | 0, hx => obtain rfl := Option.some.inj hx; exact ⟨rfl, rfl⟩
    | 1, hx => obtain rfl := Option.some.inj hx; exact ⟨rfl, rfl⟩
    | 2, hx => obtain rfl := Option.some.inj hx; exact ⟨rfl, rfl⟩
    | i + 3, hx => simp at hx⟩
  refine (rsame_any a' (some ⟨w.heap.size, 0, none⟩) c' 3 [(2, 60), (3, 1380), (4, 160)] [(2, 60), (3, 1380), (4, 160)] _ (by decide) (h.below (alloc_below _ _)) h2).mono ?_
  rintro r w' ⟨rfl, hb⟩
  exact ⟨ret_bool (decide_eq_true rfl), block_then (alloc_below _ _) hb⟩
set_option maxHeartbeats 2000000 in
theorem head_any {OK : World → Prop} (H : ZC OK) (w : World) (ok : OK w) : Calls Try.prog 11 #[] w fun r w' => r = .returned (.bool true) ∧ Below w.heap.size w w' := by
  have C := Lib.hid H
  have HOK := Lib.hid ok
  clear H ok
  go_enter Try.func11, Try.ntmps11
  go_wp2_with (first
    | (go_at_call 31; with_reducible refine (example_any _).mono ?_; rintro e w1 ⟨nm, a, rfl, hz, hb⟩; have HB := Lib.hid hb; have inv := ZK.start C.out w1 nm 60 a 2 2 ex (C.out.step _ _ HOK.out hb) hz; clear hb hz; have k0 := inv.zw.c0; have k1 := inv.zw.c1; have k2 := inv.zw.c2)
    | (go_at_call 14; with_reducible refine (h_loc1 C.out _ _ _ inv.ok inv.zw.zone).mono ?_; rintro e w2 ⟨rfl, hn⟩; replace inv := inv.step C.out hn; have k0 := inv.zw.c0; have k1 := inv.zw.c1; have k2 := inv.zw.c2; clear hn)
    | (go_at_call 14; with_reducible refine (h_loc2 C.out _ _ _ inv.ok inv.zw.zone).mono ?_; rintro e w2 ⟨rfl, hn⟩; replace inv := inv.step C.out hn; have k0 := inv.zw.c0; have k1 := inv.zw.c1; have k2 := inv.zw.c2; clear hn)
    | (go_at_call 14; with_reducible refine (h_loc3 C.out _ _ _ inv.ok inv.zw.zone).mono ?_; rintro e w2 ⟨rfl, hn⟩; replace HP := Lib.hid (PortsAt.below HP.out hn); replace inv := inv.step C.out hn; have k0 := inv.zw.c0; have k1 := inv.zw.c1; have k2 := inv.zw.c2; clear hn)
    | (go_at_call 16; with_reducible refine (h_valid C.out _ _ _ inv.ok inv.zw.zone).mono ?_; rintro e w2 ⟨rfl, hn⟩; replace inv := inv.step C.out hn; have k0 := inv.zw.c0; have k1 := inv.zw.c1; have k2 := inv.zw.c2; clear hn)
    | (go_at_call 18; with_reducible refine (h_off C.out _ _ _ inv.ok inv.zw.zone).mono ?_; rintro e w2 ⟨rfl, hn⟩; replace inv := inv.step C.out hn; have k0 := inv.zw.c0; have k1 := inv.zw.c1; have k2 := inv.zw.c2; clear hn)
    | (go_at_call 26; with_reducible refine (h_ins1 C.out _ _ _ inv.ok inv.zw.zone).mono ?_; rintro e w2 ⟨a1, c1, rfl, hn⟩; replace inv := inv.step C.out hn; have k0 := inv.zw.c0; have k1 := inv.zw.c1; have k2 := inv.zw.c2; clear hn)
    | (go_at_call 26; with_reducible refine (h_ins2 C.out _ _ _ inv.ok inv.zw.zone).mono ?_; rintro e w2 ⟨a2, c2, rfl, hi, hn⟩; have HI := Lib.hid hi; clear hi; replace inv := inv.step C.out hn; have k0 := inv.zw.c0; have k1 := inv.zw.c1; have k2 := inv.zw.c2; clear hn)
    | (go_at_call 25; with_reducible refine (h_ints _ _ _ HI.out).mono ?_; rintro e w2 ⟨rfl, hn⟩; replace inv := inv.step C.out hn; have k0 := inv.zw.c0; have k1 := inv.zw.c1; have k2 := inv.zw.c2; clear hn)
    | (go_at_call 28; with_reducible refine (h_len1 C.out _ _ _ inv.ok inv.zw.zone).mono ?_; rintro e w2 ⟨rfl, hn⟩; replace inv := inv.step C.out hn; have k0 := inv.zw.c0; have k1 := inv.zw.c1; have k2 := inv.zw.c2; clear hn)
    | (go_at_call 28; with_reducible refine (h_len2 C.out _ _ _ inv.ok inv.zw.zone).mono ?_; rintro e w2 ⟨rfl, hn⟩; replace inv := inv.step C.out hn; have k0 := inv.zw.c0; have k1 := inv.zw.c1; have k2 := inv.zw.c2; clear hn)
    | (go_at_call 28; with_reducible refine (h_len3 C.out _ _ _ inv.ok inv.zw.zone).mono ?_; rintro e w2 ⟨rfl, hn⟩; replace inv := inv.step C.out hn; have k0 := inv.zw.c0; have k1 := inv.zw.c1; have k2 := inv.zw.c2; clear hn)
    | (go_at_call 20; with_reducible refine (h_split C.out _ _ _ inv.ok inv.zw.zone).mono ?_; rintro e w2 ⟨a3, c3, rfl, hi, hn⟩; have HP := Lib.hid hi; clear hi; replace inv := inv.step C.out hn; have k0 := inv.zw.c0; have k1 := inv.zw.c1; have k2 := inv.zw.c2; clear hn)
    | (go_at_call 22; with_reducible refine (h_win C.out _ _ _ inv.ok inv.zw.zone).mono ?_; rintro e w2 ⟨rfl, hn⟩; replace inv := inv.step C.out hn; replace HP := Lib.hid (PortsAt.below HP.out hn); have k0 := inv.zw.c0; have k1 := inv.zw.c1; have k2 := inv.zw.c2; clear hn)
    | (go_at_call 24; with_reducible refine (h_same _ _ _ HP.out).mono ?_; rintro e w2 ⟨rfl, hn⟩; replace inv := inv.step C.out hn; clear hn))
  go_ret
  exact ⟨rfl, block_then HB.out inv.zw.below⟩
end Go.Proofs.Ytjmnohbgfkohpaa.Zn
