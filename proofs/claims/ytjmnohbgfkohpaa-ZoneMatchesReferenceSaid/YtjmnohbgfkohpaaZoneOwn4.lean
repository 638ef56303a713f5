/- What package zone's Instants returns for every argument; common and inWindow. Condition: the zone's changes lie in memory as the argument says. -/
import Derived.Test.YtjmnohbgfkohpaaZoneOwn3
import Derived.Test.YtjmnohbgfkohpaaZoneMath5
namespace Go.Proofs.Ytjmnohbgfkohpaa.Zn
open Go.RowKit
set_option maxRecDepth 100000 in
theorem zinstants_out (nm : ByteArray) (b : Int) (a : Option Addr) (cap : Nat) (cs : List (Int × Int)) (d m : Int) (w : World) (hl : cs.length ≤ 9223372036854775807) (h : ¬ (Valid b cs ∧ (0 ≤ d ∧ d ≤ 36524) ∧ 0 ≤ m ∧ m ≤ 1439)) (z : ZoneAt a cs w) :
    Calls Try.prog 26 #[zv nm b a cs.length cap, .int .i64 d, .int .i64 m] w fun r w' => r = .returned (.slice none 0 0) ∧ Below w.heap.size w w' := by
  have hV := fun w (z : ZoneAt a cs w) => zvalid_any nm b a cap cs w hl z
  have inv := ZW.start w nm b a cs.length cap cs z
  clear z
  by_cases v : Valid b cs
  · rw [decide_eq_true v] at hV
    have HV := Lib.hid hV
    clear hV
    by_cases hd : 0 ≤ d ∧ d ≤ 36524
    · have hm : ¬ (0 ≤ m ∧ m ≤ 1439) := fun hm => h ⟨v, hd, hm⟩
      have HD := Lib.hid (fun w => zday_is (n := d) true (decide_eq_true hd) w)
      have HM := Lib.hid (fun w => zminute_is (n := m) false (decide_eq_false hm) w)
      clear h hd hm v
      generalize cs.length = len at *
      have k0 := inv.c0
      have k1 := inv.c1
      have k2 := inv.c2
      go_enter Try.func26, Try.ntmps26
      go_wp2_with (first
        | (go_at_call 16; ((with_reducible refine (HV.out _ inv.zone).mono ?_); rintro e w1 ⟨rfl, hn⟩); replace inv := inv.step hn; clear hn)
        | (go_at_call 35; ((with_reducible refine (HD.out _).mono ?_); rintro e w' ⟨rfl, rfl⟩))
        | (go_at_call 53; ((with_reducible refine (HM.out _).mono ?_); rintro e w' ⟨rfl, rfl⟩)))
      go_ret
      exact ⟨rfl, inv.below⟩
    · have HD := Lib.hid (fun w => zday_is (n := d) false (decide_eq_false hd) w)
      clear h hd v
      generalize cs.length = len at *
      have k0 := inv.c0
      have k1 := inv.c1
      have k2 := inv.c2
      go_enter Try.func26, Try.ntmps26
      go_wp2_with (first
        | (go_at_call 16; ((with_reducible refine (HV.out _ inv.zone).mono ?_); rintro e w1 ⟨rfl, hn⟩); replace inv := inv.step hn; clear hn)
        | (go_at_call 35; ((with_reducible refine (HD.out _).mono ?_); rintro e w' ⟨rfl, rfl⟩)))
      go_ret
      exact ⟨rfl, inv.below⟩
  · rw [decide_eq_false v] at hV
    have HV := Lib.hid hV
    clear hV h v
    generalize cs.length = len at *
    have k0 := inv.c0
    have k1 := inv.c1
    have k2 := inv.c2
    go_enter Try.func26, Try.ntmps26
    go_wp2_with (first
      | (go_at_call 16; ((with_reducible refine (HV.out _ inv.zone).mono ?_); rintro e w1 ⟨rfl, hn⟩); replace inv := inv.step hn; clear hn))
    go_ret
    exact ⟨rfl, inv.below⟩
theorem zinstants_any (nm : ByteArray) (b : Int) (a : Option Addr) (cap : Nat) (cs : List (Int × Int)) (d m : Int) (w : World) (hl : cs.length ≤ 9223372036854775807) (z : ZoneAt a cs w) :
    Calls Try.prog 26 #[zv nm b a cs.length cap, .int .i64 d, .int .i64 m] w fun r w' => ∃ a' c', r = .returned (.slice a' (insR b cs d m).length c') ∧ IntsAt a' (insR b cs d m) w' ∧ Below w.heap.size w w' := by
  unfold insR
  by_cases h : Valid b cs ∧ (0 ≤ d ∧ d ≤ 36524) ∧ 0 ≤ m ∧ m ≤ 1439
  · rw [if_pos h]
    refine (zinstants_in nm b a cap cs d m w h.1 z h.2.1.1 h.2.1.2 h.2.2.1 h.2.2.2).mono ?_
    rintro r w' ⟨v, rfl, hr, hb⟩
    obtain ⟨a', c', rfl, hi⟩ := hr.ints
    exact ⟨a', c', rfl, hi, hb⟩
  · rw [if_neg h]
    refine (zinstants_out nm b a cap cs d m w hl h z).mono ?_
    rintro r w' ⟨rfl, hb⟩
    exact ⟨none, 0, rfl, fun i x hx => by simp at hx, hb⟩
theorem zcommon_any (f t g u : Int) (hf : -4000000000000 ≤ f ∧ f ≤ 4000000000000) (ht : -4000000000000 ≤ t ∧ t ≤ 4000000000000) (hg : -4000000000000 ≤ g ∧ g ≤ 4000000000000) (hu : -4000000000000 ≤ u ∧ u ≤ 4000000000000) (w : World) :
    Calls Try.prog 56 #[sv f t, sv g u] w fun r w' => r = .returned (.int .i64 (com f t g u)) ∧ Below w.heap.size w w' := by
  go_enter Try.func56, Try.ntmps56
  go_wp2
  go_ret
  exact ⟨rfl, ((Below.refl _ _).alloc (Nat.le_refl _) _).alloc (by simp) _⟩
set_option maxHeartbeats 1000000 in
theorem zinwin_any (f t wf wt : Int) (h0 : 0 ≤ f) (h1 : f ≤ t) (h2 : t ≤ 1440) (hw : Frm wf wt) (w : World) :
    Calls Try.prog 50 #[sv f t, sv wf wt] w fun r w' => r = .returned (.int .i64 (inw f t wf wt)) ∧ Below w.heap.size w w' := by
  obtain ⟨w0, w1, w2, w3⟩ := hw
  unfold inw
  have c0 : ((w.alloc (.cells #[.int .i64 f, .int .i64 t] 26)).alloc (.cells #[.int .i64 wf, .int .i64 wt] 26)).cell? ⟨w.heap.size, 0, none⟩ = some (.int .i64 f) := cell_kept ((Below.refl _ _).alloc (Nat.le_refl _) _) (by simp [World.cell?_alloc_new])
  have c1 : ((w.alloc (.cells #[.int .i64 f, .int .i64 t] 26)).alloc (.cells #[.int .i64 wf, .int .i64 wt] 26)).cell? ⟨w.heap.size, 1, none⟩ = some (.int .i64 t) := cell_kept ((Below.refl _ _).alloc (Nat.le_refl _) _) (by simp [World.cell?_alloc_new])
  have c2 : ((w.alloc (.cells #[.int .i64 f, .int .i64 t] 26)).alloc (.cells #[.int .i64 wf, .int .i64 wt] 26)).cell? ⟨w.heap.size + 1, 0, none⟩ = some (.int .i64 wf) := by
    have h := World.cell?_alloc_new (w.alloc (.cells #[.int .i64 f, .int .i64 t] 26))
    simp only [World.size_alloc] at h
    rw [h]; rfl
  have c3 : ((w.alloc (.cells #[.int .i64 f, .int .i64 t] 26)).alloc (.cells #[.int .i64 wf, .int .i64 wt] 26)).cell? ⟨w.heap.size + 1, 1, none⟩ = some (.int .i64 wt) := by
    have h := World.cell?_alloc_new (w.alloc (.cells #[.int .i64 f, .int .i64 t] 26))
    simp only [World.size_alloc] at h
    rw [h]; rfl
  have hb : Below w.heap.size w ((w.alloc (.cells #[.int .i64 f, .int .i64 t] 26)).alloc (.cells #[.int .i64 wf, .int .i64 wt] 26)) := ((Below.refl _ _).alloc (Nat.le_refl _) _).alloc (by simp) _
  by_cases hle : wf ≤ wt
  · rw [if_pos hle]
    have HC := Lib.hid (fun w => zcommon_any f t wf wt (by omega) (by omega) (by omega) (by omega) w)
    generalize com f t wf wt = c at *
    go_enter Try.func50, Try.ntmps50
    go_wp2_with (go_at_call 56; ((with_reducible refine (HC.out _).mono ?_); rintro e w1 ⟨rfl, hn⟩); replace hb := hb.trans (hn.mono hb.size); clear hn)
    go_ret
    exact ⟨rfl, hb⟩
  · rw [if_neg hle]
    have HC := Lib.hid (fun w => zcommon_any f t wf 1440 (by omega) (by omega) (by omega) (by omega) w)
    have HD := Lib.hid (fun w => zcommon_any f t 0 wt (by omega) (by omega) (by omega) (by omega) w)
    have b1 := com_bd (g := wf) (u := 1440) h0 h1 h2
    have b2 := com_bd (g := 0) (u := wt) h0 h1 h2
    generalize com f t wf 1440 = c at *
    generalize com f t 0 wt = d at *
    have hsum := IntWalk.i64_in (c + d) (by omega)
    go_enter Try.func50, Try.ntmps50
    go_wp2_with fail
    generalize (w.alloc (.cells #[.int .i64 f, .int .i64 t] 26)).alloc (.cells #[.int .i64 wf, .int .i64 wt] 26) = w5 at *
    have hd := (Below.refl w5.heap.size w5).drew
    replace hb := hb.trans (hd.mono hb.size)
    replace c0 := cell_kept hd c0
    replace c1 := cell_kept hd c1
    replace c2 := cell_kept hd c2
    replace c3 := cell_kept hd c3
    go_region_held3 (fun w' => w'.cell? ⟨w.heap.size, 0, none⟩ = some (.int .i64 f) ∧ w'.cell? ⟨w.heap.size, 1, none⟩ = some (.int .i64 t) ∧ w'.cell? ⟨w.heap.size + 1, 0, none⟩ = some (.int .i64 wf) ∧ w'.cell? ⟨w.heap.size + 1, 1, none⟩ = some (.int .i64 wt) ∧ Below w.heap.size w w')
      (exact ⟨c0, c1, c2, c3, hb⟩)
      (first
        | (go_at_call 56; ((with_reducible refine (HC.out _).mono ?_); rintro e w1 ⟨rfl, hn⟩); replace hb := hb.trans (hn.mono hb.size); replace c0 := cell_kept hn c0; replace c1 := cell_kept hn c1; replace c2 := cell_kept hn c2; replace c3 := cell_kept hn c3; clear hn)
        | (go_at_call 56; ((with_reducible refine (HD.out _).mono ?_); rintro e w1 ⟨rfl, hn⟩); replace hb := hb.trans (hn.mono hb.size); replace c0 := cell_kept hn c0; replace c1 := cell_kept hn c1; replace c2 := cell_kept hn c2; replace c3 := cell_kept hn c3; clear hn))
    all_goals go_wp2
    all_goals go_ret
    all_goals exact ⟨rfl, hb⟩
theorem zwindow_is {f t : Int} (k : Bool) (h : decide (Frm f t) = k) (w : World) : Calls Try.prog 49 #[sv f t] w fun r w' => r = .returned (.bool k) ∧ Below w.heap.size w w' := by
  subst h
  by_cases h0 : 0 ≤ f
  · by_cases h1 : f ≤ 1440
    · by_cases h2 : 0 ≤ t
      · by_cases h3 : t ≤ 1440
        · rw [decide_eq_true (show Frm f t from ⟨h0, h1, h2, h3⟩)]
          go_enter Try.func49, Try.ntmps49
          go_wp2
          go_ret
          exact ⟨rfl, box2 w f t⟩
        · rw [decide_eq_false (show ¬ Frm f t from fun h => h3 h.2.2.2)]
          have h3' : decide (t ≤ 1440) = false := decide_eq_false h3
          go_enter Try.func49, Try.ntmps49
          go_wp2
          go_ret
          exact ⟨rfl, box2 w f t⟩
      · rw [decide_eq_false (show ¬ Frm f t from fun h => h2 h.2.2.1)]
        have h2' : decide (0 ≤ t) = false := decide_eq_false h2
        go_enter Try.func49, Try.ntmps49
        go_wp2
        go_ret
        exact ⟨rfl, box2 w f t⟩
    · rw [decide_eq_false (show ¬ Frm f t from fun h => h1 h.2.1)]
      have h1' : decide (f ≤ 1440) = false := decide_eq_false h1
      go_enter Try.func49, Try.ntmps49
      go_wp2
      go_ret
      exact ⟨rfl, box2 w f t⟩
  · rw [decide_eq_false (show ¬ Frm f t from fun h => h0 h.1)]
    have h0' : decide (0 ≤ f) = false := decide_eq_false h0
    go_enter Try.func49, Try.ntmps49
    go_wp2
    go_ret
    exact ⟨rfl, box2 w f t⟩
end Go.Proofs.Ytjmnohbgfkohpaa.Zn
