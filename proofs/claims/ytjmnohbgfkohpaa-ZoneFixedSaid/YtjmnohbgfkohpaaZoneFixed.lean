/- The law ZoneFixed returns true. Condition: package zone's contracts. -/
import Derived.Test.YtjmnohbgfkohpaaZoneRunning
namespace Go.Proofs.Ytjmnohbgfkohpaa.Zn
open Go.RowKit
theorem fixed_insts {b : Int} (v : Valid b []) (d m : Int) (d0 : 1 ≤ d) (d1 : d ≤ 36523) (m0 : 0 ≤ m) (m1 : m ≤ 1439) : insts b [] d m = [1440 * d + m - b] :=
  sorted_ext (insts_sorted d m) (List.pairwise_singleton _ _) (fun t => by
    have hv := bd v t
    rw [insts_mem v d m t, List.mem_singleton]
    have e : loc b [] t = t + b := rfl
    have e2 : offFrom b [] t = b := rfl
    rw [e]
    omega)
theorem sumTo_const (n : Nat) (f : Nat → Nat) (h : ∀ i, i < n → f i = 1) : sumTo f n = n := by
  induction n with
  | zero => rfl
  | succ n ih =>
    show sumTo f n + f n = n + 1
    rw [ih (fun i hi => h i (by omega)), h n (by omega)]
theorem fixed_len {b : Int} (v : Valid b []) (d : Int) (d0 : 1 ≤ d) (d1 : d ≤ 36523) : dlen b [] d = 1440 := by
  rw [← dlen_sum v d]
  exact sumTo_const 1440 _ (fun i hi => by rw [fixed_insts v d i d0 d1 (by omega) (by omega)]; rfl)
theorem ints_one (a' : Option Addr) (c' : Nat) (x : Int) (w : World) (h : IntsAt a' [x] w) : Calls Try.prog 25 #[.slice a' 1 c', .slice (some ⟨w.heap.size, 0, none⟩) 1 1] (w.alloc (.cells #[.int .i64 x] 3)) fun r w' => r = .returned (.bool true) ∧ Below w.heap.size w w' := by
  have h2 : IntsAt (some ⟨w.heap.size, 0, none⟩) [x] (w.alloc (.cells #[.int .i64 x] 3)) := fun i y hy => ⟨w.heap.size, 0, rfl, by
    rw [World.cell?_alloc_new]
    match i, hy with
    | 0, hy => obtain rfl := Option.some.inj hy; rfl
    | i + 1, hy => simp at hy⟩
  refine (rints_any a' (some ⟨w.heap.size, 0, none⟩) c' 1 [x] [x] _ (Nat.le_of_lt (by show 1 < _; decide)) (h.below (alloc_below _ _)) h2).mono ?_
  rintro r w' ⟨rfl, hb⟩
  exact ⟨ret_bool (decide_eq_true rfl), block_then (alloc_below _ _) hb⟩
theorem zone_nil (a : Option Addr) (w : World) : ZoneAt a [] w := fun i x hx => by simp at hx
set_option maxHeartbeats 4000000 in
theorem fixed_walk {OK : World → Prop} (H : ZC OK) (b t d m : Int) (w : World) (hb : Rng b) (ht : Rng t) (hd : Rng d) (hm : Rng m) (ok : OK w) :
    Calls Try.prog 8 #[.int .i64 b, .int .i64 t, .int .i64 d, .int .i64 m] w fun r w' => r = .returned (.bool true) ∧ Below w.heap.size w w' := by
  obtain ⟨nm, hnm⟩ : ∃ nm : ByteArray, nm = ⟨#[102, 105, 120, 101, 100]⟩ := ⟨_, rfl⟩
  have zr : ZR b [] := ⟨by decide, hb, fun x hx => by cases hx⟩
  have hV := fun w => rvalid_any nm b none 0 [] w (by decide) (zone_nil _ _)
  have hW := fun w ok => H.valid nm b none 0 [] zr w ok (zone_nil _ _)
  simp only [List.length_nil] at hV hW
  have HOK := Lib.hid ok
  clear ok
  by_cases v : Valid b []
  · rw [decide_eq_true v] at hV
    have hvb := v.2.1
    have hvb2 := v.2.2.1
    have hL := fun w ok => H.loc nm b none 0 [] t zr ht w ok (zone_nil _ _)
    simp only [List.length_nil] at hL
    have hpre : (locE b [] t = 0 ∧ locD b [] t * 1440 + locM b [] t = t + b ∧ 0 ≤ t ∧ t ≤ 52595999 ∧ 0 ≤ locD b [] t ∧ locD b [] t ≤ 36524 ∧ 0 ≤ locM b [] t ∧ locM b [] t ≤ 1439) ∨ locE b [] t = 1 ∨ (locE b [] t = 21 ∧ 0 ≤ t ∧ t ≤ 52595999 ∧ (t + b < 0 ∨ 52595999 < t + b)) := by
      rcases locE_kinds b [] t with h | h | h
      · obtain ⟨⟨-, t0, t1⟩, h1, h2, h3, h4, h5, -⟩ := locE_ok h
        exact .inl ⟨h, h1, t0, t1, h2, h3, h4, h5⟩
      · exact .inr (.inl h)
      · refine .inr (.inr ⟨h, ?_⟩)
        have h1 : Valid b [] ∧ 0 ≤ t ∧ t ≤ 52595999 := Classical.byContradiction (fun hn => by rw [(locE_arg b [] t).2 hn] at h; exact absurd h (by decide))
        have h2 : ¬ (0 ≤ loc b [] t / 1440 ∧ loc b [] t / 1440 ≤ 36524) := fun hh => by unfold locE at h; rw [if_pos h1, if_pos hh] at h; exact absurd h (by decide)
        have e : loc b [] t = t + b := rfl
        rw [e] at h2
        omega
    have HV := Lib.hid hV
    generalize locE b [] t = q at *
    generalize locD b [] t = x at *
    generalize locM b [] t = y at *
    have HL := Lib.hid hL
    have C := Lib.hid H
    by_cases hin : (1 ≤ d ∧ d ≤ 36523) ∧ 0 ≤ m ∧ m ≤ 1439
    · obtain ⟨⟨d0, d1⟩, m0, m1⟩ := hin
      have hN := fun w ok => H.len nm b none 0 [] d zr hd w ok (zone_nil _ _)
      rw [show lenR b [] d = dlen b [] d from if_pos ⟨v, by omega, by omega⟩, fixed_len v d d0 d1] at hN
      have hI := fun w ok => H.insts nm b none 0 [] d m zr hd hm w ok (zone_nil _ _)
      rw [show insR b [] d m = insts b [] d m from if_pos ⟨v, ⟨by omega, by omega⟩, by omega, by omega⟩, fixed_insts v d m d0 d1 m0 m1, show 1440 * d + m - b = d * 1440 + m - b by omega] at hI
      simp only [List.length_nil, List.length_singleton] at hN hI
      have HN := Lib.hid hN
      have HI := Lib.hid hI
      clear H hb ht hd hm zr v hV hW hL hN hI
      rcases hpre with ⟨rfl, h1, h2, h3, h4, h5, h6, h7⟩ | rfl | ⟨rfl, h1, h2, h3⟩
      · go_enter Try.func8, Try.ntmps8
        go_wp2_with (first
          | (go_at_call 11; with_reducible refine (head_any C.out _ HOK.out).mono ?_; rintro e w1 ⟨rfl, hn⟩; have HB := Lib.hid hn; have inv := ZK.start C.out w1 nm b none 0 0 [] (C.out.step _ _ HOK.out hn) (zone_nil _ _); subst hnm; have k0 := inv.zw.c0; have k1 := inv.zw.c1; have k2 := inv.zw.c2; clear hn)
          | (go_at_call 17; with_reducible refine (HV.out _).mono ?_; rintro e w2 ⟨rfl, hn⟩; replace inv := inv.step C.out hn; have k0 := inv.zw.c0; have k1 := inv.zw.c1; have k2 := inv.zw.c2; clear hn)
          | (go_at_call 14; with_reducible refine (HL.out _ inv.ok).mono ?_; rintro e w2 ⟨rfl, hn⟩; replace inv := inv.step C.out hn; have k0 := inv.zw.c0; have k1 := inv.zw.c1; have k2 := inv.zw.c2; clear hn)
          | (go_at_call 28; with_reducible refine (HN.out _ inv.ok).mono ?_; rintro e w2 ⟨rfl, hn⟩; replace inv := inv.step C.out hn; have k0 := inv.zw.c0; have k1 := inv.zw.c1; have k2 := inv.zw.c2; clear hn)
          | (go_at_call 26; with_reducible refine (HI.out _ inv.ok).mono ?_; rintro e w2 ⟨a2, c2, rfl, hi, hn⟩; have HIA := Lib.hid hi; clear hi; replace inv := inv.step C.out hn; have k0 := inv.zw.c0; have k1 := inv.zw.c1; have k2 := inv.zw.c2; clear hn)
          | (go_at_call 25; with_reducible refine (ints_one _ _ _ _ HIA.out).mono ?_; rintro e w2 ⟨rfl, hn⟩; replace inv := inv.step C.out hn; have k0 := inv.zw.c0; have k1 := inv.zw.c1; have k2 := inv.zw.c2; clear hn))
        go_ret
        exact ⟨rfl, block_then HB.out inv.zw.below⟩
      · go_enter Try.func8, Try.ntmps8
        go_wp2_with (first
          | (go_at_call 11; with_reducible refine (head_any C.out _ HOK.out).mono ?_; rintro e w1 ⟨rfl, hn⟩; have HB := Lib.hid hn; have inv := ZK.start C.out w1 nm b none 0 0 [] (C.out.step _ _ HOK.out hn) (zone_nil _ _); subst hnm; have k0 := inv.zw.c0; have k1 := inv.zw.c1; have k2 := inv.zw.c2; clear hn)
          | (go_at_call 17; with_reducible refine (HV.out _).mono ?_; rintro e w2 ⟨rfl, hn⟩; replace inv := inv.step C.out hn; have k0 := inv.zw.c0; have k1 := inv.zw.c1; have k2 := inv.zw.c2; clear hn)
          | (go_at_call 14; with_reducible refine (HL.out _ inv.ok).mono ?_; rintro e w2 ⟨rfl, hn⟩; replace inv := inv.step C.out hn; have k0 := inv.zw.c0; have k1 := inv.zw.c1; have k2 := inv.zw.c2; clear hn)
          | (go_at_call 28; with_reducible refine (HN.out _ inv.ok).mono ?_; rintro e w2 ⟨rfl, hn⟩; replace inv := inv.step C.out hn; have k0 := inv.zw.c0; have k1 := inv.zw.c1; have k2 := inv.zw.c2; clear hn)
          | (go_at_call 26; with_reducible refine (HI.out _ inv.ok).mono ?_; rintro e w2 ⟨a2, c2, rfl, hi, hn⟩; have HIA := Lib.hid hi; clear hi; replace inv := inv.step C.out hn; have k0 := inv.zw.c0; have k1 := inv.zw.c1; have k2 := inv.zw.c2; clear hn)
          | (go_at_call 25; with_reducible refine (ints_one _ _ _ _ HIA.out).mono ?_; rintro e w2 ⟨rfl, hn⟩; replace inv := inv.step C.out hn; have k0 := inv.zw.c0; have k1 := inv.zw.c1; have k2 := inv.zw.c2; clear hn))
        go_ret
        exact ⟨rfl, block_then HB.out inv.zw.below⟩
      · have e1 : decide (0 ≤ t + b ∧ t + b ≤ 52595999) = false := decide_eq_false (by omega)
        rcases h3 with h3 | h3
        · go_enter Try.func8, Try.ntmps8
          go_wp2_with (first
            | (go_at_call 11; with_reducible refine (head_any C.out _ HOK.out).mono ?_; rintro e w1 ⟨rfl, hn⟩; have HB := Lib.hid hn; have inv := ZK.start C.out w1 nm b none 0 0 [] (C.out.step _ _ HOK.out hn) (zone_nil _ _); subst hnm; have k0 := inv.zw.c0; have k1 := inv.zw.c1; have k2 := inv.zw.c2; clear hn)
            | (go_at_call 17; with_reducible refine (HV.out _).mono ?_; rintro e w2 ⟨rfl, hn⟩; replace inv := inv.step C.out hn; have k0 := inv.zw.c0; have k1 := inv.zw.c1; have k2 := inv.zw.c2; clear hn)
            | (go_at_call 14; with_reducible refine (HL.out _ inv.ok).mono ?_; rintro e w2 ⟨rfl, hn⟩; replace inv := inv.step C.out hn; have k0 := inv.zw.c0; have k1 := inv.zw.c1; have k2 := inv.zw.c2; clear hn)
            | (go_at_call 28; with_reducible refine (HN.out _ inv.ok).mono ?_; rintro e w2 ⟨rfl, hn⟩; replace inv := inv.step C.out hn; have k0 := inv.zw.c0; have k1 := inv.zw.c1; have k2 := inv.zw.c2; clear hn)
            | (go_at_call 26; with_reducible refine (HI.out _ inv.ok).mono ?_; rintro e w2 ⟨a2, c2, rfl, hi, hn⟩; have HIA := Lib.hid hi; clear hi; replace inv := inv.step C.out hn; have k0 := inv.zw.c0; have k1 := inv.zw.c1; have k2 := inv.zw.c2; clear hn)
            | (go_at_call 25; with_reducible refine (ints_one _ _ _ _ HIA.out).mono ?_; rintro e w2 ⟨rfl, hn⟩; replace inv := inv.step C.out hn; have k0 := inv.zw.c0; have k1 := inv.zw.c1; have k2 := inv.zw.c2; clear hn))
          go_ret
          exact ⟨rfl, block_then HB.out inv.zw.below⟩
        · go_enter Try.func8, Try.ntmps8
          go_wp2_with (first
            | (go_at_call 11; with_reducible refine (head_any C.out _ HOK.out).mono ?_; rintro e w1 ⟨rfl, hn⟩; have HB := Lib.hid hn; have inv := ZK.start C.out w1 nm b none 0 0 [] (C.out.step _ _ HOK.out hn) (zone_nil _ _); subst hnm; have k0 := inv.zw.c0; have k1 := inv.zw.c1; have k2 := inv.zw.c2; clear hn)
            | (go_at_call 17; with_reducible refine (HV.out _).mono ?_; rintro e w2 ⟨rfl, hn⟩; replace inv := inv.step C.out hn; have k0 := inv.zw.c0; have k1 := inv.zw.c1; have k2 := inv.zw.c2; clear hn)
            | (go_at_call 14; with_reducible refine (HL.out _ inv.ok).mono ?_; rintro e w2 ⟨rfl, hn⟩; replace inv := inv.step C.out hn; have k0 := inv.zw.c0; have k1 := inv.zw.c1; have k2 := inv.zw.c2; clear hn)
            | (go_at_call 28; with_reducible refine (HN.out _ inv.ok).mono ?_; rintro e w2 ⟨rfl, hn⟩; replace inv := inv.step C.out hn; have k0 := inv.zw.c0; have k1 := inv.zw.c1; have k2 := inv.zw.c2; clear hn)
            | (go_at_call 26; with_reducible refine (HI.out _ inv.ok).mono ?_; rintro e w2 ⟨a2, c2, rfl, hi, hn⟩; have HIA := Lib.hid hi; clear hi; replace inv := inv.step C.out hn; have k0 := inv.zw.c0; have k1 := inv.zw.c1; have k2 := inv.zw.c2; clear hn)
            | (go_at_call 25; with_reducible refine (ints_one _ _ _ _ HIA.out).mono ?_; rintro e w2 ⟨rfl, hn⟩; replace inv := inv.step C.out hn; have k0 := inv.zw.c0; have k1 := inv.zw.c1; have k2 := inv.zw.c2; clear hn))
          go_ret
          exact ⟨rfl, block_then HB.out inv.zw.below⟩
    · have hin' : d < 1 ∨ (1 ≤ d ∧ 36523 < d) ∨ (1 ≤ d ∧ d ≤ 36523 ∧ m < 0) ∨ (1 ≤ d ∧ d ≤ 36523 ∧ 0 ≤ m ∧ 1439 < m) := by omega
      clear H hb ht hd hm zr v hV hW hL hin
      rcases hpre with ⟨rfl, h1, h2, h3, h4, h5, h6, h7⟩ | rfl | ⟨rfl, h1, h2, h3⟩
      · rcases hin' with g | ⟨g, g1⟩ | ⟨g, g1, g2⟩ | ⟨g, g1, g2, g3⟩
        all_goals go_enter Try.func8, Try.ntmps8
        all_goals (go_wp2_with (first
          | (go_at_call 11; with_reducible refine (head_any C.out _ HOK.out).mono ?_; rintro e w1 ⟨rfl, hn⟩; have HB := Lib.hid hn; have inv := ZK.start C.out w1 nm b none 0 0 [] (C.out.step _ _ HOK.out hn) (zone_nil _ _); subst hnm; have k0 := inv.zw.c0; have k1 := inv.zw.c1; have k2 := inv.zw.c2; clear hn)
          | (go_at_call 17; with_reducible refine (HV.out _).mono ?_; rintro e w2 ⟨rfl, hn⟩; replace inv := inv.step C.out hn; have k0 := inv.zw.c0; have k1 := inv.zw.c1; have k2 := inv.zw.c2; clear hn)
          | (go_at_call 14; with_reducible refine (HL.out _ inv.ok).mono ?_; rintro e w2 ⟨rfl, hn⟩; replace inv := inv.step C.out hn; have k0 := inv.zw.c0; have k1 := inv.zw.c1; have k2 := inv.zw.c2; clear hn)))
        all_goals go_ret
        all_goals exact ⟨rfl, block_then HB.out inv.zw.below⟩
      · rcases hin' with g | ⟨g, g1⟩ | ⟨g, g1, g2⟩ | ⟨g, g1, g2, g3⟩
        all_goals go_enter Try.func8, Try.ntmps8
        all_goals (go_wp2_with (first
          | (go_at_call 11; with_reducible refine (head_any C.out _ HOK.out).mono ?_; rintro e w1 ⟨rfl, hn⟩; have HB := Lib.hid hn; have inv := ZK.start C.out w1 nm b none 0 0 [] (C.out.step _ _ HOK.out hn) (zone_nil _ _); subst hnm; have k0 := inv.zw.c0; have k1 := inv.zw.c1; have k2 := inv.zw.c2; clear hn)
          | (go_at_call 17; with_reducible refine (HV.out _).mono ?_; rintro e w2 ⟨rfl, hn⟩; replace inv := inv.step C.out hn; have k0 := inv.zw.c0; have k1 := inv.zw.c1; have k2 := inv.zw.c2; clear hn)
          | (go_at_call 14; with_reducible refine (HL.out _ inv.ok).mono ?_; rintro e w2 ⟨rfl, hn⟩; replace inv := inv.step C.out hn; have k0 := inv.zw.c0; have k1 := inv.zw.c1; have k2 := inv.zw.c2; clear hn)))
        all_goals go_ret
        all_goals exact ⟨rfl, block_then HB.out inv.zw.below⟩
      · rcases h3 with h3 | h3
        all_goals rcases hin' with g | ⟨g, g1⟩ | ⟨g, g1, g2⟩ | ⟨g, g1, g2, g3⟩
        all_goals go_enter Try.func8, Try.ntmps8
        all_goals (go_wp2_with (first
          | (go_at_call 11; with_reducible refine (head_any C.out _ HOK.out).mono ?_; rintro e w1 ⟨rfl, hn⟩; have HB := Lib.hid hn; have inv := ZK.start C.out w1 nm b none 0 0 [] (C.out.step _ _ HOK.out hn) (zone_nil _ _); subst hnm; have k0 := inv.zw.c0; have k1 := inv.zw.c1; have k2 := inv.zw.c2; clear hn)
          | (go_at_call 17; with_reducible refine (HV.out _).mono ?_; rintro e w2 ⟨rfl, hn⟩; replace inv := inv.step C.out hn; have k0 := inv.zw.c0; have k1 := inv.zw.c1; have k2 := inv.zw.c2; clear hn)
          | (go_at_call 14; with_reducible refine (HL.out _ inv.ok).mono ?_; rintro e w2 ⟨rfl, hn⟩; replace inv := inv.step C.out hn; have k0 := inv.zw.c0; have k1 := inv.zw.c1; have k2 := inv.zw.c2; clear hn)))
        all_goals go_ret
        all_goals exact ⟨rfl, block_then HB.out inv.zw.below⟩
  · rw [decide_eq_false v] at hV
    rw [decide_eq_false v] at hW
    have HV := Lib.hid hV
    have HW := Lib.hid hW
    have C := Lib.hid H
    clear H hb ht hd hm zr v hV hW
    go_enter Try.func8, Try.ntmps8
    go_wp2_with (first
      | (go_at_call 11; with_reducible refine (head_any C.out _ HOK.out).mono ?_; rintro e w1 ⟨rfl, hn⟩; have HB := Lib.hid hn; have inv := ZK.start C.out w1 nm b none 0 0 [] (C.out.step _ _ HOK.out hn) (zone_nil _ _); subst hnm; have k0 := inv.zw.c0; have k1 := inv.zw.c1; have k2 := inv.zw.c2; clear hn)
      | (go_at_call 17; with_reducible refine (HV.out _).mono ?_; rintro e w2 ⟨rfl, hn⟩; replace inv := inv.step C.out hn; have k0 := inv.zw.c0; have k1 := inv.zw.c1; have k2 := inv.zw.c2; clear hn)
      | (go_at_call 16; with_reducible refine (HW.out _ inv.ok).mono ?_; rintro e w2 ⟨rfl, hn⟩; replace inv := inv.step C.out hn; have k0 := inv.zw.c0; have k1 := inv.zw.c1; have k2 := inv.zw.c2; clear hn))
    go_ret
    exact ⟨rfl, block_then HB.out inv.zw.below⟩
end Go.Proofs.Ytjmnohbgfkohpaa.Zn
