/- The law ZoneInverse returns true. Conditions: package zone's contracts; the zone's changes lie in memory as the argument says. -/
import Derived.Test.YtjmnohbgfkohpaaZoneRunning
namespace Go.Proofs.Ytjmnohbgfkohpaa.Zn
open Go.RowKit
theorem insR_some {b : Int} {cs : List (Int × Int)} {d m x : Int} (h : x ∈ insR b cs d m) : Valid b cs ∧ (0 ≤ d ∧ d ≤ 36524) ∧ (0 ≤ m ∧ m ≤ 1439) ∧ x ∈ insts b cs d m := by
  unfold insR at h
  split at h
  · rename_i h1; exact ⟨h1.1, h1.2.1, h1.2.2, h⟩
  · cases h
theorem insR_prop {b : Int} {cs : List (Int × Int)} {d m x : Int} (h : x ∈ insR b cs d m) : 0 ≤ x ∧ x ≤ 52595999 ∧ locE b cs x = 0 ∧ locD b cs x = d ∧ locM b cs x = m := by
  obtain ⟨v, hd, hm, hi⟩ := insR_some h
  obtain ⟨x0, x1, e⟩ := (insts_mem v d m x).1 hi
  have h0 : locE b cs x = 0 := by
    unfold locE
    rw [if_pos ⟨v, x0, x1⟩, if_pos (by omega)]
  unfold locD locM
  rw [if_pos h0, if_pos h0]
  exact ⟨x0, x1, h0, by omega, by omega⟩
theorem insR_self {b : Int} {cs : List (Int × Int)} {t : Int} (h : locE b cs t = 0) : t ∈ insR b cs (locD b cs t) (locM b cs t) := by
  obtain ⟨⟨v, t0, t1⟩, h1, h2, h3, h4, h5, -⟩ := locE_ok h
  unfold insR
  rw [if_pos ⟨v, ⟨h2, h3⟩, h4, h5⟩, insts_mem v]
  exact ⟨t0, t1, by omega⟩
theorem insR_two (b : Int) (cs : List (Int × Int)) (d m : Int) : (insR b cs d m).length ≤ 2 := by
  unfold insR
  split
  · rename_i h; exact insts_two h.1 d m
  · exact Nat.zero_le _
theorem insR_sorted (b : Int) (cs : List (Int × Int)) (d m : Int) : (insR b cs d m).Pairwise (· < ·) := by
  unfold insR
  split
  · exact insts_sorted d m
  · exact List.Pairwise.nil
theorem found_count (K : List Int) (t : Int) (h : t ∈ K) : ∃ F : Nat → Bool, F 0 = false ∧ F K.length = true ∧ ∀ (k : Nat) (x : Int), K[k]? = some x → F (k + 1) = (F k || (x == t)) := by
  refine ⟨fun k => decide (t ∈ K.take k), by simp, by simp [h], fun k x hx => ?_⟩
  show decide (t ∈ K.take (k + 1)) = (decide (t ∈ K.take k) || (x == t))
  rw [List.take_add_one, hx]
  rw [Bool.eq_iff_iff]
  simp only [Option.toList_some, List.mem_append, List.mem_singleton, decide_eq_true_eq, Bool.or_eq_true, beq_iff_eq]
  constructor
  · rintro (h | h)
    · exact .inl h
    · exact .inr h.symm
  · rintro (h | h)
    · exact .inl h
    · exact .inr h.symm
theorem two_of {L : List Int} (h : 2 = L.length) (hs : L.Pairwise (· < ·)) : ∃ x y, L[0]? = some x ∧ L[1]? = some y ∧ x < y := by
  match L, h, hs with
  | [x, y], _, hs => exact ⟨x, y, rfl, rfl, (List.pairwise_cons.1 hs).1 y List.mem_cons_self⟩
set_option maxHeartbeats 4000000 in
set_option maxRecDepth 100000 in
theorem inverse_walk {OK : World → Prop} (H : ZC OK) (nm : ByteArray) (b : Int) (a : Option Addr) (cap : Nat) (cs : List (Int × Int)) (t d m : Int) (w : World) (hb : Rng b) (hm : ∀ x ∈ cs, Rng x.1 ∧ Rng x.2) (hl : cs.length ≤ 9223372036854775807) (ht : Rng t) (hd : Rng d) (hmm : Rng m) (ok : OK w) (z : ZoneAt a cs w) :
    Calls Try.prog 4 #[zv nm b a cs.length cap, .int .i64 t, .int .i64 d, .int .i64 m] w fun r w' => r = .returned (.bool true) ∧ Below w.heap.size w w' := by
  have inv := ZK.start H w nm b a cs.length cap cs ok z
  clear z ok
  by_cases hs : cs.length ≤ 70
  · have zr : ZR b cs := ⟨hs, hb, hm⟩
    have HSM := Lib.hid (fun w => small_yes nm b a cs.length cap hs w)
    have hI := H.insts nm b a cap cs d m zr hd hmm
    have HX := Lib.hid (show ∀ i x, (insR b cs d m)[i]? = some x → ∀ w, OK w → ZoneAt a cs w → Calls Try.prog 14 #[zv nm b a cs.length cap, .int .i64 x] w fun r w' => r = .returned (.tuple #[.int .i64 d, .int .i64 m, .int .i64 0]) ∧ Below w.heap.size w w' from fun i x hx w ok z => by
      obtain ⟨x0, x1, e0, e1, e2⟩ := insR_prop (List.mem_of_getElem? hx)
      have h := H.loc nm b a cap cs x zr (rng_small (by omega) (by omega)) w ok z
      rwa [e0, e1, e2] at h)
    have hl2 := insR_two b cs d m
    have hso := insR_sorted b cs d m
    generalize insR b cs d m = L at *
    obtain ⟨n, hn⟩ : ∃ n, n = L.length := ⟨_, rfl⟩
    rw [← hn] at hI hl2
    have HI := Lib.hid hI
    have HN := Lib.hid hn
    have HSO := Lib.hid hso
    have hL := H.loc nm b a cap cs t zr ht
    have hrest : locE b cs t = 0 → (0 ≤ locM b cs t ∧ locM b cs t ≤ 1439) ∧ ∃ K : List Int, K.length ≤ 2 ∧ t ∈ K ∧ ∀ w, OK w → ZoneAt a cs w → Calls Try.prog 26 #[zv nm b a cs.length cap, .int .i64 (locD b cs t), .int .i64 (locM b cs t)] w fun r w' => ∃ a' c', r = .returned (.slice a' K.length c') ∧ IntsAt a' K w' ∧ Below w.heap.size w w' := fun he => by
      obtain ⟨-, -, g2, g3, g4, g5, -⟩ := locE_ok he
      exact ⟨⟨g4, g5⟩, _, insR_two b cs _ _, insR_self he, H.insts nm b a cap cs _ _ zr (rng_small (by omega) (by omega)) (rng_small (by omega) (by omega))⟩
    generalize locE b cs t = q at *
    generalize locD b cs t = x at *
    generalize locM b cs t = y at *
    have HL := Lib.hid hL
    have HR := Lib.hid hrest
    have C := Lib.hid H
    clear H hb hm hl hs zr hI hn hso hL hrest ht hd hmm
    generalize cs.length = len at *
    have k0 := inv.zw.c0
    have k1 := inv.zw.c1
    have k2 := inv.zw.c2
    go_enter Try.func4, Try.ntmps4
    go_upto_region 5 with (first
      | (go_at_call 11; with_reducible refine (head_any C.out _ inv.ok).mono ?_; rintro e w2 ⟨rfl, hn⟩; replace inv := inv.step C.out hn; have k0 := inv.zw.c0; have k1 := inv.zw.c1; have k2 := inv.zw.c2; clear hn)
      | (go_at_call 12; with_reducible refine (HSM.out _).mono ?_; rintro e w2 ⟨rfl, hn⟩; replace inv := inv.step C.out hn; have k0 := inv.zw.c0; have k1 := inv.zw.c1; have k2 := inv.zw.c2; clear hn)
      | (go_at_call 26; with_reducible refine (HI.out _ inv.ok inv.zw.zone).mono ?_; rintro e w2 ⟨a1, c1, rfl, hi, hn⟩; have hz1 := hi; clear hi; replace inv := inv.step C.out hn; have k0 := inv.zw.c0; have k1 := inv.zw.c1; have k2 := inv.zw.c2; clear hn))
    go_cut [46] (fun s46 wx => s46 = .bool false ∧ ZK OK w w.heap.size nm b a len cap cs wx ∧ IntsAt a1 L wx)
    case first =>
      rcases (show n = 0 ∨ n = 1 ∨ n = 2 by omega) with rfl | rfl | rfl
      · go_wp2_with fail
        go_quiet (fail)
        go_wp2
        go_meet
        exact ⟨rfl, inv.step C.out (below_drewN (Below.refl _ _) _), hz1.below (below_drewN (Below.refl _ _) _)⟩
      · go_wp2_with fail
        go_quiet (fail)
        go_wp2
        go_meet
        exact ⟨rfl, inv.step C.out (below_drewN (Below.refl _ _) _), hz1.below (below_drewN (Below.refl _ _) _)⟩
      · obtain ⟨p1, p2, hp1, hp2, hlt⟩ := two_of HN.out HSO.out
        obtain ⟨b1, o1, rfl, h1⟩ := hz1 0 p1 hp1
        obtain ⟨b2, o2, e2, h2⟩ := hz1 1 p2 hp2
        cases e2
        have h1' : w2.cell? ⟨b1, o1, none⟩ = some (.int .i64 p1) := h1
        clear h1 hp1 hp2
        go_wp2_with fail
        go_quiet (fail)
        go_wp2
        go_meet
        exact ⟨by rw [decide_eq_false (by omega)], inv.step C.out (below_drewN (Below.refl _ _) _), hz1.below (below_drewN (Below.refl _ _) _)⟩
    case rest =>
      obtain ⟨rfl, inv, hz1⟩ := hcut
      clear k0 k1 k2
      go_wp2
      go_loopg [11] n (fun g s11 wx => ∃ i : Nat, i + g = n ∧ s11 = .int .i64 i ∧ ZK OK w w.heap.size nm b a len cap cs wx ∧ IntsAt a1 L wx)
      case atStart => exact ⟨0, by omega, rfl, inv, hz1⟩
      case round =>
        clear inv hz1
        obtain ⟨i, hi, rfl, inv, hz1⟩ := hrel
        have k0 := inv.zw.c0
        have k1 := inv.zw.c1
        have k2 := inv.zw.c2
        cases gk with
        | zero =>
          have hlt : ¬ (i : Int) < (n : Int) := by omega
          clear hz1
          by_cases hq : q = 0
          · subst hq
            obtain ⟨⟨y0, y1⟩, K, hK2, hK, hKI⟩ := HR.out rfl
            obtain ⟨F, hF0, hF1, hFs⟩ := found_count K t hK
            obtain ⟨nk, hnk⟩ : ∃ nk, nk = K.length := ⟨_, rfl⟩
            rw [← hnk] at hKI hK2 hF1
            have HKI := Lib.hid hKI
            have HFS := Lib.hid hFs
            have HF1 := Lib.hid hF1
            have HNK := Lib.hid hnk
            clear hK hKI hFs hF1 hnk
            go_wp2_with (first
              | (go_at_call 14; with_reducible refine (HL.out _ inv.ok inv.zw.zone).mono ?_; rintro e w2 ⟨rfl, hn⟩; replace inv := inv.step C.out hn; have k0 := inv.zw.c0; have k1 := inv.zw.c1; have k2 := inv.zw.c2; clear hn)
              | (go_at_call 26; with_reducible refine (HKI.out _ inv.ok inv.zw.zone).mono ?_; rintro e w2 ⟨a2, c2, rfl, hi2, hn⟩; have hz2 := hi2; clear hi2; replace inv := inv.step C.out hn; have k0 := inv.zw.c0; have k1 := inv.zw.c1; have k2 := inv.zw.c2; clear hn))
            go_loopg [18, 20] nk (fun g s18 s20 wx => ∃ k : Nat, k + g = nk ∧ s18 = .bool (F k) ∧ s20 = .int .i64 k ∧ ZK OK w w.heap.size nm b a len cap cs wx ∧ IntsAt a2 K wx)
            case atStart => exact ⟨0, by omega, by rw [hF0], rfl, inv, hz2⟩
            case round =>
              clear inv hz2 k0 k1 k2
              obtain ⟨k, hk, rfl, rfl, inv, hz2⟩ := hrel
              cases gk with
              | zero =>
                have hlt : ¬ (k : Int) < (nk : Int) := by omega
                have hFk : F k = true := by have e : k = nk := by omega
                                            rw [e]; exact HF1.out
                have y2 : y < 1440 := by omega
                go_wp2
                go_ret
                exact ⟨rfl, inv.zw.below⟩
              | succ g =>
                have hlt : (k : Int) < (nk : Int) := by omega
                obtain ⟨x1, hx1⟩ : ∃ x1, K[k]? = some x1 := ⟨_, List.getElem?_eq_getElem (by have := HNK.out; omega)⟩
                obtain ⟨b1, o1, rfl, h1⟩ := hz2 k x1 hx1
                have hs := HFS.out k x1 hx1
                clear hx1
                cases hFk : F k with
                | true =>
                  rw [hFk, Bool.true_or] at hs
                  have HS := Lib.hid hs
                  clear hs
                  go_wp2
                  go_roundg g
                  case measure => omega
                  case rel => exact ⟨k + 1, by omega, by rw [HS.out], by go_num, inv, hz2⟩
                | false =>
                  rw [hFk, Bool.false_or] at hs
                  have HS := Lib.hid hs
                  clear hs
                  go_wp2
                  go_roundg g
                  case measure => omega
                  case rel => exact ⟨k + 1, by omega, by rw [HS.out], by go_num, inv, hz2⟩
          · have hne : (q != 0) = true := by simpa using hq
            clear hq
            go_wp2_with (first
              | (go_at_call 14; with_reducible refine (HL.out _ inv.ok inv.zw.zone).mono ?_; rintro e w2 ⟨rfl, hn⟩; replace inv := inv.step C.out hn; have k0 := inv.zw.c0; have k1 := inv.zw.c1; have k2 := inv.zw.c2; clear hn))
            go_ret
            exact ⟨rfl, inv.zw.below⟩
        | succ g =>
          have hlt : (i : Int) < (n : Int) := by omega
          have h0i : (0 : Int) ≤ (i : Int) := Int.natCast_nonneg i
          obtain ⟨x1, hx1⟩ : ∃ x1, L[i]? = some x1 := ⟨_, List.getElem?_eq_getElem (by have := HN.out; omega)⟩
          obtain ⟨b1, o1, rfl, h1⟩ := hz1 i x1 hx1
          have HXI := Lib.hid (HX.out i x1 hx1)
          have HX1 := Lib.hid hx1
          clear hx1
          go_upto_region 10 with (fail)
          replace inv := inv.drew C.out
          replace hz1 := hz1.below (Below.refl _ _).drew
          replace h1 := cell_kept (Below.refl _ _).drew h1
          go_region_held3 (fun w' => w'.cell? ⟨w.heap.size, 0, none⟩ = some (.string nm) ∧ w'.cell? ⟨w.heap.size, 1, none⟩ = some (.int .i64 b) ∧ w'.cell? ⟨w.heap.size, 2, none⟩ = some (.slice a len cap) ∧ w'.cell? ⟨b1, o1 + i, none⟩ = some (.int .i64 x1) ∧ ZK OK w w.heap.size nm b a len cap cs w' ∧ IntsAt (some ⟨b1, o1, none⟩) L w')
            (first
              | exact ⟨inv.zw.c0, inv.zw.c1, inv.zw.c2, h1, inv, hz1⟩)
            (first
              | (go_at_call 14; with_reducible refine (HXI.out _ inv.ok inv.zw.zone).mono ?_; rintro e w3 ⟨rfl, hn⟩; replace inv := inv.step C.out hn; replace hz1 := hz1.below hn; replace h1 := cell_kept hn h1; clear hn))
          go_wp2
          go_roundg g
          case measure => omega
          case rel => exact ⟨i + 1, by omega, by go_num, by assumption, by assumption⟩
  · have HSM := Lib.hid (fun w => small_no nm b a cs.length cap hs hl w)
    have C := Lib.hid H
    clear H hb hm hl hs ht hd hmm
    generalize cs.length = len at *
    have k0 := inv.zw.c0
    have k1 := inv.zw.c1
    have k2 := inv.zw.c2
    go_enter Try.func4, Try.ntmps4
    go_wp2_with (first
      | (go_at_call 11; with_reducible refine (head_any C.out _ inv.ok).mono ?_; rintro e w2 ⟨rfl, hn⟩; replace inv := inv.step C.out hn; have k0 := inv.zw.c0; have k1 := inv.zw.c1; have k2 := inv.zw.c2; clear hn)
      | (go_at_call 12; with_reducible refine (HSM.out _).mono ?_; rintro e w2 ⟨rfl, hn⟩; replace inv := inv.step C.out hn; have k0 := inv.zw.c0; have k1 := inv.zw.c1; have k2 := inv.zw.c2; clear hn))
    go_ret
    exact ⟨rfl, inv.zw.below⟩
end Go.Proofs.Ytjmnohbgfkohpaa.Zn
