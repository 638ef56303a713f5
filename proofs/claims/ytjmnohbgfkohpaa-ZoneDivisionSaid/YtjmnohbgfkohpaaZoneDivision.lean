/- The law ZoneDivision returns true. Conditions: package zone's contracts; the zone's changes lie in memory as the argument says. -/
import Derived.Test.YtjmnohbgfkohpaaZoneSum2
namespace Go.Proofs.Ytjmnohbgfkohpaa.Zn
open Go.RowKit
theorem tot_append : ∀ l r : List (Int × Int), tot (l ++ r) = tot l + tot r
  | [], r => by show tot r = 0 + tot r; omega
  | (d, n) :: l, r => by
    show n + tot (l ++ r) = n + tot l + tot r
    rw [tot_append l r]; omega
theorem tot_nonneg : ∀ {l : List (Int × Int)}, (∀ x ∈ l, 0 < x.2) → 0 ≤ tot l
  | [], _ => Int.le_refl _
  | (d, n) :: l, h => by
    have h1 : 0 < n := h (d, n) List.mem_cons_self
    have h2 := tot_nonneg (fun x hx => h x (List.mem_cons_of_mem _ hx))
    show 0 ≤ n + tot l
    omega
theorem tot_mem {l : List (Int × Int)} (h : ∀ x ∈ l, 0 < x.2) {x : Int × Int} (hx : x ∈ l) : x.2 ≤ tot l := by
  obtain ⟨p, q, rfl⟩ := List.append_of_mem hx
  have h1 := tot_nonneg (l := p) (fun y hy => h y (List.mem_append.2 (.inl hy)))
  have h2 := tot_nonneg (l := q) (fun y hy => h y (List.mem_append.2 (.inr (List.mem_cons_of_mem _ hy))))
  rw [tot_append]
  show x.2 ≤ tot p + (x.2 + tot q)
  omega
theorem tot_count {l : List (Int × Int)} (h : Ports l) : ∃ T : Nat → Int, T 0 = 0 ∧ T l.length = tot l ∧ (∀ i, 0 ≤ T i ∧ T i ≤ tot l) ∧ ∀ i x, l[i]? = some x → T (i + 1) = T i + x.2 := by
  refine ⟨fun i => tot (l.take i), rfl, by show tot (l.take l.length) = _; rw [List.take_length], fun i => ?_, fun i x hx => ?_⟩
  · have h1 := tot_nonneg (l := l.take i) (fun y hy => h.2 y (List.mem_of_mem_take hy))
    have h2 := tot_nonneg (l := l.drop i) (fun y hy => h.2 y (List.mem_of_mem_drop hy))
    have h3 := tot_append (l.take i) (l.drop i)
    rw [List.take_append_drop] at h3
    exact ⟨h1, by show tot (l.take i) ≤ _; omega⟩
  · show tot (l.take (i + 1)) = tot (l.take i) + x.2
    rw [List.take_add_one, hx, tot_append]
    show _ + (x.2 + 0) = _
    omega
theorem splitE_ok {b : Int} {cs : List (Int × Int)} {f t : Int} (h : splitE b cs f t = 0) : Valid b cs ∧ Str f t ∧ t - f ≤ 44640 ∧ cnt f (fun s => !decide (0 ≤ loc b cs s / 1440 ∧ loc b cs s / 1440 ≤ 36524)) (t - f).toNat = 0 := by
  unfold splitE at h
  split at h
  · rename_i h1
    split at h
    · exact absurd h (by decide)
    · split at h
      · rename_i h2; exact ⟨h1.1, h1.2, by omega, h2⟩
      · exact absurd h (by decide)
  · exact absurd h (by decide)
theorem splitE_zero {b : Int} {cs : List (Int × Int)} {f t : Int} (v : Valid b cs) (s : Str f t) (h : t - f ≤ 44640) (hc : cnt f (fun s => !decide (0 ≤ loc b cs s / 1440 ∧ loc b cs s / 1440 ≤ 36524)) (t - f).toNat = 0) : splitE b cs f t = 0 := by
  unfold splitE
  rw [if_pos ⟨v, s⟩, if_neg (by omega), if_pos hc]
theorem splitL_ok {b : Int} {cs : List (Int × Int)} {f t : Int} (h : splitE b cs f t = 0) : splitL b cs f t = ports (fun s => loc b cs s / 1440) f (t - f).toNat := by
  unfold splitL
  rw [if_pos h]
theorem ports_few {b : Int} {cs : List (Int × Int)} (v : Valid b cs) (f : Int) (k : Nat) (hk : k ≤ 6000) : (ports (fun s => loc b cs s / 1440) f k).length ≤ 20 :=
  ports_short _ ((f - 840) / 1440) 20 (ports_ok _ _ _) (fun y hy => by
    obtain ⟨s, s0, s1, hs⟩ := ports_day _ f y k hy
    have := bd v s
    have hs' : loc b cs s / 1440 = y.1 := hs
    unfold loc at hs'
    omega)
structure Pt (l : List (Int × Int)) (n : Int) : Prop where
  ok : Ports l
  few : l.length ≤ 20
  all : tot l = n
theorem Pt.min {l : List (Int × Int)} {n : Int} (h : Pt l n) (hn : n ≤ 6000) : ∀ x ∈ l, 0 ≤ x.2 ∧ x.2 ≤ 1000000 := fun x hx => by
  have h1 := h.ok.2 x hx
  have h2 := tot_mem h.ok.2 hx
  rw [h.all] at h2
  omega
theorem splitL_pt {b : Int} {cs : List (Int × Int)} {f t : Int} (h : splitE b cs f t = 0) (h6 : t - f ≤ 6000) : Pt (splitL b cs f t) (t - f) := by
  obtain ⟨v, s, -, -⟩ := splitE_ok h
  unfold Str at s
  rw [splitL_ok h]
  exact ⟨ports_ok _ _ _, ports_few v f _ (by omega), by rw [ports_tot]; omega⟩
theorem split_all {b : Int} {cs : List (Int × Int)} {f m t : Int} (h : splitE b cs f t = 0) (h1 : f ≤ m) (h2 : m ≤ t) :
    splitE b cs f m = 0 ∧ splitE b cs m t = 0 ∧ merge (splitL b cs f m) (splitL b cs m t) = splitL b cs f t := by
  obtain ⟨v, s, hk, hc⟩ := splitE_ok h
  have s' := s
  unfold Str at s'
  have ha := cnt_add f (fun s => !decide (0 ≤ loc b cs s / 1440 ∧ loc b cs s / 1440 ≤ 36524)) (m - f).toNat (t - m).toNat
  rw [show (m - f).toNat + (t - m).toNat = (t - f).toNat by omega, hc, show f + ((m - f).toNat : Int) = m by omega] at ha
  have e1 : splitE b cs f m = 0 := splitE_zero v (by unfold Str; omega) (by omega) (by omega)
  have e2 : splitE b cs m t = 0 := splitE_zero v (by unfold Str; omega) (by omega) (by omega)
  refine ⟨e1, e2, ?_⟩
  have hm := merge_ports_of (fun s => loc b cs s / 1440) f (m - f).toNat (t - m).toNat
  rw [show (m - f).toNat + (t - m).toNat = (t - f).toNat by omega, show f + ((m - f).toNat : Int) = m by omega] at hm
  rw [splitL_ok e1, splitL_ok e2, splitL_ok h, hm]
set_option maxHeartbeats 8000000 in
set_option maxRecDepth 100000 in
theorem division_walk {OK : World → Prop} (H : ZC OK) (nm : ByteArray) (b : Int) (a : Option Addr) (cap : Nat) (cs : List (Int × Int)) (f m t : Int) (w : World) (hb : Rng b) (hm : ∀ x ∈ cs, Rng x.1 ∧ Rng x.2) (hl : cs.length ≤ 9223372036854775807) (hf : Rng f) (hmm : Rng m) (ht : Rng t) (ok : OK w) (z : ZoneAt a cs w) :
    Calls Try.prog 5 #[zv nm b a cs.length cap, .int .i64 f, .int .i64 m, .int .i64 t] w fun r w' => r = .returned (.bool true) ∧ Below w.heap.size w w' := by
  have inv := ZK.start H w nm b a cs.length cap cs ok z
  clear z ok
  by_cases hs : cs.length ≤ 70
  · have zr : ZR b cs := ⟨hs, hb, hm⟩
    have HSM := Lib.hid (fun w => small_yes nm b a cs.length cap hs w)
    by_cases hfm : f ≤ m
    · by_cases hmt : m ≤ t
      · have hA := H.split nm b a cap cs f m zr hf hmm
        have hB := H.split nm b a cap cs m t zr hmm ht
        have hD := H.split nm b a cap cs f t zr hf ht
        by_cases he : splitE b cs f t = 0
        · obtain ⟨e1, e2, hmer⟩ := split_all he hfm hmt
          obtain ⟨-, s, -, -⟩ := splitE_ok he
          obtain ⟨s0, s1, s2⟩ := s
          rw [e1] at hA
          rw [e2] at hB
          rw [he] at hD
          by_cases h6 : t - f ≤ 6000
          · have pA := splitL_pt e1 (by omega)
            have pB := splitL_pt e2 (by omega)
            have pD := splitL_pt he h6
            generalize splitL b cs f m = A at *
            generalize splitL b cs m t = B at *
            generalize splitL b cs f t = D at *
            have hSum := fun (a1 a2 : Option Addr) (c1 c2 : Nat) w (z1 : PortsAt a1 A w) (z2 : PortsAt a2 B w) => (sum_any a1 a2 c1 c2 A B w pA.few pB.few (pA.min (by omega)) (pB.min (by omega)) z1 z2).mono (R' := fun r w' => ∃ a3 c3, r = .returned (.slice a3 D.length c3) ∧ PortsAt a3 D w' ∧ Below w.heap.size w w') (fun r w' ⟨v, hr, hrow, hb⟩ => by
              rw [hmer] at hrow
              obtain ⟨a3, c3, e, hz⟩ := hrow.ports
              exact ⟨a3, c3, by rw [hr, e], hz, hb⟩)
            have hSame := fun (a1 a2 : Option Addr) (c1 c2 : Nat) w (z1 : PortsAt a1 D w) (z2 : PortsAt a2 D w) => (rsame_any a1 a2 c1 c2 D D w (by have := pD.few; omega) z1 z2).mono (R' := fun r w' => r = .returned (.bool true) ∧ Below w.heap.size w w') (fun r w' ⟨hr, hb⟩ => ⟨by rw [hr, decide_eq_true rfl], hb⟩)
            obtain ⟨T, hT0, hT1, hTb, hTs⟩ := tot_count pD.ok
            rw [pD.all] at hT1 hTb
            obtain ⟨na, hna⟩ : ∃ na, na = A.length := ⟨_, rfl⟩
            obtain ⟨nb, hnb⟩ : ∃ nb, nb = B.length := ⟨_, rfl⟩
            obtain ⟨nd, hnd⟩ : ∃ nd, nd = D.length := ⟨_, rfl⟩
            have na20 : na ≤ 20 := by rw [hna]; exact pA.few
            have nb20 : nb ≤ 20 := by rw [hnb]; exact pB.few
            have nd20 : nd ≤ 20 := by rw [hnd]; exact pD.few
            rw [← hna] at hA hSum
            rw [← hnb] at hB hSum
            rw [← hnd] at hD hSum hSame hT1
            have HA := Lib.hid hA
            have HB := Lib.hid hB
            have HD := Lib.hid hD
            have HSum := Lib.hid hSum
            have HSame := Lib.hid hSame
            have HTB := Lib.hid hTb
            have HTS := Lib.hid hTs
            have HT1 := Lib.hid hT1
            have HND := Lib.hid hnd
            have HPD := Lib.hid pD
            have C := Lib.hid H
            clear H hb hm hl hs zr he e1 e2 hmer hA hB hD hSum hSame hTb hTs hT1 hna hnb hnd pA pB pD hf ht hmm
            generalize cs.length = len at *
            have k0 := inv.zw.c0
            have k1 := inv.zw.c1
            have k2 := inv.zw.c2
            go_enter Try.func5, Try.ntmps5
            go_wp2_with (first
              | (go_at_call 11; with_reducible refine (head_any C.out _ inv.ok).mono ?_; rintro e w2 ⟨rfl, hn⟩; replace inv := inv.step C.out hn; have k0 := inv.zw.c0; have k1 := inv.zw.c1; have k2 := inv.zw.c2; clear hn)
              | (go_at_call 12; with_reducible refine (HSM.out _).mono ?_; rintro e w2 ⟨rfl, hn⟩; replace inv := inv.step C.out hn; have k0 := inv.zw.c0; have k1 := inv.zw.c1; have k2 := inv.zw.c2; clear hn)
              | (go_at_call 20; with_reducible refine (HA.out _ inv.ok inv.zw.zone).mono ?_; rintro e w2 ⟨a1, c1, rfl, hz1, hn⟩; replace inv := inv.step C.out hn; have k0 := inv.zw.c0; have k1 := inv.zw.c1; have k2 := inv.zw.c2; clear hn)
              | (go_at_call 20; with_reducible refine (HB.out _ inv.ok inv.zw.zone).mono ?_; rintro e w2 ⟨a2, c2, rfl, hz2, hn⟩; replace hz1 := PortsAt.below hz1 hn; replace inv := inv.step C.out hn; have k0 := inv.zw.c0; have k1 := inv.zw.c1; have k2 := inv.zw.c2; clear hn)
              | (go_at_call 20; with_reducible refine (HD.out _ inv.ok inv.zw.zone).mono ?_; rintro e w2 ⟨a3, c3, rfl, hz3, hn⟩; replace hz1 := PortsAt.below hz1 hn; replace hz2 := PortsAt.below hz2 hn; replace inv := inv.step C.out hn; have k0 := inv.zw.c0; have k1 := inv.zw.c1; have k2 := inv.zw.c2; clear hn))
            go_loopg [16, 17] nd (fun g s16 s17 wx => ∃ i : Nat, i + g = nd ∧ s16 = .int .i64 (T i) ∧ s17 = .int .i64 i ∧ ZK OK w w.heap.size nm b a len cap cs wx ∧ PortsAt a1 A wx ∧ PortsAt a2 B wx ∧ PortsAt a3 D wx)
            case atStart => exact ⟨0, by omega, by rw [hT0], rfl, inv, hz1, hz2, hz3⟩
            case round =>
              clear inv hz1 hz2 hz3 k0 k1 k2
              obtain ⟨i, hi, rfl, rfl, inv, hz1, hz2, hz3⟩ := hrel
              cases gk with
              | zero =>
                obtain rfl : i = nd := by omega
                have hT := HT1.out
                have na20' : (na : Int) ≤ 20 := by omega
                have nb20' : (nb : Int) ≤ 20 := by omega
                go_wp2_with (first
                  | (go_at_call 30; with_reducible refine (HSum.out _ _ _ _ _ hz1 hz2).mono ?_; rintro e w3 ⟨a4, c4, rfl, hz4, hn⟩; replace inv := inv.step C.out hn; replace hz3 := PortsAt.below hz3 hn; clear hn)
                  | (go_at_call 24; with_reducible refine (HSame.out _ _ _ _ _ hz4 hz3).mono ?_; rintro e w3 ⟨rfl, hn⟩; replace inv := inv.step C.out hn; clear hn))
                go_ret
                exact ⟨rfl, inv.zw.below⟩
              | succ g =>
                have hlt : (i : Int) < (nd : Int) := by omega
                have h0i : (0 : Int) ≤ (i : Int) := Int.natCast_nonneg i
                obtain ⟨x, hx⟩ : ∃ x, D[i]? = some x := ⟨_, List.getElem?_eq_getElem (by have := HND.out; omega)⟩
                have hxp := HPD.out.ok.2 x (List.mem_of_getElem? hx)
                have hxt := tot_mem HPD.out.ok.2 (List.mem_of_getElem? hx)
                rw [HPD.out.all] at hxt
                obtain ⟨b3, o3, rfl, h1, h1'⟩ := hz3 i x hx
                have HS := Lib.hid (HTS.out i x hx)
                have hTi := HTB.out i
                have HM := Lib.hid (fun wx n => below_drewN (Below.refl (World.heap wx).size wx) n)
                obtain ⟨x1, x2⟩ := x
                have e1 : decide (x2 ≤ 0) = false := decide_eq_false (Int.not_le.2 hxp)
                have hx3 : 0 < x2 := hxp
                have hx4 : x2 ≤ t - f := hxt
                by_cases hpos : 0 < i
                · obtain ⟨y, hy⟩ : ∃ y, D[i - 1]? = some y := ⟨_, List.getElem?_eq_getElem (by have := HND.out; omega)⟩
                  obtain ⟨b4, o4, q, g1, _⟩ := hz3 (i - 1) y hy
                  cases q
                  have hyx : y.1 < x1 := by
                    obtain ⟨u1, v1⟩ := List.getElem?_eq_some_iff.1 hy
                    obtain ⟨u2, v2⟩ := List.getElem?_eq_some_iff.1 hx
                    have := List.pairwise_iff_getElem.1 HPD.out.ok.1 (i - 1) i u1 u2 (by omega)
                    rw [v1, v2] at this
                    exact this
                  obtain ⟨y1, y2⟩ := y
                  have g1' : wr.cell? ⟨b3, o3 + (i - 1) * 2, none⟩ = some (.int .i64 y1) := g1
                  have e2 : decide (x1 ≤ y1) = false := decide_eq_false (Int.not_le.2 hyx)
                  have hpos' : (0 : Int) < (i : Int) := by omega
                  have hp1 : 0 ≤ (i : Int) - 1 := by omega
                  have hp2 : (i : Int) - 1 < (nd : Int) := by omega
                  have hw := IntWalk.i64_in ((i : Int) - 1) (by omega)
                  have hn : ((i : Int) - 1).toNat = i - 1 := by omega
                  clear hx hy hxp hxt hyx g1
                  go_wp2_with fail
                  go_quiet (fail)
                  clear hw hn
                  go_wp2
                  go_roundg g
                  case measure => omega
                  case rel => exact ⟨i + 1, by omega, by rw [HS.out], by go_num, inv.step C.out (HM.out _ _), hz1.below (HM.out _ _), hz2.below (HM.out _ _), hz3.below (HM.out _ _)⟩
                · have tpos : decide ((0 : Int) < (i : Int)) = false := decide_eq_false (by omega)
                  clear hx hxp hxt
                  go_wp2_with fail
                  go_quiet (fail)
                  go_wp2
                  go_roundg g
                  case measure => omega
                  case rel => exact ⟨i + 1, by omega, by rw [HS.out], by go_num, inv.step C.out (HM.out _ _), hz1.below (HM.out _ _), hz2.below (HM.out _ _), hz3.below (HM.out _ _)⟩
          · have C := Lib.hid H
            clear H hb hm hl hs zr he hf ht hmm hA hB hD hmer
            generalize cs.length = len at *
            have k0 := inv.zw.c0
            have k1 := inv.zw.c1
            have k2 := inv.zw.c2
            go_enter Try.func5, Try.ntmps5
            go_wp2_with (first
              | (go_at_call 11; with_reducible refine (head_any C.out _ inv.ok).mono ?_; rintro e w2 ⟨rfl, hn⟩; replace inv := inv.step C.out hn; have k0 := inv.zw.c0; have k1 := inv.zw.c1; have k2 := inv.zw.c2; clear hn)
              | (go_at_call 12; with_reducible refine (HSM.out _).mono ?_; rintro e w2 ⟨rfl, hn⟩; replace inv := inv.step C.out hn; have k0 := inv.zw.c0; have k1 := inv.zw.c1; have k2 := inv.zw.c2; clear hn))
            go_ret
            exact ⟨rfl, inv.zw.below⟩
        · have e3 : (splitE b cs f t != 0) = true := by simpa using he
          have HA := Lib.hid hA
          have HB := Lib.hid hB
          have HD := Lib.hid hD
          have C := Lib.hid H
          clear H hb hm hl hs zr hA hB hD he hf ht hmm
          generalize cs.length = len at *
          generalize splitE b cs f m = q1 at *
          generalize splitE b cs m t = q2 at *
          generalize splitE b cs f t = q3 at *
          generalize (splitL b cs f m) = A at *
          generalize (splitL b cs m t) = B at *
          generalize (splitL b cs f t) = D at *
          generalize A.length = na at *
          generalize B.length = nb at *
          generalize D.length = nd at *
          have k0 := inv.zw.c0
          have k1 := inv.zw.c1
          have k2 := inv.zw.c2
          cases h6 : decide (6000 < wrap64 (t - f)) with
          | true =>
            go_enter Try.func5, Try.ntmps5
            go_wp2_with (first
              | (go_at_call 11; with_reducible refine (head_any C.out _ inv.ok).mono ?_; rintro e w2 ⟨rfl, hn⟩; replace inv := inv.step C.out hn; have k0 := inv.zw.c0; have k1 := inv.zw.c1; have k2 := inv.zw.c2; clear hn)
              | (go_at_call 12; with_reducible refine (HSM.out _).mono ?_; rintro e w2 ⟨rfl, hn⟩; replace inv := inv.step C.out hn; have k0 := inv.zw.c0; have k1 := inv.zw.c1; have k2 := inv.zw.c2; clear hn))
            go_ret
            exact ⟨rfl, inv.zw.below⟩
          | false =>
            cases hq1 : q1 != 0 with
            | true =>
              go_enter Try.func5, Try.ntmps5
              go_wp2_with (first
                | (go_at_call 11; with_reducible refine (head_any C.out _ inv.ok).mono ?_; rintro e w2 ⟨rfl, hn⟩; replace inv := inv.step C.out hn; have k0 := inv.zw.c0; have k1 := inv.zw.c1; have k2 := inv.zw.c2; clear hn)
                | (go_at_call 12; with_reducible refine (HSM.out _).mono ?_; rintro e w2 ⟨rfl, hn⟩; replace inv := inv.step C.out hn; have k0 := inv.zw.c0; have k1 := inv.zw.c1; have k2 := inv.zw.c2; clear hn)
                | (go_at_call 20; with_reducible refine (HA.out _ inv.ok inv.zw.zone).mono ?_; rintro e w2 ⟨a1, c1, rfl, -, hn⟩; replace inv := inv.step C.out hn; have k0 := inv.zw.c0; have k1 := inv.zw.c1; have k2 := inv.zw.c2; clear hn)
                | (go_at_call 20; with_reducible refine (HB.out _ inv.ok inv.zw.zone).mono ?_; rintro e w2 ⟨a2, c2, rfl, -, hn⟩; replace inv := inv.step C.out hn; have k0 := inv.zw.c0; have k1 := inv.zw.c1; have k2 := inv.zw.c2; clear hn)
                | (go_at_call 20; with_reducible refine (HD.out _ inv.ok inv.zw.zone).mono ?_; rintro e w2 ⟨a3, c3, rfl, -, hn⟩; replace inv := inv.step C.out hn; have k0 := inv.zw.c0; have k1 := inv.zw.c1; have k2 := inv.zw.c2; clear hn))
              go_ret
              exact ⟨rfl, inv.zw.below⟩
            | false =>
              cases hq2 : q2 != 0 with
              | true =>
                go_enter Try.func5, Try.ntmps5
                go_wp2_with (first
                  | (go_at_call 11; with_reducible refine (head_any C.out _ inv.ok).mono ?_; rintro e w2 ⟨rfl, hn⟩; replace inv := inv.step C.out hn; have k0 := inv.zw.c0; have k1 := inv.zw.c1; have k2 := inv.zw.c2; clear hn)
                  | (go_at_call 12; with_reducible refine (HSM.out _).mono ?_; rintro e w2 ⟨rfl, hn⟩; replace inv := inv.step C.out hn; have k0 := inv.zw.c0; have k1 := inv.zw.c1; have k2 := inv.zw.c2; clear hn)
                  | (go_at_call 20; with_reducible refine (HA.out _ inv.ok inv.zw.zone).mono ?_; rintro e w2 ⟨a1, c1, rfl, -, hn⟩; replace inv := inv.step C.out hn; have k0 := inv.zw.c0; have k1 := inv.zw.c1; have k2 := inv.zw.c2; clear hn)
                  | (go_at_call 20; with_reducible refine (HB.out _ inv.ok inv.zw.zone).mono ?_; rintro e w2 ⟨a2, c2, rfl, -, hn⟩; replace inv := inv.step C.out hn; have k0 := inv.zw.c0; have k1 := inv.zw.c1; have k2 := inv.zw.c2; clear hn)
                  | (go_at_call 20; with_reducible refine (HD.out _ inv.ok inv.zw.zone).mono ?_; rintro e w2 ⟨a3, c3, rfl, -, hn⟩; replace inv := inv.step C.out hn; have k0 := inv.zw.c0; have k1 := inv.zw.c1; have k2 := inv.zw.c2; clear hn))
                go_ret
                exact ⟨rfl, inv.zw.below⟩
              | false =>
                go_enter Try.func5, Try.ntmps5
                go_wp2_with (first
                  | (go_at_call 11; with_reducible refine (head_any C.out _ inv.ok).mono ?_; rintro e w2 ⟨rfl, hn⟩; replace inv := inv.step C.out hn; have k0 := inv.zw.c0; have k1 := inv.zw.c1; have k2 := inv.zw.c2; clear hn)
                  | (go_at_call 12; with_reducible refine (HSM.out _).mono ?_; rintro e w2 ⟨rfl, hn⟩; replace inv := inv.step C.out hn; have k0 := inv.zw.c0; have k1 := inv.zw.c1; have k2 := inv.zw.c2; clear hn)
                  | (go_at_call 20; with_reducible refine (HA.out _ inv.ok inv.zw.zone).mono ?_; rintro e w2 ⟨a1, c1, rfl, -, hn⟩; replace inv := inv.step C.out hn; have k0 := inv.zw.c0; have k1 := inv.zw.c1; have k2 := inv.zw.c2; clear hn)
                  | (go_at_call 20; with_reducible refine (HB.out _ inv.ok inv.zw.zone).mono ?_; rintro e w2 ⟨a2, c2, rfl, -, hn⟩; replace inv := inv.step C.out hn; have k0 := inv.zw.c0; have k1 := inv.zw.c1; have k2 := inv.zw.c2; clear hn)
                  | (go_at_call 20; with_reducible refine (HD.out _ inv.ok inv.zw.zone).mono ?_; rintro e w2 ⟨a3, c3, rfl, -, hn⟩; replace inv := inv.step C.out hn; have k0 := inv.zw.c0; have k1 := inv.zw.c1; have k2 := inv.zw.c2; clear hn))
                go_ret
                exact ⟨rfl, inv.zw.below⟩
      · have C := Lib.hid H
        clear H hb hm hl hs zr hf ht hmm
        generalize cs.length = len at *
        have k0 := inv.zw.c0
        have k1 := inv.zw.c1
        have k2 := inv.zw.c2
        go_enter Try.func5, Try.ntmps5
        go_wp2_with (first
          | (go_at_call 11; with_reducible refine (head_any C.out _ inv.ok).mono ?_; rintro e w2 ⟨rfl, hn⟩; replace inv := inv.step C.out hn; have k0 := inv.zw.c0; have k1 := inv.zw.c1; have k2 := inv.zw.c2; clear hn)
          | (go_at_call 12; with_reducible refine (HSM.out _).mono ?_; rintro e w2 ⟨rfl, hn⟩; replace inv := inv.step C.out hn; have k0 := inv.zw.c0; have k1 := inv.zw.c1; have k2 := inv.zw.c2; clear hn))
        go_ret
        exact ⟨rfl, inv.zw.below⟩
    · have C := Lib.hid H
      clear H hb hm hl hs zr hf ht hmm
      generalize cs.length = len at *
      have k0 := inv.zw.c0
      have k1 := inv.zw.c1
      have k2 := inv.zw.c2
      go_enter Try.func5, Try.ntmps5
      go_wp2_with (first
        | (go_at_call 11; with_reducible refine (head_any C.out _ inv.ok).mono ?_; rintro e w2 ⟨rfl, hn⟩; replace inv := inv.step C.out hn; have k0 := inv.zw.c0; have k1 := inv.zw.c1; have k2 := inv.zw.c2; clear hn)
        | (go_at_call 12; with_reducible refine (HSM.out _).mono ?_; rintro e w2 ⟨rfl, hn⟩; replace inv := inv.step C.out hn; have k0 := inv.zw.c0; have k1 := inv.zw.c1; have k2 := inv.zw.c2; clear hn))
      go_ret
      exact ⟨rfl, inv.zw.below⟩
  · have HSM := Lib.hid (fun w => small_no nm b a cs.length cap hs hl w)
    have C := Lib.hid H
    clear H hb hm hl hs hf ht hmm
    generalize cs.length = len at *
    have k0 := inv.zw.c0
    have k1 := inv.zw.c1
    have k2 := inv.zw.c2
    go_enter Try.func5, Try.ntmps5
    go_wp2_with (first
      | (go_at_call 11; with_reducible refine (head_any C.out _ inv.ok).mono ?_; rintro e w2 ⟨rfl, hn⟩; replace inv := inv.step C.out hn; have k0 := inv.zw.c0; have k1 := inv.zw.c1; have k2 := inv.zw.c2; clear hn)
      | (go_at_call 12; with_reducible refine (HSM.out _).mono ?_; rintro e w2 ⟨rfl, hn⟩; replace inv := inv.step C.out hn; have k0 := inv.zw.c0; have k1 := inv.zw.c1; have k2 := inv.zw.c2; clear hn))
    go_ret
    exact ⟨rfl, inv.zw.below⟩
end Go.Proofs.Ytjmnohbgfkohpaa.Zn
