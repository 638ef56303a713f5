/- What package zone's Instants returns. Condition: the zone's changes lie in memory as the argument says. -/
import Derived.Test.YtjmnohbgfkohpaaZoneOwn2
import Derived.Test.YtjmnohbgfkohpaaZoneMath4
import Derived.Test.YtjmnohbgfkohpaaShelf
import Derived.Deep.RegionHeld3
import Derived.Deep.Cut
import Derived.Deep.DeepCutAuto
import Derived.Laws.IdiomCopy
namespace Go.Proofs.Ytjmnohbgfkohpaa.Zn
open Go.RowKit
theorem below_setCells {B b : Nat} (hB : B ≤ b) : ∀ (vs : List Value) (o : Nat) (w : World), Below B w (w.setCells b o vs)
  | [], _, w => Below.refl _ w
  | v :: vs, o, w => ((Below.refl B w).setCell (p := ⟨b, o, none⟩) hB v).trans (below_setCells hB vs (o + 1) _)
theorem compact_two (x y : Int) : Lib.compact [x, y] = two x y := by
  unfold Lib.compact Lib.compactUpTo two
  by_cases h : x = y
  · subst h; simp [List.range_succ, Lib.keeps]
  · have h' : ¬ y = x := fun e => h e.symm
    simp [List.range_succ, Lib.keeps, h, h']
theorem zcompact_any (x y : Int) (w : World) : Calls Try.prog 54 #[.slice (some ⟨w.heap.size, 0, none⟩) 2 2] (w.alloc (.cells #[.int .i64 x, .int .i64 y] 3)) fun r w' => r = .returned (.slice (some ⟨w.heap.size, 0, none⟩) (two x y).length 2) ∧ IntsAt (some ⟨w.heap.size, 0, none⟩) (two x y) w' ∧ Below w.heap.size w w' := by
  have hc : ∀ j, j < [x, y].length → (w.alloc (.cells #[.int .i64 x, .int .i64 y] 3)).cell? ⟨w.heap.size, 0 + j, none⟩ = some (.int .i64 ([x, y].getD j 0)) := fun j hj => by
    rw [World.cell?_alloc_new]
    match j, hj with
    | 0, _ => rfl
    | 1, _ => rfl
  have hf : ∀ j, j < 2 → (w.alloc (.cells #[.int .i64 x, .int .i64 y] 3)).frozen? ⟨w.heap.size, 0 + j, none⟩ = false := fun j _ => by
    have hh := heap_alloc_new w (.cells #[.int .i64 x, .int .i64 y] 3)
    simp only [World.frozen?, hh]
    simp
  have h := Try.slices_Compact_int_cells w.heap.size 0 2 2 [x, y] _ (by simp) (by decide) (Nat.le_refl _) hc hf
  rw [show [x, y].take 2 = [x, y] from rfl, compact_two] at h
  refine h.mono ?_
  rintro r w' ⟨rfl, q, rfl⟩
  have hl : (two x y).length ≤ 2 := by unfold two; split <;> simp
  have hlen : ((two x y ++ List.replicate (2 - (two x y).length) 0).map (Value.int .i64)).length = 2 := by simp; omega
  refine ⟨rfl, fun i u hu => ⟨w.heap.size, 0, rfl, ?_⟩, ?_⟩
  · have hi : i < (two x y).length := (List.getElem?_eq_some_iff.1 hu).1
    have := World.cell?_setCells_in w.heap.size ((two x y ++ List.replicate (2 - (two x y).length) 0).map (Value.int .i64)) 0 ((w.alloc (.cells #[.int .i64 x, .int .i64 y] 3)).drewN q) (fun j hj => by
      rw [hlen] at hj
      show ((w.alloc (.cells #[.int .i64 x, .int .i64 y] 3)).cell? _).isSome = true
      rw [hc j hj]; rfl) i (by omega)
    rw [this]
    congr 1
    rw [List.getElem_map, List.getElem_append_left hi]
    obtain ⟨_, he⟩ := List.getElem?_eq_some_iff.1 hu
    rw [he]
  · exact (below_drewN ((Below.refl _ w).alloc (Nat.le_refl _) _) q).trans (below_setCells (Nat.le_refl _) _ _ _)
/-- A box of a local time. -/
structure TW (g : Nat) (d m : Int) (wx : World) : Prop where
  c0 : wx.cell? ⟨g, 0, none⟩ = some (.int .i64 d)
  c1 : wx.cell? ⟨g, 1, none⟩ = some (.int .i64 m)
theorem TW.step {g : Nat} {d m : Int} {wx wn : World} (h : TW g d m wx) (k : Below wx.heap.size wx wn) : TW g d m wn := ⟨cell_kept k h.c0, cell_kept k h.c1⟩
set_option maxHeartbeats 2000000 in
set_option maxRecDepth 100000 in
theorem zinstants_in (nm : ByteArray) (b : Int) (a : Option Addr) (cap : Nat) (cs : List (Int × Int)) (d m : Int) (w : World) (v : Valid b cs) (z : ZoneAt a cs w) (d0 : 0 ≤ d) (d1 : d ≤ 36524) (m0 : 0 ≤ m) (m1 : m ≤ 1439) :
    Calls Try.prog 26 #[zv nm b a cs.length cap, .int .i64 d, .int .i64 m] w fun r w' => ∃ v, r = .returned v ∧ RowI w' w.heap.size v (insts b cs d m) ∧ Below w.heap.size w w' := by
  have hV := fun w (z : ZoneAt a cs w) => zvalid_any nm b a cap cs w (by have := v.1; omega) z
  rw [decide_eq_true v] at hV
  have HV := Lib.hid hV
  have HD := Lib.hid (fun w => zday_is (n := d) true (decide_eq_true ⟨d0, d1⟩) w)
  have HM := Lib.hid (fun w => zminute_is (n := m) true (decide_eq_true ⟨m0, m1⟩) w)
  have HO := Lib.hid (fun t w (z : ZoneAt a cs w) => zoffset_any nm b a cap cs t w (by have := v.1; omega) z)
  have HBD := Lib.hid (fun t => bd v t)
  have HE := Lib.hid (insts_hits v d m)
  have inv := ZW.start w nm b a cs.length cap cs z
  have HZ := Lib.hid z
  clear hV v z
  generalize cs.length = len at *
  obtain ⟨i0, hi, hz0, hz1, hz2⟩ := info_parts Try.infoI
  have HI0 := Lib.hid (And.intro hi (And.intro hz0 (And.intro hz1 hz2)))
  clear hi hz0 hz1 hz2
  have k0 := inv.c0
  have k1 := inv.c1
  have k2 := inv.c2
  have b1 := HBD.out (1440 * d + m - 1440)
  have b2 := HBD.out (1440 * d + m + 1440)
  have HX := Lib.hid (fun w (z : ZoneAt a cs w) => HO.out (1440 * d + m - 1440) w z)
  have HY := Lib.hid (fun w (z : ZoneAt a cs w) => HO.out (1440 * d + m + 1440) w z)
  generalize offFrom b cs (1440 * d + m - 1440) = o1 at *
  generalize offFrom b cs (1440 * d + m + 1440) = o2 at *
  have hC := fun w => zcompact_any (1440 * d + m - o1) (1440 * d + m - o2) w
  have hl2 : (two (1440 * d + m - o1) (1440 * d + m - o2)).length ≤ 2 := by unfold two; split <;> simp
  have HB := Lib.hid (show ∀ u, u ∈ two (1440 * d + m - o1) (1440 * d + m - o2) → -1000 ≤ u ∧ u ≤ 53000000 from fun u hu => by
    unfold two at hu
    split at hu
    · have := List.mem_singleton.1 hu; omega
    · rcases List.mem_cons.1 hu with h | h
      · omega
      · have := List.mem_singleton.1 h; omega)
  generalize two (1440 * d + m - o1) (1440 * d + m - o2) = L at *
  obtain ⟨ln, hln⟩ : ∃ ln, ln = L.length := ⟨_, rfl⟩
  rw [← hln] at hC hl2
  have HC := Lib.hid hC
  have HLN := Lib.hid hln
  clear hC hln
  go_enter Try.func26, Try.ntmps26
  go_upto_region 5 with (first
    | (go_at_call 16; with_reducible refine (HV.out _ inv.zone).mono ?_; rintro e w1 ⟨rfl, hn⟩; replace inv := inv.step hn; have k0 := inv.c0; have k1 := inv.c1; have k2 := inv.c2; clear hn)
    | (go_at_call 35; with_reducible refine (HD.out _).mono ?_; rintro e w' ⟨rfl, rfl⟩)
    | (go_at_call 53; with_reducible refine (HM.out _).mono ?_; rintro e w' ⟨rfl, rfl⟩))
  have t0 : (w1.alloc (.cells #[.int .i64 d, .int .i64 m] 46)).cell? ⟨w1.heap.size, 0, none⟩ = some (.int .i64 d) := by simp [World.cell?_alloc_new]
  have t1 : (w1.alloc (.cells #[.int .i64 d, .int .i64 m] 46)).cell? ⟨w1.heap.size, 1, none⟩ = some (.int .i64 m) := by simp [World.cell?_alloc_new]
  have tim : TW w1.heap.size d m (w1.alloc (.cells #[.int .i64 d, .int .i64 m] 46)) := ⟨t0, t1⟩
  replace inv := inv.step ((Below.refl _ _).alloc (Nat.le_refl _) (.cells #[.int .i64 d, .int .i64 m] 46))
  generalize w1.alloc (.cells #[.int .i64 d, .int .i64 m] 46) = w2 at *
  generalize w1.heap.size = g7 at *
  clear k0 k1 k2 t0 t1
  have k0 := inv.c0
  have k1 := inv.c1
  have k2 := inv.c2
  go_upto_region 8 with (first
    | (go_at_call 34; ((with_reducible refine (HX.out _ inv.zone).mono ?_); rintro e w3 ⟨rfl, hn⟩); replace inv := inv.step hn; replace tim := tim.step hn; have k0 := inv.c0; have k1 := inv.c1; have k2 := inv.c2; clear hn)
    | (go_at_call 34; ((with_reducible refine (HY.out _ inv.zone).mono ?_); rintro e w3 ⟨rfl, hn⟩); replace inv := inv.step hn; replace tim := tim.step hn; have k0 := inv.c0; have k1 := inv.c1; have k2 := inv.c2; clear hn))
  go_wp2_with (go_at_call 54; ((with_reducible refine (HC.out _).mono ?_); rintro e w4 ⟨rfl, hints, hn⟩))
  have hb3 := hn.size
  replace inv := inv.step hn
  replace tim := tim.step hn
  have hg3 := (World.block_lt_of_cell? _ _ tim.c0)
  have hgw := (World.block_lt_of_cell? _ _ inv.c0)
  have HK := Lib.hid (show ∀ wx, Below w4.heap.size w4 wx → ZW w w.heap.size nm b a len cap cs wx ∧ TW g7 d m wx ∧ IntsAt (some ⟨w3.heap.size, 0, none⟩) L wx from fun wx k => ⟨inv.step k, tim.step k, hints.below k⟩)
  have HBW := Lib.hid inv.below
  clear inv tim hints hn k0 k1 k2 hb3 hg3 hgw
  generalize w3.heap.size = g8 at *
  go_loopg [11, 51] ln (fun g s11 s51 wx => ∃ k : Nat, k + g = ln ∧ s51 = .int .i64 k ∧ Hid (RowI wx w4.heap.size s11 (hits b cs (1440 * d + m) (L.take k))) ∧ Below w4.heap.size w4 wx)
  case atStart => exact ⟨0, by omega, rfl, show RowI _ _ _ _ from RowI.nil _ _, Below.refl _ _⟩
  case round =>
    obtain ⟨k, hk, rfl, HR, hB⟩ := hrel
    obtain ⟨inv, tim, hints⟩ := HK.out _ hB
    cases gk with
    | zero =>
      have hlt : ¬ (k : Int) < (ln : Int) := by omega
      have HKK := Lib.hid (show k = ln by omega)
      clear inv tim hints
      go_wp2
      go_ret
      exact ⟨_, rfl, by
        have h := HR.out
        rw [HKK.out, HLN.out, List.take_length, ← HE.out] at h
        exact ⟨h.1, h.2.imp id (fun ⟨g, cap, cur, e1, e2, e3⟩ => ⟨g, cap, cur, e1, Nat.le_trans HBW.out.size e2, e3⟩)⟩, HBW.out.trans (hB.mono HBW.out.size)⟩
    | succ g =>
      have hlt : (k : Int) < (ln : Int) := by omega
      obtain ⟨u, hu⟩ : ∃ u, L[k]? = some u := ⟨_, List.getElem?_eq_getElem (by have := HLN.out; omega)⟩
      obtain ⟨u0, u1⟩ := HB.out u (List.mem_of_getElem? hu)
      obtain ⟨b8, o8, e8, c8⟩ := hints k u hu
      cases e8
      have c8' : wr.cell? ⟨g8, k, none⟩ = some (.int .i64 u) := by rw [Nat.zero_add] at c8; exact c8
      have HU := Lib.hid hu
      clear hu c8 hints
      have k0 := inv.c0
      have k1 := inv.c1
      have k2 := inv.c2
      have k3 := tim.c0
      have k4 := tim.c1
      go_upto_region 11 with (fail)
      obtain ⟨hit, hhit⟩ : ∃ hit, hit = (inst u && decide (loc b cs u = 1440 * d + m)) := ⟨_, rfl⟩
      have HH := Lib.hid hhit
      have hlu : loc b cs u = u + offFrom b cs u := rfl
      rw [hlu] at hhit
      have hou := HBD.out u
      have HU2 := Lib.hid (fun w (z : ZoneAt a cs w) => HO.out u w z)
      generalize offFrom b cs u = o at *
      have HQ := Lib.hid (fun w => zclock_any (u + o) (by omega) (by omega) w)
      have hqr : u + o = 1440 * d + m ↔ (u + o) / 1440 = d ∧ (u + o) % 1440 = m := by omega
      have hw := IntWalk.i64_in (u + o) (by omega)
      generalize (u + o) / 1440 = q at *
      generalize (u + o) % 1440 = r at *
      clear hlu
      go_cut [66] (fun s66 wx => s66 = .bool hit ∧ Below wr.heap.size wr wx)
      case first =>
        by_cases hin : 0 ≤ u ∧ u ≤ 52595999
        · have HI := Lib.hid (fun w => zinst_is (n := u) true (decide_eq_true hin) w)
          have hres : hit = ((q == d) && (r == m)) := by
            rw [hhit, Bool.eq_iff_iff]
            simp only [inst, Bool.and_eq_true, decide_eq_true_eq, beq_iff_eq, hqr]
            exact ⟨fun h => h.2, fun h => ⟨hin, h⟩⟩
          clear hhit hqr hin
          have hbw := (Below.refl wr.heap.size wr).drew
          replace inv := inv.step hbw
          replace tim := tim.step hbw
          obtain ⟨e1, he1⟩ : ∃ e1, (q == d) = e1 := ⟨_, rfl⟩
          obtain ⟨e2, he2⟩ : ∃ e2, (r == m) = e2 := ⟨_, rfl⟩
          rw [he1, he2] at hres
          have HRES := Lib.hid hres
          clear hres
          cases e1 <;> cases e2
          all_goals (
            go_region_held3 (fun w' => w'.cell? ⟨w.heap.size, 0, none⟩ = some (.string nm) ∧ w'.cell? ⟨w.heap.size, 1, none⟩ = some (.int .i64 b) ∧ w'.cell? ⟨w.heap.size, 2, none⟩ = some (.slice a len cap) ∧ w'.cell? ⟨g7, 0, none⟩ = some (.int .i64 d) ∧ w'.cell? ⟨g7, 1, none⟩ = some (.int .i64 m) ∧ ZW w w.heap.size nm b a len cap cs w' ∧ TW g7 d m w' ∧ Below wr.heap.size wr w')
              (exact ⟨inv.c0, inv.c1, inv.c2, tim.c0, tim.c1, inv, tim, hbw⟩)
              (first
                | (go_at_call 32; ((with_reducible refine (HI.out _).mono ?_); rintro e w' ⟨rfl, rfl⟩))
                | (go_at_call 34; ((with_reducible refine (HU2.out _ inv.zone).mono ?_); rintro e w5 ⟨rfl, hn⟩); replace inv := inv.step hn; replace tim := tim.step hn; replace hbw := hbw.trans (hn.mono hbw.size); clear hn)
                | (go_at_call 33; ((with_reducible refine (HQ.out _).mono ?_); rintro e w5 ⟨rfl, hn⟩); replace inv := inv.step hn; replace tim := tim.step hn; replace hbw := hbw.trans (hn.mono hbw.size); clear hn))
            all_goals (go_wp2_with fail; go_meet; exact ⟨by rw [HRES.out]; rfl, hbw⟩))
        · have HI := Lib.hid (fun w => (zinst_is (n := u) false (decide_eq_false hin) w).mono (fun _ _ h => And.intro h.1 h.2.symm))
          have hres : hit = false := by
            rw [hhit, Bool.and_eq_false_iff]
            exact .inl (decide_eq_false hin)
          have HRES := Lib.hid hres
          clear hhit hqr hres hin hw
          go_quiet ((go_at_call 32; exact Calls.quiet_of_same (HI.out _)))
          go_wp2_with fail
          go_meet
          exact ⟨by rw [HRES.out], below_drewN (Below.refl _ _) _⟩
      case rest =>
        obtain ⟨rfl, hbw⟩ := hcut
        have HTK := Lib.hid (show hits b cs (1440 * d + m) (L.take (k + 1)) = hits b cs (1440 * d + m) (L.take k) ++ if hit = true then [u] else [] by
          have h1 : L.take (k + 1) = L.take k ++ [u] := by rw [List.take_add_one, HU.out]; rfl
          rw [h1, hits_snoc, ← HH.out])
        replace HR := Lib.hid (HR.out.below hbw)
        replace hB := hB.trans (hbw.mono hB.size)
        have HLE := Lib.hid (show (hits b cs (1440 * d + m) (L.take k)).length ≤ 2 from Nat.le_trans (List.length_filter_le _ _) (by rw [List.length_take]; omega))
        clear inv tim k0 k1 k2 k3 k4 c8' hhit hqr hw hou HH
        cases hit with
        | true =>
          rw [if_pos rfl] at HTK
          go_wp2_with (at_builtin; refine wpList_append_own _ rfl _ _ 41 rfl w4.heap.size 3 i0 (.int .i64 0) 1 8 Try.underI HI0.out.1 HI0.out.2.1 HI0.out.2.2.1 HI0.out.2.2.2 rfl (by decide) _ _ _ rfl (World.ownsRow.alloc HR.out _) _ 1 1 [.int .i64 u] rfl rfl ?c1 ?c2 ?c3 ?c4 ?c5 ?_)
          case c1 =>
            intro j x hj
            match j, hj with
            | 0, hj => simp at hj; subst hj; simp [Addr.add]
          case c2 => intro x hx; simp at hx; subst hx; rfl
          case c3 => have := HLE.out; unfold maxLen; omega
          case c4 => have := HLE.out; omega
          case c5 => have := hB.size; simp; omega
          · intro v' w6 hown' hgrow _
            have hB2 := grown_below (World.ownsRow.alloc HR.out _) hgrow hB.size (Nat.le_refl _)
            have HR1 := Lib.hid (RowI.push hown')
            have hB3 := hB.trans hB2
            clear hown' hgrow HR hB hB2
            go_wp2
            go_roundg g
            case measure => omega
            case rel => exact ⟨k + 1, by omega, by go_num, show RowI _ _ _ _ by rw [HTK.out]; exact HR1.out, hB3⟩
        | false =>
          rw [if_neg (by decide)] at HTK
          go_wp2
          go_roundg g
          case measure => omega
          case rel => exact ⟨k + 1, by omega, by go_num, show RowI _ _ _ _ by rw [HTK.out, List.append_nil]; exact HR.out, hB⟩
end Go.Proofs.Ytjmnohbgfkohpaa.Zn
