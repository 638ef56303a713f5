/- What the reference implementation's Split returns for every argument. Condition: the zone's changes lie in memory as the argument says. -/
import Derived.Test.YtjmnohbgfkohpaaZoneCount4
import Derived.Test.YtjmnohbgfkohpaaZoneC
namespace Go.Proofs.Ytjmnohbgfkohpaa.Zn
open Go.RowKit
theorem tot_mem2 : ∀ l : List (Int × Int), (∀ x ∈ l, 0 < x.2) → 0 ≤ tot l ∧ ∀ x ∈ l, x.2 ≤ tot l
  | [], _ => ⟨Int.le_refl _, fun x hx => by cases hx⟩
  | (e, n) :: r, h => by
    obtain ⟨h0, h1⟩ := tot_mem2 r (fun y hy => h y (List.mem_cons_of_mem _ hy))
    have h2 : 0 < n := h (e, n) List.mem_cons_self
    refine ⟨by show 0 ≤ n + tot r; omega, fun x hx => ?_⟩
    show x.2 ≤ n + tot r
    rcases List.mem_cons.1 hx with rfl | hx
    · show n ≤ n + tot r; omega
    · have := h1 x hx; omega
theorem cnt_none (lo : Int) (p : Int → Bool) (k : Nat) : cnt lo p k = 0 ↔ ∀ s, lo ≤ s → s < lo + k → p s = false := by
  rw [← filt_length]
  constructor
  · intro h s s0 s1
    cases hp : p s with
    | false => rfl
    | true =>
      have := (filt_mem lo p s k).2 ⟨s0, s1, hp⟩
      rw [List.eq_nil_of_length_eq_zero h] at this
      cases this
  · intro h
    rw [List.length_eq_zero_iff]
    refine List.eq_nil_iff_forall_not_mem.2 (fun s hs => ?_)
    obtain ⟨s0, s1, s2⟩ := (filt_mem lo p s k).1 hs
    rw [h s s0 s1] at s2
    cases s2
/-- What is known of the portions of k minutes. -/
theorem ports_fit {b : Int} {cs : List (Int × Int)} (v : Valid b cs) (f : Int) (k : Nat) (hk : k ≤ 44640) :
    (ports (fun s => loc b cs s / 1440) f k).length ≤ 100 ∧ ∀ x ∈ ports (fun s => loc b cs s / 1440) f k, x.2 ≤ 1000000 := by
  refine ⟨ports_short _ ((f - 840) / 1440) 100 (ports_ok _ _ _) (fun y hy => ?_), fun x hx => ?_⟩
  · obtain ⟨s, s0, s1, hs⟩ := ports_day _ f y k hy
    have := bd v s
    have hs' : loc b cs s / 1440 = y.1 := hs
    unfold loc at hs'
    omega
  · have := (tot_mem2 _ (ports_ok (fun s => loc b cs s / 1440) f k).2).2 x hx
    rw [ports_tot] at this
    omega
set_option maxHeartbeats 4000000 in
set_option maxRecDepth 100000 in
theorem rsplit_in (nm : ByteArray) (b : Int) (a : Option Addr) (cap : Nat) (cs : List (Int × Int)) (f t : Int) (w : World) (v : Valid b cs) (hst : Str f t) (hbig : t - f ≤ 44640) (z : ZoneAt a cs w) :
    Calls Try.prog 21 #[zv nm b a cs.length cap, .int .i64 f, .int .i64 t] w fun r w' =>
      ((∃ u, r = .returned (.tuple #[u, .int .i64 0]) ∧ RowP w' w.heap.size u (ports (fun s => loc b cs s / 1440) f (t - f).toNat) ∧ ∀ s, f ≤ s → s < t → 0 ≤ loc b cs s / 1440 ∧ loc b cs s / 1440 ≤ 36524) ∨
        (r = .returned (.tuple #[.slice none 0 0, .int .i64 21]) ∧ ∃ s, f ≤ s ∧ s < t ∧ ¬ (0 ≤ loc b cs s / 1440 ∧ loc b cs s / 1440 ≤ 36524))) ∧ Below w.heap.size w w' := by
  have hV := fun w (z : ZoneAt a cs w) => rvalid_any nm b a cap cs w (by have := v.1; omega) z
  rw [decide_eq_true v] at hV
  have HV := Lib.hid hV
  have HS := Lib.hid (fun w => rstretch_yes f t w hst)
  have HLL := Lib.hid (fun t t0 t1 => rlocal_ex nm b a cap cs t v t0 t1)
  have HBD := Lib.hid (fun t => bd v t)
  have HFT := Lib.hid (fun k hk => ports_fit v f k hk)
  have HOK := Lib.hid (fun k => ports_ok (fun s => loc b cs s / 1440) f k)
  have HZ := Lib.hid z
  have inv := ZW.start w nm b a cs.length cap cs z
  have hinv0 := Lib.hid inv
  obtain ⟨f0, f1, f2⟩ := hst
  clear hV z v
  generalize cs.length = len at *
  have k0 := inv.c0
  have k1 := inv.c1
  have k2 := inv.c2
  go_enter Try.func21, Try.ntmps21
  go_wp2_with (first
    | (go_at_call 17; with_reducible refine (HV.out _ inv.zone).mono ?_; rintro e w1 ⟨rfl, hn⟩; replace inv := inv.step hn; have k0 := inv.c0; have k1 := inv.c1; have k2 := inv.c2; clear hn)
    | (go_at_call 47; with_reducible refine (HS.out _).mono ?_; rintro e w' ⟨rfl, rfl⟩))
  go_loopg [8, 9] (t - f).toNat (fun g s8 s9 wx => ∃ (k : Nat) (u : Int), k + g = (t - f).toNat ∧ Hid (u = f + k) ∧ s9 = .int .i64 u ∧ Hid (RowP wx (w.heap.size + 1) s8 (ports (fun s => loc b cs s / 1440) f k)) ∧ Hid (∀ s, f ≤ s → s < u → 0 ≤ loc b cs s / 1440 ∧ loc b cs s / 1440 ≤ 36524) ∧ ZW w w.heap.size nm b a len cap cs wx)
  case atStart => exact ⟨0, f, by omega, show f = f + ((0 : Nat) : Int) by omega, rfl, RowP.nil _ _, fun s s0 s1 => absurd s1 (by omega), inv⟩
  case round =>
    clear inv k0 k1 k2
    obtain ⟨k, u, hk, HU, rfl, HR, HAL, inv⟩ := hrel
    have k0 := inv.c0
    have k1 := inv.c1
    have k2 := inv.c2
    cases gk with
    | zero =>
      have HK := Lib.hid (show k = (t - f).toNat by omega)
      have hlt : ¬ u < t := by have := HU.out; omega
      have HUT := Lib.hid (show u = t by have := HU.out; omega)
      go_wp2
      go_ret2
      refine ⟨.inl ⟨_, rfl, ?_, fun s s0 s1 => HAL.out s s0 (by rw [HUT.out]; exact s1)⟩, inv.below⟩
      rw [← HK.out]
      refine ⟨HR.out.1, ?_⟩
      rcases HR.out.2 with hn | ⟨g, cap', cur, hv, hb2, rest⟩
      · exact .inl hn
      · exact .inr ⟨g, cap', cur, hv, by omega, rest⟩
    | succ g =>
      have hlt : u < t := by have := HU.out; omega
      have hu0 : 0 ≤ u := by have := HU.out; omega
      have hu1 : u ≤ 60000000 := by omega
      obtain ⟨dd, mm, -, hmm, hl⟩ := HLL.out u (by omega) (by omega)
      have hd := (hmm (by have := HBD.out u; unfold loc; omega)).1
      have HL := Lib.hid hl
      have HDD := Lib.hid hd
      have hfit := HFT.out k (by omega)
      have HC := Lib.hid (fun w1 h (c : w1.cell? ⟨w.heap.size, 0, none⟩ = some (.string nm)) => rcount_any (w.heap.size + 1) u8 (ports (fun s => loc b cs s / 1440) f k) dd w1 h (HOK.out k) hfit.1 hfit.2 (Nat.succ_le_of_lt (World.block_lt_of_cell? w1 ⟨w.heap.size, 0, none⟩ c)))
      have hdr : -10000 ≤ dd ∧ dd ≤ 100000 := by have := HBD.out u; unfold loc at hd; omega
      clear hl hmm hd hfit
      by_cases hday : 0 ≤ dd ∧ dd ≤ 36524
      · have HD := Lib.hid (fun w => rday_yes dd w hday.1 hday.2)
        go_wp2_with (first
          | (go_at_call 37; with_reducible refine (HL.out _ inv.zone).mono ?_; rintro e w2 ⟨rfl, hn⟩; replace inv := inv.step hn; have HR2 := Lib.hid (HR.out.below hn); have k0 := inv.c0; have k1 := inv.c1; have k2 := inv.c2; clear hn)
          | (go_at_call 38; with_reducible refine (HD.out _).mono ?_; rintro e w' ⟨rfl, rfl⟩)
          | (go_at_call 48; with_reducible refine (HC.out _ HR2.out inv.c0).mono ?_; rintro e w3 ⟨v', rfl, hr3, hb3⟩; replace inv := ZW.grown HZ.out inv hb3; have HR3 := Lib.hid hr3; clear hr3 hb3))
        go_roundg g
        case measure => omega
        case rel => exact ⟨k + 1, u + 1, by omega, show u + 1 = f + ((k + 1 : Nat) : Int) by have := HU.out; omega, rfl, (by
          have e : ports (fun s => loc b cs s / 1440) f (k + 1) = ins (ports (fun s => loc b cs s / 1440) f k) dd := by
            show ins _ (loc b cs (f + k) / 1440) = _
            rw [← HU.out, ← HDD.out]
          show RowP _ _ _ _
          rw [e]; exact HR3.out), (fun s s0 s1 => by
          rcases Int.lt_or_le s u with h | h
          · exact HAL.out s s0 h
          · obtain rfl : s = u := by omega
            rw [← HDD.out]; exact hday), inv⟩
      · have HD := Lib.hid (fun w => rday_no dd w (by omega))
        go_wp2_with (first
          | (go_at_call 37; with_reducible refine (HL.out _ inv.zone).mono ?_; rintro e w2 ⟨rfl, hn⟩; replace inv := inv.step hn; have HR2 := Lib.hid (HR.out.below hn); have k0 := inv.c0; have k1 := inv.c1; have k2 := inv.c2; clear hn)
          | (go_at_call 38; with_reducible refine (HD.out _).mono ?_; rintro e w' ⟨rfl, rfl⟩))
        go_ret2
        exact ⟨.inr ⟨rfl, u, by have := HU.out; omega, hlt, by rw [← HDD.out]; exact hday⟩, inv.below⟩
set_option maxHeartbeats 1000000 in
set_option maxRecDepth 100000 in
theorem rsplit_v (nm : ByteArray) (b : Int) (a : Option Addr) (cap : Nat) (cs : List (Int × Int)) (f t : Int) (w : World) (hl : cs.length ≤ 9223372036854775807) (v : ¬ Valid b cs) (z : ZoneAt a cs w) :
    Calls Try.prog 21 #[zv nm b a cs.length cap, .int .i64 f, .int .i64 t] w fun r w' => r = .returned (.tuple #[.slice none 0 0, .int .i64 1]) ∧ Below w.heap.size w w' := by
  have hV := fun w (z : ZoneAt a cs w) => rvalid_any nm b a cap cs w hl z
  rw [decide_eq_false v] at hV
  have HV := Lib.hid hV
  have inv := ZW.start w nm b a cs.length cap cs z
  clear hV z
  generalize cs.length = len at *
  have k0 := inv.c0
  have k1 := inv.c1
  have k2 := inv.c2
  go_enter Try.func21, Try.ntmps21
  go_wp2_with (first
    | (go_at_call 17; with_reducible refine (HV.out _ inv.zone).mono ?_; rintro e w1 ⟨rfl, hn⟩; replace inv := inv.step hn; have k0 := inv.c0; have k1 := inv.c1; have k2 := inv.c2; clear hn))
  go_ret2
  exact ⟨rfl, inv.below⟩
set_option maxHeartbeats 1000000 in
set_option maxRecDepth 100000 in
theorem rsplit_s (nm : ByteArray) (b : Int) (a : Option Addr) (cap : Nat) (cs : List (Int × Int)) (f t : Int) (w : World) (hl : cs.length ≤ 9223372036854775807) (v : Valid b cs) (hs : ¬ Str f t) (z : ZoneAt a cs w) :
    Calls Try.prog 21 #[zv nm b a cs.length cap, .int .i64 f, .int .i64 t] w fun r w' => r = .returned (.tuple #[.slice none 0 0, .int .i64 1]) ∧ Below w.heap.size w w' := by
  have hV := fun w (z : ZoneAt a cs w) => rvalid_any nm b a cap cs w hl z
  rw [decide_eq_true v] at hV
  have HV := Lib.hid hV
  have HS := Lib.hid (fun w => rstretch_no f t w hs)
  have inv := ZW.start w nm b a cs.length cap cs z
  clear hV z
  generalize cs.length = len at *
  have k0 := inv.c0
  have k1 := inv.c1
  have k2 := inv.c2
  go_enter Try.func21, Try.ntmps21
  go_wp2_with (first
    | (go_at_call 17; with_reducible refine (HV.out _ inv.zone).mono ?_; rintro e w1 ⟨rfl, hn⟩; replace inv := inv.step hn; have k0 := inv.c0; have k1 := inv.c1; have k2 := inv.c2; clear hn)
    | (go_at_call 47; with_reducible refine (HS.out _).mono ?_; rintro e w' ⟨rfl, rfl⟩))
  go_ret2
  exact ⟨rfl, inv.below⟩
set_option maxHeartbeats 1000000 in
set_option maxRecDepth 100000 in
theorem rsplit_b (nm : ByteArray) (b : Int) (a : Option Addr) (cap : Nat) (cs : List (Int × Int)) (f t : Int) (w : World) (hl : cs.length ≤ 9223372036854775807) (v : Valid b cs) (hs : Str f t) (hb : 44640 < t - f) (z : ZoneAt a cs w) :
    Calls Try.prog 21 #[zv nm b a cs.length cap, .int .i64 f, .int .i64 t] w fun r w' => r = .returned (.tuple #[.slice none 0 0, .int .i64 2]) ∧ Below w.heap.size w w' := by
  have hV := fun w (z : ZoneAt a cs w) => rvalid_any nm b a cap cs w hl z
  rw [decide_eq_true v] at hV
  have HV := Lib.hid hV
  have HS := Lib.hid (fun w => rstretch_yes f t w hs)
  obtain ⟨st0, st1, st2⟩ := hs
  have inv := ZW.start w nm b a cs.length cap cs z
  clear hV z
  generalize cs.length = len at *
  have k0 := inv.c0
  have k1 := inv.c1
  have k2 := inv.c2
  go_enter Try.func21, Try.ntmps21
  go_wp2_with (first
    | (go_at_call 17; with_reducible refine (HV.out _ inv.zone).mono ?_; rintro e w1 ⟨rfl, hn⟩; replace inv := inv.step hn; have k0 := inv.c0; have k1 := inv.c1; have k2 := inv.c2; clear hn)
    | (go_at_call 47; with_reducible refine (HS.out _).mono ?_; rintro e w' ⟨rfl, rfl⟩))
  go_ret2
  exact ⟨rfl, inv.below⟩
theorem rsplit_any (nm : ByteArray) (b : Int) (a : Option Addr) (cap : Nat) (cs : List (Int × Int)) (f t : Int) (w : World) (hl : cs.length ≤ 9223372036854775807) (z : ZoneAt a cs w) :
    Calls Try.prog 21 #[zv nm b a cs.length cap, .int .i64 f, .int .i64 t] w fun r w' => ∃ a' c', r = .returned (.tuple #[.slice a' (splitL b cs f t).length c', .int .i64 (splitE b cs f t)]) ∧ PortsAt a' (splitL b cs f t) w' ∧ Below w.heap.size w w' := by
  have nilAt : ∀ w', PortsAt none [] w' := fun w' i x hx => by simp at hx
  by_cases v : Valid b cs
  · by_cases hs : Str f t
    · by_cases hb : 44640 < t - f
      · have hE : splitE b cs f t = 2 := by unfold splitE; rw [if_pos ⟨v, hs⟩, if_pos hb]
        have hL : splitL b cs f t = [] := by unfold splitL; rw [if_neg (by omega)]
        rw [hE, hL]
        exact (rsplit_b nm b a cap cs f t w hl v hs hb z).mono (fun r w' h => ⟨none, 0, h.1, nilAt w', h.2⟩)
      · have hs' : 0 ≤ f ∧ f ≤ t := ⟨hs.1, hs.2.1⟩
        have hiff : cnt f (fun s => !decide (0 ≤ loc b cs s / 1440 ∧ loc b cs s / 1440 ≤ 36524)) (t - f).toNat = 0 ↔ ∀ s, f ≤ s → s < t → 0 ≤ loc b cs s / 1440 ∧ loc b cs s / 1440 ≤ 36524 := by
          rw [cnt_none]
          constructor
          · intro h s s0 s1
            have := h s s0 (by omega)
            simpa using this
          · intro h s s0 s1
            have := h s s0 (by omega)
            simpa using this
        refine (rsplit_in nm b a cap cs f t w v hs (by omega) z).mono ?_
        rintro r w' ⟨(⟨u, rfl, hR, hall⟩ | ⟨rfl, s, s0, s1, hbad⟩), hB⟩
        · have hE : splitE b cs f t = 0 := by unfold splitE; rw [if_pos ⟨v, hs⟩, if_neg hb, if_pos (hiff.2 hall)]
          have hL : splitL b cs f t = ports (fun s => loc b cs s / 1440) f (t - f).toNat := by unfold splitL; rw [if_pos hE]
          rw [hE, hL]
          obtain ⟨a', c', rfl, hP⟩ := hR.ports
          exact ⟨a', c', rfl, hP, hB⟩
        · have hE : splitE b cs f t = 21 := by unfold splitE; rw [if_pos ⟨v, hs⟩, if_neg hb, if_neg (fun h => hbad (hiff.1 h s s0 s1))]
          have hL : splitL b cs f t = [] := by unfold splitL; rw [if_neg (by omega)]
          rw [hE, hL]
          exact ⟨none, 0, rfl, nilAt w', hB⟩
    · have hE : splitE b cs f t = 1 := by unfold splitE; rw [if_neg (fun h => hs h.2)]
      have hL : splitL b cs f t = [] := by unfold splitL; rw [if_neg (by omega)]
      rw [hE, hL]
      exact (rsplit_s nm b a cap cs f t w hl v hs z).mono (fun r w' h => ⟨none, 0, h.1, nilAt w', h.2⟩)
  · have hE : splitE b cs f t = 1 := by unfold splitE; rw [if_neg (fun h => v h.1)]
    have hL : splitL b cs f t = [] := by unfold splitL; rw [if_neg (by omega)]
    rw [hE, hL]
    exact (rsplit_v nm b a cap cs f t w hl v z).mono (fun r w' h => ⟨none, 0, h.1, nilAt w', h.2⟩)
end Go.Proofs.Ytjmnohbgfkohpaa.Zn
