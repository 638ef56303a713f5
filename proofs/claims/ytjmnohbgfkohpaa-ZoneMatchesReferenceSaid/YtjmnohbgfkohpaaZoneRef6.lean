/- What the reference implementation's Instants returns: the list of instants of a local time; and its Length out of the days. Condition: the zone's changes lie in memory as the argument says. -/
import Derived.Test.YtjmnohbgfkohpaaZoneRef4
namespace Go.Proofs.Ytjmnohbgfkohpaa.Zn
open Go.RowKit
/-- A list of ints that the call itself made. -/
def RowI (w : World) (base : Nat) (v : Value) (l : List Int) : Prop := w.ownsRow base 3 1 v l.length (l.map (Value.int .i64))
theorem RowI.nil (w : World) (base : Nat) : RowI w base (.slice none 0 0) [] := World.ownsRow_nil _ _ _ _
theorem RowI.below {w w' : World} {base : Nat} {v : Value} {l : List Int} (h : RowI w base v l) (k : Below w.heap.size w w') : RowI w' base v l := by
  refine ⟨h.1, ?_⟩
  rcases h.2 with hn | ⟨g, cap, cur, hv, hb, hg, rest⟩
  · exact .inl hn
  · exact .inr ⟨g, cap, cur, hv, hb, (k.block g (Array.getElem?_eq_some_iff.1 hg).1).trans hg, rest⟩
theorem RowI.push {w : World} {base : Nat} {v : Value} {l : List Int} {t : Int} (h : w.ownsRow base 3 1 v (l.length + 1) (l.map (Value.int .i64) ++ [.int .i64 t])) : RowI w base v (l ++ [t]) := by
  unfold RowI
  rw [List.length_append, List.map_append]
  exact h
theorem RowI.ints {w : World} {base : Nat} {v : Value} {l : List Int} (h : RowI w base v l) : ∃ a cap, v = .slice a l.length cap ∧ IntsAt a l w := by
  rcases h.2 with ⟨hv, hn⟩ | ⟨g, cap, cur, hv, hb, hg, rest⟩
  · refine ⟨none, 0, by rw [hv, hn], fun i x hx => ?_⟩
    rw [List.eq_nil_of_length_eq_zero hn] at hx
    simp at hx
  · refine ⟨some ⟨g, 0, none⟩, cap, hv, fun i x hx => ⟨g, 0, rfl, ?_⟩⟩
    subst hv
    have := World.ownsRow.cells h (g := g) rfl i (.int .i64 x) (by rw [List.getElem?_map, hx]; rfl)
    have e : (⟨g, 0, none⟩ : Addr).add i = ⟨g, 0 + i, none⟩ := by unfold Addr.add; split <;> simp_all
    rw [e] at this
    exact this
/-- What the call's own new blocks leave. -/
theorem grown_below {w w1 : World} {o : Obj} {B base : Nat} {v : Value} {e sz n : Nat} {xs : List Value} (hown : (w.alloc o).ownsRow base e sz v n xs) (hg : (w.alloc o).grownBy w1 v.ownBlock) (hB : B ≤ w.heap.size) (hb : B ≤ base) : Below B w w1 :=
  ((Below.refl B w).alloc hB o).grown hg (by simp; omega) (fun k hk => by have := (hown.lt k hk).1; omega)
theorem ZW.grown {w : World} {nm : ByteArray} {b : Int} {a : Option Addr} {len cap : Nat} {cs : List (Int × Int)} {wx wn : World} (z : ZoneAt a cs w) (h : ZW w w.heap.size nm b a len cap cs wx) (k : Below (w.heap.size + 1) wx wn) : ZW w w.heap.size nm b a len cap cs wn :=
  have hb := h.below.trans (k.mono (Nat.le_succ _))
  ⟨hb, (k.cell (Nat.lt_succ_self _)).trans h.c0, (k.cell (Nat.lt_succ_self _)).trans h.c1, (k.cell (Nat.lt_succ_self _)).trans h.c2, z.below hb⟩
theorem insts_count (b : Int) (cs : List (Int × Int)) (d m : Int) (v : Valid b cs) : ∃ L : Nat → List Int, L 0 = [] ∧ L 1681 = insts b cs d m ∧ (∀ k, (L k).length ≤ 2) ∧
    ∀ (k : Nat) (t : Int), t = 1440 * d + m - 840 + k → L (k + 1) = L k ++ if (0 ≤ t ∧ t ≤ 52595999) ∧ loc b cs t = 1440 * d + m then [t] else [] := by
  refine ⟨fun k => filt (1440 * d + m - 840) (fun t => inst t && decide (loc b cs t = 1440 * d + m)) k, rfl, rfl, fun k => ?_, fun k t h => ?_⟩
  · show (filt _ _ k).length ≤ 2
    rw [filt_length]; exact same_two v _ _ _ _
  · subst h
    show filt _ _ k ++ (if (inst (1440 * d + m - 840 + k) && decide (loc b cs (1440 * d + m - 840 + k) = 1440 * d + m)) = true then [1440 * d + m - 840 + (k : Int)] else []) = _
    congr 1
    by_cases c : (0 ≤ 1440 * d + m - 840 + (k : Int) ∧ 1440 * d + m - 840 + (k : Int) ≤ 52595999) ∧ loc b cs (1440 * d + m - 840 + k) = 1440 * d + m
    · rw [if_pos c, if_pos (by simp only [inst, Bool.and_eq_true, decide_eq_true_eq]; exact c)]
    · rw [if_neg c, if_neg (fun hh => c (by simpa only [inst, Bool.and_eq_true, decide_eq_true_eq] using hh))]
theorem Try.infoI : (Try.prog.info? 3).map (fun i => (i.zero, i.size, i.bytes)) = some (some (.int .i64 0), 1, 8) := by kernel_rfl
theorem Try.underI : Try.prog.underlying 41 = some (.slice 3) := by kernel_rfl
set_option maxHeartbeats 2000000 in
theorem rinstants_in (nm : ByteArray) (b : Int) (a : Option Addr) (cap : Nat) (cs : List (Int × Int)) (d m : Int) (w : World) (v : Valid b cs) (z : ZoneAt a cs w) (d0 : 0 ≤ d) (d1 : d ≤ 36524) (m0 : 0 ≤ m) (m1 : m ≤ 1439) :
    Calls Try.prog 27 #[zv nm b a cs.length cap, .int .i64 d, .int .i64 m] w fun r w' => ∃ v, r = .returned v ∧ RowI w' w.heap.size v (insts b cs d m) ∧ Below w.heap.size w w' := by
  have hV := fun w (z : ZoneAt a cs w) => rvalid_any nm b a cap cs w (by have := v.1; omega) z
  rw [decide_eq_true v] at hV
  have HV := Lib.hid hV
  have HD := Lib.hid (fun w => flip_same (rday_yes d w d0 d1))
  have HLL := Lib.hid (fun t t0 t1 => rlocal_ex nm b a cap cs t v t0 t1)
  obtain ⟨L, hL0, hLe, hLb, hLs⟩ := insts_count b cs d m v
  have HLB := Lib.hid hLb
  have HLS := Lib.hid hLs
  have HE := Lib.hid hLe
  have HBD := Lib.hid (fun t => bd v t)
  have inv := ZW.start w nm b a cs.length cap cs z
  have HZ := Lib.hid z
  clear hV hLb hLs hLe v z
  generalize cs.length = len at *
  obtain ⟨i0, hi, hz0, hz1, hz2⟩ := info_parts Try.infoI
  have HI0 := Lib.hid (And.intro hi (And.intro hz0 (And.intro hz1 hz2)))
  clear hi hz0 hz1 hz2
  have k0 := inv.c0
  have k1 := inv.c1
  have k2 := inv.c2
  go_enter Try.func27, Try.ntmps27
  go_wp2_with (first
    | (go_at_call 17; with_reducible refine (HV.out _ inv.zone).mono ?_; rintro e w1 ⟨rfl, hn⟩; replace inv := inv.step hn; have k0 := inv.c0; have k1 := inv.c1; have k2 := inv.c2; clear hn)
    | (go_at_call 38; with_reducible refine (HD.out _).mono ?_; rintro e w' ⟨rfl, rfl⟩))
  go_loopg [7, 8] 1681 (fun g s7 s8 wx => ∃ (k : Nat) (t : Int), k + g = 1681 ∧ Hid (t = 1440 * d + m - 840 + k) ∧ Hid (RowI wx (w.heap.size + 1) s7 (L k)) ∧ s8 = .int .i64 t ∧ ZW w w.heap.size nm b a len cap cs wx)
  case atStart => exact ⟨0, _, by omega, show d * 1440 + m - 840 = _ by omega, show RowI _ _ _ _ by rw [hL0]; exact RowI.nil _ _, rfl, inv⟩
  case round =>
    clear inv k0 k1 k2
    obtain ⟨k, t, hk, HT, HR, rfl, inv⟩ := hrel
    have k0 := inv.c0
    have k1 := inv.c1
    have k2 := inv.c2
    cases gk with
    | zero =>
      have hlt : ¬ t ≤ d * 1440 + m + 840 := by have := HT.out; omega
      have HK := Lib.hid (show k = 1681 by omega)
      go_wp2
      go_ret
      exact ⟨_, rfl, by have h := HR.out; rw [HK.out, HE.out] at h; exact ⟨h.1, h.2.imp id (fun ⟨g, cap, cur, e1, e2, e3⟩ => ⟨g, cap, cur, e1, by omega, e3⟩)⟩, inv.below⟩
    | succ g =>
      have hlt : t ≤ d * 1440 + m + 840 := by have := HT.out; omega
      have t0 : -10000 ≤ t := by have := HT.out; omega
      have t1 : t ≤ 60000000 := by have := HT.out; omega
      obtain ⟨dd, mm, hdd, hmm, hl⟩ := HLL.out t t0 t1
      have hhit : (dd = d ∧ mm = m) ↔ loc b cs t = 1440 * d + m := by
        have h1 := hdd d d0
        constructor
        · rintro ⟨e1, e2⟩
          have h2 := h1.1 e1
          have h3 := hmm (by omega)
          omega
        · intro e
          have h3 := hmm (by omega)
          have h4 := h1.2 (by omega)
          exact ⟨h4, by omega⟩
      have HL := Lib.hid hl
      have hs := HLS.out k t HT.out
      clear hl hdd hmm
      by_cases hin : 0 ≤ t ∧ t ≤ 52595999
      · have HI := Lib.hid (fun w => flip_same (rinst_yes t w hin.1 hin.2))
        by_cases hdq : dd = d
        · have tq : (dd == d) = true := by simpa using hdq
          by_cases hmq : mm = m
          · rw [if_pos ⟨hin, hhit.1 ⟨hdq, hmq⟩⟩] at hs
            have HS := Lib.hid hs
            have tm : (mm == m) = true := by simpa using hmq
            clear hs hhit hdq hmq
            go_wp2_with (first
              | (go_at_call 37; with_reducible refine (HL.out _ inv.zone).mono ?_; rintro e w1 ⟨rfl, hn⟩; replace inv := inv.step hn; replace HR := Lib.hid (HR.out.below hn); clear hn)
              | (go_at_call 36; with_reducible refine (HI.out _).mono ?_; rintro e w' ⟨rfl, rfl⟩)
              | (at_builtin; refine wpList_append_own _ rfl _ _ 41 rfl (w.heap.size + 1) 3 i0 (.int .i64 0) 1 8 Try.underI HI0.out.1 HI0.out.2.1 HI0.out.2.2.1 HI0.out.2.2.2 rfl (by decide) _ _ _ rfl (World.ownsRow.alloc HR.out _) _ 1 1 [.int .i64 t] rfl rfl ?c1 ?c2 ?c3 ?c4 ?c5 ?_))
            case c1 =>
              intro j u hj
              match j, hj with
              | 0, hj => simp at hj; subst hj; simp [Addr.add]
            case c2 => intro u hu; simp at hu; subst hu; rfl
            case c3 => have := HLB.out k; unfold maxLen; omega
            case c4 => have := HLB.out k; omega
            case c5 => have := inv.below.size; simp; omega
            · intro v' w1 hown' hgrow _
              have hB := grown_below (World.ownsRow.alloc HR.out _) hgrow (World.block_lt_of_cell? _ _ inv.c0) (Nat.le_refl _)
              have HR1 := Lib.hid (RowI.push hown')
              have inv1 := inv.grown HZ.out hB
              clear hown' hgrow hB HR inv k0 k1 k2
              have k0 := inv1.c0
              have k1 := inv1.c1
              have k2 := inv1.c2
              go_wp2
              go_roundg g
              case measure => omega
              case rel => exact ⟨k + 1, t + 1, by omega, show t + 1 = 1440 * d + m - 840 + ((k + 1 : Nat) : Int) by have := HT.out; omega, show RowI _ _ _ _ by rw [HS.out]; exact HR1.out, rfl, inv1⟩
          · rw [if_neg (fun h => hmq (hhit.2 h.2).2)] at hs
            have HS := Lib.hid hs
            have tm : (mm == m) = false := by simpa using hmq
            clear hs hhit hdq hmq
            go_wp2_with (first
              | (go_at_call 37; with_reducible refine (HL.out _ inv.zone).mono ?_; rintro e w1 ⟨rfl, hn⟩; replace inv := inv.step hn; replace HR := Lib.hid (HR.out.below hn); clear hn)
              | (go_at_call 36; with_reducible refine (HI.out _).mono ?_; rintro e w' ⟨rfl, rfl⟩))
            go_roundg g
            case measure => omega
            case rel => exact ⟨k + 1, t + 1, by omega, show t + 1 = 1440 * d + m - 840 + ((k + 1 : Nat) : Int) by have := HT.out; omega, show RowI _ _ _ _ by rw [HS.out, List.append_nil]; exact HR.out, rfl, inv⟩
        · rw [if_neg (fun h => hdq (hhit.2 h.2).1)] at hs
          have HS := Lib.hid hs
          have tq : (dd == d) = false := by simpa using hdq
          clear hs hhit hdq
          go_wp2_with (first
            | (go_at_call 37; with_reducible refine (HL.out _ inv.zone).mono ?_; rintro e w1 ⟨rfl, hn⟩; replace inv := inv.step hn; replace HR := Lib.hid (HR.out.below hn); clear hn)
            | (go_at_call 36; with_reducible refine (HI.out _).mono ?_; rintro e w' ⟨rfl, rfl⟩))
          go_roundg g
          case measure => omega
          case rel => exact ⟨k + 1, t + 1, by omega, show t + 1 = 1440 * d + m - 840 + ((k + 1 : Nat) : Int) by have := HT.out; omega, show RowI _ _ _ _ by rw [HS.out, List.append_nil]; exact HR.out, rfl, inv⟩
      · rw [if_neg (fun h => hin h.1)] at hs
        have HS := Lib.hid hs
        have HI := Lib.hid (fun w => flip_same (rinst_no t w (by omega)))
        clear hs hhit hin
        go_wp2_with (first
          | (go_at_call 37; with_reducible refine (HL.out _ inv.zone).mono ?_; rintro e w1 ⟨rfl, hn⟩; replace inv := inv.step hn; replace HR := Lib.hid (HR.out.below hn); clear hn)
          | (go_at_call 36; with_reducible refine (HI.out _).mono ?_; rintro e w' ⟨rfl, rfl⟩))
        go_roundg g
        case measure => omega
        case rel => exact ⟨k + 1, t + 1, by omega, show t + 1 = 1440 * d + m - 840 + ((k + 1 : Nat) : Int) by have := HT.out; omega, show RowI _ _ _ _ by rw [HS.out, List.append_nil]; exact HR.out, rfl, inv⟩
theorem rinstants_out (nm : ByteArray) (b : Int) (a : Option Addr) (cap : Nat) (cs : List (Int × Int)) (d m : Int) (w : World) (hl : cs.length ≤ 9223372036854775807) (h : ¬ (Valid b cs ∧ (0 ≤ d ∧ d ≤ 36524) ∧ 0 ≤ m ∧ m ≤ 1439)) (z : ZoneAt a cs w) :
    Calls Try.prog 27 #[zv nm b a cs.length cap, .int .i64 d, .int .i64 m] w fun r w' => r = .returned (.slice none 0 0) ∧ Below w.heap.size w w' := by
  have hV := fun w (z : ZoneAt a cs w) => rvalid_any nm b a cap cs w hl z
  have inv := ZW.start w nm b a cs.length cap cs z
  clear z
  by_cases v : Valid b cs
  · rw [decide_eq_true v] at hV
    have HV := Lib.hid hV
    have h := fun x => h ⟨v, x⟩
    clear hV v
    generalize cs.length = len at *
    have k0 := inv.c0
    have k1 := inv.c1
    have k2 := inv.c2
    by_cases hd : 0 ≤ d ∧ d ≤ 36524
    · have HD := Lib.hid (fun w => flip_same (rday_yes d w hd.1 hd.2))
      by_cases hm : 0 ≤ m
      · have e : decide (m < 0) = false := decide_eq_false (by omega)
        have e2 : decide (1439 < m) = true := decide_eq_true (Int.not_le.1 (fun y => h ⟨hd, hm, y⟩))
        clear h hd
        go_enter Try.func27, Try.ntmps27
        go_wp2_with (first
          | (go_at_call 17; with_reducible refine (HV.out _ inv.zone).mono ?_; rintro e w1 ⟨rfl, hn⟩; replace inv := inv.step hn; have k0 := inv.c0; have k1 := inv.c1; have k2 := inv.c2; clear hn)
          | (go_at_call 38; with_reducible refine (HD.out _).mono ?_; rintro e w' ⟨rfl, rfl⟩))
        go_ret
        exact ⟨rfl, inv.below⟩
      · have e : decide (m < 0) = true := decide_eq_true (by omega)
        have hm' : m < 0 := by omega
        clear h hd hm
        go_enter Try.func27, Try.ntmps27
        go_wp2_with (first
          | (go_at_call 17; with_reducible refine (HV.out _ inv.zone).mono ?_; rintro e w1 ⟨rfl, hn⟩; replace inv := inv.step hn; have k0 := inv.c0; have k1 := inv.c1; have k2 := inv.c2; clear hn)
          | (go_at_call 38; with_reducible refine (HD.out _).mono ?_; rintro e w' ⟨rfl, rfl⟩))
        go_ret
        exact ⟨rfl, inv.below⟩
    · have HD := Lib.hid (fun w => flip_same (rday_no d w (by omega)))
      clear h hd
      go_enter Try.func27, Try.ntmps27
      go_wp2_with (first
        | (go_at_call 17; with_reducible refine (HV.out _ inv.zone).mono ?_; rintro e w1 ⟨rfl, hn⟩; replace inv := inv.step hn; have k0 := inv.c0; have k1 := inv.c1; have k2 := inv.c2; clear hn)
        | (go_at_call 38; with_reducible refine (HD.out _).mono ?_; rintro e w' ⟨rfl, rfl⟩))
      go_ret
      exact ⟨rfl, inv.below⟩
  · rw [decide_eq_false v] at hV
    have HV := Lib.hid hV
    clear hV v h
    generalize cs.length = len at *
    have k0 := inv.c0
    have k1 := inv.c1
    have k2 := inv.c2
    go_enter Try.func27, Try.ntmps27
    go_wp2_with (first
      | (go_at_call 17; with_reducible refine (HV.out _ inv.zone).mono ?_; rintro e w1 ⟨rfl, hn⟩; replace inv := inv.step hn; have k0 := inv.c0; have k1 := inv.c1; have k2 := inv.c2; clear hn))
    go_ret
    exact ⟨rfl, inv.below⟩
theorem rlength_out (nm : ByteArray) (b : Int) (a : Option Addr) (cap : Nat) (cs : List (Int × Int)) (d : Int) (w : World) (hl : cs.length ≤ 9223372036854775807) (h : ¬ (Valid b cs ∧ 0 ≤ d ∧ d ≤ 36524)) (z : ZoneAt a cs w) :
    Calls Try.prog 29 #[zv nm b a cs.length cap, .int .i64 d] w fun r w' => r = .returned (.int .i64 0) ∧ Below w.heap.size w w' := by
  have hV := fun w (z : ZoneAt a cs w) => rvalid_any nm b a cap cs w hl z
  have inv := ZW.start w nm b a cs.length cap cs z
  clear z
  by_cases v : Valid b cs
  · rw [decide_eq_true v] at hV
    have HV := Lib.hid hV
    have HD := Lib.hid (fun w => flip_same (rday_no d w (by have : ¬ (0 ≤ d ∧ d ≤ 36524) := fun x => h ⟨v, x⟩; omega)))
    clear hV v h
    generalize cs.length = len at *
    have k0 := inv.c0
    have k1 := inv.c1
    have k2 := inv.c2
    go_enter Try.func29, Try.ntmps29
    go_wp2_with (first
      | (go_at_call 17; with_reducible refine (HV.out _ inv.zone).mono ?_; rintro e w1 ⟨rfl, hn⟩; replace inv := inv.step hn; have k0 := inv.c0; have k1 := inv.c1; have k2 := inv.c2; clear hn)
      | (go_at_call 38; with_reducible refine (HD.out _).mono ?_; rintro e w' ⟨rfl, rfl⟩))
    go_ret
    exact ⟨rfl, inv.below⟩
  · rw [decide_eq_false v] at hV
    have HV := Lib.hid hV
    clear hV v h
    generalize cs.length = len at *
    have k0 := inv.c0
    have k1 := inv.c1
    have k2 := inv.c2
    go_enter Try.func29, Try.ntmps29
    go_wp2_with (first
      | (go_at_call 17; with_reducible refine (HV.out _ inv.zone).mono ?_; rintro e w1 ⟨rfl, hn⟩; replace inv := inv.step hn; have k0 := inv.c0; have k1 := inv.c1; have k2 := inv.c2; clear hn))
    go_ret
    exact ⟨rfl, inv.below⟩
/-- The instants of a local time: the list that Instants hands back. -/
def insR (b : Int) (cs : List (Int × Int)) (d m : Int) : List Int := if Valid b cs ∧ (0 ≤ d ∧ d ≤ 36524) ∧ 0 ≤ m ∧ m ≤ 1439 then insts b cs d m else []
theorem rinstants_any (nm : ByteArray) (b : Int) (a : Option Addr) (cap : Nat) (cs : List (Int × Int)) (d m : Int) (w : World) (hl : cs.length ≤ 9223372036854775807) (z : ZoneAt a cs w) :
    Calls Try.prog 27 #[zv nm b a cs.length cap, .int .i64 d, .int .i64 m] w fun r w' => ∃ a' c', r = .returned (.slice a' (insR b cs d m).length c') ∧ IntsAt a' (insR b cs d m) w' ∧ Below w.heap.size w w' := by
  unfold insR
  by_cases h : Valid b cs ∧ (0 ≤ d ∧ d ≤ 36524) ∧ 0 ≤ m ∧ m ≤ 1439
  · rw [if_pos h]
    refine (rinstants_in nm b a cap cs d m w h.1 z h.2.1.1 h.2.1.2 h.2.2.1 h.2.2.2).mono ?_
    rintro r w' ⟨v, rfl, hr, hb⟩
    obtain ⟨a', c', rfl, hi⟩ := hr.ints
    exact ⟨a', c', rfl, hi, hb⟩
  · rw [if_neg h]
    refine (rinstants_out nm b a cap cs d m w hl h z).mono ?_
    rintro r w' ⟨rfl, hb⟩
    exact ⟨none, 0, rfl, fun i x hx => by simp at hx, hb⟩
/-- The minutes of a local day: the number that Length hands back. -/
def lenR (b : Int) (cs : List (Int × Int)) (d : Int) : Int := if Valid b cs ∧ 0 ≤ d ∧ d ≤ 36524 then dlen b cs d else 0
theorem rlength_any (nm : ByteArray) (b : Int) (a : Option Addr) (cap : Nat) (cs : List (Int × Int)) (d : Int) (w : World) (hl : cs.length ≤ 9223372036854775807) (z : ZoneAt a cs w) :
    Calls Try.prog 29 #[zv nm b a cs.length cap, .int .i64 d] w fun r w' => r = .returned (.int .i64 (lenR b cs d)) ∧ Below w.heap.size w w' := by
  unfold lenR
  by_cases h : Valid b cs ∧ 0 ≤ d ∧ d ≤ 36524
  · rw [if_pos h]
    exact rlength_in nm b a cap cs d w h.1 z h.2.1 h.2.2
  · rw [if_neg h]
    exact rlength_out nm b a cap cs d w hl h z
end Go.Proofs.Ytjmnohbgfkohpaa.Zn
