/- What the reference implementation's Ints and Same return: whether two lists in memory are equal; and its Offset and Local. Condition: the lists, the zone's changes lie in memory as the arguments say. -/
import Derived.Test.YtjmnohbgfkohpaaZoneRef2
import Derived.Test.YtjmnohbgfkohpaaZoneMath3
namespace Go.Proofs.Ytjmnohbgfkohpaa.Zn
open Go.RowKit
/-- A list of ints, in memory. -/
def IntsAt (a : Option Addr) (l : List Int) (w : World) : Prop := ∀ i x, l[i]? = some x → ∃ b off, a = some ⟨b, off, none⟩ ∧ w.cell? ⟨b, off + i, none⟩ = some (.int .i64 x)
theorem IntsAt.below {a : Option Addr} {l : List Int} {w w' : World} (h : IntsAt a l w) (k : Below w.heap.size w w') : IntsAt a l w' := fun i x hx => by
  obtain ⟨b, off, ha, h1⟩ := h i x hx
  exact ⟨b, off, ha, cell_kept k h1⟩
/-- A list of portions, in memory. -/
def PortsAt (a : Option Addr) (l : List (Int × Int)) (w : World) : Prop := ZoneAt a l w
theorem list_two {α : Type} [DecidableEq α] {l r : List α} {n : Nat} (hl : l.length = n) (hr : r.length = n) (h : ∀ i, i < n → l[i]? = r[i]?) : l = r := by
  apply List.ext_getElem?
  intro i
  by_cases hi : i < n
  · exact h i hi
  · rw [List.getElem?_eq_none (by omega), List.getElem?_eq_none (by omega)]
set_option maxHeartbeats 1000000 in
theorem rints_any (a a' : Option Addr) (c c' : Nat) (l r : List Int) (w : World) (hl : l.length ≤ 9223372036854775807) (z : IntsAt a l w) (z' : IntsAt a' r w) :
    Calls Try.prog 25 #[.slice a l.length c, .slice a' r.length c'] w fun e w' => e = .returned (.bool (decide (l = r))) ∧ Below w.heap.size w w' := by
  obtain ⟨n, hn⟩ : ∃ n, n = l.length := ⟨_, rfl⟩
  obtain ⟨m, hm⟩ : ∃ m, m = r.length := ⟨_, rfl⟩
  rw [← hn] at hl ⊢
  rw [← hm]
  have HN := Lib.hid hn
  have HM := Lib.hid hm
  clear hn hm
  by_cases hnm : n = m
  · subst hnm
    go_enter Try.func25, Try.ntmps25
    go_wp2
    go_loopg [5] n (fun g s5 wx => ∃ i : Nat, i + g = n ∧ s5 = .int .i64 i ∧ Hid (∀ j, j < i → l[j]? = r[j]?) ∧ Below w.heap.size w wx ∧ IntsAt a l wx ∧ IntsAt a' r wx)
    case atStart => exact ⟨0, by omega, rfl, fun j hj => by omega, Below.refl _ _, z, z'⟩
    case round =>
      clear z z'
      obtain ⟨i, hi, rfl, HE, hb, z, z'⟩ := hrel
      cases gk with
      | zero =>
        have hlt : ¬ (i : Int) < (n : Int) := by omega
        go_wp2
        go_ret
        exact ⟨ret_bool (decide_eq_true (list_two HN.out.symm HM.out.symm (fun j hj => HE.out j (by omega)))).symm, hb⟩
      | succ g =>
        have hlt : (i : Int) < (n : Int) := by omega
        obtain ⟨x, hx⟩ : ∃ x, l[i]? = some x := ⟨_, List.getElem?_eq_getElem (by have := HN.out; omega)⟩
        obtain ⟨y, hy⟩ : ∃ y, r[i]? = some y := ⟨_, List.getElem?_eq_getElem (by have := HM.out; omega)⟩
        obtain ⟨b1, o1, rfl, h1⟩ := z i x hx
        obtain ⟨b2, o2, rfl, h2⟩ := z' i y hy
        have HX := Lib.hid (And.intro hx hy)
        clear hx hy
        have hb2 : ∀ k, Below w.heap.size w (wr.drewN k) := fun k => below_drewN hb k
        have HB := Lib.hid hb2
        clear hb2
        by_cases hxy : x = y
        · have t : (x != y) = false := by simpa using hxy
          have HQ := Lib.hid hxy
          clear hxy
          go_wp2_with fail
          go_quiet (fail)
          go_wp2
          go_roundg g
          case measure => omega
          case rel => exact ⟨i + 1, by omega, by go_num, fun j hj => by
            by_cases e : j = i
            · subst e; rw [HX.out.1, HX.out.2, HQ.out]
            · exact HE.out j (by omega), HB.out _, z.below (below_drewN (Below.refl _ _) _), z'.below (below_drewN (Below.refl _ _) _)⟩
        · have t : (x != y) = true := by simpa using hxy
          have HQ := Lib.hid hxy
          clear hxy
          go_wp2_with fail
          go_quiet (fail)
          go_wp2
          go_ret
          exact ⟨ret_bool (decide_eq_false (fun e => by have h := HX.out; rw [e, h.2] at h; exact HQ.out (Option.some.inj h.1).symm)).symm, HB.out _⟩
  · have t : ((n : Int) != (m : Int)) = true := by simp; omega
    have HNM := Lib.hid hnm
    clear hnm
    go_enter Try.func25, Try.ntmps25
    go_wp2
    go_ret
    exact ⟨ret_bool (decide_eq_false (fun e => HNM.out (by rw [HN.out, HM.out, e]))).symm, Below.refl _ _⟩
set_option maxHeartbeats 2000000 in
theorem rsame_any (a a' : Option Addr) (c c' : Nat) (l r : List (Int × Int)) (w : World) (hl : l.length ≤ 9223372036854775807) (z : PortsAt a l w) (z' : PortsAt a' r w) :
    Calls Try.prog 24 #[.slice a l.length c, .slice a' r.length c'] w fun e w' => e = .returned (.bool (decide (l = r))) ∧ Below w.heap.size w w' := by
  obtain ⟨n, hn⟩ : ∃ n, n = l.length := ⟨_, rfl⟩
  obtain ⟨m, hm⟩ : ∃ m, m = r.length := ⟨_, rfl⟩
  rw [← hn] at hl ⊢
  rw [← hm]
  have HN := Lib.hid hn
  have HM := Lib.hid hm
  clear hn hm
  by_cases hnm : n = m
  · subst hnm
    go_enter Try.func24, Try.ntmps24
    go_wp2
    go_loopg [5] n (fun g s5 wx => ∃ i : Nat, i + g = n ∧ s5 = .int .i64 i ∧ Hid (∀ j, j < i → l[j]? = r[j]?) ∧ Below w.heap.size w wx ∧ PortsAt a l wx ∧ PortsAt a' r wx)
    case atStart => exact ⟨0, by omega, rfl, fun j hj => by omega, Below.refl _ _, z, z'⟩
    case round =>
      clear z z'
      obtain ⟨i, hi, rfl, HE, hb, z, z'⟩ := hrel
      cases gk with
      | zero =>
        have hlt : ¬ (i : Int) < (n : Int) := by omega
        go_wp2
        go_ret
        exact ⟨ret_bool (decide_eq_true (list_two HN.out.symm HM.out.symm (fun j hj => HE.out j (by omega)))).symm, hb⟩
      | succ g =>
        have hlt : (i : Int) < (n : Int) := by omega
        obtain ⟨x, hx⟩ : ∃ x, l[i]? = some x := ⟨_, List.getElem?_eq_getElem (by have := HN.out; omega)⟩
        obtain ⟨y, hy⟩ : ∃ y, r[i]? = some y := ⟨_, List.getElem?_eq_getElem (by have := HM.out; omega)⟩
        obtain ⟨b1, o1, rfl, h1, h1'⟩ := z i x hx
        obtain ⟨b2, o2, rfl, h2, h2'⟩ := z' i y hy
        have HX := Lib.hid (And.intro hx hy)
        clear hx hy
        obtain ⟨x1, x2⟩ := x
        obtain ⟨y1, y2⟩ := y
        have hb2 : ∀ k, Below w.heap.size w (wr.drewN k) := fun k => below_drewN hb k
        have HB := Lib.hid hb2
        clear hb2
        by_cases hxy : x1 = y1 ∧ x2 = y2
        · have t1 : (x1 == y1) = true := by simpa using hxy.1
          have t2 : (x2 == y2) = true := by simpa using hxy.2
          have HQ := Lib.hid hxy
          clear hxy
          go_wp2_with fail
          go_quiet (fail)
          go_wp2
          go_roundg g
          case measure => omega
          case rel => exact ⟨i + 1, by omega, by go_num, fun j hj => by
            by_cases e : j = i
            · subst e; rw [HX.out.1, HX.out.2, HQ.out.1, HQ.out.2]
            · exact HE.out j (by omega), HB.out _, z.below (below_drewN (Below.refl _ _) _), z'.below (below_drewN (Below.refl _ _) _)⟩
        · by_cases h1' : x1 = y1
          · have t1 : (x1 == y1) = true := by simpa using h1'
            have t2 : (x2 == y2) = false := by simp; exact fun e => hxy ⟨h1', e⟩
            have HQ := Lib.hid hxy
            clear hxy h1'
            go_wp2_with fail
            go_quiet (fail)
            go_wp2
            go_ret
            exact ⟨ret_bool (decide_eq_false (fun e => by have h := HX.out; rw [e, h.2] at h; exact HQ.out (by have h3 := Option.some.inj h.1; simp only [Prod.mk.injEq] at h3; exact ⟨h3.1.symm, h3.2.symm⟩))).symm, HB.out _⟩
          · have t1 : (x1 == y1) = false := by simpa using h1'
            have HQ := Lib.hid hxy
            clear hxy h1'
            go_wp2_with fail
            go_quiet (fail)
            go_wp2
            go_ret
            exact ⟨ret_bool (decide_eq_false (fun e => by have h := HX.out; rw [e, h.2] at h; exact HQ.out (by have h3 := Option.some.inj h.1; simp only [Prod.mk.injEq] at h3; exact ⟨h3.1.symm, h3.2.symm⟩))).symm, HB.out _⟩
  · have t : ((n : Int) != (m : Int)) = true := by simp; omega
    have HNM := Lib.hid hnm
    clear hnm
    go_enter Try.func24, Try.ntmps24
    go_wp2
    go_ret
    exact ⟨ret_bool (decide_eq_false (fun e => HNM.out (by rw [HN.out, HM.out, e]))).symm, Below.refl _ _⟩
theorem roff_any (nm : ByteArray) (b : Int) (a : Option Addr) (cap : Nat) (cs : List (Int × Int)) (t : Int) (w : World) (hl : cs.length ≤ 9223372036854775807) (z : ZoneAt a cs w) :
    Calls Try.prog 19 #[zv nm b a cs.length cap, .int .i64 t] w fun e w' => e = .returned (.int .i64 (if Valid b cs then offFrom b cs t else 0)) ∧ Below w.heap.size w w' := by
  have inv := ZW.start w nm b a cs.length cap cs z
  have hV := fun w (z : ZoneAt a cs w) => rvalid_any nm b a cap cs w hl z
  by_cases v : Valid b cs
  · have HO := Lib.hid (fun w (z : ZoneAt a cs w) => roffset_any nm b a cap cs t w (by have := v.1; omega) z)
    rw [if_pos v]
    rw [decide_eq_true v] at hV
    have HV := Lib.hid hV
    clear hV v
    generalize offFrom b cs t = o at *
    generalize cs.length = len at *
    have k0 := inv.c0
    have k1 := inv.c1
    have k2 := inv.c2
    clear z
    go_enter Try.func19, Try.ntmps19
    go_wp2_with (first
      | (go_at_call 17; with_reducible refine (HV.out _ inv.zone).mono ?_; rintro e w1 ⟨rfl, hn⟩; replace inv := inv.step hn; have k0 := inv.c0; have k1 := inv.c1; have k2 := inv.c2; clear hn)
      | (go_at_call 42; with_reducible refine (HO.out _ inv.zone).mono ?_; rintro e w1 ⟨rfl, hn⟩; replace inv := inv.step hn; clear hn))
    go_ret
    exact ⟨rfl, inv.below⟩
  · rw [if_neg v]
    rw [decide_eq_false v] at hV
    have HV := Lib.hid hV
    clear hV v
    generalize cs.length = len at *
    have k0 := inv.c0
    have k1 := inv.c1
    have k2 := inv.c2
    clear z
    go_enter Try.func19, Try.ntmps19
    go_wp2_with (first
      | (go_at_call 17; with_reducible refine (HV.out _ inv.zone).mono ?_; rintro e w1 ⟨rfl, hn⟩; replace inv := inv.step hn; clear hn))
    go_ret
    exact ⟨rfl, inv.below⟩
end Go.Proofs.Ytjmnohbgfkohpaa.Zn
