/- What the reference implementation's Valid returns for every zone. Condition: the zone's changes lie in memory as the argument says. -/
import Derived.Test.YtjmnohbgfkohpaaZoneRef
import Derived.Deep.QuietTactic
import Derived.BigQuiet
import Derived.IntWalk
namespace Go.Proofs.Ytjmnohbgfkohpaa.Zn
open Go.RowKit
theorem ret_bool {a b : Bool} (h : a = b) : Ending.returned (.bool a) = .returned (.bool b) := by rw [h]
theorem below_drewN {B : Nat} {a w : World} (h : Below B a w) (n : Nat) : Below B a (w.drewN n) := h.trans ⟨rfl, rfl, rfl, Nat.le_refl _, fun _ _ => rfl⟩
/-- One more change: what it must meet, and the changes behind it. -/
theorem okFrom_cons (p o a f : Int) (r : List (Int × Int)) : okFrom p o ((a, f) :: r) ↔ (0 ≤ a ∧ a ≤ 52595999 ∧ p + 2880 ≤ a ∧ -840 ≤ f ∧ f ≤ 840 ∧ f - o ≤ 60 ∧ o - f ≤ 60) ∧ okFrom a f r := by
  show (0 ≤ a ∧ a ≤ 52595999 ∧ p + 2880 ≤ a ∧ -840 ≤ f ∧ f ≤ 840 ∧ f - o ≤ 60 ∧ o - f ≤ 60 ∧ okFrom a f r) ↔ _
  constructor
  · rintro ⟨a, b, c, d, e, f, g, h⟩; exact ⟨⟨a, b, c, d, e, f, g⟩, h⟩
  · rintro ⟨⟨a, b, c, d, e, f, g⟩, h⟩; exact ⟨a, b, c, d, e, f, g, h⟩
set_option maxHeartbeats 4000000 in
set_option maxRecDepth 100000 in
theorem rvalid_any (nm : ByteArray) (b : Int) (a : Option Addr) (cap : Nat) (cs : List (Int × Int)) (w : World) (hlm : cs.length ≤ 9223372036854775807) (z : ZoneAt a cs w) :
    Calls Try.prog 17 #[zv nm b a cs.length cap] w fun e w' => e = .returned (.bool (decide (Valid b cs))) ∧ Below w.heap.size w w' := by
  have inv := ZW.start w nm b a cs.length cap cs z
  obtain ⟨len, hlen⟩ : ∃ len, len = cs.length := ⟨_, rfl⟩
  rw [← hlen] at inv hlm ⊢
  have HLEN := Lib.hid hlen
  clear z hlen
  by_cases h64 : 64 < len
  · have h64' : (64 : Int) < (len : Int) := by omega
    go_enter Try.func17, Try.ntmps17
    go_wp2
    go_ret
    exact ⟨ret_bool (decide_eq_false (fun v => by have := v.1; have := HLEN.out; omega)).symm, inv.below⟩
  have t64 : decide ((64 : Int) < (len : Int)) = false := decide_eq_false (by omega)
  by_cases hb0 : b < -840
  · go_enter Try.func17, Try.ntmps17
    go_wp2
    go_ret
    exact ⟨ret_bool (decide_eq_false (fun v => by have := v.2.1; omega)).symm, inv.below⟩
  have tb0 : decide (b < -840) = false := decide_eq_false hb0
  by_cases hb1 : 840 < b
  · go_enter Try.func17, Try.ntmps17
    go_wp2
    go_ret
    exact ⟨ret_bool (decide_eq_false (fun v => by have := v.2.2.1; omega)).symm, inv.below⟩
  have tb1 : decide (840 < b) = false := decide_eq_false hb1
  go_enter Try.func17, Try.ntmps17
  go_wp2
  go_loopg [3, 4] len (fun g s3 s4 wx => ∃ (i : Nat) (o p : Int), i + g = len ∧ s3 = .int .i64 o ∧ s4 = .int .i64 i ∧ -840 ≤ o ∧ o ≤ 840 ∧ Hid ((okFrom (-2880) b cs ↔ okFrom p o (cs.drop i)) ∧ (i = 0 → p = -2880)) ∧ (0 < i → 0 ≤ p ∧ p ≤ 52595999 ∧ ∃ f, cs[i - 1]? = some (p, f)) ∧ ZW w w.heap.size nm b a len cap cs wx)
  case atStart => exact ⟨0, b, -2880, by omega, rfl, rfl, by omega, by omega, ⟨Iff.rfl, fun _ => rfl⟩, fun h => by omega, inv⟩
  case round =>
    clear inv
    obtain ⟨i, o, p, hi, rfl, rfl, o0, o1, HV, hp, inv⟩ := hrel
    have k1 := inv.c1
    have k2 := inv.c2
    cases gk with
    | zero =>
      have hlt : ¬ (i : Int) < (len : Int) := by omega
      clear hp
      go_wp2
      go_ret
      exact ⟨ret_bool (decide_eq_true ⟨by have := HLEN.out; omega, by omega, by omega, HV.out.1.2 (by rw [List.drop_of_length_le (by have := HLEN.out; omega)]; trivial)⟩).symm, inv.below⟩
    | succ g =>
      have hlt : (i : Int) < (len : Int) := by omega
      obtain ⟨x, hx⟩ : ∃ x, cs[i]? = some x := ⟨_, List.getElem?_eq_getElem (by have := HLEN.out; omega)⟩
      obtain ⟨bb, off, rfl, h1, h2⟩ := inv.zone i x hx
      have HD := Lib.hid (show cs.drop i = x :: cs.drop (i + 1) by
        obtain ⟨h, he⟩ := List.getElem?_eq_some_iff.1 hx
        rw [List.drop_eq_getElem_cons h, he])
      have HX := Lib.hid hx
      clear hx
      obtain ⟨xa, xf⟩ := x
      have hfalse : ¬ (0 ≤ xa ∧ xa ≤ 52595999 ∧ p + 2880 ≤ xa ∧ -840 ≤ xf ∧ xf ≤ 840 ∧ xf - o ≤ 60 ∧ o - xf ≤ 60) → decide (Valid b cs) = false := fun h => decide_eq_false (fun v => by
        have h' := HV.out.1.1 v.2.2.2
        rw [HD.out, okFrom_cons] at h'
        exact h h'.1)
      have HF := Lib.hid hfalse
      clear hfalse
      have kb : ∀ ob, (wr.alloc ob).cell? ⟨w.heap.size, 2, none⟩ = some (.slice (some ⟨bb, off, none⟩) len cap) := fun ob => cell_kept ((Below.refl _ _).alloc (Nat.le_refl _) ob) k2
      have hal : ∀ ob n, Below w.heap.size w ((wr.alloc ob).drewN n) := fun ob n => inv.below.trans ((below_drewN ((Below.refl _ wr).alloc (Nat.le_refl _) ob) n).mono inv.below.size)
      have HAL := Lib.hid hal
      clear hal
      by_cases hin : 0 ≤ xa ∧ xa ≤ 52595999
      · have HI := Lib.hid (fun w => rinst_yes xa w hin.1 hin.2)
        by_cases hpos : 0 < i
        · obtain ⟨p0, p1, f, hpf⟩ := hp hpos
          obtain ⟨b', off', e, q1, _⟩ := inv.zone (i - 1) (p, f) hpf
          obtain ⟨rfl, rfl⟩ : bb = b' ∧ off = off' := by simpa using e
          have kp : ∀ ob, (wr.alloc ob).cell? ⟨bb, off + (i - 1) * 2, none⟩ = some (.int .i64 p) := fun ob => cell_kept ((Below.refl _ _).alloc (Nat.le_refl _) ob) q1
          have hpos' : (0 : Int) < (i : Int) := by omega
          have hp1 : 0 ≤ (i : Int) - 1 := by omega
          have hp2 : (i : Int) - 1 < (len : Int) := by omega
          clear hp hpf q1 e
          have HIN := Lib.hid hin
          obtain ⟨in0, in1⟩ := hin
          by_cases hpa : xa < p + 2880
          · have HN := Lib.hid hpa
            have hA : True := trivial
            clear hA
            have HA := Lib.hid (fun w => rinst_yes 0 w (by decide) (by decide))
            have hw := IntWalk.i64_in ((i : Int) - 1) (by omega)
            have hw2 := IntWalk.i64_in (p + 2880) (by omega)
            have hn : ((i : Int) - 1).toNat = i - 1 := by omega
            go_wp2_with fail
            go_quiet ((first | (go_at_call 36; exact Calls.quiet_of_same (HI.out _)) | (go_at_call 41; exact Calls.quiet_of_same (HA.out _))))
            clear hw hw2 hn
            go_wp2
            go_ret
            exact ⟨ret_bool (HF.out (fun h => by have := HN.out; omega)).symm, HAL.out _ _⟩
          have tpa : decide (xa < p + 2880) = false := decide_eq_false hpa
          by_cases hf0 : xf < -840
          · have HN := Lib.hid hf0
            have HA := Lib.hid (fun w => rinst_yes 0 w (by decide) (by decide))
            have hw := IntWalk.i64_in ((i : Int) - 1) (by omega)
            have hw2 := IntWalk.i64_in (p + 2880) (by omega)
            have hn : ((i : Int) - 1).toNat = i - 1 := by omega
            go_wp2_with fail
            go_quiet ((first | (go_at_call 36; exact Calls.quiet_of_same (HI.out _)) | (go_at_call 41; exact Calls.quiet_of_same (HA.out _))))
            clear hw hw2 hn
            go_wp2
            go_ret
            exact ⟨ret_bool (HF.out (fun h => by have := HN.out; omega)).symm, HAL.out _ _⟩
          have tf0 : decide (xf < -840) = false := decide_eq_false hf0
          by_cases hf1 : 840 < xf
          · have HN := Lib.hid hf1
            have HA := Lib.hid (fun w => rinst_yes 0 w (by decide) (by decide))
            have hw := IntWalk.i64_in ((i : Int) - 1) (by omega)
            have hw2 := IntWalk.i64_in (p + 2880) (by omega)
            have hn : ((i : Int) - 1).toNat = i - 1 := by omega
            go_wp2_with fail
            go_quiet ((first | (go_at_call 36; exact Calls.quiet_of_same (HI.out _)) | (go_at_call 41; exact Calls.quiet_of_same (HA.out _))))
            clear hw hw2 hn
            go_wp2
            go_ret
            exact ⟨ret_bool (HF.out (fun h => by have := HN.out; omega)).symm, HAL.out _ _⟩
          have tf1 : decide (840 < xf) = false := decide_eq_false hf1
          obtain ⟨kk, hk, hA⟩ := rapart_ex xf o (by omega) (by omega) o0 o1
          have HA := Lib.hid hA
          clear hA
          by_cases hk60 : kk ≤ 60
          · have HG := Lib.hid (show 0 ≤ xa ∧ xa ≤ 52595999 ∧ p + 2880 ≤ xa ∧ -840 ≤ xf ∧ xf ≤ 840 ∧ xf - o ≤ 60 ∧ o - xf ≤ 60 from ⟨by omega, by omega, by omega, by omega, by omega, by omega, by omega⟩)
            clear hk
            have hw := IntWalk.i64_in ((i : Int) - 1) (by omega)
            have hw2 := IntWalk.i64_in (p + 2880) (by omega)
            have hn : ((i : Int) - 1).toNat = i - 1 := by omega
            go_wp2_with fail
            go_quiet ((first | (go_at_call 36; exact Calls.quiet_of_same (HI.out _)) | (go_at_call 41; exact Calls.quiet_of_same (HA.out _))))
            clear hw hw2 hn
            go_wp2
            go_roundg g
            case measure => omega
            case rel => exact ⟨i + 1, xf, xa, by omega, rfl, by go_num, HG.out.2.2.2.1, HG.out.2.2.2.2.1, ⟨by rw [HV.out.1, HD.out, okFrom_cons]; exact ⟨fun h => h.2, fun h => ⟨HG.out, h⟩⟩, fun h => by omega⟩, fun _ => ⟨HG.out.1, HG.out.2.1, xf, HX.out⟩, inv.step (below_drewN ((Below.refl _ wr).alloc (Nat.le_refl _) _) _)⟩
          · have HN := Lib.hid (show ¬ (xf - o ≤ 60 ∧ o - xf ≤ 60) from fun h => hk60 (hk.2 h))
            clear hk
            have hw := IntWalk.i64_in ((i : Int) - 1) (by omega)
            have hw2 := IntWalk.i64_in (p + 2880) (by omega)
            have hn : ((i : Int) - 1).toNat = i - 1 := by omega
            go_wp2_with fail
            go_quiet ((first | (go_at_call 36; exact Calls.quiet_of_same (HI.out _)) | (go_at_call 41; exact Calls.quiet_of_same (HA.out _))))
            clear hw hw2 hn
            go_wp2
            go_ret
            exact ⟨ret_bool (HF.out (fun h => HN.out ⟨h.2.2.2.2.2.1, h.2.2.2.2.2.2⟩)).symm, HAL.out _ _⟩
        · have hp0 : p = -2880 := HV.out.2 (by omega)
          have HP := Lib.hid hp0
          have tpos : decide ((0 : Int) < (i : Int)) = false := decide_eq_false (by omega)
          obtain ⟨in0, in1⟩ := hin
          clear hp
          by_cases hf0 : xf < -840
          · have HN := Lib.hid hf0
            have HA := Lib.hid (fun w => rinst_yes 0 w (by decide) (by decide))
            go_wp2_with fail
            go_quiet ((first | (go_at_call 36; exact Calls.quiet_of_same (HI.out _)) | (go_at_call 41; exact Calls.quiet_of_same (HA.out _))))
            go_wp2
            go_ret
            exact ⟨ret_bool (HF.out (fun h => by have := HN.out; omega)).symm, HAL.out _ _⟩
          have tf0 : decide (xf < -840) = false := decide_eq_false hf0
          by_cases hf1 : 840 < xf
          · have HN := Lib.hid hf1
            have HA := Lib.hid (fun w => rinst_yes 0 w (by decide) (by decide))
            go_wp2_with fail
            go_quiet ((first | (go_at_call 36; exact Calls.quiet_of_same (HI.out _)) | (go_at_call 41; exact Calls.quiet_of_same (HA.out _))))
            go_wp2
            go_ret
            exact ⟨ret_bool (HF.out (fun h => by have := HN.out; omega)).symm, HAL.out _ _⟩
          have tf1 : decide (840 < xf) = false := decide_eq_false hf1
          obtain ⟨kk, hk, hA⟩ := rapart_ex xf o (by omega) (by omega) o0 o1
          have HA := Lib.hid hA
          clear hA
          by_cases hk60 : kk ≤ 60
          · have HG := Lib.hid (show 0 ≤ xa ∧ xa ≤ 52595999 ∧ p + 2880 ≤ xa ∧ -840 ≤ xf ∧ xf ≤ 840 ∧ xf - o ≤ 60 ∧ o - xf ≤ 60 from ⟨by omega, by omega, by omega, by omega, by omega, by omega, by omega⟩)
            clear hk
            go_wp2_with fail
            go_quiet ((first | (go_at_call 36; exact Calls.quiet_of_same (HI.out _)) | (go_at_call 41; exact Calls.quiet_of_same (HA.out _))))
            go_wp2
            go_roundg g
            case measure => omega
            case rel => exact ⟨i + 1, xf, xa, by omega, rfl, by go_num, HG.out.2.2.2.1, HG.out.2.2.2.2.1, ⟨by rw [HV.out.1, HD.out, okFrom_cons]; exact ⟨fun h => h.2, fun h => ⟨HG.out, h⟩⟩, fun h => by omega⟩, fun _ => ⟨HG.out.1, HG.out.2.1, xf, HX.out⟩, inv.step (below_drewN ((Below.refl _ wr).alloc (Nat.le_refl _) _) _)⟩
          · have HN := Lib.hid (show ¬ (xf - o ≤ 60 ∧ o - xf ≤ 60) from fun h => hk60 (hk.2 h))
            clear hk
            go_wp2_with fail
            go_quiet ((first | (go_at_call 36; exact Calls.quiet_of_same (HI.out _)) | (go_at_call 41; exact Calls.quiet_of_same (HA.out _))))
            go_wp2
            go_ret
            exact ⟨ret_bool (HF.out (fun h => HN.out ⟨h.2.2.2.2.2.1, h.2.2.2.2.2.2⟩)).symm, HAL.out _ _⟩
      · have HI := Lib.hid (fun w => rinst_no xa w (by omega))
        have HN := Lib.hid hin
        clear hin hp
        go_wp2_with fail
        go_quiet ((go_at_call 36; exact Calls.quiet_of_same (HI.out _)))
        go_wp2
        go_ret
        exact ⟨ret_bool (HF.out (fun h => HN.out ⟨h.1, h.2.1⟩)).symm, HAL.out _ _⟩
end Go.Proofs.Ytjmnohbgfkohpaa.Zn
