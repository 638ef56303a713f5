/- What the reference implementation's offset and local return. Condition: the zone's changes lie in memory as the argument says. -/
import Derived.Test.YtjmnohbgfkohpaaProg
import Derived.Test.YtjmnohbgfkohpaaZoneMath2
import Derived.WalkKit
import Derived.LoopTactic
import Derived.Deep.LoopGhost
import Derived.Handy
import Derived.Lib.Hide
namespace Go.Proofs.Ytjmnohbgfkohpaa.Zn
open Go.RowKit
theorem block_then {a b c : World} (h : Below a.heap.size a b) (k : Below b.heap.size b c) : Below a.heap.size a c := h.trans (k.mono h.size)
theorem cell_kept {w w' : World} (hb : Below w.heap.size w w') {a : Addr} {v : Value} (hc : w.cell? a = some v) : w'.cell? a = some v := (hb.cell (World.block_lt_of_cell? w a hc)).trans hc
theorem ret_int {k : IntKind} {a b : Int} (h : a = b) : Ending.returned (.int k a) = .returned (.int k b) := by rw [h]
theorem ret_two {k l : IntKind} {a b c d : Int} (h : a = b) (h2 : c = d) : Ending.returned (.tuple #[.int k a, .int l c]) = .returned (.tuple #[.int k b, .int l d]) := by rw [h, h2]
/-- The changes of a zone, in memory. -/
def ZoneAt (a : Option Addr) (cs : List (Int × Int)) (w : World) : Prop :=
  ∀ i x, cs[i]? = some x → ∃ b off, a = some ⟨b, off, none⟩ ∧ w.cell? ⟨b, off + i * 2, none⟩ = some (.int .i64 x.1) ∧ w.cell? ⟨b, off + i * 2 + 1, none⟩ = some (.int .i64 x.2)
theorem ZoneAt.below {a : Option Addr} {cs : List (Int × Int)} {w w' : World} (h : ZoneAt a cs w) (k : Below w.heap.size w w') : ZoneAt a cs w' := fun i x hx => by
  obtain ⟨b, off, ha, h1, h2⟩ := h i x hx
  exact ⟨b, off, ha, cell_kept k h1, cell_kept k h2⟩
/-- A zone by value. -/
abbrev zv (nm : ByteArray) (b : Int) (a : Option Addr) (len cap : Nat) : Value := .agg #[.string nm, .int .i64 b, .slice a len cap]
/-- What holds on the way: nothing that was there has turned; the box of the zone; its changes. -/
structure ZW (w : World) (g : Nat) (nm : ByteArray) (b : Int) (a : Option Addr) (len cap : Nat) (cs : List (Int × Int)) (wx : World) : Prop where
  below : Below w.heap.size w wx
  c0 : wx.cell? ⟨g, 0, none⟩ = some (.string nm)
  c1 : wx.cell? ⟨g, 1, none⟩ = some (.int .i64 b)
  c2 : wx.cell? ⟨g, 2, none⟩ = some (.slice a len cap)
  zone : ZoneAt a cs wx
theorem ZW.step {w : World} {g : Nat} {nm : ByteArray} {b : Int} {a : Option Addr} {len cap : Nat} {cs : List (Int × Int)} {wx wn : World} (h : ZW w g nm b a len cap cs wx) (k : Below wx.heap.size wx wn) : ZW w g nm b a len cap cs wn :=
  ⟨h.below.trans (k.mono h.below.size), cell_kept k h.c0, cell_kept k h.c1, cell_kept k h.c2, h.zone.below k⟩
theorem ZW.start (w : World) (nm : ByteArray) (b : Int) (a : Option Addr) (len cap : Nat) (cs : List (Int × Int)) (z : ZoneAt a cs w) : ZW w w.heap.size nm b a len cap cs (w.alloc (.cells #[.string nm, .int .i64 b, .slice a len cap] 24)) :=
  ⟨(Below.refl _ _).alloc (Nat.le_refl _) _, by simp [World.cell?_alloc_new], by simp [World.cell?_alloc_new], by simp [World.cell?_alloc_new], z.below ((Below.refl _ _).alloc (Nat.le_refl _) _)⟩
set_option maxHeartbeats 1000000 in
theorem roffset_any (nm : ByteArray) (b : Int) (a : Option Addr) (cap : Nat) (cs : List (Int × Int)) (t : Int) (w : World) (hl : cs.length ≤ 100) (z : ZoneAt a cs w) :
    Calls Try.prog 42 #[zv nm b a cs.length cap, .int .i64 t] w fun e w' => e = .returned (.int .i64 (offFrom b cs t)) ∧ Below w.heap.size w w' := by
  have inv := ZW.start w nm b a cs.length cap cs z
  obtain ⟨len, hlen⟩ : ∃ len, len = cs.length := ⟨_, rfl⟩
  rw [← hlen] at inv hl ⊢
  have HLEN := Lib.hid hlen
  clear z hlen
  go_enter Try.func42, Try.ntmps42
  go_wp2
  go_loopg [5, 6] len (fun g s5 s6 wx => ∃ (i : Nat) (o : Int), i + g = len ∧ s5 = .int .i64 o ∧ s6 = .int .i64 i ∧ Hid (offFrom b cs t = offFrom o (cs.drop i) t) ∧ ZW w w.heap.size nm b a len cap cs wx)
  case atStart => exact ⟨0, b, by omega, rfl, rfl, rfl, inv⟩
  case round =>
    clear inv
    obtain ⟨i, o, hi, rfl, rfl, HO, inv⟩ := hrel
    have k1 := inv.c1
    have k2 := inv.c2
    cases gk with
    | zero =>
      have hlt : ¬ (i : Int) < (len : Int) := by omega
      go_wp2
      go_ret
      exact ⟨ret_int (by rw [HO.out, List.drop_of_length_le (by have := HLEN.out; omega)]; rfl), inv.below⟩
    | succ g =>
      have hlt : (i : Int) < (len : Int) := by omega
      obtain ⟨x, hx⟩ : ∃ x, cs[i]? = some x := ⟨_, List.getElem?_eq_getElem (by have := HLEN.out; omega)⟩
      obtain ⟨bb, off, rfl, h1, h2⟩ := inv.zone i x hx
      have HD := Lib.hid (show cs.drop i = x :: cs.drop (i + 1) by
        obtain ⟨h, he⟩ := List.getElem?_eq_some_iff.1 hx
        rw [List.drop_eq_getElem_cons h, he])
      clear hx
      obtain ⟨xa, xf⟩ := x
      by_cases hle : xa ≤ t
      · go_wp2
        go_roundg g
        case measure => omega
        case rel => exact ⟨i + 1, xf, by omega, rfl, by go_num, show offFrom b cs t = offFrom xf (cs.drop (i + 1)) t by rw [HO.out, HD.out]; show (if xa ≤ t then offFrom xf (cs.drop (i + 1)) t else o) = _; rw [if_pos hle], inv⟩
      · go_wp2
        go_ret
        exact ⟨ret_int (by rw [HO.out, HD.out]; unfold offFrom; rw [if_neg (by omega)]), inv.below⟩
theorem rinst_yes (t : Int) (w : World) (h0 : 0 ≤ t) (h1 : t ≤ 52595999) :
    Calls Try.prog 36 #[.int .i64 t] w fun e w' => e = .returned (.bool true) ∧ w' = w := by
  go_enter Try.func36, Try.ntmps36
  go_wp2
  go_ret
  exact ⟨rfl, rfl⟩
theorem rinst_no (t : Int) (w : World) (h : t < 0 ∨ 52595999 < t) :
    Calls Try.prog 36 #[.int .i64 t] w fun e w' => e = .returned (.bool false) ∧ w' = w := by
  by_cases h0 : t < 0
  · go_enter Try.func36, Try.ntmps36
    go_wp2
    go_ret
    exact ⟨rfl, rfl⟩
  · have h0' : 0 ≤ t := by omega
    have hd : decide (t ≤ 52595999) = false := decide_eq_false (by omega)
    go_enter Try.func36, Try.ntmps36
    go_wp2
    go_ret
    exact ⟨rfl, rfl⟩
theorem rday_yes (t : Int) (w : World) (h0 : 0 ≤ t) (h1 : t ≤ 36524) :
    Calls Try.prog 38 #[.int .i64 t] w fun e w' => e = .returned (.bool true) ∧ w' = w := by
  go_enter Try.func38, Try.ntmps38
  go_wp2
  go_ret
  exact ⟨rfl, rfl⟩
theorem rday_no (t : Int) (w : World) (h : t < 0 ∨ 36524 < t) :
    Calls Try.prog 38 #[.int .i64 t] w fun e w' => e = .returned (.bool false) ∧ w' = w := by
  by_cases h0 : t < 0
  · go_enter Try.func38, Try.ntmps38
    go_wp2
    go_ret
    exact ⟨rfl, rfl⟩
  · have h0' : 0 ≤ t := by omega
    have hd : decide (t ≤ 36524) = false := decide_eq_false (by omega)
    go_enter Try.func38, Try.ntmps38
    go_wp2
    go_ret
    exact ⟨rfl, rfl⟩
/-- The absolute value of a difference. -/
theorem rapart_ex (a b : Int) (a0 : -840 ≤ a) (a1 : a ≤ 840) (b0 : -840 ≤ b) (b1 : b ≤ 840) : ∃ k : Int, (k ≤ 60 ↔ a - b ≤ 60 ∧ b - a ≤ 60) ∧
    ∀ w, Calls Try.prog 41 #[.int .i64 a, .int .i64 b] w fun e w' => e = .returned (.int .i64 k) ∧ w' = w := by
  by_cases h : a ≤ b
  · have h2 : a - b ≤ b - a := by omega
    refine ⟨b - a, by omega, fun w => ?_⟩
    go_enter Try.func41, Try.ntmps41
    go_wp2
    all_goals go_ret
    all_goals exact ⟨ret_int (by omega), rfl⟩
  · have h2 : ¬ a - b ≤ b - a := by omega
    refine ⟨a - b, by omega, fun w => ?_⟩
    go_enter Try.func41, Try.ntmps41
    go_wp2
    all_goals go_ret
    all_goals exact ⟨ret_int (by omega), rfl⟩
set_option maxHeartbeats 1000000 in
theorem rlocal_any (nm : ByteArray) (b : Int) (a : Option Addr) (cap : Nat) (cs : List (Int × Int)) (t : Int) (w : World) (hl : cs.length ≤ 100) (z : ZoneAt a cs w) (ho : -840 ≤ offFrom b cs t ∧ offFrom b cs t ≤ 840) (t0 : -10000 ≤ t) (t1 : t ≤ 60000000) :
    Calls Try.prog 37 #[zv nm b a cs.length cap, .int .i64 t] w fun e w' => e = .returned (.tuple #[.int .i64 (if loc b cs t < 0 then -1 else loc b cs t / 1440), .int .i64 (if loc b cs t < 0 then loc b cs t + 1440 else loc b cs t % 1440)]) ∧ Below w.heap.size w w' := by
  have inv := ZW.start w nm b a cs.length cap cs z
  have HO := Lib.hid (fun w (z : ZoneAt a cs w) => roffset_any nm b a cap cs t w hl z)
  unfold loc
  obtain ⟨o0, o1⟩ := ho
  generalize offFrom b cs t = o at *
  generalize cs.length = len at *
  have k0 := inv.c0
  have k1 := inv.c1
  have k2 := inv.c2
  clear z
  by_cases hn : t + o < 0
  · rw [if_pos hn, if_pos hn]
    go_enter Try.func37, Try.ntmps37
    go_wp2_with (first
      | (go_at_call 42; with_reducible refine (HO.out _ inv.zone).mono ?_; rintro e w1 ⟨rfl, hn⟩; replace inv := inv.step hn; clear hn))
    go_ret2
    exact ⟨rfl, inv.below⟩
  · rw [if_neg hn, if_neg hn]
    go_enter Try.func37, Try.ntmps37
    go_wp2_with (first
      | (go_at_call 42; with_reducible refine (HO.out _ inv.zone).mono ?_; rintro e w1 ⟨rfl, hn⟩; replace inv := inv.step hn; clear hn))
    go_ret2
    exact ⟨rfl, inv.below⟩
end Go.Proofs.Ytjmnohbgfkohpaa.Zn
