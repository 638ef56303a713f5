/- The iterator over the stretches between changes: what it gives, one by one, to whatever loop. Conditions: the zone's changes lie in memory as the argument says, and the loop's body leaves them and the iterator's own blocks alone. -/
import Derived.Test.YtjmnohbgfkohpaaZoneOwn2
import Derived.Test.YtjmnohbgfkohpaaZoneMath4
import Derived.Test.YtjmnohbgfkohpaaZoneRange
import Derived.Shelf.Abstract
import Derived.Shelf.RegionOpen
import Derived.RangeFuncCalls
import Derived.OwnWalkIn
import Derived.TacticsInMore
import Derived.LoopNIn
import Derived.LoopIn
import Derived.Sort.LoopGhostIn
import Derived.Sort.QuietTacIn
import Derived.Sort.BigQuietIn
namespace Go.Proofs.Ytjmnohbgfkohpaa.Zn
open Go Go.RowKit Go.Shelf
attribute [local go_sem] Oper.semAt_some
/-- The boxes that a maker of an iterator leaves: the zone, two bounds. -/
structure Caps (W : World) (gz gf gt : Nat) (nm : ByteArray) (b : Int) (a : Option Addr) (len cap : Nat) (f t : Int) : Prop where
  z0 : W.cell? ⟨gz, 0, none⟩ = some (.string nm)
  z1 : W.cell? ⟨gz, 1, none⟩ = some (.int .i64 b)
  z2 : W.cell? ⟨gz, 2, none⟩ = some (.slice a len cap)
  f0 : W.cell? ⟨gf, 0, none⟩ = some (.int .i64 f)
  t0 : W.cell? ⟨gt, 0, none⟩ = some (.int .i64 t)
theorem Caps.oth {W X : World} {gz gf gt : Nat} {nm : ByteArray} {b : Int} {a : Option Addr} {len cap : Nat} {f t : Int} {mine : Nat → Prop} (h : Caps W gz gf gt nm b a len cap f t) (k : Oth mine W X) (hm : ∀ i, mine i → i ≠ gz ∧ i ≠ gf ∧ i ≠ gt) : Caps X gz gf gt nm b a len cap f t :=
  ⟨k.cell h.z0 (fun e => (hm _ e).1 rfl), k.cell h.z1 (fun e => (hm _ e).1 rfl), k.cell h.z2 (fun e => (hm _ e).1 rfl), k.cell h.f0 (fun e => (hm _ e).2.1 rfl), k.cell h.t0 (fun e => (hm _ e).2.2 rfl)⟩
theorem Caps.below {W X : World} {gz gf gt : Nat} {nm : ByteArray} {b : Int} {a : Option Addr} {len cap : Nat} {f t : Int} (h : Caps W gz gf gt nm b a len cap f t) (k : Below W.heap.size W X) : Caps X gz gf gt nm b a len cap f t :=
  ⟨cell_kept k h.z0, cell_kept k h.z1, cell_kept k h.z2, cell_kept k h.f0, cell_kept k h.t0⟩
/-- The three boxes, as the makers lay them. -/
abbrev capsW (w : World) (nm : ByteArray) (b : Int) (a : Option Addr) (len cap : Nat) (f t : Int) : World :=
  ((w.alloc (.cells #[.string nm, .int .i64 b, .slice a len cap] 24)).alloc (.cells #[.int .i64 f] 3)).alloc (.cells #[.int .i64 t] 3)
theorem capsW_below (w : World) (nm : ByteArray) (b : Int) (a : Option Addr) (len cap : Nat) (f t : Int) : Below w.heap.size w (capsW w nm b a len cap f t) := (((Below.refl _ _).alloc (Nat.le_refl _) _).alloc (by simp) _).alloc (by simp; omega) _
theorem capsW_size (w : World) (nm : ByteArray) (b : Int) (a : Option Addr) (len cap : Nat) (f t : Int) : (capsW w nm b a len cap f t).heap.size = w.heap.size + 3 := by simp [capsW]
theorem capsW_caps (w : World) (nm : ByteArray) (b : Int) (a : Option Addr) (len cap : Nat) (f t : Int) : Caps (capsW w nm b a len cap f t) w.heap.size (w.heap.size + 1) (w.heap.size + 2) nm b a len cap f t := by
  have h1 : ∀ (X : World) (o : Obj), Below X.heap.size X (X.alloc o) := fun X o => (Below.refl _ _).alloc (Nat.le_refl _) _
  refine ⟨?_, ?_, ?_, ?_, ?_⟩
  · exact cell_kept (h1 _ _) (cell_kept (h1 _ _) (by simp [World.cell?_alloc_new]))
  · exact cell_kept (h1 _ _) (cell_kept (h1 _ _) (by simp [World.cell?_alloc_new]))
  · exact cell_kept (h1 _ _) (cell_kept (h1 _ _) (by simp [World.cell?_alloc_new]))
  · refine cell_kept (h1 _ _) ?_
    have h := World.cell?_alloc_new (w.alloc (.cells #[.string nm, .int .i64 b, .slice a len cap] 24))
    simp only [World.size_alloc] at h
    rw [h]; rfl
  · have h := World.cell?_alloc_new ((w.alloc (.cells #[.string nm, .int .i64 b, .slice a len cap] 24)).alloc (.cells #[.int .i64 f] 3))
    simp only [World.size_alloc] at h
    rw [h]; rfl
theorem zstretches_any (nm : ByteArray) (b : Int) (a : Option Addr) (len cap : Nat) (f t : Int) (w : World) :
    Calls Try.prog 55 #[zv nm b a len cap, .int .i64 f, .int .i64 t] w fun r w' => r = .returned (.func (.func 61) #[] #[.pointer (some ⟨w.heap.size + 1, 0, none⟩), .pointer (some ⟨w.heap.size, 0, none⟩), .pointer (some ⟨w.heap.size + 2, 0, none⟩)]) ∧ w' = capsW w nm b a len cap f t := by
  go_enter Try.func55, Try.ntmps55
  go_wp2
  go_ret
  exact ⟨rfl, rfl⟩
theorem zdays_any (nm : ByteArray) (b : Int) (a : Option Addr) (len cap : Nat) (f t : Int) (w : World) :
    Calls Try.prog 44 #[zv nm b a len cap, .int .i64 f, .int .i64 t] w fun r w' => r = .returned (.func (.func 57) #[] #[.pointer (some ⟨w.heap.size, 0, none⟩), .pointer (some ⟨w.heap.size + 1, 0, none⟩), .pointer (some ⟨w.heap.size + 2, 0, none⟩)]) ∧ w' = capsW w nm b a len cap f t := by
  go_enter Try.func44, Try.ntmps44
  go_wp2
  go_ret
  exact ⟨rfl, rfl⟩
/-- A stretch between changes, handed to a loop's body. -/
abbrev encSeg (x : Seg) : Array Value := #[sv x.1.1 x.1.2, .int .i64 x.2]
set_option maxHeartbeats 2000000 in
set_option maxRecDepth 100000 in
theorem zsegs_seq (nm : ByteArray) (b : Int) (a : Option Addr) (cap : Nat) (cs : List (Int × Int)) (f t : Int) (hl : cs.length ≤ 100) (w0 : World) (z : ZoneAt a cs w0) (W : World) (hb : Below w0.heap.size w0 W)
    (gz gf gt : Nat) (hc : Caps W gz gf gt nm b a cs.length cap f t) (mine : Nat → Prop) (hm : ∀ i, mine i → w0.heap.size ≤ i ∧ i < W.heap.size ∧ i ≠ gz ∧ i ≠ gf ∧ i ≠ gt) (l : Nat) :
    SeqAt Try.prog 61 #[.pointer (some ⟨gf, 0, none⟩), .pointer (some ⟨gz, 0, none⟩), .pointer (some ⟨gt, 0, none⟩)] encSeg mine (segs f b t cs) l W := by
  intro J Jx hJ hJx hY h0
  have HY := Lib.hid hY
  have HJ := Lib.hid hJ
  have HJX := Lib.hid hJx
  have HM := Lib.hid hm
  have HZ := Lib.hid z
  have HB := Lib.hid hb
  have HC := Lib.hid hc
  clear hY hJ hJx hm z hb
  obtain ⟨len, hlen⟩ : ∃ len, len = cs.length := ⟨_, rfl⟩
  rw [← hlen] at hc HC hl
  have HLEN := Lib.hid hlen
  clear hlen
  have k0 := hc.z0
  have k1 := hc.z1
  have k2 := hc.z2
  have k3 := hc.f0
  have k4 := hc.t0
  clear hc
  refine (callsIn_wide (n := 3)).1 ?_
  refine callsIn_of_wp Try.func61 rfl trivial ?_ rfl
  simp only [Try.ntmps61, List.size_toArray, List.length_cons, List.length_nil, Nat.reduceAdd, Nat.reduceSub, Array.replicate_succ, Array.replicate_zero, List.push_toArray, List.append_toArray, List.nil_append, List.cons_append]
  gi_wp2
  gi_quiet (fail)
  gi_wp2
  clear k0 k1 k2 k3 k4
  gi_loopg [5, 6, 15] len (fun g s5 s6 s15 wx => ∃ (i : Nat) (s o : Int) (pre : List Seg), i + g = len ∧ s5 = .int .i64 s ∧ s6 = .int .i64 o ∧ s15 = .int .i64 i ∧ Hid (segs f b t cs = pre ++ segs s o t (cs.drop i)) ∧ Hid (J pre wx) ∧ Hid (Oth mine W wx))
  case atStart => exact ⟨0, f, b, [], by omega, rfl, rfl, rfl, rfl, HJ.out _ _ _ h0 (below_drewN (Below.refl _ _) _), (Oth.refl _ _).drewN _⟩
  case round =>
    clear h0
    obtain ⟨i, s, o, pre, hi, rfl, rfl, rfl, HS, HP, HO⟩ := hrel
    have HCX := Lib.hid (HC.out.oth HO.out (fun i hi => (HM.out i hi).2.2))
    have HBX := Lib.hid (HB.out.trans (HO.out.below HB.out.size (fun i hi => (HM.out i hi).1)))
    have HZX := Lib.hid (HZ.out.below HBX.out)
    have k4 := HCX.out.t0
    cases gk with
    | zero =>
      have hlt : ¬ (i : Int) < (len : Int) := by omega
      have HS2 := Lib.hid (show segs f b t cs = pre ++ segs s o t [] by rw [HS.out, List.drop_of_length_le (by have := HLEN.out; omega)])
      by_cases hst : s < t
      · have HS3 := Lib.hid (show segs f b t cs = pre ++ ((s, t), o) :: [] by rw [HS2.out]; unfold segs; rw [if_pos hst])
        obtain ⟨fn, tmps, assign, body, hy, hR⟩ := HY.out pre ((s, t), o) [] wr HS3.out HP.out
        have hy' : (Instr.yield l #[sv s t, .int .i64 o]).run Try.prog wr = .ok (.round l fn tmps assign body) wr := hy
        have HR := Lib.hid hR
        clear hy hR
        gi_wp2
        refine (round_wide HR.out).mono ?_
        rintro e W3 (⟨rfl, hJ3, hO3⟩ | ⟨rfl, hJ3, hO3⟩)
        · have HE := Lib.hid hJ3
          clear hJ3
          gi_wp2
          go_end0
          exact ⟨⟨_, rfl⟩, .inl (by rw [HS3.out]; exact HE.out)⟩
        · have HE := Lib.hid hJ3
          clear hJ3
          gi_wp2
          go_end0
          exact ⟨⟨_, rfl⟩, .inr ⟨_, HE.out⟩⟩
      · have HS3 := Lib.hid (show segs f b t cs = pre by rw [HS2.out]; unfold segs; rw [if_neg hst, List.append_nil])
        gi_wp2
        go_end0
        exact ⟨⟨_, rfl⟩, .inl (by rw [HS3.out]; exact HP.out)⟩
    | succ g =>
      have hlt : (i : Int) < (len : Int) := by omega
      obtain ⟨x, hx⟩ : ∃ x, cs[i]? = some x := ⟨_, List.getElem?_eq_getElem (by have := HLEN.out; omega)⟩
      obtain ⟨bb, off, rfl, h1, h2⟩ := HZX.out i x hx
      have HD := Lib.hid (show cs.drop i = x :: cs.drop (i + 1) by
        obtain ⟨h, he⟩ := List.getElem?_eq_some_iff.1 hx
        rw [List.drop_eq_getElem_cons h, he])
      clear hx
      obtain ⟨xa, xf⟩ := x
      have hal : Below W.heap.size wr (wr.alloc (.cells #[.int .i64 xa, .int .i64 xf] 52)) := (Below.refl _ _).alloc HO.out.size _
      have HA := Lib.hid (And.intro (HJ.out _ _ _ HP.out hal) (HO.out.alloc (.cells #[.int .i64 xa, .int .i64 xf] 52)))
      have c0 : (wr.alloc (.cells #[.int .i64 xa, .int .i64 xf] 52)).cell? ⟨wr.heap.size, 0, none⟩ = some (.int .i64 xa) := by simp [World.cell?_alloc_new]
      have c1 : (wr.alloc (.cells #[.int .i64 xa, .int .i64 xf] 52)).cell? ⟨wr.heap.size, 1, none⟩ = some (.int .i64 xf) := by simp [World.cell?_alloc_new]
      have k5 : (wr.alloc (.cells #[.int .i64 xa, .int .i64 xf] 52)).cell? ⟨gt, 0, none⟩ = some (.int .i64 t) := cell_kept ((Below.refl _ _).alloc (Nat.le_refl _) _) k4
      have HCC := Lib.hid (And.intro c0 c1)
      clear hal c0 c1
      by_cases hle : t ≤ xa
      · by_cases hst : s < t
        · have HS3 := Lib.hid (show segs f b t cs = pre ++ ((s, t), o) :: [] by rw [HS.out, HD.out]; unfold segs; rw [if_pos hle, if_pos hst])
          obtain ⟨fn, tmps, assign, body, hy, hR⟩ := HY.out pre ((s, t), o) [] _ HS3.out HA.out.1
          have hy' : (Instr.yield l #[sv s t, .int .i64 o]).run Try.prog (wr.alloc (.cells #[.int .i64 xa, .int .i64 xf] 52)) = .ok (.round l fn tmps assign body) (wr.alloc (.cells #[.int .i64 xa, .int .i64 xf] 52)) := hy
          have HR := Lib.hid hR
          clear hy hR
          gi_wp2
          refine (round_wide HR.out).mono ?_
          rintro e W3 (⟨rfl, hJ3, hO3⟩ | ⟨rfl, hJ3, hO3⟩)
          · have HE := Lib.hid hJ3
            clear hJ3
            gi_wp2
            go_end0
            exact ⟨⟨_, rfl⟩, .inl (by rw [HS3.out]; exact HE.out)⟩
          · have HE := Lib.hid hJ3
            clear hJ3
            gi_wp2
            go_end0
            exact ⟨⟨_, rfl⟩, .inr ⟨_, HE.out⟩⟩
        · have HS3 := Lib.hid (show segs f b t cs = pre by rw [HS.out, HD.out]; unfold segs; rw [if_pos hle, if_neg hst, List.append_nil])
          gi_wp2
          go_end0
          exact ⟨⟨_, rfl⟩, .inl (by rw [HS3.out]; exact HA.out.1)⟩
      · by_cases hsa : s < xa
        · have HS3 := Lib.hid (show segs f b t cs = pre ++ ((s, xa), o) :: segs xa xf t (cs.drop (i + 1)) by rw [HS.out, HD.out]; conv => lhs; unfold segs; rw [if_neg hle, if_pos hsa])
          obtain ⟨fn, tmps, assign, body, hy, hR⟩ := HY.out pre ((s, xa), o) _ _ HS3.out HA.out.1
          have hy' : (Instr.yield l #[sv s xa, .int .i64 o]).run Try.prog (wr.alloc (.cells #[.int .i64 xa, .int .i64 xf] 52)) = .ok (.round l fn tmps assign body) (wr.alloc (.cells #[.int .i64 xa, .int .i64 xf] 52)) := hy
          have HR := Lib.hid hR
          clear hy hR
          gi_wp2
          refine (round_wide HR.out).mono ?_
          rintro e W3 (⟨rfl, hJ3, hO3⟩ | ⟨rfl, hJ3, hO3⟩)
          · have HE := Lib.hid hJ3
            have hnm : ¬ mine wr.heap.size := fun h => by have := (HM.out _ h).2.1; have := HO.out.size; omega
            have c0 := hO3.cell HCC.out.1 hnm
            have c1 := hO3.cell HCC.out.2 hnm
            have HO4 := Lib.hid (HA.out.2.trans hO3)
            clear hJ3 hnm hO3 hy' k5 k4
            gi_wp2
            gi_roundg g
            case measure => omega
            case rel => exact ⟨i + 1, xa, xf, pre ++ [((s, xa), o)], by omega, rfl, rfl, by go_num, show _ = _ by rw [HS3.out, List.append_assoc]; rfl, HE.out, HO4.out⟩
          · have HE := Lib.hid hJ3
            clear hJ3
            gi_wp2
            refine bodyPost_ret (results_none rfl _ _ _) rfl ?_
            exact ⟨⟨_, rfl⟩, .inr ⟨_, HE.out⟩⟩
        · have HS3 := Lib.hid (show segs f b t cs = pre ++ segs s xf t (cs.drop (i + 1)) by rw [HS.out, HD.out]; conv => lhs; unfold segs; rw [if_neg hle, if_neg hsa])
          gi_wp2
          gi_roundg g
          case measure => omega
          case rel => exact ⟨i + 1, s, xf, pre, by omega, rfl, rfl, by go_num, HS3.out, HA.out.1, HA.out.2⟩
end Go.Proofs.Ytjmnohbgfkohpaa.Zn
