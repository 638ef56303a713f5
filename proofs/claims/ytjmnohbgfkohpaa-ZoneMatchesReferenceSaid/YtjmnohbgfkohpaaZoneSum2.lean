/- What the law's helper sum returns: two lists of portions added day by day. Conditions: both lie in memory as the arguments say, each has at most 20 portions of at most a million minutes. -/
import Derived.Test.YtjmnohbgfkohpaaZoneSum
import Derived.Deep.RegionHeld3
namespace Go.Proofs.Ytjmnohbgfkohpaa.Zn
open Go.RowKit
theorem row_grown {wr w1 : World} {o : Obj} {B : Nat} {w : World} {base : Nat} {v : Value} {e sz n : Nat} {xs : List Value} (hb : Below B w wr) (hB : B ≤ wr.heap.size) (hown : (wr.alloc o).ownsRow base e sz v n xs) (hg : (wr.alloc o).grownBy w1 v.ownBlock) (hbb : B ≤ base) : Below B w w1 :=
  hb.trans (grown_below hown hg hB hbb)
set_option maxHeartbeats 8000000 in
set_option maxRecDepth 100000 in
theorem sum_any (a1 a2 : Option Addr) (c1 c2 : Nat) (xs ys : List (Int × Int)) (w : World) (hn : xs.length ≤ 20) (hm : ys.length ≤ 20) (hx2 : ∀ x ∈ xs, 0 ≤ x.2 ∧ x.2 ≤ 1000000) (hy2 : ∀ x ∈ ys, 0 ≤ x.2 ∧ x.2 ≤ 1000000) (z1 : PortsAt a1 xs w) (z2 : PortsAt a2 ys w) :
    Calls Try.prog 30 #[.slice a1 xs.length c1, .slice a2 ys.length c2] w fun r w' => ∃ v, r = .returned v ∧ RowP w' w.heap.size v (merge xs ys) ∧ Below w.heap.size w w' := by
  have HZ1 := Lib.hid (fun w' (k : Below w.heap.size w w') => z1.below k)
  have HZ2 := Lib.hid (fun w' (k : Below w.heap.size w w') => z2.below k)
  have HX2 := Lib.hid hx2
  have HY2 := Lib.hid hy2
  obtain ⟨n, hn'⟩ : ∃ n, n = xs.length := ⟨_, rfl⟩
  obtain ⟨m, hm'⟩ : ∃ m, m = ys.length := ⟨_, rfl⟩
  rw [← hn'] at hn ⊢
  rw [← hm'] at hm ⊢
  have HN := Lib.hid hn'
  have HM := Lib.hid hm'
  clear hn' hm' z1 z2 hx2 hy2
  obtain ⟨i0, hi, hz0, hz1, hz2⟩ := info_parts Try.infoP
  have HI0 := Lib.hid (And.intro hi (And.intro hz0 (And.intro hz1 hz2)))
  clear hi hz0 hz1 hz2
  go_enter Try.func30, Try.ntmps30
  go_wp2
  go_loopg [5, 6, 7] (n + m) (fun g s5 s6 s7 wx => ∃ (i k : Nat) (acc : List (Int × Int)), (i ≤ n ∧ k ≤ m ∧ i + k + g = n + m) ∧ s6 = .int .i64 i ∧ s7 = .int .i64 k ∧ Hid (SumAt xs ys acc i k) ∧ Hid (RowP wx w.heap.size s5 acc) ∧ Below w.heap.size w wx)
  case atStart => exact ⟨0, 0, [], by omega, rfl, rfl, SumAt.start xs ys, RowP.nil _ _, Below.refl _ _⟩
  case round =>
    obtain ⟨i, k, acc, ⟨hi, hk, hg⟩, rfl, rfl, HS, HR, hb⟩ := hrel
    have hal := HS.out.2
    have hsz := hb.size
    by_cases hin : i = n
    · subst hin
      by_cases hkm : k = m
      · -- the end
        subst hkm
        obtain rfl : gk = 0 := by omega
        clear hi hk hg
        go_wp2
        go_ret
        exact ⟨_, rfl, by rw [← HS.out.done (by have := HN.out; omega) (by have := HM.out; omega)]; exact HR.out, hb⟩
      · -- the right one alone
        cases gk with
        | zero => exact absurd hg (by omega)
        | succ g =>
          have hklt : (k : Int) < (m : Int) := by omega
          have e3 : ((k : Int) == (m : Int)) = false := beq_false_of_ne (by omega)
          have e4 : ((i : Int) == (i : Int)) = true := beq_self_eq_true _
          have e5 : decide ((i : Int) < (i : Int)) = false := decide_eq_false (by omega)
          clear hkm
          obtain ⟨y, hy⟩ : ∃ y, ys[k]? = some y := ⟨_, List.getElem?_eq_getElem (by have := HM.out; omega)⟩
          obtain ⟨b2, o2, rfl, h2, h2'⟩ := HZ2.out _ hb k y hy
          obtain ⟨y1, y2⟩ := y
          have HS' := Lib.hid (HS.out.right hy (fun x hx => by have := (List.getElem?_eq_some_iff.1 hx).1; have := HN.out; omega))
          have HRN := Lib.hid (fun j => RowP.below HR.out (below_drewN (Below.refl _ _) j))
          have HBN := Lib.hid (fun j => below_drewN hb j)
          clear hy HS HR
          go_wp2_with fail
          go_quiet (fail)
          go_wp2_with fail
          go_quiet (fail)
          go_wp2_with (first
            | (at_builtin; refine wpList_append_own _ rfl _ _ 34 rfl w.heap.size 46 i0 (.agg #[.int .i64 0, .int .i64 0]) 2 16 Try.underP HI0.out.1 HI0.out.2.1 HI0.out.2.2.1 HI0.out.2.2.2 rfl (by decide) _ _ _ rfl (World.ownsRow.alloc (HRN.out _) _) _ 1 1 [.int .i64 y1, .int .i64 y2] rfl rfl (two_cells rfl) two_one ?c3 ?c4 ?c5 ?_))
          case c3 => unfold maxLen; omega
          case c4 => omega
          case c5 => have := (HBN.out 0).size; simp; omega
          · intro v' w1 hown' hgrow _
            have hB := row_grown (HBN.out _) (HBN.out _).size (World.ownsRow.alloc (HRN.out _) _) hgrow (Nat.le_refl _)
            have HR1 := Lib.hid (RowP.push hown')
            clear hown' hgrow
            go_wp2
            go_roundg g
            case measure => omega
            case rel => exact ⟨i, k + 1, acc ++ [(y1, y2)], by omega, by go_num, by go_num, HS'.out, HR1.out, hB⟩
    · by_cases hkm : k = m
      · -- the left one alone
        subst hkm
        cases gk with
        | zero => exact absurd hg (by omega)
        | succ g =>
          have hilt : (i : Int) < (n : Int) := by omega
          have e3 : ((k : Int) == (k : Int)) = true := beq_self_eq_true _
          clear hin
          obtain ⟨x, hx⟩ : ∃ x, xs[i]? = some x := ⟨_, List.getElem?_eq_getElem (by have := HN.out; omega)⟩
          obtain ⟨b1, o1, rfl, h1, h1'⟩ := HZ1.out _ hb i x hx
          obtain ⟨x1, x2⟩ := x
          have HS' := Lib.hid (HS.out.left hx (fun y hy => by have := (List.getElem?_eq_some_iff.1 hy).1; have := HM.out; omega))
          have HRN := Lib.hid (fun j => RowP.below HR.out (below_drewN (Below.refl _ _) j))
          have HBN := Lib.hid (fun j => below_drewN hb j)
          clear hx HS HR
          go_wp2_with fail
          go_quiet (fail)
          go_wp2_with (first
            | (at_builtin; refine wpList_append_own _ rfl _ _ 34 rfl w.heap.size 46 i0 (.agg #[.int .i64 0, .int .i64 0]) 2 16 Try.underP HI0.out.1 HI0.out.2.1 HI0.out.2.2.1 HI0.out.2.2.2 rfl (by decide) _ _ _ rfl (World.ownsRow.alloc (HRN.out _) _) _ 1 1 [.int .i64 x1, .int .i64 x2] rfl rfl (two_cells rfl) two_one ?c3 ?c4 ?c5 ?_))
          case c3 => unfold maxLen; omega
          case c4 => omega
          case c5 => have := (HBN.out 0).size; simp; omega
          · intro v' w1 hown' hgrow _
            have hB := row_grown (HBN.out _) (HBN.out _).size (World.ownsRow.alloc (HRN.out _) _) hgrow (Nat.le_refl _)
            have HR1 := Lib.hid (RowP.push hown')
            clear hown' hgrow
            go_wp2
            go_roundg g
            case measure => omega
            case rel => exact ⟨i + 1, k, acc ++ [(x1, x2)], by omega, by go_num, by go_num, HS'.out, HR1.out, hB⟩
      · obtain ⟨x, hx⟩ : ∃ x, xs[i]? = some x := ⟨_, List.getElem?_eq_getElem (by have := HN.out; omega)⟩
        obtain ⟨y, hy⟩ : ∃ y, ys[k]? = some y := ⟨_, List.getElem?_eq_getElem (by have := HM.out; omega)⟩
        obtain ⟨b1, o1, rfl, h1, h1'⟩ := HZ1.out _ hb i x hx
        obtain ⟨b2, o2, rfl, h2, h2'⟩ := HZ2.out _ hb k y hy
        have hxb := HX2.out x (List.mem_of_getElem? hx)
        have hyb := HY2.out y (List.mem_of_getElem? hy)
        obtain ⟨x1, x2⟩ := x
        obtain ⟨y1, y2⟩ := y
        have hxb' : 0 ≤ x2 ∧ x2 ≤ 1000000 := hxb
        have hyb' : 0 ≤ y2 ∧ y2 ≤ 1000000 := hyb
        have hilt : (i : Int) < (n : Int) := by omega
        have hklt : (k : Int) < (m : Int) := by omega
        have e3 : ((k : Int) == (m : Int)) = false := beq_false_of_ne (by omega)
        have e4 : ((i : Int) == (n : Int)) = false := beq_false_of_ne (by omega)
        have HRN := Lib.hid (fun j => RowP.below HR.out (below_drewN (Below.refl _ _) j))
        have HBN := Lib.hid (fun j => below_drewN hb j)
        cases gk with
        | zero => exact absurd hg (by omega)
        | succ g =>
          by_cases hlt : x1 < y1
          · -- both, the left one first
            have HS' := Lib.hid (HS.out.left hx (fun y' hy' => by rw [hy] at hy'; obtain rfl := Option.some.inj hy'; exact hlt))
            clear hx hy HS HR hxb hyb hin hkm
            go_wp2_with fail
            go_quiet (fail)
            go_wp2_with (first
              | (at_builtin; refine wpList_append_own _ rfl _ _ 34 rfl w.heap.size 46 i0 (.agg #[.int .i64 0, .int .i64 0]) 2 16 Try.underP HI0.out.1 HI0.out.2.1 HI0.out.2.2.1 HI0.out.2.2.2 rfl (by decide) _ _ _ rfl (World.ownsRow.alloc (HRN.out _) _) _ 1 1 [.int .i64 x1, .int .i64 x2] rfl rfl (two_cells rfl) two_one ?c3 ?c4 ?c5 ?_))
            case c3 => unfold maxLen; omega
            case c4 => omega
            case c5 => have := (HBN.out 0).size; simp; omega
            · intro v' w1 hown' hgrow _
              have hB := row_grown (HBN.out _) (HBN.out _).size (World.ownsRow.alloc (HRN.out _) _) hgrow (Nat.le_refl _)
              have HR1 := Lib.hid (RowP.push hown')
              clear hown' hgrow
              go_wp2
              go_roundg g
              case measure => omega
              case rel => exact ⟨i + 1, k, acc ++ [(x1, x2)], by omega, by go_num, by go_num, HS'.out, HR1.out, hB⟩
          · have e6 : decide (x1 < y1) = false := decide_eq_false hlt
            by_cases hgt : y1 < x1
            · -- both, the right one first
              have HS' := Lib.hid (HS.out.right hy (fun x' hx' => by rw [hx] at hx'; obtain rfl := Option.some.inj hx'; exact hgt))
              clear hx hy HS HR hxb hyb hin hkm hlt
              go_wp2_with fail
              go_quiet (fail)
              go_wp2_with fail
              go_quiet (fail)
              go_wp2_with (first
                | (at_builtin; refine wpList_append_own _ rfl _ _ 34 rfl w.heap.size 46 i0 (.agg #[.int .i64 0, .int .i64 0]) 2 16 Try.underP HI0.out.1 HI0.out.2.1 HI0.out.2.2.1 HI0.out.2.2.2 rfl (by decide) _ _ _ rfl (World.ownsRow.alloc (HRN.out _) _) _ 1 1 [.int .i64 y1, .int .i64 y2] rfl rfl (two_cells rfl) two_one ?c3 ?c4 ?c5 ?_))
              case c3 => unfold maxLen; omega
              case c4 => omega
              case c5 => have := (HBN.out 0).size; simp; omega
              · intro v' w1 hown' hgrow _
                have hB := row_grown (HBN.out _) (HBN.out _).size (World.ownsRow.alloc (HRN.out _) _) hgrow (Nat.le_refl _)
                have HR1 := Lib.hid (RowP.push hown')
                clear hown' hgrow
                go_wp2
                go_roundg g
                case measure => omega
                case rel => exact ⟨i, k + 1, acc ++ [(y1, y2)], by omega, by go_num, by go_num, HS'.out, HR1.out, hB⟩
            · -- one day
              have e7 : decide (y1 < x1) = false := decide_eq_false hgt
              have hwr : IntKind.i64.wrap (x2 + y2) = x2 + y2 := IntWalk.i64_in (x2 + y2) (by omega)
              have h0i : (0 : Int) ≤ (i : Int) := Int.natCast_nonneg i
              have h0k : (0 : Int) ≤ (k : Int) := Int.natCast_nonneg k
              have HC := Lib.hid (show ∀ w', Below w.heap.size w w' → w'.cell? ⟨b1, o1 + i * 2, none⟩ = some (.int .i64 x1) ∧ w'.cell? ⟨b1, o1 + i * 2 + 1, none⟩ = some (.int .i64 x2) ∧ w'.cell? ⟨b2, o2 + k * 2 + 1, none⟩ = some (.int .i64 y2) ∧ Below w.heap.size w w' from fun w' hk' => by
                obtain ⟨_, _, q1, g1, g1'⟩ := HZ1.out w' hk' i _ hx
                cases q1
                obtain ⟨_, _, q2, g2, g2'⟩ := HZ2.out w' hk' k _ hy
                cases q2
                exact ⟨g1, g1', g2', hk'⟩)
              have HRD := Lib.hid (fun j j2 => RowP.below (RowP.below (HRN.out j) (below_drewN (Below.refl _ _) j2)) (Below.refl _ _).drew)
              have HBD := Lib.hid (fun j j2 => (below_drewN (HBN.out j) j2).drew)
              have HS' := Lib.hid (HS.out.both hx hy (by show x1 = y1; omega))
              clear hx hy HS HR hxb hyb hin hkm hlt hgt
              go_wp2_with fail
              go_quiet (fail)
              go_wp2_with fail
              go_quiet (fail)
              go_wp2_with fail
              go_region_held3 (fun w' => w'.cell? ⟨b1, o1 + i * 2, none⟩ = some (.int .i64 x1) ∧ w'.cell? ⟨b1, o1 + i * 2 + 1, none⟩ = some (.int .i64 x2) ∧ w'.cell? ⟨b2, o2 + k * 2 + 1, none⟩ = some (.int .i64 y2) ∧ Below w.heap.size w w')
                (first
                  | exact HC.out _ hB
                  | exact HC.out _ (HBD.out _ _)
                  | exact HC.out _ (Below.alloc (HBN.out _) (HBN.out _).size _))
                ((refine step_append_lies _ (by rfl) _ _ 34 (by rfl) w.heap.size 46 i0 (.agg #[.int .i64 0, .int .i64 0]) 2 16 Try.underP HI0.out.1 HI0.out.2.1 HI0.out.2.2.1 HI0.out.2.2.2 rfl (by decide) _ _ _ (by rfl) (World.ownsRow.alloc (HRN.out _) _) _ 1 1 [.int .i64 x1, .int .i64 (x2 + y2)] (by rfl) rfl (two_cells rfl) two_one (by decide) (by unfold maxLen; omega) (by omega) (by have := (HBN.out 0).size; simp; omega) _ rfl ?_; intro g2 cap2 w1 hown' hgrow _ _; have hB := row_grown (HBN.out _) (HBN.out _).size (World.ownsRow.alloc (HRN.out _) _) hgrow (Nat.le_refl _); have HR1 := Lib.hid (RowP.push hown'); clear hown' hgrow))
              go_wp2
              go_roundg (g - 1)
              case measure => omega
              case rel => exact ⟨i + 1, k + 1, acc ++ [(x1, x2 + y2)], by omega, by go_num, by go_num, HS'.out, HR1.out, hB⟩
end Go.Proofs.Ytjmnohbgfkohpaa.Zn
