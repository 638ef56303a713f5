/- What the reference implementation's Same of piecewise linear functions returns. Conditions: the pieces lie in memory as the arguments say. -/
import Derived.Test.YtdoojpilogcnjaaPwRef7
import Derived.Test.YtdoojpilogcnjaaSpanRef
set_option linter.unusedVariables false
set_option linter.unusedSimpArgs false
namespace Go.Proofs.Ytdoojpilogcnjaa.Pw
open Go.RowKit Go.Proofs.Ytdoojpilogcnjaa.Sp
set_option maxHeartbeats 8000000 in
set_option maxRecDepth 100000 in
theorem rsamef_any (d e : Int) (a a' : Option Addr) (c c' : Nat) (l r : List Pc) (w : World) (hl : l.length ≤ 1000000) (hr : r.length ≤ 1000000) (z : PcsAt a l w) (z' : PcsAt a' r w) :
    Calls Try.prog 18 #[fv d a l.length c, fv e a' r.length c'] w fun v w' => v = .returned (.bool (decide (d = e ∧ l = r))) ∧ Below w.heap.size w w' := by
  obtain ⟨n, hn⟩ : ∃ n, n = l.length := ⟨_, rfl⟩
  obtain ⟨m, hm⟩ : ∃ m, m = r.length := ⟨_, rfl⟩
  rw [← hn] at hl ⊢
  rw [← hm] at hr ⊢
  have HN := Lib.hid hn
  have HM := Lib.hid hm
  have HZ := Lib.hid (And.intro z z')
  clear hn hm z z'
  have hsz : (w.alloc (fb d a n c)).heap.size = w.heap.size + 1 := by simp
  have hB1 : Below w.heap.size w ((w.alloc (fb d a n c)).alloc (fb e a' m c')) := (alloc_below w _).trans ((alloc_below (w.alloc (fb d a n c)) (fb e a' m c')).mono (alloc_below w _).size)
  have c0 : ((w.alloc (fb d a n c)).alloc (fb e a' m c')).cell? ⟨w.heap.size, 0, none⟩ = some (.int .i64 d) := cell_kept (alloc_below (w.alloc (fb d a n c)) (fb e a' m c')) (by simp [World.cell?_alloc_new])
  have c1 : ((w.alloc (fb d a n c)).alloc (fb e a' m c')).cell? ⟨w.heap.size, 1, none⟩ = some (.slice a n c) := cell_kept (alloc_below (w.alloc (fb d a n c)) (fb e a' m c')) (by simp [World.cell?_alloc_new])
  have g0 : ((w.alloc (fb d a n c)).alloc (fb e a' m c')).cell? ⟨w.heap.size + 1, 0, none⟩ = some (.int .i64 e) := by rw [← hsz]; exact (by simp)
  have g1 : ((w.alloc (fb d a n c)).alloc (fb e a' m c')).cell? ⟨w.heap.size + 1, 1, none⟩ = some (.slice a' m c') := by rw [← hsz]; exact (by simp)
  go_enter Try.func18, Try.ntmps18
  go_upto_region 1 with (fail)
  generalize (w.alloc (fb d a n c)).alloc (fb e a' m c') = W1 at *
  generalize w.heap.size = xb at c0 c1 g0 g1 ⊢
  have HE := Lib.hid (And.intro c0 (And.intro c1 (And.intro g0 g1)))
  have HB := Lib.hid hB1
  clear hB1 hsz
  by_cases hde : d = e
  · have t0 : (d != e) = false := by simpa using hde
    by_cases hnm : n = m
    · have t1 : ((n : Int) != (m : Int)) = false := by simp; omega
      go_wp2
      subst hnm
      clear c0 c1 g0 g1 t0 t1
      go_loopg [5] n (fun g s5 wx => ∃ i : Nat, i + g = n ∧ s5 = .int .i64 i ∧ Hid (∀ j, j < i → l[j]? = r[j]?) ∧ Hid (Below W1.heap.size W1 wx))
      case atStart => exact ⟨0, by omega, rfl, Lib.hid (fun j hj => by omega), Lib.hid (Below.refl _ _)⟩
      case round =>
        obtain ⟨i, hi, rfl, HQ, HK⟩ := hrel
        have c1 := cell_kept HK.out HE.out.2.1
        have g1 := cell_kept HK.out HE.out.2.2.2
        cases gk with
        | zero =>
          have hlt : ¬ (i : Int) < (n : Int) := by omega
          have HF := Lib.hid (show decide (d = e ∧ l = r) = true from decide_eq_true ⟨hde, list_two HN.out.symm HM.out.symm (fun j hj => HQ.out j (by omega))⟩)
          clear hde
          go_wp2
          go_ret
          exact ⟨ret_bool (by first | exact HF.out.symm | (rw [← Bool.decide_and]; exact HF.out.symm)), HB.out.trans (HK.out.mono HB.out.size)⟩
        | succ g =>
          have hlt : (i : Int) < (n : Int) := by omega
          obtain ⟨x, hx⟩ : ∃ x, l[i]? = some x := ⟨_, List.getElem?_eq_getElem (by have := HN.out; omega)⟩
          obtain ⟨y, hy⟩ : ∃ y, r[i]? = some y := ⟨_, List.getElem?_eq_getElem (by have := HM.out; omega)⟩
          have hbw := HB.out.trans (HK.out.mono HB.out.size)
          obtain ⟨b1, o1, rfl, u1, u2, u3⟩ := HZ.out.1.below hbw i x hx
          obtain ⟨b2, o2, rfl, v1, v2, v3⟩ := HZ.out.2.below hbw i y hy
          have HX := Lib.hid (And.intro hx hy)
          clear hx hy hbw
          obtain ⟨x1, x2, x3⟩ := x
          obtain ⟨y1, y2, y3⟩ := y
          simp only at u1 u2 u3 v1 v2 v3
          by_cases hxy : x1 = y1 ∧ x2 = y2 ∧ x3 = y3
          · have t1 : (x1 == y1) = true := by simpa using hxy.1
            have t2 : (x2 == y2) = true := by simpa using hxy.2.1
            have t3 : (x3 == y3) = true := by simpa using hxy.2.2
            have HQ2 := Lib.hid (show ∀ j, j < i + 1 → l[j]? = r[j]? from fun j hj => by
              by_cases q : j = i
              · subst q; rw [HX.out.1, HX.out.2, hxy.1, hxy.2.1, hxy.2.2]
              · exact HQ.out j (by omega))
            clear hxy
            go_wp2_with fail
            go_quiet (fail)
            go_wp2
            go_roundg g
            case measure => omega
            case rel => exact ⟨i + 1, by omega, by go_num, HQ2, Lib.hid (HK.out.trans ((below_drewN (Below.refl _ _) _).mono HK.out.size))⟩
          · have HF := Lib.hid (show decide (d = e ∧ l = r) = false from decide_eq_false (fun h => by
              have h3 := HX.out
              rw [h.2, h3.2] at h3
              have h4 := Option.some.inj h3.1
              simp only [Prod.mk.injEq] at h4
              exact hxy ⟨h4.1.symm, h4.2.1.symm, h4.2.2.symm⟩))
            by_cases p1 : x1 = y1
            · by_cases p2 : x2 = y2
              · have t1 : (x1 == y1) = true := by simpa using p1
                have t2 : (x2 == y2) = true := by simpa using p2
                have t3 : (x3 == y3) = false := by simp; exact fun q => hxy ⟨p1, p2, q⟩
                clear hxy p1 p2
                go_wp2_with fail
                go_quiet (fail)
                go_wp2
                go_ret
                exact ⟨ret_bool HF.out.symm, HB.out.trans ((HK.out.trans ((below_drewN (Below.refl _ _) _).mono HK.out.size)).mono HB.out.size)⟩
              · have t1 : (x1 == y1) = true := by simpa using p1
                have t2 : (x2 == y2) = false := by simpa using p2
                clear hxy p1 p2
                go_wp2_with fail
                go_quiet (fail)
                go_wp2
                go_ret
                exact ⟨ret_bool HF.out.symm, HB.out.trans ((HK.out.trans ((below_drewN (Below.refl _ _) _).mono HK.out.size)).mono HB.out.size)⟩
            · have t1 : (x1 == y1) = false := by simpa using p1
              clear hxy p1
              go_wp2_with fail
              go_quiet (fail)
              go_wp2
              go_ret
              exact ⟨ret_bool HF.out.symm, HB.out.trans ((HK.out.trans ((below_drewN (Below.refl _ _) _).mono HK.out.size)).mono HB.out.size)⟩
    · have t1 : ((n : Int) != (m : Int)) = true := by simp; omega
      have HF := Lib.hid (show decide (d = e ∧ l = r) = false from decide_eq_false (fun h => hnm (by rw [HN.out, HM.out, h.2])))
      clear hde hnm
      go_wp2
      go_ret
      exact ⟨ret_bool HF.out.symm, HB.out⟩
  · have t0 : (d != e) = true := by simpa using hde
    have HF := Lib.hid (show decide (d = e ∧ l = r) = false from decide_eq_false (fun h => hde h.1))
    clear hde
    go_wp2
    go_ret
    exact ⟨ret_bool HF.out.symm, HB.out⟩
end Go.Proofs.Ytdoojpilogcnjaa.Pw
