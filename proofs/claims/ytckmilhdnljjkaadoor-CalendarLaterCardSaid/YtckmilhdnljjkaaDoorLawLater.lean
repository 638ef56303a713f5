/- CalendarLater returns true for every two days and number of months: Later leads to the month so many months away, to the same day of the month or the last one of a shorter month; it does not decrease with the day. Condition: the package's table and the library's read as their initialisers lay them (the card ties them). -/
import Derived.Test.YtckmilhdnljjkaaDoorCalPick
namespace Go.Proofs.YtckmilhdnljjkaaDoor.Cal
open Go.ChangeShapes Go.WideShapes Go.ChangeAt Go.RowKit Go.Sort
theorem ret_b {a b : Bool} (h : a = b) : Ending.returned (.bool a) = .returned (.bool b) := by rw [h]
/-- Where Later leads, s months away. -/
def LaterTo (d s i f : Int) : Prop :=
  (f = 21 ∧ i = 0 ∧ (mo d + s < 0 ∨ 1199 < mo d + s)) ∨ (f = 0 ∧ 0 ≤ mo d + s ∧ mo d + s ≤ 1199 ∧ 0 ≤ i ∧ i ≤ 36524 ∧ mo i = mo d + s ∧ dm i = min (dm d) (len (mo d + s) - 1))
theorem later_ex (d s : Int) (h0 : 0 ≤ d) (h1 : d ≤ 36524) : ∃ i f : Int, LaterTo d s i f ∧
    ∀ w, HasTab w → Calls Tryd.prog 13 #[.int .i64 d, .int .i64 s] w fun e w' => e = .returned (.tuple #[.int .i64 i, .int .i64 f]) ∧ w = w' := by
  obtain ⟨f0, f1, f2, f3, f4, f5, f6⟩ := mo_facts d h0 h1
  by_cases h : mo d + s < 0 ∨ 1199 < mo d + s
  · exact ⟨0, 21, Or.inl ⟨rfl, rfl, h⟩, fun w hT => later_far d s w h0 h1 (by omega) hT⟩
  · have hl := len_bd (mo d + s)
    have hm := mo_mk (m := mo d + s) (b := min (dm d) (len (mo d + s) - 1)) (by omega) (by omega) (by omega) (by omega)
    have hd := day_bd (m := mo d + s) (b := min (dm d) (len (mo d + s) - 1)) (by omega) (by omega) (by omega) (by omega)
    exact ⟨_, 0, Or.inr ⟨rfl, by omega, by omega, hd.1, hd.2, hm.1, hm.2⟩, fun w hT => later_in d s w h0 h1 (by omega) (by omega) hT⟩
theorem later_mono {a b s i j f g : Int} (a0 : 0 ≤ a) (a1 : a ≤ 36524) (b0 : 0 ≤ b) (b1 : b ≤ 36524) (hi : LaterTo a s i f) (hj : LaterTo b s j g) (hf : f = 0) (hg : g = 0) (h : a ≤ b) : i ≤ j := by
  rcases hi with ⟨x, _⟩ | ⟨_, i0, i1, i2, i3, i4, i5⟩
  · omega
  rcases hj with ⟨x, _⟩ | ⟨_, j0, j1, j2, j3, j4, j5⟩
  · omega
  obtain ⟨e0, e1, e2, e3, e4, e5, e6⟩ := mo_facts i i2 i3
  obtain ⟨g0, g1, g2, g3, g4, g5, g6⟩ := mo_facts j j2 j3
  obtain ⟨p0, p1, p2, p3, p4, p5, p6⟩ := mo_facts a a0 a1
  obtain ⟨q0, q1, q2, q3, q4, q5, q6⟩ := mo_facts b b0 b1
  by_cases hlt : mo i < mo j
  · have := beg_le (mo i + 1) (mo j) (by omega) (by omega)
    have := beg_succ (mo i)
    omega
  · by_cases hgt : mo j < mo i
    · have := mo_lt b0 b1 a0 a1 (by omega)
      omega
    · have e : mo a = mo b := by omega
      have e' : mo i = mo j := by omega
      rw [e] at i5 p5
      rw [e'] at e5
      omega
set_option maxHeartbeats 4000000 in
set_option maxRecDepth 100000 in
theorem later_walk (c d m : Int) (w : World) (hc0 : -9223372036854775808 ≤ c) (hc1 : c ≤ 9223372036854775807) (hd0 : -9223372036854775808 ≤ d) (hd1 : d ≤ 9223372036854775807) (hm0 : -9223372036854775808 ≤ m) (hm1 : m ≤ 9223372036854775807) (ok : Ok w) :
    Calls Tryd.prog 7 #[.int .i64 c, .int .i64 d, .int .i64 m] w fun e w' => e = .returned (.bool true) ∧ Below w.heap.size w w' := by
  obtain ⟨n, n0, n1, -, hp⟩ := pick_ex c 36525 hc0 hc1 (by decide) (by decide)
  obtain ⟨k, k0, k1, -, hp2⟩ := pick_ex d 36525 hd0 hd1 (by decide) (by decide)
  obtain ⟨p, p0, p1, -, hp3⟩ := pick_ex m 2399 hm0 hm1 (by decide) (by decide)
  obtain ⟨f0, f1, f2, f3, f4, f5, f6⟩ := mo_facts n n0 (by omega)
  obtain ⟨i, f, hi, hA⟩ := later_ex n (p - 1199) n0 (by omega)
  obtain ⟨j, g, hj, hB⟩ := later_ex k (p - 1199) k0 (by omega)
  have hup := fun a b h => later_mono n0 (by omega) k0 (by omega) hi hj a b h
  have hdn := fun a b h => later_mono k0 (by omega) n0 (by omega) hj hi a b h
  have HM := Lib.hid (fun w h => month_in n w n0 (by omega) h)
  have HD := Lib.hid (fun w h => date_in n w n0 (by omega) h)
  have HP := Lib.hid hp
  have HP2 := Lib.hid hp2
  have HP3 := Lib.hid hp3
  have HA := Lib.hid hA
  have HB := Lib.hid hB
  have hg : g = 21 ∨ g = 0 := by
    rcases hj with ⟨x, _⟩ | ⟨x, _⟩
    · exact Or.inl x
    · exact Or.inr x
  clear hp hp2 hp3 hA hB hj hc0 hc1 hd0 hd1 hm0 hm1 f3 f5 f6
  have hb : Below w.heap.size w w := Below.refl _ _
  rcases hi with ⟨rfl, rfl, hr⟩ | ⟨rfl, i0, i1, i2, i3, i4, i5⟩
  · clear hup hdn hg
    generalize mo n = M at *
    generalize dm n = D at *
    by_cases hlo : M + (p - 1199) < 0
    · clear hr
      go_enter Tryd.func7, Tryd.ntmps7
      go_wp2_with (first
        | (go_at_call 9; with_reducible refine (head_any _ ok).mono ?_; rintro e w1 ⟨rfl, hn⟩; replace hb := block_then hb hn; replace ok := ok.below hn; clear hn)
        | (go_at_call 10; with_reducible refine (HP.out _).mono ?_; rintro e w' ⟨rfl, rfl⟩)
        | (go_at_call 10; with_reducible refine (HP2.out _).mono ?_; rintro e w' ⟨rfl, rfl⟩)
        | (go_at_call 10; with_reducible refine (HP3.out _).mono ?_; rintro e w' ⟨rfl, rfl⟩)
        | (go_at_call 17; with_reducible refine (HM.out _ ok.tab).mono ?_; rintro e w' ⟨rfl, rfl⟩)
        | (go_at_call 13; with_reducible refine (HA.out _ ok.tab).mono ?_; rintro e w' ⟨rfl, rfl⟩)
        | (go_at_call 13; with_reducible refine (HB.out _ ok.tab).mono ?_; rintro e w' ⟨rfl, rfl⟩))
      go_ret
      exact ⟨ret_b (by simp), hb⟩
    · have hhi : 1199 < M + (p - 1199) := by omega
      clear hr
      go_enter Tryd.func7, Tryd.ntmps7
      go_wp2_with (first
        | (go_at_call 9; with_reducible refine (head_any _ ok).mono ?_; rintro e w1 ⟨rfl, hn⟩; replace hb := block_then hb hn; replace ok := ok.below hn; clear hn)
        | (go_at_call 10; with_reducible refine (HP.out _).mono ?_; rintro e w' ⟨rfl, rfl⟩)
        | (go_at_call 10; with_reducible refine (HP2.out _).mono ?_; rintro e w' ⟨rfl, rfl⟩)
        | (go_at_call 10; with_reducible refine (HP3.out _).mono ?_; rintro e w' ⟨rfl, rfl⟩)
        | (go_at_call 17; with_reducible refine (HM.out _ ok.tab).mono ?_; rintro e w' ⟨rfl, rfl⟩)
        | (go_at_call 13; with_reducible refine (HA.out _ ok.tab).mono ?_; rintro e w' ⟨rfl, rfl⟩)
        | (go_at_call 13; with_reducible refine (HB.out _ ok.tab).mono ?_; rintro e w' ⟨rfl, rfl⟩))
      go_ret
      exact ⟨ret_b (by simp), hb⟩
  · have hMi : ∀ w, HasTab w → Calls Tryd.prog 17 #[.int .i64 i] w fun e w' => e = .returned (.int .i64 (mo n + (p - 1199))) ∧ w = w' := by
      rw [← i4]; exact fun w h => month_in i w i2 i3 h
    have hDi := fun w h => date_in i w i2 i3 h
    have HMi := Lib.hid hMi
    have HL := Lib.hid (fun w h => length_in (mo n + (p - 1199)) w i0 i1 h)
    have hl := len_bd (mo n + (p - 1199))
    clear hMi
    rw [i4] at hDi
    by_cases hmn : dm n + 1 ≤ len (mo n + (p - 1199))
    · rw [show dm i = dm n by omega] at hDi
      have t5 : (dm n + 1 == min (dm n + 1) (len (mo n + (p - 1199)))) = true := by simp; omega
      have HDi := Lib.hid hDi
      clear hDi i4 i5
      generalize mo n = M at *
      generalize dm n = D at *
      rcases hg with rfl | rfl
      · clear hup hdn
        go_enter Tryd.func7, Tryd.ntmps7
        go_wp2_with (first
          | (go_at_call 9; with_reducible refine (head_any _ ok).mono ?_; rintro e w1 ⟨rfl, hn⟩; replace hb := block_then hb hn; replace ok := ok.below hn; clear hn)
          | (go_at_call 10; with_reducible refine (HP.out _).mono ?_; rintro e w' ⟨rfl, rfl⟩)
          | (go_at_call 10; with_reducible refine (HP2.out _).mono ?_; rintro e w' ⟨rfl, rfl⟩)
          | (go_at_call 10; with_reducible refine (HP3.out _).mono ?_; rintro e w' ⟨rfl, rfl⟩)
          | (go_at_call 17; with_reducible refine (HM.out _ ok.tab).mono ?_; rintro e w' ⟨rfl, rfl⟩)
          | (go_at_call 13; with_reducible refine (HA.out _ ok.tab).mono ?_; rintro e w' ⟨rfl, rfl⟩)
          | (go_at_call 13; with_reducible refine (HB.out _ ok.tab).mono ?_; rintro e w' ⟨rfl, rfl⟩)
          | (go_at_call 11; with_reducible refine (HD.out _ ok.tab).mono ?_; rintro e w' ⟨rfl, rfl⟩)
          | (go_at_call 11; with_reducible refine (HDi.out _ ok.tab).mono ?_; rintro e w' ⟨rfl, rfl⟩)
          | (go_at_call 17; with_reducible refine (HMi.out _ ok.tab).mono ?_; rintro e w' ⟨rfl, rfl⟩)
          | (go_at_call 23; with_reducible refine (HL.out _ ok.tab).mono ?_; rintro e w' ⟨rfl, rfl⟩))
        go_ret
        exact ⟨ret_b (by simp), hb⟩
      · replace hup := hup rfl rfl
        replace hdn := hdn rfl rfl
        by_cases hlt : n < k
        · have hij : i ≤ j := hup (by omega)
          clear hup hdn
          go_enter Tryd.func7, Tryd.ntmps7
          go_wp2_with (first
            | (go_at_call 9; with_reducible refine (head_any _ ok).mono ?_; rintro e w1 ⟨rfl, hn⟩; replace hb := block_then hb hn; replace ok := ok.below hn; clear hn)
            | (go_at_call 10; with_reducible refine (HP.out _).mono ?_; rintro e w' ⟨rfl, rfl⟩)
            | (go_at_call 10; with_reducible refine (HP2.out _).mono ?_; rintro e w' ⟨rfl, rfl⟩)
            | (go_at_call 10; with_reducible refine (HP3.out _).mono ?_; rintro e w' ⟨rfl, rfl⟩)
            | (go_at_call 17; with_reducible refine (HM.out _ ok.tab).mono ?_; rintro e w' ⟨rfl, rfl⟩)
            | (go_at_call 13; with_reducible refine (HA.out _ ok.tab).mono ?_; rintro e w' ⟨rfl, rfl⟩)
            | (go_at_call 13; with_reducible refine (HB.out _ ok.tab).mono ?_; rintro e w' ⟨rfl, rfl⟩)
            | (go_at_call 11; with_reducible refine (HD.out _ ok.tab).mono ?_; rintro e w' ⟨rfl, rfl⟩)
            | (go_at_call 11; with_reducible refine (HDi.out _ ok.tab).mono ?_; rintro e w' ⟨rfl, rfl⟩)
            | (go_at_call 17; with_reducible refine (HMi.out _ ok.tab).mono ?_; rintro e w' ⟨rfl, rfl⟩)
            | (go_at_call 23; with_reducible refine (HL.out _ ok.tab).mono ?_; rintro e w' ⟨rfl, rfl⟩))
          go_ret
          exact ⟨ret_b (by simp), hb⟩
        · by_cases hgt : k < n
          · have hij : j ≤ i := hdn (by omega)
            clear hup hdn
            go_enter Tryd.func7, Tryd.ntmps7
            go_wp2_with (first
              | (go_at_call 9; with_reducible refine (head_any _ ok).mono ?_; rintro e w1 ⟨rfl, hn⟩; replace hb := block_then hb hn; replace ok := ok.below hn; clear hn)
              | (go_at_call 10; with_reducible refine (HP.out _).mono ?_; rintro e w' ⟨rfl, rfl⟩)
              | (go_at_call 10; with_reducible refine (HP2.out _).mono ?_; rintro e w' ⟨rfl, rfl⟩)
              | (go_at_call 10; with_reducible refine (HP3.out _).mono ?_; rintro e w' ⟨rfl, rfl⟩)
              | (go_at_call 17; with_reducible refine (HM.out _ ok.tab).mono ?_; rintro e w' ⟨rfl, rfl⟩)
              | (go_at_call 13; with_reducible refine (HA.out _ ok.tab).mono ?_; rintro e w' ⟨rfl, rfl⟩)
              | (go_at_call 13; with_reducible refine (HB.out _ ok.tab).mono ?_; rintro e w' ⟨rfl, rfl⟩)
              | (go_at_call 11; with_reducible refine (HD.out _ ok.tab).mono ?_; rintro e w' ⟨rfl, rfl⟩)
              | (go_at_call 11; with_reducible refine (HDi.out _ ok.tab).mono ?_; rintro e w' ⟨rfl, rfl⟩)
              | (go_at_call 17; with_reducible refine (HMi.out _ ok.tab).mono ?_; rintro e w' ⟨rfl, rfl⟩)
              | (go_at_call 23; with_reducible refine (HL.out _ ok.tab).mono ?_; rintro e w' ⟨rfl, rfl⟩))
            go_ret
            exact ⟨ret_b (by simp), hb⟩
          · have hij : i ≤ j := hup (by omega)
            have hji : j ≤ i := hdn (by omega)
            clear hup hdn
            go_enter Tryd.func7, Tryd.ntmps7
            go_wp2_with (first
              | (go_at_call 9; with_reducible refine (head_any _ ok).mono ?_; rintro e w1 ⟨rfl, hn⟩; replace hb := block_then hb hn; replace ok := ok.below hn; clear hn)
              | (go_at_call 10; with_reducible refine (HP.out _).mono ?_; rintro e w' ⟨rfl, rfl⟩)
              | (go_at_call 10; with_reducible refine (HP2.out _).mono ?_; rintro e w' ⟨rfl, rfl⟩)
              | (go_at_call 10; with_reducible refine (HP3.out _).mono ?_; rintro e w' ⟨rfl, rfl⟩)
              | (go_at_call 17; with_reducible refine (HM.out _ ok.tab).mono ?_; rintro e w' ⟨rfl, rfl⟩)
              | (go_at_call 13; with_reducible refine (HA.out _ ok.tab).mono ?_; rintro e w' ⟨rfl, rfl⟩)
              | (go_at_call 13; with_reducible refine (HB.out _ ok.tab).mono ?_; rintro e w' ⟨rfl, rfl⟩)
              | (go_at_call 11; with_reducible refine (HD.out _ ok.tab).mono ?_; rintro e w' ⟨rfl, rfl⟩)
              | (go_at_call 11; with_reducible refine (HDi.out _ ok.tab).mono ?_; rintro e w' ⟨rfl, rfl⟩)
              | (go_at_call 17; with_reducible refine (HMi.out _ ok.tab).mono ?_; rintro e w' ⟨rfl, rfl⟩)
              | (go_at_call 23; with_reducible refine (HL.out _ ok.tab).mono ?_; rintro e w' ⟨rfl, rfl⟩))
            go_ret
            exact ⟨ret_b (by simp), hb⟩
    · rw [show dm i = len (mo n + (p - 1199)) - 1 by omega] at hDi
      have t5 : (len (mo n + (p - 1199)) - 1 + 1 == min (dm n + 1) (len (mo n + (p - 1199)))) = true := by simp; omega
      have t6 : (len (mo n + (p - 1199)) == min (dm n + 1) (len (mo n + (p - 1199)))) = true := by simp; omega
      have HDi := Lib.hid hDi
      clear hDi i4 i5
      generalize mo n = M at *
      generalize dm n = D at *
      rcases hg with rfl | rfl
      · clear hup hdn
        go_enter Tryd.func7, Tryd.ntmps7
        go_wp2_with (first
          | (go_at_call 9; with_reducible refine (head_any _ ok).mono ?_; rintro e w1 ⟨rfl, hn⟩; replace hb := block_then hb hn; replace ok := ok.below hn; clear hn)
          | (go_at_call 10; with_reducible refine (HP.out _).mono ?_; rintro e w' ⟨rfl, rfl⟩)
          | (go_at_call 10; with_reducible refine (HP2.out _).mono ?_; rintro e w' ⟨rfl, rfl⟩)
          | (go_at_call 10; with_reducible refine (HP3.out _).mono ?_; rintro e w' ⟨rfl, rfl⟩)
          | (go_at_call 17; with_reducible refine (HM.out _ ok.tab).mono ?_; rintro e w' ⟨rfl, rfl⟩)
          | (go_at_call 13; with_reducible refine (HA.out _ ok.tab).mono ?_; rintro e w' ⟨rfl, rfl⟩)
          | (go_at_call 13; with_reducible refine (HB.out _ ok.tab).mono ?_; rintro e w' ⟨rfl, rfl⟩)
          | (go_at_call 11; with_reducible refine (HD.out _ ok.tab).mono ?_; rintro e w' ⟨rfl, rfl⟩)
          | (go_at_call 11; with_reducible refine (HDi.out _ ok.tab).mono ?_; rintro e w' ⟨rfl, rfl⟩)
          | (go_at_call 17; with_reducible refine (HMi.out _ ok.tab).mono ?_; rintro e w' ⟨rfl, rfl⟩)
          | (go_at_call 23; with_reducible refine (HL.out _ ok.tab).mono ?_; rintro e w' ⟨rfl, rfl⟩))
        go_ret
        exact ⟨ret_b (by simp), hb⟩
      · replace hup := hup rfl rfl
        replace hdn := hdn rfl rfl
        by_cases hlt : n < k
        · have hij : i ≤ j := hup (by omega)
          clear hup hdn
          go_enter Tryd.func7, Tryd.ntmps7
          go_wp2_with (first
            | (go_at_call 9; with_reducible refine (head_any _ ok).mono ?_; rintro e w1 ⟨rfl, hn⟩; replace hb := block_then hb hn; replace ok := ok.below hn; clear hn)
            | (go_at_call 10; with_reducible refine (HP.out _).mono ?_; rintro e w' ⟨rfl, rfl⟩)
            | (go_at_call 10; with_reducible refine (HP2.out _).mono ?_; rintro e w' ⟨rfl, rfl⟩)
            | (go_at_call 10; with_reducible refine (HP3.out _).mono ?_; rintro e w' ⟨rfl, rfl⟩)
            | (go_at_call 17; with_reducible refine (HM.out _ ok.tab).mono ?_; rintro e w' ⟨rfl, rfl⟩)
            | (go_at_call 13; with_reducible refine (HA.out _ ok.tab).mono ?_; rintro e w' ⟨rfl, rfl⟩)
            | (go_at_call 13; with_reducible refine (HB.out _ ok.tab).mono ?_; rintro e w' ⟨rfl, rfl⟩)
            | (go_at_call 11; with_reducible refine (HD.out _ ok.tab).mono ?_; rintro e w' ⟨rfl, rfl⟩)
            | (go_at_call 11; with_reducible refine (HDi.out _ ok.tab).mono ?_; rintro e w' ⟨rfl, rfl⟩)
            | (go_at_call 17; with_reducible refine (HMi.out _ ok.tab).mono ?_; rintro e w' ⟨rfl, rfl⟩)
            | (go_at_call 23; with_reducible refine (HL.out _ ok.tab).mono ?_; rintro e w' ⟨rfl, rfl⟩))
          go_ret
          exact ⟨ret_b (by simp), hb⟩
        · by_cases hgt : k < n
          · have hij : j ≤ i := hdn (by omega)
            clear hup hdn
            go_enter Tryd.func7, Tryd.ntmps7
            go_wp2_with (first
              | (go_at_call 9; with_reducible refine (head_any _ ok).mono ?_; rintro e w1 ⟨rfl, hn⟩; replace hb := block_then hb hn; replace ok := ok.below hn; clear hn)
              | (go_at_call 10; with_reducible refine (HP.out _).mono ?_; rintro e w' ⟨rfl, rfl⟩)
              | (go_at_call 10; with_reducible refine (HP2.out _).mono ?_; rintro e w' ⟨rfl, rfl⟩)
              | (go_at_call 10; with_reducible refine (HP3.out _).mono ?_; rintro e w' ⟨rfl, rfl⟩)
              | (go_at_call 17; with_reducible refine (HM.out _ ok.tab).mono ?_; rintro e w' ⟨rfl, rfl⟩)
              | (go_at_call 13; with_reducible refine (HA.out _ ok.tab).mono ?_; rintro e w' ⟨rfl, rfl⟩)
              | (go_at_call 13; with_reducible refine (HB.out _ ok.tab).mono ?_; rintro e w' ⟨rfl, rfl⟩)
              | (go_at_call 11; with_reducible refine (HD.out _ ok.tab).mono ?_; rintro e w' ⟨rfl, rfl⟩)
              | (go_at_call 11; with_reducible refine (HDi.out _ ok.tab).mono ?_; rintro e w' ⟨rfl, rfl⟩)
              | (go_at_call 17; with_reducible refine (HMi.out _ ok.tab).mono ?_; rintro e w' ⟨rfl, rfl⟩)
              | (go_at_call 23; with_reducible refine (HL.out _ ok.tab).mono ?_; rintro e w' ⟨rfl, rfl⟩))
            go_ret
            exact ⟨ret_b (by simp), hb⟩
          · have hij : i ≤ j := hup (by omega)
            have hji : j ≤ i := hdn (by omega)
            clear hup hdn
            go_enter Tryd.func7, Tryd.ntmps7
            go_wp2_with (first
              | (go_at_call 9; with_reducible refine (head_any _ ok).mono ?_; rintro e w1 ⟨rfl, hn⟩; replace hb := block_then hb hn; replace ok := ok.below hn; clear hn)
              | (go_at_call 10; with_reducible refine (HP.out _).mono ?_; rintro e w' ⟨rfl, rfl⟩)
              | (go_at_call 10; with_reducible refine (HP2.out _).mono ?_; rintro e w' ⟨rfl, rfl⟩)
              | (go_at_call 10; with_reducible refine (HP3.out _).mono ?_; rintro e w' ⟨rfl, rfl⟩)
              | (go_at_call 17; with_reducible refine (HM.out _ ok.tab).mono ?_; rintro e w' ⟨rfl, rfl⟩)
              | (go_at_call 13; with_reducible refine (HA.out _ ok.tab).mono ?_; rintro e w' ⟨rfl, rfl⟩)
              | (go_at_call 13; with_reducible refine (HB.out _ ok.tab).mono ?_; rintro e w' ⟨rfl, rfl⟩)
              | (go_at_call 11; with_reducible refine (HD.out _ ok.tab).mono ?_; rintro e w' ⟨rfl, rfl⟩)
              | (go_at_call 11; with_reducible refine (HDi.out _ ok.tab).mono ?_; rintro e w' ⟨rfl, rfl⟩)
              | (go_at_call 17; with_reducible refine (HMi.out _ ok.tab).mono ?_; rintro e w' ⟨rfl, rfl⟩)
              | (go_at_call 23; with_reducible refine (HL.out _ ok.tab).mono ?_; rintro e w' ⟨rfl, rfl⟩))
            go_ret
            exact ⟨ret_b (by simp), hb⟩
-- CARD
set_option maxRecDepth 100000 in
theorem later_lifted (os : Os) (started : os.Started) (H : Type) (enc : TypeId × Value → H) :
    ReturnsInHanded {} Tryd.checked os 7 .any (fun w args => (Rows.calendarLaterSpec.pre enc Tryd.prog Tryd.f7 [] false w args ∧ laidMetH Tryd.prog laid w) ∧ sizedMet enc Tryd.prog Tryd.f7 (OpenSpec.ofChange Rows.calendarLaterSpec) false w args)
      (Rows.calendarLaterSpec.post enc Tryd.prog Tryd.f7 false true false false) := by
  refine returnsInHanded_of_change_and (C := Tryd.checked) (X := fun w _ => laidMetH Tryd.prog laid w) (fun _ _ _ hh h => h.of_heap hh) own started (by kernel_rfl) Tryd.func7
    (ChangeSpec.witness_shaped (enc := enc) (C := Tryd.checked) (os := os) (X := fun w _ => laidMetH Tryd.prog laid w) false (World.laidAll Tryd.prog os laid) #[.int .i64 0, .int .i64 0, .int .i64 0] 8 (World.laidAll_os _ _ _)
      (World.shaped_of_ZipB (by kernel_rfl) (by kernel_rfl)) (by kernel_rfl) (by kernel_rfl) (by kernel_rfl) (met os _)) ?_
  intro W base args ds gs before hval0 hW _ _ hL _
  have hval : ∀ (j : Nat) t v, Tryd.f7.params[j]? = some t → args[j]? = some v → Value.okWide Tryd.prog W .any base t v := hval0
  have hW' := hW
  obtain ⟨p, q, hA0, hV, rfl, _, _⟩ := hW
  have hA : DataW.TrodAll enc Tryd.prog W 0 (fun _ => true) true Tryd.f7.params.toList args.toList ds p := hA0
  rw [Tryd.params7] at hA hval
  obtain ⟨v0, v1, v2, d0, d1, d2, p0, p1, p2, rfl, rfl, rfl, h0, h1, h2⟩ := trodAll_three hA
  obtain ⟨rfl, rfl⟩ := trodVars_none hV
  obtain ⟨x0, rfl, rfl, rfl, wx0⟩ := open_int Tryd.underlying3 (hval 0 3 v0 rfl rfl) h0
  have bx0 := bounds_i64 wx0
  obtain ⟨x1, rfl, rfl, rfl, wx1⟩ := open_int Tryd.underlying3 (hval 1 3 v1 rfl rfl) h1
  have bx1 := bounds_i64 wx1
  obtain ⟨x2, rfl, rfl, rfl, wx2⟩ := open_int Tryd.underlying3 (hval 2 3 v2 rfl rfl) h2
  have bx2 := bounds_i64 wx2
  simp only [List.append_nil] at hW'
  refine (later_walk x0 x1 x2 W bx0.1 bx0.2 bx1.1 bx1.2 bx2.1 bx2.2 (ok_of hL)).mono fun e W' ⟨he, hb⟩ => ?_
  subst he
  exact ⟨_, rfl, _, _, _, [], [], [], hW', trodAll_mk1 (shut_bool Tryd.underlying4 _), trodAll_mk3 (shut_int Tryd.underlying3 wx0) (shut_int Tryd.underlying3 wx1) (shut_int Tryd.underlying3 wx2), rfl, hb.frame _, fun h => by cases h⟩
theorem later_said : Rows.CalendarLaterSaid :=
  OpenClaim.holds_of_wide 7 Tryd.f7 rfl rfl rfl rfl rfl rfl rfl ⟨rfl, rfl, rfl, rfl, rfl⟩ rfl rfl rfl rfl rfl (by kernel_rfl) Tryd.func7 (by kernel_rfl)
    (of_decide_eq_true (by kernel_rfl)) (by unfold Func.isWrapper; first | (rw [if_pos (by decide +kernel)]; kernel_rfl) | (rw [if_neg (by decide +kernel)]; exact ⟨rfl, rfl⟩))
    (fun os started H enc _ => later_lifted os started H enc)
theorem later_plain (f : FuncId) (fn : Func) (hf : Tryd.pinned.checked.prog.funcNamed "wageoffice/wageofficelaw02.CalendarLater" = some f) (hfn : Tryd.pinned.checked.prog.funcs[f]? = some fn) :
    false = Tryd.pinned.checked.prog.looks [] ∧ ∀ (j : Nat) t, fn.params[j]? = some t → Tryd.pinned.checked.prog.wantsStandIn t = false := by
  obtain rfl : f = 7 := Option.some.inj ((show Tryd.prog.funcNamed "wageoffice/wageofficelaw02.CalendarLater" = some 7 by kernel_rfl).symm.trans hf) |>.symm
  obtain rfl : fn = Tryd.f7 := (Option.some.inj (Tryd.func7.symm.trans hfn)).symm
  refine ⟨by kernel_rfl, fun j t ht => ?_⟩
  rw [Tryd.params7] at ht
  obtain rfl : t = 3 := by simpa using Array.mem_of_getElem? ht
  exact (show Tryd.prog.wantsStandIn 3 = false by kernel_rfl)
theorem later_holds : Rows.CalendarLaterCardSaid :=
  Claim7.holds_tied_plain_at .later [] _ _ _ _ later_said (fun _ h => by cases h) (by kernel_rfl) (fun _ h => by cases h) calendarLater_row_tie rfl ⟨rfl, rfl⟩ (by kernel_rfl) rfl later_plain (by kernel_rfl)
end Go.Proofs.YtckmilhdnljjkaaDoor.Cal
