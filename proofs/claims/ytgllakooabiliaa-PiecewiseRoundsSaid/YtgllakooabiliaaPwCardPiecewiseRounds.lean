/- The walk of the law PiecewiseRounds: it returns true. Conditions: the numbers are Go's ints; the list lies in memory as the argument says. -/
import Derived.Test.YtgllakooabiliaaPwMade
import Derived.Test.YtgllakooabiliaaPwOpen
set_option linter.unusedVariables false
set_option linter.unusedSimpArgs false
namespace Go.Proofs.Ytgllakooabiliaa.Pw
open Go.RowKit Go.Proofs.Ytgllakooabiliaa.Sp
theorem Fine.vd {L : List Pc} (h : Fine L) {D : Int} (h1 : 1 ≤ D) (h2 : D ≤ 1000) : vdB D L = true := by
  unfold vdB
  rw [Bool.and_eq_true, decide_eq_true_eq, okB_iff]
  exact ⟨⟨h1, by omega, by have := h.len; omega⟩, h.ok⟩
theorem Fine.num {L : List Pc} (h : Fine L) {x : Int} (h0 : 0 ≤ x) (h1 : x ≤ 1000000000000) : -2001000000000000 ≤ num L x ∧ num L x ≤ 2001000000000000 := by
  obtain ⟨a, b, -⟩ := pick_spec h.ok h0
  have c := from_nonneg h.ok a
  obtain ⟨d1, d2⟩ := h.at_ _ a
  obtain ⟨e1, e2⟩ := h.sl _ a
  unfold Pw.num
  have k0 : 0 ≤ x - (pick L x).1 := by omega
  have k1 : x - (pick L x).1 ≤ 1000000000000 := by omega
  have m1 : (pick L x).2.2 * (x - (pick L x).1) ≤ 2000 * 1000000000000 := by
    have := Int.mul_le_mul_of_nonneg_right e2 k0
    have := Int.mul_le_mul_of_nonneg_left k1 (show (0 : Int) ≤ 2000 by decide)
    omega
  have m2 : -(2000 * 1000000000000) ≤ (pick L x).2.2 * (x - (pick L x).1) := by
    have := Int.mul_le_mul_of_nonneg_right e1 k0
    have := Int.mul_le_mul_of_nonneg_left k1 (show (0 : Int) ≤ 2000 by decide)
    have e : -2000 * (x - (pick L x).1) = -(2000 * (x - (pick L x).1)) := by rw [Int.neg_mul]
    omega
  omega
/-- The three ways of rounding, together. -/
theorem rnd_three {n d A B K : Int} (hd : 0 < d) (hA : A = rnd n d 0) (hB : B = rnd n d 1) (hK : K = rnd n d 2) :
    (A * d ≤ n ∧ n < A * d + d) ∧ (2 * (B * d) - 2 * n ≤ d ∧ 2 * n - 2 * (B * d) ≤ d) ∧ (2 * (K * d) - 2 * n ≤ d ∧ 2 * n - 2 * (K * d) ≤ d) ∧
      (2 * (n - A * d) = d → K % 2 = 0 ∧ (0 < n ∧ B = A + 1 ∨ n < 0 ∧ B = A)) ∧ (2 * (n - A * d) ≠ d → B = K) := by
  have h1 := rnd_down (n := n) hd
  have h2 := rnd_half (n := n) (m := 1) hd (by decide)
  have h3 := rnd_half (n := n) (m := 2) hd (by decide)
  rw [← hA, Int.add_mul, Int.one_mul] at h1
  rw [← hB] at h2
  rw [← hK] at h3
  have e : A = n / d := by
    rw [hA]; unfold rnd
    rw [if_neg (fun h => by rcases h with ⟨h, -⟩ | ⟨-, h | h⟩ <;> omega), Int.add_zero]
  have em : n - A * d = n % d := by
    have := Int.mul_ediv_add_emod n d
    rw [e, Int.mul_comm]; omega
  refine ⟨h1, by omega, by omega, fun hh => ?_, fun hh => ?_⟩
  · rw [em] at hh
    have hlt : ¬ d - n % d < n % d := by omega
    have hmid : n % d = d - n % d := by omega
    have b1 : B = n / d + (if 0 < n then 1 else 0) := by
      rw [hB]; unfold rnd
      by_cases q : 0 < n
      · rw [if_pos (.inr ⟨hmid, .inl ⟨rfl, q⟩⟩), if_pos q]
      · rw [if_neg (fun h => by rcases h with ⟨-, h⟩ | ⟨-, h | h⟩ <;> omega), if_neg q]
    have b2 : K = n / d + (if (n / d) % 2 ≠ 0 then 1 else 0) := by
      rw [hK]; unfold rnd
      by_cases q : (n / d) % 2 ≠ 0
      · rw [if_pos (.inr ⟨hmid, .inr ⟨rfl, q⟩⟩), if_pos q]
      · rw [if_neg (fun h => by rcases h with ⟨-, h⟩ | ⟨-, h | h⟩ <;> omega), if_neg q]
    have hn0 : n ≠ 0 := fun q => by rw [q, Int.zero_emod] at hh; omega
    refine ⟨?_, ?_⟩
    · rw [b2]; split <;> omega
    · rw [b1, e]; split <;> omega
  · rw [em] at hh
    apply Classical.byContradiction
    intro hne
    exact hh (rnd_differ (by rw [← hB, ← hK]; exact hne))
theorem rnd_big {n d m : Int} (hd : 0 < d) (h : ¬ rin (rnd n d m)) : 999999999999 * d < n ∨ n < -999999999999 * d := by
  have h1 := rnd_le n d m
  have h2 := Int.mul_ediv_add_emod n d
  have h3 := Int.emod_nonneg n (show d ≠ 0 by omega)
  have h4 := Int.emod_lt_of_pos n hd
  by_cases q : 1000000000000 < rnd n d m
  · have m1 := Int.mul_le_mul_of_nonneg_left (show 1000000000000 ≤ n / d by omega) (show 0 ≤ d by omega)
    omega
  · have m1 := Int.mul_le_mul_of_nonneg_left (show n / d ≤ -1000000000001 by unfold rin at h; omega) (show 0 ≤ d by omega)
    omega
/-- What the loop keeps: the function, the two arguments. -/
structure RndI (w : World) (x0 y0 : Nat) (D : Int) (a : Option Addr) (L : List Pc) (c : Nat) (C0 C1 : Int) (W : World) : Prop where
  f0 : W.cell? ⟨x0, 0, none⟩ = some (.int .i64 D)
  f1 : W.cell? ⟨x0, 1, none⟩ = some (.slice a L.length c)
  p : PcsAt a L W
  c0 : W.cell? ⟨y0, 0, none⟩ = some (.int .i64 C0)
  c1 : W.cell? ⟨y0, 1, none⟩ = some (.int .i64 C1)
  hb : Below w.heap.size w W
theorem RndI.below {w : World} {x0 y0 : Nat} {D : Int} {a : Option Addr} {L : List Pc} {c : Nat} {C0 C1 : Int} {W W' : World} (h : RndI w x0 y0 D a L c C0 C1 W) (k : Below W.heap.size W W') : RndI w x0 y0 D a L c C0 C1 W' :=
  ⟨Sp.cell_kept k h.f0, Sp.cell_kept k h.f1, h.p.below k, Sp.cell_kept k h.c0, Sp.cell_kept k h.c1, h.hb.trans (k.mono h.hb.size)⟩
theorem RndI.new {w W : World} {D : Int} {a : Option Addr} {L : List Pc} {c : Nat} {C0 C1 : Int} {t : TypeId} (hp : PcsAt a L W) (hb : Below w.heap.size w W) :
    RndI w W.heap.size (W.heap.size + 1) D a L c C0 C1 ((W.alloc (fb D a L.length c)).alloc (.cells #[.int .i64 C0, .int .i64 C1] t)) := by
  have k1 := Sp.alloc_below W (fb D a L.length c)
  have k2 := Sp.alloc_below (W.alloc (fb D a L.length c)) (.cells #[.int .i64 C0, .int .i64 C1] t)
  have hs : (W.alloc (fb D a L.length c)).heap.size = W.heap.size + 1 := by simp
  have q := fb_cells_m W D a L.length c
  refine ⟨Sp.cell_kept k2 q.1, Sp.cell_kept k2 q.2.1, (hp.below k1).below k2, ?_, ?_, (hb.trans (k1.mono hb.size)).trans (k2.mono (by rw [hs]; have := hb.size; omega))⟩
  · rw [← hs]; simp [World.cell?_alloc_new]
  · rw [← hs]; simp [World.cell?_alloc_new]
theorem rd_in {d : Int} {l : List Pc} {x m : Int} (h : evOk d l x) (hm : m = 0 ∨ m = 1 ∨ m = 2) (hr : rin (rnd (num l x) d m)) : rdV d l x m = .tuple #[.int .i64 (rnd (num l x) d m), .int .i64 0] := by
  unfold rdV; rw [if_pos ⟨h, hm⟩, if_pos hr]
theorem rd_out {d : Int} {l : List Pc} {x m : Int} (h : evOk d l x) (hm : m = 0 ∨ m = 1 ∨ m = 2) (hr : ¬ rin (rnd (num l x) d m)) : rdV d l x m = .tuple #[.int .i64 0, .int .i64 3] := by
  unfold rdV; rw [if_pos ⟨h, hm⟩, if_neg hr]
set_option maxHeartbeats 16000000 in
set_option maxRecDepth 100000 in
theorem rounds_walk (den x : Int) (a0 : Option Addr) (k0 : Nat) (l : List Pc) (w : World) (hd : Rg den) (hx : Rg x) (hl : l.length ≤ 9223372036854775807) (hr : ∀ p ∈ l, Rg p.1 ∧ Rg p.2.1 ∧ Rg p.2.2) (z : PcsAt a0 l w) :
    Calls Try.prog 7 #[.slice a0 l.length k0, .int .i64 den, .int .i64 x] w fun r w' => r = .returned (.bool true) ∧ Below w.heap.size w w' := by
  have HH := Lib.hid (head_any w)
  have HMD := Lib.hid (fun w' (k : Below w.heap.size w w') => made_any den a0 k0 l w' hd hl hr (z.below k))
  have HP1 := Lib.hid (fun w => pick_any x 1000000000001 w hx (by decide) (by decide))
  have HP2 := Lib.hid (fun w => pick_any x 1000 w hx (by decide) (by decide))
  have hC0 := pk_bd (c := x) (n := 1000000000001) (by decide)
  have hC1 := pk_bd (c := x) (n := 1000) (by decide)
  have hD := pk_bd (c := den) (n := 1000) (by decide)
  generalize pk x 1000000000001 = C0 at *
  generalize pk x 1000 = C1 at *
  obtain ⟨D, hDD⟩ : ∃ D, D = 1 + pk den 1000 := ⟨_, rfl⟩
  rw [← hDD] at HMD
  have hDb : 1 ≤ D ∧ D ≤ 1000 := by omega
  have HCB := Lib.hid (show (0 ≤ C0 ∧ C0 ≤ 1000000000000) ∧ (0 ≤ C1 ∧ C1 ≤ 1000000000000) by omega)
  have HPE := Lib.hid (fun c w d x l a (z : PcsAt a l w) => peval_any d x a c l w z)
  have HPR := Lib.hid (fun c w d x m l a (z : PcsAt a l w) => pround_any d x m a c l w z)
  clear hd hx hl hr z hC0 hC1 hD hDD
  generalize l.length = n at *
  go_enter Try.func7, Try.ntmps7
  go_upto_region 3 with (first
    | (go_at_call 9; (with_reducible refine HH.out.mono ?_); rintro _ W1 ⟨rfl, hb⟩; have HB1 := Lib.hid hb; clear hb)
    | (go_at_call 10; (with_reducible refine (HMD.out _ HB1.out).mono ?_); rintro _ W2 ⟨a, c, L, rfl, hp, hf, -, -, hb⟩; have HB2 := Lib.hid (HB1.out.trans (hb.mono HB1.out.size)); have HP := Lib.hid hp; have HF := Lib.hid hf; clear hb hp hf))
  clear HMD HH
  go_upto_region 4 with (first
    | (go_at_call 17; (with_reducible refine (HP1.out _).mono ?_); rintro _ W3 ⟨rfl, hw3⟩; subst hw3)
    | (go_at_call 17; (with_reducible refine (HP2.out _).mono ?_); rintro _ W4 ⟨rfl, hw4⟩; subst hw4))
  clear HP1 HP2
  have HII := Lib.hid (RndI.new (D := D) (c := c) (C0 := C0) (C1 := C1) (t := 3) HP.out HB2.out)
  have HEV := Lib.hid (fun C (h : 0 ≤ C ∧ C ≤ 1000000000000) w' (z : PcsAt a L w') => (HPE.out c w' D C L a z).mono (fun r w'' (q : _ ∧ _) => (⟨q.1.trans (ev_pos ⟨HF.out.vd hDb.1 hDb.2, h.1, h.2⟩), q.2⟩ : r = .returned (.tuple #[.int .i64 (num L C), .int .i64 D, .int .i64 0]) ∧ Below w'.heap.size w' w'')))
  have HRD := Lib.hid (fun C m w' (z : PcsAt a L w') => HPR.out c w' D C m L a z)
  clear HP HB1 HB2 HPE HPR
  generalize (W2.alloc (.cells #[.int .i64 D, .slice a L.length c] _)).alloc (.cells #[.int .i64 C0, .int .i64 C1] _) = W4 at *
  generalize W2.heap.size + 1 = y0 at HII ⊢
  generalize W2.heap.size = x0 at HII ⊢
  go_loopg [7, 32] 2 (fun g s7 s32 wx => ∃ k : Nat, k + g = 2 ∧ s7 = .bool true ∧ s32 = .int .i64 k ∧ Hid (RndI w x0 y0 D a L c C0 C1 wx))
  case atStart => exact ⟨0, rfl, rfl, rfl, HII⟩
  case round =>
    clear HII
    obtain ⟨k, hk, rfl, rfl, HI⟩ := hrel
    cases gk with
    | zero =>
      obtain rfl : k = 2 := by omega
      go_wp2
      go_ret
      exact ⟨rfl, HI.out.hb⟩
    | succ g =>
      have hk0 : (0 : Int) ≤ (k : Int) := by omega
      have hk2 : (k : Int) < 2 := by omega
      have hwk : IntKind.i64.wrap ((k : Int) + 1) = (k : Int) + 1 := IntWalk.i64_in _ (by omega)
      obtain ⟨C, hcC, hC⟩ : ∃ C, wr.cell? ⟨y0, k, none⟩ = some (.int .i64 C) ∧ (0 ≤ C ∧ C ≤ 1000000000000) := by
        have e : k = 0 ∨ k = 1 := by omega
        rcases e with rfl | rfl
        · exact ⟨C0, HI.out.c0, HCB.out.1⟩
        · exact ⟨C1, HI.out.c1, HCB.out.2⟩
      have f0 := HI.out.f0
      have f1 := HI.out.f1
      have hok : evOk D L C := ⟨HF.out.vd hDb.1 hDb.2, hC.1, hC.2⟩
      have hNb := HF.out.num hC.1 hC.2
      have HE := Lib.hid (fun w' z => HEV.out C hC w' z)
      obtain ⟨N, hN⟩ : ∃ N, N = num L C := ⟨_, rfl⟩
      rw [← hN] at HE hNb
      have hd0 : 0 < D := by omega
      have hrv : ∀ m, (m = 0 ∨ m = 1 ∨ m = 2) → ∃ v e, rdV D L C m = .tuple #[.int .i64 v, .int .i64 e] ∧ ((e = 0 ∧ v = rnd N D m ∧ rin v) ∨ (e = 3 ∧ ¬ rin (rnd N D m))) := fun m hm => by
        by_cases q : rin (rnd N D m)
        · exact ⟨_, _, rd_in hok hm (by rw [← hN]; exact q), .inl ⟨rfl, by rw [← hN], by rw [← hN]; exact q⟩⟩
        · exact ⟨_, _, rd_out hok hm (by rw [← hN]; exact q), .inr ⟨rfl, q⟩⟩
      obtain ⟨A, e0, r0, d0⟩ := hrv 0 (.inl rfl)
      obtain ⟨B, e1, r1, d1⟩ := hrv 1 (.inr (.inl rfl))
      obtain ⟨K, e2, r2, d2⟩ := hrv 2 (.inr (.inr rfl))
      have R0 := Lib.hid (fun w' z => HRD.out C 0 w' z)
      have R1 := Lib.hid (fun w' z => HRD.out C 1 w' z)
      have R2 := Lib.hid (fun w' z => HRD.out C 2 w' z)
      rw [r0] at R0
      rw [r1] at R1
      rw [r2] at R2
      have hd1 : ¬ D < 1 := by omega
      have HDD := Lib.hid (And.intro d0 (And.intro d1 d2))
      have HNB := Lib.hid (And.intro hNb (And.intro hd0 hDb))
      clear hrv r0 r1 r2 d0 d1 d2 hok hN hNb hd0 hDb hC
      go_upto_region 12 with (first | (clear hcC; (go_at_call 22; ((with_reducible refine (HE.out _ HI.out.p).mono ?_); rintro _ wr ⟨rfl, kn⟩); replace HI := Lib.hid (HI.out.below kn); clear f0 f1; have f0 := HI.out.f0; have f1 := HI.out.f1; clear kn)) | (go_at_call 24; ((with_reducible refine (R0.out _ HI.out.p).mono ?_); rintro _ wr ⟨rfl, kn⟩); replace HI := Lib.hid (HI.out.below kn); clear f0 f1; have f0 := HI.out.f0; have f1 := HI.out.f1; clear kn) | (go_at_call 24; ((with_reducible refine (R1.out _ HI.out.p).mono ?_); rintro _ wr ⟨rfl, kn⟩); replace HI := Lib.hid (HI.out.below kn); clear f0 f1; have f0 := HI.out.f0; have f1 := HI.out.f1; clear kn) | (go_at_call 24; ((with_reducible refine (R2.out _ HI.out.p).mono ?_); rintro _ wr ⟨rfl, kn⟩); replace HI := Lib.hid (HI.out.below kn); clear f0 f1; have f0 := HI.out.f0; have f1 := HI.out.f1; clear kn))
      obtain ⟨hNb, hd0, hDb⟩ := HNB.out
      obtain ⟨d0, d1, d2⟩ := HDD.out
      clear HDD HNB HE R0 R1 R2
      by_cases hin : e0 = 0 ∧ e1 = 0 ∧ e2 = 0
      · obtain ⟨rfl, rfl, rfl⟩ := hin
        obtain ⟨-, hA, iA⟩ := d0.resolve_right (fun q => by omega)
        obtain ⟨-, hB, iB⟩ := d1.resolve_right (fun q => by omega)
        obtain ⟨-, hK, iK⟩ := d2.resolve_right (fun q => by omega)
        obtain ⟨t1, t2, t3, t4, t5⟩ := rnd_three hd0 hA hB hK
        unfold rin at iA iB iK
        clear d0 d1 d2
        obtain ⟨P, hP⟩ : ∃ P, A * D = P := ⟨_, rfl⟩
        have hQ : (A + 1) * D = P + D := by rw [Int.add_mul, Int.one_mul, hP]
        obtain ⟨RB, hRB⟩ : ∃ R, 2 * B * D = R := ⟨_, rfl⟩
        obtain ⟨RK, hRK⟩ : ∃ R, 2 * K * D = R := ⟨_, rfl⟩
        rw [show 2 * (B * D) = RB by rw [← hRB, Int.mul_assoc]] at t2
        rw [show 2 * (K * D) = RK by rw [← hRK, Int.mul_assoc]] at t3
        rw [hP] at t1 t4 t5
        obtain ⟨A1, hA1⟩ : ∃ a, A + 1 = a := ⟨_, rfl⟩
        rw [hA1] at hQ t4
        obtain ⟨Q, hQQ⟩ : ∃ q, P + D = q := ⟨_, rfl⟩
        rw [hQQ] at hQ t1
        obtain ⟨B2, hB2⟩ : ∃ b, 2 * B = b := ⟨_, rfl⟩
        rw [hB2] at hRB
        obtain ⟨K2, hK2⟩ : ∃ b, 2 * K = b := ⟨_, rfl⟩
        rw [hK2] at hRK
        obtain ⟨N2, hN2⟩ : ∃ b, 2 * N = b := ⟨_, rfl⟩
        rw [hN2] at t2 t3
        obtain ⟨X1, hX1⟩ : ∃ b, RB - N2 = b := ⟨_, rfl⟩
        obtain ⟨X2, hX2⟩ : ∃ b, N2 - RB = b := ⟨_, rfl⟩
        obtain ⟨X3, hX3⟩ : ∃ b, RK - N2 = b := ⟨_, rfl⟩
        obtain ⟨X4, hX4⟩ : ∃ b, N2 - RK = b := ⟨_, rfl⟩
        rw [hX1, hX2] at t2
        rw [hX3, hX4] at t3
        obtain ⟨U, hU⟩ : ∃ b, N - P = b := ⟨_, rfl⟩
        rw [hU] at t4 t5
        obtain ⟨U2, hU2⟩ : ∃ b, 2 * U = b := ⟨_, rfl⟩
        rw [hU2] at t4 t5
        have w1 : IntKind.i64.wrap (A * D) = P := by rw [hP]; exact IntWalk.i64_in _ (by omega)
        have w2 : IntKind.i64.wrap (A + 1) = A1 := by rw [hA1]; exact IntWalk.i64_in _ (by omega)
        have w3 : IntKind.i64.wrap (A1 * D) = Q := by rw [hQ]; exact IntWalk.i64_in _ (by omega)
        have w4 : IntKind.i64.wrap (2 * B) = B2 := by rw [hB2]; exact IntWalk.i64_in _ (by omega)
        have w5 : IntKind.i64.wrap (B2 * D) = RB := by rw [hRB]; exact IntWalk.i64_in _ (by omega)
        have w6 : IntKind.i64.wrap (2 * N) = N2 := by rw [hN2]; exact IntWalk.i64_in _ (by omega)
        have w7 : IntKind.i64.wrap (RB - N2) = X1 := by rw [hX1]; exact IntWalk.i64_in _ (by omega)
        have w8 : IntKind.i64.wrap (N2 - RB) = X2 := by rw [hX2]; exact IntWalk.i64_in _ (by omega)
        have w9 : IntKind.i64.wrap (2 * K) = K2 := by rw [hK2]; exact IntWalk.i64_in _ (by omega)
        have w10 : IntKind.i64.wrap (K2 * D) = RK := by rw [hRK]; exact IntWalk.i64_in _ (by omega)
        have w11 : IntKind.i64.wrap (RK - N2) = X3 := by rw [hX3]; exact IntWalk.i64_in _ (by omega)
        have w12 : IntKind.i64.wrap (N2 - RK) = X4 := by rw [hX4]; exact IntWalk.i64_in _ (by omega)
        have w13 : IntKind.i64.wrap (N - P) = U := by rw [hU]; exact IntWalk.i64_in _ (by omega)
        have w14 : IntKind.i64.wrap (2 * U) = U2 := by rw [hU2]; exact IntWalk.i64_in _ (by omega)
        have W2 := Lib.hid w2
        clear hP hRB hRK hA1 hQ hQQ hB2 hK2 hN2 hX1 hX2 hX3 hX4 hU hU2 iA iB iK hNb
        obtain ⟨p1, p2⟩ := t1
        obtain ⟨p3, p4⟩ := t2
        obtain ⟨p5, p6⟩ := t3
        clear hA hB hK hd0 hDb
        have htm := tmod_bd (n := K) (d := 2) (by decide)
        have T4 := Lib.hid t4
        have T5 := Lib.hid t5
        clear t4 t5
        obtain ⟨hb, b1⟩ : ∃ b, (U2 == D) = b := ⟨_, rfl⟩
        have B1 := Lib.hid b1
        go_upto_region 17 with (fail)
        clear b1 w1 w2 w3 w4 w5 w6 w7 w8 w9 w10 w11 w12 w13 w14 p1 p2 p3 p4 p5 p6
        cases hb
        · have hh : U2 ≠ D := beq_eq_false_iff_ne.1 B1.out
          have b2 : (B == K) = true := by rw [T5.out hh]; exact beq_self_eq_true _
          clear hh T4 T5 B1
          as_aux_lemma => (go_wp2; go_roundg g; (case measure => omega); (case rel => exact ⟨k + 1, by omega, rfl, by go_num, HI⟩))
        · have hh : U2 = D := beq_iff_eq.1 B1.out
          obtain ⟨hk2', hs⟩ := T4.out hh
          have b2 : (K.tmod 2 == 0) = true := by rw [beq_iff_eq]; exact Int.tmod_eq_zero_of_dvd (Int.dvd_of_emod_eq_zero hk2')
          clear hh hk2' T4 T5 B1
          have w2 : IntKind.i64.wrap (A + 1) = A1 := W2.out
          rcases hs with ⟨n1, n2⟩ | ⟨n1, n2⟩
          · have b3 : (B == A1) = true := by rw [n2]; exact beq_self_eq_true _
            clear n2
            as_aux_lemma => (go_wp2; go_roundg g; (case measure => omega); (case rel => exact ⟨k + 1, by omega, rfl, by go_num, HI⟩))
          · have b3 : (B == A) = true := by rw [n2]; exact beq_self_eq_true _
            have n3 : ¬ 0 < N := by omega
            clear n2
            as_aux_lemma => (go_wp2; go_roundg g; (case measure => omega); (case rel => exact ⟨k + 1, by omega, rfl, by go_num, HI⟩))
      · have hbig : 999999999999 * D < N ∨ N < -999999999999 * D := by
          rcases d0 with ⟨q0, -⟩ | ⟨-, q⟩
          · rcases d1 with ⟨q1, -⟩ | ⟨-, q⟩
            · rcases d2 with ⟨q2, -⟩ | ⟨-, q⟩
              · exact absurd ⟨q0, q1, q2⟩ hin
              · exact rnd_big hd0 q
            · exact rnd_big hd0 q
          · exact rnd_big hd0 q
        obtain ⟨P1, hP1⟩ : ∃ p, 999999999999 * D = p := ⟨_, rfl⟩
        obtain ⟨P2, hP2⟩ : ∃ p, -999999999999 * D = p := ⟨_, rfl⟩
        rw [hP1, hP2] at hbig
        have w1 : IntKind.i64.wrap (999999999999 * D) = P1 := by rw [hP1]; exact IntWalk.i64_in _ (by omega)
        have w2 : IntKind.i64.wrap (-999999999999 * D) = P2 := by rw [hP2]; exact IntWalk.i64_in _ (by omega)
        have HBIG : Hid (P1 < N ∨ (¬ P1 < N ∧ N < P2)) := by
          rcases hbig with q | q
          · exact .inl q
          · exact .inr ⟨by omega, q⟩
        have HE3 : Hid ((e0 = 3 ∨ (e0 = 0 ∧ e1 = 3) ∨ (e0 = 0 ∧ e1 = 0 ∧ e2 = 3)) ∧ (e0 = 0 ∨ e0 = 3) ∧ (e1 = 0 ∨ e1 = 3) ∧ (e2 = 0 ∨ e2 = 3)) := by
          show _ ∧ _
          have q0 := d0.imp And.left And.left
          have q1 := d1.imp And.left And.left
          have q2 := d2.imp And.left And.left
          refine ⟨?_, q0, q1, q2⟩
          rcases q0 with q0 | q0
          · rcases q1 with q1 | q1
            · rcases q2 with q2 | q2
              · exact absurd ⟨q0, q1, q2⟩ hin
              · exact .inr (.inr ⟨q0, q1, q2⟩)
            · exact .inr (.inl ⟨q0, q1⟩)
          · exact .inl q0
        clear hbig hP1 hP2 hin hNb hd0 hDb d0 d1 d2
        go_cut [32, 76] from 32 to 220 (fun s32 s76 wx => s32 = .int .i64 k ∧ s76 = .bool true ∧ wx = wr)
        case first =>
          have h3 := HE3.out.1
          clear w1 w2
          rcases h3 with rfl | ⟨rfl, rfl⟩ | ⟨rfl, rfl, rfl⟩ <;> (go_wp2_with fail; go_meet; exact ⟨rfl, rfl, rfl⟩)
        case rest =>
          obtain ⟨rfl, rfl, rfl⟩ := hcut
          go_upto_region 13 with (fail)
          go_cut [32, 20] from 32 to 220 (fun s32 s20 wx => s32 = .int .i64 k ∧ s20 = .bool true ∧ wx = wc)
          case first =>
            rcases HBIG.out with q1 | ⟨q1, q2⟩ <;> (go_wp2_with fail; go_meet; exact ⟨rfl, rfl, rfl⟩)
          case rest =>
            obtain ⟨rfl, rfl, hwc⟩ := hcut
            subst hwc
            clear w1 w2
            obtain ⟨-, d0, d1, d2⟩ := HE3.out
            clear HE3 HBIG
            rcases d0 with rfl | rfl <;> rcases d1 with rfl | rfl <;> rcases d2 with rfl | rfl
            all_goals (as_aux_lemma => (go_wp2; go_roundg g; (case measure => omega); (case rel => exact ⟨k + 1, by omega, rfl, by go_num, HI⟩)))
end Go.Proofs.Ytgllakooabiliaa.Pw
namespace Go.Proofs.Ytgllakooabiliaa.Pw
open Go.ChangeShapes Go.WideShapes Go.ChangeAt Go.RowKit Go.Proofs.Ytgllakooabiliaa.Sp
set_option maxRecDepth 100000 in
theorem rounds_lifted (os : Os) (started : os.Started) (H : Type) (enc : TypeId × Value → H) :
    ReturnsInHanded {} Try.checked os 7 .any (Rows.piecewiseRoundsSpec.pre6 enc Try.prog Try.f7 Rows.piecewiseRoundsRow.domain false) (Rows.piecewiseRoundsSpec.post enc Try.prog Try.f7 false true false false) := by
  refine returnsInHanded_of_change (C := Try.checked) Sp.own started (by kernel_rfl) Try.func7
    (ChangeSpec.witness6 (enc := enc) (C := Try.checked) false ⟨#[], #[.slice none 0 0, .int .i64 0, .int .i64 0], []⟩ 8 (by kernel_rfl) (by kernel_rfl) (by kernel_rfl) (by kernel_rfl)) ?_
  intro W base args ds gs before hval0 hW hcnd _
  have hval : ∀ (j : Nat) t v, Try.f7.params[j]? = some t → args[j]? = some v → Value.okWide Try.prog W .any base t v := hval0
  have hW' := hW
  have hlt := hW.lt
  obtain ⟨p, q, hA0, hV, rfl, hfz, hnd⟩ := hW
  have hA : DataW.TrodAll enc Try.prog W 0 (fun _ => true) true Try.f7.params.toList args.toList ds p := hA0
  have hkeep := fun W' (hb : Below W.heap.size W W') => trodAll_below Sp.laidOut hb (by rw [Try.params7]; intro t ht; simp only [List.mem_cons, List.not_mem_nil, or_false] at ht; rcases ht with rfl | rfl | rfl <;> exact ⟨by kernel_rfl, of_decide_eq_true (by kernel_rfl)⟩) hA (fun x hx => hlt x (List.mem_append_left _ hx))
  rw [Try.params7] at hA hval
  obtain ⟨v0, vs0, d0, ds0, p0, q0, hargs, rfl, rfl, h0, r0⟩ := trodAll_cons hA
  obtain ⟨v1, vs1, d1, ds1, p1, q1, rfl, rfl, rfl, h1, r1⟩ := trodAll_cons r0
  obtain ⟨v2, vs2, d2, ds2, p2, q2, rfl, rfl, rfl, h2, r2⟩ := trodAll_cons r1
  obtain ⟨rfl, rfl, rfl⟩ := trodAll_nil r2
  obtain rfl : args = #[v0, v1, v2] := by cases args; simp_all
  obtain ⟨rfl, rfl⟩ := trodVars_none hV
  obtain ⟨a0, c0, x0, rfl, z0⟩ := open_pcs (hval 0 25 v0 rfl rfl) h0
  obtain ⟨y1, rfl, rfl, rfl, w1⟩ := open_int Try.underlying3 (hval 1 3 v1 rfl rfl) h1
  obtain ⟨y2, rfl, rfl, rfl, w2⟩ := open_int Try.underlying3 (hval 2 3 v2 rfl rfl) h2
  clear hA0 hval0
  simp only [List.append_nil] at hW'
  refine (rounds_walk y1 y2 a0 c0 x0 W (bounds_i64 w1) (bounds_i64 w2) (Nat.le_trans z0.len (by decide)) z0.rg z0.at_).mono fun e W' ⟨he, hg⟩ => ?_
  subst he
  exact ⟨_, rfl, _, _, _, [], _, [], hW', trodAll_mk1 (shut_bool Try.underlying4 _), hkeep W' hg, rfl, hg.frame _, fun h => by cases h⟩
theorem rounds_said : Rows.PiecewiseRoundsSaid :=
  OpenClaim.holds_of_wide 7 Try.f7 rfl rfl rfl rfl rfl rfl rfl ⟨rfl, rfl, rfl, rfl, rfl⟩ rfl rfl rfl rfl rfl (by kernel_rfl) Try.func7 (by kernel_rfl)
    (of_decide_eq_true (by kernel_rfl)) (by unfold Func.isWrapper; first | (rw [if_pos (by decide +kernel)]; kernel_rfl) | (rw [if_neg (by decide +kernel)]; exact ⟨rfl, rfl⟩))
    (fun os started H enc _ => rounds_lifted os started H enc)
end Go.Proofs.Ytgllakooabiliaa.Pw
