/- The walk of the law PiecewiseWhere: it returns true. Conditions: the numbers are Go's ints; the list lies in memory as the argument says. -/
import Derived.Test.YtgllakooabiliaaPwArgs
import Derived.Test.YtgllakooabiliaaPwOwn15
import Derived.Deep.CutRange
import Derived.Test.YtgllakooabiliaaPwOpen
set_option linter.unusedVariables false
set_option linter.unusedSimpArgs false
namespace Go.Proofs.Ytgllakooabiliaa.Pw
open Go.RowKit Go.Proofs.Ytgllakooabiliaa.Sp
theorem Fine.vd {L : List Pc} (h : Fine L) {D : Int} (h1 : 1 ≤ D) (h2 : D ≤ 1000) : vdB D L = true := by
  unfold vdB
  rw [Bool.and_eq_true, decide_eq_true_eq, okB_iff]
  exact ⟨⟨h1, by omega, by have := h.len; omega⟩, h.ok⟩
theorem Fine.num {L : List Pc} (h : Fine L) {x : Int} (h0 : 0 ≤ x) (h1 : x ≤ 1000000000000) : -2001000000000000 ≤ num L x ∧ num L x ≤ 2001000000000000 := by
  obtain ⟨a, b, -⟩ := pick_spec h.ok h0
  have c := from_nonneg h.ok a
  obtain ⟨d1, d2⟩ := h.at_ _ a
  obtain ⟨e1, e2⟩ := h.sl _ a
  unfold Pw.num
  have k0 : 0 ≤ x - (pick L x).1 := by omega
  have k1 : x - (pick L x).1 ≤ 1000000000000 := by omega
  have m1 : (pick L x).2.2 * (x - (pick L x).1) ≤ 2000 * 1000000000000 := by
    have := Int.mul_le_mul_of_nonneg_right e2 k0
    have := Int.mul_le_mul_of_nonneg_left k1 (show (0 : Int) ≤ 2000 by decide)
    omega
  have m2 : -(2000 * 1000000000000) ≤ (pick L x).2.2 * (x - (pick L x).1) := by
    have := Int.mul_le_mul_of_nonneg_right e1 k0
    have := Int.mul_le_mul_of_nonneg_left k1 (show (0 : Int) ≤ 2000 by decide)
    have e : -2000 * (x - (pick L x).1) = -(2000 * (x - (pick L x).1)) := by rw [Int.neg_mul]
    omega
  omega
/-- The function's box and pieces. -/
structure SlF (x0 : Nat) (D : Int) (a : Option Addr) (L : List Pc) (m c : Nat) (W : World) : Prop where
  f0 : W.cell? ⟨x0, 0, none⟩ = some (.int .i64 D)
  f1 : W.cell? ⟨x0, 1, none⟩ = some (.slice a m c)
  p : PcsAt a L W
theorem SlF.below {x0 : Nat} {D : Int} {a : Option Addr} {L : List Pc} {m c : Nat} {W W' : World} (h : SlF x0 D a L m c W) (k : Below W.heap.size W W') : SlF x0 D a L m c W' := ⟨Sp.cell_kept k h.f0, Sp.cell_kept k h.f1, h.p.below k⟩
theorem slf_new {W : World} {D : Int} {a : Option Addr} {L : List Pc} {c : Nat} (hp : PcsAt a L W) : SlF W.heap.size D a L L.length c (W.alloc (fb D a L.length c)) :=
  ⟨(fb_cells_m W D a L.length c).1, (fb_cells_m W D a L.length c).2.1, hp.below (Sp.alloc_below W _)⟩
/-- `all`, as far as it is made. -/
structure WlR (w9 : World) (v : Value) (acc : List Int) (i : Nat) (W : World) : Prop where
  row : RowI W w9.heap.size v acc
  bd : ∀ x ∈ acc, 0 ≤ x ∧ x ≤ 1000000000000
  len : acc.length ≤ 400 + 4 * i
  pos : 0 < acc.length
  hb : Below w9.heap.size w9 W
theorem WlR.below {w9 : World} {v : Value} {acc : List Int} {i : Nat} {W W' : World} (h : WlR w9 v acc i W) (k : Below W.heap.size W W') : WlR w9 v acc i W' := ⟨h.row.below k, h.bd, h.len, h.pos, h.hb.trans (k.mono h.hb.size)⟩
theorem WlR.app {w9 : World} {v v' : Value} {acc : List Int} {i : Nat} {W w' : World} {d e f g : Int} (h : WlR w9 v acc i W) (hown : RowI w' w9.heap.size v' (acc ++ [d, e, f, g])) (hg : W.grownBy w' v.ownBlock)
    (hd : (0 ≤ d ∧ d ≤ 1000000000000) ∧ (0 ≤ e ∧ e ≤ 1000000000000) ∧ (0 ≤ f ∧ f ≤ 1000000000000) ∧ (0 ≤ g ∧ g ≤ 1000000000000)) : WlR w9 v' (acc ++ [d, e, f, g]) (i + 1) w' := by
  refine ⟨hown, fun x hx => ?_, by rw [List.length_append]; have := h.len; show _ + 4 ≤ _; omega, by rw [List.length_append]; show 0 < _ + 4; omega, h.hb.grown hg h.hb.size (fun q hq => (World.ownsRow.lt h.row q hq).1)⟩
  rcases List.mem_append.1 hx with hx | hx
  · exact h.bd x hx
  · simp only [List.mem_cons, List.not_mem_nil, or_false] at hx
    rcases hx with rfl | rfl | rfl | rfl
    · exact hd.1
    · exact hd.2.1
    · exact hd.2.2.1
    · exact hd.2.2.2
theorem mul_lim {x D : Int} (hx : -10000000 ≤ x ∧ x ≤ 10000000) (hD : 1 ≤ D ∧ D ≤ 1000) : -10000000000 ≤ x * D ∧ x * D ≤ 10000000000 := by
  have h1 := Int.mul_le_mul_of_nonneg_right hx.1 (show 0 ≤ D by omega)
  have h2 := Int.mul_le_mul_of_nonneg_right hx.2 (show 0 ≤ D by omega)
  omega
theorem has_where {L : List Pc} (h : Ok L) (lo hi x : Int) (h0 : 0 ≤ x) (h1 : x ≤ 1000000000000) : has (norm (whr L lo hi)) x = (decide (lo ≤ num L x) && decide (num L x ≤ hi)) := by
  rw [Bool.eq_iff_iff, has_el, norm_el, whr_el h, Bool.and_eq_true, decide_eq_true_eq, decide_eq_true_eq]
  exact ⟨fun q => ⟨q.2.2.1, q.2.2.2⟩, fun q => ⟨h0, h1, q.1, q.2⟩⟩
set_option maxHeartbeats 16000000 in
set_option maxRecDepth 100000 in
theorem whereLaw_walk (den low high x : Int) (a0 : Option Addr) (k0 : Nat) (l : List Pc) (w : World) (hd : Rg den) (hlo : Rg low) (hhi : Rg high) (hx : Rg x) (hl : l.length ≤ 9223372036854775807) (hr : ∀ p ∈ l, Rg p.1 ∧ Rg p.2.1 ∧ Rg p.2.2) (z : PcsAt a0 l w) :
    Calls Try.prog 6 #[.slice a0 l.length k0, .int .i64 den, .int .i64 low, .int .i64 high, .int .i64 x] w fun r w' => r = .returned (.bool true) ∧ Below w.heap.size w w' := by
  have HH := Lib.hid (head_any w)
  have HMD := Lib.hid (fun w' (k : Below w.heap.size w w') => made_any den a0 k0 l w' hd hl hr (z.below k))
  have HP1 := Lib.hid (fun w => pick_any low 4000001 w hlo (by decide) (by decide))
  have HP2 := Lib.hid (fun w => pick_any high 2000000 w hhi (by decide) (by decide))
  have hQ1 := pk_bd (c := low) (n := 4000001) (by decide)
  have hQ2 := pk_bd (c := high) (n := 2000000) (by decide)
  have hD := pk_bd (c := den) (n := 1000) (by decide)
  generalize pk low 4000001 = Q1 at *
  generalize pk high 2000000 = Q2 at *
  obtain ⟨D, hDD⟩ : ∃ D, D = 1 + pk den 1000 := ⟨_, rfl⟩
  rw [← hDD] at HMD
  have hDb : 1 ≤ D ∧ D ≤ 1000 := by omega
  have HDB := Lib.hid hDb
  obtain ⟨LO, hLO⟩ : ∃ a, Q1 - 2000000 = a := ⟨_, rfl⟩
  obtain ⟨HI, hHI⟩ : ∃ a, LO + Q2 = a := ⟨_, rfl⟩
  obtain ⟨HJ, hHJ⟩ : ∃ a, HI + 1 = a := ⟨_, rfl⟩
  have w1 : IntKind.i64.wrap (Q1 - 2000000) = LO := by rw [hLO]; exact IntWalk.i64_in _ (by omega)
  have w2 : IntKind.i64.wrap (LO + Q2) = HI := by rw [hHI]; exact IntWalk.i64_in _ (by omega)
  have w3 : IntKind.i64.wrap (HI + 1) = HJ := by rw [hHJ]; exact IntWalk.i64_in _ (by omega)
  have m1 := mul_lim (x := LO) (by omega) hDb
  have m2 := mul_lim (x := HI) (by omega) hDb
  obtain ⟨ML, hML⟩ : ∃ a, LO * D = a := ⟨_, rfl⟩
  obtain ⟨MH, hMH⟩ : ∃ a, HI * D = a := ⟨_, rfl⟩
  have w4 : IntKind.i64.wrap (LO * D) = ML := by rw [hML]; exact IntWalk.i64_in _ (by omega)
  have w5 : IntKind.i64.wrap (HI * D) = MH := by rw [hMH]; exact IntWalk.i64_in _ (by omega)
  have hJD : HJ * D = MH + D := by rw [← hHJ, Int.add_mul, Int.one_mul, hMH]
  have HXX := Lib.hid (And.intro hML (And.intro hMH (And.intro hJD (show (rin LO ∧ rin HI ∧ rin HJ) from by unfold rin; omega))))
  have HRX := Lib.hid hx
  have HW := Lib.hid (fun d lo hi a c l w z => pwhere_any d lo hi a c l w z)
  have HAR := Lib.hid (fun d e x a b c k l r w hx hl hr ol or_ zl zr => args_any d e x a b c k l r w hx hl hr ol or_ zl zr)
  have HPE := Lib.hid (fun c w d x l a (z : PcsAt a l w) => peval_any d x a c l w z)
  have HHS := Lib.hid (fun a c l n w hl z => rhas_any a c l n w hl z)
  obtain ⟨i0, hi, hz0, hz1, hz2⟩ := info_parts Try.infoI
  have HI0 := Lib.hid (And.intro hi (And.intro hz0 (And.intro hz1 hz2)))
  clear hd hlo hhi hx hl hr z hQ1 hQ2 hD hDD hDb hLO hHI hHJ m1 m2 hML hMH hJD hi hz0 hz1 hz2
  generalize l.length = n at *
  go_enter Try.func6, Try.ntmps6
  go_upto_region 3 with (first
    | (go_at_call 9; (with_reducible refine HH.out.mono ?_); rintro _ W1 ⟨rfl, hb⟩; have HB1 := Lib.hid hb; clear hb)
    | (go_at_call 10; (with_reducible refine (HMD.out _ HB1.out).mono ?_); rintro _ W2 ⟨a, c, L, rfl, hp, hf, -, -, hb⟩; have HB2 := Lib.hid (HB1.out.trans (hb.mono HB1.out.size)); have HP := Lib.hid hp; have HF := Lib.hid hf; clear hb hp hf))
  clear HMD HH
  have hFF := slf_new (D := D) (c := c) HP.out
  have hBF := HB2.out.trans ((Sp.alloc_below W2 (fb D a L.length c)).mono HB2.out.size)
  have HVD := Lib.hid (show vdB D L = true from HF.out.vd HDB.out.1 HDB.out.2)
  obtain ⟨T, hT⟩ : ∃ T, T = norm (whr L ML MH) := ⟨_, rfl⟩
  have HT := Lib.hid hT
  clear hT
  have HW1 : Hid (∀ W, PcsAt a L W → Calls Try.prog 15 #[fv D a L.length c, .int .i64 LO, .int .i64 HI] W fun r w' => ∃ s e, r = .returned (.tuple #[.slice s T.length e, .int .i64 0]) ∧ SpansAt s T w' ∧ Below W.heap.size W w') := fun W z => by
    have h := HW.out D LO HI a c L W z
    rw [show whT D L LO HI = (T, 0) by unfold whT; rw [if_pos HVD.out, if_pos ⟨HXX.out.2.2.2.1, HXX.out.2.2.2.2.1⟩, HXX.out.1, HXX.out.2.1, HT.out]] at h
    exact h
  have HW2 : Hid (∀ W, PcsAt a L W → Calls Try.prog 15 #[fv D a L.length c, .int .i64 HJ, .int .i64 HI] W fun r w' => ∃ s e, r = .returned (.tuple #[.slice s 0 e, .int .i64 0]) ∧ Below W.heap.size W w') := fun W z => by
    have h := HW.out D HJ HI a c L W z
    rw [show whT D L HJ HI = ([], 0) by unfold whT; rw [if_pos HVD.out, if_pos ⟨HXX.out.2.2.2.2.2, HXX.out.2.2.2.2.1⟩, HXX.out.2.1, HXX.out.2.2.1, whr_none HF.out.ok (by have := HDB.out; omega)]] at h
    exact h.mono (fun r w' ⟨s, e, h1, _, h3⟩ => ⟨s, e, h1, h3⟩)
  have HAG : Hid (∀ W, PcsAt a L W → Calls Try.prog 26 #[fv D a L.length c, fv D a L.length c, .int .i64 x] W (ArgPost W (L.length + L.length))) := fun W z => HAR.out D D x a a c c L L W HRX.out (by have := HF.out.len; omega) (by have := HF.out.len; omega) HF.out.ok HF.out.ok z z
  have HEV := Lib.hid (fun C (h : 0 ≤ C ∧ C ≤ 1000000000000) w' (z : PcsAt a L w') => (HPE.out c w' D C L a z).mono (fun r w'' (q : _ ∧ _) => (⟨q.1.trans (ev_pos ⟨HVD.out, h.1, h.2⟩), q.2⟩ : r = .returned (.tuple #[.int .i64 (num L C), .int .i64 D, .int .i64 0]) ∧ Below w'.heap.size w' w'')))
  have HTL := Lib.hid (show T.length ≤ 30 by rw [HT.out]; have h1 := norm_len (whr L ML MH); rw [whr_len] at h1; have := HF.out.len; omega)
  clear HW HAR HPE HP HB2 HB1
  change Code.wp _ _ _ _ (W2.alloc (fb D a L.length c))
  have HFF := Lib.hid hFF
  have HBF := Lib.hid hBF
  clear hFF hBF
  generalize W2.alloc (fb D a L.length c) = Wf at *
  generalize W2.heap.size = x0 at *
  obtain ⟨m, hm⟩ : ∃ m, m = L.length := ⟨_, rfl⟩
  rw [← hm] at HFF HW1 HW2 HAG HEV ⊢
  have HML := Lib.hid (show m ≤ 30 by rw [hm]; exact HF.out.len)
  clear hm
  obtain ⟨tl, htl⟩ : ∃ t, t = T.length := ⟨_, rfl⟩
  rw [← htl] at HW1 HTL
  have HTT := Lib.hid htl
  clear htl
  have hb := Below.refl Wf.heap.size Wf
  have HB := Lib.hid hb
  clear hb
  have f0 := HFF.out.f0
  have f1 := HFF.out.f1
  have htl2 : ¬ (100 : Int) < (tl : Int) := by have := HTL.out; omega
  go_upto_region 9 with (first
    | (go_at_call 17; (with_reducible refine (HP1.out _).mono ?_); rintro _ Wf ⟨rfl, rfl⟩)
    | (go_at_call 17; (with_reducible refine (HP2.out _).mono ?_); rintro _ Wf ⟨rfl, rfl⟩)
    | (go_at_call 15; (with_reducible refine (HW1.out _ (HFF.out.below HB.out).p).mono ?_); rintro _ W6 ⟨sa, sc, rfl, hsp, kn⟩; replace HB := Lib.hid (HB.out.trans (kn.mono HB.out.size)); clear f0 f1; have f0 := (HFF.out.below HB.out).f0; have f1 := (HFF.out.below HB.out).f1; have HSP := Lib.hid hsp; clear kn hsp)
    | (go_at_call 15; (with_reducible refine (HW2.out _ (HFF.out.below HB.out).p).mono ?_); rintro _ W7 ⟨sd, sf, rfl, kn⟩; replace HB := Lib.hid (HB.out.trans (kn.mono HB.out.size)); replace HSP := Lib.hid (HSP.out.below kn); clear f0 f1; have f0 := (HFF.out.below HB.out).f0; have f1 := (HFF.out.below HB.out).f1; clear kn))
  have hB2 := fun W' (k : Below W7.heap.size W7 W') => (show Below w.heap.size w W' from (HBF.out.trans (HB.out.mono (by have := HBF.out.size; omega))).trans (k.mono (by have := HBF.out.size; have := HB.out.size; omega)))
  have HB2 := Lib.hid hB2
  have hF2 := fun W' (k : Below W7.heap.size W7 W') => (show SlF x0 D a L m c W' from (HFF.out.below HB.out).below k)
  have HF2 := Lib.hid hF2
  have HS2 := Lib.hid (fun W' (k : Below W7.heap.size W7 W') => HSP.out.below k)
  clear hB2 hF2 HB HFF HBF HW1 HW2 HP1 HP2 htl2 w1 w2 w3 HSP
  go_upto_region 10 with (go_at_call 26; (with_reducible refine (HAG.out _ (HF2.out _ (Below.refl _ _)).p).mono ?_); rintro _ W8 ⟨v, S, rfl, hrow, hbd, hlen, hpos, hb⟩; have HWR : Hid (WlR W7 v S 0 W8) := ⟨hrow, hbd, by have := HML.out; omega, hpos, hb⟩; clear hrow hbd hlen hpos hb f0 f1)
  clear HAG
  go_wp2_with fail
  go_loopg [17, 18] tl (fun g s17 s18 wx => ∃ (i : Nat) (acc : List Int), i + g = tl ∧ s18 = .int .i64 i ∧ Hid (WlR W7 s17 acc i wx))
  case atStart => exact ⟨0, S, by omega, rfl, HWR⟩
  case round =>
    clear HWR
    obtain ⟨i, acc, hi, rfl, HA⟩ := hrel
    cases gk with
    | zero =>
      obtain rfl : i = tl := by omega
      obtain ⟨gb, cp, hv, -, hcells⟩ := HA.out.row.cells HA.out.pos
      have hlen := HA.out.len
      have HBD := Lib.hid HA.out.bd
      have HAB := Lib.hid HA.out.hb
      have HCC := Lib.hid hcells
      clear HA hcells
      subst hv
      obtain ⟨N, hN⟩ : ∃ N, N = acc.length := ⟨_, rfl⟩
      rw [← hN] at hlen ⊢
      have HN := Lib.hid hN
      clear hN
      have hNb : N ≤ 600 := by have := HTL.out; omega
      clear hlen hi
      generalize wr = Wl at *
      have HC2 := Lib.hid (fun j x (hx : acc[j]? = some x) W' (k : Below Wl.heap.size Wl W') => Sp.cell_kept k (HCC.out j x hx))
      have HF3 := Lib.hid (fun W' (k : Below Wl.heap.size Wl W') => HF2.out W' (HAB.out.trans (k.mono HAB.out.size)))
      have HS3 := Lib.hid (fun W' (k : Below Wl.heap.size Wl W') => HS2.out W' (HAB.out.trans (k.mono HAB.out.size)))
      have HB3 := Lib.hid (fun W' (k : Below Wl.heap.size Wl W') => HB2.out W' (HAB.out.trans (k.mono HAB.out.size)))
      clear HF2 HS2 HB2 HCC HAB
      generalize i = tl at *
      go_wp2_with fail
      go_loopg [11, 150] N (fun g s11 s150 wx => ∃ k : Nat, k + g = N ∧ s11 = .bool true ∧ s150 = .int .i64 k ∧ Hid (Below Wl.heap.size Wl wx))
      case atStart => exact ⟨0, by omega, rfl, rfl, Below.refl _ _⟩
      case round =>
        obtain ⟨k, hk, rfl, rfl, HB⟩ := hrel
        cases gk with
        | zero =>
          obtain rfl : k = N := by omega
          go_wp2
          go_ret
          exact ⟨rfl, HB3.out _ HB.out⟩
        | succ g =>
          have hlt : (k : Int) < (N : Int) := by omega
          have hk0 : (0 : Int) ≤ (k : Int) := by omega
          have hwk : IntKind.i64.wrap ((k : Int) + 1) = (k : Int) + 1 := IntWalk.i64_in _ (by omega)
          obtain ⟨C, hC⟩ : ∃ C, acc[k]? = some C := ⟨_, List.getElem?_eq_getElem (by have := HN.out; omega)⟩
          have hcC := HC2.out k C hC _ HB.out
          have hCb := HBD.out C (List.mem_of_getElem? hC)
          have f0 := (HF3.out _ HB.out).f0
          have f1 := (HF3.out _ HB.out).f1
          have HE0 := Lib.hid (fun w' z => HEV.out C hCb w' z)
          have HHV := Lib.hid (show has T C = (decide (ML ≤ num L C) && decide (num L C ≤ MH)) by rw [HT.out]; exact has_where HF.out.ok ML MH C hCb.1 hCb.2)
          have HHC : Hid (∀ W, SpansAt sa T W → Calls Try.prog 27 #[.slice sa tl sc, .int .i64 C] W fun r w' => r = .returned (.bool (has T C)) ∧ Below W.heap.size W w') := fun W z => by
            have h := HHS.out sa sc T C W (by have := HTT.out; have := HTL.out; omega) z
            rw [← HTT.out] at h
            exact h
          obtain ⟨N0, hN0⟩ : ∃ N0, num L C = N0 := ⟨_, rfl⟩
          rw [hN0] at HE0 HHV
          obtain ⟨hb, hhb⟩ : ∃ b, has T C = b := ⟨_, rfl⟩
          rw [hhb] at HHC HHV
          clear hC hCb hN0 hhb
          go_upto_region 20 with (go_at_call 22; ((with_reducible refine (HE0.out _ (HF3.out _ HB.out).p).mono ?_); rintro _ wn ⟨rfl, kn⟩); replace HB := Lib.hid (HB.out.trans (kn.mono HB.out.size)); clear f0 f1 hcC; have f0 := (HF3.out _ HB.out).f0; have f1 := (HF3.out _ HB.out).f1; clear kn)
          clear HE0
          by_cases h1 : ML ≤ N0
          · by_cases h2 : N0 ≤ MH
            · have hbt : hb = true := by rw [HHV.out, decide_eq_true h1, decide_eq_true h2]; rfl
              subst hbt
              as_aux_lemma => ((go_wp2_with (go_at_call 27; ((with_reducible refine (HHC.out _ (HS3.out _ HB.out)).mono ?_); rintro _ wn ⟨rfl, kn⟩); replace HB := Lib.hid (HB.out.trans (kn.mono HB.out.size)); clear kn)); go_roundg g; (case measure => omega); (case rel => exact ⟨k + 1, by omega, rfl, by go_num, HB⟩))
            · have hbt : hb = false := by rw [HHV.out, decide_eq_false h2, Bool.and_false]
              have h2d : decide (N0 ≤ MH) = false := decide_eq_false h2
              subst hbt
              as_aux_lemma => ((go_wp2_with (go_at_call 27; ((with_reducible refine (HHC.out _ (HS3.out _ HB.out)).mono ?_); rintro _ wn ⟨rfl, kn⟩); replace HB := Lib.hid (HB.out.trans (kn.mono HB.out.size)); clear kn)); go_roundg g; (case measure => omega); (case rel => exact ⟨k + 1, by omega, rfl, by go_num, HB⟩))
          · have hbt : hb = false := by rw [HHV.out, decide_eq_false h1, Bool.false_and]
            have h1d : decide (ML ≤ N0) = false := decide_eq_false h1
            subst hbt
            as_aux_lemma => ((go_wp2_with (go_at_call 27; ((with_reducible refine (HHC.out _ (HS3.out _ HB.out)).mono ?_); rintro _ wn ⟨rfl, kn⟩); replace HB := Lib.hid (HB.out.trans (kn.mono HB.out.size)); clear kn)); go_roundg g; (case measure => omega); (case rel => exact ⟨k + 1, by omega, rfl, by go_num, HB⟩))
    | succ g =>
      have hlt : (i : Int) < (tl : Int) := by omega
      have hi0 : (0 : Int) ≤ (i : Int) := by omega
      have hwi : IntKind.i64.wrap ((i : Int) + 1) = (i : Int) + 1 := IntWalk.i64_in _ (by have := HTL.out; omega)
      obtain ⟨p, hp⟩ : ∃ p, T[i]? = some p := ⟨_, List.getElem?_eq_getElem (by have := HTT.out; omega)⟩
      obtain ⟨sb, so, es, e0, e1⟩ := HS2.out _ HA.out.hb i p hp
      subst es
      have hpb := wh_bd (L := ML) (H := MH) HF.out.ok (by rw [← HT.out]; exact List.mem_of_getElem? hp)
      have HPV : Hid (i = 0 ∨ ∃ k t', i = k + 1 ∧ t' < p.1 ∧ wr.cell? ⟨sb, so + k * 2 + 1, none⟩ = some (.int .i64 t')) := by
        rcases Nat.eq_zero_or_pos i with e | e
        · exact .inl e
        · obtain ⟨k, rfl⟩ : ∃ k, i = k + 1 := ⟨i - 1, by omega⟩
          have hkl : k < T.length := by have := HTT.out; omega
          obtain ⟨b2, o2, e2, -, c2⟩ := HS2.out _ HA.out.hb k T[k] (List.getElem?_eq_getElem hkl)
          cases e2
          refine .inr ⟨k, T[k].2, rfl, ?_, c2⟩
          obtain ⟨hil, hie⟩ := List.getElem?_eq_some_iff.1 hp
          have hnf : Nf T := by rw [HT.out]; exact norm_nf _
          rw [← hie]
          exact List.pairwise_iff_getElem.1 hnf.1 k (k + 1) hkl hil (by omega)
      obtain ⟨u, t⟩ := p
      simp only at e0 e1 hpb HPV
      have HPX := Lib.hid hp
      obtain ⟨u1, hu1⟩ : ∃ a, u - 1 = a := ⟨_, rfl⟩
      obtain ⟨t1, ht1⟩ : ∃ a, t - 1 = a := ⟨_, rfl⟩
      have wu : IntKind.i64.wrap (u - 1) = u1 := by rw [hu1]; exact IntWalk.i64_in _ (by omega)
      have wt : IntKind.i64.wrap (t - 1) = t1 := by rw [ht1]; exact IntWalk.i64_in _ (by omega)
      have HBD := Lib.hid (show (0 ≤ u ∧ u ≤ 1000000000000) ∧ (0 ≤ max 0 u1 ∧ max 0 u1 ≤ 1000000000000) ∧ (0 ≤ t1 ∧ t1 ≤ 1000000000000) ∧ (0 ≤ min 1000000000000 t ∧ min 1000000000000 t ≤ 1000000000000) by omega)
      have d1 : decide (u < 0) = false := decide_eq_false (by omega)
      have d2 : decide (1000000000001 < t) = false := decide_eq_false (by omega)
      have d3 : decide (t ≤ u) = false := decide_eq_false (by omega)
      have HE := Lib.hid (And.intro e0 e1)
      have HLN := Lib.hid (show acc.length ≤ 600 by have := HA.out.len; have := HTL.out; omega)
      have hibd : i ≤ 30 := by have := HTL.out; omega
      clear hp hpb hu1 ht1
      have hmix : Try.prog.follows .mixedOrders = true := by kernel_rfl
      go_upto_region 13 with (fail)
      go_cut [120] from 70 to 147 (fun s120 wx => s120 = .bool false ∧ Hid (Below wr.heap.size wr wx))
      case first =>
        rcases HPV.out with h0 | ⟨k, t', hik, hlt', c2⟩
        · subst h0
          simp only [Nat.zero_mul, Nat.add_zero] at e0 e1
          go_quiet (fail)
          go_wp2_with fail
          go_meet
          exact ⟨rfl, below_drewN (Below.refl _ _) _⟩
        · have d4 : decide ((0 : Int) < (i : Int)) = true := decide_eq_true (by omega)
          have d4n : 0 < i := by omega
          have d4i : (0 : Int) < (i : Int) := by omega
          have d4b : decide (0 < i) = true := decide_eq_true d4n
          have d5 : decide (u ≤ t') = false := decide_eq_false (by omega)
          have hk1 : IntKind.i64.wrap ((i : Int) - 1) = (k : Int) := by rw [show (i : Int) - 1 = (k : Int) by omega]; exact IntWalk.i64_in _ (by omega)
          have hk0 : (0 : Int) ≤ (k : Int) := by omega
          have hk2 : (k : Int) < (tl : Int) := by omega
          clear hik hlt'
          go_quiet (fail)
          go_wp2_with fail
          go_meet
          exact ⟨rfl, below_drewN (Below.refl _ _) _⟩
      case rest =>
        obtain ⟨rfl, HK⟩ := hcut
        have HA0 := Lib.hid (HA.out.below HK.out)
        have HE2 := Lib.hid (And.intro (Sp.cell_kept HK.out HE.out.1) (Sp.cell_kept HK.out HE.out.2))
        clear e0 e1 HA HE HPV d1 d2 d3
        have e0 := HE2.out.1
        have e1 := HE2.out.2
        have HA1 := Lib.hid (HA0.out.below (Below.refl _ wc).drew)
        go_upto_region 15 with (fail)
        refine wp_region_held_drew (S := fun W => W.cell? ⟨sb, so + i * 2, none⟩ = some (.int .i64 u) ∧ W.cell? ⟨sb, so + i * 2 + 1, none⟩ = some (.int .i64 t)) hmix ⟨Sp.cell_kept (Below.refl _ wc).drew HE2.out.1, Sp.cell_kept (Below.refl _ wc).drew HE2.out.2⟩ (fun hHeld => ?_)
        generalize wc.drew = WR at *
        refine wpAnyH_take (i := 0) (v := ?_) rfl (by kernel_rfl) (by kernel_rfl) (by kernel_rfl) (fun _ _ _ h => h) (Or.inl ⟨by rfl, ?_⟩) (by assumption) ?_
        rotate_left
        · intro w hSw; (try dsimp only at hSw); go_simp; (try with_reducible rfl)
        (try simp only [Act.put, List.getElem_toArray, List.getElem_cons_succ, List.getElem_cons_zero, List.setIfInBounds_toArray, List.set_cons_zero, List.set_cons_succ])
        refine wpAnyH_take (i := 1) (v := ?_) rfl (by kernel_rfl) (by kernel_rfl) (by kernel_rfl) (fun _ _ _ h => h) (Or.inl ⟨by rfl, ?_⟩) (by assumption) ?_
        rotate_left
        · intro w hSw; (try dsimp only at hSw); go_simp; (try with_reducible rfl)
        (try simp only [Act.put, List.getElem_toArray, List.getElem_cons_succ, List.getElem_cons_zero, List.setIfInBounds_toArray, List.set_cons_zero, List.set_cons_succ])
        refine wpAnyH_take (i := 2) (v := ?_) rfl (by kernel_rfl) (by kernel_rfl) (by kernel_rfl) (fun _ _ _ h => h) (Or.inl ⟨by rfl, ?_⟩) (by assumption) ?_
        rotate_left
        · intro w hSw; (try dsimp only at hSw); go_simp; (try with_reducible rfl)
        (try simp only [Act.put, List.getElem_toArray, List.getElem_cons_succ, List.getElem_cons_zero, List.setIfInBounds_toArray, List.set_cons_zero, List.set_cons_succ])
        refine wpAnyH_take (i := 3) (v := ?_) rfl (by kernel_rfl) (by kernel_rfl) (by kernel_rfl) (fun _ _ _ h => h) (Or.inl ⟨by rfl, ?_⟩) (by assumption) ?_
        rotate_left
        · intro w hSw; (try dsimp only at hSw); go_simp; (try with_reducible rfl)
        (try simp only [Act.put, List.getElem_toArray, List.getElem_cons_succ, List.getElem_cons_zero, List.setIfInBounds_toArray, List.set_cons_zero, List.set_cons_succ])
        refine wpAnyH_take (i := 4) (v := ?_) rfl (by kernel_rfl) (by kernel_rfl) (by kernel_rfl) (fun _ _ _ h => h) (Or.inl ⟨by rfl, ?_⟩) (by assumption) ?_
        rotate_left
        · intro w hSw; (try dsimp only at hSw); go_simp; (try with_reducible rfl)
        (try simp only [Act.put, List.getElem_toArray, List.getElem_cons_succ, List.getElem_cons_zero, List.setIfInBounds_toArray, List.set_cons_zero, List.set_cons_succ])
        refine wpAnyH_take (i := 5) (v := ?_) rfl (by kernel_rfl) (by kernel_rfl) (by kernel_rfl) (fun _ _ _ h => h) (Or.inl ⟨by rfl, ?_⟩) (by assumption) ?_
        rotate_left
        · intro w hSw; (try dsimp only at hSw); go_simp; (try with_reducible rfl)
        (try simp only [Act.put, List.getElem_toArray, List.getElem_cons_succ, List.getElem_cons_zero, List.setIfInBounds_toArray, List.set_cons_zero, List.set_cons_succ])
        refine wpAnyH_take (i := 6) (v := ?_) rfl (by kernel_rfl) (by kernel_rfl) (by kernel_rfl) (fun _ _ _ h => h) (Or.inl ⟨by rfl, ?_⟩) (by assumption) ?_
        rotate_left
        · intro w hSw; (try dsimp only at hSw); go_simp; (try with_reducible rfl)
        (try simp only [Act.put, List.getElem_toArray, List.getElem_cons_succ, List.getElem_cons_zero, List.setIfInBounds_toArray, List.set_cons_zero, List.set_cons_succ])
        refine wpAnyH_take (i := 7) (v := ?_) rfl (by kernel_rfl) (by kernel_rfl) (by kernel_rfl) (fun _ _ _ h => h) (Or.inl ⟨by rfl, ?_⟩) (by assumption) ?_
        rotate_left
        · intro w hSw; (try dsimp only at hSw); go_simp; (try with_reducible rfl)
        (try simp only [Act.put, List.getElem_toArray, List.getElem_cons_succ, List.getElem_cons_zero, List.setIfInBounds_toArray, List.set_cons_zero, List.set_cons_succ])
        refine wpAnyH_take (i := 8) (v := ?_) rfl (by kernel_rfl) (by kernel_rfl) (by kernel_rfl) (fun _ _ _ h => h) (Or.inl ⟨by rfl, ?_⟩) (by assumption) ?_
        rotate_left
        · intro w hSw; (try dsimp only at hSw); go_simp; (try with_reducible rfl)
        (try simp only [Act.put, List.getElem_toArray, List.getElem_cons_succ, List.getElem_cons_zero, List.setIfInBounds_toArray, List.set_cons_zero, List.set_cons_succ])
        refine wpAnyH_take (i := 9) (v := ?_) rfl (by kernel_rfl) (by kernel_rfl) (by kernel_rfl) (fun _ _ _ h => h) (Or.inl ⟨by rfl, ?_⟩) (by assumption) ?_
        rotate_left
        · intro w hSw; (try dsimp only at hSw); go_simp; (try with_reducible rfl)
        (try simp only [Act.put, List.getElem_toArray, List.getElem_cons_succ, List.getElem_cons_zero, List.setIfInBounds_toArray, List.set_cons_zero, List.set_cons_succ])
        refine wpAnyH_take (i := 10) (v := ?_) rfl (by kernel_rfl) (by kernel_rfl) (by kernel_rfl) (fun _ _ _ h => h) (Or.inl ⟨by rfl, ?_⟩) (by assumption) ?_
        rotate_left
        · intro w hSw; (try dsimp only at hSw); go_simp; (try with_reducible rfl)
        (try simp only [Act.put, List.getElem_toArray, List.getElem_cons_succ, List.getElem_cons_zero, List.setIfInBounds_toArray, List.set_cons_zero, List.set_cons_succ])
        refine wpAnyH_take (i := 11) (v := ?_) rfl (by kernel_rfl) (by kernel_rfl) (by kernel_rfl) (fun _ _ _ h => h) (Or.inl ⟨by rfl, ?_⟩) (by assumption) ?_
        rotate_left
        · intro w hSw; (try dsimp only at hSw); go_simp; (try with_reducible rfl)
        (try simp only [Act.put, List.getElem_toArray, List.getElem_cons_succ, List.getElem_cons_zero, List.setIfInBounds_toArray, List.set_cons_zero, List.set_cons_succ])
        refine wpAnyH_take (i := 12) (v := ?_) rfl (by kernel_rfl) (by kernel_rfl) (by kernel_rfl) (fun _ _ _ h => h) (Or.inl ⟨by rfl, ?_⟩) (by assumption) ?_
        rotate_left
        · intro w hSw; (try dsimp only at hSw); go_simp; (try with_reducible rfl)
        (try simp only [Act.put, List.getElem_toArray, List.getElem_cons_succ, List.getElem_cons_zero, List.setIfInBounds_toArray, List.set_cons_zero, List.set_cons_succ])
        refine wpAnyH_take (i := 13) (v := ?_) rfl (by kernel_rfl) (by kernel_rfl) (by kernel_rfl) (fun _ _ _ h => h) (Or.inl ⟨by rfl, ?_⟩) (by assumption) ?_
        rotate_left
        · intro w hSw; (try dsimp only at hSw); go_simp; (try with_reducible rfl)
        (try simp only [Act.put, List.getElem_toArray, List.getElem_cons_succ, List.getElem_cons_zero, List.setIfInBounds_toArray, List.set_cons_zero, List.set_cons_succ])
        refine wpAnyH_take (i := 14) (v := ?_) rfl (by kernel_rfl) (by kernel_rfl) (by kernel_rfl) (fun _ _ _ h => h) (Or.inl ⟨by rfl, ?_⟩) (by assumption) ?_
        rotate_left
        · intro w hSw; (try dsimp only at hSw); go_simp; (try with_reducible rfl)
        (try simp only [Act.put, List.getElem_toArray, List.getElem_cons_succ, List.getElem_cons_zero, List.setIfInBounds_toArray, List.set_cons_zero, List.set_cons_succ])
        refine wpAnyH_take (i := 15) (v := ?_) rfl (by kernel_rfl) (by kernel_rfl) (by kernel_rfl) (fun _ _ _ h => h) (Or.inl ⟨by rfl, ?_⟩) (by assumption) ?_
        rotate_left
        · intro w hSw; (try dsimp only at hSw); go_simp; (try with_reducible rfl)
        (try simp only [Act.put, List.getElem_toArray, List.getElem_cons_succ, List.getElem_cons_zero, List.setIfInBounds_toArray, List.set_cons_zero, List.set_cons_succ])
        refine wpAnyH_take (i := 16) (v := ?_) rfl (by kernel_rfl) (by kernel_rfl) (by kernel_rfl) (fun _ _ _ h => h) (Or.inl ⟨by rfl, ?_⟩) (by assumption) ?_
        rotate_left
        · intro w hSw; (try dsimp only at hSw); go_simp; (try with_reducible rfl)
        (try simp only [Act.put, List.getElem_toArray, List.getElem_cons_succ, List.getElem_cons_zero, List.setIfInBounds_toArray, List.set_cons_zero, List.set_cons_succ])
        refine wpAnyH_take (i := 17) (v := ?_) rfl (by kernel_rfl) (by kernel_rfl) (by kernel_rfl) (fun _ _ _ h => h) (Or.inl ⟨by rfl, ?_⟩) (by assumption) ?_
        rotate_left
        · intro w hSw; (try dsimp only at hSw); go_simp; (try with_reducible rfl)
        (try simp only [Act.put, List.getElem_toArray, List.getElem_cons_succ, List.getElem_cons_zero, List.setIfInBounds_toArray, List.set_cons_zero, List.set_cons_succ])
        refine wpAnyH_take (i := 18) (v := ?_) rfl (by kernel_rfl) (by kernel_rfl) (by kernel_rfl) (fun _ _ _ h => h) (Or.inl ⟨by rfl, ?_⟩) (by assumption) ?_
        rotate_left
        · intro w hSw; (try dsimp only at hSw); go_simp; (try with_reducible rfl)
        (try simp only [Act.put, List.getElem_toArray, List.getElem_cons_succ, List.getElem_cons_zero, List.setIfInBounds_toArray, List.set_cons_zero, List.set_cons_succ])
        refine wpAnyH_take (i := 19) (v := ?_) rfl (by kernel_rfl) (by kernel_rfl) (by kernel_rfl) (fun _ _ _ h => h) (Or.inl ⟨by rfl, ?_⟩) (by assumption) ?_
        rotate_left
        · intro w hSw; (try dsimp only at hSw); go_simp; (try with_reducible rfl)
        (try simp only [Act.put, List.getElem_toArray, List.getElem_cons_succ, List.getElem_cons_zero, List.setIfInBounds_toArray, List.set_cons_zero, List.set_cons_succ])
        refine wpAnyH_take (i := 20) (v := ?_) rfl (by kernel_rfl) (by kernel_rfl) (by kernel_rfl) (fun _ _ _ h => h) (Or.inl ⟨by rfl, ?_⟩) (by assumption) ?_
        rotate_left
        · intro w hSw; (try dsimp only at hSw); go_simp; (try with_reducible rfl)
        (try simp only [Act.put, List.getElem_toArray, List.getElem_cons_succ, List.getElem_cons_zero, List.setIfInBounds_toArray, List.set_cons_zero, List.set_cons_succ])
        refine wpAnyH_take (i := 21) (v := ?_) rfl (by kernel_rfl) (by kernel_rfl) (by kernel_rfl) (fun _ _ _ h => h) (Or.inl ⟨by rfl, ?_⟩) (by assumption) ?_
        rotate_left
        · intro w hSw; (try dsimp only at hSw); go_simp; (try with_reducible rfl)
        (try simp only [Act.put, List.getElem_toArray, List.getElem_cons_succ, List.getElem_cons_zero, List.setIfInBounds_toArray, List.set_cons_zero, List.set_cons_succ])
        refine wpAnyH_take (i := 22) (v := ?_) rfl (by kernel_rfl) (by kernel_rfl) (by kernel_rfl) (fun _ _ _ h => h) (Or.inl ⟨by rfl, ?_⟩) (by assumption) ?_
        rotate_left
        · intro w hSw; (try dsimp only at hSw); go_simp; (try with_reducible rfl)
        (try simp only [Act.put, List.getElem_toArray, List.getElem_cons_succ, List.getElem_cons_zero, List.setIfInBounds_toArray, List.set_cons_zero, List.set_cons_succ])
        refine wpAnyH_take (i := 23) (v := ?_) rfl (by kernel_rfl) (by kernel_rfl) (by kernel_rfl) (fun _ _ _ h => h) (Or.inl ⟨by rfl, ?_⟩) (by assumption) ?_
        rotate_left
        · intro w hSw; (try dsimp only at hSw); go_simp; (try with_reducible rfl)
        (try simp only [Act.put, List.getElem_toArray, List.getElem_cons_succ, List.getElem_cons_zero, List.setIfInBounds_toArray, List.set_cons_zero, List.set_cons_succ])
        refine wpAnyH_take (i := 24) (v := ?_) rfl (by kernel_rfl) (by kernel_rfl) (by kernel_rfl) (fun _ _ _ h => h) (Or.inl ⟨by rfl, ?_⟩) (by assumption) ?_
        rotate_left
        · intro w hSw; (try dsimp only at hSw); go_simp; (try with_reducible rfl)
        (try simp only [Act.put, List.getElem_toArray, List.getElem_cons_succ, List.getElem_cons_zero, List.setIfInBounds_toArray, List.set_cons_zero, List.set_cons_succ])
        refine wpAnyH_ready (rs := [25]) (by kernel_rfl) (by simp) ?_
        refine AllReadyH.cons rfl (fun K hK => ?_) AllReadyH.nil
        go_simp
        have kA := Sp.alloc_below WR (.cells #[.int .i64 u, .int .i64 (max 0 u1), .int .i64 t1, .int .i64 (min 1000000000000 t)] 3)
        have HA2 := Lib.hid (HA1.out.below kA)
        have HNW := Lib.hid (ints_four (w := WR) (d := u) (e := max 0 u1) (f := t1) (g := min 1000000000000 t) rfl)
        refine hK.out _ _ ⟨Sp.cell_kept kA hHeld.1, Sp.cell_kept kA hHeld.2⟩ (fun hHeld => ?_)
        clear hK K kA
        (try simp only [Act.put, List.getElem_toArray, List.getElem_cons_succ, List.getElem_cons_zero, List.setIfInBounds_toArray, List.set_cons_zero, List.set_cons_succ])
        generalize WR.alloc (.cells #[.int .i64 u, .int .i64 (max 0 u1), .int .i64 t1, .int .i64 (min 1000000000000 t)] 3) = WA at *
        generalize WR.heap.size = gn at HNW ⊢
        refine wpAnyH_ready (rs := [26]) (by kernel_rfl) (by simp) ?_
        refine AllReadyH.cons rfl (fun K hK => ?_) AllReadyH.nil
        refine step_append_at (by rfl) (.tmp 121) (.tmp 146) 41 (by rfl) W7.heap.size 3 i0 (.int .i64 0) 1 8 (by kernel_rfl) HI0.out.1 HI0.out.2.1 HI0.out.2.2.1 HI0.out.2.2.2 rfl (by decide) _ acc.length (acc.map (Value.int .i64)) (by rfl) HA2.out.row ⟨gn, 0, none⟩ 4 4 [.int .i64 u, .int .i64 (max 0 u1), .int .i64 t1, .int .i64 (min 1000000000000 t)] (by rfl) rfl HNW.out four_one (by have := HLN.out; unfold maxLen; omega) (by have := HLN.out; omega) HA2.out.hb.size ?_
        intro v5 W14 hown5 hg5 hv5
        have HA3 := Lib.hid (HA2.out.app (RowI.app4 hown5) hg5 HBD.out)
        clear hown5 hg5 hv5
        refine hK.out _ _ ?_ (fun hHeld => ?_)
        · obtain ⟨b5, o5, e5, c5, c6⟩ := HS2.out _ HA3.out.hb i (u, t) HPX.out
          cases e5
          exact ⟨c5, c6⟩
        clear hK K
        (try simp only [Act.put, List.getElem_toArray, List.getElem_cons_succ, List.getElem_cons_zero, List.setIfInBounds_toArray, List.set_cons_zero, List.set_cons_succ])
        refine wpAnyH_take (i := 27) (v := ?_) rfl (by kernel_rfl) (by kernel_rfl) (by kernel_rfl) (fun _ _ _ h => h) (Or.inl ⟨by rfl, ?_⟩) (by assumption) ?_
        rotate_left
        · intro w hSw; (try dsimp only at hSw); go_simp; (try with_reducible rfl)
        (try simp only [Act.put, List.getElem_toArray, List.getElem_cons_succ, List.getElem_cons_zero, List.setIfInBounds_toArray, List.set_cons_zero, List.set_cons_succ])
        refine wpAnyH_done (by kernel_rfl) ?_ _
        clear hHeld HE2 HA0 HA1 HA2 HNW e0 e1
        go_wp2_with fail
        go_roundg g
        case measure => omega
        case rel => exact ⟨i + 1, acc ++ [u, max 0 u1, t1, min 1000000000000 t], by omega, by go_num, HA3⟩
end Go.Proofs.Ytgllakooabiliaa.Pw
namespace Go.Proofs.Ytgllakooabiliaa.Pw
open Go.ChangeShapes Go.WideShapes Go.ChangeAt Go.RowKit Go.Proofs.Ytgllakooabiliaa.Sp
set_option maxRecDepth 100000 in
theorem whereLaw_lifted (os : Os) (started : os.Started) (H : Type) (enc : TypeId × Value → H) :
    ReturnsInHanded {} Try.checked os 6 .any (Rows.piecewiseWhereSpec.pre6 enc Try.prog Try.f6 Rows.piecewiseWhereRow.domain false) (Rows.piecewiseWhereSpec.post enc Try.prog Try.f6 false true false false) := by
  refine returnsInHanded_of_change (C := Try.checked) Sp.own started (by kernel_rfl) Try.func6
    (ChangeSpec.witness6 (enc := enc) (C := Try.checked) false ⟨#[], #[.slice none 0 0, .int .i64 0, .int .i64 0, .int .i64 0, .int .i64 0], []⟩ 8 (by kernel_rfl) (by kernel_rfl) (by kernel_rfl) (by kernel_rfl)) ?_
  intro W base args ds gs before hval0 hW hcnd _
  have hval : ∀ (j : Nat) t v, Try.f6.params[j]? = some t → args[j]? = some v → Value.okWide Try.prog W .any base t v := hval0
  have hW' := hW
  have hlt := hW.lt
  obtain ⟨p, q, hA0, hV, rfl, hfz, hnd⟩ := hW
  have hA : DataW.TrodAll enc Try.prog W 0 (fun _ => true) true Try.f6.params.toList args.toList ds p := hA0
  have hkeep := fun W' (hb : Below W.heap.size W W') => trodAll_below Sp.laidOut hb (by rw [Try.params6]; intro t ht; simp only [List.mem_cons, List.not_mem_nil, or_false] at ht; rcases ht with rfl | rfl | rfl | rfl | rfl <;> exact ⟨by kernel_rfl, of_decide_eq_true (by kernel_rfl)⟩) hA (fun x hx => hlt x (List.mem_append_left _ hx))
  rw [Try.params6] at hA hval
  obtain ⟨v0, vs0, d0, ds0, p0, q0, hargs, rfl, rfl, h0, r0⟩ := trodAll_cons hA
  obtain ⟨v1, vs1, d1, ds1, p1, q1, rfl, rfl, rfl, h1, r1⟩ := trodAll_cons r0
  obtain ⟨v2, vs2, d2, ds2, p2, q2, rfl, rfl, rfl, h2, r2⟩ := trodAll_cons r1
  obtain ⟨v3, vs3, d3, ds3, p3, q3, rfl, rfl, rfl, h3, r3⟩ := trodAll_cons r2
  obtain ⟨v4, vs4, d4, ds4, p4, q4, rfl, rfl, rfl, h4, r4⟩ := trodAll_cons r3
  obtain ⟨rfl, rfl, rfl⟩ := trodAll_nil r4
  obtain rfl : args = #[v0, v1, v2, v3, v4] := by cases args; simp_all
  obtain ⟨rfl, rfl⟩ := trodVars_none hV
  obtain ⟨a0, c0, x0, rfl, z0⟩ := open_pcs (hval 0 25 v0 rfl rfl) h0
  obtain ⟨y1, rfl, rfl, rfl, w1⟩ := open_int Try.underlying3 (hval 1 3 v1 rfl rfl) h1
  obtain ⟨y2, rfl, rfl, rfl, w2⟩ := open_int Try.underlying3 (hval 2 3 v2 rfl rfl) h2
  obtain ⟨y3, rfl, rfl, rfl, w3⟩ := open_int Try.underlying3 (hval 3 3 v3 rfl rfl) h3
  obtain ⟨y4, rfl, rfl, rfl, w4⟩ := open_int Try.underlying3 (hval 4 3 v4 rfl rfl) h4
  clear hA0 hval0
  simp only [List.append_nil] at hW'
  refine (whereLaw_walk y1 y2 y3 y4 a0 c0 x0 W (bounds_i64 w1) (bounds_i64 w2) (bounds_i64 w3) (bounds_i64 w4) (Nat.le_trans z0.len (by decide)) z0.rg z0.at_).mono fun e W' ⟨he, hg⟩ => ?_
  subst he
  exact ⟨_, rfl, _, _, _, [], _, [], hW', trodAll_mk1 (shut_bool Try.underlying4 _), hkeep W' hg, rfl, hg.frame _, fun h => by cases h⟩
theorem whereLaw_said : Rows.PiecewiseWhereSaid :=
  OpenClaim.holds_of_wide 6 Try.f6 rfl rfl rfl rfl rfl rfl rfl ⟨rfl, rfl, rfl, rfl, rfl⟩ rfl rfl rfl rfl rfl (by kernel_rfl) Try.func6 (by kernel_rfl)
    (of_decide_eq_true (by kernel_rfl)) (by unfold Func.isWrapper; first | (rw [if_pos (by decide +kernel)]; kernel_rfl) | (rw [if_neg (by decide +kernel)]; exact ⟨rfl, rfl⟩))
    (fun os started H enc _ => whereLaw_lifted os started H enc)
end Go.Proofs.Ytgllakooabiliaa.Pw
