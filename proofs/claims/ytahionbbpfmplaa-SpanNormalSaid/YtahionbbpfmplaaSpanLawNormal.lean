/- The walk of the law SpanNormal: it returns true. Conditions: the list lies in memory as the argument says; the numbers are within Go's types. -/
import Derived.Test.YtahionbbpfmplaaSpanHead
import Derived.Test.YtahionbbpfmplaaSpanOpen
import Derived.Test.YtahionbbpfmplaaSpanNorm
namespace Go.Proofs.Ytahionbbpfmplaa.Sp
open Go.RowKit
set_option maxHeartbeats 16000000 in
set_option maxRecDepth 100000 in
theorem normal_walk (a1 : Option Addr) (c1 : Nat) (xs : List Sn) (p q : Int) (w : World) (z1 : In a1 c1 xs w) (hp : 0 ≤ p ∧ p ≤ 255) (hq : 0 ≤ q ∧ q ≤ 255) :
    Calls Try.prog 4 #[.slice a1 xs.length c1, .int .u8 p, .int .u8 q] w fun r w' => r = .returned (.bool true) ∧ Below w.heap.size w w' := by
  have HX1 := Lib.hid (fun w' (k : Below w.heap.size w w') => z1.at_.below k)
  have HIN1 := Lib.hid z1
  obtain ⟨n1, hn1⟩ : ∃ n, n = xs.length := ⟨_, rfl⟩
  rw [← hn1]
  have HN1 := Lib.hid (show Ln n1 xs from hn1)
  have hb := Below.refl w.heap.size w
  clear z1
  have HSX := Lib.hid (fun w' (k : Below w.heap.size w w') => (show SrcAt w' (.slice a1 n1 c1) n1 (flat xs) by have h := (HX1.out w' k).src HIN1.out.none (c := c1); rwa [← HN1.out] at h))
  have HFX := Lib.hid (show (flat xs).length = n1 * 2 by rw [flat_length, ← HN1.out])
  have HPQ := Lib.hid (And.intro hp hq)
  obtain ⟨i0, hi, hz0, hz1, hz2⟩ := info_parts Try.infoS
  have HI0 := Lib.hid (And.intro hi (And.intro hz0 (And.intro hz1 hz2)))
  clear hi hz0 hz1 hz2 hp hq
  by_cases hs : n1 ≤ 60
  · have SH : Hid (∀ w0 : World, Calls Try.prog 11 #[.slice (some ⟨w0.heap.size, 0, none⟩) 1 1] (w0.alloc (.cells #[.slice a1 n1 c1] 22)) fun r w' => r = .returned (.bool true) ∧ Below w0.heap.size w0 w') := fun w0 => (short_new [(a1, n1, c1)] w0 22 (by simp)).mono fun r w' ⟨hr, hw⟩ => ⟨hr.trans (ret_bool (by simp only [List.all_cons, List.all_nil, Bool.and_true]; first | (simp only [decide_eq_true_eq]; exact hs) | (rw [Bool.eq_false_iff]; intro h; simp only [decide_eq_true_eq] at h; exact hs h))), hw⟩
    have g1 := hs
    clear hn1 hs
    obtain ⟨nN, hnN⟩ : ∃ n, Ln n (norm xs) := ⟨_, rfl⟩
    have HNN := Lib.hid hnN
    have hnb : nN ≤ 60 := norm_bd hnN HN1.out g1
    obtain ⟨nM, hnM⟩ : ∃ n, Ln n (norm (norm xs)) := ⟨_, rfl⟩
    have HNM := Lib.hid hnM
    have hnmb : nM ≤ 60 := norm_bd hnM hnN hnb
    have HFN := Lib.hid (show (flat (norm xs)).length = nN * 2 by rw [flat_length, ← HNN.out])
    clear hnN hnM
    obtain ⟨bv, hbv⟩ : ∃ b, b = decide (Nf xs) := ⟨_, rfl⟩
    have HBV := Lib.hid hbv
    have tbv : (bv != bv) = false := by simp
    have C0 := Lib.hid (normal_at3 HN1.out HNN.out (Nat.le_trans g1 (by decide)))
    have V0 : Hid (∀ a c w, SpansAt a (norm xs) w → Calls Try.prog 12 #[.slice a nN c] w fun r w' => r = .returned (.bool true) ∧ Below w.heap.size w w') := fun a c w z => (valid_at HNN.out (Nat.le_trans hnb (by decide)) a c w z).mono fun r w' ⟨hr, hw⟩ => ⟨hr.trans (ret_bool (decide_eq_true (norm_nf xs))), hw⟩
    have V1 : Hid (∀ a c w, SpansAt a xs w → Calls Try.prog 12 #[.slice a n1 c] w fun r w' => r = .returned (.bool bv) ∧ Below w.heap.size w w') := fun a c w z => (valid_at HN1.out (Nat.le_trans g1 (by decide)) a c w z).mono fun r w' ⟨hr, hw⟩ => ⟨hr.trans (ret_bool hbv.symm), hw⟩
    have C1 := Lib.hid (normal_at' HNN.out HNM.out (Nat.le_trans hnb (by decide)))
    have S0 := Lib.hid (same_at HNM.out HNN.out (Nat.le_trans hnmb (by decide)) (norm_id (norm_nf xs)))
    have S1 : Hid (∀ a1 c1 a2 c2 w, SpansAt a1 (norm xs) w → SpansAt a2 xs w → Calls Try.prog 14 #[.slice a1 nN c1, .slice a2 n1 c2] w fun r w' => r = .returned (.bool bv) ∧ Below w.heap.size w w') := fun a1 c1 a2 c2 w z z' => (same_bool HNN.out HN1.out (Nat.le_trans hnb (by decide)) a1 c1 a2 c2 w z z').mono fun r w' ⟨hr, hw⟩ => ⟨hr.trans (ret_bool ((nf_decide xs).trans hbv.symm)), hw⟩
    clear hbv
    go_enter Try.func4, Try.ntmps4
    go_wp2_with (first
      | (go_at_call 10; (with_reducible refine (head_any _).mono ?_); rintro _ wh ⟨rfl, kh⟩; replace hb := hb.trans (kh.mono hb.size); clear kh)
      | (go_at_call 11; (with_reducible refine (SH.out _).mono ?_); rintro _ ws ⟨rfl, ks⟩; replace hb := hb.trans (ks.mono hb.size); clear ks)
      | (go_at_call 15; (with_reducible refine (C0.out _ _ _ (HX1.out _ hb)).mono ?_); rintro _ wN ⟨aN, cN, rfl, zN, sN, kN⟩; replace hb := hb.trans (kN.mono hb.size); clear kN)
      | (go_at_call 12; (with_reducible refine (V0.out _ _ _ zN).mono ?_); rintro _ wV ⟨rfl, kV⟩; replace hb := hb.trans (kV.mono hb.size); (try replace zN := zN.below kV); (try replace zM := zM.below kV); (try replace sN := sN.below kV); clear kV)
      | (go_at_call 15; (with_reducible refine (C1.out _ _ _ zN).mono ?_); rintro _ wM ⟨aM, cM, rfl, zM, kM⟩; replace hb := hb.trans (kM.mono hb.size); replace zN := zN.below kM; replace sN := sN.below kM; clear kM)
      | (go_at_call 14; (with_reducible refine (S0.out _ _ _ _ _ zM zN).mono ?_); rintro _ wS ⟨rfl, kS⟩; replace hb := hb.trans (kS.mono hb.size); (try replace zN := zN.below kS); (try replace zM := zM.below kS); (try replace sN := sN.below kS); clear kS)
      | (go_at_call 12; (with_reducible refine (V1.out _ _ _ (HX1.out _ hb)).mono ?_); rintro _ wU ⟨rfl, kU⟩; replace hb := hb.trans (kU.mono hb.size); (try replace zN := zN.below kU); (try replace zM := zM.below kU); (try replace sN := sN.below kU); clear kU)
      | (go_at_call 14; (with_reducible refine (S1.out _ _ _ _ _ zN (HX1.out _ hb)).mono ?_); rintro _ W1 ⟨rfl, kW⟩; replace hb := hb.trans (kW.mono hb.size); (try replace zN := zN.below kW); (try replace zM := zM.below kW); (try replace sN := sN.below kW); clear kW; clear zM))
    have HB1 := Lib.hid hb
    have HZN := Lib.hid (fun W' (k : Below W1.heap.size W1 W') => zN.below k)
    have HSN := Lib.hid (fun W' (k : Below W1.heap.size W1 W') => sN.below k)
    clear hb zN sN C0 V0 V1 C1 S0 S1
    go_loopg [43] nN (fun g s43 wx => ∃ i : Nat, i + g = nN ∧ s43 = .int .i64 i ∧ Below W1.heap.size W1 wx)
    case atStart => exact ⟨0, by omega, rfl, Below.refl _ _⟩
    case round =>
      obtain ⟨i, hi, rfl, hbx⟩ := hrel
      cases gk with
      | succ g =>
        have hlt : (i : Int) < (nN : Int) := by omega
        obtain ⟨⟨f, t⟩, hx⟩ : ∃ x, (norm xs)[i]? = some x := ⟨_, List.getElem?_eq_getElem (by have := HNN.out; unfold Ln at this; omega)⟩
        obtain ⟨bb, off, rfl, c1', c2'⟩ := HZN.out _ hbx i _ hx
        simp only at c1' c2'
        have hft : ¬ t ≤ f := by have := ((norm_nf xs).2 _ (List.mem_of_getElem? hx)).2.2; simp only at this; omega
        have hbx2 := hbx.trans ((alloc_below wr (.cells #[.int .i64 f, .int .i64 t] 33)).mono hbx.size)
        have e1 : (wr.alloc (.cells #[.int .i64 f, .int .i64 t] 33)).cell? ⟨wr.heap.size, 0, none⟩ = some (.int .i64 f) := by simp
        have e2 : (wr.alloc (.cells #[.int .i64 f, .int .i64 t] 33)).cell? ⟨wr.heap.size, 1, none⟩ = some (.int .i64 t) := by simp
        rcases i with _ | r
        · simp only [Nat.zero_mul, Nat.add_zero] at c1' c2'
          go_upto_region 10 with (fail)
          generalize wr.alloc (.cells #[.int .i64 f, .int .i64 t] 33) = W5 at *
          generalize wr.heap.size = xb at *
          go_quiet (fail)
          go_wp2
          go_roundg g
          case measure => omega
          case rel => exact ⟨0 + 1, by omega, by go_num, below_drewN hbx2 _⟩
        · obtain ⟨⟨y1, y2⟩, hy⟩ : ∃ x, (norm xs)[r]? = some x := ⟨_, List.getElem?_eq_getElem (by have := HNN.out; unfold Ln at this; omega)⟩
          have hyf : ¬ f ≤ y2 := by have := nf_prev (norm_nf xs) hx hy; simp only at this; omega
          obtain ⟨b2, o2, e, -, d2⟩ := HZN.out _ hbx2 r _ hy
          cases e
          simp only at d2
          have hr0 : (0 : Int) < (r : Int) + 1 := by omega
          have hr1 : (0 : Int) ≤ (r : Int) := by omega
          have hr2 : (r : Int) < (nN : Int) := by omega
          have hwr : IntKind.i64.wrap ((r : Int) + 1 - 1) = (r : Int) := by rw [Int.add_sub_cancel]; exact IntWalk.i64_in _ (by omega)
          have hwr2 : IntKind.i64.wrap (r : Int) = (r : Int) := IntWalk.i64_in _ (by omega)
          clear hx hy
          go_upto_region 10 with (fail)
          generalize wr.alloc (.cells #[.int .i64 f, .int .i64 t] 33) = W5 at *
          generalize wr.heap.size = xb at *
          go_quiet (fail)
          go_wp2
          go_roundg g
          case measure => omega
          case rel => exact ⟨r + 1 + 1, by omega, by go_num, below_drewN hbx2 _⟩
      | zero =>
        have hlt : ¬ (i : Int) < (nN : Int) := by omega
        have hb := HB1.out.trans (hbx.mono HB1.out.size)
        obtain ⟨nn, hnn'⟩ : ∃ nn, nn = (xs ++ norm xs).length := ⟨_, rfl⟩
        have HQN := Lib.hid hnn'
        have hnn : nn ≤ 120 := by rw [hnn', List.length_append]; have := HN1.out; have := HNN.out; unfold Ln at *; omega
        clear hnn'
        go_wp2_with (first
          | (at_builtin; refine wpList_append_src rfl _ _ 22 rfl W1.heap.size 33 i0 (.agg #[.int .i64 0, .int .i64 0]) 2 16 Try.underS HI0.out.1 HI0.out.2.1 HI0.out.2.2.1 HI0.out.2.2.2 rfl (by decide) _ 0 [] rfl (World.ownsRow_made _ #[] 0 hbx.size (Nat.zero_le _) rfl) _ n1 (flat xs) rfl (HSX.out _ (HB1.out.trans ((hbx.trans ((alloc_below _ _).mono hbx.size)).mono HB1.out.size))) HFX.out (flat_cell1 _) (by unfold maxLen; omega) (by omega) (Nat.le_trans hbx.size (alloc_below _ _).size) ?_; intro v1 w1 hown1 hgrow1; have HO1 := Lib.hid hown1; have hb1 := (hbx.trans ((alloc_below _ _).mono hbx.size)).grown hgrow1 (Nat.le_trans hbx.size (alloc_below _ _).size) (fun k hk => by cases hk; exact hbx.size); clear hgrow1 hown1)
          | (at_builtin; refine wpList_append_src rfl _ _ 22 rfl W1.heap.size 33 i0 (.agg #[.int .i64 0, .int .i64 0]) 2 16 Try.underS HI0.out.1 HI0.out.2.1 HI0.out.2.2.1 HI0.out.2.2.2 rfl (by decide) _ (0 + n1) ([] ++ flat xs) rfl HO1.out _ nN (flat (norm xs)) rfl ((HSN.out _ hb1)) HFN.out (flat_cell1 _) (by unfold maxLen; omega) (by omega) hb1.size ?_; intro v2 W2 hown2 hgrow2; have hb2 := hb1.grown hgrow2 hb1.size (fun k hk => (HO1.out.lt k hk).1); obtain ⟨a3, c3, rfl, z3, -, -⟩ := RowS.cap (l := xs ++ norm xs) (RowS.of2 HN1.out HNN.out hown2); rw [← HQN.out]; have HZ3 := Lib.hid (fun W' (k : Below W2.heap.size W2 W') => z3.below k); clear hown2 hgrow2 z3 hb1 HO1))
        have HB12 := Lib.hid hb2
        have HB2 := Lib.hid (HB1.out.trans (hb2.mono HB1.out.size))
        clear hb hbx hb2 hlt HSX HFX HSN HFN
        go_loopg [75] nn (fun g s75 wx => ∃ i : Nat, i + g = nn ∧ s75 = .int .i64 i ∧ Below W2.heap.size W2 wx)
        case atStart => exact ⟨0, by omega, rfl, Below.refl _ _⟩
        case round =>
          obtain ⟨i, hi, rfl, hk2⟩ := hrel
          cases gk with
          | succ g =>
            have hlt : (i : Int) < (nn : Int) := by omega
            obtain ⟨⟨f, t⟩, hx⟩ : ∃ x, (xs ++ norm xs)[i]? = some x := ⟨_, List.getElem?_eq_getElem (by have := HQN.out; omega)⟩
            obtain ⟨b3, o3, rfl, s1, s2⟩ := HZ3.out _ hk2 i _ hx
            simp only at s1 s2
            have hk5 := hk2.trans ((alloc_below wr (.cells #[.int .i64 f, .int .i64 t] 33)).mono hk2.size)
            have e1 : (wr.alloc (.cells #[.int .i64 f, .int .i64 t] 33)).cell? ⟨wr.heap.size, 0, none⟩ = some (.int .i64 f) := by simp
            have e2 : (wr.alloc (.cells #[.int .i64 f, .int .i64 t] 33)).cell? ⟨wr.heap.size, 1, none⟩ = some (.int .i64 t) := by simp
            clear hx
            go_upto_region 16 with (fail)
            generalize wr.alloc (.cells #[.int .i64 f, .int .i64 t] 33) = W5 at *
            generalize wr.heap.size = xb at *
            have HE12 := Lib.hid (And.intro e1 e2)
            have HK5 := Lib.hid hk5
            have HX5 := Lib.hid (fun W' (k : Below W5.heap.size W5 W') => HX1.out W' (HB2.out.trans ((hk5.trans (k.mono hk5.size)).mono HB2.out.size)))
            have HN5 := Lib.hid (fun W' (k : Below W5.heap.size W5 W') => HZN.out W' (HB12.out.trans ((hk5.trans (k.mono hk5.size)).mono HB12.out.size)))
            clear e1 e2 s1 s2 hk5 hk2
            go_wp2
            go_loopg [13] 3 (fun g s13 wx => ∃ d : Int, d + (g : Int) = 2 ∧ -1 ≤ d ∧ s13 = .int .i64 d ∧ Below W5.heap.size W5 wx)
            case atStart => exact ⟨-1, by omega, by omega, rfl, Below.refl _ _⟩
            case round =>
              obtain ⟨d, hd, hd0, rfl, hk⟩ := hrel
              cases gk with
              | zero =>
                have hle : ¬ d ≤ 1 := by omega
                go_wp2
                go_roundg g
                case measure => omega
                case rel => exact ⟨i + 1, by omega, by go_num, HK5.out.trans (hk.mono HK5.out.size)⟩
              | succ gi =>
                have hle : d ≤ 1 := by omega
                have hwd := IntWalk.i64_in (d + 1) (by omega)
                have hmix : Try.prog.follows .mixedOrders = true := by kernel_rfl
                have e1 := cell_kept hk HE12.out.1
                have e2 := cell_kept hk HE12.out.2
                by_cases hF : Far f t
                · have FAR : Hid (∀ w, Calls Try.prog 27 #[sv f t] w fun r w' => r = .returned (.bool true) ∧ Below w.heap.size w w') := fun w => (far_any f t w).mono fun r w' ⟨hr, hw⟩ => ⟨hr.trans (ret_bool (decide_eq_true hF)), hw⟩
                  obtain ⟨u1, u2, u3, u4⟩ := hF
                  have hwf := IntWalk.i64_in (f + d) (by omega)
                  have hwt := IntWalk.i64_in (t + d) (by omega)
                  obtain ⟨h1, hh1⟩ : ∃ h, h = has xs (f + d) := ⟨_, rfl⟩
                  obtain ⟨h2, hh2⟩ : ∃ h, h = has xs (t + d) := ⟨_, rfl⟩
                  have A1 : Hid (∀ a c w, SpansAt a xs w → Calls Try.prog 23 #[.slice a n1 c, .int .i64 (f + d)] w fun r w' => r = .returned (.bool h1) ∧ Below w.heap.size w w') := fun a c w z => (has_at HN1.out (Nat.le_trans g1 (by decide)) (f + d) a c w z).mono fun r w' ⟨hr, hw⟩ => ⟨hr.trans (ret_bool hh1.symm), hw⟩
                  have A2 : Hid (∀ a c w, SpansAt a (norm xs) w → Calls Try.prog 23 #[.slice a nN c, .int .i64 (f + d)] w fun r w' => r = .returned (.bool h1) ∧ Below w.heap.size w w') := fun a c w z => (has_at HNN.out (Nat.le_trans hnb (by decide)) (f + d) a c w z).mono fun r w' ⟨hr, hw⟩ => ⟨hr.trans (ret_bool ((has_norm xs _).trans hh1.symm)), hw⟩
                  have A3 : Hid (∀ a c w, SpansAt a xs w → Calls Try.prog 23 #[.slice a n1 c, .int .i64 (t + d)] w fun r w' => r = .returned (.bool h2) ∧ Below w.heap.size w w') := fun a c w z => (has_at HN1.out (Nat.le_trans g1 (by decide)) (t + d) a c w z).mono fun r w' ⟨hr, hw⟩ => ⟨hr.trans (ret_bool hh2.symm), hw⟩
                  have A4 : Hid (∀ a c w, SpansAt a (norm xs) w → Calls Try.prog 23 #[.slice a nN c, .int .i64 (t + d)] w fun r w' => r = .returned (.bool h2) ∧ Below w.heap.size w w') := fun a c w z => (has_at HNN.out (Nat.le_trans hnb (by decide)) (t + d) a c w z).mono fun r w' ⟨hr, hw⟩ => ⟨hr.trans (ret_bool ((has_norm xs _).trans hh2.symm)), hw⟩
                  have x1 : (h1 != h1) = false := by simp
                  have x2 : (h2 != h2) = false := by simp
                  clear hh1 hh2 u1 u2 u3 u4
                  go_upto_region 19 with (fail)
                  refine wp_region_held_drew (S := fun W => W.cell? ⟨xb, 0, none⟩ = some (.int .i64 f) ∧ W.cell? ⟨xb, 1, none⟩ = some (.int .i64 t) ∧ Below W5.heap.size W5 W) hmix ⟨e1, e2, hk.trans ((Below.refl _ wr).drew.mono hk.size)⟩ (fun hHeld => ?_)
                  clear e1 e2 hk
                  refine wpAnyH_take (i := 0) (v := ?_) rfl (by kernel_rfl) (by kernel_rfl) (by kernel_rfl) (fun _ _ _ h => h) (Or.inl ⟨by rfl, ?_⟩) (by assumption) ?_
                  rotate_left
                  · intro w hSw; (try dsimp only at hSw); go_simp; (try with_reducible rfl)
                  (try simp only [Act.put, List.getElem_toArray, List.getElem_cons_zero, List.setIfInBounds_toArray, List.set_cons_zero, List.set_cons_succ])
                  refine wpAnyH_ready (rs := [1]) (by kernel_rfl) (by simp) ?_
                  refine AllReadyH.cons rfl (fun K hK => ?_) AllReadyH.nil
                  go_simp
                  refine (FAR.out _).mono ?_; rintro _ wc ⟨rfl, kc⟩
                  refine hK.out _ _ ⟨cell_kept (hHeld.2.2.trans (kc.mono hHeld.2.2.size)) HE12.out.1, cell_kept (hHeld.2.2.trans (kc.mono hHeld.2.2.size)) HE12.out.2, hHeld.2.2.trans (kc.mono hHeld.2.2.size)⟩ (fun hHeld => ?_)
                  clear hK K
                  (try simp only [Act.put, List.getElem_toArray, List.getElem_cons_succ, List.getElem_cons_zero, List.setIfInBounds_toArray, List.set_cons_zero, List.set_cons_succ])
                  refine wpAnyH_take (i := 2) (v := ?_) rfl (by kernel_rfl) (by kernel_rfl) (by kernel_rfl) (fun _ _ _ h => h) (Or.inl ⟨by rfl, ?_⟩) (by assumption) ?_
                  rotate_left
                  · intro w hSw; (try dsimp only at hSw); go_simp; (try with_reducible rfl)
                  (try simp only [Act.put, List.getElem_toArray, List.getElem_cons_succ, List.getElem_cons_zero, List.setIfInBounds_toArray, List.set_cons_zero, List.set_cons_succ])
                  refine wpAnyH_take (i := 3) (v := ?_) rfl (by kernel_rfl) (by kernel_rfl) (by kernel_rfl) (fun _ _ _ h => h) (Or.inl ⟨by rfl, ?_⟩) (by assumption) ?_
                  rotate_left
                  · intro w hSw; (try dsimp only at hSw); go_simp; (try with_reducible rfl)
                  (try simp only [Act.put, List.getElem_toArray, List.getElem_cons_succ, List.getElem_cons_zero, List.setIfInBounds_toArray, List.set_cons_zero, List.set_cons_succ])
                  refine wpAnyH_take (i := 4) (v := ?_) rfl (by kernel_rfl) (by kernel_rfl) (by kernel_rfl) (fun _ _ _ h => h) (Or.inl ⟨by rfl, ?_⟩) (by assumption) ?_
                  rotate_left
                  · intro w hSw; (try dsimp only at hSw); go_simp; (try with_reducible rfl)
                  (try simp only [Act.put, List.getElem_toArray, List.getElem_cons_succ, List.getElem_cons_zero, List.setIfInBounds_toArray, List.set_cons_zero, List.set_cons_succ])
                  refine wpAnyH_take (i := 5) (v := ?_) rfl (by kernel_rfl) (by kernel_rfl) (by kernel_rfl) (fun _ _ _ h => h) (Or.inl ⟨by rfl, ?_⟩) (by assumption) ?_
                  rotate_left
                  · intro w hSw; (try dsimp only at hSw); go_simp; (try with_reducible rfl)
                  (try simp only [Act.put, List.getElem_toArray, List.getElem_cons_succ, List.getElem_cons_zero, List.setIfInBounds_toArray, List.set_cons_zero, List.set_cons_succ])
                  refine wpAnyH_take (i := 6) (v := ?_) rfl (by kernel_rfl) (by kernel_rfl) (by kernel_rfl) (fun _ _ _ h => h) (Or.inl ⟨by rfl, ?_⟩) (by assumption) ?_
                  rotate_left
                  · intro w hSw; (try dsimp only at hSw); go_simp; (try with_reducible rfl)
                  (try simp only [Act.put, List.getElem_toArray, List.getElem_cons_succ, List.getElem_cons_zero, List.setIfInBounds_toArray, List.set_cons_zero, List.set_cons_succ])
                  refine wpAnyH_take (i := 7) (v := ?_) rfl (by kernel_rfl) (by kernel_rfl) (by kernel_rfl) (fun _ _ _ h => h) (Or.inl ⟨by rfl, ?_⟩) (by assumption) ?_
                  rotate_left
                  · intro w hSw; (try dsimp only at hSw); go_simp; (try with_reducible rfl)
                  (try simp only [Act.put, List.getElem_toArray, List.getElem_cons_succ, List.getElem_cons_zero, List.setIfInBounds_toArray, List.set_cons_zero, List.set_cons_succ])
                  refine wpAnyH_take (i := 9) (v := ?_) rfl (by kernel_rfl) (by kernel_rfl) (by kernel_rfl) (fun _ _ _ h => h) (Or.inl ⟨by rfl, ?_⟩) (by assumption) ?_
                  rotate_left
                  · intro w hSw; (try dsimp only at hSw); go_simp; (try with_reducible rfl)
                  (try simp only [Act.put, List.getElem_toArray, List.getElem_cons_succ, List.getElem_cons_zero, List.setIfInBounds_toArray, List.set_cons_zero, List.set_cons_succ])
                  refine wpAnyH_take (i := 10) (v := ?_) rfl (by kernel_rfl) (by kernel_rfl) (by kernel_rfl) (fun _ _ _ h => h) (Or.inl ⟨by rfl, ?_⟩) (by assumption) ?_
                  rotate_left
                  · intro w hSw; (try dsimp only at hSw); go_simp; (try with_reducible rfl)
                  (try simp only [Act.put, List.getElem_toArray, List.getElem_cons_succ, List.getElem_cons_zero, List.setIfInBounds_toArray, List.set_cons_zero, List.set_cons_succ])
                  refine wpAnyH_take (i := 11) (v := ?_) rfl (by kernel_rfl) (by kernel_rfl) (by kernel_rfl) (fun _ _ _ h => h) (Or.inl ⟨by rfl, ?_⟩) (by assumption) ?_
                  rotate_left
                  · intro w hSw; (try dsimp only at hSw); go_simp; (try with_reducible rfl)
                  (try simp only [Act.put, List.getElem_toArray, List.getElem_cons_succ, List.getElem_cons_zero, List.setIfInBounds_toArray, List.set_cons_zero, List.set_cons_succ])
                  refine wpAnyH_take (i := 12) (v := ?_) rfl (by kernel_rfl) (by kernel_rfl) (by kernel_rfl) (fun _ _ _ h => h) (Or.inl ⟨by rfl, ?_⟩) (by assumption) ?_
                  rotate_left
                  · intro w hSw; (try dsimp only at hSw); go_simp; (try with_reducible rfl)
                  (try simp only [Act.put, List.getElem_toArray, List.getElem_cons_succ, List.getElem_cons_zero, List.setIfInBounds_toArray, List.set_cons_zero, List.set_cons_succ])
                  refine wpAnyH_take (i := 13) (v := ?_) rfl (by kernel_rfl) (by kernel_rfl) (by kernel_rfl) (fun _ _ _ h => h) (Or.inl ⟨by rfl, ?_⟩) (by assumption) ?_
                  rotate_left
                  · intro w hSw; (try dsimp only at hSw); go_simp; (try with_reducible rfl)
                  (try simp only [Act.put, List.getElem_toArray, List.getElem_cons_succ, List.getElem_cons_zero, List.setIfInBounds_toArray, List.set_cons_zero, List.set_cons_succ])
                  refine wpAnyH_ready (rs := [8]) (by kernel_rfl) (by simp) ?_
                  refine AllReadyH.cons rfl (fun K hK => ?_) AllReadyH.nil
                  go_simp
                  refine (A1.out _ _ _ (HX5.out _ hHeld.2.2)).mono ?_; rintro _ wc ⟨rfl, kc⟩
                  refine hK.out _ _ ⟨cell_kept (hHeld.2.2.trans (kc.mono hHeld.2.2.size)) HE12.out.1, cell_kept (hHeld.2.2.trans (kc.mono hHeld.2.2.size)) HE12.out.2, hHeld.2.2.trans (kc.mono hHeld.2.2.size)⟩ (fun hHeld => ?_)
                  clear hK K
                  (try simp only [Act.put, List.getElem_toArray, List.getElem_cons_succ, List.getElem_cons_zero, List.setIfInBounds_toArray, List.set_cons_zero, List.set_cons_succ])
                  refine wpAnyH_ready (rs := [14]) (by kernel_rfl) (by simp) ?_
                  refine AllReadyH.cons rfl (fun K hK => ?_) AllReadyH.nil
                  go_simp
                  refine (A2.out _ _ _ (HN5.out _ hHeld.2.2)).mono ?_; rintro _ wc ⟨rfl, kc⟩
                  refine hK.out _ _ ⟨cell_kept (hHeld.2.2.trans (kc.mono hHeld.2.2.size)) HE12.out.1, cell_kept (hHeld.2.2.trans (kc.mono hHeld.2.2.size)) HE12.out.2, hHeld.2.2.trans (kc.mono hHeld.2.2.size)⟩ (fun hHeld => ?_)
                  clear hK K
                  (try simp only [Act.put, List.getElem_toArray, List.getElem_cons_succ, List.getElem_cons_zero, List.setIfInBounds_toArray, List.set_cons_zero, List.set_cons_succ])
                  refine wpAnyH_take (i := 15) (v := ?_) rfl (by kernel_rfl) (by kernel_rfl) (by kernel_rfl) (fun _ _ _ h => h) (Or.inl ⟨by rfl, ?_⟩) (by assumption) ?_
                  rotate_left
                  · intro w hSw; (try dsimp only at hSw); go_simp; (try with_reducible rfl)
                  (try simp only [Act.put, List.getElem_toArray, List.getElem_cons_succ, List.getElem_cons_zero, List.setIfInBounds_toArray, List.set_cons_zero, List.set_cons_succ])
                  (try simp only [x1])
                  refine wpAnyH_take (i := 16) (v := ?_) rfl (by kernel_rfl) (by kernel_rfl) (by kernel_rfl) (fun _ _ _ h => h) (Or.inl ⟨by rfl, ?_⟩) (by assumption) ?_
                  rotate_left
                  · intro w hSw; (try dsimp only at hSw); go_simp; (try with_reducible rfl)
                  (try simp only [Act.put, List.getElem_toArray, List.getElem_cons_succ, List.getElem_cons_zero, List.setIfInBounds_toArray, List.set_cons_zero, List.set_cons_succ])
                  refine wpAnyH_take (i := 17) (v := ?_) rfl (by kernel_rfl) (by kernel_rfl) (by kernel_rfl) (fun _ _ _ h => h) (Or.inl ⟨by rfl, ?_⟩) (by assumption) ?_
                  rotate_left
                  · intro w hSw; (try dsimp only at hSw); go_simp; (try with_reducible rfl)
                  (try simp only [Act.put, List.getElem_toArray, List.getElem_cons_succ, List.getElem_cons_zero, List.setIfInBounds_toArray, List.set_cons_zero, List.set_cons_succ])
                  refine wpAnyH_take (i := 18) (v := ?_) rfl (by kernel_rfl) (by kernel_rfl) (by kernel_rfl) (fun _ _ _ h => h) (Or.inl ⟨by rfl, ?_⟩) (by assumption) ?_
                  rotate_left
                  · intro w hSw; (try dsimp only at hSw); go_simp; (try with_reducible rfl)
                  (try simp only [Act.put, List.getElem_toArray, List.getElem_cons_succ, List.getElem_cons_zero, List.setIfInBounds_toArray, List.set_cons_zero, List.set_cons_succ])
                  refine wpAnyH_take (i := 19) (v := ?_) rfl (by kernel_rfl) (by kernel_rfl) (by kernel_rfl) (fun _ _ _ h => h) (Or.inl ⟨by rfl, ?_⟩) (by assumption) ?_
                  rotate_left
                  · intro w hSw; (try dsimp only at hSw); go_simp; (try with_reducible rfl)
                  (try simp only [Act.put, List.getElem_toArray, List.getElem_cons_succ, List.getElem_cons_zero, List.setIfInBounds_toArray, List.set_cons_zero, List.set_cons_succ])
                  refine wpAnyH_take (i := 20) (v := ?_) rfl (by kernel_rfl) (by kernel_rfl) (by kernel_rfl) (fun _ _ _ h => h) (Or.inl ⟨by rfl, ?_⟩) (by assumption) ?_
                  rotate_left
                  · intro w hSw; (try dsimp only at hSw); go_simp; (try with_reducible rfl)
                  (try simp only [Act.put, List.getElem_toArray, List.getElem_cons_succ, List.getElem_cons_zero, List.setIfInBounds_toArray, List.set_cons_zero, List.set_cons_succ])
                  refine wpAnyH_take (i := 21) (v := ?_) rfl (by kernel_rfl) (by kernel_rfl) (by kernel_rfl) (fun _ _ _ h => h) (Or.inl ⟨by rfl, ?_⟩) (by assumption) ?_
                  rotate_left
                  · intro w hSw; (try dsimp only at hSw); go_simp; (try with_reducible rfl)
                  (try simp only [Act.put, List.getElem_toArray, List.getElem_cons_succ, List.getElem_cons_zero, List.setIfInBounds_toArray, List.set_cons_zero, List.set_cons_succ])
                  refine wpAnyH_take (i := 23) (v := ?_) rfl (by kernel_rfl) (by kernel_rfl) (by kernel_rfl) (fun _ _ _ h => h) (Or.inl ⟨by rfl, ?_⟩) (by assumption) ?_
                  rotate_left
                  · intro w hSw; (try dsimp only at hSw); go_simp; (try with_reducible rfl)
                  (try simp only [Act.put, List.getElem_toArray, List.getElem_cons_succ, List.getElem_cons_zero, List.setIfInBounds_toArray, List.set_cons_zero, List.set_cons_succ])
                  refine wpAnyH_take (i := 24) (v := ?_) rfl (by kernel_rfl) (by kernel_rfl) (by kernel_rfl) (fun _ _ _ h => h) (Or.inl ⟨by rfl, ?_⟩) (by assumption) ?_
                  rotate_left
                  · intro w hSw; (try dsimp only at hSw); go_simp; (try with_reducible rfl)
                  (try simp only [Act.put, List.getElem_toArray, List.getElem_cons_succ, List.getElem_cons_zero, List.setIfInBounds_toArray, List.set_cons_zero, List.set_cons_succ])
                  refine wpAnyH_take (i := 25) (v := ?_) rfl (by kernel_rfl) (by kernel_rfl) (by kernel_rfl) (fun _ _ _ h => h) (Or.inl ⟨by rfl, ?_⟩) (by assumption) ?_
                  rotate_left
                  · intro w hSw; (try dsimp only at hSw); go_simp; (try with_reducible rfl)
                  (try simp only [Act.put, List.getElem_toArray, List.getElem_cons_succ, List.getElem_cons_zero, List.setIfInBounds_toArray, List.set_cons_zero, List.set_cons_succ])
                  refine wpAnyH_take (i := 26) (v := ?_) rfl (by kernel_rfl) (by kernel_rfl) (by kernel_rfl) (fun _ _ _ h => h) (Or.inl ⟨by rfl, ?_⟩) (by assumption) ?_
                  rotate_left
                  · intro w hSw; (try dsimp only at hSw); go_simp; (try with_reducible rfl)
                  (try simp only [Act.put, List.getElem_toArray, List.getElem_cons_succ, List.getElem_cons_zero, List.setIfInBounds_toArray, List.set_cons_zero, List.set_cons_succ])
                  refine wpAnyH_take (i := 27) (v := ?_) rfl (by kernel_rfl) (by kernel_rfl) (by kernel_rfl) (fun _ _ _ h => h) (Or.inl ⟨by rfl, ?_⟩) (by assumption) ?_
                  rotate_left
                  · intro w hSw; (try dsimp only at hSw); go_simp; (try with_reducible rfl)
                  (try simp only [Act.put, List.getElem_toArray, List.getElem_cons_succ, List.getElem_cons_zero, List.setIfInBounds_toArray, List.set_cons_zero, List.set_cons_succ])
                  refine wpAnyH_ready (rs := [22]) (by kernel_rfl) (by simp) ?_
                  refine AllReadyH.cons rfl (fun K hK => ?_) AllReadyH.nil
                  go_simp
                  refine (A3.out _ _ _ (HX5.out _ hHeld.2.2)).mono ?_; rintro _ wc ⟨rfl, kc⟩
                  refine hK.out _ _ ⟨cell_kept (hHeld.2.2.trans (kc.mono hHeld.2.2.size)) HE12.out.1, cell_kept (hHeld.2.2.trans (kc.mono hHeld.2.2.size)) HE12.out.2, hHeld.2.2.trans (kc.mono hHeld.2.2.size)⟩ (fun hHeld => ?_)
                  clear hK K
                  (try simp only [Act.put, List.getElem_toArray, List.getElem_cons_succ, List.getElem_cons_zero, List.setIfInBounds_toArray, List.set_cons_zero, List.set_cons_succ])
                  refine wpAnyH_ready (rs := [28]) (by kernel_rfl) (by simp) ?_
                  refine AllReadyH.cons rfl (fun K hK => ?_) AllReadyH.nil
                  go_simp
                  refine (A4.out _ _ _ (HN5.out _ hHeld.2.2)).mono ?_; rintro _ wc ⟨rfl, kc⟩
                  refine hK.out _ _ ⟨cell_kept (hHeld.2.2.trans (kc.mono hHeld.2.2.size)) HE12.out.1, cell_kept (hHeld.2.2.trans (kc.mono hHeld.2.2.size)) HE12.out.2, hHeld.2.2.trans (kc.mono hHeld.2.2.size)⟩ (fun hHeld => ?_)
                  clear hK K
                  (try simp only [Act.put, List.getElem_toArray, List.getElem_cons_succ, List.getElem_cons_zero, List.setIfInBounds_toArray, List.set_cons_zero, List.set_cons_succ])
                  refine wpAnyH_take (i := 29) (v := ?_) rfl (by kernel_rfl) (by kernel_rfl) (by kernel_rfl) (fun _ _ _ h => h) (Or.inl ⟨by rfl, ?_⟩) (by assumption) ?_
                  rotate_left
                  · intro w hSw; (try dsimp only at hSw); go_simp; (try with_reducible rfl)
                  (try simp only [Act.put, List.getElem_toArray, List.getElem_cons_succ, List.getElem_cons_zero, List.setIfInBounds_toArray, List.set_cons_zero, List.set_cons_succ])
                  (try simp only [x2])
                  refine wpAnyH_take (i := 30) (v := ?_) rfl (by kernel_rfl) (by kernel_rfl) (by kernel_rfl) (fun _ _ _ h => h) (Or.inl ⟨by rfl, ?_⟩) (by assumption) ?_
                  rotate_left
                  · intro w hSw; (try dsimp only at hSw); go_simp; (try with_reducible rfl)
                  (try simp only [Act.put, List.getElem_toArray, List.getElem_cons_succ, List.getElem_cons_zero, List.setIfInBounds_toArray, List.set_cons_zero, List.set_cons_succ])
                  refine wpAnyH_take (i := 31) (v := ?_) rfl (by kernel_rfl) (by kernel_rfl) (by kernel_rfl) (fun _ _ _ h => h) (Or.inl ⟨by rfl, ?_⟩) (by assumption) ?_
                  rotate_left
                  · intro w hSw; (try dsimp only at hSw); go_simp; (try with_reducible rfl)
                  (try simp only [Act.put, List.getElem_toArray, List.getElem_cons_succ, List.getElem_cons_zero, List.setIfInBounds_toArray, List.set_cons_zero, List.set_cons_succ])
                  refine wpAnyH_done (by kernel_rfl) ?_ _
                  go_wp2
                  go_roundg gi
                  case measure => omega
                  case rel => exact ⟨d + 1, by omega, by omega, by go_num, hHeld.2.2⟩
                · have FAR : Hid (∀ w, Calls Try.prog 27 #[sv f t] w fun r w' => r = .returned (.bool false) ∧ Below w.heap.size w w') := fun w => (far_any f t w).mono fun r w' ⟨hr, hw⟩ => ⟨hr.trans (ret_bool (decide_eq_false hF)), hw⟩
                  clear hF
                  go_upto_region 19 with (fail)
                  refine wp_region_held_drew (S := fun W => W.cell? ⟨xb, 0, none⟩ = some (.int .i64 f) ∧ W.cell? ⟨xb, 1, none⟩ = some (.int .i64 t) ∧ Below W5.heap.size W5 W) hmix ⟨e1, e2, hk.trans ((Below.refl _ wr).drew.mono hk.size)⟩ (fun hHeld => ?_)
                  clear e1 e2 hk
                  refine wpAnyH_take (i := 0) (v := ?_) rfl (by kernel_rfl) (by kernel_rfl) (by kernel_rfl) (fun _ _ _ h => h) (Or.inl ⟨by rfl, ?_⟩) (by assumption) ?_
                  rotate_left
                  · intro w hSw; (try dsimp only at hSw); go_simp; (try with_reducible rfl)
                  (try simp only [Act.put, List.getElem_toArray, List.getElem_cons_zero, List.setIfInBounds_toArray, List.set_cons_zero, List.set_cons_succ])
                  refine wpAnyH_ready (rs := [1]) (by kernel_rfl) (by simp) ?_
                  refine AllReadyH.cons rfl (fun K hK => ?_) AllReadyH.nil
                  go_simp
                  refine (FAR.out _).mono ?_; rintro _ wc ⟨rfl, kc⟩
                  refine hK.out _ _ ⟨cell_kept (hHeld.2.2.trans (kc.mono hHeld.2.2.size)) HE12.out.1, cell_kept (hHeld.2.2.trans (kc.mono hHeld.2.2.size)) HE12.out.2, hHeld.2.2.trans (kc.mono hHeld.2.2.size)⟩ (fun hHeld => ?_)
                  clear hK K
                  (try simp only [Act.put, List.getElem_toArray, List.getElem_cons_succ, List.getElem_cons_zero, List.setIfInBounds_toArray, List.set_cons_zero, List.set_cons_succ])
                  refine wpAnyH_take (i := 2) (v := ?_) rfl (by kernel_rfl) (by kernel_rfl) (by kernel_rfl) (fun _ _ _ h => h) (Or.inl ⟨by rfl, ?_⟩) (by assumption) ?_
                  rotate_left
                  · intro w hSw; (try dsimp only at hSw); go_simp; (try with_reducible rfl)
                  (try simp only [Act.put, List.getElem_toArray, List.getElem_cons_succ, List.getElem_cons_zero, List.setIfInBounds_toArray, List.set_cons_zero, List.set_cons_succ])
                  refine wpAnyH_take (i := 3) (v := undef) rfl (by kernel_rfl) (by kernel_rfl) (by kernel_rfl) (fun _ _ _ h => h) (Or.inr ⟨by rfl, rfl⟩) (by assumption) ?_
                  (try simp only [Act.put, List.getElem_toArray, List.getElem_cons_succ, List.getElem_cons_zero, List.setIfInBounds_toArray, List.set_cons_zero, List.set_cons_succ])
                  refine wpAnyH_take (i := 4) (v := undef) rfl (by kernel_rfl) (by kernel_rfl) (by kernel_rfl) (fun _ _ _ h => h) (Or.inr ⟨by rfl, rfl⟩) (by assumption) ?_
                  (try simp only [Act.put, List.getElem_toArray, List.getElem_cons_succ, List.getElem_cons_zero, List.setIfInBounds_toArray, List.set_cons_zero, List.set_cons_succ])
                  refine wpAnyH_take (i := 5) (v := undef) rfl (by kernel_rfl) (by kernel_rfl) (by kernel_rfl) (fun _ _ _ h => h) (Or.inr ⟨by rfl, rfl⟩) (by assumption) ?_
                  (try simp only [Act.put, List.getElem_toArray, List.getElem_cons_succ, List.getElem_cons_zero, List.setIfInBounds_toArray, List.set_cons_zero, List.set_cons_succ])
                  refine wpAnyH_take (i := 6) (v := undef) rfl (by kernel_rfl) (by kernel_rfl) (by kernel_rfl) (fun _ _ _ h => h) (Or.inr ⟨by rfl, rfl⟩) (by assumption) ?_
                  (try simp only [Act.put, List.getElem_toArray, List.getElem_cons_succ, List.getElem_cons_zero, List.setIfInBounds_toArray, List.set_cons_zero, List.set_cons_succ])
                  refine wpAnyH_take (i := 7) (v := undef) rfl (by kernel_rfl) (by kernel_rfl) (by kernel_rfl) (fun _ _ _ h => h) (Or.inr ⟨by rfl, rfl⟩) (by assumption) ?_
                  (try simp only [Act.put, List.getElem_toArray, List.getElem_cons_succ, List.getElem_cons_zero, List.setIfInBounds_toArray, List.set_cons_zero, List.set_cons_succ])
                  refine wpAnyH_take (i := 8) (v := undef) rfl (by kernel_rfl) (by kernel_rfl) (by kernel_rfl) (fun _ _ _ h => h) (Or.inr ⟨by rfl, rfl⟩) (by assumption) ?_
                  (try simp only [Act.put, List.getElem_toArray, List.getElem_cons_succ, List.getElem_cons_zero, List.setIfInBounds_toArray, List.set_cons_zero, List.set_cons_succ])
                  refine wpAnyH_take (i := 9) (v := undef) rfl (by kernel_rfl) (by kernel_rfl) (by kernel_rfl) (fun _ _ _ h => h) (Or.inr ⟨by rfl, rfl⟩) (by assumption) ?_
                  (try simp only [Act.put, List.getElem_toArray, List.getElem_cons_succ, List.getElem_cons_zero, List.setIfInBounds_toArray, List.set_cons_zero, List.set_cons_succ])
                  refine wpAnyH_take (i := 10) (v := undef) rfl (by kernel_rfl) (by kernel_rfl) (by kernel_rfl) (fun _ _ _ h => h) (Or.inr ⟨by rfl, rfl⟩) (by assumption) ?_
                  (try simp only [Act.put, List.getElem_toArray, List.getElem_cons_succ, List.getElem_cons_zero, List.setIfInBounds_toArray, List.set_cons_zero, List.set_cons_succ])
                  refine wpAnyH_take (i := 11) (v := undef) rfl (by kernel_rfl) (by kernel_rfl) (by kernel_rfl) (fun _ _ _ h => h) (Or.inr ⟨by rfl, rfl⟩) (by assumption) ?_
                  (try simp only [Act.put, List.getElem_toArray, List.getElem_cons_succ, List.getElem_cons_zero, List.setIfInBounds_toArray, List.set_cons_zero, List.set_cons_succ])
                  refine wpAnyH_take (i := 12) (v := undef) rfl (by kernel_rfl) (by kernel_rfl) (by kernel_rfl) (fun _ _ _ h => h) (Or.inr ⟨by rfl, rfl⟩) (by assumption) ?_
                  (try simp only [Act.put, List.getElem_toArray, List.getElem_cons_succ, List.getElem_cons_zero, List.setIfInBounds_toArray, List.set_cons_zero, List.set_cons_succ])
                  refine wpAnyH_take (i := 13) (v := undef) rfl (by kernel_rfl) (by kernel_rfl) (by kernel_rfl) (fun _ _ _ h => h) (Or.inr ⟨by rfl, rfl⟩) (by assumption) ?_
                  (try simp only [Act.put, List.getElem_toArray, List.getElem_cons_succ, List.getElem_cons_zero, List.setIfInBounds_toArray, List.set_cons_zero, List.set_cons_succ])
                  refine wpAnyH_take (i := 14) (v := undef) rfl (by kernel_rfl) (by kernel_rfl) (by kernel_rfl) (fun _ _ _ h => h) (Or.inr ⟨by rfl, rfl⟩) (by assumption) ?_
                  (try simp only [Act.put, List.getElem_toArray, List.getElem_cons_succ, List.getElem_cons_zero, List.setIfInBounds_toArray, List.set_cons_zero, List.set_cons_succ])
                  refine wpAnyH_take (i := 15) (v := undef) rfl (by kernel_rfl) (by kernel_rfl) (by kernel_rfl) (fun _ _ _ h => h) (Or.inr ⟨by rfl, rfl⟩) (by assumption) ?_
                  (try simp only [Act.put, List.getElem_toArray, List.getElem_cons_succ, List.getElem_cons_zero, List.setIfInBounds_toArray, List.set_cons_zero, List.set_cons_succ])
                  refine wpAnyH_take (i := 16) (v := undef) rfl (by kernel_rfl) (by kernel_rfl) (by kernel_rfl) (fun _ _ _ h => h) (Or.inr ⟨by rfl, rfl⟩) (by assumption) ?_
                  (try simp only [Act.put, List.getElem_toArray, List.getElem_cons_succ, List.getElem_cons_zero, List.setIfInBounds_toArray, List.set_cons_zero, List.set_cons_succ])
                  refine wpAnyH_take (i := 17) (v := undef) rfl (by kernel_rfl) (by kernel_rfl) (by kernel_rfl) (fun _ _ _ h => h) (Or.inr ⟨by rfl, rfl⟩) (by assumption) ?_
                  (try simp only [Act.put, List.getElem_toArray, List.getElem_cons_succ, List.getElem_cons_zero, List.setIfInBounds_toArray, List.set_cons_zero, List.set_cons_succ])
                  refine wpAnyH_take (i := 18) (v := undef) rfl (by kernel_rfl) (by kernel_rfl) (by kernel_rfl) (fun _ _ _ h => h) (Or.inr ⟨by rfl, rfl⟩) (by assumption) ?_
                  (try simp only [Act.put, List.getElem_toArray, List.getElem_cons_succ, List.getElem_cons_zero, List.setIfInBounds_toArray, List.set_cons_zero, List.set_cons_succ])
                  refine wpAnyH_take (i := 19) (v := undef) rfl (by kernel_rfl) (by kernel_rfl) (by kernel_rfl) (fun _ _ _ h => h) (Or.inr ⟨by rfl, rfl⟩) (by assumption) ?_
                  (try simp only [Act.put, List.getElem_toArray, List.getElem_cons_succ, List.getElem_cons_zero, List.setIfInBounds_toArray, List.set_cons_zero, List.set_cons_succ])
                  refine wpAnyH_take (i := 20) (v := undef) rfl (by kernel_rfl) (by kernel_rfl) (by kernel_rfl) (fun _ _ _ h => h) (Or.inr ⟨by rfl, rfl⟩) (by assumption) ?_
                  (try simp only [Act.put, List.getElem_toArray, List.getElem_cons_succ, List.getElem_cons_zero, List.setIfInBounds_toArray, List.set_cons_zero, List.set_cons_succ])
                  refine wpAnyH_take (i := 21) (v := undef) rfl (by kernel_rfl) (by kernel_rfl) (by kernel_rfl) (fun _ _ _ h => h) (Or.inr ⟨by rfl, rfl⟩) (by assumption) ?_
                  (try simp only [Act.put, List.getElem_toArray, List.getElem_cons_succ, List.getElem_cons_zero, List.setIfInBounds_toArray, List.set_cons_zero, List.set_cons_succ])
                  refine wpAnyH_take (i := 22) (v := undef) rfl (by kernel_rfl) (by kernel_rfl) (by kernel_rfl) (fun _ _ _ h => h) (Or.inr ⟨by rfl, rfl⟩) (by assumption) ?_
                  (try simp only [Act.put, List.getElem_toArray, List.getElem_cons_succ, List.getElem_cons_zero, List.setIfInBounds_toArray, List.set_cons_zero, List.set_cons_succ])
                  refine wpAnyH_take (i := 23) (v := undef) rfl (by kernel_rfl) (by kernel_rfl) (by kernel_rfl) (fun _ _ _ h => h) (Or.inr ⟨by rfl, rfl⟩) (by assumption) ?_
                  (try simp only [Act.put, List.getElem_toArray, List.getElem_cons_succ, List.getElem_cons_zero, List.setIfInBounds_toArray, List.set_cons_zero, List.set_cons_succ])
                  refine wpAnyH_take (i := 24) (v := undef) rfl (by kernel_rfl) (by kernel_rfl) (by kernel_rfl) (fun _ _ _ h => h) (Or.inr ⟨by rfl, rfl⟩) (by assumption) ?_
                  (try simp only [Act.put, List.getElem_toArray, List.getElem_cons_succ, List.getElem_cons_zero, List.setIfInBounds_toArray, List.set_cons_zero, List.set_cons_succ])
                  refine wpAnyH_take (i := 25) (v := undef) rfl (by kernel_rfl) (by kernel_rfl) (by kernel_rfl) (fun _ _ _ h => h) (Or.inr ⟨by rfl, rfl⟩) (by assumption) ?_
                  (try simp only [Act.put, List.getElem_toArray, List.getElem_cons_succ, List.getElem_cons_zero, List.setIfInBounds_toArray, List.set_cons_zero, List.set_cons_succ])
                  refine wpAnyH_take (i := 26) (v := undef) rfl (by kernel_rfl) (by kernel_rfl) (by kernel_rfl) (fun _ _ _ h => h) (Or.inr ⟨by rfl, rfl⟩) (by assumption) ?_
                  (try simp only [Act.put, List.getElem_toArray, List.getElem_cons_succ, List.getElem_cons_zero, List.setIfInBounds_toArray, List.set_cons_zero, List.set_cons_succ])
                  refine wpAnyH_take (i := 27) (v := undef) rfl (by kernel_rfl) (by kernel_rfl) (by kernel_rfl) (fun _ _ _ h => h) (Or.inr ⟨by rfl, rfl⟩) (by assumption) ?_
                  (try simp only [Act.put, List.getElem_toArray, List.getElem_cons_succ, List.getElem_cons_zero, List.setIfInBounds_toArray, List.set_cons_zero, List.set_cons_succ])
                  refine wpAnyH_take (i := 28) (v := undef) rfl (by kernel_rfl) (by kernel_rfl) (by kernel_rfl) (fun _ _ _ h => h) (Or.inr ⟨by rfl, rfl⟩) (by assumption) ?_
                  (try simp only [Act.put, List.getElem_toArray, List.getElem_cons_succ, List.getElem_cons_zero, List.setIfInBounds_toArray, List.set_cons_zero, List.set_cons_succ])
                  refine wpAnyH_take (i := 29) (v := undef) rfl (by kernel_rfl) (by kernel_rfl) (by kernel_rfl) (fun _ _ _ h => h) (Or.inr ⟨by rfl, rfl⟩) (by assumption) ?_
                  (try simp only [Act.put, List.getElem_toArray, List.getElem_cons_succ, List.getElem_cons_zero, List.setIfInBounds_toArray, List.set_cons_zero, List.set_cons_succ])
                  refine wpAnyH_take (i := 30) (v := undef) rfl (by kernel_rfl) (by kernel_rfl) (by kernel_rfl) (fun _ _ _ h => h) (Or.inr ⟨by rfl, rfl⟩) (by assumption) ?_
                  (try simp only [Act.put, List.getElem_toArray, List.getElem_cons_succ, List.getElem_cons_zero, List.setIfInBounds_toArray, List.set_cons_zero, List.set_cons_succ])
                  refine wpAnyH_take (i := 31) (v := ?_) rfl (by kernel_rfl) (by kernel_rfl) (by kernel_rfl) (fun _ _ _ h => h) (Or.inl ⟨by rfl, ?_⟩) (by assumption) ?_
                  rotate_left
                  · intro w hSw; (try dsimp only at hSw); go_simp; (try with_reducible rfl)
                  (try simp only [Act.put, List.getElem_toArray, List.getElem_cons_succ, List.getElem_cons_zero, List.setIfInBounds_toArray, List.set_cons_zero, List.set_cons_succ])
                  refine wpAnyH_done (by kernel_rfl) ?_ _
                  go_wp2
                  go_roundg gi
                  case measure => omega
                  case rel => exact ⟨d + 1, by omega, by omega, by go_num, hHeld.2.2⟩
          | zero =>
            have hlt : ¬ (i : Int) < (nn : Int) := by omega
            have hb := HB2.out.trans (hk2.mono HB2.out.size)
            have hk1 := HB12.out.trans (hk2.mono HB12.out.size)
            have HB := Lib.hid hb
            have HK := Lib.hid hk1
            have SHF := Lib.hid (shuffled_at HN1.out (Nat.le_trans g1 (by decide)) HPQ.out.1)
            clear hk2 hk1
            go_upto_region 23 with (first
              | (go_at_call 28; (with_reducible refine (SHF.out _ _ _ (HX1.out _ hb)).mono ?_); rintro _ W7 ⟨v7, rfl, sh, hl7, hm7, hr7, k7⟩; have HL7 := Lib.hid hl7; have HM7 := Lib.hid hm7; have HR7 := Lib.hid hr7; have HS7 := Lib.hid k7.size; replace hb := hb.trans (k7.mono hb.size); have HK7 := Lib.hid (HK.out.trans (k7.mono HK.out.size)); clear hl7 hm7 hr7 k7))
            by_cases h0 : n1 = 0
            · have hpos : ¬ (0 : Int) < (n1 : Int) := by omega
              obtain ⟨a8, c8, rfl, z8, -, -⟩ := HR7.out.cap
              rw [← HL7.out]
              have hk8 := HK7.out
              obtain ⟨nQ, hnQ⟩ : ∃ n, Ln n (norm sh) := ⟨_, rfl⟩
              have HNQ := Lib.hid hnQ
              clear hnQ
              have CF := Lib.hid (normal_at' (xs := sh) HL7.out HNQ.out (Nat.le_trans g1 (by decide)))
              have SF := Lib.hid (same_at HNQ.out HNN.out (Nat.le_trans (norm_bd HNQ.out HL7.out g1) (by decide)) (norm_same (fun n => el_mem HM7.out n)))
              clear h0
              go_wp2_with (first
                | (go_at_call 15; (with_reducible refine (CF.out _ _ _ z8).mono ?_); rintro _ wQ ⟨aQ, cQ, rfl, zQ, kQ⟩; replace hb := hb.trans (kQ.mono hb.size); replace hk8 := hk8.trans (kQ.mono hk8.size); clear kQ)
                | (go_at_call 14; (with_reducible refine (SF.out _ _ _ _ _ zQ (HZN.out _ hk8)).mono ?_); rintro _ wE ⟨rfl, kE⟩; replace hb := hb.trans (kE.mono hb.size); clear kE))
              go_ret
              exact ⟨rfl, hb⟩
            · have hpos : (0 : Int) < (n1 : Int) := by omega
              obtain ⟨j, hj⟩ : ∃ j : Nat, q % (n1 : Int) = (j : Int) := ⟨(q % (n1 : Int)).toNat, (Int.toNat_of_nonneg (Int.emod_nonneg _ (by omega))).symm⟩
              have hjl : (j : Int) < (n1 : Int) := by rw [← hj]; exact Int.emod_lt_of_pos _ hpos
              have hj0 : (0 : Int) ≤ (j : Int) := by omega
              have hq0 : 0 ≤ q := HPQ.out.2.1
              have hq1 : q ≤ 255 := HPQ.out.2.2
              obtain ⟨⟨f, t⟩, hs⟩ : ∃ s, xs[j]? = some s := ⟨_, List.getElem?_eq_getElem (by have := HN1.out; unfold Ln at this; omega)⟩
              have HJ := Lib.hid (List.mem_of_getElem? hs)
              obtain ⟨b9, o9, rfl, s1, s2⟩ := HX1.out _ hb j _ hs
              simp only at s1 s2
              obtain ⟨n8, hn8⟩ : ∃ n, Ln n (sh ++ [(f, t), (5, 5), (2305843009213693951, 3)]) := ⟨_, rfl⟩
              have HN8 := Lib.hid hn8
              have hn8b : n8 ≤ 63 := by unfold Ln at hn8; rw [hn8, List.length_append, ← HL7.out]; show n1 + 3 ≤ 63; omega
              have hlsh : sh.length ≤ 60 := by rw [← HL7.out]; exact g1
              clear hs hn8 h0
              obtain ⟨nQ, hnQ⟩ : ∃ n, Ln n (norm (sh ++ [(f, t), (5, 5), (2305843009213693951, 3)])) := ⟨_, rfl⟩
              have HNQ := Lib.hid hnQ
              clear hnQ
              have CF := Lib.hid (normal_at' (xs := (sh ++ [(f, t), (5, 5), (2305843009213693951, 3)])) HN8.out HNQ.out (Nat.le_trans hn8b (by decide)))
              have SF := Lib.hid (same_at HNQ.out HNN.out (Nat.le_trans (norm_bd HNQ.out HN8.out hn8b) (by decide)) (norm_same (more_el HM7.out HJ.out)))
              have HLO := Lib.hid (And.intro HB.out.size HK.out.size)
              go_wp2_with (first
                | (at_builtin; refine wpList_append_own _ rfl _ _ 22 rfl _ 33 i0 (.agg #[.int .i64 0, .int .i64 0]) 2 16 Try.underS HI0.out.1 HI0.out.2.1 HI0.out.2.2.1 HI0.out.2.2.2 rfl (by decide) _ _ _ rfl (World.ownsRow.alloc HR7.out _) _ 3 3 (flat [(f, t), (5, 5), (2305843009213693951, 3)]) rfl rfl (cells_three _ _ _ _ _ _) (flat_cell1 _) (by unfold maxLen; omega) (by omega) (Nat.le_trans HS7.out (alloc_below _ _).size) ?_; intro v8 W8 hown8 hg8 _; obtain ⟨a8, c8, rfl, z8, -, -⟩ := RowS.cap (l := sh ++ [(f, t), (5, 5), (2305843009213693951, 3)]) (RowS.app2 rfl hown8); rw [HN8.out.symm]; replace hb := (hb.trans ((alloc_below _ _).mono hb.size)).grown hg8 (Nat.le_trans hb.size (alloc_below _ _).size) (fun k hk => Nat.le_trans HLO.out.1 (World.ownsRow.lt HR7.out k hk).1); have hk8 := (HK7.out.trans ((alloc_below _ _).mono HK7.out.size)).grown hg8 (Nat.le_trans HK7.out.size (alloc_below _ _).size) (fun k hk => Nat.le_trans HLO.out.2 (World.ownsRow.lt HR7.out k hk).1); clear hown8 hg8)
                | (go_at_call 15; (with_reducible refine (CF.out _ _ _ z8).mono ?_); rintro _ wQ ⟨aQ, cQ, rfl, zQ, kQ⟩; replace hb := hb.trans (kQ.mono hb.size); replace hk8 := hk8.trans (kQ.mono hk8.size); clear kQ)
                | (go_at_call 14; (with_reducible refine (SF.out _ _ _ _ _ zQ (HZN.out _ hk8)).mono ?_); rintro _ wE ⟨rfl, kE⟩; replace hb := hb.trans (kE.mono hb.size); clear kE))
              go_ret
              exact ⟨rfl, hb⟩
  · have SH : Hid (∀ w0 : World, Calls Try.prog 11 #[.slice (some ⟨w0.heap.size, 0, none⟩) 1 1] (w0.alloc (.cells #[.slice a1 n1 c1] 22)) fun r w' => r = .returned (.bool false) ∧ Below w0.heap.size w0 w') := fun w0 => (short_new [(a1, n1, c1)] w0 22 (by simp)).mono fun r w' ⟨hr, hw⟩ => ⟨hr.trans (ret_bool (by simp only [List.all_cons, List.all_nil, Bool.and_true]; first | (simp only [decide_eq_true_eq]; exact hs) | (rw [Bool.eq_false_iff]; intro h; simp only [decide_eq_true_eq] at h; exact hs h))), hw⟩
    clear hs hn1
    go_enter Try.func4, Try.ntmps4
    go_wp2_with (first
      | (go_at_call 10; (with_reducible refine (head_any _).mono ?_); rintro _ wh ⟨rfl, kh⟩; replace hb := hb.trans (kh.mono hb.size); clear kh)
      | (go_at_call 11; (with_reducible refine (SH.out _).mono ?_); rintro _ ws ⟨rfl, ks⟩; replace hb := hb.trans (ks.mono hb.size); clear ks))
    go_ret
    exact ⟨rfl, hb⟩
end Go.Proofs.Ytahionbbpfmplaa.Sp
