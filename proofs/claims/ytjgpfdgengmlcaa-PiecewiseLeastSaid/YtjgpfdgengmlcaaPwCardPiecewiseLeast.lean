/- The walk of the law PiecewiseLeast: it returns true. Conditions: the numbers are Go's ints; the lists lie in memory as the arguments say. -/
import Derived.Test.YtjgpfdgengmlcaaPwArgs
import Derived.Test.YtjgpfdgengmlcaaPwOwn14
import Derived.Test.YtjgpfdgengmlcaaPwHead
import Derived.Test.YtjgpfdgengmlcaaPwOpen
set_option linter.unusedVariables false
set_option linter.unusedSimpArgs false
namespace Go.Proofs.Ytjgpfdgengmlcaa.Pw
open Go.RowKit Go.Proofs.Ytjgpfdgengmlcaa.Sp
theorem cmb_pos {D : Int} {F G M : List Pc} (hF : vdB D F = true) (hG : vdB D G = true) (hM : M.length ≤ 64) : cmbT D D F G M = if vdB D M = true then (D, M, 0) else (0, [], 3) := by
  have h : wrg D D F G = 0 := by unfold wrg; rw [if_pos ⟨hF, hG⟩, if_pos rfl]
  unfold cmbT
  rw [h, if_neg (fun q => q rfl), if_neg (by omega)]
theorem Fine.vd' {L : List Pc} (h : Fine L) {D : Int} (h1 : 1 ≤ D) (h2 : D ≤ 1000) : vdB D L = true := by
  unfold vdB
  rw [Bool.and_eq_true, decide_eq_true_eq, okB_iff]
  exact ⟨⟨h1, by omega, by have := h.len; omega⟩, h.ok⟩
/-- The function's box and pieces. -/
structure SlF (x0 : Nat) (D : Int) (a : Option Addr) (L : List Pc) (m c : Nat) (W : World) : Prop where
  f0 : W.cell? ⟨x0, 0, none⟩ = some (.int .i64 D)
  f1 : W.cell? ⟨x0, 1, none⟩ = some (.slice a m c)
  p : PcsAt a L W
theorem SlF.below {x0 : Nat} {D : Int} {a : Option Addr} {L : List Pc} {m c : Nat} {W W' : World} (h : SlF x0 D a L m c W) (k : Below W.heap.size W W') : SlF x0 D a L m c W' := ⟨Sp.cell_kept k h.f0, Sp.cell_kept k h.f1, h.p.below k⟩
theorem slf_new {W : World} {D : Int} {a : Option Addr} {L : List Pc} {c : Nat} (hp : PcsAt a L W) : SlF W.heap.size D a L L.length c (W.alloc (fb D a L.length c)) :=
  ⟨(fb_cells_m W D a L.length c).1, (fb_cells_m W D a L.length c).2.1, hp.below (Sp.alloc_below W _)⟩
theorem PcsAt.take {a : Option Addr} {l : List Pc} {w : World} (h : PcsAt a l w) (n : Nat) : PcsAt a (l.take n) w := fun i x hx => by
  refine h i x ?_
  rw [List.getElem?_take] at hx
  split at hx
  · exact hx
  · cases hx
theorem made_take (den : Int) (a : Option Addr) (c n : Nat) (l : List Pc) (w : World) (hd : Rg den) (hl : l.length ≤ 9223372036854775807) (hr : ∀ p ∈ l, Rg p.1 ∧ Rg p.2.1 ∧ Rg p.2.2) (z : PcsAt a l w) :
    Calls Try.prog 10 #[.int .i64 den, .slice a (min n l.length) c] w (MadePost w (1 + pk den 1000) (min n l.length)) := by
  have h := made_any den a c (l.take n) w hd (by rw [List.length_take]; omega) (fun p hp => hr p (List.mem_of_mem_take hp)) (z.take n)
  rw [List.length_take] at h
  exact h
theorem row_news {W : World} {g : Nat} {S : List Int} (h : ∀ i x, S[i]? = some x → W.cell? ⟨g, i, none⟩ = some (.int .i64 x)) : ∀ j u, (S.map (Value.int .i64))[j]? = some u → W.cell? ((⟨g, 0, none⟩ : Addr).add j) = some u := fun j u hu => by
  rw [List.getElem?_map] at hu
  obtain ⟨x, hx, rfl⟩ := Option.map_eq_some_iff.1 hu
  have e : (⟨g, 0, none⟩ : Addr).add j = ⟨g, 0 + j, none⟩ := by unfold Addr.add; split <;> simp_all
  rw [e, Nat.zero_add]
  exact h j x hx
theorem cells_one_i (S : List Int) : ∀ u ∈ S.map (Value.int .i64), u.oneCell' = true := fun u hu => by
  obtain ⟨x, -, rfl⟩ := List.mem_map.1 hu; rfl
theorem RowI.join {w : World} {base : Nat} {v : Value} {S T : List Int} (h : w.ownsRow base 3 1 v (S.length + T.length) (S.map (Value.int .i64) ++ T.map (Value.int .i64))) : RowI w base v (S ++ T) := by
  unfold RowI
  rw [List.length_append, List.map_append]
  exact h
set_option maxHeartbeats 16000000 in
set_option maxRecDepth 100000 in
theorem leastLaw_walk (den x : Int) (a0 : Option Addr) (k0 : Nat) (l : List Pc) (a1 : Option Addr) (k1 : Nat) (r : List Pc) (w : World) (hd : Rg den) (hx : Rg x)
    (hl : l.length ≤ 9223372036854775807) (hr : ∀ p ∈ l, Rg p.1 ∧ Rg p.2.1 ∧ Rg p.2.2) (z : PcsAt a0 l w) (hk : l.length ≤ k0)
    (hl1 : r.length ≤ 9223372036854775807) (hr1 : ∀ p ∈ r, Rg p.1 ∧ Rg p.2.1 ∧ Rg p.2.2) (z1 : PcsAt a1 r w) (hk1 : r.length ≤ k1) :
    Calls Try.prog 5 #[.slice a0 l.length k0, .slice a1 r.length k1, .int .i64 den, .int .i64 x] w fun r w' => r = .returned (.bool true) ∧ Below w.heap.size w w' := by
  have HH := Lib.hid (head_any w)
  have HM1 := Lib.hid (fun w' (k : Below w.heap.size w w') => made_take den a0 k0 15 l w' hd hl hr (z.below k))
  have HM2 := Lib.hid (fun w' (k : Below w.heap.size w w') => made_take den a1 k1 15 r w' hd hl1 hr1 (z1.below k))
  have hD := pk_bd (c := den) (n := 1000) (by decide)
  obtain ⟨D, hDD⟩ : ∃ D, D = 1 + pk den 1000 := ⟨_, rfl⟩
  rw [← hDD] at HM1 HM2
  have hDb : 1 ≤ D ∧ D ≤ 1000 := by omega
  have HDB := Lib.hid hDb
  have HRX := Lib.hid hx
  obtain ⟨n0, hn0⟩ : ∃ n, n = l.length := ⟨_, rfl⟩
  obtain ⟨n1, hn1⟩ : ∃ n, n = r.length := ⟨_, rfl⟩
  rw [← hn0] at HM1 hk ⊢
  rw [← hn1] at HM2 hk1 ⊢
  obtain ⟨m0, hm0⟩ : ∃ m, m = min 15 n0 := ⟨_, rfl⟩
  obtain ⟨m1, hm1⟩ : ∃ m, m = min 15 n1 := ⟨_, rfl⟩
  rw [← hm0] at HM1
  rw [← hm1] at HM2
  have q0 : min (n0 : Int) 15 = (m0 : Int) := by omega
  have q1 : min (n1 : Int) 15 = (m1 : Int) := by omega
  have p0 : (0 : Int) ≤ (m0 : Int) := by omega
  have p1 : (0 : Int) ≤ (m1 : Int) := by omega
  have r0 : (m0 : Int) ≤ (k0 : Int) := by omega
  have r1 : (m1 : Int) ≤ (k1 : Int) := by omega
  have HMB := Lib.hid (show m0 ≤ 15 ∧ m1 ≤ 15 by omega)
  clear hd hx hl hr z hl1 hr1 z1 hD hDD hDb hm0 hm1 hn0 hn1 hk hk1
  go_enter Try.func5, Try.ntmps5
  go_upto_region 3 with (first
    | (go_at_call 9; (with_reducible refine HH.out.mono ?_); rintro _ W1 ⟨rfl, hb⟩; have HB1 := Lib.hid hb; clear hb)
    | (go_at_call 10; (with_reducible refine (HM1.out _ HB1.out).mono ?_); rintro _ W2 ⟨a, c, F, rfl, hp, hf, hln, hln2, hb⟩; have HB2 := Lib.hid (HB1.out.trans (hb.mono HB1.out.size)); have HP := Lib.hid hp; have HF := Lib.hid hf; have HLF := Lib.hid (show F.length ≤ 15 by have := HMB.out; omega); clear hb hp hf hln hln2))
  have HB := HB1
  have HK := Lib.hid (Below.refl W2.heap.size W2)
  replace HB := HB2
  have HVF := Lib.hid (show vdB D F = true from HF.out.vd' HDB.out.1 HDB.out.2)
  obtain ⟨mF, hmF⟩ : ∃ m, m = F.length := ⟨_, rfl⟩
  have hk := HK.out.trans ((Sp.alloc_below W2 (fb D a F.length c)).mono HK.out.size)
  have HX0 := Lib.hid (slf_new (D := D) (c := c) HP.out)
  replace HB := Lib.hid (HB.out.trans (hk.mono HB.out.size))
  rw [← hmF] at HX0 HB HLF ⊢
  change Code.wp _ _ _ _ (W2.alloc (fb D a mF c))
  have HMF := Lib.hid hmF
  clear hk HK HP HB1 HB2 HM1 hmF
  generalize W2.alloc (fb D a mF c) = Wf at *
  generalize W2.heap.size = x0 at *
  go_upto_region 4 with (go_at_call 10; (with_reducible refine (HM2.out _ HB.out).mono ?_); rintro _ W3 ⟨b, d, G, rfl, hp, hf, hln, hln2, hb⟩; have HK := Lib.hid hb; have HP := Lib.hid hp; have HG := Lib.hid hf; have HLG := Lib.hid (show G.length ≤ 15 by have := HMB.out; omega); clear hb hp hf hln hln2)
  have HVG := Lib.hid (show vdB D G = true from HG.out.vd' HDB.out.1 HDB.out.2)
  obtain ⟨mG, hmG⟩ : ∃ m, m = G.length := ⟨_, rfl⟩
  have hk := HK.out.trans ((Sp.alloc_below W3 (fb D b G.length d)).mono HK.out.size)
  replace HX0 := Lib.hid (HX0.out.below hk)
  have HX1 := Lib.hid (slf_new (D := D) (c := d) HP.out)
  replace HB := Lib.hid (HB.out.trans (hk.mono HB.out.size))
  rw [← hmG] at HX0 HX1 HB HLG ⊢
  change Code.wp _ _ _ _ (W3.alloc (fb D b mG d))
  have HMG := Lib.hid hmG
  clear hk HK HP HM2 hmG
  generalize W3.alloc (fb D b mG d) = Wg at *
  generalize W3.heap.size = x1 at *
  obtain ⟨M, hM⟩ : ∃ M, M = lst F G := ⟨_, rfl⟩
  have hM64 : M.length ≤ 60 := by
    have h1 := lst_len F G
    have h2 := starts_len F G
    have := HLF.out
    have := HLG.out
    rw [← hM] at h1
    have := HMF.out
    have := HMG.out
    omega
  obtain ⟨D2, L2, E2, hT⟩ : ∃ D2 L2 E2, (D2, L2, E2) = (if vdB D M = true then (D, M, 0) else ((0 : Int), ([] : List Pc), (3 : Int))) := ⟨_, _, _, rfl⟩
  have hT0 : (E2 = 3 ∧ L2 = []) ∨ (E2 = 0 ∧ D2 = D ∧ L2 = M ∧ vdB D M = true) := by
    by_cases q : vdB D M = true
    · rw [if_pos q] at hT; cases hT; exact .inr ⟨rfl, rfl, rfl, q⟩
    · rw [if_neg q] at hT; cases hT; exact .inl ⟨rfl, rfl⟩
  obtain ⟨n2, hn2⟩ : ∃ m, m = L2.length := ⟨_, rfl⟩
  have HL1 : Hid (∀ W, PcsAt a F W → PcsAt b G W → Calls Try.prog 13 #[fv D a mF c, fv D b mG d] W fun r w' => ∃ s e, r = .returned (.tuple #[fv D2 s n2 e, .int .i64 E2]) ∧ PcsAt s L2 w' ∧ Below W.heap.size W w') := Lib.hid fun W z z' => by
    have h := pleast_any D D a b c d F G W z z'
    rw [← hM, cmb_pos HVF.out HVG.out (by omega), ← hT, ← HMF.out, ← HMG.out] at h
    exact h.mono (fun r w' ⟨s, e, h1, h2, _, _, h5⟩ => ⟨s, e, by rw [hn2]; exact h1, h2, h5⟩)
  have HL2 : Hid (∀ W, PcsAt b G W → PcsAt a F W → Calls Try.prog 13 #[fv D b mG d, fv D a mF c] W fun r w' => ∃ s e, r = .returned (.tuple #[fv D2 s n2 e, .int .i64 E2]) ∧ PcsAt s L2 w' ∧ Below W.heap.size W w') := Lib.hid fun W z z' => by
    have h := pleast_any D D b a d c G F W z z'
    rw [lst_comm HG.out.ok.inc HF.out.ok.inc, ← hM, cmb_pos HVG.out HVF.out (by omega), ← hT, ← HMF.out, ← HMG.out] at h
    exact h.mono (fun r w' ⟨s, e, h1, h2, _, _, h5⟩ => ⟨s, e, by rw [hn2]; exact h1, h2, h5⟩)
  have HL3 : Hid (∀ W, PcsAt a F W → Calls Try.prog 13 #[fv D a mF c, fv D a mF c] W fun r w' => ∃ s e, r = .returned (.tuple #[fv D s mF e, .int .i64 0]) ∧ PcsAt s F w' ∧ Below W.heap.size W w') := Lib.hid fun W z => by
    have h := pleast_any D D a a c c F F W z z
    rw [lst_self HF.out.ok, cmb_pos HVF.out HVF.out (by have := HLF.out; have := HMF.out; omega), if_pos HVF.out, ← HMF.out] at h
    exact h.mono (fun r w' ⟨s, e, h1, h2, _, _, h5⟩ => ⟨s, e, by rw [HMF.out]; exact h1, h2, h5⟩)
  have HT0 := Lib.hid (And.intro hT0 (And.intro hM (And.intro hM64 hn2)))
  clear hT0 hM hM64 hn2 hT
  have f0 := HX0.out.f0
  have f1 := HX0.out.f1
  have g0 := HX1.out.f0
  have g1 := HX1.out.f1
  go_upto_region 5 with (go_at_call 13; (with_reducible refine (HL1.out _ HX0.out.p HX1.out.p).mono ?_); rintro _ W4 ⟨s, e, rfl, hp, hb⟩; have HK := Lib.hid hb; have HP := Lib.hid hp; clear hb hp)
  have hk := HK.out.trans ((Sp.alloc_below W4 (fb D2 s n2 e)).mono HK.out.size)
  replace HX0 := Lib.hid (HX0.out.below hk)
  replace HX1 := Lib.hid (HX1.out.below hk)
  have HX2 := Lib.hid (slf_new (D := D2) (c := e) HP.out)
  replace HB := Lib.hid (HB.out.trans (hk.mono HB.out.size))
  rw [← HT0.out.2.2.2] at HX2
  change Code.wp _ _ _ _ (W4.alloc (fb D2 s n2 e))
  clear hk HK HP HL1 f0 f1 g0 g1
  generalize W4.alloc (fb D2 s n2 e) = Wt at *
  generalize W4.heap.size = x2 at *
  have f0 := HX0.out.f0
  have f1 := HX0.out.f1
  have g0 := HX1.out.f0
  have g1 := HX1.out.f1
  go_upto_region 6 with (go_at_call 13; (with_reducible refine (HL2.out _ HX1.out.p HX0.out.p).mono ?_); rintro _ W5 ⟨s', e', rfl, hp, hb⟩; have HK := Lib.hid hb; have HP := Lib.hid hp; clear hb hp)
  have hk := HK.out.trans ((Sp.alloc_below W5 (fb D2 s' n2 e')).mono HK.out.size)
  replace HX0 := Lib.hid (HX0.out.below hk)
  replace HX1 := Lib.hid (HX1.out.below hk)
  replace HX2 := Lib.hid (HX2.out.below hk)
  have HX3 := Lib.hid (slf_new (D := D2) (c := e') HP.out)
  replace HB := Lib.hid (HB.out.trans (hk.mono HB.out.size))
  rw [← HT0.out.2.2.2] at HX3
  change Code.wp _ _ _ _ (W5.alloc (fb D2 s' n2 e'))
  clear hk HK HP HL2 f0 f1 g0 g1
  generalize W5.alloc (fb D2 s' n2 e') = Wu at *
  generalize W5.heap.size = x3 at *
  have f0 := HX0.out.f0
  have f1 := HX0.out.f1
  go_upto_region 7 with (go_at_call 13; (with_reducible refine (HL3.out _ HX0.out.p).mono ?_); rintro _ W6 ⟨u, e6, rfl, hp, hb⟩; have HK := Lib.hid hb; have HP := Lib.hid hp; clear hb hp)
  have hk := HK.out.trans ((Sp.alloc_below W6 (fb D u mF e6)).mono HK.out.size)
  replace HX0 := Lib.hid (HX0.out.below hk)
  replace HX1 := Lib.hid (HX1.out.below hk)
  replace HX2 := Lib.hid (HX2.out.below hk)
  replace HX3 := Lib.hid (HX3.out.below hk)
  have HX4 := Lib.hid (slf_new (D := D) (c := e6) HP.out)
  replace HB := Lib.hid (HB.out.trans (hk.mono HB.out.size))
  rw [← HMF.out] at HX4
  change Code.wp _ _ _ _ (W6.alloc (fb D u mF e6))
  clear hk HK HP HL3 f0 f1
  generalize W6.alloc (fb D u mF e6) = Wv at *
  generalize W6.heap.size = x4 at *
  obtain ⟨hT0, hM, hM64, hn2⟩ := HT0.out
  rcases hT0 with ⟨rfl, rfl⟩ | ⟨rfl, rfl, rfl, hvm⟩
  · clear hM hM64 hn2
    go_wp2
    go_ret
    exact ⟨rfl, HB.out⟩
  · have hokM := (vd_ok hvm).1
    have hn2p : 0 < n2 := by
      obtain ⟨p, r, e, -⟩ := hokM.zero
      rw [hn2, e]; exact Nat.succ_pos _
    have hn2b : ¬ (64 : Int) < (n2 : Int) := by omega
    have hn2z : ((n2 : Int) == 0) = false := by simp; omega
    have HM := Lib.hid (And.intro hM (And.intro hvm (And.intro hn2 (And.intro hM64 hokM))))
    clear hM hM64 hn2 hvm hokM HT0
    have s0 := HX2.out.f0
    have s1 := HX2.out.f1
    have HAG1 : Hid (∀ W, PcsAt a F W → PcsAt b G W → Calls Try.prog 26 #[fv D2 a mF c, fv D2 b mG d, .int .i64 x] W (ArgPost W (mF + mG))) := Lib.hid fun W z z' => by
      have h := args_any D2 D2 x a b c d F G W HRX.out (by have := HLF.out; have := HMF.out; omega) (by have := HLG.out; have := HMG.out; omega) HF.out.ok HG.out.ok z z'
      rw [← HMF.out, ← HMG.out] at h
      exact h
    have HAG2 : Hid (∀ W, PcsAt s L2 W → Calls Try.prog 26 #[fv D2 s n2 e, fv D2 s n2 e, .int .i64 x] W (ArgPost W (n2 + n2))) := Lib.hid fun W z => by
      obtain ⟨-, -, h3, h4, h5⟩ := HM.out
      have h := args_any D2 D2 x s s e e L2 L2 W HRX.out (by omega) (by omega) h5 h5 z z
      rw [← h3] at h
      exact h
    have HN60 := Lib.hid (show mF ≤ 15 ∧ mG ≤ 15 ∧ n2 ≤ 60 by have := HLF.out; have := HLG.out; obtain ⟨-, -, h3, h4, -⟩ := HM.out; omega)
    have HXA := Lib.hid (fun W (k : Below Wv.heap.size Wv W) => And.intro (HX0.out.below k) (And.intro (HX1.out.below k) (And.intro (HX2.out.below k) (And.intro (HX3.out.below k) (HX4.out.below k)))))
    have HBA := Lib.hid (fun W (k : Below Wv.heap.size Wv W) => (show Below w.heap.size w W from HB.out.trans (k.mono HB.out.size)))
    obtain ⟨i0, hi, hz0, hz1, hz2⟩ := info_parts Try.infoI
    have HI0 := Lib.hid (And.intro hi (And.intro hz0 (And.intro hz1 hz2)))
    have HSS := Lib.hid (fun W (k : Below Wv.heap.size Wv W) => (show W.cell? ⟨x0, 0, none⟩ = some (.int .i64 D2) ∧ W.cell? ⟨x0, 1, none⟩ = some (.slice a mF c) ∧ W.cell? ⟨x1, 0, none⟩ = some (.int .i64 D2) ∧ W.cell? ⟨x1, 1, none⟩ = some (.slice b mG d) ∧ W.cell? ⟨x2, 0, none⟩ = some (.int .i64 D2) ∧ W.cell? ⟨x2, 1, none⟩ = some (.slice s n2 e) from
      have h := HXA.out W k
      ⟨h.1.f0, h.1.f1, h.2.1.f0, h.2.1.f1, h.2.2.1.f0, h.2.2.1.f1⟩))
    clear hi hz0 hz1 hz2
    go_upto_region 13 with (fail)
    clear s0 s1 HX0 HX1 HX2 HX3 HX4 HB
    have HKD := Lib.hid (Below.refl Wv.heap.size Wv).drew
    go_region_held3 (fun W => W.cell? ⟨x0, 0, none⟩ = some (.int .i64 D2) ∧ W.cell? ⟨x0, 1, none⟩ = some (.slice a mF c) ∧ W.cell? ⟨x1, 0, none⟩ = some (.int .i64 D2) ∧ W.cell? ⟨x1, 1, none⟩ = some (.slice b mG d) ∧ W.cell? ⟨x2, 0, none⟩ = some (.int .i64 D2) ∧ W.cell? ⟨x2, 1, none⟩ = some (.slice s n2 e))
      (first
        | exact HSS.out _ HKD.out
        | exact HSS.out _ HK7.out
        | exact HSS.out _ HK8.out
        | exact HSS.out _ HK9.out)
      (first
        | (go_at_call 26; (with_reducible refine (HAG1.out _ (HXA.out _ HKD.out).1.p (HXA.out _ HKD.out).2.1.p).mono ?_); rintro _ W7 ⟨v1, S1, rfl, hrow, hbd, hlen, hpos, hb⟩; have HK7 := Lib.hid (HKD.out.trans (hb.mono HKD.out.size)); have HR1 := Lib.hid (And.intro hrow (And.intro hbd (And.intro hlen hpos))); clear hrow hbd hlen hpos hb)
        | (go_at_call 26; (with_reducible refine (HAG2.out _ (HXA.out _ HK7.out).2.2.1.p).mono ?_); rintro _ W8 ⟨v2, S2, rfl, hrow, hbd, hlen, hpos, hb⟩; have HK8 := Lib.hid (HK7.out.trans (hb.mono HK7.out.size)); have HR1' := Lib.hid (HR1.out.1.below hb); obtain ⟨g2, c2, rfl, -, hc2⟩ := hrow.cells hpos; have HR2 := Lib.hid (And.intro hc2 (And.intro hbd hlen)); clear hrow hbd hlen hpos hb hc2)
        | (refine step_append_at (by rfl) (.tmp 99) (.tmp 103) 41 (by rfl) Wv.heap.size 3 i0 (.int .i64 0) 1 8 (by kernel_rfl) HI0.out.1 HI0.out.2.1 HI0.out.2.2.1 HI0.out.2.2.2 rfl (by decide) _ S1.length (S1.map (Value.int .i64)) (by rfl) HR1'.out ⟨g2, 0, none⟩ S2.length c2 (S2.map (Value.int .i64)) (by rfl) (by simp) (row_news HR2.out.1) (cells_one_i _) (by have := HR1.out.2.2.1; have := HR2.out.2.2; have := HN60.out; unfold maxLen; omega) (by have := HR1.out.2.2.1; have := HR2.out.2.2; have := HN60.out; omega) HK8.out.size ?_; intro v9 W9 hown hg hv9; have HK9 := Lib.hid (HK8.out.grown hg HK8.out.size (fun q hq => (World.ownsRow.lt HR1'.out q hq).1)); have HR9 := Lib.hid (RowI.join hown); obtain ⟨g9, c9, e9, -, hc9⟩ := HR9.out.cells (by rw [List.length_append]; have := HR1.out.2.2.2; omega); have HC9 := Lib.hid hc9; obtain ⟨N, hN⟩ : ∃ N, N = (S1 ++ S2).length := ⟨_, rfl⟩; rw [← hN] at e9; have HN9 := Lib.hid hN; subst e9; clear hown hg hv9 hc9 hN))
    obtain ⟨acc, hacc⟩ : ∃ acc, acc = S1 ++ S2 := ⟨_, rfl⟩
    have hbd : ∀ x ∈ acc, 0 ≤ x ∧ x ≤ 1000000000000 := by
      rw [hacc]
      intro x hx
      rcases List.mem_append.1 hx with h | h
      · exact HR1.out.2.1 x h
      · exact HR2.out.2.1 x h
    have hlen : acc.length ≤ 700 := by
      rw [hacc, List.length_append]
      have := HR1.out.2.2.1
      have := HR2.out.2.2
      have := HN60.out
      omega
    rw [← hacc] at HC9
    have hN : N = acc.length := by rw [hacc]; exact HN9.out
    rw [← hN] at hlen
    have HN := Lib.hid hN
    have HBD := Lib.hid hbd
    have HNL := Lib.hid (fun C (h0 : 0 ≤ C) (h1 : C ≤ 1000000000000) => lst_num HF.out.ok HG.out.ok (by rw [← HM.out.1]; exact HM.out.2.2.2.2) h0 h1)
    clear hacc hbd hN HR1 HR1' HR2 HR9 HK7 HK8 HKD HAG1 HAG2 HSS hn2p hn2b hn2z q0 q1 p0 p1 r0 r1
    go_wp2_with fail
    go_loopg [9, 106] N (fun g s9 s106 wx => ∃ k : Nat, k + g = N ∧ s9 = .bool true ∧ s106 = .int .i64 k ∧ Hid (Below W9.heap.size W9 wx))
    case atStart => exact ⟨0, by omega, rfl, rfl, Below.refl _ _⟩
    case round =>
      obtain ⟨k, hk, rfl, rfl, HB⟩ := hrel
      cases gk with
      | zero =>
        obtain rfl : k = N := by omega
        go_wp2
        go_ret
        exact ⟨rfl, HBA.out _ (HK9.out.trans (HB.out.mono HK9.out.size))⟩
      | succ g =>
        have hlt : (k : Int) < (N : Int) := by omega
        have hk0 : (0 : Int) ≤ (k : Int) := by omega
        have hwk : IntKind.i64.wrap ((k : Int) + 1) = (k : Int) + 1 := IntWalk.i64_in _ (by omega)
        obtain ⟨C, hC⟩ : ∃ C, acc[k]? = some C := ⟨_, List.getElem?_eq_getElem (by have := HN.out; omega)⟩
        have hcC := Sp.cell_kept HB.out (HC9.out k C hC)
        have hCb := HBD.out C (List.mem_of_getElem? hC)
        have hnl := HNL.out C hCb.1 hCb.2
        rw [← HM.out.1] at hnl
        obtain ⟨A0, hA0⟩ : ∃ A, num F C = A := ⟨_, rfl⟩
        obtain ⟨B0, hB0⟩ : ∃ B, num G C = B := ⟨_, rfl⟩
        rw [hA0, hB0] at hnl
        have HEF : Hid (∀ W, PcsAt a F W → Calls Try.prog 22 #[fv D2 a mF c, .int .i64 C] W fun r w' => r = .returned (.tuple #[.int .i64 A0, .int .i64 D2, .int .i64 0]) ∧ Below W.heap.size W w') := Lib.hid fun W z => by
          have h := peval_any D2 C a c F W z
          rw [← HMF.out] at h
          exact h.mono (fun r w' q => ⟨(q.1.trans (ev_pos ⟨HVF.out, hCb.1, hCb.2⟩)).trans (by rw [hA0]), q.2⟩)
        have HEG : Hid (∀ W, PcsAt b G W → Calls Try.prog 22 #[fv D2 b mG d, .int .i64 C] W fun r w' => r = .returned (.tuple #[.int .i64 B0, .int .i64 D2, .int .i64 0]) ∧ Below W.heap.size W w') := Lib.hid fun W z => by
          have h := peval_any D2 C b d G W z
          rw [← HMG.out] at h
          exact h.mono (fun r w' q => ⟨(q.1.trans (ev_pos ⟨HVG.out, hCb.1, hCb.2⟩)).trans (by rw [hB0]), q.2⟩)
        have HES : Hid (∀ W, PcsAt s L2 W → Calls Try.prog 22 #[fv D2 s n2 e, .int .i64 C] W fun r w' => r = .returned (.tuple #[.int .i64 (min A0 B0), .int .i64 D2, .int .i64 0]) ∧ Below W.heap.size W w') := Lib.hid fun W z => by
          have h := peval_any D2 C s e L2 W z
          rw [← HM.out.2.2.1] at h
          exact h.mono (fun r w' q => ⟨(q.1.trans (ev_pos ⟨HM.out.2.1, hCb.1, hCb.2⟩)).trans (by rw [hnl]), q.2⟩)
        have HET : Hid (∀ W, PcsAt s' L2 W → Calls Try.prog 22 #[fv D2 s' n2 e', .int .i64 C] W fun r w' => r = .returned (.tuple #[.int .i64 (min A0 B0), .int .i64 D2, .int .i64 0]) ∧ Below W.heap.size W w') := Lib.hid fun W z => by
          have h := peval_any D2 C s' e' L2 W z
          rw [← HM.out.2.2.1] at h
          exact h.mono (fun r w' q => ⟨(q.1.trans (ev_pos ⟨HM.out.2.1, hCb.1, hCb.2⟩)).trans (by rw [hnl]), q.2⟩)
        have HEU : Hid (∀ W, PcsAt u F W → Calls Try.prog 22 #[fv D2 u mF e6, .int .i64 C] W fun r w' => r = .returned (.tuple #[.int .i64 A0, .int .i64 D2, .int .i64 0]) ∧ Below W.heap.size W w') := Lib.hid fun W z => by
          have h := peval_any D2 C u e6 F W z
          rw [← HMF.out] at h
          exact h.mono (fun r w' q => ⟨(q.1.trans (ev_pos ⟨HVF.out, hCb.1, hCb.2⟩)).trans (by rw [hA0]), q.2⟩)
        clear hC hCb hnl hA0 hB0
        have f0 := ((HXA.out _ (HK9.out.trans (HB.out.mono HK9.out.size))).1).f0
        have f1 := ((HXA.out _ (HK9.out.trans (HB.out.mono HK9.out.size))).1).f1
        go_upto_region 17 with (go_at_call 22; ((with_reducible refine (HEF.out _ ((HXA.out _ (HK9.out.trans (HB.out.mono HK9.out.size))).1).p).mono ?_); rintro _ wn ⟨rfl, kn⟩); replace HB := Lib.hid (HB.out.trans (kn.mono HB.out.size)); clear f0 f1 kn)
        clear HEF
        have f0 := ((HXA.out _ (HK9.out.trans (HB.out.mono HK9.out.size))).2.1).f0
        have f1 := ((HXA.out _ (HK9.out.trans (HB.out.mono HK9.out.size))).2.1).f1
        go_upto_region 18 with (go_at_call 22; ((with_reducible refine (HEG.out _ ((HXA.out _ (HK9.out.trans (HB.out.mono HK9.out.size))).2.1).p).mono ?_); rintro _ wn ⟨rfl, kn⟩); replace HB := Lib.hid (HB.out.trans (kn.mono HB.out.size)); clear f0 f1 kn)
        clear HEG
        have f0 := ((HXA.out _ (HK9.out.trans (HB.out.mono HK9.out.size))).2.2.1).f0
        have f1 := ((HXA.out _ (HK9.out.trans (HB.out.mono HK9.out.size))).2.2.1).f1
        go_upto_region 19 with (go_at_call 22; ((with_reducible refine (HES.out _ ((HXA.out _ (HK9.out.trans (HB.out.mono HK9.out.size))).2.2.1).p).mono ?_); rintro _ wn ⟨rfl, kn⟩); replace HB := Lib.hid (HB.out.trans (kn.mono HB.out.size)); clear f0 f1 kn)
        clear HES
        have f0 := ((HXA.out _ (HK9.out.trans (HB.out.mono HK9.out.size))).2.2.2.1).f0
        have f1 := ((HXA.out _ (HK9.out.trans (HB.out.mono HK9.out.size))).2.2.2.1).f1
        go_upto_region 20 with (go_at_call 22; ((with_reducible refine (HET.out _ ((HXA.out _ (HK9.out.trans (HB.out.mono HK9.out.size))).2.2.2.1).p).mono ?_); rintro _ wn ⟨rfl, kn⟩); replace HB := Lib.hid (HB.out.trans (kn.mono HB.out.size)); clear f0 f1 kn)
        clear HET
        have f0 := ((HXA.out _ (HK9.out.trans (HB.out.mono HK9.out.size))).2.2.2.2).f0
        have f1 := ((HXA.out _ (HK9.out.trans (HB.out.mono HK9.out.size))).2.2.2.2).f1
        go_upto_region 21 with (go_at_call 22; ((with_reducible refine (HEU.out _ ((HXA.out _ (HK9.out.trans (HB.out.mono HK9.out.size))).2.2.2.2).p).mono ?_); rintro _ wn ⟨rfl, kn⟩); replace HB := Lib.hid (HB.out.trans (kn.mono HB.out.size)); clear f0 f1 kn)
        clear HEU
        have f0 := (HXA.out _ (HK9.out.trans (HB.out.mono HK9.out.size))).1.f0
        go_wp2
        go_roundg g
        case measure => omega
        case rel => exact ⟨k + 1, by omega, rfl, by go_num, HB⟩
end Go.Proofs.Ytjgpfdgengmlcaa.Pw
namespace Go.Proofs.Ytjgpfdgengmlcaa.Pw
open Go.ChangeShapes Go.WideShapes Go.ChangeAt Go.RowKit Go.Proofs.Ytjgpfdgengmlcaa.Sp
set_option maxRecDepth 100000 in
theorem leastLaw_lifted (os : Os) (started : os.Started) (H : Type) (enc : TypeId × Value → H) :
    ReturnsInHanded {} Try.checked os 5 .any (Rows.piecewiseLeastSpec.pre6 enc Try.prog Try.f5 Rows.piecewiseLeastRow.domain false) (Rows.piecewiseLeastSpec.post enc Try.prog Try.f5 false true false false) := by
  refine returnsInHanded_of_change (C := Try.checked) Sp.own started (by kernel_rfl) Try.func5
    (ChangeSpec.witness6 (enc := enc) (C := Try.checked) false ⟨#[], #[.slice none 0 0, .slice none 0 0, .int .i64 0, .int .i64 0], []⟩ 8 (by kernel_rfl) (by kernel_rfl) (by kernel_rfl) (by kernel_rfl)) ?_
  intro W base args ds gs before hval0 hW hcnd _
  have hval : ∀ (j : Nat) t v, Try.f5.params[j]? = some t → args[j]? = some v → Value.okWide Try.prog W .any base t v := hval0
  have hW' := hW
  have hlt := hW.lt
  obtain ⟨p, q, hA0, hV, rfl, hfz, hnd⟩ := hW
  have hA : DataW.TrodAll enc Try.prog W 0 (fun _ => true) true Try.f5.params.toList args.toList ds p := hA0
  have hkeep := fun W' (hb : Below W.heap.size W W') => trodAll_below Sp.laidOut hb (by rw [Try.params5]; intro t ht; simp only [List.mem_cons, List.not_mem_nil, or_false] at ht; rcases ht with rfl | rfl | rfl | rfl <;> exact ⟨by kernel_rfl, of_decide_eq_true (by kernel_rfl)⟩) hA (fun x hx => hlt x (List.mem_append_left _ hx))
  rw [Try.params5] at hA hval
  obtain ⟨v0, vs0, d0, ds0, p0, q0, hargs, rfl, rfl, h0, r0⟩ := trodAll_cons hA
  obtain ⟨v1, vs1, d1, ds1, p1, q1, rfl, rfl, rfl, h1, r1⟩ := trodAll_cons r0
  obtain ⟨v2, vs2, d2, ds2, p2, q2, rfl, rfl, rfl, h2, r2⟩ := trodAll_cons r1
  obtain ⟨v3, vs3, d3, ds3, p3, q3, rfl, rfl, rfl, h3, r3⟩ := trodAll_cons r2
  obtain ⟨rfl, rfl, rfl⟩ := trodAll_nil r3
  obtain rfl : args = #[v0, v1, v2, v3] := by cases args; simp_all
  obtain ⟨rfl, rfl⟩ := trodVars_none hV
  obtain ⟨a0, c0, x0, rfl, z0⟩ := open_pcs (hval 0 25 v0 rfl rfl) h0
  obtain ⟨a1, c1, x1, rfl, z1⟩ := open_pcs (hval 1 25 v1 rfl rfl) h1
  obtain ⟨y2, rfl, rfl, rfl, w2⟩ := open_int Try.underlying3 (hval 2 3 v2 rfl rfl) h2
  obtain ⟨y3, rfl, rfl, rfl, w3⟩ := open_int Try.underlying3 (hval 3 3 v3 rfl rfl) h3
  clear hA0 hval0
  simp only [List.append_nil] at hW'
  refine (leastLaw_walk y2 y3 a0 c0 x0 a1 c1 x1 W (bounds_i64 w2) (bounds_i64 w3) (Nat.le_trans z0.len (by decide)) z0.rg z0.at_ z0.cap (Nat.le_trans z1.len (by decide)) z1.rg z1.at_ z1.cap).mono fun e W' ⟨he, hg⟩ => ?_
  subst he
  exact ⟨_, rfl, _, _, _, [], _, [], hW', trodAll_mk1 (shut_bool Try.underlying4 _), hkeep W' hg, rfl, hg.frame _, fun h => by cases h⟩
theorem leastLaw_said : Rows.PiecewiseLeastSaid :=
  OpenClaim.holds_of_wide 5 Try.f5 rfl rfl rfl rfl rfl rfl rfl ⟨rfl, rfl, rfl, rfl, rfl⟩ rfl rfl rfl rfl rfl (by kernel_rfl) Try.func5 (by kernel_rfl)
    (of_decide_eq_true (by kernel_rfl)) (by unfold Func.isWrapper; first | (rw [if_pos (by decide +kernel)]; kernel_rfl) | (rw [if_neg (by decide +kernel)]; exact ⟨rfl, rfl⟩))
    (fun os started H enc _ => leastLaw_lifted os started H enc)
end Go.Proofs.Ytjgpfdgengmlcaa.Pw
