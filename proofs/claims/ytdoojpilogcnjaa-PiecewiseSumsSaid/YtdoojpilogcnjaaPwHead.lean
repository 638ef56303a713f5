/- What the laws' head returns: true. No condition. -/
import Derived.Test.YtdoojpilogcnjaaPwOwn14
import Derived.Test.YtdoojpilogcnjaaPwOwn15
import Derived.Test.YtdoojpilogcnjaaPwRef8
set_option linter.unusedVariables false
set_option linter.unusedSimpArgs false
namespace Go.Proofs.Ytdoojpilogcnjaa.Pw
open Go.RowKit Go.Proofs.Ytdoojpilogcnjaa.Sp
theorem head_starts : starts [(0, 0, 1), (10, 10, 4)] [(0, 12, 0)] = [0, 10] := by
  unfold starts
  rw [show ([(0, 0, 1), (10, 10, 4)] : List Pc).map Prod.fst = [0, 10] from rfl, show ([(0, 12, 0)] : List Pc).map Prod.fst = [0] from rfl, mgd_eq rfl, mgd_nil2]
theorem head_add : add [(0, 0, 1), (10, 10, 4)] [(0, 12, 0)] = [(0, 12, 1), (10, 22, 4)] := by
  unfold add
  rw [head_starts]
  decide
theorem head_lst : lst [(0, 0, 1), (10, 10, 4)] [(0, 12, 0)] = [(0, 0, 1), (10, 10, 4), (11, 12, 0)] := by
  unfold lst
  rw [head_starts]
  decide
theorem pcs_new3 (w : World) (p q r : Pc) : PcsAt (some ⟨w.heap.size, 0, none⟩) [p, q, r] (w.alloc (.cells #[.int .i64 p.1, .int .i64 p.2.1, .int .i64 p.2.2, .int .i64 q.1, .int .i64 q.2.1, .int .i64 q.2.2, .int .i64 r.1, .int .i64 r.2.1, .int .i64 r.2.2] 55)) := fun i x hx => by
  cases i with
  | zero => obtain rfl := Option.some.inj hx; exact ⟨_, 0, rfl, by simp [World.cell?_alloc_new], by simp [World.cell?_alloc_new], by simp [World.cell?_alloc_new]⟩
  | succ i => cases i with
    | zero => obtain rfl := Option.some.inj hx; exact ⟨_, 0, rfl, by simp [World.cell?_alloc_new], by simp [World.cell?_alloc_new], by simp [World.cell?_alloc_new]⟩
    | succ i => cases i with
      | zero => obtain rfl := Option.some.inj hx; exact ⟨_, 0, rfl, by simp [World.cell?_alloc_new], by simp [World.cell?_alloc_new], by simp [World.cell?_alloc_new]⟩
      | succ i => simp at hx
/-- A function's pieces and its box, new. -/
theorem lay_fn {w : World} {o : Obj} {d : Int} {l : List Pc} {n : Nat} (hp : PcsAt (some ⟨w.heap.size, 0, none⟩) l (w.alloc o)) :
    PcsAt (some ⟨w.heap.size, 0, none⟩) l ((w.alloc o).alloc (fb d (some ⟨w.heap.size, 0, none⟩) n n)) ∧ ((w.alloc o).alloc (fb d (some ⟨w.heap.size, 0, none⟩) n n)).cell? ⟨w.heap.size + 1, 0, none⟩ = some (.int .i64 d) ∧ ((w.alloc o).alloc (fb d (some ⟨w.heap.size, 0, none⟩) n n)).cell? ⟨w.heap.size + 1, 1, none⟩ = some (.slice (some ⟨w.heap.size, 0, none⟩) n n) ∧ Below w.heap.size w ((w.alloc o).alloc (fb d (some ⟨w.heap.size, 0, none⟩) n n)) := by
  have s1 : (w.alloc o).heap.size = w.heap.size + 1 := by simp
  have k := Sp.alloc_below (w.alloc o) (fb d (some ⟨w.heap.size, 0, none⟩) n n)
  have c := fb_cells (w.alloc o) d (some ⟨w.heap.size, 0, none⟩) n n
  rw [s1] at c
  exact ⟨hp.below k, c.1, c.2.1, (Sp.alloc_below w o).trans (k.mono (Sp.alloc_below w o).size)⟩
set_option maxHeartbeats 8000000 in
set_option maxRecDepth 100000 in
theorem head_any (w : World) : Calls Try.prog 9 #[] w fun r w' => r = .returned (.bool true) ∧ Below w.heap.size w w' := by
  have hb : Below w.heap.size w w := Below.refl _ _
  have E1 : Hid (∀ a c W, PcsAt a [(0, 0, 1), (10, 10, 4)] W → Calls Try.prog 22 #[fv 2 a 2 c, .int .i64 11] W fun r w' => r = .returned (.tuple #[.int .i64 14, .int .i64 2, .int .i64 0]) ∧ Below W.heap.size W w') := fun a c W z => (peval_any 2 11 a c [(0, 0, 1), (10, 10, 4)] W z).mono (fun r w' ⟨h, k⟩ => ⟨h.trans (by kernel_rfl), k⟩)
  have E2 : Hid (∀ a c W, PcsAt a [(0, 0, 1), (10, 10, 4)] W → Calls Try.prog 22 #[fv 2 a 2 c, .int .i64 (-1)] W fun r w' => r = .returned (.tuple #[.int .i64 0, .int .i64 0, .int .i64 1]) ∧ Below W.heap.size W w') := fun a c W z => (peval_any 2 (-1) a c [(0, 0, 1), (10, 10, 4)] W z).mono (fun r w' ⟨h, k⟩ => ⟨h.trans (by kernel_rfl), k⟩)
  have R1 : Hid (∀ a c W, PcsAt a [(0, 0, 1), (10, 10, 4)] W → Calls Try.prog 24 #[fv 2 a 2 c, .int .i64 3, .int .i64 0] W fun r w' => r = .returned (.tuple #[.int .i64 1, .int .i64 0]) ∧ Below W.heap.size W w') := fun a c W z => (pround_any 2 3 0 a c [(0, 0, 1), (10, 10, 4)] W z).mono (fun r w' ⟨h, k⟩ => ⟨h.trans (by kernel_rfl), k⟩)
  have R2 : Hid (∀ a c W, PcsAt a [(0, 0, 1), (10, 10, 4)] W → Calls Try.prog 24 #[fv 2 a 2 c, .int .i64 3, .int .i64 1] W fun r w' => r = .returned (.tuple #[.int .i64 2, .int .i64 0]) ∧ Below W.heap.size W w') := fun a c W z => (pround_any 2 3 1 a c [(0, 0, 1), (10, 10, 4)] W z).mono (fun r w' ⟨h, k⟩ => ⟨h.trans (by kernel_rfl), k⟩)
  have R3 : Hid (∀ a c W, PcsAt a [(0, 0, 1), (10, 10, 4)] W → Calls Try.prog 24 #[fv 2 a 2 c, .int .i64 1, .int .i64 2] W fun r w' => r = .returned (.tuple #[.int .i64 0, .int .i64 0]) ∧ Below W.heap.size W w') := fun a c W z => (pround_any 2 1 2 a c [(0, 0, 1), (10, 10, 4)] W z).mono (fun r w' ⟨h, k⟩ => ⟨h.trans (by kernel_rfl), k⟩)
  have A1 : Hid (∀ a b c k W, PcsAt a [(0, 0, 1), (10, 10, 4)] W → PcsAt b [(0, 12, 0)] W → Calls Try.prog 11 #[fv 2 a 2 c, fv 2 b 1 k] W fun r w' => ∃ s e, r = .returned (.tuple #[fv 2 s 2 e, .int .i64 0]) ∧ PcsAt s [(0, 12, 1), (10, 22, 4)] w' ∧ Below W.heap.size W w') := fun a b c k W z z' => by
    have h := paddf_any 2 2 a b c k [(0, 0, 1), (10, 10, 4)] [(0, 12, 0)] W z z'
    rw [head_add, show cmbT 2 2 [(0, 0, 1), (10, 10, 4)] [(0, 12, 0)] [(0, 12, 1), (10, 22, 4)] = (2, [(0, 12, 1), (10, 22, 4)], 0) by decide] at h
    exact h.mono (fun r w' ⟨s, e, h1, h2, _, _, h5⟩ => ⟨s, e, h1, h2, h5⟩)
  have L1 : Hid (∀ a b c k W, PcsAt a [(0, 0, 1), (10, 10, 4)] W → PcsAt b [(0, 12, 0)] W → Calls Try.prog 13 #[fv 2 a 2 c, fv 2 b 1 k] W fun r w' => ∃ s e, r = .returned (.tuple #[fv 2 s 3 e, .int .i64 0]) ∧ PcsAt s [(0, 0, 1), (10, 10, 4), (11, 12, 0)] w' ∧ Below W.heap.size W w') := fun a b c k W z z' => by
    have h := pleast_any 2 2 a b c k [(0, 0, 1), (10, 10, 4)] [(0, 12, 0)] W z z'
    rw [head_lst, show cmbT 2 2 [(0, 0, 1), (10, 10, 4)] [(0, 12, 0)] [(0, 0, 1), (10, 10, 4), (11, 12, 0)] = (2, [(0, 0, 1), (10, 10, 4), (11, 12, 0)], 0) by decide] at h
    exact h.mono (fun r w' ⟨s, e, h1, h2, _, _, h5⟩ => ⟨s, e, h1, h2, h5⟩)
  have W1 : Hid (∀ a c W, PcsAt a [(0, 0, 1), (10, 10, 4)] W → Calls Try.prog 15 #[fv 2 a 2 c, .int .i64 2, .int .i64 5] W fun r w' => ∃ s e, r = .returned (.tuple #[.slice s 1 e, .int .i64 0]) ∧ SpansAt s [(4, 11)] w' ∧ Below W.heap.size W w') := fun a c W z => by
    have h := pwhere_any 2 2 5 a c [(0, 0, 1), (10, 10, 4)] W z
    rw [show whT 2 [(0, 0, 1), (10, 10, 4)] 2 5 = ([(4, 11)], 0) by decide] at h
    exact h.mono (fun r w' ⟨s, e, h1, h2, h5⟩ => ⟨s, e, h1, h2, h5⟩)
  have V1 : Hid (∀ a c W, PcsAt a [(0, 0, 1), (10, 10, 4)] W → Calls Try.prog 20 #[fv 2 a 2 c] W fun r w' => r = .returned (.bool true) ∧ Below W.heap.size W w') := fun a c W z => (pvalid_any 2 a c [(0, 0, 1), (10, 10, 4)] W z).mono (fun r w' ⟨h, k⟩ => ⟨h.trans (by kernel_rfl), k⟩)
  have V2 : Hid (∀ W, Calls Try.prog 20 #[fv 0 none 0 0] W fun r w' => r = .returned (.bool false) ∧ Below W.heap.size W w') := fun W => (pvalid_any 0 none 0 [] W (fun i x hx => by simp at hx)).mono (fun r w' ⟨h, k⟩ => ⟨h.trans (by kernel_rfl), k⟩)
  have SW : Hid (∀ a c W, SpansAt a [(4, 11)] W → Calls Try.prog 19 #[.slice a 1 c, .slice (some ⟨W.heap.size, 0, none⟩) 1 1] (W.alloc (.cells #[.int .i64 4, .int .i64 11] 50)) fun r w' => r = .returned (.bool true) ∧ Below W.heap.size W w') := fun a c W z => by
    have k0 := Sp.alloc_below W (.cells #[.int .i64 4, .int .i64 11] 50)
    have hn : SpansAt (some ⟨W.heap.size, 0, none⟩) [(4, 11)] (W.alloc (.cells #[.int .i64 4, .int .i64 11] 50)) := fun i x hx => by
      cases i with
      | zero => obtain rfl := Option.some.inj hx; exact ⟨_, 0, rfl, by simp [World.cell?_alloc_new], by simp [World.cell?_alloc_new]⟩
      | succ i => simp at hx
    exact (rsame_any a (some ⟨W.heap.size, 0, none⟩) c 1 [(4, 11)] [(4, 11)] _ (by decide) (z.below k0) hn).mono (fun r w' ⟨h, k⟩ => ⟨h.trans (by kernel_rfl), k0.trans (k.mono k0.size)⟩)
  have Q1 : Hid (∀ a b c k W, PcsAt a [(0, 12, 1), (10, 22, 4)] W → PcsAt b [(0, 12, 1), (10, 22, 4)] W → Calls Try.prog 18 #[fv 2 a 2 c, fv 2 b 2 k] W fun r w' => r = .returned (.bool true) ∧ Below W.heap.size W w') := fun a b c k W z z' => (rsamef_any 2 2 a b c k [(0, 12, 1), (10, 22, 4)] [(0, 12, 1), (10, 22, 4)] W (by decide) (by decide) z z').mono (fun r w' ⟨h, q⟩ => ⟨h.trans (by kernel_rfl), q⟩)
  have Q2 : Hid (∀ a b c k W, PcsAt a [(0, 0, 1), (10, 10, 4), (11, 12, 0)] W → PcsAt b [(0, 0, 1), (10, 10, 4), (11, 12, 0)] W → Calls Try.prog 18 #[fv 2 a 3 c, fv 2 b 3 k] W fun r w' => r = .returned (.bool true) ∧ Below W.heap.size W w') := fun a b c k W z z' => (rsamef_any 2 2 a b c k [(0, 0, 1), (10, 10, 4), (11, 12, 0)] [(0, 0, 1), (10, 10, 4), (11, 12, 0)] W (by decide) (by decide) z z').mono (fun r w' ⟨h, q⟩ => ⟨h.trans (by kernel_rfl), q⟩)
  go_enter Try.func9, Try.ntmps9
  go_upto_region 2 with (fail)
  obtain ⟨zF, f0, f1, kn⟩ := lay_fn (w := w) (d := 2) (n := 2) (l := [(0, 0, 1), (10, 10, 4)]) (show PcsAt _ _ (w.alloc (.cells #[.int .i64 0, .int .i64 0, .int .i64 1, .int .i64 10, .int .i64 10, .int .i64 4] 55)) from pcs_new2 w (0, 0, 1) (10, 10, 4))
  replace hb := hb.trans (kn.mono hb.size)
  (try replace zG := zG.below kn)
  (try replace zS := zS.below kn)
  (try replace zT := zT.below kn)
  (try replace zU := zU.below kn)
  (try replace zV := zV.below kn)
  (try replace zW := zW.below kn)
  (try replace g0 := Sp.cell_kept kn g0)
  (try replace g1 := Sp.cell_kept kn g1)
  (try replace s0 := Sp.cell_kept kn s0)
  (try replace s1 := Sp.cell_kept kn s1)
  (try replace t0 := Sp.cell_kept kn t0)
  (try replace t1 := Sp.cell_kept kn t1)
  (try replace u0 := Sp.cell_kept kn u0)
  (try replace u1 := Sp.cell_kept kn u1)
  (try replace v0 := Sp.cell_kept kn v0)
  (try replace v1 := Sp.cell_kept kn v1)
  clear kn
  generalize (w.alloc (.cells #[.int .i64 0, .int .i64 0, .int .i64 1, .int .i64 10, .int .i64 10, .int .i64 4] 55)).alloc (fb 2 (some ⟨w.heap.size, 0, none⟩) 2 2) = W_f at *
  generalize hx : w.heap.size + 1 = x_f at zF f0 f1 ⊢
  generalize hy : w.heap.size = y_f at zF f1 ⊢
  have HY := Lib.hid (And.intro hx hy)
  clear hx hy
  go_upto_region 3 with (fail)
  obtain ⟨zG, g0, g1, kn⟩ := lay_fn (w := W_f) (d := 2) (n := 1) (l := [(0, 12, 0)]) (show PcsAt _ _ (W_f.alloc (.cells #[.int .i64 0, .int .i64 12, .int .i64 0] 55)) from pcs_new1 W_f (0, 12, 0))
  replace hb := hb.trans (kn.mono hb.size)
  (try replace zF := zF.below kn)
  (try replace zS := zS.below kn)
  (try replace zT := zT.below kn)
  (try replace zU := zU.below kn)
  (try replace zV := zV.below kn)
  (try replace zW := zW.below kn)
  (try replace f0 := Sp.cell_kept kn f0)
  (try replace f1 := Sp.cell_kept kn f1)
  (try replace s0 := Sp.cell_kept kn s0)
  (try replace s1 := Sp.cell_kept kn s1)
  (try replace t0 := Sp.cell_kept kn t0)
  (try replace t1 := Sp.cell_kept kn t1)
  (try replace u0 := Sp.cell_kept kn u0)
  (try replace u1 := Sp.cell_kept kn u1)
  (try replace v0 := Sp.cell_kept kn v0)
  (try replace v1 := Sp.cell_kept kn v1)
  clear kn
  generalize (W_f.alloc (.cells #[.int .i64 0, .int .i64 12, .int .i64 0] 55)).alloc (fb 2 (some ⟨W_f.heap.size, 0, none⟩) 1 1) = W_g at *
  generalize W_f.heap.size + 1 = x_g at zG g0 g1 ⊢
  generalize W_f.heap.size = y_g at zG g1 ⊢
  go_upto_region 9 with (first
    | (go_at_call 22; (with_reducible refine (E1.out _ _ _ zF).mono ?_); rintro _ wn ⟨rfl, kn⟩; replace hb := hb.trans (kn.mono hb.size); (try replace zF := zF.below kn); (try replace zG := zG.below kn); (try replace zS := zS.below kn); (try replace zT := zT.below kn); (try replace zU := zU.below kn); (try replace zV := zV.below kn); (try replace zW := zW.below kn); (try replace f0 := Sp.cell_kept kn f0); (try replace f1 := Sp.cell_kept kn f1); (try replace g0 := Sp.cell_kept kn g0); (try replace g1 := Sp.cell_kept kn g1); (try replace s0 := Sp.cell_kept kn s0); (try replace s1 := Sp.cell_kept kn s1); (try replace t0 := Sp.cell_kept kn t0); (try replace t1 := Sp.cell_kept kn t1); (try replace u0 := Sp.cell_kept kn u0); (try replace u1 := Sp.cell_kept kn u1); (try replace v0 := Sp.cell_kept kn v0); (try replace v1 := Sp.cell_kept kn v1); clear kn)
    | (go_at_call 22; (with_reducible refine (E2.out _ _ _ zF).mono ?_); rintro _ wn ⟨rfl, kn⟩; replace hb := hb.trans (kn.mono hb.size); (try replace zF := zF.below kn); (try replace zG := zG.below kn); (try replace zS := zS.below kn); (try replace zT := zT.below kn); (try replace zU := zU.below kn); (try replace zV := zV.below kn); (try replace zW := zW.below kn); (try replace f0 := Sp.cell_kept kn f0); (try replace f1 := Sp.cell_kept kn f1); (try replace g0 := Sp.cell_kept kn g0); (try replace g1 := Sp.cell_kept kn g1); (try replace s0 := Sp.cell_kept kn s0); (try replace s1 := Sp.cell_kept kn s1); (try replace t0 := Sp.cell_kept kn t0); (try replace t1 := Sp.cell_kept kn t1); (try replace u0 := Sp.cell_kept kn u0); (try replace u1 := Sp.cell_kept kn u1); (try replace v0 := Sp.cell_kept kn v0); (try replace v1 := Sp.cell_kept kn v1); clear kn)
    | (go_at_call 24; (with_reducible refine (R1.out _ _ _ zF).mono ?_); rintro _ wn ⟨rfl, kn⟩; replace hb := hb.trans (kn.mono hb.size); (try replace zF := zF.below kn); (try replace zG := zG.below kn); (try replace zS := zS.below kn); (try replace zT := zT.below kn); (try replace zU := zU.below kn); (try replace zV := zV.below kn); (try replace zW := zW.below kn); (try replace f0 := Sp.cell_kept kn f0); (try replace f1 := Sp.cell_kept kn f1); (try replace g0 := Sp.cell_kept kn g0); (try replace g1 := Sp.cell_kept kn g1); (try replace s0 := Sp.cell_kept kn s0); (try replace s1 := Sp.cell_kept kn s1); (try replace t0 := Sp.cell_kept kn t0); (try replace t1 := Sp.cell_kept kn t1); (try replace u0 := Sp.cell_kept kn u0); (try replace u1 := Sp.cell_kept kn u1); (try replace v0 := Sp.cell_kept kn v0); (try replace v1 := Sp.cell_kept kn v1); clear kn)
    | (go_at_call 24; (with_reducible refine (R2.out _ _ _ zF).mono ?_); rintro _ wn ⟨rfl, kn⟩; replace hb := hb.trans (kn.mono hb.size); (try replace zF := zF.below kn); (try replace zG := zG.below kn); (try replace zS := zS.below kn); (try replace zT := zT.below kn); (try replace zU := zU.below kn); (try replace zV := zV.below kn); (try replace zW := zW.below kn); (try replace f0 := Sp.cell_kept kn f0); (try replace f1 := Sp.cell_kept kn f1); (try replace g0 := Sp.cell_kept kn g0); (try replace g1 := Sp.cell_kept kn g1); (try replace s0 := Sp.cell_kept kn s0); (try replace s1 := Sp.cell_kept kn s1); (try replace t0 := Sp.cell_kept kn t0); (try replace t1 := Sp.cell_kept kn t1); (try replace u0 := Sp.cell_kept kn u0); (try replace u1 := Sp.cell_kept kn u1); (try replace v0 := Sp.cell_kept kn v0); (try replace v1 := Sp.cell_kept kn v1); clear kn)
    | (go_at_call 24; (with_reducible refine (R3.out _ _ _ zF).mono ?_); rintro _ wn ⟨rfl, kn⟩; replace hb := hb.trans (kn.mono hb.size); (try replace zF := zF.below kn); (try replace zG := zG.below kn); (try replace zS := zS.below kn); (try replace zT := zT.below kn); (try replace zU := zU.below kn); (try replace zV := zV.below kn); (try replace zW := zW.below kn); (try replace f0 := Sp.cell_kept kn f0); (try replace f1 := Sp.cell_kept kn f1); (try replace g0 := Sp.cell_kept kn g0); (try replace g1 := Sp.cell_kept kn g1); (try replace s0 := Sp.cell_kept kn s0); (try replace s1 := Sp.cell_kept kn s1); (try replace t0 := Sp.cell_kept kn t0); (try replace t1 := Sp.cell_kept kn t1); (try replace u0 := Sp.cell_kept kn u0); (try replace u1 := Sp.cell_kept kn u1); (try replace v0 := Sp.cell_kept kn v0); (try replace v1 := Sp.cell_kept kn v1); clear kn)
    | (go_at_call 11; (with_reducible refine (A1.out _ _ _ _ _ zF zG).mono ?_); rintro _ wn ⟨aS, cS, rfl, zS, kn⟩; replace hb := hb.trans (kn.mono hb.size); (try replace zF := zF.below kn); (try replace zG := zG.below kn); (try replace zT := zT.below kn); (try replace zU := zU.below kn); (try replace zV := zV.below kn); (try replace zW := zW.below kn); (try replace f0 := Sp.cell_kept kn f0); (try replace f1 := Sp.cell_kept kn f1); (try replace g0 := Sp.cell_kept kn g0); (try replace g1 := Sp.cell_kept kn g1); (try replace s0 := Sp.cell_kept kn s0); (try replace s1 := Sp.cell_kept kn s1); (try replace t0 := Sp.cell_kept kn t0); (try replace t1 := Sp.cell_kept kn t1); (try replace u0 := Sp.cell_kept kn u0); (try replace u1 := Sp.cell_kept kn u1); (try replace v0 := Sp.cell_kept kn v0); (try replace v1 := Sp.cell_kept kn v1); have kA := Sp.alloc_below wn (fb 2 aS 2 cS); have hcs := fb_cells wn 2 aS 2 cS; clear kn))
  obtain ⟨s0, s1, -⟩ := hcs
  (try replace zF := zF.below kA)
  (try replace zG := zG.below kA)
  (try replace zS := zS.below kA)
  (try replace zT := zT.below kA)
  (try replace zU := zU.below kA)
  (try replace zV := zV.below kA)
  (try replace zW := zW.below kA)
  (try replace f0 := Sp.cell_kept kA f0)
  (try replace f1 := Sp.cell_kept kA f1)
  (try replace g0 := Sp.cell_kept kA g0)
  (try replace g1 := Sp.cell_kept kA g1)
  (try replace t0 := Sp.cell_kept kA t0)
  (try replace t1 := Sp.cell_kept kA t1)
  (try replace u0 := Sp.cell_kept kA u0)
  (try replace u1 := Sp.cell_kept kA u1)
  (try replace v0 := Sp.cell_kept kA v0)
  (try replace v1 := Sp.cell_kept kA v1)
  replace hb := hb.trans (kA.mono hb.size)
  clear kA
  generalize (World.alloc _ (fb 2 aS 2 cS)) = W_s at *
  go_upto_region 10 with (first
    | (go_at_call 13; (with_reducible refine (L1.out _ _ _ _ _ zF zG).mono ?_); rintro _ wn ⟨aT, cT, rfl, zT, kn⟩; replace hb := hb.trans (kn.mono hb.size); (try replace zF := zF.below kn); (try replace zG := zG.below kn); (try replace zS := zS.below kn); (try replace zU := zU.below kn); (try replace zV := zV.below kn); (try replace zW := zW.below kn); (try replace f0 := Sp.cell_kept kn f0); (try replace f1 := Sp.cell_kept kn f1); (try replace g0 := Sp.cell_kept kn g0); (try replace g1 := Sp.cell_kept kn g1); (try replace s0 := Sp.cell_kept kn s0); (try replace s1 := Sp.cell_kept kn s1); (try replace t0 := Sp.cell_kept kn t0); (try replace t1 := Sp.cell_kept kn t1); (try replace u0 := Sp.cell_kept kn u0); (try replace u1 := Sp.cell_kept kn u1); (try replace v0 := Sp.cell_kept kn v0); (try replace v1 := Sp.cell_kept kn v1); have kA := Sp.alloc_below wn (fb 2 aT 3 cT); have hcs := fb_cells wn 2 aT 3 cT; clear kn))
  obtain ⟨t0, t1, -⟩ := hcs
  (try replace zF := zF.below kA)
  (try replace zG := zG.below kA)
  (try replace zS := zS.below kA)
  (try replace zT := zT.below kA)
  (try replace zU := zU.below kA)
  (try replace zV := zV.below kA)
  (try replace zW := zW.below kA)
  (try replace f0 := Sp.cell_kept kA f0)
  (try replace f1 := Sp.cell_kept kA f1)
  (try replace g0 := Sp.cell_kept kA g0)
  (try replace g1 := Sp.cell_kept kA g1)
  (try replace s0 := Sp.cell_kept kA s0)
  (try replace s1 := Sp.cell_kept kA s1)
  (try replace u0 := Sp.cell_kept kA u0)
  (try replace u1 := Sp.cell_kept kA u1)
  (try replace v0 := Sp.cell_kept kA v0)
  (try replace v1 := Sp.cell_kept kA v1)
  replace hb := hb.trans (kA.mono hb.size)
  clear kA
  generalize (World.alloc _ (fb 2 aT 3 cT)) = W_t at *
  go_upto_region 13 with (first
    | (go_at_call 15; (with_reducible refine (W1.out _ _ _ zF).mono ?_); rintro _ wn ⟨aW, cW, rfl, zW, kn⟩; replace hb := hb.trans (kn.mono hb.size); (try replace zF := zF.below kn); (try replace zG := zG.below kn); (try replace zS := zS.below kn); (try replace zT := zT.below kn); (try replace zU := zU.below kn); (try replace zV := zV.below kn); (try replace f0 := Sp.cell_kept kn f0); (try replace f1 := Sp.cell_kept kn f1); (try replace g0 := Sp.cell_kept kn g0); (try replace g1 := Sp.cell_kept kn g1); (try replace s0 := Sp.cell_kept kn s0); (try replace s1 := Sp.cell_kept kn s1); (try replace t0 := Sp.cell_kept kn t0); (try replace t1 := Sp.cell_kept kn t1); (try replace u0 := Sp.cell_kept kn u0); (try replace u1 := Sp.cell_kept kn u1); (try replace v0 := Sp.cell_kept kn v0); (try replace v1 := Sp.cell_kept kn v1); clear kn)
    | (go_at_call 19; (with_reducible refine (SW.out _ _ _ zW).mono ?_); rintro _ wn ⟨rfl, kn⟩; replace hb := hb.trans (kn.mono hb.size); (try replace zF := zF.below kn); (try replace zG := zG.below kn); (try replace zS := zS.below kn); (try replace zT := zT.below kn); (try replace zU := zU.below kn); (try replace zV := zV.below kn); (try replace zW := zW.below kn); (try replace f0 := Sp.cell_kept kn f0); (try replace f1 := Sp.cell_kept kn f1); (try replace g0 := Sp.cell_kept kn g0); (try replace g1 := Sp.cell_kept kn g1); (try replace s0 := Sp.cell_kept kn s0); (try replace s1 := Sp.cell_kept kn s1); (try replace t0 := Sp.cell_kept kn t0); (try replace t1 := Sp.cell_kept kn t1); (try replace u0 := Sp.cell_kept kn u0); (try replace u1 := Sp.cell_kept kn u1); (try replace v0 := Sp.cell_kept kn v0); (try replace v1 := Sp.cell_kept kn v1); clear kn)
    | (go_at_call 20; (with_reducible refine (V1.out _ _ _ zF).mono ?_); rintro _ wn ⟨rfl, kn⟩; replace hb := hb.trans (kn.mono hb.size); (try replace zF := zF.below kn); (try replace zG := zG.below kn); (try replace zS := zS.below kn); (try replace zT := zT.below kn); (try replace zU := zU.below kn); (try replace zV := zV.below kn); (try replace zW := zW.below kn); (try replace f0 := Sp.cell_kept kn f0); (try replace f1 := Sp.cell_kept kn f1); (try replace g0 := Sp.cell_kept kn g0); (try replace g1 := Sp.cell_kept kn g1); (try replace s0 := Sp.cell_kept kn s0); (try replace s1 := Sp.cell_kept kn s1); (try replace t0 := Sp.cell_kept kn t0); (try replace t1 := Sp.cell_kept kn t1); (try replace u0 := Sp.cell_kept kn u0); (try replace u1 := Sp.cell_kept kn u1); (try replace v0 := Sp.cell_kept kn v0); (try replace v1 := Sp.cell_kept kn v1); clear kn)
    | (go_at_call 20; (with_reducible refine (V2.out _).mono ?_); rintro _ wn ⟨rfl, kn⟩; replace hb := hb.trans (kn.mono hb.size); (try replace zF := zF.below kn); (try replace zG := zG.below kn); (try replace zS := zS.below kn); (try replace zT := zT.below kn); (try replace zU := zU.below kn); (try replace zV := zV.below kn); (try replace zW := zW.below kn); (try replace f0 := Sp.cell_kept kn f0); (try replace f1 := Sp.cell_kept kn f1); (try replace g0 := Sp.cell_kept kn g0); (try replace g1 := Sp.cell_kept kn g1); (try replace s0 := Sp.cell_kept kn s0); (try replace s1 := Sp.cell_kept kn s1); (try replace t0 := Sp.cell_kept kn t0); (try replace t1 := Sp.cell_kept kn t1); (try replace u0 := Sp.cell_kept kn u0); (try replace u1 := Sp.cell_kept kn u1); (try replace v0 := Sp.cell_kept kn v0); (try replace v1 := Sp.cell_kept kn v1); clear kn))
  go_upto_region 14 with (fail)
  obtain ⟨zU, u0, u1, kn⟩ := lay_fn (w := wn) (d := 2) (n := 2) (l := [(0, 12, 1), (10, 22, 4)]) (show PcsAt _ _ (wn.alloc (.cells #[.int .i64 0, .int .i64 12, .int .i64 1, .int .i64 10, .int .i64 22, .int .i64 4] 55)) from pcs_new2 wn (0, 12, 1) (10, 22, 4))
  replace hb := hb.trans (kn.mono hb.size)
  (try replace zF := zF.below kn)
  (try replace zG := zG.below kn)
  (try replace zS := zS.below kn)
  (try replace zT := zT.below kn)
  (try replace zV := zV.below kn)
  (try replace zW := zW.below kn)
  (try replace f0 := Sp.cell_kept kn f0)
  (try replace f1 := Sp.cell_kept kn f1)
  (try replace g0 := Sp.cell_kept kn g0)
  (try replace g1 := Sp.cell_kept kn g1)
  (try replace s0 := Sp.cell_kept kn s0)
  (try replace s1 := Sp.cell_kept kn s1)
  (try replace t0 := Sp.cell_kept kn t0)
  (try replace t1 := Sp.cell_kept kn t1)
  (try replace v0 := Sp.cell_kept kn v0)
  (try replace v1 := Sp.cell_kept kn v1)
  clear kn
  generalize (wn.alloc (.cells #[.int .i64 0, .int .i64 12, .int .i64 1, .int .i64 10, .int .i64 22, .int .i64 4] 55)).alloc (fb 2 (some ⟨wn.heap.size, 0, none⟩) 2 2) = W_u at *
  generalize wn.heap.size + 1 = x_u at zU u0 u1 ⊢
  generalize wn.heap.size = y_u at zU u1 ⊢
  go_upto_region 15 with (fail)
  obtain ⟨zV, v0, v1, kn⟩ := lay_fn (w := W_u) (d := 2) (n := 3) (l := [(0, 0, 1), (10, 10, 4), (11, 12, 0)]) (show PcsAt _ _ (W_u.alloc (.cells #[.int .i64 0, .int .i64 0, .int .i64 1, .int .i64 10, .int .i64 10, .int .i64 4, .int .i64 11, .int .i64 12, .int .i64 0] 55)) from pcs_new3 W_u (0, 0, 1) (10, 10, 4) (11, 12, 0))
  replace hb := hb.trans (kn.mono hb.size)
  (try replace zF := zF.below kn)
  (try replace zG := zG.below kn)
  (try replace zS := zS.below kn)
  (try replace zT := zT.below kn)
  (try replace zU := zU.below kn)
  (try replace zW := zW.below kn)
  (try replace f0 := Sp.cell_kept kn f0)
  (try replace f1 := Sp.cell_kept kn f1)
  (try replace g0 := Sp.cell_kept kn g0)
  (try replace g1 := Sp.cell_kept kn g1)
  (try replace s0 := Sp.cell_kept kn s0)
  (try replace s1 := Sp.cell_kept kn s1)
  (try replace t0 := Sp.cell_kept kn t0)
  (try replace t1 := Sp.cell_kept kn t1)
  (try replace u0 := Sp.cell_kept kn u0)
  (try replace u1 := Sp.cell_kept kn u1)
  clear kn
  generalize (W_u.alloc (.cells #[.int .i64 0, .int .i64 0, .int .i64 1, .int .i64 10, .int .i64 10, .int .i64 4, .int .i64 11, .int .i64 12, .int .i64 0] 55)).alloc (fb 2 (some ⟨W_u.heap.size, 0, none⟩) 3 3) = W_v at *
  generalize W_u.heap.size + 1 = x_v at zV v0 v1 ⊢
  generalize W_u.heap.size = y_v at zV v1 ⊢
  go_wp2_with (first
    | (go_at_call 18; (with_reducible refine (Q1.out _ _ _ _ _ zS zU).mono ?_); rintro _ wn ⟨rfl, kn⟩; replace hb := hb.trans (kn.mono hb.size); (try replace zF := zF.below kn); (try replace zG := zG.below kn); (try replace zS := zS.below kn); (try replace zT := zT.below kn); (try replace zU := zU.below kn); (try replace zV := zV.below kn); (try replace zW := zW.below kn); (try replace f0 := Sp.cell_kept kn f0); (try replace f1 := Sp.cell_kept kn f1); (try replace g0 := Sp.cell_kept kn g0); (try replace g1 := Sp.cell_kept kn g1); (try replace s0 := Sp.cell_kept kn s0); (try replace s1 := Sp.cell_kept kn s1); (try replace t0 := Sp.cell_kept kn t0); (try replace t1 := Sp.cell_kept kn t1); (try replace u0 := Sp.cell_kept kn u0); (try replace u1 := Sp.cell_kept kn u1); (try replace v0 := Sp.cell_kept kn v0); (try replace v1 := Sp.cell_kept kn v1); clear kn)
    | (go_at_call 18; (with_reducible refine (Q2.out _ _ _ _ _ zT zV).mono ?_); rintro _ wn ⟨rfl, kn⟩; replace hb := hb.trans (kn.mono hb.size); (try replace zF := zF.below kn); (try replace zG := zG.below kn); (try replace zS := zS.below kn); (try replace zT := zT.below kn); (try replace zU := zU.below kn); (try replace zV := zV.below kn); (try replace zW := zW.below kn); (try replace f0 := Sp.cell_kept kn f0); (try replace f1 := Sp.cell_kept kn f1); (try replace g0 := Sp.cell_kept kn g0); (try replace g1 := Sp.cell_kept kn g1); (try replace s0 := Sp.cell_kept kn s0); (try replace s1 := Sp.cell_kept kn s1); (try replace t0 := Sp.cell_kept kn t0); (try replace t1 := Sp.cell_kept kn t1); (try replace u0 := Sp.cell_kept kn u0); (try replace u1 := Sp.cell_kept kn u1); (try replace v0 := Sp.cell_kept kn v0); (try replace v1 := Sp.cell_kept kn v1); clear kn))
  go_ret
  exact ⟨rfl, hb⟩
end Go.Proofs.Ytdoojpilogcnjaa.Pw
