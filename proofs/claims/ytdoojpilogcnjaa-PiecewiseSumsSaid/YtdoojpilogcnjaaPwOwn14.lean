/- What the developers' Add and Least return. Conditions: the functions lie in memory as the arguments say. -/
import Derived.Test.YtdoojpilogcnjaaPwOwn13
set_option linter.unusedVariables false
set_option linter.unusedSimpArgs false
namespace Go.Proofs.Ytdoojpilogcnjaa.Pw
open Go Go.RowKit Go.Proofs.Ytdoojpilogcnjaa.Sp
theorem jn_add (l r : List Pc) : (strs (starts l r)).flatMap (jn (fun p q _ => [(p.1, p.2.1 + q.2.1, p.2.2 + q.2.2)]) l r) = add l r := by
  show (strs (starts l r)).flatMap (fun p => [((p.1, num l p.1 + num r p.1, slp l p.1 + slp r p.1) : Pc)]) = _
  rw [flat_one' (fun p : Int × Int => ((p.1, num l p.1 + num r p.1, slp l p.1 + slp r p.1) : Pc))]
  have e2 : (strs (starts l r)).map (fun p => ((p.1, num l p.1 + num r p.1, slp l p.1 + slp r p.1) : Pc)) = ((strs (starts l r)).map Prod.fst).map (fun s => (s, num l s + num r s, slp l s + slp r s)) := by rw [List.map_map]; rfl
  rw [e2, strs_fst]
  rfl
theorem jn_lst (l r : List Pc) : (strs (starts l r)).flatMap (jn (fun p q e => cell (p.2.1, p.2.2) (q.2.1, q.2.2) p.1 (e - 1)) l r) = lst l r := by
  unfold lst
  congr 1
  funext p
  show cell (num l p.1, slp l p.1) (num r p.1, slp r p.1) p.1 (p.2 + 1 - 1) = _
  rw [show p.2 + 1 - 1 = p.2 by omega]
theorem pcombine_any (d e : Int) (a b : Option Addr) (c k jf : Nat) (J : Pc → Pc → Int → List Pc) (l r M : List Pc) (w : World) (zl : PcsAt a l w) (zr : PcsAt b r w) (hJ : Joins jf J) (hJ2 : ∀ p q e, (J p q e).length ≤ 2)
    (eg : ∀ args w, (callFunc jf args).run Try.prog w = .ok (.enter jf args) w) (hM : (strs (starts l r)).flatMap (jn J l r) = M) :
    Calls Try.prog 28 #[fv d a l.length c, fv e b r.length k, .func (.func jf) #[] #[]] w (CmbPost w (cmbT d e l r M)) := by
  by_cases h : wrg d e l r = 0
  · have q := pcombine_in d e a b c k jf J l r w zl zr h hJ hJ2 eg
    rw [hM] at q
    exact q
  · exact pcombine_out d e a b c k jf l r M w zl zr h
theorem cell_two (p q : Int × Int) (s e : Int) : (cell p q s e).length ≤ 2 := cell_len p q s e
theorem PcsAt.set_far {a : Option Addr} {l : List Pc} {w : World} {k i : Nat} {v : Value} (h : PcsAt a l w) (hf : ∀ b o, a = some ⟨b, o, none⟩ → b ≠ k) : PcsAt a l (w.setCell ⟨k, i, none⟩ v) := fun j x hx => by
  obtain ⟨b, off, rfl, c1, c2, c3⟩ := h j x hx
  have hne := hf b off rfl
  refine ⟨b, off, rfl, ?_, ?_, ?_⟩
  · rw [World.cell?_setCell_far _ _ _ _ (show k ≠ b from hne.symm)]; exact c1
  · rw [World.cell?_setCell_far _ _ _ _ (show k ≠ b from hne.symm)]; exact c2
  · rw [World.cell?_setCell_far _ _ _ _ (show k ≠ b from hne.symm)]; exact c3
theorem three_boxes (w : World) (d e : Int) (a b : Option Addr) (n c m k : Nat) : (((w.alloc (fb d a n c)).alloc (fb e b m k)).alloc (fb 0 none 0 0)).cell? ⟨w.heap.size, 0, none⟩ = some (.int .i64 d) ∧ (((w.alloc (fb d a n c)).alloc (fb e b m k)).alloc (fb 0 none 0 0)).cell? ⟨w.heap.size, 1, none⟩ = some (.slice a n c) ∧
    (((w.alloc (fb d a n c)).alloc (fb e b m k)).alloc (fb 0 none 0 0)).cell? ⟨w.heap.size + 1, 0, none⟩ = some (.int .i64 e) ∧ (((w.alloc (fb d a n c)).alloc (fb e b m k)).alloc (fb 0 none 0 0)).cell? ⟨w.heap.size + 1, 1, none⟩ = some (.slice b m k) ∧
    (((w.alloc (fb d a n c)).alloc (fb e b m k)).alloc (fb 0 none 0 0)).cell? ⟨w.heap.size + 2, 0, none⟩ = some (.int .i64 0) ∧ (((w.alloc (fb d a n c)).alloc (fb e b m k)).alloc (fb 0 none 0 0)).cell? ⟨w.heap.size + 2, 1, none⟩ = some (.slice none 0 0) ∧
    (((w.alloc (fb d a n c)).alloc (fb e b m k)).alloc (fb 0 none 0 0)).frozen? ⟨w.heap.size + 2, 0, none⟩ = false ∧ (((w.alloc (fb d a n c)).alloc (fb e b m k)).alloc (fb 0 none 0 0)).frozen? ⟨w.heap.size + 2, 1, none⟩ = false ∧ Below w.heap.size w (((w.alloc (fb d a n c)).alloc (fb e b m k)).alloc (fb 0 none 0 0)) ∧ (((w.alloc (fb d a n c)).alloc (fb e b m k)).alloc (fb 0 none 0 0)).heap.size = w.heap.size + 3 := by
  have s1 : (w.alloc (fb d a n c)).heap.size = w.heap.size + 1 := by simp
  have s2 : ((w.alloc (fb d a n c)).alloc (fb e b m k)).heap.size = w.heap.size + 2 := by simp
  obtain ⟨a0, a1, -⟩ := fb_cells w d a n c
  have b01 := fb_cells (w.alloc (fb d a n c)) e b m k
  have q01 := fb_cells ((w.alloc (fb d a n c)).alloc (fb e b m k)) 0 none 0 0
  rw [s1] at b01
  rw [s2] at q01
  obtain ⟨b0, b1, -⟩ := b01
  obtain ⟨q0, q1, y⟩ := q01
  have k1 := Sp.alloc_below w (fb d a n c)
  have k2 := Sp.alloc_below (w.alloc (fb d a n c)) (fb e b m k)
  have k3 := Sp.alloc_below ((w.alloc (fb d a n c)).alloc (fb e b m k)) (fb 0 none 0 0)
  have k23 := k2.trans (k3.mono k2.size)
  exact ⟨Sp.cell_kept k23 a0, Sp.cell_kept k23 a1, Sp.cell_kept k3 b0, Sp.cell_kept k3 b1, q0, q1, y 0, y 1, k1.trans (k23.mono k1.size), by simp⟩
set_option maxHeartbeats 2000000 in
set_option maxRecDepth 100000 in
theorem paddf_any (d e : Int) (a b : Option Addr) (c k : Nat) (l r : List Pc) (w : World) (zl : PcsAt a l w) (zr : PcsAt b r w) :
    Calls Try.prog 11 #[fv d a l.length c, fv e b r.length k] w (CmbPost w (cmbT d e l r (add l r))) := by
  have HC := Lib.hid (fun w' (q : Below w.heap.size w w') => pcombine_any d e a b c k 29 _ l r _ w' (zl.below q) (zr.below q) padd1_any (fun _ _ _ => by simp) (enters_of Try.func29 (by kernel_rfl) rfl) (jn_add l r))
  generalize cmbT d e l r (add l r) = T at *
  generalize l.length = n at *
  generalize r.length = m at *
  clear zl zr
  obtain ⟨D, L, E⟩ := T
  obtain ⟨f0, f1, g0, g1, q0, q1, y0, y1, hB, hsz⟩ := three_boxes w d e a b n c m k
  go_enter Try.func11, Try.ntmps11
  go_upto_region 1 with (fail)
  generalize ((w.alloc (fb d a n c)).alloc (fb e b m k)).alloc (fb 0 none 0 0) = W1 at *
  generalize hxb : w.heap.size = xb at f0 f1 g0 g1 q0 q1 y0 y1 hsz ⊢
  have HXB := Lib.hid hxb
  have HB := Lib.hid hB
  have HQ := Lib.hid (And.intro q0 (And.intro q1 (And.intro y0 (And.intro y1 hsz))))
  clear hxb hB hsz
  go_wp2_with (go_at_call 28; (with_reducible refine (HC.out _ HB.out).mono ?_); rintro _ W2 ⟨ar, cr, rfl, hp, hn, hf, hb⟩; clear q0 q1 y0 y1; have q0 := Sp.cell_kept hb HQ.out.1; have q1 := Sp.cell_kept hb HQ.out.2.1; have y0 := Pw.frozen_kept hb HQ.out.2.2.1 HQ.out.1; have y1 := Pw.frozen_kept hb HQ.out.2.2.2.1 HQ.out.2.1; have HP := Lib.hid (And.intro hp (And.intro hn hf)); have HB2 := Lib.hid (HB.out.trans (hb.mono HB.out.size)); have HFF := Lib.hid (fill2 (a := .int .i64 D) (b := .slice ar L.length cr) HB2.out (by have := HXB.out; omega : w.heap.size ≤ xb + 2) q0 q1); clear hp hn hf hb HC)
  obtain ⟨r0, r1, hBf⟩ := HFF.out
  have hpz := (HP.out.1.set_far (k := xb + 2) (i := 0) (v := .int .i64 D) (fun b o e => by have h1 := HP.out.2.2 b o e; have h2 := HQ.out.2.2.2.2; omega)).set_far (k := xb + 2) (i := 1) (v := .slice ar L.length cr) (fun b o e => by have h1 := HP.out.2.2 b o e; have h2 := HQ.out.2.2.2.2; omega)
  have HPZ := Lib.hid hpz
  clear hpz
  generalize (W2.setCell ⟨xb + 2, 0, none⟩ (.int .i64 D)).setCell ⟨xb + 2, 1, none⟩ (.slice ar L.length cr) = W9 at *
  (try simp only [Exit.inBlock, Exit.then])
  refine bodyPost_ret (by simp [results, Try.results11, r0, r1, go_sem]; try rfl) rfl ?_
  exact ⟨ar, cr, rfl, HPZ.out, HP.out.2.1, fun b o e => by have h1 := HP.out.2.2 b o e; have h2 := HQ.out.2.2.2.2; have h3 := HXB.out; omega, hBf⟩
set_option maxHeartbeats 2000000 in
set_option maxRecDepth 100000 in
theorem pleast_any (d e : Int) (a b : Option Addr) (c k : Nat) (l r : List Pc) (w : World) (zl : PcsAt a l w) (zr : PcsAt b r w) :
    Calls Try.prog 13 #[fv d a l.length c, fv e b r.length k] w (CmbPost w (cmbT d e l r (lst l r))) := by
  have HC := Lib.hid (fun w' (q : Below w.heap.size w w') => pcombine_any d e a b c k 35 _ l r _ w' (zl.below q) (zr.below q) plesser_any (fun _ _ _ => cell_two _ _ _ _) (enters_of Try.func35 (by kernel_rfl) rfl) (jn_lst l r))
  generalize cmbT d e l r (lst l r) = T at *
  generalize l.length = n at *
  generalize r.length = m at *
  clear zl zr
  obtain ⟨D, L, E⟩ := T
  obtain ⟨f0, f1, g0, g1, q0, q1, y0, y1, hB, hsz⟩ := three_boxes w d e a b n c m k
  go_enter Try.func13, Try.ntmps13
  go_upto_region 1 with (fail)
  generalize ((w.alloc (fb d a n c)).alloc (fb e b m k)).alloc (fb 0 none 0 0) = W1 at *
  generalize hxb : w.heap.size = xb at f0 f1 g0 g1 q0 q1 y0 y1 hsz ⊢
  have HXB := Lib.hid hxb
  have HB := Lib.hid hB
  have HQ := Lib.hid (And.intro q0 (And.intro q1 (And.intro y0 (And.intro y1 hsz))))
  clear hxb hB hsz
  go_wp2_with (go_at_call 28; (with_reducible refine (HC.out _ HB.out).mono ?_); rintro _ W2 ⟨ar, cr, rfl, hp, hn, hf, hb⟩; clear q0 q1 y0 y1; have q0 := Sp.cell_kept hb HQ.out.1; have q1 := Sp.cell_kept hb HQ.out.2.1; have y0 := Pw.frozen_kept hb HQ.out.2.2.1 HQ.out.1; have y1 := Pw.frozen_kept hb HQ.out.2.2.2.1 HQ.out.2.1; have HP := Lib.hid (And.intro hp (And.intro hn hf)); have HB2 := Lib.hid (HB.out.trans (hb.mono HB.out.size)); have HFF := Lib.hid (fill2 (a := .int .i64 D) (b := .slice ar L.length cr) HB2.out (by have := HXB.out; omega : w.heap.size ≤ xb + 2) q0 q1); clear hp hn hf hb HC)
  obtain ⟨r0, r1, hBf⟩ := HFF.out
  have hpz := (HP.out.1.set_far (k := xb + 2) (i := 0) (v := .int .i64 D) (fun b o e => by have h1 := HP.out.2.2 b o e; have h2 := HQ.out.2.2.2.2; omega)).set_far (k := xb + 2) (i := 1) (v := .slice ar L.length cr) (fun b o e => by have h1 := HP.out.2.2 b o e; have h2 := HQ.out.2.2.2.2; omega)
  have HPZ := Lib.hid hpz
  clear hpz
  generalize (W2.setCell ⟨xb + 2, 0, none⟩ (.int .i64 D)).setCell ⟨xb + 2, 1, none⟩ (.slice ar L.length cr) = W9 at *
  (try simp only [Exit.inBlock, Exit.then])
  refine bodyPost_ret (by simp [results, Try.results13, r0, r1, go_sem]; try rfl) rfl ?_
  exact ⟨ar, cr, rfl, HPZ.out, HP.out.2.1, fun b o e => by have h1 := HP.out.2.2 b o e; have h2 := HQ.out.2.2.2.2; have h3 := HXB.out; omega, hBf⟩
end Go.Proofs.Ytdoojpilogcnjaa.Pw
