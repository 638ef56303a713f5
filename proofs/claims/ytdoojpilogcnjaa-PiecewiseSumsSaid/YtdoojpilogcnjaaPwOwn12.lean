/- What the developers' combine returns where an error forbids to combine. Conditions: the functions lie in memory as the arguments say. -/
import Derived.Test.YtdoojpilogcnjaaPwOwn11
set_option linter.unusedVariables false
set_option linter.unusedSimpArgs false
namespace Go.Proofs.Ytdoojpilogcnjaa.Pw
open Go Go.RowKit Go.Shelf Go.Proofs.Ytdoojpilogcnjaa.Zn Go.Proofs.Ytdoojpilogcnjaa.Sp
abbrev jb (jf : Nat) : Obj := .cells #[.func (.func jf) #[] #[]] 58
abbrev cmbW (w : World) (d e : Int) (a b : Option Addr) (n c m k jf : Nat) : World := (((w.alloc (fb d a n c)).alloc (fb e b m k)).alloc (jb jf)).alloc (fb 0 none 0 0)
/-- The boxes that combine lays. -/
structure Boxes (w : World) (x0 : Nat) (d e : Int) (a b : Option Addr) (n c m k jf : Nat) (W : World) : Prop where
  f0 : W.cell? ⟨x0, 0, none⟩ = some (.int .i64 d)
  f1 : W.cell? ⟨x0, 1, none⟩ = some (.slice a n c)
  g0 : W.cell? ⟨x0 + 1, 0, none⟩ = some (.int .i64 e)
  g1 : W.cell? ⟨x0 + 1, 1, none⟩ = some (.slice b m k)
  j0 : W.cell? ⟨x0 + 2, 0, none⟩ = some (.func (.func jf) #[] #[])
  q0 : W.cell? ⟨x0 + 3, 0, none⟩ = some (.int .i64 0)
  q1 : W.cell? ⟨x0 + 3, 1, none⟩ = some (.slice none 0 0)
  y0 : W.frozen? ⟨x0 + 3, 0, none⟩ = false
  y1 : W.frozen? ⟨x0 + 3, 1, none⟩ = false
  hb : Below w.heap.size w W
theorem Boxes.below {w : World} {x0 : Nat} {d e : Int} {a b : Option Addr} {n c m k jf : Nat} {W W' : World} (h : Boxes w x0 d e a b n c m k jf W) (q : Below W.heap.size W W') : Boxes w x0 d e a b n c m k jf W' :=
  ⟨Sp.cell_kept q h.f0, Sp.cell_kept q h.f1, Sp.cell_kept q h.g0, Sp.cell_kept q h.g1, Sp.cell_kept q h.j0, Sp.cell_kept q h.q0, Sp.cell_kept q h.q1, Pw.frozen_kept q h.y0 h.q0, Pw.frozen_kept q h.y1 h.q1, h.hb.trans (q.mono h.hb.size)⟩
theorem fb_cells (w : World) (d : Int) (a : Option Addr) (n c : Nat) : (w.alloc (fb d a n c)).cell? ⟨w.heap.size, 0, none⟩ = some (.int .i64 d) ∧ (w.alloc (fb d a n c)).cell? ⟨w.heap.size, 1, none⟩ = some (.slice a n c) ∧ ∀ i, (w.alloc (fb d a n c)).frozen? ⟨w.heap.size, i, none⟩ = false := by
  refine ⟨by simp [World.cell?_alloc_new], by simp [World.cell?_alloc_new], fun i => by simp⟩
theorem boxes_new (w : World) (d e : Int) (a b : Option Addr) (n c m k jf : Nat) : Boxes w w.heap.size d e a b n c m k jf (cmbW w d e a b n c m k jf) := by
  have s1 : (w.alloc (fb d a n c)).heap.size = w.heap.size + 1 := by simp
  have s2 : ((w.alloc (fb d a n c)).alloc (fb e b m k)).heap.size = w.heap.size + 2 := by simp
  have s3 : (((w.alloc (fb d a n c)).alloc (fb e b m k)).alloc (jb jf)).heap.size = w.heap.size + 3 := by simp
  obtain ⟨a0, a1, -⟩ := fb_cells w d a n c
  have b01 := fb_cells (w.alloc (fb d a n c)) e b m k
  have j : (((w.alloc (fb d a n c)).alloc (fb e b m k)).alloc (jb jf)).cell? ⟨((w.alloc (fb d a n c)).alloc (fb e b m k)).heap.size, 0, none⟩ = some (.func (.func jf) #[] #[]) := by
    generalize (w.alloc (fb d a n c)).alloc (fb e b m k) = W
    simp [World.cell?_alloc_new]
  have q01 := fb_cells (((w.alloc (fb d a n c)).alloc (fb e b m k)).alloc (jb jf)) 0 none 0 0
  rw [s1] at b01
  rw [s2] at j
  rw [s3] at q01
  obtain ⟨b0, b1, -⟩ := b01
  obtain ⟨q0, q1, y⟩ := q01
  have k1 := Sp.alloc_below w (fb d a n c)
  have k2 := Sp.alloc_below (w.alloc (fb d a n c)) (fb e b m k)
  have k3 := Sp.alloc_below ((w.alloc (fb d a n c)).alloc (fb e b m k)) (jb jf)
  have k4 := Sp.alloc_below (((w.alloc (fb d a n c)).alloc (fb e b m k)).alloc (jb jf)) (fb 0 none 0 0)
  have k34 := k3.trans (k4.mono k3.size)
  have k24 := k2.trans (k34.mono k2.size)
  exact ⟨Sp.cell_kept k24 a0, Sp.cell_kept k24 a1, Sp.cell_kept k34 b0, Sp.cell_kept k34 b1, Sp.cell_kept k4 j, q0, q1, y 0, y 1, k1.trans (k24.mono k1.size)⟩
theorem Boxes.fill {w : World} {x0 : Nat} {d e : Int} {a b : Option Addr} {n c m k jf : Nat} {W : World} (h : Boxes w x0 d e a b n c m k jf W) (hx : w.heap.size ≤ x0) (u v : Value) :
    ((W.setCell ⟨x0 + 3, 0, none⟩ u).setCell ⟨x0 + 3, 1, none⟩ v).cell? ⟨x0 + 3, 0, none⟩ = some u ∧ ((W.setCell ⟨x0 + 3, 0, none⟩ u).setCell ⟨x0 + 3, 1, none⟩ v).cell? ⟨x0 + 3, 1, none⟩ = some v ∧ Below w.heap.size w ((W.setCell ⟨x0 + 3, 0, none⟩ u).setCell ⟨x0 + 3, 1, none⟩ v) :=
  fill2 h.hb (by omega) h.q0 h.q1
set_option maxHeartbeats 4000000 in
set_option maxRecDepth 100000 in
theorem pcombine_out (d e : Int) (a b : Option Addr) (c k jf : Nat) (l r M : List Pc) (w : World) (zl : PcsAt a l w) (zr : PcsAt b r w) (hw : wrg d e l r ≠ 0) :
    Calls Try.prog 28 #[fv d a l.length c, fv e b r.length k, .func (.func jf) #[] #[]] w (CmbPost w (cmbT d e l r M)) := by
  have HT := Lib.hid (show cmbT d e l r M = (0, [], wrg d e l r) by unfold cmbT; rw [if_pos hw])
  have HL := Lib.hid (fun w' (q : Below w.heap.size w w') => pvalid_any d a c l w' (zl.below q))
  have HR := Lib.hid (fun w' (q : Below w.heap.size w w') => pvalid_any e b k r w' (zr.below q))
  have HW := Lib.hid (show wrg d e l r = if vdB d l = true ∧ vdB e r = true then (if d = e then 0 else 11) else 1 from rfl)
  have HNE := Lib.hid hw
  generalize vdB d l = va at *
  generalize vdB e r = vb at *
  generalize l.length = n at *
  generalize r.length = m at *
  have HX := Lib.hid (boxes_new w d e a b n c m k jf)
  generalize hT : cmbT d e l r M = T at *
  clear zl zr hw hT
  go_enter Try.func28, Try.ntmps28
  go_upto_region 1 with (fail)
  change Code.wp _ _ _ _ (cmbW w d e a b n c m k jf)
  generalize cmbW w d e a b n c m k jf = W1 at *
  generalize hxb : w.heap.size = xb at HX ⊢
  have HXB := Lib.hid hxb
  clear hxb
  obtain ⟨f0, f1, g0, g1, -, q0, q1, y0, y1, hB⟩ := HX.out
  have HB := Lib.hid hB
  clear hB
  cases va
  · have HV := Lib.hid (show wrg d e l r = 1 by rw [HW.out, if_neg (fun q => by cases q.1)])
    go_upto_region 2 with (first
      | (go_at_call 20; with_reducible refine (HL.out _ HB.out).mono ?_; rintro _ W2 ⟨rfl, hn2⟩; clear f0 f1 g0 g1 q0 q1 y0 y1; have HX2 := Lib.hid (HX.out.below hn2); obtain ⟨f0, f1, g0, g1, -, q0, q1, y0, y1, hB⟩ := HX2.out; have HB2 := Lib.hid hB; clear hB hn2))
    have HF := Lib.hid (HX2.out.fill (Nat.le_of_eq HXB.out) (.int .i64 0) (.slice none 0 0))
    go_wp2
    obtain ⟨r0, r1, hBf⟩ := HF.out
    generalize (W2.setCell ⟨xb + 3, 0, none⟩ (.int .i64 0)).setCell ⟨xb + 3, 1, none⟩ (.slice none 0 0) = W9 at *
    (try simp only [Exit.inBlock, Exit.then])
    refine bodyPost_ret (by simp [results, Try.results28, r0, r1, go_sem]; try rfl) rfl ?_
    exact CmbPost.none (E := 1) (by rw [HT.out, HV.out]) rfl hBf
  · cases vb
    · have HV := Lib.hid (show wrg d e l r = 1 by rw [HW.out, if_neg (fun q => by cases q.2)])
      go_upto_region 2 with (first
        | (go_at_call 20; with_reducible refine (HL.out _ HB.out).mono ?_; rintro _ W2 ⟨rfl, hn2⟩; clear f0 f1 g0 g1 q0 q1 y0 y1; have HX2 := Lib.hid (HX.out.below hn2); obtain ⟨f0, f1, g0, g1, -, q0, q1, y0, y1, hB⟩ := HX2.out; have HB2 := Lib.hid hB; clear hB hn2)
        | (go_at_call 20; with_reducible refine (HR.out _ HB2.out).mono ?_; rintro _ W3 ⟨rfl, hn3⟩; clear f0 f1 g0 g1 q0 q1 y0 y1; have HX3 := Lib.hid (HX2.out.below hn3); obtain ⟨f0, f1, g0, g1, -, q0, q1, y0, y1, hB⟩ := HX3.out; have HB3 := Lib.hid hB; clear hB hn3))
      have HF := Lib.hid (HX3.out.fill (Nat.le_of_eq HXB.out) (.int .i64 0) (.slice none 0 0))
      go_wp2
      obtain ⟨r0, r1, hBf⟩ := HF.out
      generalize (W3.setCell ⟨xb + 3, 0, none⟩ (.int .i64 0)).setCell ⟨xb + 3, 1, none⟩ (.slice none 0 0) = W9 at *
      (try simp only [Exit.inBlock, Exit.then])
      refine bodyPost_ret (by simp [results, Try.results28, r0, r1, go_sem]; try rfl) rfl ?_
      exact CmbPost.none (E := 1) (by rw [HT.out, HV.out]) rfl hBf
    · have hde : ¬ d = e := fun q => HNE.out (by rw [HW.out, if_pos ⟨rfl, rfl⟩, if_pos q])
      have t1 : (d != e) = true := by simpa using hde
      have HV := Lib.hid (show wrg d e l r = 11 by rw [HW.out, if_pos ⟨rfl, rfl⟩, if_neg hde])
      clear hde
      go_upto_region 4 with (first
        | (go_at_call 20; with_reducible refine (HL.out _ HB.out).mono ?_; rintro _ W2 ⟨rfl, hn2⟩; clear f0 f1 g0 g1 q0 q1 y0 y1; have HX2 := Lib.hid (HX.out.below hn2); obtain ⟨f0, f1, g0, g1, -, q0, q1, y0, y1, hB⟩ := HX2.out; have HB2 := Lib.hid hB; clear hB hn2)
        | (go_at_call 20; with_reducible refine (HR.out _ HB2.out).mono ?_; rintro _ W3 ⟨rfl, hn3⟩; clear f0 f1 g0 g1 q0 q1 y0 y1; have HX3 := Lib.hid (HX2.out.below hn3); obtain ⟨f0, f1, g0, g1, -, q0, q1, y0, y1, hB⟩ := HX3.out; have HB3 := Lib.hid hB; clear hB hn3))
      have HF := Lib.hid (HX3.out.fill (Nat.le_of_eq HXB.out) (.int .i64 0) (.slice none 0 0))
      go_wp2
      obtain ⟨r0, r1, hBf⟩ := HF.out
      generalize (W3.setCell ⟨xb + 3, 0, none⟩ (.int .i64 0)).setCell ⟨xb + 3, 1, none⟩ (.slice none 0 0) = W9 at *
      (try simp only [Exit.inBlock, Exit.then])
      refine bodyPost_ret (by simp [results, Try.results28, r0, r1, go_sem]; try rfl) rfl ?_
      exact CmbPost.none (E := 11) (by rw [HT.out, HV.out]) rfl hBf
end Go.Proofs.Ytdoojpilogcnjaa.Pw
