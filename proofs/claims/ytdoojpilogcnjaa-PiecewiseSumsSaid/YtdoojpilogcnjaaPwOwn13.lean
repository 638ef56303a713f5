/- What the developers' combine returns where both functions are valid and of one denominator. Conditions: the functions lie in memory as the arguments say; the way of joining does what it shall. -/
import Derived.Test.YtdoojpilogcnjaaPwOwn12
import Derived.RangeFuncBox
import Derived.Sort.CutIn
set_option linter.unusedVariables false
set_option linter.unusedSimpArgs false
namespace Go.Proofs.Ytdoojpilogcnjaa.Pw
open Go Go.RowKit Go.Shelf Go.Proofs.Ytdoojpilogcnjaa.Zn Go.Proofs.Ytdoojpilogcnjaa.Sp
attribute [local go_sem] Oper.semAt_some
theorem RowP.kp {rb base : Nat} {X Y : World} {v : Value} {l : List Pc} (h : RowP X base v l) (q : Kp rb base X Y) : RowP Y base v l := by
  refine ⟨h.1, ?_⟩
  rcases h.2 with hn | ⟨g, cap, cur, e1, e2, e3, rest⟩
  · exact .inl hn
  · exact .inr ⟨g, cap, cur, e1, e2, (q.block g (Array.getElem?_eq_some_iff.1 e3).1 (Or.inr e2)).trans e3, rest⟩
theorem RowP.pcs' {w : World} {base cap : Nat} {a : Option Addr} {l : List Pc} (h : RowP w base (.slice a l.length cap) l) : PcsAt a l w ∧ (a = none → cap = 0) := by
  obtain ⟨a', cap', e, hp, -, hn⟩ := h.pcs
  cases e
  exact ⟨hp, hn⟩
theorem CmbPost.some {w w' : World} {T : Int × List Pc × Int} {D : Int} {L : List Pc} {a : Option Addr} {c : Nat} {res : Ending} (h : T = (D, L, 0)) (hr : res = .returned (.tuple #[fv D a L.length c, .int .i64 0])) (hp : PcsAt a L w') (hn : a = Option.none → c = 0) (hf : ∀ b o, a = Option.some ⟨b, o, Option.none⟩ → w.heap.size ≤ b) (hb : Below w.heap.size w w') : CmbPost w T res w' := by
  subst h
  exact ⟨a, c, hr, hp, hn, hf, hb⟩
theorem RowP.fresh {w : World} {base n cap : Nat} {a : Option Addr} {l : List Pc} (h : RowP w base (.slice a n cap) l) : ∀ g o, a = Option.some ⟨g, o, Option.none⟩ → base ≤ g := fun g o e => by
  rcases h.2 with ⟨hv, _⟩ | ⟨g', cap', cur, hv, hb, hg, rest⟩
  · cases hv; cases e
  · cases hv; cases e; exact hb
theorem wrg_zero {d e : Int} {l r : List Pc} (h : wrg d e l r = 0) : vdB d l = true ∧ vdB e r = true ∧ d = e := by
  unfold wrg at h
  by_cases c : vdB d l = true ∧ vdB e r = true
  · rw [if_pos c] at h
    by_cases q : d = e
    · exact ⟨c.1, c.2, q⟩
    · rw [if_neg q] at h; cases h
  · rw [if_neg c] at h; cases h
theorem slp_bd {l : List Pc} (h : Ok l) {x : Int} (hx : 0 ≤ x) : -1000000 ≤ slp l x ∧ slp l x ≤ 1000000 := h.slope _ (pick_spec h hx).1
/-- What a stretch of two functions gives. -/
abbrev jn (J : Pc → Pc → Int → List Pc) (l r : List Pc) (p : Int × Int) : List Pc := J (p.1, num l p.1, slp l p.1) (p.1, num r p.1, slp r p.1) (p.2 + 1)
theorem jn_len {J : Pc → Pc → Int → List Pc} (h : ∀ p q e, (J p q e).length ≤ 2) (l r : List Pc) : ∀ L : List (Int × Int), (L.flatMap (jn J l r)).length ≤ L.length * 2
  | [] => by simp
  | p :: L => by
    rw [List.flatMap_cons, List.length_append, List.length_cons]
    have := h (p.1, num l p.1, slp l p.1) (p.1, num r p.1, slp r p.1) (p.2 + 1)
    have := jn_len h l r L
    show (J _ _ _).length + _ ≤ _
    omega
set_option maxHeartbeats 8000000 in
set_option maxRecDepth 100000 in
theorem pcombine_in (d e : Int) (a b : Option Addr) (c k jf : Nat) (J : Pc → Pc → Int → List Pc) (l r : List Pc) (w : World) (zl : PcsAt a l w) (zr : PcsAt b r w) (hw : wrg d e l r = 0) (hJ : Joins jf J) (hJ2 : ∀ p q e, (J p q e).length ≤ 2)
    (eg : ∀ args w, (callFunc jf args).run Try.prog w = .ok (.enter jf args) w) :
    Calls Try.prog 28 #[fv d a l.length c, fv e b r.length k, .func (.func jf) #[] #[]] w (CmbPost w (cmbT d e l r ((strs (starts l r)).flatMap (jn J l r)))) := by
  obtain ⟨vl, vr, rfl⟩ := wrg_zero hw
  obtain ⟨ol, d1, d2, n64⟩ := vd_ok vl
  obtain ⟨or, -, -, m64⟩ := vd_ok vr
  obtain ⟨T, hT⟩ : ∃ T, T = cmbT d d l r ((strs (starts l r)).flatMap (jn J l r)) := ⟨_, rfl⟩
  have HT := Lib.hid (show T = if 64 < ((strs (starts l r)).flatMap (jn J l r)).length then (0, [], 2) else if vdB d ((strs (starts l r)).flatMap (jn J l r)) = true then (d, (strs (starts l r)).flatMap (jn J l r), 0) else (0, [], 3) by rw [hT]; unfold cmbT; rw [if_neg (fun q => q hw)])
  rw [← hT]
  have HL := Lib.hid (fun m w' (q : Below w.heap.size w w') => (callsIn_wide (n := m)).2 (by have h := pvalid_any d a c l w' (zl.below q); rw [vl] at h; exact h))
  have HR := Lib.hid (fun m w' (q : Below w.heap.size w w') => (callsIn_wide (n := m)).2 (by have h := pvalid_any d b k r w' (zr.below q); rw [vr] at h; exact h))
  have HTL := Lib.hid (fun x (hx : 0 ≤ x ∧ x ≤ 1000000000000) w' (q : Below w.heap.size w w') => (show Calls Try.prog 40 #[fv d a l.length c, .int .i64 x] w' fun r w'' => r = .returned (.agg #[.int .i64 x, .int .i64 (num l x), .int .i64 (slp l x)]) ∧ Below w'.heap.size w' w'' from ptail_any d x a c l w' (by omega) ol hx.1 hx.2 (zl.below q)))
  have HTR := Lib.hid (fun x (hx : 0 ≤ x ∧ x ≤ 1000000000000) w' (q : Below w.heap.size w w') => (show Calls Try.prog 40 #[fv d b r.length k, .int .i64 x] w' fun rr w'' => rr = .returned (.agg #[.int .i64 x, .int .i64 (num r x), .int .i64 (slp r x)]) ∧ Below w'.heap.size w' w'' from ptail_any d x b k r w' (by omega) or hx.1 hx.2 (zr.below q)))
  have htop : ∀ u ∈ starts l r, 0 ≤ u ∧ u ≤ 1000000000000 := fun u hu => by
    rcases (starts_mem l r u).1 hu with ⟨q, hq, rfl⟩ | ⟨q, hq, rfl⟩
    · exact ⟨from_nonneg ol hq, ol.top q hq⟩
    · exact ⟨from_nonneg or hq, or.top q hq⟩
  have hup := starts_up ol.inc or.inc
  have HSB := Lib.hid (show ∀ p ∈ strs (starts l r), 0 ≤ p.1 ∧ p.1 ≤ p.2 ∧ p.2 ≤ 1000000000000 from fun p hp => by
    obtain ⟨a1, a2, a3, -⟩ := strs_spec _ hup (fun u hu => (htop u hu).2) p hp
    exact ⟨(htop _ a1).1, a2, a3⟩)
  have HJN := Lib.hid (fun (p : Int × Int) (hp : p ∈ strs (starts l r)) w' => hJ (p.1, num l p.1, slp l p.1) (p.1, num r p.1, slp r p.1) (p.2 + 1) w' (by
    obtain ⟨a1, a2, a3⟩ := HSB.out p hp
    exact ⟨rfl, a1, by show p.1 < p.2 + 1; omega, by omega, num_bd ol a1 (by omega), num_bd or a1 (by omega), slp_bd ol a1, slp_bd or a1⟩))
  have HJ2 := Lib.hid hJ2
  have hsl := starts_len l r
  have HLEN := Lib.hid (show ∀ pre x rest, strs (starts l r) = pre ++ x :: rest → (pre.flatMap (jn J l r)).length ≤ 256 from fun pre x rest h => by
    have h1 := jn_len hJ2 l r pre
    have h2 : (strs (starts l r)).length = pre.length + (rest.length + 1) := by rw [h, List.length_append, List.length_cons]
    rw [strs_len] at h2
    omega)
  have HMEM := Lib.hid (show ∀ x, x ∈ starts l r ↔ ∃ p ∈ l ++ r, p.1 = x from fun x => by
    rw [starts_mem]
    constructor
    · rintro (⟨p, hp, q⟩ | ⟨p, hp, q⟩)
      · exact ⟨p, List.mem_append_left _ hp, q⟩
      · exact ⟨p, List.mem_append_right _ hp, q⟩
    · rintro ⟨p, hp, q⟩
      rcases List.mem_append.1 hp with hp | hp
      · exact .inl ⟨p, hp, q⟩
      · exact .inr ⟨p, hp, q⟩)
  have HUP := Lib.hid hup
  have hne : l ≠ [] := fun q => by obtain ⟨p, t, e2, -⟩ := ol.zero; rw [q] at e2; cases e2
  have hner : r ≠ [] := fun q => by obtain ⟨p, t, e2, -⟩ := or.zero; rw [q] at e2; cases e2
  obtain ⟨bb, bo, rfl⟩ : ∃ bb bo, a = some ⟨bb, bo, none⟩ := by
    obtain ⟨p, t, e2, -⟩ := ol.zero
    obtain ⟨bb, bo, e3, -⟩ := zl 0 p (by rw [e2]; rfl)
    exact ⟨bb, bo, e3⟩
  obtain ⟨cb, co, rfl⟩ : ∃ bb bo, b = some ⟨bb, bo, none⟩ := by
    obtain ⟨p, t, e2, -⟩ := or.zero
    obtain ⟨bb, bo, e3, -⟩ := zr 0 p (by rw [e2]; rfl)
    exact ⟨bb, bo, e3⟩
  have hlr : 0 < (l ++ r).length ∧ (l ++ r).length ≤ 128 := by
    rw [List.length_append]
    have := List.length_pos_iff.2 hne
    omega
  obtain ⟨N, hN⟩ : ∃ N, N = (l ++ r).length := ⟨_, rfl⟩
  have HCC : Hid (∀ m W, Below w.heap.size w W → CallsIn Fence.wide m Try.prog 49 #[.slice (some ⟨W.heap.size, 0, none⟩) 2 2] (W.alloc (.cells #[.slice (some ⟨bb, bo, none⟩) l.length c, .slice (some ⟨cb, co, none⟩) r.length k] 22)) fun rr w' => ∃ av cv, rr = .returned (.slice av N cv) ∧ PcsAt av (l ++ r) w' ∧ Below W.heap.size W w') := fun m W hb => (callsIn_wide (n := m)).2 (by
    have k0 := Sp.alloc_below W (.cells #[.slice (some ⟨bb, bo, none⟩) l.length c, .slice (some ⟨cb, co, none⟩) r.length k] 22)
    have h := pconcat_any W.heap.size 2 (some ⟨bb, bo, none⟩) (some ⟨cb, co, none⟩) c k l r (W.alloc (.cells #[.slice (some ⟨bb, bo, none⟩) l.length c, .slice (some ⟨cb, co, none⟩) r.length k] 22)) (by omega) (by omega)
      (fun w' q => PcsAt.src (zl.below (hb.trans ((k0.trans (q.mono k0.size)).mono hb.size))) (fun e => by cases e)) (fun w' q => PcsAt.src (zr.below (hb.trans ((k0.trans (q.mono k0.size)).mono hb.size))) (fun e => by cases e)) (by simp [World.cell?_alloc_new]) (by simp [World.cell?_alloc_new])
    refine h.mono (fun rr w' ⟨v, hr, hrow, hbb⟩ => ?_)
    obtain ⟨av, cv, rfl, hp, -, -⟩ := hrow.pcs
    exact ⟨av, cv, by rw [hr, hN], hp, k0.trans (hbb.mono k0.size)⟩)
  have HST := Lib.hid (fun m av cv W => (callsIn_wide (n := m)).2 (pstretches_any av N cv W))
  have HSQ := Lib.hid (fun av cv w0 (z : PcsAt av (l ++ r) w0) W hb gx (hc : World.cell? W ⟨gx, 0, none⟩ = some (.slice av N cv)) mine hm lp => pstr_seq av cv (l ++ r) hlr.1 (by omega) (starts l r) hup HMEM.out w0 z W hb gx (by rw [← hN]; exact hc) mine hm lp)
  have HVD := Lib.hid (fun M av cv m w' (z : PcsAt av M w') => (callsIn_wide (n := m)).2 (pvalid_any d av cv M w' z))
  have HX := Lib.hid (boxes_new w d d (some ⟨bb, bo, none⟩) (some ⟨cb, co, none⟩) l.length c r.length k jf)
  have HN := Lib.hid hN
  obtain ⟨i0, hi, hz0, hz1, hz2⟩ := info_parts Try.infoP
  have HI0 := Lib.hid (And.intro hi (And.intro hz0 (And.intro hz1 hz2)))
  clear hi hz0 hz1 hz2 vl vr ol or d1 d2 hT zl zr hw hJ hJ2 htop hup hsl hne hner hN hlr
  generalize l.length = n at *
  generalize r.length = m at *
  have hf1 : Fence.wide.fn 20 := trivial
  have hf2 : Fence.wide.fn 49 := trivial
  have hf3 : Fence.wide.fn 38 := trivial
  have hf4 : Fence.wide.fn 40 := trivial
  have hf5 : Fence.wide.fn jf := trivial
  have hdep : Fence.wide.depth = none := rfl
  refine (callsIn_wide (n := 3)).1 ?_
  refine callsIn_of_wp_marks Try.func28 rfl trivial ?_ rfl
  simp only [Try.ntmps28, List.size_toArray, List.length_cons, List.length_nil, Nat.reduceAdd, Nat.reduceSub, Array.replicate_succ, Array.replicate_zero, List.push_toArray, List.append_toArray, List.nil_append, List.cons_append]
  gi_upto_region 1 with (fail)
  change Code.wpIn _ _ _ _ _ _ (cmbW w d d (some ⟨bb, bo, none⟩) (some ⟨cb, co, none⟩) n c m k jf)
  generalize cmbW w d d (some ⟨bb, bo, none⟩) (some ⟨cb, co, none⟩) n c m k jf = W1 at *
  generalize hxb : w.heap.size = x0 at HX ⊢
  have HXB := Lib.hid hxb
  clear hxb
  obtain ⟨f0, f1, g0, g1, j0, q0, q1, y0, y1, hB⟩ := HX.out
  have HB := Lib.hid hB
  clear hB
  gi_upto_region 5 with (first
    | (gi_at_call 20; ((with_reducible refine (HL.out _ _ HB.out).mono ?_); rintro _ W2 ⟨rfl, hn2⟩); clear f0 f1 g0 g1 j0 q0 q1 y0 y1; have HX2 := Lib.hid (HX.out.below hn2); obtain ⟨f0, f1, g0, g1, j0, q0, q1, y0, y1, hB⟩ := HX2.out; have HB2 := Lib.hid hB; clear hB hn2)
    | (gi_at_call 20; ((with_reducible refine (HR.out _ _ HB2.out).mono ?_); rintro _ W3 ⟨rfl, hn3⟩); clear f0 f1 g0 g1 j0 q0 q1 y0 y1; have HX3 := Lib.hid (HX2.out.below hn3); obtain ⟨f0, f1, g0, g1, j0, q0, q1, y0, y1, hB⟩ := HX3.out; have HB3 := Lib.hid hB; clear hB hn3))
  have hx3 : x0 + 3 < W3.heap.size := World.block_lt_of_cell? _ _ q0
  have hrs := fb_cells W3 d none 0 0
  have HX4 := Lib.hid (HX3.out.below (Sp.alloc_below W3 (fb d none 0 0)))
  clear f0 f1 g0 g1 j0 q0 q1 y0 y1 HX HX2 HB HB2 HB3 HL HR
  obtain ⟨f0, f1, g0, g1, j0, q0, q1, y0, y1, hB⟩ := HX3.out
  gi_upto_region 6 with (fail)
  have hs4 : (W3.alloc (fb d none 0 0)).heap.size = W3.heap.size + 1 := by simp
  generalize W3.alloc (fb d none 0 0) = W4 at *
  generalize hrb : W3.heap.size = rb at hx3 hrs hs4 ⊢
  clear hrb f0 f1 g0 g1 j0 q0 q1 y0 y1 hB HX3
  obtain ⟨r0, r1, hz⟩ := hrs
  have HRZ := Lib.hid (And.intro r0 (And.intro r1 (And.intro (hz 1) hs4)))
  obtain ⟨f0, f1, g0, g1, j0, q0, q1, y0, y1, hB⟩ := HX4.out
  have HB4 := Lib.hid hB
  clear hB hz hs4
  gi_wp2_with (first
    | (gi_at_call 49; ((with_reducible refine (HCC.out _ _ HB4.out).mono ?_); rintro _ W5 ⟨av, cv, rfl, hp5, hn5⟩); have HP5 := Lib.hid (And.intro hp5 hn5); clear hp5 hn5)
    | (gi_at_call 38; ((with_reducible refine (HST.out _ _ _ _).mono ?_); rintro _ W6 ⟨rfl, hn6⟩); have HN6 := Lib.hid hn6; clear hn6))
  clear f0 f1 g0 g1 j0 q0 q1 y0 y1 r0 r1
  have h56 : Below W5.heap.size W5 W6 := by rw [HN6.out]; exact Sp.alloc_below _ _
  have h46 : Below W4.heap.size W4 W6 := HP5.out.2.trans (h56.mono HP5.out.2.size)
  have hc6 : W6.cell? ⟨W5.heap.size, 0, none⟩ = some (.slice av N cv) := by rw [HN6.out]; simp [World.cell?_alloc_new]
  have hp6 := HP5.out.1.below h56
  have hX6 := HX4.out.below h46
  have hr60 := Sp.cell_kept h46 HRZ.out.1
  have hr61 := Sp.cell_kept h46 HRZ.out.2.1
  have hr6z := Pw.frozen_kept h46 HRZ.out.2.2.1 HRZ.out.2.1
  have hrbs : rb < W6.heap.size := by have := HRZ.out.2.2.2; have := h46.size; omega
  have hxw : w.heap.size ≤ x0 := Nat.le_of_eq HXB.out
  have hI6 : CmbI w x0 rb (W6.heap.size + 3) d d (some ⟨bb, bo, none⟩) (some ⟨cb, co, none⟩) n c m k jf (([] : List (Int × Int)).flatMap (jn J l r)) W6 := ⟨hX6.f0, hX6.f1, hX6.g0, hX6.g1, hX6.j0, hX6.q0, hX6.q1, hX6.y0, hX6.y1, hr60, hr6z, ⟨_, hr61, RowP.nil _ _⟩, hX6.hb⟩
  clear HN6 HP5 HX4 HB4 HRZ HCC HST h56 h46 hX6 hr60 hr61 hr6z
  refine range_outer2 (α := Int × Int) rfl (enters_of Try.func53 (by kernel_rfl) rfl) (encs := encStr) (fun _ => rfl) (fun i => i = rb ∨ W6.heap.size + 2 < i) (fun i hi => by omega) (strs (starts l r))
    (fun W hbW hsW => HSQ.out av cv W6 hp6 W hbW _ (Sp.cell_kept hbW hc6) _ (fun i hi => by rcases hi with (rfl | hi) | rfl <;> omega) _)
    (fun s X => CmbI w x0 rb (W6.heap.size + 3) d d (some ⟨bb, bo, none⟩) (some ⟨cb, co, none⟩) n c m k jf (s.flatMap (jn J l r)) X) (fun _ _ => False)
    (fun s X Y h q => h.kp (Kp.of_below q (Nat.le_refl _)) hx3 hxw) (fun _ _ _ h _ => h) (fun s X Y h q => h.kp (Kp.of_turned q (by omega) (by omega)) hx3 hxw) (fun _ _ _ h _ => h) hI6 ?round ?done (fun _ _ h => h.elim)
  case round =>
    intro pre x rest X hx hI hlt
    gi_wp2
    refine ⟨(Oth.refl _ _).alloc _, fun X2 hTn => ?_⟩
    have hmemx : x ∈ strs (starts l r) := by rw [hx]; simp
    have HJX := Lib.hid (HJN.out x hmemx)
    have hacc := HLEN.out pre x rest hx
    obtain ⟨s, t⟩ := x
    obtain ⟨s0, s1, t1⟩ := HSB.out (s, t) hmemx
    simp only at s0 s1 t1
    have p0 : X2.cell? ⟨X.heap.size, 0, none⟩ = some (.int .i64 s) := hTn.cell (by simp [World.cell?_alloc_new]) (by show X.heap.size ≠ _; omega)
    have p1 : X2.cell? ⟨X.heap.size, 1, none⟩ = some (.int .i64 (t + 1)) := hTn.cell (by simp [World.cell?_alloc_new]) (by show X.heap.size ≠ _; omega)
    have hX2s : X2.heap.size = X.heap.size + 1 := by rw [hTn.size]; simp
    have hkp : Kp rb (W6.heap.size + 3) X X2 := (Kp.of_below (Sp.alloc_below X _) (Nat.le_refl _)).trans (Kp.of_turned hTn (by omega) (by omega))
    have hI2 := hI.kp hkp hx3 hxw
    obtain ⟨v, hvX, hrX⟩ := hI.row
    have hOwn : ∀ i, v.ownBlock = some i → W6.heap.size + 3 ≤ i ∧ i < X.heap.size := fun i hi => World.ownsRow.lt hrX i hi
    have hr2 := hrX.kp hkp
    have hv2 : X2.cell? ⟨rb, 1, none⟩ = some v := (World.cell?_of_block (w := X) (hkp.block rb (World.block_lt_of_cell? X _ hvX) (Or.inl (Nat.le_refl _)))).trans hvX
    have HFM := Lib.hid (show (pre ++ [(s, t)]).flatMap (jn J l r) = pre.flatMap (jn J l r) ++ jn J l r (s, t) by rw [List.flatMap_append]; simp)
    have hn2 : (jn J l r (s, t)).length ≤ 2 := HJ2.out _ _ _
    obtain ⟨L, hLe⟩ : ∃ L, L = jn J l r (s, t) := ⟨_, rfl⟩
    rw [← hLe] at HFM hn2
    obtain ⟨nl, hnl⟩ : ∃ nl, nl = L.length := ⟨_, rfl⟩
    have HNL := Lib.hid hnl
    rw [← hnl] at hn2
    have HJV : Hid (∀ Y, Calls Try.prog jf #[.agg #[.int .i64 s, .int .i64 (num l s), .int .i64 (slp l s)], .agg #[.int .i64 s, .int .i64 (num r s), .int .i64 (slp r s)], .int .i64 (t + 1)] Y fun rr w' => ∃ g cc, rr = .returned (.slice (some ⟨g, 0, none⟩) nl cc) ∧ PcsAt (some ⟨g, 0, none⟩) L w' ∧ Below Y.heap.size Y w') := fun Y => (HJX.out Y).mono (fun rr w' ⟨g, cc, h1, h2, h3⟩ => ⟨g, cc, by rw [h1, hnl, hLe], by rw [hLe]; exact h2, h3⟩)
    have HTV := Lib.hid (HTL.out s ⟨s0, by omega⟩)
    have HTW := Lib.hid (HTR.out s ⟨s0, by omega⟩)
    generalize pre.flatMap (jn J l r) = acc at *
    obtain ⟨na, hna⟩ : ∃ na, na = acc.length := ⟨_, rfl⟩
    have HNA := Lib.hid hna
    rw [← hna] at hacc
    generalize num l s = nls at *
    generalize slp l s = sls at *
    generalize num r s = nrs at *
    generalize slp r s = srs at *
    have HI2 := Lib.hid hI2
    have HR2 := Lib.hid hr2
    have HOW := Lib.hid hOwn
    have HV2 := Lib.hid hv2
    have HP := Lib.hid (And.intro p0 p1)
    have HPO := Lib.hid (show rb < W6.heap.size ∧ W6.heap.size + 1 < X.heap.size ∧ X2.heap.size = X.heap.size + 1 from ⟨hrbs, hlt, hX2s⟩)
    have HBX := Lib.hid hI2.hb
    have f0 := hI2.f0
    have f1 := hI2.f1
    have g0 := hI2.g0
    have g1 := hI2.g1
    have j0 := hI2.j0
    clear hI hI2 hI6 hx hmemx hLe hnl hna hTn hkp hvX hrX hOwn hr2 hv2 HJX HSB HJN HJ2 HLEN HMEM HUP HSQ HTL HTR hp6 hc6 HT HVD hlt hX2s
    have hmix : Try.prog.follows .mixedOrders = true := by kernel_rfl
    gi_wp2
    have kc0 : Below X2.heap.size X2 X2.drew := (Below.refl _ X2).drew
    have hS : (fun W => W.cell? ⟨x0, 0, none⟩ = some (.int .i64 d) ∧ W.cell? ⟨x0, 1, none⟩ = some (.slice (some ⟨bb, bo, none⟩) n c) ∧ W.cell? ⟨x0 + 1, 0, none⟩ = some (.int .i64 d) ∧ W.cell? ⟨x0 + 1, 1, none⟩ = some (.slice (some ⟨cb, co, none⟩) m k) ∧ W.cell? ⟨x0 + 2, 0, none⟩ = some (.func (.func jf) #[] #[]) ∧ W.cell? ⟨X.heap.size, 0, none⟩ = some (.int .i64 s) ∧ W.cell? ⟨X.heap.size, 1, none⟩ = some (.int .i64 (t + 1))) X2.drew := ⟨f0, f1, g0, g1, j0, p0, p1⟩
    clear f0 f1 g0 g1 j0 p0 p1
    refine region_inRound (S := fun W => W.cell? ⟨x0, 0, none⟩ = some (.int .i64 d) ∧ W.cell? ⟨x0, 1, none⟩ = some (.slice (some ⟨bb, bo, none⟩) n c) ∧ W.cell? ⟨x0 + 1, 0, none⟩ = some (.int .i64 d) ∧ W.cell? ⟨x0 + 1, 1, none⟩ = some (.slice (some ⟨cb, co, none⟩) m k) ∧ W.cell? ⟨x0 + 2, 0, none⟩ = some (.func (.func jf) #[] #[]) ∧ W.cell? ⟨X.heap.size, 0, none⟩ = some (.int .i64 s) ∧ W.cell? ⟨X.heap.size, 1, none⟩ = some (.int .i64 (t + 1))) hmix (by kernel_rfl) (fun ⟨_, _, h⟩ => h) hS (fun hHeld => ?_)
    clear hS
    refine wpAnyH_take (i := 0) (v := ?_) rfl (by kernel_rfl) (by kernel_rfl) (by kernel_rfl) (fun _ _ _ h => h) (Or.inl ⟨by rfl, ?_⟩) (by assumption) ?_
    rotate_left
    · intro w hSw; (try dsimp only at hSw); go_simp; (try with_reducible rfl)
    (try simp only [Act.put, List.getElem_toArray, List.getElem_cons_succ, List.getElem_cons_zero, List.setIfInBounds_toArray, List.set_cons_zero, List.set_cons_succ])
    refine wpAnyH_take (i := 2) (v := ?_) rfl (by kernel_rfl) (by kernel_rfl) (by kernel_rfl) (fun _ _ _ h => h) (Or.inl ⟨by rfl, ?_⟩) (by assumption) ?_
    rotate_left
    · intro w hSw; (try dsimp only at hSw); go_simp; (try with_reducible rfl)
    (try simp only [Act.put, List.getElem_toArray, List.getElem_cons_succ, List.getElem_cons_zero, List.setIfInBounds_toArray, List.set_cons_zero, List.set_cons_succ])
    refine wpAnyH_take (i := 3) (v := ?_) rfl (by kernel_rfl) (by kernel_rfl) (by kernel_rfl) (fun _ _ _ h => h) (Or.inl ⟨by rfl, ?_⟩) (by assumption) ?_
    rotate_left
    · intro w hSw; (try dsimp only at hSw); go_simp; (try with_reducible rfl)
    (try simp only [Act.put, List.getElem_toArray, List.getElem_cons_succ, List.getElem_cons_zero, List.setIfInBounds_toArray, List.set_cons_zero, List.set_cons_succ])
    refine wpAnyH_take (i := 4) (v := ?_) rfl (by kernel_rfl) (by kernel_rfl) (by kernel_rfl) (fun _ _ _ h => h) (Or.inl ⟨by rfl, ?_⟩) (by assumption) ?_
    rotate_left
    · intro w hSw; (try dsimp only at hSw); go_simp; (try with_reducible rfl)
    (try simp only [Act.put, List.getElem_toArray, List.getElem_cons_succ, List.getElem_cons_zero, List.setIfInBounds_toArray, List.set_cons_zero, List.set_cons_succ])
    refine wpAnyH_take (i := 5) (v := ?_) rfl (by kernel_rfl) (by kernel_rfl) (by kernel_rfl) (fun _ _ _ h => h) (Or.inl ⟨by rfl, ?_⟩) (by assumption) ?_
    rotate_left
    · intro w hSw; (try dsimp only at hSw); go_simp; (try with_reducible rfl)
    (try simp only [Act.put, List.getElem_toArray, List.getElem_cons_succ, List.getElem_cons_zero, List.setIfInBounds_toArray, List.set_cons_zero, List.set_cons_succ])
    refine wpAnyH_take (i := 7) (v := ?_) rfl (by kernel_rfl) (by kernel_rfl) (by kernel_rfl) (fun _ _ _ h => h) (Or.inl ⟨by rfl, ?_⟩) (by assumption) ?_
    rotate_left
    · intro w hSw; (try dsimp only at hSw); go_simp; (try with_reducible rfl)
    (try simp only [Act.put, List.getElem_toArray, List.getElem_cons_succ, List.getElem_cons_zero, List.setIfInBounds_toArray, List.set_cons_zero, List.set_cons_succ])
    refine wpAnyH_take (i := 8) (v := ?_) rfl (by kernel_rfl) (by kernel_rfl) (by kernel_rfl) (fun _ _ _ h => h) (Or.inl ⟨by rfl, ?_⟩) (by assumption) ?_
    rotate_left
    · intro w hSw; (try dsimp only at hSw); go_simp; (try with_reducible rfl)
    (try simp only [Act.put, List.getElem_toArray, List.getElem_cons_succ, List.getElem_cons_zero, List.setIfInBounds_toArray, List.set_cons_zero, List.set_cons_succ])
    refine wpAnyH_take (i := 9) (v := ?_) rfl (by kernel_rfl) (by kernel_rfl) (by kernel_rfl) (fun _ _ _ h => h) (Or.inl ⟨by rfl, ?_⟩) (by assumption) ?_
    rotate_left
    · intro w hSw; (try dsimp only at hSw); go_simp; (try with_reducible rfl)
    (try simp only [Act.put, List.getElem_toArray, List.getElem_cons_succ, List.getElem_cons_zero, List.setIfInBounds_toArray, List.set_cons_zero, List.set_cons_succ])
    refine wpAnyH_take (i := 11) (v := ?_) rfl (by kernel_rfl) (by kernel_rfl) (by kernel_rfl) (fun _ _ _ h => h) (Or.inl ⟨by rfl, ?_⟩) (by assumption) ?_
    rotate_left
    · intro w hSw; (try dsimp only at hSw); go_simp; (try with_reducible rfl)
    (try simp only [Act.put, List.getElem_toArray, List.getElem_cons_succ, List.getElem_cons_zero, List.setIfInBounds_toArray, List.set_cons_zero, List.set_cons_succ])
    refine wpAnyH_take (i := 12) (v := ?_) rfl (by kernel_rfl) (by kernel_rfl) (by kernel_rfl) (fun _ _ _ h => h) (Or.inl ⟨by rfl, ?_⟩) (by assumption) ?_
    rotate_left
    · intro w hSw; (try dsimp only at hSw); go_simp; (try with_reducible rfl)
    (try simp only [Act.put, List.getElem_toArray, List.getElem_cons_succ, List.getElem_cons_zero, List.setIfInBounds_toArray, List.set_cons_zero, List.set_cons_succ])
    refine wpAnyH_ready (rs := [1, 6]) (by kernel_rfl) (by simp) ?_
    refine AllReadyH.cons rfl (fun K hK => ?_) (AllReadyH.cons rfl (fun K hK => ?_) AllReadyH.nil)
    · have hvk := Sp.cell_kept kc0 HV2.out
      go_simp
      refine hK.out _ _ hHeld (fun hHeld => ?_)
      clear hK K hvk
      (try simp only [Act.put, List.getElem_toArray, List.getElem_cons_succ, List.getElem_cons_zero, List.setIfInBounds_toArray, List.set_cons_zero, List.set_cons_succ])
      refine wpAnyH_ready (rs := [6]) (by kernel_rfl) (by simp) ?_
      refine AllReadyH.cons rfl (fun K hK => ?_) AllReadyH.nil
      go_simp
      refine (HTV.out _ (HBX.out.trans (kc0.mono HBX.out.size))).mono ?_
      rintro _ V1 ⟨rfl, kn1⟩
      have kc1 := kc0.trans (kn1.mono kc0.size)
      refine hK.out _ _ ⟨Sp.cell_kept (kn1) hHeld.1, Sp.cell_kept (kn1) hHeld.2.1, Sp.cell_kept (kn1) hHeld.2.2.1, Sp.cell_kept (kn1) hHeld.2.2.2.1, Sp.cell_kept (kn1) hHeld.2.2.2.2.1, Sp.cell_kept (kn1) hHeld.2.2.2.2.2.1, Sp.cell_kept (kn1) hHeld.2.2.2.2.2.2⟩ (fun hHeld => ?_)
      clear hK K kn1
      (try simp only [Act.put, List.getElem_toArray, List.getElem_cons_succ, List.getElem_cons_zero, List.setIfInBounds_toArray, List.set_cons_zero, List.set_cons_succ])
      refine wpAnyH_ready (rs := [10]) (by kernel_rfl) (by simp) ?_
      refine AllReadyH.cons rfl (fun K hK => ?_) AllReadyH.nil
      go_simp
      refine (HTW.out _ (HBX.out.trans (kc1.mono HBX.out.size))).mono ?_
      rintro _ V2 ⟨rfl, kn2⟩
      have kc2 := kc1.trans (kn2.mono kc1.size)
      refine hK.out _ _ ⟨Sp.cell_kept (kn2) hHeld.1, Sp.cell_kept (kn2) hHeld.2.1, Sp.cell_kept (kn2) hHeld.2.2.1, Sp.cell_kept (kn2) hHeld.2.2.2.1, Sp.cell_kept (kn2) hHeld.2.2.2.2.1, Sp.cell_kept (kn2) hHeld.2.2.2.2.2.1, Sp.cell_kept (kn2) hHeld.2.2.2.2.2.2⟩ (fun hHeld => ?_)
      clear hK K kn2
      (try simp only [Act.put, List.getElem_toArray, List.getElem_cons_succ, List.getElem_cons_zero, List.setIfInBounds_toArray, List.set_cons_zero, List.set_cons_succ])
      refine wpAnyH_ready (rs := [13]) (by kernel_rfl) (by simp) ?_
      refine AllReadyH.cons rfl (fun K hK => ?_) AllReadyH.nil
      go_simp
      refine (HJV.out _).mono ?_
      rintro _ V3 ⟨gj, cj, rfl, hjp, kn3⟩
      have kc3 := kc2.trans (kn3.mono kc2.size)
      refine hK.out _ _ ⟨Sp.cell_kept (kn3) hHeld.1, Sp.cell_kept (kn3) hHeld.2.1, Sp.cell_kept (kn3) hHeld.2.2.1, Sp.cell_kept (kn3) hHeld.2.2.2.1, Sp.cell_kept (kn3) hHeld.2.2.2.2.1, Sp.cell_kept (kn3) hHeld.2.2.2.2.2.1, Sp.cell_kept (kn3) hHeld.2.2.2.2.2.2⟩ (fun hHeld => ?_)
      clear hK K kn3
      (try simp only [Act.put, List.getElem_toArray, List.getElem_cons_succ, List.getElem_cons_zero, List.setIfInBounds_toArray, List.set_cons_zero, List.set_cons_succ])
      have hrk := HR2.out.below kc3
      have hrow : World.ownsRow V3 (W6.heap.size + 3) 55 3 v na (flatP acc) := by unfold RowP at hrk; rw [← HNA.out] at hrk; exact hrk
      have hsrc : SrcAt V3 (.slice (some ⟨gj, 0, none⟩) nl cj) nl (flatP L) := by have h := PcsAt.src (c := cj) hjp (fun e => by cases e); rw [← HNL.out] at h; exact h
      refine wpAnyH_ready (rs := [14]) (by kernel_rfl) (by simp) ?_
      refine AllReadyH.cons rfl (fun K hK => ?_) AllReadyH.nil
      refine step_append_src (by rfl) (.tmp 37) (.tmp 49) 22 (by rfl) (W6.heap.size + 3) 55 i0 (.agg #[.int .i64 0, .int .i64 0, .int .i64 0]) 3 24 Try.underP HI0.out.1 HI0.out.2.1 HI0.out.2.2.1 HI0.out.2.2.2 rfl (by decide) _ na (flatP acc) (by rfl) hrow _ nl (flatP L) (by rfl) hsrc (by rw [flatP_length, HNL.out]) (flatP_cell1 _) (by unfold maxLen; omega) (by omega) (by have := kc3.size; have := HPO.out; omega) ?_
      intro v9 W9 hown hg
      obtain ⟨a9, c9, e9, -, -, -⟩ := RowP.pcs (RowP.app HNA.out HNL.out hown)
      subst e9
      have hap := CmbI.app HI2.out hx3 hxw (by have := HPO.out; omega) kc3 HV2.out hrk hg (RowP.app HNA.out HNL.out hown) (fun i => i = rb ∨ W6.heap.size + 2 < i) (Or.inl rfl) (fun i hi => Or.inr (by omega))
      rw [List.length_append] at hap
      have HAP := Lib.hid hap
      have bl : ∀ i, i ≤ rb ∨ i = X.heap.size → i < V3.heap.size → W9.heap[i]? = V3.heap[i]? := fun i hi hl => hg.block i hl (fun e => by have h1 := HOW.out i e.symm; have h2 := HPO.out; omega)
      have ce : ∀ {p : Addr} {u : Value}, (p.block ≤ rb ∨ p.block = X.heap.size) → World.cell? V3 p = some u → W9.cell? p = some u := fun {p u} hp hc => (World.cell?_of_block (bl p.block hp (World.block_lt_of_cell? _ p hc))).trans hc
      have hvk := ce (Or.inl (Nat.le_refl rb)) (Sp.cell_kept kc3 HV2.out)
      have hzk : W9.frozen? ⟨rb, 1, none⟩ = false := (frozen_block (bl rb (Or.inl (Nat.le_refl _)) (World.block_lt_of_cell? _ _ (Sp.cell_kept kc3 HV2.out)))).trans (Pw.frozen_kept kc3 HI2.out.z1 HV2.out)
      refine hK.out _ _ ⟨ce (Or.inl (by show x0 ≤ rb; omega)) hHeld.1, ce (Or.inl (by show x0 ≤ rb; omega)) hHeld.2.1, ce (Or.inl (by show x0 + 1 ≤ rb; omega)) hHeld.2.2.1, ce (Or.inl (by show x0 + 1 ≤ rb; omega)) hHeld.2.2.2.1, ce (Or.inl (by show x0 + 2 ≤ rb; omega)) hHeld.2.2.2.2.1, ce (Or.inr rfl) hHeld.2.2.2.2.2.1, ce (Or.inr rfl) hHeld.2.2.2.2.2.2⟩ (fun hHeld => ?_)
      clear hK K
      (try simp only [Act.put, List.getElem_toArray, List.getElem_cons_succ, List.getElem_cons_zero, List.setIfInBounds_toArray, List.set_cons_zero, List.set_cons_succ])
      refine wpAnyH_take (i := 15) (v := ?_) rfl (by kernel_rfl) (by kernel_rfl) (by kernel_rfl) (fun _ _ _ h => h) (Or.inl ⟨by rfl, ?_⟩) (by assumption) ?_
      rotate_left
      · intro w hSw; (try dsimp only at hSw); go_simp; (try with_reducible rfl)
      (try simp only [Act.put, List.getElem_toArray, List.getElem_cons_succ, List.getElem_cons_zero, List.setIfInBounds_toArray, List.set_cons_zero, List.set_cons_succ])
      refine wpAnyH_ready (rs := [16]) (by kernel_rfl) (by simp) ?_
      refine AllReadyH.cons rfl (fun K hK => ?_) AllReadyH.nil
      go_simp
      refine hK.out _ _ ⟨by rw [World.cell?_setCell_far _ _ _ _ (by show rb ≠ x0; omega)]; exact hHeld.1, by rw [World.cell?_setCell_far _ _ _ _ (by show rb ≠ x0; omega)]; exact hHeld.2.1, by rw [World.cell?_setCell_far _ _ _ _ (by show rb ≠ x0 + 1; omega)]; exact hHeld.2.2.1, by rw [World.cell?_setCell_far _ _ _ _ (by show rb ≠ x0 + 1; omega)]; exact hHeld.2.2.2.1, by rw [World.cell?_setCell_far _ _ _ _ (by show rb ≠ x0 + 2; omega)]; exact hHeld.2.2.2.2.1, by rw [World.cell?_setCell_far _ _ _ _ (by show rb ≠ X.heap.size; have := HPO.out; omega)]; exact hHeld.2.2.2.2.2.1, by rw [World.cell?_setCell_far _ _ _ _ (by show rb ≠ X.heap.size; have := HPO.out; omega)]; exact hHeld.2.2.2.2.2.2⟩ (fun hHeld => ?_)
      clear hK K
      refine wpAnyH_done (by kernel_rfl) ?_ _
      exact ⟨HAP.out.1, by show CmbI _ _ _ _ _ _ _ _ _ _ _ _ _ _ _; rw [HFM.out]; exact HAP.out.2⟩
    · go_simp
      refine (HTV.out _ (HBX.out.trans (kc0.mono HBX.out.size))).mono ?_
      rintro _ V4 ⟨rfl, kn4⟩
      have kc4 := kc0.trans (kn4.mono kc0.size)
      refine hK.out _ _ ⟨Sp.cell_kept (kn4) hHeld.1, Sp.cell_kept (kn4) hHeld.2.1, Sp.cell_kept (kn4) hHeld.2.2.1, Sp.cell_kept (kn4) hHeld.2.2.2.1, Sp.cell_kept (kn4) hHeld.2.2.2.2.1, Sp.cell_kept (kn4) hHeld.2.2.2.2.2.1, Sp.cell_kept (kn4) hHeld.2.2.2.2.2.2⟩ (fun hHeld => ?_)
      clear hK K kn4
      (try simp only [Act.put, List.getElem_toArray, List.getElem_cons_succ, List.getElem_cons_zero, List.setIfInBounds_toArray, List.set_cons_zero, List.set_cons_succ])
      refine wpAnyH_ready (rs := [1, 10]) (by kernel_rfl) (by simp) ?_
      refine AllReadyH.cons rfl (fun K hK => ?_) (AllReadyH.cons rfl (fun K hK => ?_) AllReadyH.nil)
      · have hvk := Sp.cell_kept kc4 HV2.out
        go_simp
        refine hK.out _ _ hHeld (fun hHeld => ?_)
        clear hK K hvk
        (try simp only [Act.put, List.getElem_toArray, List.getElem_cons_succ, List.getElem_cons_zero, List.setIfInBounds_toArray, List.set_cons_zero, List.set_cons_succ])
        refine wpAnyH_ready (rs := [10]) (by kernel_rfl) (by simp) ?_
        refine AllReadyH.cons rfl (fun K hK => ?_) AllReadyH.nil
        go_simp
        refine (HTW.out _ (HBX.out.trans (kc4.mono HBX.out.size))).mono ?_
        rintro _ V5 ⟨rfl, kn5⟩
        have kc5 := kc4.trans (kn5.mono kc4.size)
        refine hK.out _ _ ⟨Sp.cell_kept (kn5) hHeld.1, Sp.cell_kept (kn5) hHeld.2.1, Sp.cell_kept (kn5) hHeld.2.2.1, Sp.cell_kept (kn5) hHeld.2.2.2.1, Sp.cell_kept (kn5) hHeld.2.2.2.2.1, Sp.cell_kept (kn5) hHeld.2.2.2.2.2.1, Sp.cell_kept (kn5) hHeld.2.2.2.2.2.2⟩ (fun hHeld => ?_)
        clear hK K kn5
        (try simp only [Act.put, List.getElem_toArray, List.getElem_cons_succ, List.getElem_cons_zero, List.setIfInBounds_toArray, List.set_cons_zero, List.set_cons_succ])
        refine wpAnyH_ready (rs := [13]) (by kernel_rfl) (by simp) ?_
        refine AllReadyH.cons rfl (fun K hK => ?_) AllReadyH.nil
        go_simp
        refine (HJV.out _).mono ?_
        rintro _ V6 ⟨gj, cj, rfl, hjp, kn6⟩
        have kc6 := kc5.trans (kn6.mono kc5.size)
        refine hK.out _ _ ⟨Sp.cell_kept (kn6) hHeld.1, Sp.cell_kept (kn6) hHeld.2.1, Sp.cell_kept (kn6) hHeld.2.2.1, Sp.cell_kept (kn6) hHeld.2.2.2.1, Sp.cell_kept (kn6) hHeld.2.2.2.2.1, Sp.cell_kept (kn6) hHeld.2.2.2.2.2.1, Sp.cell_kept (kn6) hHeld.2.2.2.2.2.2⟩ (fun hHeld => ?_)
        clear hK K kn6
        (try simp only [Act.put, List.getElem_toArray, List.getElem_cons_succ, List.getElem_cons_zero, List.setIfInBounds_toArray, List.set_cons_zero, List.set_cons_succ])
        have hrk := HR2.out.below kc6
        have hrow : World.ownsRow V6 (W6.heap.size + 3) 55 3 v na (flatP acc) := by unfold RowP at hrk; rw [← HNA.out] at hrk; exact hrk
        have hsrc : SrcAt V6 (.slice (some ⟨gj, 0, none⟩) nl cj) nl (flatP L) := by have h := PcsAt.src (c := cj) hjp (fun e => by cases e); rw [← HNL.out] at h; exact h
        refine wpAnyH_ready (rs := [14]) (by kernel_rfl) (by simp) ?_
        refine AllReadyH.cons rfl (fun K hK => ?_) AllReadyH.nil
        refine step_append_src (by rfl) (.tmp 37) (.tmp 49) 22 (by rfl) (W6.heap.size + 3) 55 i0 (.agg #[.int .i64 0, .int .i64 0, .int .i64 0]) 3 24 Try.underP HI0.out.1 HI0.out.2.1 HI0.out.2.2.1 HI0.out.2.2.2 rfl (by decide) _ na (flatP acc) (by rfl) hrow _ nl (flatP L) (by rfl) hsrc (by rw [flatP_length, HNL.out]) (flatP_cell1 _) (by unfold maxLen; omega) (by omega) (by have := kc6.size; have := HPO.out; omega) ?_
        intro v9 W9 hown hg
        obtain ⟨a9, c9, e9, -, -, -⟩ := RowP.pcs (RowP.app HNA.out HNL.out hown)
        subst e9
        have hap := CmbI.app HI2.out hx3 hxw (by have := HPO.out; omega) kc6 HV2.out hrk hg (RowP.app HNA.out HNL.out hown) (fun i => i = rb ∨ W6.heap.size + 2 < i) (Or.inl rfl) (fun i hi => Or.inr (by omega))
        rw [List.length_append] at hap
        have HAP := Lib.hid hap
        have bl : ∀ i, i ≤ rb ∨ i = X.heap.size → i < V6.heap.size → W9.heap[i]? = V6.heap[i]? := fun i hi hl => hg.block i hl (fun e => by have h1 := HOW.out i e.symm; have h2 := HPO.out; omega)
        have ce : ∀ {p : Addr} {u : Value}, (p.block ≤ rb ∨ p.block = X.heap.size) → World.cell? V6 p = some u → W9.cell? p = some u := fun {p u} hp hc => (World.cell?_of_block (bl p.block hp (World.block_lt_of_cell? _ p hc))).trans hc
        have hvk := ce (Or.inl (Nat.le_refl rb)) (Sp.cell_kept kc6 HV2.out)
        have hzk : W9.frozen? ⟨rb, 1, none⟩ = false := (frozen_block (bl rb (Or.inl (Nat.le_refl _)) (World.block_lt_of_cell? _ _ (Sp.cell_kept kc6 HV2.out)))).trans (Pw.frozen_kept kc6 HI2.out.z1 HV2.out)
        refine hK.out _ _ ⟨ce (Or.inl (by show x0 ≤ rb; omega)) hHeld.1, ce (Or.inl (by show x0 ≤ rb; omega)) hHeld.2.1, ce (Or.inl (by show x0 + 1 ≤ rb; omega)) hHeld.2.2.1, ce (Or.inl (by show x0 + 1 ≤ rb; omega)) hHeld.2.2.2.1, ce (Or.inl (by show x0 + 2 ≤ rb; omega)) hHeld.2.2.2.2.1, ce (Or.inr rfl) hHeld.2.2.2.2.2.1, ce (Or.inr rfl) hHeld.2.2.2.2.2.2⟩ (fun hHeld => ?_)
        clear hK K
        (try simp only [Act.put, List.getElem_toArray, List.getElem_cons_succ, List.getElem_cons_zero, List.setIfInBounds_toArray, List.set_cons_zero, List.set_cons_succ])
        refine wpAnyH_take (i := 15) (v := ?_) rfl (by kernel_rfl) (by kernel_rfl) (by kernel_rfl) (fun _ _ _ h => h) (Or.inl ⟨by rfl, ?_⟩) (by assumption) ?_
        rotate_left
        · intro w hSw; (try dsimp only at hSw); go_simp; (try with_reducible rfl)
        (try simp only [Act.put, List.getElem_toArray, List.getElem_cons_succ, List.getElem_cons_zero, List.setIfInBounds_toArray, List.set_cons_zero, List.set_cons_succ])
        refine wpAnyH_ready (rs := [16]) (by kernel_rfl) (by simp) ?_
        refine AllReadyH.cons rfl (fun K hK => ?_) AllReadyH.nil
        go_simp
        refine hK.out _ _ ⟨by rw [World.cell?_setCell_far _ _ _ _ (by show rb ≠ x0; omega)]; exact hHeld.1, by rw [World.cell?_setCell_far _ _ _ _ (by show rb ≠ x0; omega)]; exact hHeld.2.1, by rw [World.cell?_setCell_far _ _ _ _ (by show rb ≠ x0 + 1; omega)]; exact hHeld.2.2.1, by rw [World.cell?_setCell_far _ _ _ _ (by show rb ≠ x0 + 1; omega)]; exact hHeld.2.2.2.1, by rw [World.cell?_setCell_far _ _ _ _ (by show rb ≠ x0 + 2; omega)]; exact hHeld.2.2.2.2.1, by rw [World.cell?_setCell_far _ _ _ _ (by show rb ≠ X.heap.size; have := HPO.out; omega)]; exact hHeld.2.2.2.2.2.1, by rw [World.cell?_setCell_far _ _ _ _ (by show rb ≠ X.heap.size; have := HPO.out; omega)]; exact hHeld.2.2.2.2.2.2⟩ (fun hHeld => ?_)
        clear hK K
        refine wpAnyH_done (by kernel_rfl) ?_ _
        exact ⟨HAP.out.1, by show CmbI _ _ _ _ _ _ _ _ _ _ _ _ _ _ _; rw [HFM.out]; exact HAP.out.2⟩
      · go_simp
        refine (HTW.out _ (HBX.out.trans (kc4.mono HBX.out.size))).mono ?_
        rintro _ V7 ⟨rfl, kn7⟩
        have kc7 := kc4.trans (kn7.mono kc4.size)
        refine hK.out _ _ ⟨Sp.cell_kept (kn7) hHeld.1, Sp.cell_kept (kn7) hHeld.2.1, Sp.cell_kept (kn7) hHeld.2.2.1, Sp.cell_kept (kn7) hHeld.2.2.2.1, Sp.cell_kept (kn7) hHeld.2.2.2.2.1, Sp.cell_kept (kn7) hHeld.2.2.2.2.2.1, Sp.cell_kept (kn7) hHeld.2.2.2.2.2.2⟩ (fun hHeld => ?_)
        clear hK K kn7
        (try simp only [Act.put, List.getElem_toArray, List.getElem_cons_succ, List.getElem_cons_zero, List.setIfInBounds_toArray, List.set_cons_zero, List.set_cons_succ])
        refine wpAnyH_ready (rs := [1, 13]) (by kernel_rfl) (by simp) ?_
        refine AllReadyH.cons rfl (fun K hK => ?_) (AllReadyH.cons rfl (fun K hK => ?_) AllReadyH.nil)
        · have hvk := Sp.cell_kept kc7 HV2.out
          go_simp
          refine hK.out _ _ hHeld (fun hHeld => ?_)
          clear hK K hvk
          (try simp only [Act.put, List.getElem_toArray, List.getElem_cons_succ, List.getElem_cons_zero, List.setIfInBounds_toArray, List.set_cons_zero, List.set_cons_succ])
          refine wpAnyH_ready (rs := [13]) (by kernel_rfl) (by simp) ?_
          refine AllReadyH.cons rfl (fun K hK => ?_) AllReadyH.nil
          go_simp
          refine (HJV.out _).mono ?_
          rintro _ V8 ⟨gj, cj, rfl, hjp, kn8⟩
          have kc8 := kc7.trans (kn8.mono kc7.size)
          refine hK.out _ _ ⟨Sp.cell_kept (kn8) hHeld.1, Sp.cell_kept (kn8) hHeld.2.1, Sp.cell_kept (kn8) hHeld.2.2.1, Sp.cell_kept (kn8) hHeld.2.2.2.1, Sp.cell_kept (kn8) hHeld.2.2.2.2.1, Sp.cell_kept (kn8) hHeld.2.2.2.2.2.1, Sp.cell_kept (kn8) hHeld.2.2.2.2.2.2⟩ (fun hHeld => ?_)
          clear hK K kn8
          (try simp only [Act.put, List.getElem_toArray, List.getElem_cons_succ, List.getElem_cons_zero, List.setIfInBounds_toArray, List.set_cons_zero, List.set_cons_succ])
          have hrk := HR2.out.below kc8
          have hrow : World.ownsRow V8 (W6.heap.size + 3) 55 3 v na (flatP acc) := by unfold RowP at hrk; rw [← HNA.out] at hrk; exact hrk
          have hsrc : SrcAt V8 (.slice (some ⟨gj, 0, none⟩) nl cj) nl (flatP L) := by have h := PcsAt.src (c := cj) hjp (fun e => by cases e); rw [← HNL.out] at h; exact h
          refine wpAnyH_ready (rs := [14]) (by kernel_rfl) (by simp) ?_
          refine AllReadyH.cons rfl (fun K hK => ?_) AllReadyH.nil
          refine step_append_src (by rfl) (.tmp 37) (.tmp 49) 22 (by rfl) (W6.heap.size + 3) 55 i0 (.agg #[.int .i64 0, .int .i64 0, .int .i64 0]) 3 24 Try.underP HI0.out.1 HI0.out.2.1 HI0.out.2.2.1 HI0.out.2.2.2 rfl (by decide) _ na (flatP acc) (by rfl) hrow _ nl (flatP L) (by rfl) hsrc (by rw [flatP_length, HNL.out]) (flatP_cell1 _) (by unfold maxLen; omega) (by omega) (by have := kc8.size; have := HPO.out; omega) ?_
          intro v9 W9 hown hg
          obtain ⟨a9, c9, e9, -, -, -⟩ := RowP.pcs (RowP.app HNA.out HNL.out hown)
          subst e9
          have hap := CmbI.app HI2.out hx3 hxw (by have := HPO.out; omega) kc8 HV2.out hrk hg (RowP.app HNA.out HNL.out hown) (fun i => i = rb ∨ W6.heap.size + 2 < i) (Or.inl rfl) (fun i hi => Or.inr (by omega))
          rw [List.length_append] at hap
          have HAP := Lib.hid hap
          have bl : ∀ i, i ≤ rb ∨ i = X.heap.size → i < V8.heap.size → W9.heap[i]? = V8.heap[i]? := fun i hi hl => hg.block i hl (fun e => by have h1 := HOW.out i e.symm; have h2 := HPO.out; omega)
          have ce : ∀ {p : Addr} {u : Value}, (p.block ≤ rb ∨ p.block = X.heap.size) → World.cell? V8 p = some u → W9.cell? p = some u := fun {p u} hp hc => (World.cell?_of_block (bl p.block hp (World.block_lt_of_cell? _ p hc))).trans hc
          have hvk := ce (Or.inl (Nat.le_refl rb)) (Sp.cell_kept kc8 HV2.out)
          have hzk : W9.frozen? ⟨rb, 1, none⟩ = false := (frozen_block (bl rb (Or.inl (Nat.le_refl _)) (World.block_lt_of_cell? _ _ (Sp.cell_kept kc8 HV2.out)))).trans (Pw.frozen_kept kc8 HI2.out.z1 HV2.out)
          refine hK.out _ _ ⟨ce (Or.inl (by show x0 ≤ rb; omega)) hHeld.1, ce (Or.inl (by show x0 ≤ rb; omega)) hHeld.2.1, ce (Or.inl (by show x0 + 1 ≤ rb; omega)) hHeld.2.2.1, ce (Or.inl (by show x0 + 1 ≤ rb; omega)) hHeld.2.2.2.1, ce (Or.inl (by show x0 + 2 ≤ rb; omega)) hHeld.2.2.2.2.1, ce (Or.inr rfl) hHeld.2.2.2.2.2.1, ce (Or.inr rfl) hHeld.2.2.2.2.2.2⟩ (fun hHeld => ?_)
          clear hK K
          (try simp only [Act.put, List.getElem_toArray, List.getElem_cons_succ, List.getElem_cons_zero, List.setIfInBounds_toArray, List.set_cons_zero, List.set_cons_succ])
          refine wpAnyH_take (i := 15) (v := ?_) rfl (by kernel_rfl) (by kernel_rfl) (by kernel_rfl) (fun _ _ _ h => h) (Or.inl ⟨by rfl, ?_⟩) (by assumption) ?_
          rotate_left
          · intro w hSw; (try dsimp only at hSw); go_simp; (try with_reducible rfl)
          (try simp only [Act.put, List.getElem_toArray, List.getElem_cons_succ, List.getElem_cons_zero, List.setIfInBounds_toArray, List.set_cons_zero, List.set_cons_succ])
          refine wpAnyH_ready (rs := [16]) (by kernel_rfl) (by simp) ?_
          refine AllReadyH.cons rfl (fun K hK => ?_) AllReadyH.nil
          go_simp
          refine hK.out _ _ ⟨by rw [World.cell?_setCell_far _ _ _ _ (by show rb ≠ x0; omega)]; exact hHeld.1, by rw [World.cell?_setCell_far _ _ _ _ (by show rb ≠ x0; omega)]; exact hHeld.2.1, by rw [World.cell?_setCell_far _ _ _ _ (by show rb ≠ x0 + 1; omega)]; exact hHeld.2.2.1, by rw [World.cell?_setCell_far _ _ _ _ (by show rb ≠ x0 + 1; omega)]; exact hHeld.2.2.2.1, by rw [World.cell?_setCell_far _ _ _ _ (by show rb ≠ x0 + 2; omega)]; exact hHeld.2.2.2.2.1, by rw [World.cell?_setCell_far _ _ _ _ (by show rb ≠ X.heap.size; have := HPO.out; omega)]; exact hHeld.2.2.2.2.2.1, by rw [World.cell?_setCell_far _ _ _ _ (by show rb ≠ X.heap.size; have := HPO.out; omega)]; exact hHeld.2.2.2.2.2.2⟩ (fun hHeld => ?_)
          clear hK K
          refine wpAnyH_done (by kernel_rfl) ?_ _
          exact ⟨HAP.out.1, by show CmbI _ _ _ _ _ _ _ _ _ _ _ _ _ _ _; rw [HFM.out]; exact HAP.out.2⟩
        · go_simp
          refine (HJV.out _).mono ?_
          rintro _ V9 ⟨gj, cj, rfl, hjp, kn9⟩
          have kc9 := kc7.trans (kn9.mono kc7.size)
          refine hK.out _ _ ⟨Sp.cell_kept (kn9) hHeld.1, Sp.cell_kept (kn9) hHeld.2.1, Sp.cell_kept (kn9) hHeld.2.2.1, Sp.cell_kept (kn9) hHeld.2.2.2.1, Sp.cell_kept (kn9) hHeld.2.2.2.2.1, Sp.cell_kept (kn9) hHeld.2.2.2.2.2.1, Sp.cell_kept (kn9) hHeld.2.2.2.2.2.2⟩ (fun hHeld => ?_)
          clear hK K kn9
          (try simp only [Act.put, List.getElem_toArray, List.getElem_cons_succ, List.getElem_cons_zero, List.setIfInBounds_toArray, List.set_cons_zero, List.set_cons_succ])
          refine wpAnyH_ready (rs := [1]) (by kernel_rfl) (by simp) ?_
          refine AllReadyH.cons rfl (fun K hK => ?_) AllReadyH.nil
          have hvk := Sp.cell_kept kc9 HV2.out
          go_simp
          refine hK.out _ _ hHeld (fun hHeld => ?_)
          clear hK K hvk
          (try simp only [Act.put, List.getElem_toArray, List.getElem_cons_succ, List.getElem_cons_zero, List.setIfInBounds_toArray, List.set_cons_zero, List.set_cons_succ])
          have hrk := HR2.out.below kc9
          have hrow : World.ownsRow V9 (W6.heap.size + 3) 55 3 v na (flatP acc) := by unfold RowP at hrk; rw [← HNA.out] at hrk; exact hrk
          have hsrc : SrcAt V9 (.slice (some ⟨gj, 0, none⟩) nl cj) nl (flatP L) := by have h := PcsAt.src (c := cj) hjp (fun e => by cases e); rw [← HNL.out] at h; exact h
          refine wpAnyH_ready (rs := [14]) (by kernel_rfl) (by simp) ?_
          refine AllReadyH.cons rfl (fun K hK => ?_) AllReadyH.nil
          refine step_append_src (by rfl) (.tmp 37) (.tmp 49) 22 (by rfl) (W6.heap.size + 3) 55 i0 (.agg #[.int .i64 0, .int .i64 0, .int .i64 0]) 3 24 Try.underP HI0.out.1 HI0.out.2.1 HI0.out.2.2.1 HI0.out.2.2.2 rfl (by decide) _ na (flatP acc) (by rfl) hrow _ nl (flatP L) (by rfl) hsrc (by rw [flatP_length, HNL.out]) (flatP_cell1 _) (by unfold maxLen; omega) (by omega) (by have := kc9.size; have := HPO.out; omega) ?_
          intro v9 W9 hown hg
          obtain ⟨a9, c9, e9, -, -, -⟩ := RowP.pcs (RowP.app HNA.out HNL.out hown)
          subst e9
          have hap := CmbI.app HI2.out hx3 hxw (by have := HPO.out; omega) kc9 HV2.out hrk hg (RowP.app HNA.out HNL.out hown) (fun i => i = rb ∨ W6.heap.size + 2 < i) (Or.inl rfl) (fun i hi => Or.inr (by omega))
          rw [List.length_append] at hap
          have HAP := Lib.hid hap
          have bl : ∀ i, i ≤ rb ∨ i = X.heap.size → i < V9.heap.size → W9.heap[i]? = V9.heap[i]? := fun i hi hl => hg.block i hl (fun e => by have h1 := HOW.out i e.symm; have h2 := HPO.out; omega)
          have ce : ∀ {p : Addr} {u : Value}, (p.block ≤ rb ∨ p.block = X.heap.size) → World.cell? V9 p = some u → W9.cell? p = some u := fun {p u} hp hc => (World.cell?_of_block (bl p.block hp (World.block_lt_of_cell? _ p hc))).trans hc
          have hvk := ce (Or.inl (Nat.le_refl rb)) (Sp.cell_kept kc9 HV2.out)
          have hzk : W9.frozen? ⟨rb, 1, none⟩ = false := (frozen_block (bl rb (Or.inl (Nat.le_refl _)) (World.block_lt_of_cell? _ _ (Sp.cell_kept kc9 HV2.out)))).trans (Pw.frozen_kept kc9 HI2.out.z1 HV2.out)
          refine hK.out _ _ ⟨ce (Or.inl (by show x0 ≤ rb; omega)) hHeld.1, ce (Or.inl (by show x0 ≤ rb; omega)) hHeld.2.1, ce (Or.inl (by show x0 + 1 ≤ rb; omega)) hHeld.2.2.1, ce (Or.inl (by show x0 + 1 ≤ rb; omega)) hHeld.2.2.2.1, ce (Or.inl (by show x0 + 2 ≤ rb; omega)) hHeld.2.2.2.2.1, ce (Or.inr rfl) hHeld.2.2.2.2.2.1, ce (Or.inr rfl) hHeld.2.2.2.2.2.2⟩ (fun hHeld => ?_)
          clear hK K
          (try simp only [Act.put, List.getElem_toArray, List.getElem_cons_succ, List.getElem_cons_zero, List.setIfInBounds_toArray, List.set_cons_zero, List.set_cons_succ])
          refine wpAnyH_take (i := 15) (v := ?_) rfl (by kernel_rfl) (by kernel_rfl) (by kernel_rfl) (fun _ _ _ h => h) (Or.inl ⟨by rfl, ?_⟩) (by assumption) ?_
          rotate_left
          · intro w hSw; (try dsimp only at hSw); go_simp; (try with_reducible rfl)
          (try simp only [Act.put, List.getElem_toArray, List.getElem_cons_succ, List.getElem_cons_zero, List.setIfInBounds_toArray, List.set_cons_zero, List.set_cons_succ])
          refine wpAnyH_ready (rs := [16]) (by kernel_rfl) (by simp) ?_
          refine AllReadyH.cons rfl (fun K hK => ?_) AllReadyH.nil
          go_simp
          refine hK.out _ _ ⟨by rw [World.cell?_setCell_far _ _ _ _ (by show rb ≠ x0; omega)]; exact hHeld.1, by rw [World.cell?_setCell_far _ _ _ _ (by show rb ≠ x0; omega)]; exact hHeld.2.1, by rw [World.cell?_setCell_far _ _ _ _ (by show rb ≠ x0 + 1; omega)]; exact hHeld.2.2.1, by rw [World.cell?_setCell_far _ _ _ _ (by show rb ≠ x0 + 1; omega)]; exact hHeld.2.2.2.1, by rw [World.cell?_setCell_far _ _ _ _ (by show rb ≠ x0 + 2; omega)]; exact hHeld.2.2.2.2.1, by rw [World.cell?_setCell_far _ _ _ _ (by show rb ≠ X.heap.size; have := HPO.out; omega)]; exact hHeld.2.2.2.2.2.1, by rw [World.cell?_setCell_far _ _ _ _ (by show rb ≠ X.heap.size; have := HPO.out; omega)]; exact hHeld.2.2.2.2.2.2⟩ (fun hHeld => ?_)
          clear hK K
          refine wpAnyH_done (by kernel_rfl) ?_ _
          exact ⟨HAP.out.1, by show CmbI _ _ _ _ _ _ _ _ _ _ _ _ _ _ _; rw [HFM.out]; exact HAP.out.2⟩
  case done =>
    intro Y hI hlt hK
    obtain ⟨v, hv, hrow⟩ := hI.row
    generalize (strs (starts l r)).flatMap (jn J l r) = M at *
    obtain ⟨av2, cv2, rfl, hpM, -, hcn⟩ := hrow.pcs
    have HVM := Lib.hid (fun m w' (q : Below Y.heap.size Y w') => HVD.out M av2 cv2 m w' (hpM.below q))
    have hrow2 : World.ownsRow Y (W6.heap.size + 3) 55 3 (.slice av2 M.length cv2) M.length (flatP M) := hrow
    have HRW0 := Lib.hid hrow2
    generalize vdB d M = vm at *
    obtain ⟨nM, hnM⟩ : ∃ nM, nM = M.length := ⟨_, rfl⟩
    have HNM := Lib.hid hnM
    have hlM := hrow2.1
    rw [← hnM] at hv HVM HT
    have q0 := hI.q0
    have q1 := hI.q1
    have y0 := hI.y0
    have y1 := hI.y1
    have r0 := hI.r0
    have HHB := Lib.hid hI.hb
    have HKD0 := Lib.hid hK
    have HHV := Lib.hid (And.intro hv (And.intro r0 (And.intro q0 (And.intro q1 (And.intro y0 y1)))))
    have hx0 : x0 + 3 < W6.heap.size := by omega
    have hle : w.heap.size ≤ x0 + 3 := by omega
    clear hI hI6 hrow hrow2 hpM hK HVD hnM hlM HSB HJN HJ2 HLEN HMEM HUP HSQ HTL HTR hp6 hc6 hlt
    by_cases h64 : 64 < nM
    · have h64i : (64 : Int) < (nM : Int) := by omega
      have HTV := Lib.hid (show T = (0, [], 2) by rw [HT.out, if_pos h64])
      have HFF := Lib.hid (fill2 (a := .int .i64 0) (b := .slice none 0 0) HHB.out hle q0 q1)
      have HKD := HKD0
      gi_wp2
      obtain ⟨u0, u1, hBf⟩ := HFF.out
      have hKZ : ((Y.setCell ⟨x0 + 3, 0, none⟩ (.int .i64 0)).setCell ⟨x0 + 3, 1, none⟩ (.slice none 0 0)).heap[W6.heap.size]? = some (.deferred (some [])) := (Below.heap_setCell _ _ _ _ (by show W6.heap.size ≠ x0 + 3; omega)).trans ((Below.heap_setCell _ _ _ _ (by show W6.heap.size ≠ x0 + 3; omega)).trans HKD.out)
      generalize (Y.setCell ⟨x0 + 3, 0, none⟩ (.int .i64 0)).setCell ⟨x0 + 3, 1, none⟩ (.slice none 0 0) = Z at *
      refine ⟨by simp, .inl ⟨_, _, rfl, run_takeDeferred hKZ, ?_⟩⟩
      have hTu := Turned.putObj W6.heap.size Z (.deferred none)
      have v0 := hTu.cell u0 (by show x0 + 3 ≠ _; omega)
      have v1 := hTu.cell u1 (by show x0 + 3 ≠ _; omega)
      have hBZ := hBf.trans (hTu.below (B := w.heap.size) (by omega))
      generalize Z.putObj W6.heap.size (.deferred none) = ZZ at *
      refine ⟨.tuple #[fv 0 none 0 0, .int .i64 2], (by simp [results, Try.results28, v0, v1, go_sem]), CmbPost.none HTV.out rfl hBZ⟩
    · have h64i : ¬ (64 : Int) < (nM : Int) := by omega
      rw [if_neg h64] at HT
      gi_upto_region 11 with (fail)
      gi_wp2_with (gi_at_call 20; ((with_reducible refine (HVM.out _ _ (Below.refl _ _)).mono ?_); rintro _ Y2 ⟨rfl, hn⟩); clear hv r0 q0 q1 y0 y1; have hv := Sp.cell_kept hn HHV.out.1; have r0 := Sp.cell_kept hn HHV.out.2.1; have q0 := Sp.cell_kept hn HHV.out.2.2.1; have q1 := Sp.cell_kept hn HHV.out.2.2.2.1; have y0 := Pw.frozen_kept hn HHV.out.2.2.2.2.1 HHV.out.2.2.1; have y1 := Pw.frozen_kept hn HHV.out.2.2.2.2.2 HHV.out.2.2.2.1; have HHB2 := Lib.hid (HHB.out.trans (hn.mono HHB.out.size)); have HKD := Lib.hid ((hn.block _ (Array.getElem?_eq_some_iff.1 HKD0.out).1).trans HKD0.out); have HRW := Lib.hid (RowP.below (l := M) HRW0.out hn); have HFF0 := Lib.hid (fill2 (a := .int .i64 0) (b := .slice none 0 0) HHB2.out hle q0 q1); have HFF1 := Lib.hid (fill2 (a := .int .i64 d) (b := .slice av2 nM cv2) HHB2.out hle q0 q1); clear hn HVM; cases vm)
      · have HTV := Lib.hid (show T = (0, [], 3) by rw [HT.out]; simp)
        have HFF := HFF0
        obtain ⟨u0, u1, hBf⟩ := HFF.out
        have hKZ : ((Y2.setCell ⟨x0 + 3, 0, none⟩ (.int .i64 0)).setCell ⟨x0 + 3, 1, none⟩ (.slice none 0 0)).heap[W6.heap.size]? = some (.deferred (some [])) := (Below.heap_setCell _ _ _ _ (by show W6.heap.size ≠ x0 + 3; omega)).trans ((Below.heap_setCell _ _ _ _ (by show W6.heap.size ≠ x0 + 3; omega)).trans HKD.out)
        generalize (Y2.setCell ⟨x0 + 3, 0, none⟩ (.int .i64 0)).setCell ⟨x0 + 3, 1, none⟩ (.slice none 0 0) = Z at *
        refine ⟨by simp, .inl ⟨_, _, rfl, run_takeDeferred hKZ, ?_⟩⟩
        have hTu := Turned.putObj W6.heap.size Z (.deferred none)
        have v0 := hTu.cell u0 (by show x0 + 3 ≠ _; omega)
        have v1 := hTu.cell u1 (by show x0 + 3 ≠ _; omega)
        have hBZ := hBf.trans (hTu.below (B := w.heap.size) (by omega))
        generalize Z.putObj W6.heap.size (.deferred none) = ZZ at *
        refine ⟨.tuple #[fv 0 none 0 0, .int .i64 3], (by simp [results, Try.results28, v0, v1, go_sem]), CmbPost.none HTV.out rfl hBZ⟩
      · have HTV := Lib.hid (show T = (d, M, 0) by rw [HT.out]; simp)
        have HFF := HFF1
        obtain ⟨u0, u1, hBf⟩ := HFF.out
        have hKZ : ((Y2.setCell ⟨x0 + 3, 0, none⟩ (.int .i64 d)).setCell ⟨x0 + 3, 1, none⟩ (.slice av2 nM cv2)).heap[W6.heap.size]? = some (.deferred (some [])) := (Below.heap_setCell _ _ _ _ (by show W6.heap.size ≠ x0 + 3; omega)).trans ((Below.heap_setCell _ _ _ _ (by show W6.heap.size ≠ x0 + 3; omega)).trans HKD.out)
        have hRZ := ownsRow_setCell_below (ownsRow_setCell_below HRW.out (show (⟨x0 + 3, 0, none⟩ : Addr).block < W6.heap.size + 3 by show x0 + 3 < _; omega) (.int .i64 d)) (show (⟨x0 + 3, 1, none⟩ : Addr).block < W6.heap.size + 3 by show x0 + 3 < _; omega) (.slice av2 nM cv2)
        generalize (Y2.setCell ⟨x0 + 3, 0, none⟩ (.int .i64 d)).setCell ⟨x0 + 3, 1, none⟩ (.slice av2 nM cv2) = Z at *
        refine ⟨by simp, .inl ⟨_, _, rfl, run_takeDeferred hKZ, ?_⟩⟩
        have hTu := Turned.putObj W6.heap.size Z (.deferred none)
        have v0 := hTu.cell u0 (by show x0 + 3 ≠ _; omega)
        have v1 := hTu.cell u1 (by show x0 + 3 ≠ _; omega)
        have hBZ := hBf.trans (hTu.below (B := w.heap.size) (by omega))
        have hsz6 : w.heap.size ≤ W6.heap.size := by omega
        have hRW2 : RowP Z (W6.heap.size + 3) (.slice av2 M.length cv2) M := by unfold RowP; exact hRZ
        obtain ⟨hPZ, -⟩ := RowP.pcs' (RowP.kp (rb := x0 + 3) hRW2 (Kp.of_turned hTu (by omega) (by omega)))
        generalize Z.putObj W6.heap.size (.deferred none) = ZZ at *
        refine ⟨.tuple #[fv d av2 nM cv2, .int .i64 0], (by simp [results, Try.results28, v0, v1, go_sem]), CmbPost.some HTV.out (by rw [HNM.out]) hPZ hcn (fun g o e => by have := RowP.fresh hRW2 g o e; omega) hBZ⟩

end Go.Proofs.Ytdoojpilogcnjaa.Pw
