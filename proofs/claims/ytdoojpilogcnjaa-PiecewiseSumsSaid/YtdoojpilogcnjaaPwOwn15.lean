/- What the developers' Where returns. Conditions: the function lies in memory as the argument says. -/
import Derived.Test.YtdoojpilogcnjaaPwOwn13
import Derived.Test.YtdoojpilogcnjaaPwOwn7
import Derived.Test.YtdoojpilogcnjaaPwOwn5
import Derived.Test.YtdoojpilogcnjaaSpanOwn6
set_option linter.unusedVariables false
set_option linter.unusedSimpArgs false
namespace Go.Proofs.Ytdoojpilogcnjaa.Pw
open Go Go.RowKit Go.Shelf Go.Proofs.Ytdoojpilogcnjaa.Zn Go.Proofs.Ytdoojpilogcnjaa.Sp
attribute [local go_sem] Oper.semAt_some
theorem RowS.kp {rb base : Nat} {X Y : World} {v : Value} {l : List Sn} (h : RowS X base v l) (q : Kp rb base X Y) : RowS Y base v l := by
  refine ⟨h.1, ?_⟩
  rcases h.2 with hn | ⟨g, cap, cur, e1, e2, e3, rest⟩
  · exact .inl hn
  · exact .inr ⟨g, cap, cur, e1, e2, (q.block g (Array.getElem?_eq_some_iff.1 e3).1 (Or.inr e2)).trans e3, rest⟩
/-- The set, or its error. -/
def whT (d : Int) (l : List Pc) (lo hi : Int) : List Sn × Int := if vdB d l = true then (if rin lo ∧ rin hi then (norm (whr l (lo * d) (hi * d)), 0) else ([], 3)) else ([], 1)
def WhPost (w : World) (T : List Sn × Int) (res : Ending) (w' : World) : Prop := ∃ a c, res = .returned (.tuple #[.slice a T.1.length c, .int .i64 T.2]) ∧ SpansAt a T.1 w' ∧ Below w.heap.size w w'
theorem WhPost.none {w w' : World} {T : List Sn × Int} {E : Int} {res : Ending} (h : T = ([], E)) (hr : res = .returned (.tuple #[.slice Option.none 0 0, .int .i64 E])) (hb : Below w.heap.size w w') : WhPost w T res w' := by
  subst h
  exact ⟨Option.none, 0, hr, SpansAt.nil _ _, hb⟩
abbrev ib (x : Int) : Obj := .cells #[.int .i64 x] 3
abbrev lsb : Obj := .cells #[.slice none 0 0] 34
theorem where_boxes (w : World) (d : Int) (a : Option Addr) (n c : Nat) (x y : Int) : (((w.alloc (fb d a n c)).alloc (ib x)).alloc (ib y)).cell? ⟨w.heap.size, 0, none⟩ = some (.int .i64 d) ∧ (((w.alloc (fb d a n c)).alloc (ib x)).alloc (ib y)).cell? ⟨w.heap.size, 1, none⟩ = some (.slice a n c) ∧
    (((w.alloc (fb d a n c)).alloc (ib x)).alloc (ib y)).cell? ⟨w.heap.size + 1, 0, none⟩ = some (.int .i64 x) ∧ (((w.alloc (fb d a n c)).alloc (ib x)).alloc (ib y)).cell? ⟨w.heap.size + 2, 0, none⟩ = some (.int .i64 y) ∧ Below w.heap.size w (((w.alloc (fb d a n c)).alloc (ib x)).alloc (ib y)) := by
  have s1 : (w.alloc (fb d a n c)).heap.size = w.heap.size + 1 := by simp
  have s2 : ((w.alloc (fb d a n c)).alloc (ib x)).heap.size = w.heap.size + 2 := by simp
  obtain ⟨a0, a1, -⟩ := fb_cells w d a n c
  have b0 : ((w.alloc (fb d a n c)).alloc (ib x)).cell? ⟨(w.alloc (fb d a n c)).heap.size, 0, none⟩ = some (.int .i64 x) := by generalize w.alloc (fb d a n c) = W; simp [World.cell?_alloc_new]
  have c0 : (((w.alloc (fb d a n c)).alloc (ib x)).alloc (ib y)).cell? ⟨((w.alloc (fb d a n c)).alloc (ib x)).heap.size, 0, none⟩ = some (.int .i64 y) := by generalize (w.alloc (fb d a n c)).alloc (ib x) = W; simp [World.cell?_alloc_new]
  rw [s1] at b0
  rw [s2] at c0
  have k1 := Sp.alloc_below w (fb d a n c)
  have k2 := Sp.alloc_below (w.alloc (fb d a n c)) (ib x)
  have k3 := Sp.alloc_below ((w.alloc (fb d a n c)).alloc (ib x)) (ib y)
  have k23 := k2.trans (k3.mono k2.size)
  exact ⟨Sp.cell_kept k23 a0, Sp.cell_kept k23 a1, Sp.cell_kept k3 b0, c0, k1.trans (k23.mono k1.size)⟩
set_option maxHeartbeats 4000000 in
set_option maxRecDepth 100000 in
theorem pwhere_out (d lo hi : Int) (a : Option Addr) (c : Nat) (l : List Pc) (w : World) (z : PcsAt a l w) (h : ¬ (vdB d l = true ∧ rin lo ∧ rin hi)) :
    Calls Try.prog 15 #[fv d a l.length c, .int .i64 lo, .int .i64 hi] w (WhPost w (whT d l lo hi)) := by
  have HL := Lib.hid (fun w' (q : Below w.heap.size w w') => pvalid_any d a c l w' (z.below q))
  have HT := Lib.hid (show whT d l lo hi = if vdB d l = true then (if rin lo ∧ rin hi then (norm (whr l (lo * d) (hi * d)), 0) else ([], 3)) else ([], 1) from rfl)
  have HW := Lib.hid (fun q w => pwithin_any q 1000000000000 w (by decide) (by decide))
  have HNO := Lib.hid h
  generalize vdB d l = v at *
  generalize whT d l lo hi = T at *
  generalize l.length = n at *
  obtain ⟨f0, f1, a0, b0, hB⟩ := where_boxes w d a n c lo hi
  have HB := Lib.hid hB
  clear z h hB
  go_enter Try.func15, Try.ntmps15
  go_upto_region 1 with (fail)
  change Code.wp _ _ _ _ (((w.alloc (fb d a n c)).alloc (ib lo)).alloc (ib hi))
  generalize ((w.alloc (fb d a n c)).alloc (ib lo)).alloc (ib hi) = W1 at *
  generalize w.heap.size = xb at f0 f1 a0 b0 ⊢
  have HE := Lib.hid (And.intro f0 (And.intro f1 (And.intro a0 b0)))
  cases v
  · have HR := Lib.hid (show T = ([], 1) by rw [HT.out]; simp)
    go_wp2_with (go_at_call 20; (with_reducible refine (HL.out _ HB.out).mono ?_); rintro _ W2 ⟨rfl, hn⟩)
    go_ret2
    exact WhPost.none HR.out rfl (HB.out.trans (hn.mono HB.out.size))
  · have HR := Lib.hid (show T = ([], 3) by rw [HT.out, if_pos rfl, if_neg (fun q => HNO.out ⟨rfl, q⟩)])
    by_cases hl : rin lo
    · have hh : ¬ rin hi := fun q => HNO.out ⟨rfl, hl, q⟩
      have H1 := Lib.hid (fun w' => (HW.out lo w').mono (fun r w'' (h : _ ∧ _) => (⟨h.1.trans (ret_bool (decide_eq_true hl)), h.2⟩ : r = .returned (.bool true) ∧ w'' = w')))
      have H2 := Lib.hid (fun w' => (HW.out hi w').mono (fun r w'' (h : _ ∧ _) => (⟨h.1.trans (ret_bool (decide_eq_false hh)), h.2⟩ : r = .returned (.bool false) ∧ w'' = w')))
      clear hl hh
      go_wp2_with (first
        | (go_at_call 20; (with_reducible refine (HL.out _ HB.out).mono ?_); rintro _ W2 ⟨rfl, hn⟩; clear f0 f1 a0 b0; have HBZ := Lib.hid (HB.out.trans (hn.mono HB.out.size)); have f0 := Sp.cell_kept hn HE.out.1; have f1 := Sp.cell_kept hn HE.out.2.1; have a0 := Sp.cell_kept hn HE.out.2.2.1; have b0 := Sp.cell_kept hn HE.out.2.2.2; clear hn)
        | (go_at_call 37; (with_reducible refine (H1.out _).mono ?_); rintro _ W2 ⟨rfl, rfl⟩)
        | (go_at_call 37; (with_reducible refine (H2.out _).mono ?_); rintro _ W2 ⟨rfl, rfl⟩))
      go_ret2
      exact WhPost.none HR.out rfl HBZ.out
    · have H1 := Lib.hid (fun w' => (HW.out lo w').mono (fun r w'' (h : _ ∧ _) => (⟨h.1.trans (ret_bool (decide_eq_false hl)), h.2⟩ : r = .returned (.bool false) ∧ w'' = w')))
      clear hl
      go_wp2_with (first
        | (go_at_call 20; (with_reducible refine (HL.out _ HB.out).mono ?_); rintro _ W2 ⟨rfl, hn⟩; clear f0 f1 a0 b0; have HBZ := Lib.hid (HB.out.trans (hn.mono HB.out.size)); have f0 := Sp.cell_kept hn HE.out.1; have f1 := Sp.cell_kept hn HE.out.2.1; have a0 := Sp.cell_kept hn HE.out.2.2.1; have b0 := Sp.cell_kept hn HE.out.2.2.2; clear hn)
        | (go_at_call 37; (with_reducible refine (H1.out _).mono ?_); rintro _ W2 ⟨rfl, rfl⟩))
      go_ret2
      exact WhPost.none HR.out rfl HBZ.out
/-- What the loop keeps. -/
structure WhI (w : World) (x0 rb base : Nat) (d lo hi : Int) (a : Option Addr) (n c : Nat) (acc : List Sn) (W : World) : Prop where
  f0 : W.cell? ⟨x0, 0, none⟩ = some (.int .i64 d)
  f1 : W.cell? ⟨x0, 1, none⟩ = some (.slice a n c)
  a0 : W.cell? ⟨x0 + 1, 0, none⟩ = some (.int .i64 lo)
  b0 : W.cell? ⟨x0 + 2, 0, none⟩ = some (.int .i64 hi)
  z0 : W.frozen? ⟨rb, 0, none⟩ = false
  row : ∃ v, W.cell? ⟨rb, 0, none⟩ = some v ∧ RowS W base v acc
  hb : Below w.heap.size w W
section
variable {w : World} {x0 rb base : Nat} {d lo hi : Int} {a : Option Addr} {n c : Nat} {acc : List Sn} {X Y : World}
theorem WhI.kp (h : WhI w x0 rb base d lo hi a n c acc X) (q : Kp rb base X Y) (hx : x0 + 2 < rb) (hw : w.heap.size ≤ x0) : WhI w x0 rb base d lo hi a n c acc Y := by
  have bl : ∀ i, i ≤ rb → i < X.heap.size → Y.heap[i]? = X.heap[i]? := fun i hi hl => q.block i hl (Or.inl hi)
  have ce : ∀ {p : Addr} {v : Value}, p.block ≤ rb → X.cell? p = some v → Y.cell? p = some v := fun {p v} hp hc => (World.cell?_of_block (w := X) (bl p.block hp (World.block_lt_of_cell? X p hc))).trans hc
  obtain ⟨v, hv, hr⟩ := h.row
  refine ⟨ce (by show x0 ≤ rb; omega) h.f0, ce (by show x0 ≤ rb; omega) h.f1, ce (by show x0 + 1 ≤ rb; omega) h.a0, ce (by show x0 + 2 ≤ rb; omega) h.b0, (frozen_block (bl rb (Nat.le_refl _) (World.block_lt_of_cell? X _ hv))).trans h.z0, ⟨v, ce (Nat.le_refl _) hv, RowS.kp hr q⟩, ?_⟩
  exact ⟨q.os.trans h.hb.os, q.tape.trans h.hb.tape, q.output.trans h.hb.output, Nat.le_trans h.hb.size q.size, fun i hi => (bl i (by omega) (Nat.lt_of_lt_of_le hi h.hb.size)).trans (h.hb.block i hi)⟩
theorem WhI.app (h : WhI w x0 rb base d lo hi a n c acc X) (hx : x0 + 2 < rb) (hw : w.heap.size ≤ x0) (hrb : rb < base) {wc w' : World} {v v' : Value} {L : List Sn} (kc : Below X.heap.size X wc) (hv : X.cell? ⟨rb, 0, none⟩ = some v) (hr : RowS wc base v acc) (hg : wc.grownBy w' v.ownBlock) (hown : RowS w' base v' (acc ++ L)) (mine : Nat → Prop) (hm : mine rb) (hm2 : ∀ i, base ≤ i → mine i) :
    Oth mine X (w'.setCell ⟨rb, 0, none⟩ v') ∧ WhI w x0 rb base d lo hi a n c (acc ++ L) (w'.setCell ⟨rb, 0, none⟩ v') := by
  have hlo : ∀ i, v.ownBlock = some i → base ≤ i := fun i hi => (World.ownsRow.lt hr i hi).1
  have I1 := h.kp (Kp.of_below kc (Nat.le_refl _)) hx hw
  have bl : ∀ i, i ≤ rb → i < wc.heap.size → w'.heap[i]? = wc.heap[i]? := fun i hi hl => hg.block i hl (fun e => by have := hlo i e.symm; omega)
  have ce : ∀ {p : Addr} {u : Value}, p.block ≤ rb → wc.cell? p = some u → w'.cell? p = some u := fun {p u} hp hc => (World.cell?_of_block (w := wc) (bl p.block hp (World.block_lt_of_cell? wc p hc))).trans hc
  have far : ∀ {p : Addr} {u : Value}, p.block < rb → wc.cell? p = some u → (w'.setCell ⟨rb, 0, none⟩ v').cell? p = some u := fun {p u} hp hc => by
    rw [World.cell?_setCell_other _ _ _ _ (fun q => by rw [← q] at hp; exact absurd hp (Nat.lt_irrefl _))]
    exact ce (Nat.le_of_lt hp) hc
  have hv1 := Sp.cell_kept kc hv
  refine ⟨((Oth.of_below kc (Nat.le_refl _)).grown hg (fun i hi => .inl (hm2 i (hlo i hi)))).setCell (.inl hm) _, ?_⟩
  refine ⟨far (by show x0 < rb; omega) I1.f0, far (by show x0 < rb; omega) I1.f1, far (by show x0 + 1 < rb; omega) I1.a0, far (by show x0 + 2 < rb; omega) I1.b0, ?_, ⟨v', ?_, ?_⟩, ?_⟩
  · rw [World.frozen?_setCell]
    exact (frozen_block (bl rb (Nat.le_refl _) (World.block_lt_of_cell? wc _ hv1))).trans I1.z0
  · exact World.cell?_setCell_same' _ _ _ (by rw [ce (Nat.le_refl _) hv1]; rfl)
  · exact ownsRow_setCell_below hown (show rb < base from hrb) _
  · refine Below.setCell ?_ (show w.heap.size ≤ rb by omega) _
    exact I1.hb.grown hg I1.hb.size (fun i hi => by have := hlo i hi; omega)
end
theorem not_deferred {X : World} {p : Addr} {v : Value} {k : Nat} {o : Option (List Deferred)} (hc : X.cell? p = some v) (hD : X.heap[k]? = some (.deferred o)) : p.block ≠ k := fun e => by
  subst e
  simp [World.cell?, hD] at hc
theorem spans_turned {a : Option Addr} {l : List Sn} {X Y : World} {k : Nat} {o : Option (List Deferred)} (h : SpansAt a l X) (t : Turned k X Y) (hD : X.heap[k]? = some (.deferred o)) : SpansAt a l Y := fun i x hx => by
  obtain ⟨b, off, e, c1, c2⟩ := h i x hx
  exact ⟨b, off, e, t.cell c1 (not_deferred c1 hD), t.cell c2 (not_deferred c2 hD)⟩
theorem whr_split {l : List Pc} {L H : Int} {pre rest : List (Int × Int)} {x : Int × Int} (h : strs (l.map Prod.fst) = pre ++ x :: rest) : (pre.map fun p : Int × Int => btw p.1 (num l p.1) (slp l p.1) (p.2 + 1) L H).length ≤ l.length := by
  have e : (strs (l.map Prod.fst)).length = l.length := by rw [strs_len, List.length_map]
  rw [h, List.length_append, List.length_cons] at e
  rw [List.length_map]; omega
set_option maxHeartbeats 8000000 in
set_option maxRecDepth 100000 in
theorem pwhere_in (d lo hi : Int) (a : Option Addr) (c : Nat) (l : List Pc) (w : World) (z : PcsAt a l w) (hv : vdB d l = true) (hl : rin lo) (hh : rin hi) :
    Calls Try.prog 15 #[fv d a l.length c, .int .i64 lo, .int .i64 hi] w (WhPost w (whT d l lo hi)) := by
  obtain ⟨ol, d1, d2, n64⟩ := vd_ok hv
  have HT := Lib.hid (show whT d l lo hi = (norm (whr l (lo * d) (hi * d)), 0) by unfold whT; rw [if_pos hv, if_pos ⟨hl, hh⟩])
  generalize whT d l lo hi = T at *
  have HL := Lib.hid (fun m w' (q : Below w.heap.size w w') => (callsIn_wide (n := m)).2 (by have h := pvalid_any d a c l w' (z.below q); rw [hv] at h; exact h))
  have HW1 := Lib.hid (fun m w' => (callsIn_wide (n := m)).2 ((pwithin_any lo 1000000000000 w' (by decide) (by decide)).mono (fun r w'' (h : _ ∧ _) => (⟨h.1.trans (ret_bool (decide_eq_true hl)), h.2⟩ : r = .returned (.bool true) ∧ w'' = w'))))
  have HW2 := Lib.hid (fun m w' => (callsIn_wide (n := m)).2 ((pwithin_any hi 1000000000000 w' (by decide) (by decide)).mono (fun r w'' (h : _ ∧ _) => (⟨h.1.trans (ret_bool (decide_eq_true hh)), h.2⟩ : r = .returned (.bool true) ∧ w'' = w'))))
  have HTL := Lib.hid (fun x (hx : 0 ≤ x ∧ x ≤ 1000000000000) w' (q : Below w.heap.size w w') => (show Calls Try.prog 40 #[fv d a l.length c, .int .i64 x] w' fun r w'' => r = .returned (.agg #[.int .i64 x, .int .i64 (num l x), .int .i64 (slp l x)]) ∧ Below w'.heap.size w' w'' from ptail_any d x a c l w' (by omega) ol hx.1 hx.2 (z.below q)))
  have hmb : ∀ x : Int, rin x → -1000000000000000000 ≤ x * d ∧ x * d ≤ 1000000000000000000 := fun x hx => by
    unfold rin at hx
    have h1 := Int.mul_le_mul_of_nonneg_right hx.1 (show 0 ≤ d by omega)
    have h2 := Int.mul_le_mul_of_nonneg_right hx.2 (show 0 ≤ d by omega)
    omega
  have hb1 := hmb lo hl
  have hb2 := hmb hi hh
  have hup := firsts_up ol.inc
  have HSB := Lib.hid (show ∀ p ∈ strs (l.map Prod.fst), 0 ≤ p.1 ∧ p.1 ≤ p.2 ∧ p.2 ≤ 1000000000000 from fun p hp => by
    obtain ⟨a1, a2, a3, -⟩ := own_str ol hp
    exact ⟨a1, a2, a3⟩)
  have HBT := Lib.hid (fun (p : Int × Int) (hp : p ∈ strs (l.map Prod.fst)) w' => pbtw_any p.1 (num l p.1) (slp l p.1) (p.2 + 1) (lo * d) (hi * d) w' (HSB.out p hp).1 (by have := (HSB.out p hp).2.1; omega) (by have := (HSB.out p hp).2.2; omega) (num_bd ol (HSB.out p hp).1 (by have := HSB.out p hp; omega)) (slp_bd ol (HSB.out p hp).1) hb1 hb2)
  have HWR := Lib.hid (show whr l (lo * d) (hi * d) = (strs (l.map Prod.fst)).map fun p : Int × Int => btw p.1 (num l p.1) (slp l p.1) (p.2 + 1) (lo * d) (hi * d) from rfl)
  have HWL := Lib.hid (show (whr l (lo * d) (hi * d)).length ≤ 64 by rw [whr_len]; exact n64)
  have HLEN := Lib.hid (fun (pre rest : List (Int × Int)) (x : Int × Int) (h : strs (l.map Prod.fst) = pre ++ x :: rest) => whr_split (L := lo * d) (H := hi * d) h)
  obtain ⟨bb, bo, rfl⟩ : ∃ bb bo, a = some ⟨bb, bo, none⟩ := by
    obtain ⟨p, t, e2, -⟩ := ol.zero
    obtain ⟨bb, bo, e3, -⟩ := z 0 p (by rw [e2]; rfl)
    exact ⟨bb, bo, e3⟩
  have hpos : 0 < l.length := by obtain ⟨p, t, e2, -⟩ := ol.zero; rw [e2]; simp
  have HST := Lib.hid (fun m W => (callsIn_wide (n := m)).2 (pstretches_any (some ⟨bb, bo, none⟩) l.length c W))
  have HSQ := Lib.hid (fun w0 (hb0 : Below w.heap.size w w0) W hb gx (hc : World.cell? W ⟨gx, 0, none⟩ = some (.slice (some ⟨bb, bo, none⟩) l.length c)) mine hm lp => pstr_seq (some ⟨bb, bo, none⟩) c l hpos (by omega) (l.map Prod.fst) hup (fun x => by rw [List.mem_map]) w0 (z.below hb0) W hb gx hc mine hm lp)
  have HNM := Lib.hid (fun m a' c' (L : List Sn) w' (hL : L.length ≤ 2000) (z' : SpansAt a' L w') => (callsIn_wide (n := m)).2 (normal_at a' c' L w' hL z'))
  obtain ⟨M1, hM1⟩ : ∃ M, M = lo * d := ⟨_, rfl⟩
  obtain ⟨M2, hM2⟩ : ∃ M, M = hi * d := ⟨_, rfl⟩
  rw [← hM1] at hb1
  rw [← hM2] at hb2
  have hwm1 : IntKind.i64.wrap (lo * d) = M1 := by rw [hM1]; exact IntWalk.i64_in _ (by omega)
  have hwm2 : IntKind.i64.wrap (hi * d) = M2 := by rw [hM2]; exact IntWalk.i64_in _ (by omega)
  rw [← hM1, ← hM2] at HT HBT HWR HWL HLEN
  obtain ⟨f0, f1, a0, b0, hB⟩ := where_boxes w d (some ⟨bb, bo, none⟩) l.length c lo hi
  have HB := Lib.hid hB
  have HWM := Lib.hid (And.intro hwm1 hwm2)
  obtain ⟨i0, hi0, hz0, hz1, hz2⟩ := info_parts Try.infoS
  have HI0 := Lib.hid (And.intro hi0 (And.intro hz0 (And.intro hz1 hz2)))
  clear hi0 hz0 hz1 hz2 hv ol d1 d2 z hl hh hmb hb1 hb2 hup hpos hM1 hM2 hB hwm1 hwm2
  generalize l.length = n at *
  have hf1 : Fence.wide.fn 20 := trivial
  have hf2 : Fence.wide.fn 37 := trivial
  have hf3 : Fence.wide.fn 38 := trivial
  have hf4 : Fence.wide.fn 40 := trivial
  have hf5 : Fence.wide.fn 39 := trivial
  have hf6 : Fence.wide.fn 41 := trivial
  have hdep : Fence.wide.depth = none := rfl
  refine (callsIn_wide (n := 3)).1 ?_
  refine callsIn_of_wp_marks Try.func15 rfl trivial ?_ rfl
  simp only [Try.ntmps15, List.size_toArray, List.length_cons, List.length_nil, Nat.reduceAdd, Nat.reduceSub, Array.replicate_succ, Array.replicate_zero, List.push_toArray, List.append_toArray, List.nil_append, List.cons_append]
  gi_upto_region 1 with (fail)
  change Code.wpIn _ _ _ _ _ _ (((w.alloc (fb d (some ⟨bb, bo, none⟩) n c)).alloc (ib lo)).alloc (ib hi))
  generalize ((w.alloc (fb d (some ⟨bb, bo, none⟩) n c)).alloc (ib lo)).alloc (ib hi) = W1 at *
  generalize hxb : w.heap.size = x0 at f0 f1 a0 b0 ⊢
  have HXB := Lib.hid hxb
  have HE := Lib.hid (And.intro f0 (And.intro f1 (And.intro a0 b0)))
  clear hxb
  gi_upto_region 5 with (first
    | (gi_at_call 20; ((with_reducible refine (HL.out _ _ HB.out).mono ?_); rintro _ W3 ⟨rfl, hn⟩); clear f0 f1 a0 b0; have HB3 := Lib.hid (HB.out.trans (hn.mono HB.out.size)); have f0 := Sp.cell_kept hn HE.out.1; have f1 := Sp.cell_kept hn HE.out.2.1; have a0 := Sp.cell_kept hn HE.out.2.2.1; have b0 := Sp.cell_kept hn HE.out.2.2.2; clear hn)
    | (gi_at_call 37; ((with_reducible refine (HW1.out _ _).mono ?_); rintro _ W3 ⟨rfl, rfl⟩))
    | (gi_at_call 37; ((with_reducible refine (HW2.out _ _).mono ?_); rintro _ W3 ⟨rfl, rfl⟩)))
  have hx3 : x0 + 2 < W3.heap.size := World.block_lt_of_cell? _ _ b0
  have k4 := Sp.alloc_below W3 lsb
  have r0 : (W3.alloc lsb).cell? ⟨W3.heap.size, 0, none⟩ = some (.slice none 0 0) := by simp [World.cell?_alloc_new]
  have rz : (W3.alloc lsb).frozen? ⟨W3.heap.size, 0, none⟩ = false := by simp
  have hs4 : (W3.alloc lsb).heap.size = W3.heap.size + 1 := by simp
  have HE4 := Lib.hid (And.intro (Sp.cell_kept k4 f0) (And.intro (Sp.cell_kept k4 f1) (And.intro (Sp.cell_kept k4 a0) (Sp.cell_kept k4 b0))))
  have HB4 := Lib.hid (HB3.out.trans (k4.mono HB3.out.size))
  gi_upto_region 6 with (fail)
  clear f0 f1 a0 b0 k4 HE HB HB3 HL HW1 HW2
  change Code.wpIn _ _ _ _ _ _ (W3.alloc lsb)
  generalize W3.alloc lsb = W4 at *
  generalize hrb : W3.heap.size = rb at hx3 r0 rz hs4 ⊢
  clear hrb
  have HRZ := Lib.hid (And.intro r0 (And.intro rz hs4))
  obtain ⟨f0, f1, a0, b0⟩ := HE4.out
  clear rz hs4
  gi_wp2_with (gi_at_call 38; ((with_reducible refine (HST.out _ _).mono ?_); rintro _ W6 ⟨rfl, hn6⟩); have HN6 := Lib.hid hn6; clear hn6)
  clear f0 f1 a0 b0 r0
  have h46 : Below W4.heap.size W4 W6 := by rw [HN6.out]; exact Sp.alloc_below _ _
  have hc6 : W6.cell? ⟨W4.heap.size, 0, none⟩ = some (.slice (some ⟨bb, bo, none⟩) n c) := by rw [HN6.out]; simp [World.cell?_alloc_new]
  have hB6 := HB4.out.trans (h46.mono HB4.out.size)
  have hr60 := Sp.cell_kept h46 HRZ.out.1
  have hr6z := Pw.frozen_kept h46 HRZ.out.2.1 HRZ.out.1
  have hrbs : rb < W6.heap.size := by have := HRZ.out.2.2; have := h46.size; omega
  have hxw : w.heap.size ≤ x0 := Nat.le_of_eq HXB.out
  have hI6 : WhI w x0 rb (W6.heap.size + 3) d lo hi (some ⟨bb, bo, none⟩) n c (([] : List (Int × Int)).map fun p : Int × Int => btw p.1 (num l p.1) (slp l p.1) (p.2 + 1) M1 M2) W6 := ⟨Sp.cell_kept h46 HE4.out.1, Sp.cell_kept h46 HE4.out.2.1, Sp.cell_kept h46 HE4.out.2.2.1, Sp.cell_kept h46 HE4.out.2.2.2, hr6z, ⟨_, hr60, RowS.nil _ _⟩, hB6⟩
  clear HN6 HE4 HB4 HRZ HST h46 hr60 hr6z
  refine range_outer2 (α := Int × Int) rfl (enters_of Try.func53 (by kernel_rfl) rfl) (encs := encStr) (fun _ => rfl) (fun i => i = rb ∨ W6.heap.size + 2 < i) (fun i hi => by omega) (strs (l.map Prod.fst))
    (fun W hbW hsW => HSQ.out W6 hB6 W hbW _ (Sp.cell_kept hbW hc6) _ (fun i hi => by rcases hi with (rfl | hi) | rfl <;> omega) _)
    (fun s X => WhI w x0 rb (W6.heap.size + 3) d lo hi (some ⟨bb, bo, none⟩) n c (s.map fun p : Int × Int => btw p.1 (num l p.1) (slp l p.1) (p.2 + 1) M1 M2) X) (fun _ _ => False)
    (fun s X Y h q => h.kp (Kp.of_below q (Nat.le_refl _)) hx3 hxw) (fun _ _ _ h _ => h) (fun s X Y h q => h.kp (Kp.of_turned q (by omega) (by omega)) hx3 hxw) (fun _ _ _ h _ => h) hI6 ?round ?done (fun _ _ h => h.elim)
  case round =>
    intro pre x rest X hx hI hlt
    gi_wp2
    refine ⟨(Oth.refl _ _).alloc _, fun X2 hTn => ?_⟩
    have hmemx : x ∈ strs (l.map Prod.fst) := by rw [hx]; simp
    have HBX0 := Lib.hid (HBT.out x hmemx)
    have hacc := HLEN.out pre rest x hx
    obtain ⟨s, t⟩ := x
    obtain ⟨s0, s1, t1⟩ := HSB.out (s, t) hmemx
    simp only at s0 s1 t1
    have p0 : X2.cell? ⟨X.heap.size, 0, none⟩ = some (.int .i64 s) := hTn.cell (by simp [World.cell?_alloc_new]) (by show X.heap.size ≠ _; omega)
    have p1 : X2.cell? ⟨X.heap.size, 1, none⟩ = some (.int .i64 (t + 1)) := hTn.cell (by simp [World.cell?_alloc_new]) (by show X.heap.size ≠ _; omega)
    have hX2s : X2.heap.size = X.heap.size + 1 := by rw [hTn.size]; simp
    have hkp : Kp rb (W6.heap.size + 3) X X2 := (Kp.of_below (Sp.alloc_below X _) (Nat.le_refl _)).trans (Kp.of_turned hTn (by omega) (by omega))
    have hI2 := hI.kp hkp hx3 hxw
    obtain ⟨v, hvX, hrX⟩ := hI.row
    have hOwn : ∀ i, v.ownBlock = some i → W6.heap.size + 3 ≤ i ∧ i < X.heap.size := fun i hi => World.ownsRow.lt hrX i hi
    have hr2 := RowS.kp hrX hkp
    have hv2 : X2.cell? ⟨rb, 0, none⟩ = some v := (World.cell?_of_block (w := X) (hkp.block rb (World.block_lt_of_cell? X _ hvX) (Or.inl (Nat.le_refl _)))).trans hvX
    have HFM := Lib.hid (show ((pre ++ [(s, t)]).map fun p : Int × Int => btw p.1 (num l p.1) (slp l p.1) (p.2 + 1) M1 M2) = (pre.map fun p : Int × Int => btw p.1 (num l p.1) (slp l p.1) (p.2 + 1) M1 M2) ++ [btw s (num l s) (slp l s) (t + 1) M1 M2] by rw [List.map_append]; rfl)
    have HTV := Lib.hid (HTL.out s ⟨s0, by omega⟩)
    have HBV : Hid (∀ w', Calls Try.prog 39 #[.agg #[.int .i64 s, .int .i64 (num l s), .int .i64 (slp l s)], .int .i64 (t + 1), .int .i64 M1, .int .i64 M2] w' fun r w'' => r = .returned (.agg #[.int .i64 (btw s (num l s) (slp l s) (t + 1) M1 M2).1, .int .i64 (btw s (num l s) (slp l s) (t + 1) M1 M2).2]) ∧ Below w'.heap.size w' w'') := HBX0.out
    generalize (pre.map fun p : Int × Int => btw p.1 (num l p.1) (slp l p.1) (p.2 + 1) M1 M2) = acc at *
    obtain ⟨na, hna⟩ : ∃ na, na = acc.length := ⟨_, rfl⟩
    have HNA := Lib.hid hna
    rw [← hna] at hacc
    obtain ⟨B, hBe⟩ : ∃ B, B = btw s (num l s) (slp l s) (t + 1) M1 M2 := ⟨_, rfl⟩
    rw [← hBe] at HFM HBV
    obtain ⟨B1, B2⟩ := B
    simp only at HBV
    generalize num l s = nls at *
    generalize slp l s = sls at *
    have HI2 := Lib.hid hI2
    have HR2 := Lib.hid hr2
    have HOW := Lib.hid hOwn
    have HV2 := Lib.hid hv2
    have HPO := Lib.hid (show rb < W6.heap.size ∧ W6.heap.size + 1 < X.heap.size ∧ X2.heap.size = X.heap.size + 1 from ⟨hrbs, hlt, hX2s⟩)
    have HBX := Lib.hid hI2.hb
    have f0 := hI2.f0
    have f1 := hI2.f1
    have a0 := hI2.a0
    have b0 := hI2.b0
    obtain ⟨hwm1, hwm2⟩ := HWM.out
    clear hI hI2 hI6 hx hmemx hBe hna hTn hkp hvX hrX hOwn hr2 hv2 HBX0 HSB HBT HLEN HSQ HTL hB6 hc6 HT HNM HWR HWL hlt hX2s
    have hmix : Try.prog.follows .mixedOrders = true := by kernel_rfl
    gi_wp2
    have kc0 : Below X2.heap.size X2 X2.drew := (Below.refl _ X2).drew
    have hS : (fun W => W.cell? ⟨x0, 0, none⟩ = some (.int .i64 d) ∧ W.cell? ⟨x0, 1, none⟩ = some (.slice (some ⟨bb, bo, none⟩) n c) ∧ W.cell? ⟨x0 + 1, 0, none⟩ = some (.int .i64 lo) ∧ W.cell? ⟨x0 + 2, 0, none⟩ = some (.int .i64 hi) ∧ W.cell? ⟨X.heap.size, 0, none⟩ = some (.int .i64 s) ∧ W.cell? ⟨X.heap.size, 1, none⟩ = some (.int .i64 (t + 1))) X2.drew := ⟨f0, f1, a0, b0, p0, p1⟩
    clear f0 f1 a0 b0 p0 p1
    refine region_inRound (S := fun W => W.cell? ⟨x0, 0, none⟩ = some (.int .i64 d) ∧ W.cell? ⟨x0, 1, none⟩ = some (.slice (some ⟨bb, bo, none⟩) n c) ∧ W.cell? ⟨x0 + 1, 0, none⟩ = some (.int .i64 lo) ∧ W.cell? ⟨x0 + 2, 0, none⟩ = some (.int .i64 hi) ∧ W.cell? ⟨X.heap.size, 0, none⟩ = some (.int .i64 s) ∧ W.cell? ⟨X.heap.size, 1, none⟩ = some (.int .i64 (t + 1))) hmix (by kernel_rfl) (fun ⟨_, _, h⟩ => h) hS (fun hHeld => ?_)
    clear hS
    refine wpAnyH_take (i := 1) (v := ?_) rfl (by kernel_rfl) (by kernel_rfl) (by kernel_rfl) (fun _ _ _ h => h) (Or.inl ⟨by rfl, ?_⟩) (by assumption) ?_
    rotate_left
    · intro w hSw; (try dsimp only at hSw); go_simp; (try with_reducible rfl)
    (try simp only [Act.put, List.getElem_toArray, List.getElem_cons_succ, List.getElem_cons_zero, List.setIfInBounds_toArray, List.set_cons_zero, List.set_cons_succ])
    refine wpAnyH_take (i := 2) (v := ?_) rfl (by kernel_rfl) (by kernel_rfl) (by kernel_rfl) (fun _ _ _ h => h) (Or.inl ⟨by rfl, ?_⟩) (by assumption) ?_
    rotate_left
    · intro w hSw; (try dsimp only at hSw); go_simp; (try with_reducible rfl)
    (try simp only [Act.put, List.getElem_toArray, List.getElem_cons_succ, List.getElem_cons_zero, List.setIfInBounds_toArray, List.set_cons_zero, List.set_cons_succ])
    refine wpAnyH_take (i := 3) (v := ?_) rfl (by kernel_rfl) (by kernel_rfl) (by kernel_rfl) (fun _ _ _ h => h) (Or.inl ⟨by rfl, ?_⟩) (by assumption) ?_
    rotate_left
    · intro w hSw; (try dsimp only at hSw); go_simp; (try with_reducible rfl)
    (try simp only [Act.put, List.getElem_toArray, List.getElem_cons_succ, List.getElem_cons_zero, List.setIfInBounds_toArray, List.set_cons_zero, List.set_cons_succ])
    refine wpAnyH_take (i := 5) (v := ?_) rfl (by kernel_rfl) (by kernel_rfl) (by kernel_rfl) (fun _ _ _ h => h) (Or.inl ⟨by rfl, ?_⟩) (by assumption) ?_
    rotate_left
    · intro w hSw; (try dsimp only at hSw); go_simp; (try with_reducible rfl)
    (try simp only [Act.put, List.getElem_toArray, List.getElem_cons_succ, List.getElem_cons_zero, List.setIfInBounds_toArray, List.set_cons_zero, List.set_cons_succ])
    refine wpAnyH_take (i := 6) (v := ?_) rfl (by kernel_rfl) (by kernel_rfl) (by kernel_rfl) (fun _ _ _ h => h) (Or.inl ⟨by rfl, ?_⟩) (by assumption) ?_
    rotate_left
    · intro w hSw; (try dsimp only at hSw); go_simp; (try with_reducible rfl)
    (try simp only [Act.put, List.getElem_toArray, List.getElem_cons_succ, List.getElem_cons_zero, List.setIfInBounds_toArray, List.set_cons_zero, List.set_cons_succ])
    refine wpAnyH_take (i := 7) (v := ?_) rfl (by kernel_rfl) (by kernel_rfl) (by kernel_rfl) (fun _ _ _ h => h) (Or.inl ⟨by rfl, ?_⟩) (by assumption) ?_
    rotate_left
    · intro w hSw; (try dsimp only at hSw); go_simp; (try with_reducible rfl)
    (try simp only [Act.put, List.getElem_toArray, List.getElem_cons_succ, List.getElem_cons_zero, List.setIfInBounds_toArray, List.set_cons_zero, List.set_cons_succ])
    refine wpAnyH_take (i := 8) (v := ?_) rfl (by kernel_rfl) (by kernel_rfl) (by kernel_rfl) (fun _ _ _ h => h) (Or.inl ⟨by rfl, ?_⟩) (by assumption) ?_
    rotate_left
    · intro w hSw; (try dsimp only at hSw); go_simp; (try with_reducible rfl)
    (try simp only [Act.put, List.getElem_toArray, List.getElem_cons_succ, List.getElem_cons_zero, List.setIfInBounds_toArray, List.set_cons_zero, List.set_cons_succ])
    refine wpAnyH_take (i := 9) (v := ?_) rfl (by kernel_rfl) (by kernel_rfl) (by kernel_rfl) (fun _ _ _ h => h) (Or.inl ⟨by rfl, ?_⟩) (by assumption) ?_
    rotate_left
    · intro w hSw; (try dsimp only at hSw); go_simp; (try with_reducible rfl)
    (try simp only [Act.put, List.getElem_toArray, List.getElem_cons_succ, List.getElem_cons_zero, List.setIfInBounds_toArray, List.set_cons_zero, List.set_cons_succ])
    refine wpAnyH_take (i := 10) (v := ?_) rfl (by kernel_rfl) (by kernel_rfl) (by kernel_rfl) (fun _ _ _ h => h) (Or.inl ⟨by rfl, ?_⟩) (by assumption) ?_
    rotate_left
    · intro w hSw; (try dsimp only at hSw); go_simp; (try with_reducible rfl)
    (try simp only [Act.put, List.getElem_toArray, List.getElem_cons_succ, List.getElem_cons_zero, List.setIfInBounds_toArray, List.set_cons_zero, List.set_cons_succ])
    refine wpAnyH_take (i := 11) (v := ?_) rfl (by kernel_rfl) (by kernel_rfl) (by kernel_rfl) (fun _ _ _ h => h) (Or.inl ⟨by rfl, ?_⟩) (by assumption) ?_
    rotate_left
    · intro w hSw; (try dsimp only at hSw); go_simp; (try with_reducible rfl)
    (try simp only [Act.put, List.getElem_toArray, List.getElem_cons_succ, List.getElem_cons_zero, List.setIfInBounds_toArray, List.set_cons_zero, List.set_cons_succ])
    refine wpAnyH_take (i := 12) (v := ?_) rfl (by kernel_rfl) (by kernel_rfl) (by kernel_rfl) (fun _ _ _ h => h) (Or.inl ⟨by rfl, ?_⟩) (by assumption) ?_
    rotate_left
    · intro w hSw; (try dsimp only at hSw); go_simp; (try with_reducible rfl)
    (try simp only [Act.put, List.getElem_toArray, List.getElem_cons_succ, List.getElem_cons_zero, List.setIfInBounds_toArray, List.set_cons_zero, List.set_cons_succ])
    refine wpAnyH_take (i := 13) (v := ?_) rfl (by kernel_rfl) (by kernel_rfl) (by kernel_rfl) (fun _ _ _ h => h) (Or.inl ⟨by rfl, ?_⟩) (by assumption) ?_
    rotate_left
    · intro w hSw; (try dsimp only at hSw); go_simp; (try with_reducible rfl)
    (try simp only [Act.put, List.getElem_toArray, List.getElem_cons_succ, List.getElem_cons_zero, List.setIfInBounds_toArray, List.set_cons_zero, List.set_cons_succ])
    refine wpAnyH_take (i := 14) (v := ?_) rfl (by kernel_rfl) (by kernel_rfl) (by kernel_rfl) (fun _ _ _ h => h) (Or.inl ⟨by rfl, ?_⟩) (by assumption) ?_
    rotate_left
    · intro w hSw; (try dsimp only at hSw); go_simp; (try with_reducible rfl)
    (try simp only [Act.put, List.getElem_toArray, List.getElem_cons_succ, List.getElem_cons_zero, List.setIfInBounds_toArray, List.set_cons_zero, List.set_cons_succ])
    refine wpAnyH_ready (rs := [0, 4]) (by kernel_rfl) (by simp) ?_
    refine AllReadyH.cons rfl (fun K hK => ?_) (AllReadyH.cons rfl (fun K hK => ?_) AllReadyH.nil)
    · have hvk := Sp.cell_kept kc0 HV2.out
      go_simp
      refine hK.out _ _ hHeld (fun hHeld => ?_)
      clear hK K hvk
      (try simp only [Act.put, List.getElem_toArray, List.getElem_cons_succ, List.getElem_cons_zero, List.setIfInBounds_toArray, List.set_cons_zero, List.set_cons_succ])
      refine wpAnyH_ready (rs := [4]) (by kernel_rfl) (by simp) ?_
      refine AllReadyH.cons rfl (fun K hK => ?_) AllReadyH.nil
      go_simp
      refine (HTV.out _ (HBX.out.trans (kc0.mono HBX.out.size))).mono ?_
      rintro _ V1 ⟨rfl, kn1⟩
      have kc1 := kc0.trans (kn1.mono kc0.size)
      refine hK.out _ _ ⟨Sp.cell_kept (kn1) hHeld.1, Sp.cell_kept (kn1) hHeld.2.1, Sp.cell_kept (kn1) hHeld.2.2.1, Sp.cell_kept (kn1) hHeld.2.2.2.1, Sp.cell_kept (kn1) hHeld.2.2.2.2.1, Sp.cell_kept (kn1) hHeld.2.2.2.2.2⟩ (fun hHeld => ?_)
      clear hK K kn1
      (try simp only [Act.put, List.getElem_toArray, List.getElem_cons_succ, List.getElem_cons_zero, List.setIfInBounds_toArray, List.set_cons_zero, List.set_cons_succ])
      refine wpAnyH_ready (rs := [15]) (by kernel_rfl) (by simp) ?_
      refine AllReadyH.cons rfl (fun K hK => ?_) AllReadyH.nil
      go_simp
      refine (HBV.out _).mono ?_
      rintro _ V2 ⟨rfl, kn2⟩
      have kc2 := kc1.trans (kn2.mono kc1.size)
      refine hK.out _ _ ⟨Sp.cell_kept (kn2) hHeld.1, Sp.cell_kept (kn2) hHeld.2.1, Sp.cell_kept (kn2) hHeld.2.2.1, Sp.cell_kept (kn2) hHeld.2.2.2.1, Sp.cell_kept (kn2) hHeld.2.2.2.2.1, Sp.cell_kept (kn2) hHeld.2.2.2.2.2⟩ (fun hHeld => ?_)
      clear hK K kn2
      (try simp only [Act.put, List.getElem_toArray, List.getElem_cons_succ, List.getElem_cons_zero, List.setIfInBounds_toArray, List.set_cons_zero, List.set_cons_succ])
      refine wpAnyH_ready (rs := [16]) (by kernel_rfl) (by simp) ?_
      refine AllReadyH.cons rfl (fun K hK => ?_) AllReadyH.nil
      go_simp
      have HNC := Lib.hid (two_cells (w := V2) (d := B1) (n := B2) rfl)
      have kc3 := kc2.trans ((Sp.alloc_below V2 (.cells #[.int .i64 B1, .int .i64 B2] 50)).mono kc2.size)
      refine hK.out _ _ ⟨Sp.cell_kept ((Sp.alloc_below V2 (.cells #[.int .i64 B1, .int .i64 B2] 50))) hHeld.1, Sp.cell_kept ((Sp.alloc_below V2 (.cells #[.int .i64 B1, .int .i64 B2] 50))) hHeld.2.1, Sp.cell_kept ((Sp.alloc_below V2 (.cells #[.int .i64 B1, .int .i64 B2] 50))) hHeld.2.2.1, Sp.cell_kept ((Sp.alloc_below V2 (.cells #[.int .i64 B1, .int .i64 B2] 50))) hHeld.2.2.2.1, Sp.cell_kept ((Sp.alloc_below V2 (.cells #[.int .i64 B1, .int .i64 B2] 50))) hHeld.2.2.2.2.1, Sp.cell_kept ((Sp.alloc_below V2 (.cells #[.int .i64 B1, .int .i64 B2] 50))) hHeld.2.2.2.2.2⟩ (fun hHeld => ?_)
      clear hK K
      (try simp only [Act.put, List.getElem_toArray, List.getElem_cons_succ, List.getElem_cons_zero, List.setIfInBounds_toArray, List.set_cons_zero, List.set_cons_succ])
      have hrk := HR2.out.below kc3
      have hrow : World.ownsRow (V2.alloc (.cells #[.int .i64 B1, .int .i64 B2] 50)) (W6.heap.size + 3) 50 2 v na (flat acc) := by unfold RowS at hrk; rw [← HNA.out] at hrk; exact hrk
      refine wpAnyH_ready (rs := [17]) (by kernel_rfl) (by simp) ?_
      refine AllReadyH.cons rfl (fun K hK => ?_) AllReadyH.nil
      refine step_append_src (by rfl) (.tmp 25) (.tmp 41) 34 (by rfl) (W6.heap.size + 3) 50 i0 (.agg #[.int .i64 0, .int .i64 0]) 2 16 Try.underS HI0.out.1 HI0.out.2.1 HI0.out.2.2.1 HI0.out.2.2.2 rfl (by decide) _ na (flat acc) (by rfl) hrow _ 1 (flat [(B1, B2)]) (by rfl) (.inr ⟨_, 1, rfl, HNC.out⟩) rfl (flat_cell1 _) (by unfold maxLen; omega) (by omega) (by have := kc3.size; have := HPO.out; omega) ?_
      intro v9 W9 hown hg
      have hrw9 : RowS W9 (W6.heap.size + 3) v9 (acc ++ [(B1, B2)]) := RowS.push (by rw [HNA.out] at hown; exact hown)
      obtain ⟨a9, c9, e9, -⟩ := RowS.spans hrw9
      subst e9
      have hap := WhI.app HI2.out hx3 hxw (by have := HPO.out; omega) kc3 HV2.out hrk hg hrw9 (fun i => i = rb ∨ W6.heap.size + 2 < i) (Or.inl rfl) (fun i hi => Or.inr (by omega))
      rw [List.length_append] at hap
      have HAP := Lib.hid hap
      have bl : ∀ i, i ≤ rb ∨ i = X.heap.size → i < (World.heap (V2.alloc (.cells #[.int .i64 B1, .int .i64 B2] 50)) ).size → W9.heap[i]? = (World.heap (V2.alloc (.cells #[.int .i64 B1, .int .i64 B2] 50)))[i]? := fun i hi hl => hg.block i hl (fun e => by have h1 := HOW.out i e.symm; have h2 := HPO.out; omega)
      have ce : ∀ {p : Addr} {u : Value}, (p.block ≤ rb ∨ p.block = X.heap.size) → World.cell? (V2.alloc (.cells #[.int .i64 B1, .int .i64 B2] 50)) p = some u → W9.cell? p = some u := fun {p u} hp hc => (World.cell?_of_block (bl p.block hp (World.block_lt_of_cell? _ p hc))).trans hc
      have hvk := ce (Or.inl (Nat.le_refl rb)) (Sp.cell_kept kc3 HV2.out)
      have hzk : W9.frozen? ⟨rb, 0, none⟩ = false := (frozen_block (bl rb (Or.inl (Nat.le_refl _)) (World.block_lt_of_cell? _ _ (Sp.cell_kept kc3 HV2.out)))).trans (Pw.frozen_kept kc3 HI2.out.z0 HV2.out)
      refine hK.out _ _ ⟨ce (Or.inl (by show x0 ≤ rb; omega)) hHeld.1, ce (Or.inl (by show x0 ≤ rb; omega)) hHeld.2.1, ce (Or.inl (by show x0 + 1 ≤ rb; omega)) hHeld.2.2.1, ce (Or.inl (by show x0 + 2 ≤ rb; omega)) hHeld.2.2.2.1, ce (Or.inr rfl) hHeld.2.2.2.2.1, ce (Or.inr rfl) hHeld.2.2.2.2.2⟩ (fun hHeld => ?_)
      clear hK K
      (try simp only [Act.put, List.getElem_toArray, List.getElem_cons_succ, List.getElem_cons_zero, List.setIfInBounds_toArray, List.set_cons_zero, List.set_cons_succ])
      refine wpAnyH_ready (rs := [18]) (by kernel_rfl) (by simp) ?_
      refine AllReadyH.cons rfl (fun K hK => ?_) AllReadyH.nil
      go_simp
      refine hK.out _ _ ⟨by rw [World.cell?_setCell_far _ _ _ _ (by show rb ≠ x0; omega)]; exact hHeld.1, by rw [World.cell?_setCell_far _ _ _ _ (by show rb ≠ x0; omega)]; exact hHeld.2.1, by rw [World.cell?_setCell_far _ _ _ _ (by show rb ≠ x0 + 1; omega)]; exact hHeld.2.2.1, by rw [World.cell?_setCell_far _ _ _ _ (by show rb ≠ x0 + 2; omega)]; exact hHeld.2.2.2.1, by rw [World.cell?_setCell_far _ _ _ _ (by show rb ≠ X.heap.size; have := HPO.out; omega)]; exact hHeld.2.2.2.2.1, by rw [World.cell?_setCell_far _ _ _ _ (by show rb ≠ X.heap.size; have := HPO.out; omega)]; exact hHeld.2.2.2.2.2⟩ (fun hHeld => ?_)
      clear hK K
      refine wpAnyH_done (by kernel_rfl) ?_ _
      exact ⟨HAP.out.1, by show WhI _ _ _ _ _ _ _ _ _ _ _ _; rw [HFM.out]; exact HAP.out.2⟩
    · go_simp
      refine (HTV.out _ (HBX.out.trans (kc0.mono HBX.out.size))).mono ?_
      rintro _ V4 ⟨rfl, kn4⟩
      have kc4 := kc0.trans (kn4.mono kc0.size)
      refine hK.out _ _ ⟨Sp.cell_kept (kn4) hHeld.1, Sp.cell_kept (kn4) hHeld.2.1, Sp.cell_kept (kn4) hHeld.2.2.1, Sp.cell_kept (kn4) hHeld.2.2.2.1, Sp.cell_kept (kn4) hHeld.2.2.2.2.1, Sp.cell_kept (kn4) hHeld.2.2.2.2.2⟩ (fun hHeld => ?_)
      clear hK K kn4
      (try simp only [Act.put, List.getElem_toArray, List.getElem_cons_succ, List.getElem_cons_zero, List.setIfInBounds_toArray, List.set_cons_zero, List.set_cons_succ])
      refine wpAnyH_ready (rs := [0, 15]) (by kernel_rfl) (by simp) ?_
      refine AllReadyH.cons rfl (fun K hK => ?_) (AllReadyH.cons rfl (fun K hK => ?_) AllReadyH.nil)
      · have hvk := Sp.cell_kept kc4 HV2.out
        go_simp
        refine hK.out _ _ hHeld (fun hHeld => ?_)
        clear hK K hvk
        (try simp only [Act.put, List.getElem_toArray, List.getElem_cons_succ, List.getElem_cons_zero, List.setIfInBounds_toArray, List.set_cons_zero, List.set_cons_succ])
        refine wpAnyH_ready (rs := [15]) (by kernel_rfl) (by simp) ?_
        refine AllReadyH.cons rfl (fun K hK => ?_) AllReadyH.nil
        go_simp
        refine (HBV.out _).mono ?_
        rintro _ V5 ⟨rfl, kn5⟩
        have kc5 := kc4.trans (kn5.mono kc4.size)
        refine hK.out _ _ ⟨Sp.cell_kept (kn5) hHeld.1, Sp.cell_kept (kn5) hHeld.2.1, Sp.cell_kept (kn5) hHeld.2.2.1, Sp.cell_kept (kn5) hHeld.2.2.2.1, Sp.cell_kept (kn5) hHeld.2.2.2.2.1, Sp.cell_kept (kn5) hHeld.2.2.2.2.2⟩ (fun hHeld => ?_)
        clear hK K kn5
        (try simp only [Act.put, List.getElem_toArray, List.getElem_cons_succ, List.getElem_cons_zero, List.setIfInBounds_toArray, List.set_cons_zero, List.set_cons_succ])
        refine wpAnyH_ready (rs := [16]) (by kernel_rfl) (by simp) ?_
        refine AllReadyH.cons rfl (fun K hK => ?_) AllReadyH.nil
        go_simp
        have HNC := Lib.hid (two_cells (w := V5) (d := B1) (n := B2) rfl)
        have kc6 := kc5.trans ((Sp.alloc_below V5 (.cells #[.int .i64 B1, .int .i64 B2] 50)).mono kc5.size)
        refine hK.out _ _ ⟨Sp.cell_kept ((Sp.alloc_below V5 (.cells #[.int .i64 B1, .int .i64 B2] 50))) hHeld.1, Sp.cell_kept ((Sp.alloc_below V5 (.cells #[.int .i64 B1, .int .i64 B2] 50))) hHeld.2.1, Sp.cell_kept ((Sp.alloc_below V5 (.cells #[.int .i64 B1, .int .i64 B2] 50))) hHeld.2.2.1, Sp.cell_kept ((Sp.alloc_below V5 (.cells #[.int .i64 B1, .int .i64 B2] 50))) hHeld.2.2.2.1, Sp.cell_kept ((Sp.alloc_below V5 (.cells #[.int .i64 B1, .int .i64 B2] 50))) hHeld.2.2.2.2.1, Sp.cell_kept ((Sp.alloc_below V5 (.cells #[.int .i64 B1, .int .i64 B2] 50))) hHeld.2.2.2.2.2⟩ (fun hHeld => ?_)
        clear hK K
        (try simp only [Act.put, List.getElem_toArray, List.getElem_cons_succ, List.getElem_cons_zero, List.setIfInBounds_toArray, List.set_cons_zero, List.set_cons_succ])
        have hrk := HR2.out.below kc6
        have hrow : World.ownsRow (V5.alloc (.cells #[.int .i64 B1, .int .i64 B2] 50)) (W6.heap.size + 3) 50 2 v na (flat acc) := by unfold RowS at hrk; rw [← HNA.out] at hrk; exact hrk
        refine wpAnyH_ready (rs := [17]) (by kernel_rfl) (by simp) ?_
        refine AllReadyH.cons rfl (fun K hK => ?_) AllReadyH.nil
        refine step_append_src (by rfl) (.tmp 25) (.tmp 41) 34 (by rfl) (W6.heap.size + 3) 50 i0 (.agg #[.int .i64 0, .int .i64 0]) 2 16 Try.underS HI0.out.1 HI0.out.2.1 HI0.out.2.2.1 HI0.out.2.2.2 rfl (by decide) _ na (flat acc) (by rfl) hrow _ 1 (flat [(B1, B2)]) (by rfl) (.inr ⟨_, 1, rfl, HNC.out⟩) rfl (flat_cell1 _) (by unfold maxLen; omega) (by omega) (by have := kc6.size; have := HPO.out; omega) ?_
        intro v9 W9 hown hg
        have hrw9 : RowS W9 (W6.heap.size + 3) v9 (acc ++ [(B1, B2)]) := RowS.push (by rw [HNA.out] at hown; exact hown)
        obtain ⟨a9, c9, e9, -⟩ := RowS.spans hrw9
        subst e9
        have hap := WhI.app HI2.out hx3 hxw (by have := HPO.out; omega) kc6 HV2.out hrk hg hrw9 (fun i => i = rb ∨ W6.heap.size + 2 < i) (Or.inl rfl) (fun i hi => Or.inr (by omega))
        rw [List.length_append] at hap
        have HAP := Lib.hid hap
        have bl : ∀ i, i ≤ rb ∨ i = X.heap.size → i < (World.heap (V5.alloc (.cells #[.int .i64 B1, .int .i64 B2] 50)) ).size → W9.heap[i]? = (World.heap (V5.alloc (.cells #[.int .i64 B1, .int .i64 B2] 50)))[i]? := fun i hi hl => hg.block i hl (fun e => by have h1 := HOW.out i e.symm; have h2 := HPO.out; omega)
        have ce : ∀ {p : Addr} {u : Value}, (p.block ≤ rb ∨ p.block = X.heap.size) → World.cell? (V5.alloc (.cells #[.int .i64 B1, .int .i64 B2] 50)) p = some u → W9.cell? p = some u := fun {p u} hp hc => (World.cell?_of_block (bl p.block hp (World.block_lt_of_cell? _ p hc))).trans hc
        have hvk := ce (Or.inl (Nat.le_refl rb)) (Sp.cell_kept kc6 HV2.out)
        have hzk : W9.frozen? ⟨rb, 0, none⟩ = false := (frozen_block (bl rb (Or.inl (Nat.le_refl _)) (World.block_lt_of_cell? _ _ (Sp.cell_kept kc6 HV2.out)))).trans (Pw.frozen_kept kc6 HI2.out.z0 HV2.out)
        refine hK.out _ _ ⟨ce (Or.inl (by show x0 ≤ rb; omega)) hHeld.1, ce (Or.inl (by show x0 ≤ rb; omega)) hHeld.2.1, ce (Or.inl (by show x0 + 1 ≤ rb; omega)) hHeld.2.2.1, ce (Or.inl (by show x0 + 2 ≤ rb; omega)) hHeld.2.2.2.1, ce (Or.inr rfl) hHeld.2.2.2.2.1, ce (Or.inr rfl) hHeld.2.2.2.2.2⟩ (fun hHeld => ?_)
        clear hK K
        (try simp only [Act.put, List.getElem_toArray, List.getElem_cons_succ, List.getElem_cons_zero, List.setIfInBounds_toArray, List.set_cons_zero, List.set_cons_succ])
        refine wpAnyH_ready (rs := [18]) (by kernel_rfl) (by simp) ?_
        refine AllReadyH.cons rfl (fun K hK => ?_) AllReadyH.nil
        go_simp
        refine hK.out _ _ ⟨by rw [World.cell?_setCell_far _ _ _ _ (by show rb ≠ x0; omega)]; exact hHeld.1, by rw [World.cell?_setCell_far _ _ _ _ (by show rb ≠ x0; omega)]; exact hHeld.2.1, by rw [World.cell?_setCell_far _ _ _ _ (by show rb ≠ x0 + 1; omega)]; exact hHeld.2.2.1, by rw [World.cell?_setCell_far _ _ _ _ (by show rb ≠ x0 + 2; omega)]; exact hHeld.2.2.2.1, by rw [World.cell?_setCell_far _ _ _ _ (by show rb ≠ X.heap.size; have := HPO.out; omega)]; exact hHeld.2.2.2.2.1, by rw [World.cell?_setCell_far _ _ _ _ (by show rb ≠ X.heap.size; have := HPO.out; omega)]; exact hHeld.2.2.2.2.2⟩ (fun hHeld => ?_)
        clear hK K
        refine wpAnyH_done (by kernel_rfl) ?_ _
        exact ⟨HAP.out.1, by show WhI _ _ _ _ _ _ _ _ _ _ _ _; rw [HFM.out]; exact HAP.out.2⟩
      · go_simp
        refine (HBV.out _).mono ?_
        rintro _ V7 ⟨rfl, kn7⟩
        have kc7 := kc4.trans (kn7.mono kc4.size)
        refine hK.out _ _ ⟨Sp.cell_kept (kn7) hHeld.1, Sp.cell_kept (kn7) hHeld.2.1, Sp.cell_kept (kn7) hHeld.2.2.1, Sp.cell_kept (kn7) hHeld.2.2.2.1, Sp.cell_kept (kn7) hHeld.2.2.2.2.1, Sp.cell_kept (kn7) hHeld.2.2.2.2.2⟩ (fun hHeld => ?_)
        clear hK K kn7
        (try simp only [Act.put, List.getElem_toArray, List.getElem_cons_succ, List.getElem_cons_zero, List.setIfInBounds_toArray, List.set_cons_zero, List.set_cons_succ])
        refine wpAnyH_ready (rs := [0, 16]) (by kernel_rfl) (by simp) ?_
        refine AllReadyH.cons rfl (fun K hK => ?_) (AllReadyH.cons rfl (fun K hK => ?_) AllReadyH.nil)
        · have hvk := Sp.cell_kept kc7 HV2.out
          go_simp
          refine hK.out _ _ hHeld (fun hHeld => ?_)
          clear hK K hvk
          (try simp only [Act.put, List.getElem_toArray, List.getElem_cons_succ, List.getElem_cons_zero, List.setIfInBounds_toArray, List.set_cons_zero, List.set_cons_succ])
          refine wpAnyH_ready (rs := [16]) (by kernel_rfl) (by simp) ?_
          refine AllReadyH.cons rfl (fun K hK => ?_) AllReadyH.nil
          go_simp
          have HNC := Lib.hid (two_cells (w := V7) (d := B1) (n := B2) rfl)
          have kc8 := kc7.trans ((Sp.alloc_below V7 (.cells #[.int .i64 B1, .int .i64 B2] 50)).mono kc7.size)
          refine hK.out _ _ ⟨Sp.cell_kept ((Sp.alloc_below V7 (.cells #[.int .i64 B1, .int .i64 B2] 50))) hHeld.1, Sp.cell_kept ((Sp.alloc_below V7 (.cells #[.int .i64 B1, .int .i64 B2] 50))) hHeld.2.1, Sp.cell_kept ((Sp.alloc_below V7 (.cells #[.int .i64 B1, .int .i64 B2] 50))) hHeld.2.2.1, Sp.cell_kept ((Sp.alloc_below V7 (.cells #[.int .i64 B1, .int .i64 B2] 50))) hHeld.2.2.2.1, Sp.cell_kept ((Sp.alloc_below V7 (.cells #[.int .i64 B1, .int .i64 B2] 50))) hHeld.2.2.2.2.1, Sp.cell_kept ((Sp.alloc_below V7 (.cells #[.int .i64 B1, .int .i64 B2] 50))) hHeld.2.2.2.2.2⟩ (fun hHeld => ?_)
          clear hK K
          (try simp only [Act.put, List.getElem_toArray, List.getElem_cons_succ, List.getElem_cons_zero, List.setIfInBounds_toArray, List.set_cons_zero, List.set_cons_succ])
          have hrk := HR2.out.below kc8
          have hrow : World.ownsRow (V7.alloc (.cells #[.int .i64 B1, .int .i64 B2] 50)) (W6.heap.size + 3) 50 2 v na (flat acc) := by unfold RowS at hrk; rw [← HNA.out] at hrk; exact hrk
          refine wpAnyH_ready (rs := [17]) (by kernel_rfl) (by simp) ?_
          refine AllReadyH.cons rfl (fun K hK => ?_) AllReadyH.nil
          refine step_append_src (by rfl) (.tmp 25) (.tmp 41) 34 (by rfl) (W6.heap.size + 3) 50 i0 (.agg #[.int .i64 0, .int .i64 0]) 2 16 Try.underS HI0.out.1 HI0.out.2.1 HI0.out.2.2.1 HI0.out.2.2.2 rfl (by decide) _ na (flat acc) (by rfl) hrow _ 1 (flat [(B1, B2)]) (by rfl) (.inr ⟨_, 1, rfl, HNC.out⟩) rfl (flat_cell1 _) (by unfold maxLen; omega) (by omega) (by have := kc8.size; have := HPO.out; omega) ?_
          intro v9 W9 hown hg
          have hrw9 : RowS W9 (W6.heap.size + 3) v9 (acc ++ [(B1, B2)]) := RowS.push (by rw [HNA.out] at hown; exact hown)
          obtain ⟨a9, c9, e9, -⟩ := RowS.spans hrw9
          subst e9
          have hap := WhI.app HI2.out hx3 hxw (by have := HPO.out; omega) kc8 HV2.out hrk hg hrw9 (fun i => i = rb ∨ W6.heap.size + 2 < i) (Or.inl rfl) (fun i hi => Or.inr (by omega))
          rw [List.length_append] at hap
          have HAP := Lib.hid hap
          have bl : ∀ i, i ≤ rb ∨ i = X.heap.size → i < (World.heap (V7.alloc (.cells #[.int .i64 B1, .int .i64 B2] 50)) ).size → W9.heap[i]? = (World.heap (V7.alloc (.cells #[.int .i64 B1, .int .i64 B2] 50)))[i]? := fun i hi hl => hg.block i hl (fun e => by have h1 := HOW.out i e.symm; have h2 := HPO.out; omega)
          have ce : ∀ {p : Addr} {u : Value}, (p.block ≤ rb ∨ p.block = X.heap.size) → World.cell? (V7.alloc (.cells #[.int .i64 B1, .int .i64 B2] 50)) p = some u → W9.cell? p = some u := fun {p u} hp hc => (World.cell?_of_block (bl p.block hp (World.block_lt_of_cell? _ p hc))).trans hc
          have hvk := ce (Or.inl (Nat.le_refl rb)) (Sp.cell_kept kc8 HV2.out)
          have hzk : W9.frozen? ⟨rb, 0, none⟩ = false := (frozen_block (bl rb (Or.inl (Nat.le_refl _)) (World.block_lt_of_cell? _ _ (Sp.cell_kept kc8 HV2.out)))).trans (Pw.frozen_kept kc8 HI2.out.z0 HV2.out)
          refine hK.out _ _ ⟨ce (Or.inl (by show x0 ≤ rb; omega)) hHeld.1, ce (Or.inl (by show x0 ≤ rb; omega)) hHeld.2.1, ce (Or.inl (by show x0 + 1 ≤ rb; omega)) hHeld.2.2.1, ce (Or.inl (by show x0 + 2 ≤ rb; omega)) hHeld.2.2.2.1, ce (Or.inr rfl) hHeld.2.2.2.2.1, ce (Or.inr rfl) hHeld.2.2.2.2.2⟩ (fun hHeld => ?_)
          clear hK K
          (try simp only [Act.put, List.getElem_toArray, List.getElem_cons_succ, List.getElem_cons_zero, List.setIfInBounds_toArray, List.set_cons_zero, List.set_cons_succ])
          refine wpAnyH_ready (rs := [18]) (by kernel_rfl) (by simp) ?_
          refine AllReadyH.cons rfl (fun K hK => ?_) AllReadyH.nil
          go_simp
          refine hK.out _ _ ⟨by rw [World.cell?_setCell_far _ _ _ _ (by show rb ≠ x0; omega)]; exact hHeld.1, by rw [World.cell?_setCell_far _ _ _ _ (by show rb ≠ x0; omega)]; exact hHeld.2.1, by rw [World.cell?_setCell_far _ _ _ _ (by show rb ≠ x0 + 1; omega)]; exact hHeld.2.2.1, by rw [World.cell?_setCell_far _ _ _ _ (by show rb ≠ x0 + 2; omega)]; exact hHeld.2.2.2.1, by rw [World.cell?_setCell_far _ _ _ _ (by show rb ≠ X.heap.size; have := HPO.out; omega)]; exact hHeld.2.2.2.2.1, by rw [World.cell?_setCell_far _ _ _ _ (by show rb ≠ X.heap.size; have := HPO.out; omega)]; exact hHeld.2.2.2.2.2⟩ (fun hHeld => ?_)
          clear hK K
          refine wpAnyH_done (by kernel_rfl) ?_ _
          exact ⟨HAP.out.1, by show WhI _ _ _ _ _ _ _ _ _ _ _ _; rw [HFM.out]; exact HAP.out.2⟩
        · go_simp
          have HNC := Lib.hid (two_cells (w := V7) (d := B1) (n := B2) rfl)
          have kc9 := kc7.trans ((Sp.alloc_below V7 (.cells #[.int .i64 B1, .int .i64 B2] 50)).mono kc7.size)
          refine hK.out _ _ ⟨Sp.cell_kept ((Sp.alloc_below V7 (.cells #[.int .i64 B1, .int .i64 B2] 50))) hHeld.1, Sp.cell_kept ((Sp.alloc_below V7 (.cells #[.int .i64 B1, .int .i64 B2] 50))) hHeld.2.1, Sp.cell_kept ((Sp.alloc_below V7 (.cells #[.int .i64 B1, .int .i64 B2] 50))) hHeld.2.2.1, Sp.cell_kept ((Sp.alloc_below V7 (.cells #[.int .i64 B1, .int .i64 B2] 50))) hHeld.2.2.2.1, Sp.cell_kept ((Sp.alloc_below V7 (.cells #[.int .i64 B1, .int .i64 B2] 50))) hHeld.2.2.2.2.1, Sp.cell_kept ((Sp.alloc_below V7 (.cells #[.int .i64 B1, .int .i64 B2] 50))) hHeld.2.2.2.2.2⟩ (fun hHeld => ?_)
          clear hK K
          (try simp only [Act.put, List.getElem_toArray, List.getElem_cons_succ, List.getElem_cons_zero, List.setIfInBounds_toArray, List.set_cons_zero, List.set_cons_succ])
          refine wpAnyH_ready (rs := [0]) (by kernel_rfl) (by simp) ?_
          refine AllReadyH.cons rfl (fun K hK => ?_) AllReadyH.nil
          have hvk := Sp.cell_kept kc9 HV2.out
          go_simp
          refine hK.out _ _ hHeld (fun hHeld => ?_)
          clear hK K hvk
          (try simp only [Act.put, List.getElem_toArray, List.getElem_cons_succ, List.getElem_cons_zero, List.setIfInBounds_toArray, List.set_cons_zero, List.set_cons_succ])
          have hrk := HR2.out.below kc9
          have hrow : World.ownsRow (V7.alloc (.cells #[.int .i64 B1, .int .i64 B2] 50)) (W6.heap.size + 3) 50 2 v na (flat acc) := by unfold RowS at hrk; rw [← HNA.out] at hrk; exact hrk
          refine wpAnyH_ready (rs := [17]) (by kernel_rfl) (by simp) ?_
          refine AllReadyH.cons rfl (fun K hK => ?_) AllReadyH.nil
          refine step_append_src (by rfl) (.tmp 25) (.tmp 41) 34 (by rfl) (W6.heap.size + 3) 50 i0 (.agg #[.int .i64 0, .int .i64 0]) 2 16 Try.underS HI0.out.1 HI0.out.2.1 HI0.out.2.2.1 HI0.out.2.2.2 rfl (by decide) _ na (flat acc) (by rfl) hrow _ 1 (flat [(B1, B2)]) (by rfl) (.inr ⟨_, 1, rfl, HNC.out⟩) rfl (flat_cell1 _) (by unfold maxLen; omega) (by omega) (by have := kc9.size; have := HPO.out; omega) ?_
          intro v9 W9 hown hg
          have hrw9 : RowS W9 (W6.heap.size + 3) v9 (acc ++ [(B1, B2)]) := RowS.push (by rw [HNA.out] at hown; exact hown)
          obtain ⟨a9, c9, e9, -⟩ := RowS.spans hrw9
          subst e9
          have hap := WhI.app HI2.out hx3 hxw (by have := HPO.out; omega) kc9 HV2.out hrk hg hrw9 (fun i => i = rb ∨ W6.heap.size + 2 < i) (Or.inl rfl) (fun i hi => Or.inr (by omega))
          rw [List.length_append] at hap
          have HAP := Lib.hid hap
          have bl : ∀ i, i ≤ rb ∨ i = X.heap.size → i < (World.heap (V7.alloc (.cells #[.int .i64 B1, .int .i64 B2] 50)) ).size → W9.heap[i]? = (World.heap (V7.alloc (.cells #[.int .i64 B1, .int .i64 B2] 50)))[i]? := fun i hi hl => hg.block i hl (fun e => by have h1 := HOW.out i e.symm; have h2 := HPO.out; omega)
          have ce : ∀ {p : Addr} {u : Value}, (p.block ≤ rb ∨ p.block = X.heap.size) → World.cell? (V7.alloc (.cells #[.int .i64 B1, .int .i64 B2] 50)) p = some u → W9.cell? p = some u := fun {p u} hp hc => (World.cell?_of_block (bl p.block hp (World.block_lt_of_cell? _ p hc))).trans hc
          have hvk := ce (Or.inl (Nat.le_refl rb)) (Sp.cell_kept kc9 HV2.out)
          have hzk : W9.frozen? ⟨rb, 0, none⟩ = false := (frozen_block (bl rb (Or.inl (Nat.le_refl _)) (World.block_lt_of_cell? _ _ (Sp.cell_kept kc9 HV2.out)))).trans (Pw.frozen_kept kc9 HI2.out.z0 HV2.out)
          refine hK.out _ _ ⟨ce (Or.inl (by show x0 ≤ rb; omega)) hHeld.1, ce (Or.inl (by show x0 ≤ rb; omega)) hHeld.2.1, ce (Or.inl (by show x0 + 1 ≤ rb; omega)) hHeld.2.2.1, ce (Or.inl (by show x0 + 2 ≤ rb; omega)) hHeld.2.2.2.1, ce (Or.inr rfl) hHeld.2.2.2.2.1, ce (Or.inr rfl) hHeld.2.2.2.2.2⟩ (fun hHeld => ?_)
          clear hK K
          (try simp only [Act.put, List.getElem_toArray, List.getElem_cons_succ, List.getElem_cons_zero, List.setIfInBounds_toArray, List.set_cons_zero, List.set_cons_succ])
          refine wpAnyH_ready (rs := [18]) (by kernel_rfl) (by simp) ?_
          refine AllReadyH.cons rfl (fun K hK => ?_) AllReadyH.nil
          go_simp
          refine hK.out _ _ ⟨by rw [World.cell?_setCell_far _ _ _ _ (by show rb ≠ x0; omega)]; exact hHeld.1, by rw [World.cell?_setCell_far _ _ _ _ (by show rb ≠ x0; omega)]; exact hHeld.2.1, by rw [World.cell?_setCell_far _ _ _ _ (by show rb ≠ x0 + 1; omega)]; exact hHeld.2.2.1, by rw [World.cell?_setCell_far _ _ _ _ (by show rb ≠ x0 + 2; omega)]; exact hHeld.2.2.2.1, by rw [World.cell?_setCell_far _ _ _ _ (by show rb ≠ X.heap.size; have := HPO.out; omega)]; exact hHeld.2.2.2.2.1, by rw [World.cell?_setCell_far _ _ _ _ (by show rb ≠ X.heap.size; have := HPO.out; omega)]; exact hHeld.2.2.2.2.2⟩ (fun hHeld => ?_)
          clear hK K
          refine wpAnyH_done (by kernel_rfl) ?_ _
          exact ⟨HAP.out.1, by show WhI _ _ _ _ _ _ _ _ _ _ _ _; rw [HFM.out]; exact HAP.out.2⟩
  case done =>
    intro Y hI hlt hK
    obtain ⟨v, hv, hrow⟩ := hI.row
    rw [← HWR.out] at hrow
    have hWl := HWL.out
    have HT2 := HT
    obtain ⟨W, hWe⟩ : ∃ W, W = whr l M1 M2 := ⟨_, rfl⟩
    rw [← hWe] at hrow hWl HT2
    obtain ⟨av, cv, rfl, hsp⟩ := hrow.spans
    have HNV := Lib.hid (fun m => HNM.out m av cv W Y (by omega) hsp)
    obtain ⟨nW, hnW⟩ : ∃ nW, nW = W.length := ⟨_, rfl⟩
    rw [← hnW] at hv HNV
    clear hnW
    have HHB := Lib.hid hI.hb
    have HKD := Lib.hid hK
    have hDs : w.heap.size ≤ W6.heap.size := hB6.size
    clear hI hI6 hrow hWl hWe hsp hK HSB HBT HLEN HSQ HTL hc6 HT HNM HWR HWL
    gi_wp2_with (gi_at_call 41; ((with_reducible refine (HNV.out _).mono ?_); rintro _ Y2 ⟨a9, c9, rfl, hs9, hb9⟩); have HS9 := Lib.hid (And.intro hs9 hb9); clear hs9 hb9)
    have hK2 : Y2.heap[W6.heap.size]? = some (.deferred (some [])) := (HS9.out.2.block _ (Array.getElem?_eq_some_iff.1 HKD.out).1).trans HKD.out
    refine ⟨by simp, .inl ⟨_, _, rfl, run_takeDeferred hK2, ?_⟩⟩
    have hTu := Turned.putObj W6.heap.size Y2 (.deferred none)
    have hBZ := (HHB.out.trans (HS9.out.2.mono HHB.out.size)).trans (hTu.below (B := w.heap.size) hDs)
    have HBZ := Lib.hid hBZ
    refine ⟨_, (by simp [results, Try.results15, go_sem]; first | rfl | exact ⟨rfl, rfl⟩), ?_⟩
    exact ⟨a9, c9, by rw [HT2.out], by rw [HT2.out]; exact spans_turned HS9.out.1 hTu hK2, HBZ.out⟩
theorem pwhere_any (d lo hi : Int) (a : Option Addr) (c : Nat) (l : List Pc) (w : World) (z : PcsAt a l w) :
    Calls Try.prog 15 #[fv d a l.length c, .int .i64 lo, .int .i64 hi] w (WhPost w (whT d l lo hi)) := by
  by_cases h : vdB d l = true ∧ rin lo ∧ rin hi
  · exact pwhere_in d lo hi a c l w z h.1 h.2.1 h.2.2
  · exact pwhere_out d lo hi a c l w z h
end Go.Proofs.Ytdoojpilogcnjaa.Pw
