/- The law PiecewiseSums: rows of [3]int, the mathematics, the walk. Conditions: the numbers are Go's ints; the lists lie in memory as the arguments say. -/
import Derived.Test.YtdoojpilogcnjaaPwArgs
import Derived.Test.YtdoojpilogcnjaaPwOwn14
import Derived.Test.YtdoojpilogcnjaaPwHead
import Derived.Test.YtdoojpilogcnjaaPwOpen
import Derived.Test.YtdoojpilogcnjaaPwOpen
set_option linter.unusedVariables false
set_option linter.unusedSimpArgs false
namespace Go.Proofs.Ytdoojpilogcnjaa.Pw
open Go.RowKit Go.Proofs.Ytdoojpilogcnjaa.Sp
/-- Rows of [3]int that the call itself made. -/
def RowA (w : World) (base : Nat) (v : Value) (l : List Pc) : Prop := w.ownsRow base 56 3 v l.length (flatP l)
theorem RowA.below {w w' : World} {base : Nat} {v : Value} {l : List Pc} (h : RowA w base v l) (k : Below w.heap.size w w') : RowA w' base v l := by
  refine ⟨h.1, ?_⟩
  rcases h.2 with hn | ⟨g, cap, cur, hv, hb, hg, rest⟩
  · exact .inl hn
  · exact .inr ⟨g, cap, cur, hv, hb, (k.block g (Array.getElem?_eq_some_iff.1 hg).1).trans hg, rest⟩
theorem RowA.app {w : World} {base n m : Nat} {v : Value} {l r : List Pc} (hn : n = l.length) (hm : m = r.length) (h : w.ownsRow base 56 3 v (n + m) (flatP l ++ flatP r)) : RowA w base v (l ++ r) := by
  subst hn; subst hm
  unfold RowA
  rw [List.length_append, flatP_append]
  exact h
theorem RowA.pcs {w : World} {base : Nat} {v : Value} {l : List Pc} (h : RowA w base v l) : ∃ a cap, v = .slice a l.length cap ∧ PcsAt a l w ∧ l.length ≤ cap ∧ (a = none → cap = 0) := by
  rcases h.2 with ⟨hv, hn⟩ | ⟨g, cap, cur, hv, hb, hg, hc, rest⟩
  · refine ⟨none, 0, by rw [hv, hn], fun i x hx => ?_, by omega, fun _ => rfl⟩
    rw [List.eq_nil_of_length_eq_zero hn] at hx
    simp at hx
  · refine ⟨some ⟨g, 0, none⟩, cap, hv, fun i x hx => ⟨g, 0, rfl, ?_⟩, hc, (fun e => by cases e)⟩
    subst hv
    obtain ⟨e1, e2, e3⟩ := flatP_get l i x hx
    have c1 := World.ownsRow.cells h (g := g) rfl (i * 3) _ e1
    have c2 := World.ownsRow.cells h (g := g) rfl (i * 3 + 1) _ e2
    have c3 := World.ownsRow.cells h (g := g) rfl (i * 3 + 2) _ e3
    have e : ∀ j, (⟨g, 0, none⟩ : Addr).add j = ⟨g, 0 + j, none⟩ := fun j => by unfold Addr.add; split <;> simp_all
    rw [e] at c1 c2 c3
    exact ⟨c1, c2, c3⟩
theorem step_append_src {P : Program} {w : World} {ops : Array Oper} {o : Oper} {a : Act} {K : Act → World → Prop} {Q : Exit → Act → World → Prop} {E : Prop} (hgd : o.guard = none) (s x : Operand) (t : TypeId)
    (ho : o.op = .call { callee := .builtin .append, args := #[s, x], argTypes := #[t, t] })
    (base : Nat) (e : TypeId) (i : TypeInfo) (z : Value) (size bytes : Nat) (ht : P.underlying t = some (.slice e)) (hi : P.info? e = some i) (hz : i.zero = some z)
    (hsize : i.size = size) (hby : i.bytes = bytes) (hzs : z.cells.size = size) (hsz : 0 < size)
    (v : Value) (n : Nat) (xs : List Value) (hs : a.eval s = v) (hown : w.ownsRow base e size v n xs)
    (u : Value) (m : Nat) (news : List Value) (hx : a.eval x = u) (hsrc : SrcAt w u m news) (hl : news.length = m * size) (h1 : ∀ u ∈ news, u.oneCell' = true)
    (h63 : n + m ≤ maxLen) (hbytes : (n + m) * bytes ≤ 140737488355328) (hbase : base ≤ w.heap.size)
    (h : ∀ v' w', w'.ownsRow base e size v' (n + m) (xs ++ news) → w.grownBy w' v.ownBlock → K (a.put o.dst v') w') :
    if Region.wanted o (yielded ops a.tmps) = true then Oper.wp P o a w K Q else E := by
  rcases hsrc with ⟨hu, rfl, rfl⟩ | ⟨ad, c, hu, hc⟩
  · have hw : Region.wanted o (yielded ops a.tmps) = true := by simp [Region.wanted, hgd]
    rw [if_pos hw]
    have hrun := run_append_owned_none (P := P) (w := w) base t o.type e i size ht hi v n xs hown
    have hx' : a.eval x = .slice none 0 0 := hx.trans hu
    unfold Oper.wp execOp
    simp only [ho, resolve, invoke, builtin, Sem.run_bind, Sem.run_pure, Result.andThen_ok, List.map_toArray, List.map_cons, List.map_nil, hs, hx', hrun]
    exact h v w (by rw [List.append_nil]; exact hown) ⟨rfl, rfl, rfl, Nat.le_refl _, fun _ _ _ => rfl⟩
  · exact step_append_at hgd s x t ho base e i z size bytes ht hi hz hsize hby hzs hsz v n xs hs hown ad m c news (hx.trans hu) hl hc h1 h63 hbytes hbase (fun v' w' g1 g2 _ => h v' w' g1 g2)
theorem cmb_pos {D : Int} {F G M : List Pc} (hF : vdB D F = true) (hG : vdB D G = true) (hM : M.length ≤ 64) : cmbT D D F G M = if vdB D M = true then (D, M, 0) else (0, [], 3) := by
  have h : wrg D D F G = 0 := by unfold wrg; rw [if_pos ⟨hF, hG⟩, if_pos rfl]
  unfold cmbT
  rw [h, if_neg (fun q => q rfl), if_neg (by omega)]
theorem Fine.vd' {L : List Pc} (h : Fine L) {D : Int} (h1 : 1 ≤ D) (h2 : D ≤ 1000) : vdB D L = true := by
  unfold vdB
  rw [Bool.and_eq_true, decide_eq_true_eq, okB_iff]
  exact ⟨⟨h1, by omega, by have := h.len; omega⟩, h.ok⟩
/-- The function's box and pieces. -/
structure SlF (x0 : Nat) (D : Int) (a : Option Addr) (L : List Pc) (m c : Nat) (W : World) : Prop where
  f0 : W.cell? ⟨x0, 0, none⟩ = some (.int .i64 D)
  f1 : W.cell? ⟨x0, 1, none⟩ = some (.slice a m c)
  p : PcsAt a L W
theorem SlF.below {x0 : Nat} {D : Int} {a : Option Addr} {L : List Pc} {m c : Nat} {W W' : World} (h : SlF x0 D a L m c W) (k : Below W.heap.size W W') : SlF x0 D a L m c W' := ⟨Sp.cell_kept k h.f0, Sp.cell_kept k h.f1, h.p.below k⟩
theorem slf_new {W : World} {D : Int} {a : Option Addr} {L : List Pc} {c : Nat} (hp : PcsAt a L W) : SlF W.heap.size D a L L.length c (W.alloc (fb D a L.length c)) :=
  ⟨(fb_cells_m W D a L.length c).1, (fb_cells_m W D a L.length c).2.1, hp.below (Sp.alloc_below W _)⟩
theorem PcsAt.take {a : Option Addr} {l : List Pc} {w : World} (h : PcsAt a l w) (n : Nat) : PcsAt a (l.take n) w := fun i x hx => by
  refine h i x ?_
  rw [List.getElem?_take] at hx
  split at hx
  · exact hx
  · cases hx
theorem Fine.num {L : List Pc} (h : Fine L) {x : Int} (h0 : 0 ≤ x) (h1 : x ≤ 1000000000000) : -2001000000000000 ≤ num L x ∧ num L x ≤ 2001000000000000 := by
  obtain ⟨a, b, -⟩ := pick_spec h.ok h0
  have c := from_nonneg h.ok a
  obtain ⟨d1, d2⟩ := h.at_ _ a
  obtain ⟨e1, e2⟩ := h.sl _ a
  unfold Pw.num
  have k0 : 0 ≤ x - (pick L x).1 := by omega
  have k1 : x - (pick L x).1 ≤ 1000000000000 := by omega
  obtain ⟨v, hv⟩ : ∃ v, v = x - (pick L x).1 := ⟨_, rfl⟩
  obtain ⟨u, hu⟩ : ∃ u, u = (pick L x).2.2 := ⟨_, rfl⟩
  rw [← hv, ← hu]
  rw [← hv] at k0 k1
  rw [← hu] at e1 e2
  have m1 : u * v ≤ 2000 * v := Int.mul_le_mul_of_nonneg_right e2 k0
  have m2 : -2000 * v ≤ u * v := Int.mul_le_mul_of_nonneg_right e1 k0
  omega
theorem Fine.add {L R : List Pc} (h : Fine L) (k : Fine R) {D : Int} (h1 : 1 ≤ D) (h2 : D ≤ 1000) : vdB D (Pw.add L R) = true ∧ (Pw.add L R).length ≤ 60 := by
  have hlen : (Pw.add L R).length ≤ 60 := by
    have := starts_len L R
    have := h.len
    have := k.len
    unfold Pw.add; rw [List.length_map]; omega
  refine ⟨?_, hlen⟩
  have hst : ∀ s ∈ starts L R, 0 ≤ s ∧ s ≤ 1000000000000 := fun s hs => by
    rcases (starts_mem L R s).1 hs with ⟨p, hp, rfl⟩ | ⟨p, hp, rfl⟩
    · exact ⟨from_nonneg h.ok hp, h.ok.top p hp⟩
    · exact ⟨from_nonneg k.ok hp, k.ok.top p hp⟩
  unfold vdB
  rw [Bool.and_eq_true, decide_eq_true_eq, okB_iff]
  refine ⟨⟨h1, by omega, by omega⟩, add_inc h.ok.inc k.ok.inc, add_zero h.ok k.ok, fun p hp => ?_, fun p hp => ?_, fun p hp => ?_⟩
  · obtain ⟨s, hs, rfl⟩ := List.mem_map.1 hp
    exact (hst s hs).2
  · obtain ⟨s, hs, rfl⟩ := List.mem_map.1 hp
    obtain ⟨a, b⟩ := hst s hs
    have u1 := h.num a b
    have u2 := k.num a b
    show -1000000000000000000 ≤ Pw.num L s + Pw.num R s ∧ Pw.num L s + Pw.num R s ≤ 1000000000000000000
    omega
  · obtain ⟨s, hs, rfl⟩ := List.mem_map.1 hp
    obtain ⟨a, b⟩ := hst s hs
    have u1 := h.sl _ (pick_spec h.ok a).1
    have u2 := k.sl _ (pick_spec k.ok a).1
    show -1000000 ≤ (pick L s).2.2 + (pick R s).2.2 ∧ (pick L s).2.2 + (pick R s).2.2 ≤ 1000000
    omega
theorem cmb_zero {d e : Int} {l r m : List Pc} {D : Int} {L : List Pc} {E : Int} (h : cmbT d e l r m = (D, L, E)) (hE : E = 0) : D = d ∧ L = m ∧ vdB d m = true := by
  subst hE
  unfold cmbT at h
  split at h
  · rename_i q; injection h with h1 h2; injection h2 with h3 h4; exact absurd h4 q
  · split at h
    · injection h with h1 h2; injection h2 with h3 h4; exact absurd h4 (by decide)
    · split at h
      · rename_i q; injection h with h1 h2; injection h2 with h3 h4; exact ⟨h1.symm, h3.symm, q⟩
      · injection h with h1 h2; injection h2 with h3 h4; exact absurd h4 (by decide)
theorem sums_three {F G H M Lg Lu Lv : List Pc} {C : Int} (hF : Ok F) (hG : Ok G) (hH : Ok H) (hM : M = add F G) (oM : Ok M) (hg : Lg = add G H) (og : Ok Lg) (hu : Lu = add M H) (ou : Ok Lu) (hv : Lv = add F Lg) (ov : Ok Lv) (h0 : 0 ≤ C) : num Lu C = num Lv C := by
  subst hu; subst hv
  rw [add_num oM hH ou h0, add_num hF og ov h0]
  subst hM; subst hg
  rw [add_num hF hG oM h0, add_num hG hH og h0, Int.add_assoc]
theorem Try.infoA : (Try.prog.info? 56).map (fun i => (i.zero, i.size, i.bytes)) = some (some (.agg #[.int .i64 0, .int .i64 0, .int .i64 0]), 3, 24) := by kernel_rfl
theorem PcsAt.src' {a : Option Addr} {c n : Nat} {l : List Pc} {w : World} (h : PcsAt a l w) (hn : n = l.length) (hc : a = none → c = 0) : SrcAt w (.slice a n c) n (flatP l) := by
  subst hn
  refine PcsAt.src h (fun e => ⟨hc e, ?_⟩)
  cases l with
  | nil => rfl
  | cons p t => obtain ⟨b, o, e2, -⟩ := h 0 p rfl; rw [e] at e2; cases e2
theorem pcs_far {W : World} {x : Nat} {u v y y' : Value} {t : TypeId} {fr : Nat × Nat} {a : Option Addr} {L : List Pc} (hb : W.heap[x]? = some (.cells #[u, v] t fr)) (h : PcsAt a L W) : PcsAt a L ((W.setCell ⟨x, 0, none⟩ y).setCell ⟨x, 1, none⟩ y') := fun i p hp => by
  obtain ⟨b, off, e, c0, c1, c2⟩ := h i p hp
  have hne : b ≠ x := fun q => by
    subst q
    have hz : W.cell? ⟨b, off + i * 3 + 2, none⟩ = none := by simp [World.cell?, hb]
    rw [hz] at c2; cases c2
  have far : ∀ k, ((W.setCell ⟨x, 0, none⟩ y).setCell ⟨x, 1, none⟩ y').cell? ⟨b, k, none⟩ = W.cell? ⟨b, k, none⟩ := fun k => by
    rw [World.cell?_setCell_other _ _ _ _ (fun q => hne (by injection q with q1; exact q1.symm)), World.cell?_setCell_other _ _ _ _ (fun q => hne (by injection q with q1; exact q1.symm))]
  exact ⟨b, off, e, by rw [far]; exact c0, by rw [far]; exact c1, by rw [far]; exact c2⟩
theorem make_row (i : TypeInfo) (hi : Try.prog.info? 56 = some i) (hz : i.zero = some (.agg #[.int .i64 0, .int .i64 0, .int .i64 0])) (hs : i.size = 3) (hb : i.bytes = 24) :
    ∃ ZA : Array Value, ZA.size = 12 ∧ ∀ W, (Instr.makeSlice 25 (.int .i64 0) (.int .i64 4)).run Try.prog W = .ok (.slice (some ⟨W.heap.size, 0, none⟩) 0 4) (W.alloc (.cells ZA 56)) :=
  ⟨madeCells (Value.agg #[.int .i64 0, .int .i64 0, .int .i64 0]).cells 12, size_madeCells _ _, fun W => by
    have h := run_makeSlice (w := W) 25 56 i _ Try.underRows hi hz .i64 .i64 0 4 (by decide) (by decide) (by rw [hs]; decide) (by rw [hb]; decide) (by decide)
    rw [hs] at h
    exact h⟩
/-- The fresh box of the third function. -/
def Bx (Wg : World) (x : Nat) (W : World) : Prop := Wg.heap.size ≤ x ∧ W.heap[x]? = some (.cells #[.int .i64 0, .slice none 0 0] 24)
theorem Bx.new {Wg W : World} (h : Wg.heap.size ≤ W.heap.size) : Bx Wg W.heap.size (W.alloc (.cells #[.int .i64 0, .slice none 0 0] 24)) := ⟨h, heap_alloc_new W _⟩
theorem Bx.lt {Wg W : World} {x : Nat} (h : Bx Wg x W) : x < W.heap.size := (Array.getElem?_eq_some_iff.1 h.2).1
theorem Bx.below {Wg W W' : World} {x : Nat} (h : Bx Wg x W) (k : Below W.heap.size W W') : Bx Wg x W' := ⟨h.1, (k.block x h.lt).trans h.2⟩
theorem Bx.grown {Wg W W' : World} {x base : Nat} {v : Value} {l : List Pc} (h : Bx Wg x W) (hr : RowA W base v l) (g : W.grownBy W' v.ownBlock) : Bx Wg x W' := by
  refine ⟨h.1, (g.block x h.lt (fun q => ?_)).trans h.2⟩
  rcases hr.2 with ⟨hv, -⟩ | ⟨b, cap, cur, hv, -, hb, -⟩
  · rw [hv] at q; cases q
  · rw [hv] at q
    injection q with q
    have q' : x = b := q
    subst q'
    rw [h.2] at hb
    injection hb with hb
    injection hb with _ ht _
    exact absurd ht (by decide)
theorem Bx.c0 {Wg W : World} {x : Nat} (h : Bx Wg x W) : W.cell? ⟨x, 0, none⟩ = some (.int .i64 0) := by simp [World.cell?, h.2]
theorem Bx.c1 {Wg W : World} {x : Nat} (h : Bx Wg x W) : W.cell? ⟨x, 1, none⟩ = some (.slice none 0 0) := by simp [World.cell?, h.2]
theorem Bx.z0 {Wg W : World} {x : Nat} (h : Bx Wg x W) : W.frozen? ⟨x, 0, none⟩ = false := by simp [World.frozen?, h.2]
theorem Bx.z1 {Wg W : World} {x : Nat} (h : Bx Wg x W) : W.frozen? ⟨x, 1, none⟩ = false := by simp [World.frozen?, h.2]
/-- What lies behind the third function. -/
def SumH (D : Int) (Wg : World) (x : Nat) (W : World) : Prop := ∃ a c H, SlF x D a H H.length c W ∧ Fine H ∧ Below Wg.heap.size Wg W
theorem SumH.new {D : Int} {Wg W : World} {x : Nat} {a : Option Addr} {H : List Pc} {c n : Nat} (hn : n = H.length) (hb : Bx Wg x W) (hk : Below Wg.heap.size Wg W) (hp : PcsAt a H W) (hf : Fine H) : SumH D Wg x ((W.setCell ⟨x, 0, none⟩ (.int .i64 D)).setCell ⟨x, 1, none⟩ (.slice a n c)) := by
  subst hn
  have k0 : (W.setCell ⟨x, 0, none⟩ (.int .i64 D)).cell? ⟨x, 0, none⟩ = some (.int .i64 D) := World.cell?_setCell_same' _ _ _ (by rw [hb.c0]; rfl)
  have k1 : (W.setCell ⟨x, 0, none⟩ (.int .i64 D)).cell? ⟨x, 1, none⟩ = some (.slice none 0 0) := by
    rw [World.cell?_setCell_other _ _ _ _ (fun q => by injection q with q1 q2; exact absurd q2 (by decide))]; exact hb.c1
  refine ⟨a, c, H, ⟨?_, ?_, pcs_far hb.2 hp⟩, hf, ?_⟩
  · rw [World.cell?_setCell_other _ _ _ _ (fun q => by injection q with q1 q2; exact absurd q2 (by decide))]; exact k0
  · exact World.cell?_setCell_same' _ _ _ (by rw [k1]; rfl)
  · exact (hk.setCell (p := ⟨x, 0, none⟩) hb.1 _).setCell (p := ⟨x, 1, none⟩) hb.1 _
theorem wp_gen {P : Program} {md : Region.Mode} {ops : Array Oper} {Q : Exit → Act → World → Prop} {S : World → Prop} {fuel : Nat} {listed : Array Bool} {a : Act} {w : World} (p : World → Prop) (hp : p w) (h : ∀ w', p w' → wpAnyH P md ops Q S fuel listed a w') : wpAnyH P md ops Q S fuel listed a w := h w hp
theorem row_news {W : World} {g : Nat} {S : List Int} (h : ∀ i x, S[i]? = some x → W.cell? ⟨g, i, none⟩ = some (.int .i64 x)) : ∀ j u, (S.map (Value.int .i64))[j]? = some u → W.cell? ((⟨g, 0, none⟩ : Addr).add j) = some u := fun j u hu => by
  rw [List.getElem?_map] at hu
  obtain ⟨x, hx, rfl⟩ := Option.map_eq_some_iff.1 hu
  have e : (⟨g, 0, none⟩ : Addr).add j = ⟨g, 0 + j, none⟩ := by unfold Addr.add; split <;> simp_all
  rw [e, Nat.zero_add]
  exact h j x hx
set_option maxHeartbeats 16000000 in
set_option maxRecDepth 100000 in
theorem sumsLaw_walk (den x : Int) (a0 : Option Addr) (k0 : Nat) (l : List Pc) (a1 : Option Addr) (k1 : Nat) (r : List Pc) (w : World) (hd : Rg den) (hx : Rg x)
    (hl : l.length ≤ 9223372036854775807) (hr : ∀ p ∈ l, Rg p.1 ∧ Rg p.2.1 ∧ Rg p.2.2) (z : PcsAt a0 l w) (hk : l.length ≤ k0) (hnn : a0 = none → k0 = 0)
    (hl1 : r.length ≤ 9223372036854775807) (hr1 : ∀ p ∈ r, Rg p.1 ∧ Rg p.2.1 ∧ Rg p.2.2) (z1 : PcsAt a1 r w) (hk1 : r.length ≤ k1) (hnn1 : a1 = none → k1 = 0) :
    Calls Try.prog 4 #[.slice a0 l.length k0, .slice a1 r.length k1, .int .i64 den, .int .i64 x] w fun r w' => r = .returned (.bool true) ∧ Below w.heap.size w w' := by
  have HH := Lib.hid (head_any w)
  have HM1 := Lib.hid (fun w' (k : Below w.heap.size w w') => made_any den a0 k0 l w' hd hl hr (z.below k))
  have HM2 := Lib.hid (fun w' (k : Below w.heap.size w w') => made_any den a1 k1 r w' hd hl1 hr1 (z1.below k))
  obtain ⟨L4, hL4⟩ : ∃ L, L = r.take 2 ++ l.take 2 := ⟨_, rfl⟩
  have hL4n : L4.length ≤ 4 := by rw [hL4, List.length_append, List.length_take, List.length_take]; omega
  have HM3 := Lib.hid (fun a c w' (z : PcsAt a L4 w') => made_any den a c L4 w' hd (by omega) (by rw [hL4]; intro p hp; rcases List.mem_append.1 hp with h | h; exact hr1 p (List.mem_of_mem_take h); exact hr p (List.mem_of_mem_take h)) z)
  have hD := pk_bd (c := den) (n := 1000) (by decide)
  obtain ⟨D, hDD⟩ : ∃ D, D = 1 + pk den 1000 := ⟨_, rfl⟩
  rw [← hDD] at HM1 HM2 HM3
  have hDb : 1 ≤ D ∧ D ≤ 1000 := by omega
  have HDB := Lib.hid hDb
  have HRX := Lib.hid hx
  obtain ⟨n0, hn0⟩ : ∃ n, n = l.length := ⟨_, rfl⟩
  obtain ⟨n1, hn1⟩ : ∃ n, n = r.length := ⟨_, rfl⟩
  obtain ⟨m0, hm0⟩ : ∃ m, m = min 2 n0 := ⟨_, rfl⟩
  obtain ⟨m1, hm1⟩ : ∃ m, m = min 2 n1 := ⟨_, rfl⟩
  have HS0 := Lib.hid (fun w' (k : Below w.heap.size w w') => PcsAt.src' (c := k0) (n := m0) ((z.below k).take 2) (by rw [List.length_take, hm0, hn0]) hnn)
  have HS1 := Lib.hid (fun w' (k : Below w.heap.size w w') => PcsAt.src' (c := k1) (n := m1) ((z1.below k).take 2) (by rw [List.length_take, hm1, hn1]) hnn1)
  have hf0 : (flatP (l.take 2)).length = m0 * 3 := by rw [flatP_length, List.length_take, hm0, hn0]
  have hf1 : (flatP (r.take 2)).length = m1 * 3 := by rw [flatP_length, List.length_take, hm1, hn1]
  have HFL := Lib.hid (And.intro hf0 (And.intro hf1 (And.intro (show L4.length = m1 + m0 by rw [hL4, List.length_append, List.length_take, List.length_take, hm0, hm1, hn0, hn1]) (And.intro hL4 (And.intro hL4n (And.intro (show m1 = (r.take 2).length by rw [List.length_take, hm1, hn1]) (show m0 = (l.take 2).length by rw [List.length_take, hm0, hn0])))))))
  have hl' : l.length = n0 := hn0.symm
  have hr' : r.length = n1 := hn1.symm
  rw [hl'] at HM1 hk ⊢
  rw [hr'] at HM2 hk1 ⊢
  have q0 : min (n0 : Int) 2 = (m0 : Int) := by omega
  have q1 : min (n1 : Int) 2 = (m1 : Int) := by omega
  have p0 : (0 : Int) ≤ (m0 : Int) := by omega
  have p1 : (0 : Int) ≤ (m1 : Int) := by omega
  have r0 : (m0 : Int) ≤ (k0 : Int) := by omega
  have r1 : (m1 : Int) ≤ (k1 : Int) := by omega
  have HMB := Lib.hid (show m0 ≤ 2 ∧ m1 ≤ 2 by omega)
  obtain ⟨i0, hi, hz0, hz1, hz2⟩ := info_parts Try.infoA
  have HI0 := Lib.hid (And.intro hi (And.intro hz0 (And.intro hz1 hz2)))
  obtain ⟨ZA, hza, hmk⟩ := make_row i0 hi hz0 hz1 hz2
  have HZA := Lib.hid hza
  clear hd hx hl hr z hl1 hr1 z1 hD hDD hDb hm0 hm1 hn0 hn1 hk hk1 hnn hnn1 hl' hr' hf0 hf1 hL4 hL4n hza hi hz0 hz1 hz2
  go_enter Try.func4, Try.ntmps4
  go_upto_region 3 with (first
    | (go_at_call 9; (with_reducible refine HH.out.mono ?_); rintro _ W1 ⟨rfl, hb⟩; have HB1 := Lib.hid hb; clear hb)
    | (go_at_call 10; (with_reducible refine (HM1.out _ HB1.out).mono ?_); rintro _ W2 ⟨a, c, F, rfl, hp, hf, -, -, hb⟩; have HB2 := Lib.hid (HB1.out.trans (hb.mono HB1.out.size)); have HP := Lib.hid hp; have HF := Lib.hid hf; clear hb hp hf))
  have HVF := Lib.hid (show vdB D F = true from HF.out.vd' HDB.out.1 HDB.out.2)
  obtain ⟨mF, hmF⟩ : ∃ m, m = F.length := ⟨_, rfl⟩
  have hk := (Sp.alloc_below W2 (fb D a F.length c))
  have HX0 := Lib.hid (slf_new (D := D) (c := c) HP.out)
  have HB := Lib.hid (HB2.out.trans (hk.mono HB2.out.size))
  rw [← hmF] at HX0 HB ⊢
  change Code.wp _ _ _ _ (W2.alloc (fb D a mF c))
  have HMF := Lib.hid hmF
  clear hk HP HB1 HB2 HM1 hmF
  generalize W2.alloc (fb D a mF c) = Wf at *
  generalize W2.heap.size = x0 at *
  go_upto_region 4 with (go_at_call 10; (with_reducible refine (HM2.out _ HB.out).mono ?_); rintro _ W3 ⟨b, d, G, rfl, hp, hf, -, -, hb⟩; have HK := Lib.hid hb; have HP := Lib.hid hp; have HG := Lib.hid hf; clear hb hp hf)
  have HVG := Lib.hid (show vdB D G = true from HG.out.vd' HDB.out.1 HDB.out.2)
  obtain ⟨mG, hmG⟩ : ∃ m, m = G.length := ⟨_, rfl⟩
  have hk := HK.out.trans ((Sp.alloc_below W3 (fb D b G.length d)).mono HK.out.size)
  replace HX0 := Lib.hid (HX0.out.below hk)
  have HX1 := Lib.hid (slf_new (D := D) (c := d) HP.out)
  replace HB := Lib.hid (HB.out.trans (hk.mono HB.out.size))
  rw [← hmG] at HX0 HX1 HB ⊢
  change Code.wp _ _ _ _ (W3.alloc (fb D b mG d))
  have HMG := Lib.hid hmG
  clear hk HK HP HM2 hmG
  generalize W3.alloc (fb D b mG d) = Wg at *
  generalize W3.heap.size = x1 at *
  have hmix : Try.prog.follows .mixedOrders = true := by kernel_rfl
  have HMIX := Lib.hid hmix
  clear hmix
  go_cut [12] from 47 to 61 (fun s12 wx => ∃ xh, s12 = .pointer (some ⟨xh, 0, none⟩) ∧ Hid (SumH D Wg xh wx))
  case first =>
    have hk0 := Lib.hid (Below.refl Wg.heap.size Wg).drew
    refine wp_region_held_drew (S := fun _ => True) HMIX.out trivial (fun hHeld => ?_)
    refine wp_gen (fun W' => Below Wg.heap.size Wg W') hk0.out (fun W0 hh => ?_)
    have HK := Lib.hid hh
    clear hh hk0
    refine wpAnyH_take (i := 0) (v := ?_) rfl (by kernel_rfl) (by kernel_rfl) (by kernel_rfl) (fun _ _ _ h => h) (Or.inl ⟨by rfl, ?_⟩) (by assumption) ?_
    rotate_left
    · intro w hSw; (try dsimp only at hSw); go_simp; (try with_reducible rfl)
    (try simp only [Act.put, List.getElem_toArray, List.getElem_cons_succ, List.getElem_cons_zero, List.setIfInBounds_toArray, List.set_cons_zero, List.set_cons_succ])
    refine wpAnyH_take (i := 2) (v := ?_) rfl (by kernel_rfl) (by kernel_rfl) (by kernel_rfl) (fun _ _ _ h => h) (Or.inl ⟨by rfl, ?_⟩) (by assumption) ?_
    rotate_left
    · intro w hSw; (try dsimp only at hSw); go_simp; (try with_reducible rfl)
    (try simp only [Act.put, List.getElem_toArray, List.getElem_cons_succ, List.getElem_cons_zero, List.setIfInBounds_toArray, List.set_cons_zero, List.set_cons_succ])
    refine wpAnyH_take (i := 3) (v := ?_) rfl (by kernel_rfl) (by kernel_rfl) (by kernel_rfl) (fun _ _ _ h => h) (Or.inl ⟨by rfl, ?_⟩) (by assumption) ?_
    rotate_left
    · intro w hSw; (try dsimp only at hSw); go_simp; (try with_reducible rfl)
    (try simp only [Act.put, List.getElem_toArray, List.getElem_cons_succ, List.getElem_cons_zero, List.setIfInBounds_toArray, List.set_cons_zero, List.set_cons_succ])
    refine wpAnyH_take (i := 4) (v := ?_) rfl (by kernel_rfl) (by kernel_rfl) (by kernel_rfl) (fun _ _ _ h => h) (Or.inl ⟨by rfl, ?_⟩) (by assumption) ?_
    rotate_left
    · intro w hSw; (try dsimp only at hSw); go_simp; (try with_reducible rfl)
    (try simp only [Act.put, List.getElem_toArray, List.getElem_cons_succ, List.getElem_cons_zero, List.setIfInBounds_toArray, List.set_cons_zero, List.set_cons_succ])
    refine wpAnyH_take (i := 5) (v := ?_) rfl (by kernel_rfl) (by kernel_rfl) (by kernel_rfl) (fun _ _ _ h => h) (Or.inl ⟨by rfl, ?_⟩) (by assumption) ?_
    rotate_left
    · intro w hSw; (try dsimp only at hSw); go_simp; (try with_reducible rfl)
    (try simp only [Act.put, List.getElem_toArray, List.getElem_cons_succ, List.getElem_cons_zero, List.setIfInBounds_toArray, List.set_cons_zero, List.set_cons_succ])
    refine wpAnyH_take (i := 6) (v := ?_) rfl (by kernel_rfl) (by kernel_rfl) (by kernel_rfl) (fun _ _ _ h => h) (Or.inl ⟨by rfl, ?_⟩) (by assumption) ?_
    rotate_left
    · intro w hSw; (try dsimp only at hSw); go_simp; (try with_reducible rfl)
    (try simp only [Act.put, List.getElem_toArray, List.getElem_cons_succ, List.getElem_cons_zero, List.setIfInBounds_toArray, List.set_cons_zero, List.set_cons_succ])
    refine wpAnyH_take (i := 8) (v := ?_) rfl (by kernel_rfl) (by kernel_rfl) (by kernel_rfl) (fun _ _ _ h => h) (Or.inl ⟨by rfl, ?_⟩) (by assumption) ?_
    rotate_left
    · intro w hSw; (try dsimp only at hSw); go_simp; (try with_reducible rfl)
    (try simp only [Act.put, List.getElem_toArray, List.getElem_cons_succ, List.getElem_cons_zero, List.setIfInBounds_toArray, List.set_cons_zero, List.set_cons_succ])
    refine wpAnyH_take (i := 9) (v := ?_) rfl (by kernel_rfl) (by kernel_rfl) (by kernel_rfl) (fun _ _ _ h => h) (Or.inl ⟨by rfl, ?_⟩) (by assumption) ?_
    rotate_left
    · intro w hSw; (try dsimp only at hSw); go_simp; (try with_reducible rfl)
    (try simp only [Act.put, List.getElem_toArray, List.getElem_cons_succ, List.getElem_cons_zero, List.setIfInBounds_toArray, List.set_cons_zero, List.set_cons_succ])
    refine wpAnyH_take (i := 10) (v := ?_) rfl (by kernel_rfl) (by kernel_rfl) (by kernel_rfl) (fun _ _ _ h => h) (Or.inl ⟨by rfl, ?_⟩) (by assumption) ?_
    rotate_left
    · intro w hSw; (try dsimp only at hSw); go_simp; (try with_reducible rfl)
    (try simp only [Act.put, List.getElem_toArray, List.getElem_cons_succ, List.getElem_cons_zero, List.setIfInBounds_toArray, List.set_cons_zero, List.set_cons_succ])
    refine wpAnyH_take (i := 11) (v := ?_) rfl (by kernel_rfl) (by kernel_rfl) (by kernel_rfl) (fun _ _ _ h => h) (Or.inl ⟨by rfl, ?_⟩) (by assumption) ?_
    rotate_left
    · intro w hSw; (try dsimp only at hSw); go_simp; (try with_reducible rfl)
    (try simp only [Act.put, List.getElem_toArray, List.getElem_cons_succ, List.getElem_cons_zero, List.setIfInBounds_toArray, List.set_cons_zero, List.set_cons_succ])
    refine wpAnyH_take (i := 12) (v := ?_) rfl (by kernel_rfl) (by kernel_rfl) (by kernel_rfl) (fun _ _ _ h => h) (Or.inl ⟨by rfl, ?_⟩) (by assumption) ?_
    rotate_left
    · intro w hSw; (try dsimp only at hSw); go_simp; (try with_reducible rfl)
    (try simp only [Act.put, List.getElem_toArray, List.getElem_cons_succ, List.getElem_cons_zero, List.setIfInBounds_toArray, List.set_cons_zero, List.set_cons_succ])
    refine wpAnyH_ready (rs := [1, 15]) (by kernel_rfl) (by simp) ?_
    refine AllReadyH.cons rfl (fun K hK => ?_) (AllReadyH.cons rfl (fun K hK => ?_) AllReadyH.nil)
    · go_simp
      refine hK.out _ _ trivial (fun hHeld => ?_)
      clear hK K
      (try simp only [Act.put, List.getElem_toArray, List.getElem_cons_succ, List.getElem_cons_zero, List.setIfInBounds_toArray, List.set_cons_zero, List.set_cons_succ])
      have hsz := HK.out.size
      refine wp_gen (fun W' => Below Wg.heap.size Wg W' ∧ W'.ownsRow Wg.heap.size 56 3 (.slice (some ⟨W0.heap.size, 0, none⟩) 0 4) 0 []) ⟨HK.out.trans ((Sp.alloc_below _ _).mono hsz), World.ownsRow_made _ ZA 4 hsz (by decide) HZA.out⟩ (fun W1 hh => ?_)
      obtain ⟨v4, hv4⟩ : ∃ v, v = Value.slice (some ⟨W0.heap.size, 0, none⟩) 0 4 := ⟨_, rfl⟩
      rw [← hv4] at hh ⊢
      clear hv4
      replace HK := Lib.hid hh.1
      have HO := Lib.hid hh.2
      clear hh hsz
      refine wpAnyH_ready (rs := [7, 15]) (by kernel_rfl) (by simp) ?_
      refine AllReadyH.cons rfl (fun K hK => ?_) (AllReadyH.cons rfl (fun K hK => ?_) AllReadyH.nil)
      · refine step_append_src (by rfl) (.tmp 48) (.tmp 53) 25 (by rfl) Wg.heap.size 56 i0 (.agg #[.int .i64 0, .int .i64 0, .int .i64 0]) 3 24 Try.underRows HI0.out.1 HI0.out.2.1 HI0.out.2.2.1 HI0.out.2.2.2 rfl (by decide) _ 0 [] (by rfl) HO.out _ m1 (flatP (r.take 2)) (by rfl) (HS1.out _ (HB.out.trans (HK.out.mono HB.out.size))) HFL.out.2.1 (flatP_cell1 _) (by have := HMB.out; unfold maxLen; omega) (by have := HMB.out; omega) HK.out.size ?_
        rotate_right
        intro v5 W5 hown hg
        refine hK.out _ _ trivial (fun hHeld => ?_)
        clear hK K
        (try simp only [Act.put, List.getElem_toArray, List.getElem_cons_succ, List.getElem_cons_zero, List.setIfInBounds_toArray, List.set_cons_zero, List.set_cons_succ])
        have HR5 := Lib.hid (show RowA W5 Wg.heap.size v5 (r.take 2) from RowA.app (l := []) rfl HFL.out.2.2.2.2.2.1 hown)
        replace HK := Lib.hid (HK.out.grown hg HK.out.size (fun q hq => (World.ownsRow.lt HO.out q hq).1))
        replace HO := Lib.hid (show W5.ownsRow Wg.heap.size 56 3 v5 m1 (flatP (r.take 2)) by have h := HR5.out; unfold RowA at h; rw [← HFL.out.2.2.2.2.2.1] at h; exact h)
        clear hown hg
        refine wpAnyH_ready (rs := [13, 15]) (by kernel_rfl) (by simp) ?_
        refine AllReadyH.cons rfl (fun K hK => ?_) (AllReadyH.cons rfl (fun K hK => ?_) AllReadyH.nil)
        · refine step_append_src (by rfl) (.tmp 54) (.tmp 59) 25 (by rfl) Wg.heap.size 56 i0 (.agg #[.int .i64 0, .int .i64 0, .int .i64 0]) 3 24 Try.underRows HI0.out.1 HI0.out.2.1 HI0.out.2.2.1 HI0.out.2.2.2 rfl (by decide) _ m1 (flatP (r.take 2)) (by rfl) HO.out _ m0 (flatP (l.take 2)) (by rfl) (HS0.out _ (HB.out.trans (HK.out.mono HB.out.size))) HFL.out.1 (flatP_cell1 _) (by have := HMB.out; unfold maxLen; omega) (by have := HMB.out; omega) HK.out.size ?_
          intro v6 W6 hown hg
          refine hK.out _ _ trivial (fun hHeld => ?_)
          clear hK K
          (try simp only [Act.put, List.getElem_toArray, List.getElem_cons_succ, List.getElem_cons_zero, List.setIfInBounds_toArray, List.set_cons_zero, List.set_cons_succ])
          replace HK := Lib.hid (HK.out.grown hg HK.out.size (fun q hq => (World.ownsRow.lt HO.out q hq).1))
          obtain ⟨a6, c6, e6, z6, -, -⟩ := (show RowA W6 Wg.heap.size v6 L4 by rw [HFL.out.2.2.2.1]; exact RowA.app HFL.out.2.2.2.2.2.1 HFL.out.2.2.2.2.2.2 hown).pcs
          subst e6
          have HZ6 := Lib.hid z6
          clear hown hg z6 HR5 HO
          refine wpAnyH_ready (rs := [14, 15]) (by kernel_rfl) (by simp) ?_
          refine AllReadyH.cons rfl (fun K hK => ?_) (AllReadyH.cons rfl (fun K hK => ?_) AllReadyH.nil)
          · go_simp
            (with_reducible refine (HM3.out _ _ _ HZ6.out).mono ?_)
            rintro _ W7 ⟨h, k, H, rfl, hp, hf, -, -, hb⟩
            refine hK.out _ _ trivial (fun hHeld => ?_)
            clear hK K
            (try simp only [Act.put, List.getElem_toArray, List.getElem_cons_succ, List.getElem_cons_zero, List.setIfInBounds_toArray, List.set_cons_zero, List.set_cons_succ])
            replace HK := Lib.hid (HK.out.trans (hb.mono HK.out.size))
            have HP := Lib.hid hp
            have HH3 := Lib.hid hf
            obtain ⟨nH, hnH⟩ : ∃ n, n = H.length := ⟨_, rfl⟩
            rw [← hnH]
            have HNH := Lib.hid hnH
            clear hp hf hb HZ6 hnH
            refine wpAnyH_ready (rs := [15]) (by kernel_rfl) (by simp) ?_
            refine AllReadyH.cons rfl (fun K hK => ?_) AllReadyH.nil
            go_simp
            refine hK.out _ _ trivial (fun hHeld => ?_)
            clear hK K
            (try simp only [Act.put, List.getElem_toArray, List.getElem_cons_succ, List.getElem_cons_zero, List.setIfInBounds_toArray, List.set_cons_zero, List.set_cons_succ])
            have hsz := HK.out.size
            refine wp_gen (fun W' => Below Wg.heap.size Wg W' ∧ Bx Wg W7.heap.size W' ∧ PcsAt h H W') ⟨HK.out.trans ((Sp.alloc_below _ _).mono hsz), Bx.new hsz, HP.out.below (Sp.alloc_below _ _)⟩ (fun Wa hh => ?_)
            obtain ⟨xh, hxh⟩ : ∃ x, x = W7.heap.size := ⟨_, rfl⟩
            rw [← hxh] at hh ⊢
            replace HK := Lib.hid hh.1
            have HBX := Lib.hid (show Bx Wg xh Wa from hh.2.1)
            replace HP := Lib.hid hh.2.2
            clear hh hsz hxh
            have c0 := HBX.out.c0
            have c1 := HBX.out.c1
            have z0 := HBX.out.z0
            have z1 := HBX.out.z1
            refine wpAnyH_ready (rs := [16]) (by kernel_rfl) (by simp) ?_
            refine AllReadyH.cons rfl (fun K hK => ?_) AllReadyH.nil
            go_simp
            refine hK.out _ _ trivial (fun hHeld => ?_)
            clear hK K
            refine wpAnyH_done (by kernel_rfl) ?_ _
            go_wp2_with fail
            go_meet
            exact ⟨_, rfl, SumH.new HNH.out HBX.out HK.out HP.out HH3.out⟩
          · go_simp
            refine hK.out _ _ trivial (fun hHeld => ?_)
            clear hK K
            (try simp only [Act.put, List.getElem_toArray, List.getElem_cons_succ, List.getElem_cons_zero, List.setIfInBounds_toArray, List.set_cons_zero, List.set_cons_succ])
            have hsz := HK.out.size
            refine wp_gen (fun W' => Below Wg.heap.size Wg W' ∧ Bx Wg W6.heap.size W' ∧ PcsAt a6 L4 W') ⟨HK.out.trans ((Sp.alloc_below _ _).mono hsz), Bx.new hsz, HZ6.out.below (Sp.alloc_below _ _)⟩ (fun Wa hh => ?_)
            obtain ⟨xh, hxh⟩ : ∃ x, x = W6.heap.size := ⟨_, rfl⟩
            rw [← hxh] at hh ⊢
            replace HK := Lib.hid hh.1
            have HBX := Lib.hid (show Bx Wg xh Wa from hh.2.1)
            replace HZ6 := Lib.hid hh.2.2
            clear hh hsz hxh
            refine wpAnyH_ready (rs := [14]) (by kernel_rfl) (by simp) ?_
            refine AllReadyH.cons rfl (fun K hK => ?_) AllReadyH.nil
            go_simp
            (with_reducible refine (HM3.out _ _ _ HZ6.out).mono ?_)
            rintro _ W7 ⟨h, k, H, rfl, hp, hf, -, -, hb⟩
            refine hK.out _ _ trivial (fun hHeld => ?_)
            clear hK K
            (try simp only [Act.put, List.getElem_toArray, List.getElem_cons_succ, List.getElem_cons_zero, List.setIfInBounds_toArray, List.set_cons_zero, List.set_cons_succ])
            replace HBX := Lib.hid (HBX.out.below hb)
            replace HK := Lib.hid (HK.out.trans (hb.mono HK.out.size))
            have HP := Lib.hid hp
            have HH3 := Lib.hid hf
            obtain ⟨nH, hnH⟩ : ∃ n, n = H.length := ⟨_, rfl⟩
            rw [← hnH]
            have HNH := Lib.hid hnH
            clear hp hf hb HZ6 hnH
            have c0 := HBX.out.c0
            have c1 := HBX.out.c1
            have z0 := HBX.out.z0
            have z1 := HBX.out.z1
            refine wpAnyH_ready (rs := [16]) (by kernel_rfl) (by simp) ?_
            refine AllReadyH.cons rfl (fun K hK => ?_) AllReadyH.nil
            go_simp
            refine hK.out _ _ trivial (fun hHeld => ?_)
            clear hK K
            refine wpAnyH_done (by kernel_rfl) ?_ _
            go_wp2_with fail
            go_meet
            exact ⟨_, rfl, SumH.new HNH.out HBX.out HK.out HP.out HH3.out⟩
        · go_simp
          refine hK.out _ _ trivial (fun hHeld => ?_)
          clear hK K
          (try simp only [Act.put, List.getElem_toArray, List.getElem_cons_succ, List.getElem_cons_zero, List.setIfInBounds_toArray, List.set_cons_zero, List.set_cons_succ])
          have hsz := HK.out.size
          refine wp_gen (fun W' => Below Wg.heap.size Wg W' ∧ Bx Wg W5.heap.size W' ∧ RowA W' Wg.heap.size v5 (r.take 2)) ⟨HK.out.trans ((Sp.alloc_below _ _).mono hsz), Bx.new hsz, HR5.out.below (Sp.alloc_below _ _)⟩ (fun Wa hh => ?_)
          obtain ⟨xh, hxh⟩ : ∃ x, x = W5.heap.size := ⟨_, rfl⟩
          rw [← hxh] at hh ⊢
          replace HK := Lib.hid hh.1
          have HBX := Lib.hid (show Bx Wg xh Wa from hh.2.1)
          replace HR5 := Lib.hid hh.2.2
          replace HO := Lib.hid (show Wa.ownsRow Wg.heap.size 56 3 v5 m1 (flatP (r.take 2)) by have h := HR5.out; unfold RowA at h; rw [← HFL.out.2.2.2.2.2.1] at h; exact h)
          clear hh hsz hxh
          refine wpAnyH_ready (rs := [13]) (by kernel_rfl) (by simp) ?_
          refine AllReadyH.cons rfl (fun K hK => ?_) AllReadyH.nil
          refine step_append_src (by rfl) (.tmp 54) (.tmp 59) 25 (by rfl) Wg.heap.size 56 i0 (.agg #[.int .i64 0, .int .i64 0, .int .i64 0]) 3 24 Try.underRows HI0.out.1 HI0.out.2.1 HI0.out.2.2.1 HI0.out.2.2.2 rfl (by decide) _ m1 (flatP (r.take 2)) (by rfl) HO.out _ m0 (flatP (l.take 2)) (by rfl) (HS0.out _ (HB.out.trans (HK.out.mono HB.out.size))) HFL.out.1 (flatP_cell1 _) (by have := HMB.out; unfold maxLen; omega) (by have := HMB.out; omega) HK.out.size ?_
          intro v6 W6 hown hg
          refine hK.out _ _ trivial (fun hHeld => ?_)
          clear hK K
          (try simp only [Act.put, List.getElem_toArray, List.getElem_cons_succ, List.getElem_cons_zero, List.setIfInBounds_toArray, List.set_cons_zero, List.set_cons_succ])
          replace HBX := Lib.hid (HBX.out.grown HR5.out hg)
          replace HK := Lib.hid (HK.out.grown hg HK.out.size (fun q hq => (World.ownsRow.lt HO.out q hq).1))
          obtain ⟨a6, c6, e6, z6, -, -⟩ := (show RowA W6 Wg.heap.size v6 L4 by rw [HFL.out.2.2.2.1]; exact RowA.app HFL.out.2.2.2.2.2.1 HFL.out.2.2.2.2.2.2 hown).pcs
          subst e6
          have HZ6 := Lib.hid z6
          clear hown hg z6 HR5 HO
          refine wpAnyH_ready (rs := [14]) (by kernel_rfl) (by simp) ?_
          refine AllReadyH.cons rfl (fun K hK => ?_) AllReadyH.nil
          go_simp
          (with_reducible refine (HM3.out _ _ _ HZ6.out).mono ?_)
          rintro _ W7 ⟨h, k, H, rfl, hp, hf, -, -, hb⟩
          refine hK.out _ _ trivial (fun hHeld => ?_)
          clear hK K
          (try simp only [Act.put, List.getElem_toArray, List.getElem_cons_succ, List.getElem_cons_zero, List.setIfInBounds_toArray, List.set_cons_zero, List.set_cons_succ])
          replace HBX := Lib.hid (HBX.out.below hb)
          replace HK := Lib.hid (HK.out.trans (hb.mono HK.out.size))
          have HP := Lib.hid hp
          have HH3 := Lib.hid hf
          obtain ⟨nH, hnH⟩ : ∃ n, n = H.length := ⟨_, rfl⟩
          rw [← hnH]
          have HNH := Lib.hid hnH
          clear hp hf hb HZ6 hnH
          have c0 := HBX.out.c0
          have c1 := HBX.out.c1
          have z0 := HBX.out.z0
          have z1 := HBX.out.z1
          refine wpAnyH_ready (rs := [16]) (by kernel_rfl) (by simp) ?_
          refine AllReadyH.cons rfl (fun K hK => ?_) AllReadyH.nil
          go_simp
          refine hK.out _ _ trivial (fun hHeld => ?_)
          clear hK K
          refine wpAnyH_done (by kernel_rfl) ?_ _
          go_wp2_with fail
          go_meet
          exact ⟨_, rfl, SumH.new HNH.out HBX.out HK.out HP.out HH3.out⟩
      · go_simp
        refine hK.out _ _ trivial (fun hHeld => ?_)
        clear hK K
        (try simp only [Act.put, List.getElem_toArray, List.getElem_cons_succ, List.getElem_cons_zero, List.setIfInBounds_toArray, List.set_cons_zero, List.set_cons_succ])
        have hsz := HK.out.size
        refine wp_gen (fun W' => Below Wg.heap.size Wg W' ∧ Bx Wg W1.heap.size W' ∧ W'.ownsRow Wg.heap.size 56 3 v4 0 []) ⟨HK.out.trans ((Sp.alloc_below _ _).mono hsz), Bx.new hsz, (RowA.below (l := []) HO.out (Sp.alloc_below _ _))⟩ (fun Wa hh => ?_)
        obtain ⟨xh, hxh⟩ : ∃ x, x = W1.heap.size := ⟨_, rfl⟩
        rw [← hxh] at hh ⊢
        replace HK := Lib.hid hh.1
        have HBX := Lib.hid (show Bx Wg xh Wa from hh.2.1)
        replace HO := Lib.hid hh.2.2
        clear hh hsz hxh
        refine wpAnyH_ready (rs := [7]) (by kernel_rfl) (by simp) ?_
        refine AllReadyH.cons rfl (fun K hK => ?_) AllReadyH.nil
        refine step_append_src (by rfl) (.tmp 48) (.tmp 53) 25 (by rfl) Wg.heap.size 56 i0 (.agg #[.int .i64 0, .int .i64 0, .int .i64 0]) 3 24 Try.underRows HI0.out.1 HI0.out.2.1 HI0.out.2.2.1 HI0.out.2.2.2 rfl (by decide) _ 0 [] (by rfl) HO.out _ m1 (flatP (r.take 2)) (by rfl) (HS1.out _ (HB.out.trans (HK.out.mono HB.out.size))) HFL.out.2.1 (flatP_cell1 _) (by have := HMB.out; unfold maxLen; omega) (by have := HMB.out; omega) HK.out.size ?_
        rotate_right
        intro v5 W5 hown hg
        refine hK.out _ _ trivial (fun hHeld => ?_)
        clear hK K
        (try simp only [Act.put, List.getElem_toArray, List.getElem_cons_succ, List.getElem_cons_zero, List.setIfInBounds_toArray, List.set_cons_zero, List.set_cons_succ])
        have HR5 := Lib.hid (show RowA W5 Wg.heap.size v5 (r.take 2) from RowA.app (l := []) rfl HFL.out.2.2.2.2.2.1 hown)
        replace HBX := Lib.hid (HBX.out.grown (l := []) (show RowA _ Wg.heap.size _ [] from HO.out) hg)
        replace HK := Lib.hid (HK.out.grown hg HK.out.size (fun q hq => (World.ownsRow.lt HO.out q hq).1))
        replace HO := Lib.hid (show W5.ownsRow Wg.heap.size 56 3 v5 m1 (flatP (r.take 2)) by have h := HR5.out; unfold RowA at h; rw [← HFL.out.2.2.2.2.2.1] at h; exact h)
        clear hown hg
        refine wpAnyH_ready (rs := [13]) (by kernel_rfl) (by simp) ?_
        refine AllReadyH.cons rfl (fun K hK => ?_) AllReadyH.nil
        refine step_append_src (by rfl) (.tmp 54) (.tmp 59) 25 (by rfl) Wg.heap.size 56 i0 (.agg #[.int .i64 0, .int .i64 0, .int .i64 0]) 3 24 Try.underRows HI0.out.1 HI0.out.2.1 HI0.out.2.2.1 HI0.out.2.2.2 rfl (by decide) _ m1 (flatP (r.take 2)) (by rfl) HO.out _ m0 (flatP (l.take 2)) (by rfl) (HS0.out _ (HB.out.trans (HK.out.mono HB.out.size))) HFL.out.1 (flatP_cell1 _) (by have := HMB.out; unfold maxLen; omega) (by have := HMB.out; omega) HK.out.size ?_
        intro v6 W6 hown hg
        refine hK.out _ _ trivial (fun hHeld => ?_)
        clear hK K
        (try simp only [Act.put, List.getElem_toArray, List.getElem_cons_succ, List.getElem_cons_zero, List.setIfInBounds_toArray, List.set_cons_zero, List.set_cons_succ])
        replace HBX := Lib.hid (HBX.out.grown HR5.out hg)
        replace HK := Lib.hid (HK.out.grown hg HK.out.size (fun q hq => (World.ownsRow.lt HO.out q hq).1))
        obtain ⟨a6, c6, e6, z6, -, -⟩ := (show RowA W6 Wg.heap.size v6 L4 by rw [HFL.out.2.2.2.1]; exact RowA.app HFL.out.2.2.2.2.2.1 HFL.out.2.2.2.2.2.2 hown).pcs
        subst e6
        have HZ6 := Lib.hid z6
        clear hown hg z6 HR5 HO
        refine wpAnyH_ready (rs := [14]) (by kernel_rfl) (by simp) ?_
        refine AllReadyH.cons rfl (fun K hK => ?_) AllReadyH.nil
        go_simp
        (with_reducible refine (HM3.out _ _ _ HZ6.out).mono ?_)
        rintro _ W7 ⟨h, k, H, rfl, hp, hf, -, -, hb⟩
        refine hK.out _ _ trivial (fun hHeld => ?_)
        clear hK K
        (try simp only [Act.put, List.getElem_toArray, List.getElem_cons_succ, List.getElem_cons_zero, List.setIfInBounds_toArray, List.set_cons_zero, List.set_cons_succ])
        replace HBX := Lib.hid (HBX.out.below hb)
        replace HK := Lib.hid (HK.out.trans (hb.mono HK.out.size))
        have HP := Lib.hid hp
        have HH3 := Lib.hid hf
        obtain ⟨nH, hnH⟩ : ∃ n, n = H.length := ⟨_, rfl⟩
        rw [← hnH]
        have HNH := Lib.hid hnH
        clear hp hf hb HZ6 hnH
        have c0 := HBX.out.c0
        have c1 := HBX.out.c1
        have z0 := HBX.out.z0
        have z1 := HBX.out.z1
        refine wpAnyH_ready (rs := [16]) (by kernel_rfl) (by simp) ?_
        refine AllReadyH.cons rfl (fun K hK => ?_) AllReadyH.nil
        go_simp
        refine hK.out _ _ trivial (fun hHeld => ?_)
        clear hK K
        refine wpAnyH_done (by kernel_rfl) ?_ _
        go_wp2_with fail
        go_meet
        exact ⟨_, rfl, SumH.new HNH.out HBX.out HK.out HP.out HH3.out⟩
    · go_simp
      refine hK.out _ _ trivial (fun hHeld => ?_)
      clear hK K
      (try simp only [Act.put, List.getElem_toArray, List.getElem_cons_succ, List.getElem_cons_zero, List.setIfInBounds_toArray, List.set_cons_zero, List.set_cons_succ])
      have hsz := HK.out.size
      refine wp_gen (fun W' => Below Wg.heap.size Wg W' ∧ Bx Wg W0.heap.size W') ⟨HK.out.trans ((Sp.alloc_below _ _).mono hsz), Bx.new hsz⟩ (fun Wa hh => ?_)
      obtain ⟨xh, hxh⟩ : ∃ x, x = W0.heap.size := ⟨_, rfl⟩
      rw [← hxh] at hh ⊢
      replace HK := Lib.hid hh.1
      have HBX := Lib.hid (show Bx Wg xh Wa from hh.2)
      clear hh hsz hxh
      refine wpAnyH_ready (rs := [1]) (by kernel_rfl) (by simp) ?_
      refine AllReadyH.cons rfl (fun K hK => ?_) AllReadyH.nil
      go_simp
      refine hK.out _ _ trivial (fun hHeld => ?_)
      clear hK K
      (try simp only [Act.put, List.getElem_toArray, List.getElem_cons_succ, List.getElem_cons_zero, List.setIfInBounds_toArray, List.set_cons_zero, List.set_cons_succ])
      have hsz := HK.out.size
      refine wp_gen (fun W' => Below Wg.heap.size Wg W' ∧ W'.ownsRow Wg.heap.size 56 3 (.slice (some ⟨Wa.heap.size, 0, none⟩) 0 4) 0 [] ∧ Bx Wg xh W') ⟨HK.out.trans ((Sp.alloc_below _ _).mono hsz), World.ownsRow_made _ ZA 4 hsz (by decide) HZA.out, HBX.out.below (Sp.alloc_below _ _)⟩ (fun W1 hh => ?_)
      obtain ⟨v4, hv4⟩ : ∃ v, v = Value.slice (some ⟨Wa.heap.size, 0, none⟩) 0 4 := ⟨_, rfl⟩
      rw [← hv4] at hh ⊢
      clear hv4
      replace HK := Lib.hid hh.1
      have HO := Lib.hid hh.2.1
      replace HBX := Lib.hid hh.2.2
      clear hh hsz
      refine wpAnyH_ready (rs := [7]) (by kernel_rfl) (by simp) ?_
      refine AllReadyH.cons rfl (fun K hK => ?_) AllReadyH.nil
      refine step_append_src (by rfl) (.tmp 48) (.tmp 53) 25 (by rfl) Wg.heap.size 56 i0 (.agg #[.int .i64 0, .int .i64 0, .int .i64 0]) 3 24 Try.underRows HI0.out.1 HI0.out.2.1 HI0.out.2.2.1 HI0.out.2.2.2 rfl (by decide) _ 0 [] (by rfl) HO.out _ m1 (flatP (r.take 2)) (by rfl) (HS1.out _ (HB.out.trans (HK.out.mono HB.out.size))) HFL.out.2.1 (flatP_cell1 _) (by have := HMB.out; unfold maxLen; omega) (by have := HMB.out; omega) HK.out.size ?_
      rotate_right
      intro v5 W5 hown hg
      refine hK.out _ _ trivial (fun hHeld => ?_)
      clear hK K
      (try simp only [Act.put, List.getElem_toArray, List.getElem_cons_succ, List.getElem_cons_zero, List.setIfInBounds_toArray, List.set_cons_zero, List.set_cons_succ])
      have HR5 := Lib.hid (show RowA W5 Wg.heap.size v5 (r.take 2) from RowA.app (l := []) rfl HFL.out.2.2.2.2.2.1 hown)
      replace HBX := Lib.hid (HBX.out.grown (l := []) (show RowA _ Wg.heap.size _ [] from HO.out) hg)
      replace HK := Lib.hid (HK.out.grown hg HK.out.size (fun q hq => (World.ownsRow.lt HO.out q hq).1))
      replace HO := Lib.hid (show W5.ownsRow Wg.heap.size 56 3 v5 m1 (flatP (r.take 2)) by have h := HR5.out; unfold RowA at h; rw [← HFL.out.2.2.2.2.2.1] at h; exact h)
      clear hown hg
      refine wpAnyH_ready (rs := [13]) (by kernel_rfl) (by simp) ?_
      refine AllReadyH.cons rfl (fun K hK => ?_) AllReadyH.nil
      refine step_append_src (by rfl) (.tmp 54) (.tmp 59) 25 (by rfl) Wg.heap.size 56 i0 (.agg #[.int .i64 0, .int .i64 0, .int .i64 0]) 3 24 Try.underRows HI0.out.1 HI0.out.2.1 HI0.out.2.2.1 HI0.out.2.2.2 rfl (by decide) _ m1 (flatP (r.take 2)) (by rfl) HO.out _ m0 (flatP (l.take 2)) (by rfl) (HS0.out _ (HB.out.trans (HK.out.mono HB.out.size))) HFL.out.1 (flatP_cell1 _) (by have := HMB.out; unfold maxLen; omega) (by have := HMB.out; omega) HK.out.size ?_
      intro v6 W6 hown hg
      refine hK.out _ _ trivial (fun hHeld => ?_)
      clear hK K
      (try simp only [Act.put, List.getElem_toArray, List.getElem_cons_succ, List.getElem_cons_zero, List.setIfInBounds_toArray, List.set_cons_zero, List.set_cons_succ])
      replace HBX := Lib.hid (HBX.out.grown HR5.out hg)
      replace HK := Lib.hid (HK.out.grown hg HK.out.size (fun q hq => (World.ownsRow.lt HO.out q hq).1))
      obtain ⟨a6, c6, e6, z6, -, -⟩ := (show RowA W6 Wg.heap.size v6 L4 by rw [HFL.out.2.2.2.1]; exact RowA.app HFL.out.2.2.2.2.2.1 HFL.out.2.2.2.2.2.2 hown).pcs
      subst e6
      have HZ6 := Lib.hid z6
      clear hown hg z6 HR5 HO
      refine wpAnyH_ready (rs := [14]) (by kernel_rfl) (by simp) ?_
      refine AllReadyH.cons rfl (fun K hK => ?_) AllReadyH.nil
      go_simp
      (with_reducible refine (HM3.out _ _ _ HZ6.out).mono ?_)
      rintro _ W7 ⟨h, k, H, rfl, hp, hf, -, -, hb⟩
      refine hK.out _ _ trivial (fun hHeld => ?_)
      clear hK K
      (try simp only [Act.put, List.getElem_toArray, List.getElem_cons_succ, List.getElem_cons_zero, List.setIfInBounds_toArray, List.set_cons_zero, List.set_cons_succ])
      replace HBX := Lib.hid (HBX.out.below hb)
      replace HK := Lib.hid (HK.out.trans (hb.mono HK.out.size))
      have HP := Lib.hid hp
      have HH3 := Lib.hid hf
      obtain ⟨nH, hnH⟩ : ∃ n, n = H.length := ⟨_, rfl⟩
      rw [← hnH]
      have HNH := Lib.hid hnH
      clear hp hf hb HZ6 hnH
      have c0 := HBX.out.c0
      have c1 := HBX.out.c1
      have z0 := HBX.out.z0
      have z1 := HBX.out.z1
      refine wpAnyH_ready (rs := [16]) (by kernel_rfl) (by simp) ?_
      refine AllReadyH.cons rfl (fun K hK => ?_) AllReadyH.nil
      go_simp
      refine hK.out _ _ trivial (fun hHeld => ?_)
      clear hK K
      refine wpAnyH_done (by kernel_rfl) ?_ _
      go_wp2_with fail
      go_meet
      exact ⟨_, rfl, SumH.new HNH.out HBX.out HK.out HP.out HH3.out⟩
  case rest =>
    obtain ⟨xh, rfl, HSH⟩ := hcut
    obtain ⟨h, k, H, hxh, hfh, hbh⟩ := HSH.out
    have HVH := Lib.hid (show vdB D H = true from hfh.vd' HDB.out.1 HDB.out.2)
    obtain ⟨nH, hnH⟩ : ∃ n, n = H.length := ⟨_, rfl⟩
    rw [← hnH] at hxh
    have HNH := Lib.hid hnH
    have HH3 := Lib.hid hfh
    replace HX0 := Lib.hid (HX0.out.below hbh)
    replace HX1 := Lib.hid (HX1.out.below hbh)
    have HXh := Lib.hid hxh
    replace HB := Lib.hid (HB.out.trans (hbh.mono HB.out.size))
    clear hxh hfh hbh hnH HSH HM3 HS0 HS1 HMB HI0 HZA hmk
    obtain ⟨M, hM⟩ : ∃ M, M = Pw.add F G := ⟨_, rfl⟩
    have hvm : vdB D M = true ∧ M.length ≤ 60 := by rw [hM]; exact HF.out.add HG.out HDB.out.1 HDB.out.2
    obtain ⟨nM, hnM⟩ : ∃ n, n = M.length := ⟨_, rfl⟩
    have HMM := Lib.hid (And.intro hM (And.intro hvm.1 (And.intro hvm.2 hnM)))
    clear hM hvm hnM
    have HA1 : Hid (∀ W, PcsAt a F W → PcsAt b G W → Calls Try.prog 11 #[fv D a mF c, fv D b mG d] W fun r w' => ∃ s e, r = .returned (.tuple #[fv D s nM e, .int .i64 0]) ∧ PcsAt s M w' ∧ Below W.heap.size W w') := Lib.hid fun W z z' => by
      have h := paddf_any D D a b c d F G W z z'
      rw [← HMM.out.1, cmb_pos HVF.out HVG.out (by have := HMM.out.2.2.1; omega), if_pos HMM.out.2.1, ← HMF.out, ← HMG.out] at h
      exact h.mono (fun r w' ⟨s, e, h1, h2, _, _, h5⟩ => ⟨s, e, by rw [HMM.out.2.2.2]; exact h1, h2, h5⟩)
    have HA2 : Hid (∀ W, PcsAt b G W → PcsAt a F W → Calls Try.prog 11 #[fv D b mG d, fv D a mF c] W fun r w' => ∃ s e, r = .returned (.tuple #[fv D s nM e, .int .i64 0]) ∧ PcsAt s M w' ∧ Below W.heap.size W w') := Lib.hid fun W z z' => by
      have h := paddf_any D D b a d c G F W z z'
      rw [add_comm HG.out.ok.inc HF.out.ok.inc, ← HMM.out.1, cmb_pos HVG.out HVF.out (by have := HMM.out.2.2.1; omega), if_pos HMM.out.2.1, ← HMF.out, ← HMG.out] at h
      exact h.mono (fun r w' ⟨s, e, h1, h2, _, _, h5⟩ => ⟨s, e, by rw [HMM.out.2.2.2]; exact h1, h2, h5⟩)
    have f0 := HX0.out.f0
    have f1 := HX0.out.f1
    have g0 := HX1.out.f0
    have g1 := HX1.out.f1
    go_upto_region 6 with (go_at_call 11; (with_reducible refine (HA1.out _ HX0.out.p HX1.out.p).mono ?_); rintro _ W4 ⟨s, es, rfl, hp, hb⟩; have HK := Lib.hid hb; have HP := Lib.hid hp; clear hb hp)
    have hk := HK.out.trans ((Sp.alloc_below W4 (fb D s nM es)).mono HK.out.size)
    replace HX0 := Lib.hid (HX0.out.below hk)
    replace HX1 := Lib.hid (HX1.out.below hk)
    replace HXh := Lib.hid (HXh.out.below hk)
    have HX2 := Lib.hid (slf_new (D := D) (c := es) HP.out)
    replace HB := Lib.hid (HB.out.trans (hk.mono HB.out.size))
    rw [← HMM.out.2.2.2] at HX2
    change Code.wp _ _ _ _ (W4.alloc (fb D s nM es))
    clear hk HK HP HA1 f0 f1 g0 g1
    generalize W4.alloc (fb D s nM es) = Ws at *
    generalize W4.heap.size = x2 at *
    have f0 := HX1.out.f0
    have f1 := HX1.out.f1
    have g0 := HX0.out.f0
    have g1 := HX0.out.f1
    go_upto_region 7 with (go_at_call 11; (with_reducible refine (HA2.out _ HX1.out.p HX0.out.p).mono ?_); rintro _ W5 ⟨t, et, rfl, hp, hb⟩; have HK := Lib.hid hb; have HP := Lib.hid hp; clear hb hp)
    have hk := HK.out.trans ((Sp.alloc_below W5 (fb D t nM et)).mono HK.out.size)
    replace HX0 := Lib.hid (HX0.out.below hk)
    replace HX1 := Lib.hid (HX1.out.below hk)
    replace HXh := Lib.hid (HXh.out.below hk)
    replace HX2 := Lib.hid (HX2.out.below hk)
    have HX3 := Lib.hid (slf_new (D := D) (c := et) HP.out)
    replace HB := Lib.hid (HB.out.trans (hk.mono HB.out.size))
    rw [← HMM.out.2.2.2] at HX3
    change Code.wp _ _ _ _ (W5.alloc (fb D t nM et))
    clear hk HK HP HA2 f0 f1 g0 g1
    generalize W5.alloc (fb D t nM et) = Wt at *
    generalize W5.heap.size = x3 at *
    obtain ⟨Du, Lu, Eu, hT⟩ : ∃ x y z, cmbT D D M H (Pw.add M H) = (x, y, z) := ⟨_, _, _, rfl⟩
    obtain ⟨nU, hnU⟩ : ∃ n, n = Lu.length := ⟨_, rfl⟩
    have HA3 : Hid (∀ W, PcsAt s M W → PcsAt h H W → Calls Try.prog 11 #[fv D s nM es, fv D h nH k] W fun r w' => ∃ s e, r = .returned (.tuple #[fv Du s nU e, .int .i64 Eu]) ∧ PcsAt s Lu w' ∧ Below W.heap.size W w') := Lib.hid fun W z z' => by
      have h := paddf_any D D s h es k M H W z z'
      rw [hT, ← HMM.out.2.2.2, ← HNH.out] at h
      exact h.mono (fun r w' ⟨s, e, h1, h2, _, _, h5⟩ => ⟨s, e, by rw [hnU]; exact h1, h2, h5⟩)
    have HA3T := Lib.hid (And.intro hT hnU)
    clear hT hnU
    have f0 := HX2.out.f0
    have f1 := HX2.out.f1
    have g0 := HXh.out.f0
    have g1 := HXh.out.f1
    go_upto_region 8 with (go_at_call 11; (with_reducible refine (HA3.out _ HX2.out.p HXh.out.p).mono ?_); rintro _ W6 ⟨u, eu, rfl, hp, hb⟩; have HK := Lib.hid hb; have HP := Lib.hid hp; clear hb hp)
    have hk := HK.out.trans ((Sp.alloc_below W6 (fb Du u nU eu)).mono HK.out.size)
    replace HX0 := Lib.hid (HX0.out.below hk)
    replace HX1 := Lib.hid (HX1.out.below hk)
    replace HXh := Lib.hid (HXh.out.below hk)
    replace HX2 := Lib.hid (HX2.out.below hk)
    replace HX3 := Lib.hid (HX3.out.below hk)
    have HX4 := Lib.hid (slf_new (D := Du) (c := eu) HP.out)
    replace HB := Lib.hid (HB.out.trans (hk.mono HB.out.size))
    rw [← HA3T.out.2] at HX4
    change Code.wp _ _ _ _ (W6.alloc (fb Du u nU eu))
    clear hk HK HP HA3 f0 f1 g0 g1
    generalize W6.alloc (fb Du u nU eu) = Wu at *
    generalize W6.heap.size = x4 at *
    obtain ⟨Dg, Lg, Eg, hT⟩ : ∃ x y z, cmbT D D G H (Pw.add G H) = (x, y, z) := ⟨_, _, _, rfl⟩
    obtain ⟨nG, hnG⟩ : ∃ n, n = Lg.length := ⟨_, rfl⟩
    have HA4 : Hid (∀ W, PcsAt b G W → PcsAt h H W → Calls Try.prog 11 #[fv D b mG d, fv D h nH k] W fun r w' => ∃ s e, r = .returned (.tuple #[fv Dg s nG e, .int .i64 Eg]) ∧ PcsAt s Lg w' ∧ Below W.heap.size W w') := Lib.hid fun W z z' => by
      have h := paddf_any D D b h d k G H W z z'
      rw [hT, ← HMG.out, ← HNH.out] at h
      exact h.mono (fun r w' ⟨s, e, h1, h2, _, _, h5⟩ => ⟨s, e, by rw [hnG]; exact h1, h2, h5⟩)
    have HA4T := Lib.hid (And.intro hT hnG)
    clear hT hnG
    have f0 := HX1.out.f0
    have f1 := HX1.out.f1
    have g0 := HXh.out.f0
    have g1 := HXh.out.f1
    go_upto_region 9 with (go_at_call 11; (with_reducible refine (HA4.out _ HX1.out.p HXh.out.p).mono ?_); rintro _ W7 ⟨gh, eg, rfl, hp, hb⟩; have HK := Lib.hid hb; have HP := Lib.hid hp; clear hb hp)
    have hk := HK.out.trans ((Sp.alloc_below W7 (fb Dg gh nG eg)).mono HK.out.size)
    replace HX0 := Lib.hid (HX0.out.below hk)
    replace HX1 := Lib.hid (HX1.out.below hk)
    replace HXh := Lib.hid (HXh.out.below hk)
    replace HX2 := Lib.hid (HX2.out.below hk)
    replace HX3 := Lib.hid (HX3.out.below hk)
    replace HX4 := Lib.hid (HX4.out.below hk)
    have HX5 := Lib.hid (slf_new (D := Dg) (c := eg) HP.out)
    replace HB := Lib.hid (HB.out.trans (hk.mono HB.out.size))
    rw [← HA4T.out.2] at HX5
    change Code.wp _ _ _ _ (W7.alloc (fb Dg gh nG eg))
    clear hk HK HP HA4 f0 f1 g0 g1
    generalize W7.alloc (fb Dg gh nG eg) = Wq at *
    generalize W7.heap.size = x5 at *
    obtain ⟨Dv, Lv, Ev, hT⟩ : ∃ x y z, cmbT D Dg F Lg (Pw.add F Lg) = (x, y, z) := ⟨_, _, _, rfl⟩
    obtain ⟨nV, hnV⟩ : ∃ n, n = Lv.length := ⟨_, rfl⟩
    have HA5 : Hid (∀ W, PcsAt a F W → PcsAt gh Lg W → Calls Try.prog 11 #[fv D a mF c, fv Dg gh nG eg] W fun r w' => ∃ s e, r = .returned (.tuple #[fv Dv s nV e, .int .i64 Ev]) ∧ PcsAt s Lv w' ∧ Below W.heap.size W w') := Lib.hid fun W z z' => by
      have h := paddf_any D Dg a gh c eg F Lg W z z'
      rw [hT, ← HMF.out, ← HA4T.out.2] at h
      exact h.mono (fun r w' ⟨s, e, h1, h2, _, _, h5⟩ => ⟨s, e, by rw [hnV]; exact h1, h2, h5⟩)
    have HA5T := Lib.hid (And.intro hT hnV)
    clear hT hnV
    have f0 := HX0.out.f0
    have f1 := HX0.out.f1
    have g0 := HX5.out.f0
    have g1 := HX5.out.f1
    go_upto_region 10 with (go_at_call 11; (with_reducible refine (HA5.out _ HX0.out.p HX5.out.p).mono ?_); rintro _ W8 ⟨v, ev, rfl, hp, hb⟩; have HK := Lib.hid hb; have HP := Lib.hid hp; clear hb hp)
    have hk := HK.out.trans ((Sp.alloc_below W8 (fb Dv v nV ev)).mono HK.out.size)
    replace HX0 := Lib.hid (HX0.out.below hk)
    replace HX1 := Lib.hid (HX1.out.below hk)
    replace HXh := Lib.hid (HXh.out.below hk)
    replace HX2 := Lib.hid (HX2.out.below hk)
    replace HX3 := Lib.hid (HX3.out.below hk)
    replace HX4 := Lib.hid (HX4.out.below hk)
    replace HX5 := Lib.hid (HX5.out.below hk)
    have HX6 := Lib.hid (slf_new (D := Dv) (c := ev) HP.out)
    replace HB := Lib.hid (HB.out.trans (hk.mono HB.out.size))
    rw [← HA5T.out.2] at HX6
    change Code.wp _ _ _ _ (W8.alloc (fb Dv v nV ev))
    clear hk HK HP HA5 f0 f1 g0 g1
    generalize W8.alloc (fb Dv v nV ev) = Wv at *
    generalize W8.heap.size = x6 at *
    have HSM : Hid (∀ W, PcsAt s M W → PcsAt t M W → Calls Try.prog 18 #[fv D s nM es, fv D t nM et] W fun r w' => r = .returned (.bool true) ∧ Below W.heap.size W w') := Lib.hid fun W z z' => by
      have h := rsamef_any D D s t es et M M W (by have := HMM.out.2.2.1; omega) (by have := HMM.out.2.2.1; omega) z z'
      rw [← HMM.out.2.2.2] at h
      exact h.mono (fun r w' q => ⟨by rw [q.1]; simp, q.2⟩)
    have HAG1 : Hid (∀ W, PcsAt a F W → PcsAt b G W → Calls Try.prog 26 #[fv D a mF c, fv D b mG d, .int .i64 x] W (ArgPost W (mF + mG))) := Lib.hid fun W z z' => by
      have h := args_any D D x a b c d F G W HRX.out (by have := HF.out.len; omega) (by have := HG.out.len; omega) HF.out.ok HG.out.ok z z'
      rw [← HMF.out, ← HMG.out] at h
      exact h
    have HN60 := Lib.hid (show mF ≤ 30 ∧ mG ≤ 30 by have := HF.out.len; have := HG.out.len; have := HMF.out; have := HMG.out; omega)
    have HXA := Lib.hid (fun W (k : Below Wv.heap.size Wv W) => (And.intro (HX0.out.below k) (And.intro (HX1.out.below k) (And.intro (HXh.out.below k) (And.intro (HX2.out.below k) (And.intro (HX3.out.below k) (And.intro (HX4.out.below k) (And.intro (HX5.out.below k) (HX6.out.below k)))))))))
    have HBA := Lib.hid (fun W (k : Below Wv.heap.size Wv W) => (show Below w.heap.size w W from HB.out.trans (k.mono HB.out.size)))
    have s0 := HX2.out.f0
    have s1 := HX2.out.f1
    have t0 := HX3.out.f0
    have t1 := HX3.out.f1
    have f0 := HX0.out.f0
    have f1 := HX0.out.f1
    go_upto_region 13 with (go_at_call 18; (with_reducible refine (HSM.out _ HX2.out.p HX3.out.p).mono ?_); rintro _ W9 ⟨rfl, kn⟩; have HK9 := Lib.hid kn; have f0 := (HX0.out.below kn).f0; have s0 := (HX2.out.below kn).f0; clear kn)
    clear s1 t0 t1 f1
    have f1 := (HX0.out.below HK9.out).f1
    have g0 := (HX1.out.below HK9.out).f0
    have g1 := (HX1.out.below HK9.out).f1
    clear HSM HX2 HX3 HX4 HX5 HX6 HXh HB
    go_upto_region 14 with (go_at_call 26; (with_reducible refine (HAG1.out _ (HX0.out.below HK9.out).p (HX1.out.below HK9.out).p).mono ?_); rintro _ WA ⟨v1, S1, rfl, hrow, hbd, hlen, hpos, hb⟩; have HK7 := Lib.hid (HK9.out.trans (hb.mono HK9.out.size)); obtain ⟨g2, c2, rfl, -, hc2⟩ := hrow.cells hpos; have HR1 := Lib.hid (And.intro hc2 (And.intro hbd hlen)); obtain ⟨N, hN⟩ : ∃ n, n = S1.length := ⟨_, rfl⟩; have HN := Lib.hid hN; rw [← hN]; clear hrow hbd hlen hpos hb hc2 hN)
    have hlen : N ≤ 300 := by have := HN.out; have := HR1.out.2.2; have := HN60.out; omega
    clear HX0 HX1 HAG1 HK9 f0 f1 g0 g1 s0 HN60 q0 q1 p0 p1 r0 r1
    have HFN := Lib.hid (fun C (h0 : 0 ≤ C) (h1 : C ≤ 1000000000000) => And.intro (HF.out.num h0 h1) (And.intro (HG.out.num h0 h1) (show Pw.num M C = Pw.num F C + Pw.num G C by have h := add_num HF.out.ok HG.out.ok (by rw [← HMM.out.1]; exact (vd_ok HMM.out.2.1).1) h0; rw [← HMM.out.1] at h; exact h)))
    have HNS : Hid (Eu = 0 → Eg = 0 → Ev = 0 → Du = D ∧ Dv = D ∧ vdB D Lu = true ∧ vdB D Lv = true ∧ ∀ C, 0 ≤ C → Pw.num Lu C = Pw.num Lv C) := Lib.hid fun e1 e2 e3 => by
      obtain ⟨u1, u2, u3⟩ := cmb_zero HA3T.out.1 e1
      obtain ⟨w1, w2, w3⟩ := cmb_zero HA4T.out.1 e2
      obtain ⟨y1, y2, y3⟩ := cmb_zero HA5T.out.1 e3
      exact ⟨u1, y1, by rw [u2]; exact u3, by rw [y2]; exact y3, fun C h0 => sums_three HF.out.ok HG.out.ok HH3.out.ok HMM.out.1 (vd_ok HMM.out.2.1).1 w2 (by rw [w2]; exact (vd_ok w3).1) u2 (by rw [u2]; exact (vd_ok u3).1) y2 (by rw [y2]; exact (vd_ok y3).1) h0⟩
    go_wp2_with fail
    go_loopg [9, 116] N (fun g s9 s116 wx => ∃ k : Nat, k + g = N ∧ s9 = .bool true ∧ s116 = .int .i64 k ∧ Hid (Below WA.heap.size WA wx))
    case atStart => exact ⟨0, by omega, rfl, rfl, Below.refl _ _⟩
    case round =>
      obtain ⟨k, hk, rfl, rfl, HB⟩ := hrel
      cases gk with
      | zero =>
        obtain rfl : k = N := by omega
        go_wp2
        go_ret
        exact ⟨rfl, HBA.out _ (HK7.out.trans (HB.out.mono HK7.out.size))⟩
      | succ g =>
        have hlt : (k : Int) < (N : Int) := by omega
        have hk0 : (0 : Int) ≤ (k : Int) := by omega
        have hwk : IntKind.i64.wrap ((k : Int) + 1) = (k : Int) + 1 := IntWalk.i64_in _ (by omega)
        obtain ⟨C, hC⟩ : ∃ C, S1[k]? = some C := ⟨_, List.getElem?_eq_getElem (by have := HN.out; omega)⟩
        have hcC := Sp.cell_kept HB.out (HR1.out.1 k C hC)
        have hCb := HR1.out.2.1 C (List.mem_of_getElem? hC)
        obtain ⟨hn1, hn2, hn3⟩ := HFN.out C hCb.1 hCb.2
        obtain ⟨A0, hA0⟩ : ∃ A, Pw.num F C = A := ⟨_, rfl⟩
        obtain ⟨B0, hB0⟩ : ∃ B, Pw.num G C = B := ⟨_, rfl⟩
        rw [hA0] at hn1 hn3
        rw [hB0] at hn2 hn3
        have hwab : IntKind.i64.wrap (A0 + B0) = A0 + B0 := IntWalk.i64_in _ (by omega)
        have hpq := HNS.out
        have HEF : Hid (∀ W, PcsAt a F W → Calls Try.prog 22 #[fv D a mF c, .int .i64 C] W fun r w' => r = .returned (.tuple #[.int .i64 A0, .int .i64 D, .int .i64 0]) ∧ Below W.heap.size W w') := Lib.hid fun W z => by
          have h := peval_any D C a c F W z
          rw [← HMF.out] at h
          exact h.mono (fun r w' q => ⟨(q.1.trans (ev_pos ⟨HVF.out, hCb.1, hCb.2⟩)).trans (by rw [hA0]), q.2⟩)
        have HEG : Hid (∀ W, PcsAt b G W → Calls Try.prog 22 #[fv D b mG d, .int .i64 C] W fun r w' => r = .returned (.tuple #[.int .i64 B0, .int .i64 D, .int .i64 0]) ∧ Below W.heap.size W w') := Lib.hid fun W z => by
          have h := peval_any D C b d G W z
          rw [← HMG.out] at h
          exact h.mono (fun r w' q => ⟨(q.1.trans (ev_pos ⟨HVG.out, hCb.1, hCb.2⟩)).trans (by rw [hB0]), q.2⟩)
        have HES : Hid (∀ W, PcsAt s M W → Calls Try.prog 22 #[fv D s nM es, .int .i64 C] W fun r w' => r = .returned (.tuple #[.int .i64 (A0 + B0), .int .i64 D, .int .i64 0]) ∧ Below W.heap.size W w') := Lib.hid fun W z => by
          have h := peval_any D C s es M W z
          rw [← HMM.out.2.2.2] at h
          exact h.mono (fun r w' q => ⟨(q.1.trans (ev_pos ⟨HMM.out.2.1, hCb.1, hCb.2⟩)).trans (by rw [hn3]), q.2⟩)
        have HC := Lib.hid hCb
        clear hC hCb hn1 hn2 hn3 hA0 hB0 hpq
        have f0 := ((HXA.out _ (HK7.out.trans (HB.out.mono HK7.out.size))).1).f0
        have f1 := ((HXA.out _ (HK7.out.trans (HB.out.mono HK7.out.size))).1).f1
        go_upto_region 17 with (go_at_call 22; ((with_reducible refine (HEF.out _ ((HXA.out _ (HK7.out.trans (HB.out.mono HK7.out.size))).1).p).mono ?_); rintro _ wn ⟨rfl, kn⟩); replace HB := Lib.hid (HB.out.trans (kn.mono HB.out.size)); clear f0 f1 kn)
        clear HEF
        have f0 := ((HXA.out _ (HK7.out.trans (HB.out.mono HK7.out.size))).2.1).f0
        have f1 := ((HXA.out _ (HK7.out.trans (HB.out.mono HK7.out.size))).2.1).f1
        go_upto_region 18 with (go_at_call 22; ((with_reducible refine (HEG.out _ ((HXA.out _ (HK7.out.trans (HB.out.mono HK7.out.size))).2.1).p).mono ?_); rintro _ wn ⟨rfl, kn⟩); replace HB := Lib.hid (HB.out.trans (kn.mono HB.out.size)); clear f0 f1 kn)
        clear HEG
        have f0 := ((HXA.out _ (HK7.out.trans (HB.out.mono HK7.out.size))).2.2.2.1).f0
        have f1 := ((HXA.out _ (HK7.out.trans (HB.out.mono HK7.out.size))).2.2.2.1).f1
        go_upto_region 19 with (go_at_call 22; ((with_reducible refine (HES.out _ ((HXA.out _ (HK7.out.trans (HB.out.mono HK7.out.size))).2.2.2.1).p).mono ?_); rintro _ wn ⟨rfl, kn⟩); replace HB := Lib.hid (HB.out.trans (kn.mono HB.out.size)); clear f0 f1 kn)
        clear HES
        have f0 := (HXA.out _ (HK7.out.trans (HB.out.mono HK7.out.size))).1.f0
        go_upto_region 20 with fail
        clear f0
        by_cases e1 : Eu = 0
        · by_cases e2 : Eg = 0
          · by_cases e3 : Ev = 0
            · obtain ⟨rfl, d2, h3, h4, h5⟩ := HNS.out e1 e2 e3
              subst d2; subst e1; subst e2; subst e3
              obtain ⟨Q0, hQ0⟩ : ∃ q, Pw.num Lu C = q := ⟨_, rfl⟩
              have hQ1 : Pw.num Lv C = Q0 := by rw [← h5 C HC.out.1]; exact hQ0
              have HEU : Hid (∀ W, PcsAt u Lu W → Calls Try.prog 22 #[fv Dv u nU eu, .int .i64 C] W fun r w' => r = .returned (.tuple #[.int .i64 Q0, .int .i64 Dv, .int .i64 0]) ∧ Below W.heap.size W w') := Lib.hid fun W z => by
                have h := peval_any Dv C u eu Lu W z
                rw [← HA3T.out.2] at h
                exact h.mono (fun r w' q => ⟨(q.1.trans (ev_pos ⟨h3, HC.out.1, HC.out.2⟩)).trans (by rw [hQ0]), q.2⟩)
              have HEV : Hid (∀ W, PcsAt v Lv W → Calls Try.prog 22 #[fv Dv v nV ev, .int .i64 C] W fun r w' => r = .returned (.tuple #[.int .i64 Q0, .int .i64 Dv, .int .i64 0]) ∧ Below W.heap.size W w') := Lib.hid fun W z => by
                have h := peval_any Dv C v ev Lv W z
                rw [← HA5T.out.2] at h
                exact h.mono (fun r w' q => ⟨(q.1.trans (ev_pos ⟨h4, HC.out.1, HC.out.2⟩)).trans (by rw [hQ1]), q.2⟩)
              clear h3 h4 h5 hQ0 hQ1
              have f0 := ((HXA.out _ (HK7.out.trans (HB.out.mono HK7.out.size))).2.2.2.2.2.1).f0
              have f1 := ((HXA.out _ (HK7.out.trans (HB.out.mono HK7.out.size))).2.2.2.2.2.1).f1
              go_upto_region 22 with (go_at_call 22; ((with_reducible refine (HEU.out _ ((HXA.out _ (HK7.out.trans (HB.out.mono HK7.out.size))).2.2.2.2.2.1).p).mono ?_); rintro _ wn ⟨rfl, kn⟩); replace HB := Lib.hid (HB.out.trans (kn.mono HB.out.size)); clear f0 f1 kn)
              clear HEU
              have f0 := ((HXA.out _ (HK7.out.trans (HB.out.mono HK7.out.size))).2.2.2.2.2.2.2).f0
              have f1 := ((HXA.out _ (HK7.out.trans (HB.out.mono HK7.out.size))).2.2.2.2.2.2.2).f1
              go_upto_region 23 with (go_at_call 22; ((with_reducible refine (HEV.out _ ((HXA.out _ (HK7.out.trans (HB.out.mono HK7.out.size))).2.2.2.2.2.2.2).p).mono ?_); rintro _ wn ⟨rfl, kn⟩); replace HB := Lib.hid (HB.out.trans (kn.mono HB.out.size)); clear f0 f1 kn)
              clear HEV
              go_wp2
              go_roundg g
              case measure => omega
              case rel => exact ⟨k + 1, by omega, rfl, by go_num, HB⟩
            · subst e1; subst e2
              have hz3 : (Ev == 0) = false := by simp [e3]
              go_wp2
              go_roundg g
              case measure => omega
              case rel => exact ⟨k + 1, by omega, rfl, by go_num, HB⟩
          · subst e1
            have hz2 : (Eg == 0) = false := by simp [e2]
            go_wp2
            go_roundg g
            case measure => omega
            case rel => exact ⟨k + 1, by omega, rfl, by go_num, HB⟩
        · have hz1 : (Eu == 0) = false := by simp [e1]
          go_wp2
          go_roundg g
          case measure => omega
          case rel => exact ⟨k + 1, by omega, rfl, by go_num, HB⟩
end Go.Proofs.Ytdoojpilogcnjaa.Pw
namespace Go.Proofs.Ytdoojpilogcnjaa.Pw
open Go.ChangeShapes Go.WideShapes Go.ChangeAt Go.RowKit Go.Proofs.Ytdoojpilogcnjaa.Sp
set_option maxRecDepth 100000 in
theorem sumsLaw_lifted (os : Os) (started : os.Started) (H : Type) (enc : TypeId × Value → H) :
    ReturnsInHanded {} Try.checked os 4 .any (Rows.piecewiseSumsSpec.pre6 enc Try.prog Try.f4 Rows.piecewiseSumsRow.domain false) (Rows.piecewiseSumsSpec.post enc Try.prog Try.f4 false true false false) := by
  refine returnsInHanded_of_change (C := Try.checked) Sp.own started (by kernel_rfl) Try.func4
    (ChangeSpec.witness6 (enc := enc) (C := Try.checked) false ⟨#[], #[.slice none 0 0, .slice none 0 0, .int .i64 0, .int .i64 0], []⟩ 8 (by kernel_rfl) (by kernel_rfl) (by kernel_rfl) (by kernel_rfl)) ?_
  intro W base args ds gs before hval0 hW hcnd _
  have hval : ∀ (j : Nat) t v, Try.f4.params[j]? = some t → args[j]? = some v → Value.okWide Try.prog W .any base t v := hval0
  have hW' := hW
  have hlt := hW.lt
  obtain ⟨p, q, hA0, hV, rfl, hfz, hnd⟩ := hW
  have hA : DataW.TrodAll enc Try.prog W 0 (fun _ => true) true Try.f4.params.toList args.toList ds p := hA0
  have hkeep := fun W' (hb : Below W.heap.size W W') => trodAll_below Sp.laidOut hb (by rw [Try.params4]; intro t ht; simp only [List.mem_cons, List.not_mem_nil, or_false] at ht; rcases ht with rfl | rfl | rfl | rfl <;> exact ⟨by kernel_rfl, of_decide_eq_true (by kernel_rfl)⟩) hA (fun x hx => hlt x (List.mem_append_left _ hx))
  rw [Try.params4] at hA hval
  obtain ⟨v0, vs0, d0, ds0, p0, q0, hargs, rfl, rfl, h0, r0⟩ := trodAll_cons hA
  obtain ⟨v1, vs1, d1, ds1, p1, q1, rfl, rfl, rfl, h1, r1⟩ := trodAll_cons r0
  obtain ⟨v2, vs2, d2, ds2, p2, q2, rfl, rfl, rfl, h2, r2⟩ := trodAll_cons r1
  obtain ⟨v3, vs3, d3, ds3, p3, q3, rfl, rfl, rfl, h3, r3⟩ := trodAll_cons r2
  obtain ⟨rfl, rfl, rfl⟩ := trodAll_nil r3
  obtain rfl : args = #[v0, v1, v2, v3] := by cases args; simp_all
  obtain ⟨rfl, rfl⟩ := trodVars_none hV
  obtain ⟨a0, c0, x0, rfl, z0⟩ := open_pcs (hval 0 25 v0 rfl rfl) h0
  obtain ⟨a1, c1, x1, rfl, z1⟩ := open_pcs (hval 1 25 v1 rfl rfl) h1
  obtain ⟨y2, rfl, rfl, rfl, w2⟩ := open_int Try.underlying3 (hval 2 3 v2 rfl rfl) h2
  obtain ⟨y3, rfl, rfl, rfl, w3⟩ := open_int Try.underlying3 (hval 3 3 v3 rfl rfl) h3
  clear hA0 hval0
  simp only [List.append_nil] at hW'
  refine (sumsLaw_walk y2 y3 a0 c0 x0 a1 c1 x1 W (bounds_i64 w2) (bounds_i64 w3) (Nat.le_trans z0.len (by decide)) z0.rg z0.at_ z0.cap z0.none (Nat.le_trans z1.len (by decide)) z1.rg z1.at_ z1.cap z1.none).mono fun e W' ⟨he, hg⟩ => ?_
  subst he
  exact ⟨_, rfl, _, _, _, [], _, [], hW', trodAll_mk1 (shut_bool Try.underlying4 _), hkeep W' hg, rfl, hg.frame _, fun h => by cases h⟩
theorem sumsLaw_said : Rows.PiecewiseSumsSaid :=
  OpenClaim.holds_of_wide 4 Try.f4 rfl rfl rfl rfl rfl rfl rfl ⟨rfl, rfl, rfl, rfl, rfl⟩ rfl rfl rfl rfl rfl (by kernel_rfl) Try.func4 (by kernel_rfl)
    (of_decide_eq_true (by kernel_rfl)) (by unfold Func.isWrapper; first | (rw [if_pos (by decide +kernel)]; kernel_rfl) | (rw [if_neg (by decide +kernel)]; exact ⟨rfl, rfl⟩))
    (fun os started H enc _ => sumsLaw_lifted os started H enc)
end Go.Proofs.Ytdoojpilogcnjaa.Pw
