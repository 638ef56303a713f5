/- What the laws' pick and Made return. Conditions: the numbers are Go's ints; the list lies in memory as the argument says. -/
import Derived.Test.YtdoojpilogcnjaaPwHead
import Derived.Deep.CutRange
set_option linter.unusedVariables false
set_option linter.unusedSimpArgs false
namespace Go.Proofs.Ytdoojpilogcnjaa.Pw
open Go.RowKit Go.Proofs.Ytdoojpilogcnjaa.Sp
def Rg (x : Int) : Prop := -9223372036854775808 ≤ x ∧ x ≤ 9223372036854775807
def pk (c n : Int) : Int := (if c < 0 then -(c + 1) else c) % n
theorem pk_bd {c n : Int} (h : 0 < n) : 0 ≤ pk c n ∧ pk c n < n := ⟨Int.emod_nonneg _ (by omega), Int.emod_lt_of_pos _ h⟩
theorem pick_any (c n : Int) (w : World) (hc : Rg c) (h0 : 0 < n) (h1 : n ≤ 9000000000000000000) : Calls Try.prog 17 #[.int .i64 c, .int .i64 n] w fun r w' => r = .returned (.int .i64 (pk c n)) ∧ w' = w := by
  obtain ⟨c0, c1⟩ := hc
  have hb := pk_bd (c := c) h0
  have hn0 : ¬ n = 0 := by omega
  by_cases h : c < 0
  · have hw1 : IntKind.i64.wrap (c + 1) = c + 1 := IntWalk.i64_in _ (by omega)
    have hw2 : IntKind.i64.wrap (-(c + 1)) = -(c + 1) := IntWalk.i64_in _ (by omega)
    have he : (-(c + 1)).tmod n = pk c n := by rw [Int.tmod_eq_emod_of_nonneg (by omega)]; unfold pk; rw [if_pos h]
    generalize pk c n = v at *
    have hw3 : IntKind.i64.wrap v = v := IntWalk.i64_in _ (by omega)
    clear hb h0 h1 c0 c1
    go_enter Try.func17, Try.ntmps17
    go_wp2
    go_ret
    exact ⟨ret_int (by first | rfl | exact he | (rw [he]) | (rw [he]; exact hw3)), rfl⟩
  · have he : c.tmod n = pk c n := by rw [Int.tmod_eq_emod_of_nonneg (by omega)]; unfold pk; rw [if_neg h]
    generalize pk c n = v at *
    have hw3 : IntKind.i64.wrap v = v := IntWalk.i64_in _ (by omega)
    clear hb h0 h1 c0 c1
    go_enter Try.func17, Try.ntmps17
    go_wp2
    go_ret
    exact ⟨ret_int (by first | rfl | exact he | (rw [he]) | (rw [he]; exact hw3)), rfl⟩
/-- What Made's functions are. -/
structure Fine (L : List Pc) : Prop where
  ok : Ok L
  len : L.length ≤ 30
  at_ : ∀ p ∈ L, -1000000000 ≤ p.2.1 ∧ p.2.1 ≤ 1000000000
  sl : ∀ p ∈ L, -2000 ≤ p.2.2 ∧ p.2.2 ≤ 2000
/-- The pieces so far, and where the next one begins. -/
structure Part (i : Nat) (L : List Pc) (fr : Int) : Prop where
  inc : Inc L
  len : L.length = i
  lt : ∀ p ∈ L, p.1 < fr
  zero : ∀ p, L[0]? = some p → p.1 = 0
  start : i = 0 → fr = 0
  pos : 0 ≤ fr
  top : fr ≤ 30000000000 * i
  at_ : ∀ p ∈ L, -1000000000 ≤ p.2.1 ∧ p.2.1 ≤ 1000000000
  sl : ∀ p ∈ L, -2000 ≤ p.2.2 ∧ p.2.2 ≤ 2000
theorem Part.start_ : Part 0 [] 0 := ⟨List.Pairwise.nil, rfl, (fun p hp => by cases hp), (fun p hp => by simp at hp), (fun _ => rfl), by decide, by decide, (fun p hp => by cases hp), (fun p hp => by cases hp)⟩
theorem Part.push {i : Nat} {L : List Pc} {fr : Int} (h : Part i L fr) {y z k : Int} (hy : -1000000000 ≤ y ∧ y ≤ 1000000000) (hz : -2000 ≤ z ∧ z ≤ 2000) (hk : 0 ≤ k ∧ k < 30000000000) : Part (i + 1) (L ++ [(fr, y, z)]) (fr + (1 + k)) := by
  refine ⟨?_, ?_, fun p hp => ?_, fun p hp => ?_, (fun e => by cases e), (by have := h.pos; omega), (by have := h.top; omega), fun p hp => ?_, fun p hp => ?_⟩
  · refine List.pairwise_append.2 ⟨h.inc, List.pairwise_singleton _ _, fun p hp q hq => ?_⟩
    obtain rfl := List.mem_singleton.1 hq
    exact h.lt p hp
  · rw [List.length_append, h.len]; rfl
  · rcases List.mem_append.1 hp with hp | hp
    · have := h.lt p hp; omega
    · obtain rfl := List.mem_singleton.1 hp; show fr < _; omega
  · cases L with
    | nil =>
      obtain rfl := Option.some.inj hp
      exact h.start h.len.symm
    | cons q L => exact h.zero p hp
  · rcases List.mem_append.1 hp with hp | hp
    · exact h.at_ p hp
    · obtain rfl := List.mem_singleton.1 hp; exact hy
  · rcases List.mem_append.1 hp with hp | hp
    · exact h.sl p hp
    · obtain rfl := List.mem_singleton.1 hp; exact hz
theorem Part.fine {i : Nat} {L : List Pc} {fr : Int} (h : Part i L fr) (h0 : 0 < i) (h1 : i ≤ 30) : Fine L := by
  refine ⟨⟨h.inc, ?_, fun p hp => ?_, fun p hp => ?_, fun p hp => ?_⟩, by rw [h.len]; exact h1, h.at_, h.sl⟩
  · cases L with
    | nil => have := h.len; simp at this; omega
    | cons q L => exact ⟨q, L, rfl, h.zero q rfl⟩
  · have := h.lt p hp; have := h.top; omega
  · have := h.at_ p hp; omega
  · have := h.sl p hp; omega
theorem fine_one : Fine [(0, 0, 0)] := ⟨⟨List.pairwise_singleton _ _, ⟨_, _, rfl, rfl⟩, (fun p hp => by obtain rfl := List.mem_singleton.1 hp; decide), fun p hp => by obtain rfl := List.mem_singleton.1 hp; decide, (fun p hp => by obtain rfl := List.mem_singleton.1 hp; decide)⟩, by decide, (fun p hp => by obtain rfl := List.mem_singleton.1 hp; decide), (fun p hp => by obtain rfl := List.mem_singleton.1 hp; decide)⟩
theorem fb_cells_m (w : World) (d : Int) (a : Option Addr) (n c : Nat) : (w.alloc (fb d a n c)).cell? ⟨w.heap.size, 0, none⟩ = some (.int .i64 d) ∧ (w.alloc (fb d a n c)).cell? ⟨w.heap.size, 1, none⟩ = some (.slice a n c) ∧ ∀ i, (w.alloc (fb d a n c)).frozen? ⟨w.heap.size, i, none⟩ = false := by
  refine ⟨by simp [World.cell?_alloc_new], by simp [World.cell?_alloc_new], fun i => by simp⟩
/-- What Made leaves. -/
def MadePost (w : World) (D : Int) (n : Nat) (r : Ending) (w' : World) : Prop := ∃ a c L, r = .returned (fv D a L.length c) ∧ PcsAt a L w' ∧ Fine L ∧ L.length ≤ n + 1 ∧ (n = 0 ∨ L.length ≤ n) ∧ Below w.heap.size w w'
/-- What the loop keeps: the result's cell and the box of the function. -/
structure MadeB (w : World) (rb x0 : Nat) (D : Int) (W : World) : Prop where
  f0 : W.cell? ⟨x0, 0, none⟩ = some (.int .i64 D)
  z1 : W.frozen? ⟨x0, 1, none⟩ = false
  q0 : W.cell? ⟨rb, 0, none⟩ = some (.int .i64 0)
  q1 : W.cell? ⟨rb, 1, none⟩ = some (.slice none 0 0)
  y0 : W.frozen? ⟨rb, 0, none⟩ = false
  y1 : W.frozen? ⟨rb, 1, none⟩ = false
  hb : Below w.heap.size w W
theorem MadeB.below {w : World} {rb x0 : Nat} {D : Int} {W W' : World} (h : MadeB w rb x0 D W) (k : Below W.heap.size W W') (hx : ∃ v, W.cell? ⟨x0, 1, none⟩ = some v) : MadeB w rb x0 D W' := by
  obtain ⟨v, hv⟩ := hx
  exact ⟨Sp.cell_kept k h.f0, Pw.frozen_kept k h.z1 hv, Sp.cell_kept k h.q0, Sp.cell_kept k h.q1, Pw.frozen_kept k h.y0 h.q0, Pw.frozen_kept k h.y1 h.q1, h.hb.trans (k.mono h.hb.size)⟩
theorem MadeB.set {w : World} {rb x0 : Nat} {D : Int} {W : World} (h : MadeB w rb x0 D W) (hr : rb < x0) (hw : w.heap.size ≤ rb) (v : Value) : MadeB w rb x0 D (W.setCell ⟨x0, 1, none⟩ v) := by
  refine ⟨?_, by rw [World.frozen?_setCell]; exact h.z1, ?_, ?_, by rw [World.frozen?_setCell]; exact h.y0, by rw [World.frozen?_setCell]; exact h.y1, h.hb.setCell (show w.heap.size ≤ x0 by omega) _⟩
  · rw [World.cell?_setCell_other _ _ _ _ (fun e => by cases e)]; exact h.f0
  · rw [World.cell?_setCell_far _ _ _ _ (show x0 ≠ rb by omega)]; exact h.q0
  · rw [World.cell?_setCell_far _ _ _ _ (show x0 ≠ rb by omega)]; exact h.q1
/-- .. and its pieces so far. -/
structure MadeI (w : World) (rb x0 : Nat) (D : Int) (i : Nat) (L : List Pc) (W : World) : Prop where
  base : MadeB w rb x0 D W
  row : (i = 0 ∧ ∃ g, rb < g ∧ W.cell? ⟨x0, 1, none⟩ = some (.slice (some ⟨g, 0, none⟩) 1 1) ∧ PcsAt (some ⟨g, 0, none⟩) [(0, 0, 0)] W) ∨ (0 < i ∧ ∃ v, W.cell? ⟨x0, 1, none⟩ = some v ∧ RowP W (x0 + 1) v L)
theorem MadeI.cell {w : World} {rb x0 : Nat} {D : Int} {i : Nat} {L : List Pc} {W : World} (h : MadeI w rb x0 D i L W) : ∃ v, W.cell? ⟨x0, 1, none⟩ = some v := by
  rcases h.row with ⟨-, g, -, hg, -⟩ | ⟨-, v, hv, -⟩
  · exact ⟨_, hg⟩
  · exact ⟨_, hv⟩
theorem MadeI.below {w : World} {rb x0 : Nat} {D : Int} {i : Nat} {L : List Pc} {W W' : World} (h : MadeI w rb x0 D i L W) (k : Below W.heap.size W W') : MadeI w rb x0 D i L W' := by
  refine ⟨h.base.below k h.cell, ?_⟩
  rcases h.row with ⟨e, g, hg0, hg, hp⟩ | ⟨e, v, hv, hr⟩
  · exact .inl ⟨e, g, hg0, Sp.cell_kept k hg, hp.below k⟩
  · exact .inr ⟨e, v, Sp.cell_kept k hv, hr.below k⟩
theorem MadeB.push {w : World} {rb x0 : Nat} {D : Int} {i : Nat} {L M : List Pc} {W Wg w' : World} {v v' : Value} (h : MadeB w rb x0 D W) (hr : rb < x0) (hw : w.heap.size ≤ rb) (hv : W.cell? ⟨x0, 1, none⟩ = some v) (hrow : RowP Wg (x0 + 1) v L) (kg : Below W.heap.size W Wg) (hg : Wg.grownBy w' v.ownBlock) (hown : RowP w' (x0 + 1) v' M) :
    MadeI w rb x0 D (i + 1) M (w'.setCell ⟨x0, 1, none⟩ v') := by
  have h2 := h.below kg ⟨v, hv⟩
  have hv2 := Sp.cell_kept kg hv
  have hlo : ∀ j, v.ownBlock = some j → x0 + 1 ≤ j := fun j hj => (World.ownsRow.lt hrow j hj).1
  have bl : ∀ j, j ≤ x0 → j < Wg.heap.size → w'.heap[j]? = Wg.heap[j]? := fun j hj hl => hg.block j hl (fun e => by have := hlo j e.symm; omega)
  have ce : ∀ {p : Addr} {u : Value}, p.block ≤ x0 → Wg.cell? p = some u → w'.cell? p = some u := fun {p u} hp hc => (World.cell?_of_block (w := Wg) (bl p.block hp (World.block_lt_of_cell? Wg p hc))).trans hc
  have fr : ∀ {p : Addr} {u : Value}, p.block ≤ x0 → Wg.cell? p = some u → Wg.frozen? p = false → w'.frozen? p = false := fun {p u} hp hc hf => (frozen_block (bl p.block hp (World.block_lt_of_cell? Wg p hc))).trans hf
  have hb : MadeB w rb x0 D w' := ⟨ce (Nat.le_refl _) h2.f0, fr (Nat.le_refl _) hv2 h2.z1, ce (by show rb ≤ x0; omega) h2.q0, ce (by show rb ≤ x0; omega) h2.q1, fr (by show rb ≤ x0; omega) h2.q0 h2.y0, fr (by show rb ≤ x0; omega) h2.q1 h2.y1, h2.hb.grown hg h2.hb.size (fun j hj => by have := hlo j hj; omega)⟩
  exact ⟨hb.set hr hw v', .inr ⟨Nat.succ_pos _, v', World.cell?_setCell_same' _ _ _ (by rw [ce (Nat.le_refl _) hv2]; rfl), ownsRow_setCell_below hown (show x0 < x0 + 1 by omega) _⟩⟩
theorem MadeB.mid {w : World} {rb x0 : Nat} {D : Int} {L : List Pc} {W Wg w' : World} {v : Value} (h : MadeB w rb x0 D W) (hv : W.cell? ⟨x0, 1, none⟩ = some v) (hrow : RowP Wg (x0 + 1) v L) (kg : Below W.heap.size W Wg) (hg : Wg.grownBy w' v.ownBlock) : w'.cell? ⟨x0, 1, none⟩ = some v ∧ w'.frozen? ⟨x0, 1, none⟩ = false := by
  have hv2 := Sp.cell_kept kg hv
  have hb := hg.block x0 (World.block_lt_of_cell? Wg _ hv2) (fun e => by have := (World.ownsRow.lt hrow x0 e.symm).1; omega)
  exact ⟨(World.cell?_of_block (w := Wg) hb).trans hv2, (frozen_block hb).trans (Pw.frozen_kept kg h.z1 hv)⟩
theorem MadeI.ends {w : World} {rb x0 : Nat} {D : Int} {i : Nat} {L : List Pc} {fr : Int} {W : World} (h : MadeI w rb x0 D i L W) (hp : Part i L fr) (hi : i ≤ 30) (hr : rb < x0) : ∃ a c M, W.cell? ⟨x0, 1, none⟩ = some (.slice a M.length c) ∧ (PcsAt a M W ∧ ∀ b o, a = some ⟨b, o, none⟩ → rb < b) ∧ Fine M ∧ (i = 0 → M.length = 1) ∧ (0 < i → M.length = i) := by
  rcases h.row with ⟨e, g, hg0, hg, hq⟩ | ⟨e, v, hv, hr2⟩
  · exact ⟨_, 1, [(0, 0, 0)], hg, ⟨hq, fun b o e => by cases e; exact hg0⟩, fine_one, fun _ => rfl, fun q => by omega⟩
  · obtain ⟨a, c, rfl, hq, -, -⟩ := hr2.pcs
    exact ⟨a, c, L, hv, ⟨hq, fun b o e => by subst e; have := (World.ownsRow.lt hr2 b rfl).1; omega⟩, hp.fine e hi, fun q => by omega, fun _ => hp.len⟩
/-- A new piece. -/
structure PcNew (X W : World) (a b c : Int) : Prop where
  k : Below X.heap.size X W
  c0 : W.cell? ⟨X.heap.size, 0, none⟩ = some (.int .i64 a)
  c1 : W.cell? ⟨X.heap.size, 1, none⟩ = some (.int .i64 b)
  c2 : W.cell? ⟨X.heap.size, 2, none⟩ = some (.int .i64 c)
  z1 : W.frozen? ⟨X.heap.size, 1, none⟩ = false
theorem PcNew.new {X : World} {a b c : Int} : Hid (PcNew X (X.alloc (pb (a, b, c))).drew a b c) :=
  ⟨(Sp.alloc_below X _).drew, (pb_cells X (a, b, c)).1, (pb_cells X (a, b, c)).2.1, (pb_cells X (a, b, c)).2.2, pb_free X (a, b, c) 1⟩
theorem PcNew.set' {X W : World} {a b c : Int} {q : Nat} (h : PcNew X W a b c) (hq : X.heap.size = q) (b' : Int) : PcNew X (W.setCell ⟨q, 1, none⟩ (.int .i64 b')) a b' c := by
  subst hq
  refine ⟨h.k.setCell (Nat.le_refl _) _, ?_, World.cell?_setCell_same' _ _ _ (by rw [h.c1]; rfl), ?_, by rw [World.frozen?_setCell]; exact h.z1⟩
  · rw [World.cell?_setCell_other _ _ _ _ (fun e => by cases e)]; exact h.c0
  · rw [World.cell?_setCell_other _ _ _ _ (fun e => by cases e)]; exact h.c2
theorem PcNew.cells' {X W : World} {a b c : Int} {q : Nat} (h : PcNew X W a b c) (hq : X.heap.size = q) : W.cell? ⟨q, 0, none⟩ = some (.int .i64 a) ∧ W.cell? ⟨q, 1, none⟩ = some (.int .i64 b) ∧ W.cell? ⟨q, 2, none⟩ = some (.int .i64 c) := by
  subst hq
  exact ⟨h.c0, h.c1, h.c2⟩
set_option maxHeartbeats 8000000 in
set_option maxRecDepth 100000 in
theorem made_any (den : Int) (a : Option Addr) (c : Nat) (l : List Pc) (w : World) (hd : Rg den) (hl : l.length ≤ 9223372036854775807) (hr : ∀ p ∈ l, Rg p.1 ∧ Rg p.2.1 ∧ Rg p.2.2) (z : PcsAt a l w) :
    Calls Try.prog 10 #[.int .i64 den, .slice a l.length c] w (MadePost w (1 + pk den 1000) l.length) := by
  have HPK := Lib.hid (fun c n w hc h0 h1 => pick_any c n w hc h0 h1)
  have HZ := Lib.hid (fun w' (k : Below w.heap.size w w') => z.below k)
  have HR := Lib.hid hr
  have HDP := Lib.hid (fun w => pick_any den 1000 w hd (by decide) (by decide))
  have hD := pk_bd (c := den) (n := 1000) (by decide)
  obtain ⟨D0, hD0⟩ : ∃ D0, D0 = pk den 1000 := ⟨_, rfl⟩
  rw [← hD0] at hD HDP ⊢
  obtain ⟨D, hDD⟩ : ∃ D, D = 1 + D0 := ⟨_, rfl⟩
  have hwD : IntKind.i64.wrap (1 + D0) = D := by rw [hDD]; exact IntWalk.i64_in _ (by omega)
  have hDb : 1 ≤ D ∧ D ≤ 1000 := by omega
  rw [← hDD]
  obtain ⟨n, hn⟩ : ∃ n, n = l.length := ⟨_, rfl⟩
  rw [← hn] at hl ⊢
  have HN := Lib.hid hn
  obtain ⟨i0, hi, hz0, hz1, hz2⟩ := info_parts Try.infoP
  have HI0 := Lib.hid (And.intro hi (And.intro hz0 (And.intro hz1 hz2)))
  have hr0 := fb_cells_m w 0 none 0 0
  have hbr := Sp.alloc_below w (fb 0 none 0 0)
  have hsr : (w.alloc (fb 0 none 0 0)).heap.size = w.heap.size + 1 := by simp
  have HRES := Lib.hid (And.intro hr0.1 (And.intro hr0.2.1 (And.intro (hr0.2.2 0) (hr0.2.2 1))))
  clear hi hz0 hz1 hz2 hD hD0 hDD hn hd hr z hr0
  go_enter Try.func10, Try.ntmps10
  go_upto_region 1 with (fail)
  change Code.wp _ _ _ _ (w.alloc (fb 0 none 0 0))
  generalize w.alloc (fb 0 none 0 0) = W1 at *
  generalize hxb : w.heap.size = rb at HRES hsr ⊢
  have HRB := Lib.hid (And.intro hxb hsr)
  have HB1 := Lib.hid hbr
  clear hxb hbr hsr
  go_upto_region 2 with (go_at_call 17; (with_reducible refine (HDP.out _).mono ?_); rintro _ W1 ⟨rfl, rfl⟩)
  obtain ⟨zP, f0, f1, kn⟩ := lay_fn (w := W1) (d := D) (n := 1) (l := [(0, 0, 0)]) (show PcsAt _ _ (W1.alloc (.cells #[.int .i64 0, .int .i64 0, .int .i64 0] 55)) from pcs_new1 W1 (0, 0, 0))
  have fz := (fb_cells_m (W1.alloc (.cells #[.int .i64 0, .int .i64 0, .int .i64 0] 55)) D (some ⟨W1.heap.size, 0, none⟩) 1 1).2.2 1
  rw [show (W1.alloc (.cells #[.int .i64 0, .int .i64 0, .int .i64 0] 55)).heap.size = W1.heap.size + 1 by simp] at fz
  have hI0 : MadeI w rb (W1.heap.size + 1) D 0 [] ((W1.alloc (.cells #[.int .i64 0, .int .i64 0, .int .i64 0] 55)).alloc (fb D (some ⟨W1.heap.size, 0, none⟩) 1 1)) :=
    ⟨⟨f0, fz, Sp.cell_kept kn HRES.out.1, Sp.cell_kept kn HRES.out.2.1, Pw.frozen_kept kn HRES.out.2.2.1 HRES.out.1, Pw.frozen_kept kn HRES.out.2.2.2 HRES.out.2.1, HB1.out.trans (kn.mono HB1.out.size)⟩, .inl ⟨rfl, W1.heap.size, by have := HRB.out; omega, f1, zP⟩⟩
  have HII := Lib.hid hI0
  have hrx : rb < W1.heap.size + 1 := by have := HRB.out; omega
  clear zP f0 f1 kn fz hI0 hwD HDP HRES HB1
  generalize (W1.alloc (.cells #[.int .i64 0, .int .i64 0, .int .i64 0] 55)).alloc (fb D (some ⟨W1.heap.size, 0, none⟩) 1 1) = W2 at *
  generalize W1.heap.size + 1 = x0 at HII hrx ⊢
  have hwr : w.heap.size ≤ rb := by have := HRB.out; omega
  go_wp2
  go_loopg [6, 7] n (fun g s6 s7 wx => ∃ (i : Nat) (L : List Pc) (fr : Int), i + g = n ∧ i ≤ 30 ∧ s7 = .int .i64 i ∧ s6 = .int .i64 fr ∧ Hid (Part i L fr) ∧ Hid (MadeI w rb x0 D i L wx))
  case atStart => exact ⟨0, [], 0, by omega, by omega, rfl, rfl, Part.start_, HII⟩
  case round =>
    clear HII
    obtain ⟨i, L, fr, hi, hi30, rfl, rfl, HPT, HIX⟩ := hrel
    have hi0 : (0 : Int) ≤ (i : Int) := by omega
    by_cases hgo : i < n ∧ i < 30
    · obtain ⟨g, rfl⟩ : ∃ g, gk = g + 1 := ⟨gk - 1, by omega⟩
      have hlt : (i : Int) < (n : Int) := by omega
      have hlt30 : (i : Int) < 30 := by omega
      clear hgo
      obtain ⟨p, hp⟩ : ∃ p, l[i]? = some p := ⟨_, List.getElem?_eq_getElem (by have := HN.out; omega)⟩
      obtain ⟨b, off, rfl, e0, e1, e2⟩ := HZ.out _ HIX.out.base.hb i p hp
      have HZI := Lib.hid (fun w' (q : Below w.heap.size w w') => (show w'.cell? ⟨b, off + i * 3, none⟩ = some (.int .i64 p.1) by obtain ⟨b2, o2, e, u1, -, -⟩ := HZ.out w' q i p hp; cases e; exact u1))
      obtain ⟨hr0, hr1, hr2⟩ := HR.out p (List.mem_of_getElem? hp)
      obtain ⟨u, y, v⟩ := p
      simp only at e0 e1 e2 hr0 hr1 hr2
      have HP1 := Lib.hid (fun w => HPK.out y 2000001 w hr1 (by decide) (by decide))
      have HP2 := Lib.hid (fun w => HPK.out v 4001 w hr2 (by decide) (by decide))
      have HP0 := Lib.hid (fun w => HPK.out u 30000000000 w hr0 (by decide) (by decide))
      have hY := pk_bd (c := y) (n := 2000001) (by decide)
      have hV := pk_bd (c := v) (n := 4001) (by decide)
      have hU := pk_bd (c := u) (n := 30000000000) (by decide)
      have htm := tmod_bd (n := y) (d := 3) (by decide)
      generalize pk y 2000001 = Y at *
      generalize pk v 4001 = V at *
      generalize pk u 30000000000 = U at *
      have hpt := HPT.out.top
      have hpp := HPT.out.pos
      obtain ⟨P, hP⟩ : ∃ P, (Y - 1000000) * D = P := ⟨_, rfl⟩
      have hPb : -1000000000 ≤ P ∧ P ≤ 1000000000 := by
        rw [← hP]
        have m1 : (Y - 1000000) * D ≤ 1000000 * 1000 := by
          rcases Int.le_total 0 (Y - 1000000) with q | q
          · exact Int.mul_le_mul (by omega) hDb.2 (by omega) (by decide)
          · have := Int.mul_nonpos_of_nonpos_of_nonneg q (show 0 ≤ D by omega); omega
        have m2 : -(1000000 * 1000) ≤ (Y - 1000000) * D := by
          have e : (1000000 - Y) * D = -((Y - 1000000) * D) := by rw [← Int.neg_mul]; congr 1; omega
          have : (1000000 - Y) * D ≤ 1000000 * 1000 := by
            rcases Int.le_total 0 (1000000 - Y) with q | q
            · exact Int.mul_le_mul (by omega) hDb.2 (by omega) (by decide)
            · have := Int.mul_nonpos_of_nonpos_of_nonneg q (show 0 ≤ D by omega); omega
          omega
        omega
      have hw1 : IntKind.i64.wrap (Y - 1000000) = Y - 1000000 := IntWalk.i64_in _ (by omega)
      have hw2 : IntKind.i64.wrap ((Y - 1000000) * D) = P := by rw [hP]; exact IntWalk.i64_in _ (by omega)
      have hw3 : IntKind.i64.wrap (V - 2000) = V - 2000 := IntWalk.i64_in _ (by omega)
      have hw4 : IntKind.i64.wrap (1 + U) = 1 + U := IntWalk.i64_in _ (by omega)
      have hw5 : IntKind.i64.wrap (fr + (1 + U)) = fr + (1 + U) := IntWalk.i64_in _ (by omega)
      have hw6 : IntKind.i64.wrap ((i : Int) + 1) = (i : Int) + 1 := IntWalk.i64_in _ (by omega)
      have HBD := Lib.hid (And.intro hPb (And.intro hY (And.intro hV hU)))
      have f0 := HIX.out.base.f0
      obtain ⟨v1, f1⟩ := HIX.out.cell
      have HLT := Lib.hid (World.block_lt_of_cell? _ _ f0)
      have HE := Lib.hid (And.intro f0 (And.intro e0 (And.intro e1 e2)))
      clear hr0 hr1 hr2 hP hPb hpt hpp hp hY hV hU
      have hmix : Try.prog.follows .mixedOrders = true := by kernel_rfl
      go_upto_region 6 with (fail)
      go_cut [8] from 15 to 76 (fun s8 wx => s8 = .pointer (some ⟨wr.heap.size, 0, none⟩) ∧ Hid (PcNew wr wx fr P (V - 2000)))
      case first =>
        refine wp_region_held_drew (S := fun W => W.cell? ⟨x0, 0, none⟩ = some (.int .i64 D) ∧ W.cell? ⟨b, off + i * 3, none⟩ = some (.int .i64 u) ∧ W.cell? ⟨b, off + i * 3 + 1, none⟩ = some (.int .i64 y) ∧ W.cell? ⟨b, off + i * 3 + 2, none⟩ = some (.int .i64 v)) hmix ⟨Sp.cell_kept ((Below.refl _ wr).drew) HE.out.1, Sp.cell_kept ((Below.refl _ wr).drew) HE.out.2.1, Sp.cell_kept ((Below.refl _ wr).drew) HE.out.2.2.1, Sp.cell_kept ((Below.refl _ wr).drew) HE.out.2.2.2⟩ (fun hHeld => ?_)
        refine wpAnyH_take (i := 0) (v := ?_) rfl (by kernel_rfl) (by kernel_rfl) (by kernel_rfl) (fun _ _ _ h => h) (Or.inl ⟨by rfl, ?_⟩) (by assumption) ?_
        rotate_left
        · intro w hSw; (try dsimp only at hSw); go_simp; (try with_reducible rfl)
        (try simp only [Act.put, List.getElem_toArray, List.getElem_cons_succ, List.getElem_cons_zero, List.setIfInBounds_toArray, List.set_cons_zero, List.set_cons_succ])
        refine wpAnyH_take (i := 1) (v := ?_) rfl (by kernel_rfl) (by kernel_rfl) (by kernel_rfl) (fun _ _ _ h => h) (Or.inl ⟨by rfl, ?_⟩) (by assumption) ?_
        rotate_left
        · intro w hSw; (try dsimp only at hSw); go_simp; (try with_reducible rfl)
        (try simp only [Act.put, List.getElem_toArray, List.getElem_cons_succ, List.getElem_cons_zero, List.setIfInBounds_toArray, List.set_cons_zero, List.set_cons_succ])
        refine wpAnyH_take (i := 2) (v := ?_) rfl (by kernel_rfl) (by kernel_rfl) (by kernel_rfl) (fun _ _ _ h => h) (Or.inl ⟨by rfl, ?_⟩) (by assumption) ?_
        rotate_left
        · intro w hSw; (try dsimp only at hSw); go_simp; (try with_reducible rfl)
        (try simp only [Act.put, List.getElem_toArray, List.getElem_cons_succ, List.getElem_cons_zero, List.setIfInBounds_toArray, List.set_cons_zero, List.set_cons_succ])
        refine wpAnyH_take (i := 3) (v := ?_) rfl (by kernel_rfl) (by kernel_rfl) (by kernel_rfl) (fun _ _ _ h => h) (Or.inl ⟨by rfl, ?_⟩) (by assumption) ?_
        rotate_left
        · intro w hSw; (try dsimp only at hSw); go_simp; (try with_reducible rfl)
        (try simp only [Act.put, List.getElem_toArray, List.getElem_cons_succ, List.getElem_cons_zero, List.setIfInBounds_toArray, List.set_cons_zero, List.set_cons_succ])
        refine wpAnyH_take (i := 4) (v := ?_) rfl (by kernel_rfl) (by kernel_rfl) (by kernel_rfl) (fun _ _ _ h => h) (Or.inl ⟨by rfl, ?_⟩) (by assumption) ?_
        rotate_left
        · intro w hSw; (try dsimp only at hSw); go_simp; (try with_reducible rfl)
        (try simp only [Act.put, List.getElem_toArray, List.getElem_cons_succ, List.getElem_cons_zero, List.setIfInBounds_toArray, List.set_cons_zero, List.set_cons_succ])
        refine wpAnyH_take (i := 5) (v := ?_) rfl (by kernel_rfl) (by kernel_rfl) (by kernel_rfl) (fun _ _ _ h => h) (Or.inl ⟨by rfl, ?_⟩) (by assumption) ?_
        rotate_left
        · intro w hSw; (try dsimp only at hSw); go_simp; (try with_reducible rfl)
        (try simp only [Act.put, List.getElem_toArray, List.getElem_cons_succ, List.getElem_cons_zero, List.setIfInBounds_toArray, List.set_cons_zero, List.set_cons_succ])
        refine wpAnyH_take (i := 8) (v := ?_) rfl (by kernel_rfl) (by kernel_rfl) (by kernel_rfl) (fun _ _ _ h => h) (Or.inl ⟨by rfl, ?_⟩) (by assumption) ?_
        rotate_left
        · intro w hSw; (try dsimp only at hSw); go_simp; (try with_reducible rfl)
        (try simp only [Act.put, List.getElem_toArray, List.getElem_cons_succ, List.getElem_cons_zero, List.setIfInBounds_toArray, List.set_cons_zero, List.set_cons_succ])
        refine wpAnyH_take (i := 9) (v := ?_) rfl (by kernel_rfl) (by kernel_rfl) (by kernel_rfl) (fun _ _ _ h => h) (Or.inl ⟨by rfl, ?_⟩) (by assumption) ?_
        rotate_left
        · intro w hSw; (try dsimp only at hSw); go_simp; (try with_reducible rfl)
        (try simp only [Act.put, List.getElem_toArray, List.getElem_cons_succ, List.getElem_cons_zero, List.setIfInBounds_toArray, List.set_cons_zero, List.set_cons_succ])
        refine wpAnyH_take (i := 11) (v := ?_) rfl (by kernel_rfl) (by kernel_rfl) (by kernel_rfl) (fun _ _ _ h => h) (Or.inl ⟨by rfl, ?_⟩) (by assumption) ?_
        rotate_left
        · intro w hSw; (try dsimp only at hSw); go_simp; (try with_reducible rfl)
        (try simp only [Act.put, List.getElem_toArray, List.getElem_cons_succ, List.getElem_cons_zero, List.setIfInBounds_toArray, List.set_cons_zero, List.set_cons_succ])
        refine wpAnyH_take (i := 12) (v := ?_) rfl (by kernel_rfl) (by kernel_rfl) (by kernel_rfl) (fun _ _ _ h => h) (Or.inl ⟨by rfl, ?_⟩) (by assumption) ?_
        rotate_left
        · intro w hSw; (try dsimp only at hSw); go_simp; (try with_reducible rfl)
        (try simp only [Act.put, List.getElem_toArray, List.getElem_cons_succ, List.getElem_cons_zero, List.setIfInBounds_toArray, List.set_cons_zero, List.set_cons_succ])
        refine wpAnyH_take (i := 13) (v := ?_) rfl (by kernel_rfl) (by kernel_rfl) (by kernel_rfl) (fun _ _ _ h => h) (Or.inl ⟨by rfl, ?_⟩) (by assumption) ?_
        rotate_left
        · intro w hSw; (try dsimp only at hSw); go_simp; (try with_reducible rfl)
        (try simp only [Act.put, List.getElem_toArray, List.getElem_cons_succ, List.getElem_cons_zero, List.setIfInBounds_toArray, List.set_cons_zero, List.set_cons_succ])
        refine wpAnyH_take (i := 14) (v := ?_) rfl (by kernel_rfl) (by kernel_rfl) (by kernel_rfl) (fun _ _ _ h => h) (Or.inl ⟨by rfl, ?_⟩) (by assumption) ?_
        rotate_left
        · intro w hSw; (try dsimp only at hSw); go_simp; (try with_reducible rfl)
        (try simp only [Act.put, List.getElem_toArray, List.getElem_cons_succ, List.getElem_cons_zero, List.setIfInBounds_toArray, List.set_cons_zero, List.set_cons_succ])
        refine wpAnyH_take (i := 15) (v := ?_) rfl (by kernel_rfl) (by kernel_rfl) (by kernel_rfl) (fun _ _ _ h => h) (Or.inl ⟨by rfl, ?_⟩) (by assumption) ?_
        rotate_left
        · intro w hSw; (try dsimp only at hSw); go_simp; (try with_reducible rfl)
        (try simp only [Act.put, List.getElem_toArray, List.getElem_cons_succ, List.getElem_cons_zero, List.setIfInBounds_toArray, List.set_cons_zero, List.set_cons_succ])
        refine wpAnyH_ready (rs := [6, 19]) (by kernel_rfl) (by simp) ?_
        refine AllReadyH.cons rfl (fun K hK => ?_) (AllReadyH.cons rfl (fun K hK => ?_) AllReadyH.nil)
        · go_simp
          refine (HP1.out _).mono ?_
          rintro _ wc ⟨rfl, rfl⟩
          refine hK.out _ _ hHeld (fun hHeld => ?_)
          clear hK K
          (try simp only [Act.put, List.getElem_toArray, List.getElem_cons_succ, List.getElem_cons_zero, List.setIfInBounds_toArray, List.set_cons_zero, List.set_cons_succ])
          refine wpAnyH_take (i := 7) (v := ?_) rfl (by kernel_rfl) (by kernel_rfl) (by kernel_rfl) (fun _ _ _ h => h) (Or.inl ⟨by rfl, ?_⟩) (by assumption) ?_
          rotate_left
          · intro w hSw; (try dsimp only at hSw); go_simp; (try with_reducible rfl)
          (try simp only [Act.put, List.getElem_toArray, List.getElem_cons_succ, List.getElem_cons_zero, List.setIfInBounds_toArray, List.set_cons_zero, List.set_cons_succ])
          refine wpAnyH_take (i := 10) (v := ?_) rfl (by kernel_rfl) (by kernel_rfl) (by kernel_rfl) (fun _ _ _ h => h) (Or.inl ⟨by rfl, ?_⟩) (by assumption) ?_
          rotate_left
          · intro w hSw; (try dsimp only at hSw); go_simp; (try with_reducible rfl)
          (try simp only [Act.put, List.getElem_toArray, List.getElem_cons_succ, List.getElem_cons_zero, List.setIfInBounds_toArray, List.set_cons_zero, List.set_cons_succ])
          refine wpAnyH_ready (rs := [16, 19]) (by kernel_rfl) (by simp) ?_
          refine AllReadyH.cons rfl (fun K hK => ?_) (AllReadyH.cons rfl (fun K hK => ?_) AllReadyH.nil)
          · go_simp
            refine (HP2.out _).mono ?_
            rintro _ wc ⟨rfl, rfl⟩
            refine hK.out _ _ hHeld (fun hHeld => ?_)
            clear hK K
            (try simp only [Act.put, List.getElem_toArray, List.getElem_cons_succ, List.getElem_cons_zero, List.setIfInBounds_toArray, List.set_cons_zero, List.set_cons_succ])
            refine wpAnyH_take (i := 17) (v := ?_) rfl (by kernel_rfl) (by kernel_rfl) (by kernel_rfl) (fun _ _ _ h => h) (Or.inl ⟨by rfl, ?_⟩) (by assumption) ?_
            rotate_left
            · intro w hSw; (try dsimp only at hSw); go_simp; (try with_reducible rfl)
            (try simp only [Act.put, List.getElem_toArray, List.getElem_cons_succ, List.getElem_cons_zero, List.setIfInBounds_toArray, List.set_cons_zero, List.set_cons_succ])
            refine wpAnyH_take (i := 18) (v := ?_) rfl (by kernel_rfl) (by kernel_rfl) (by kernel_rfl) (fun _ _ _ h => h) (Or.inl ⟨by rfl, ?_⟩) (by assumption) ?_
            rotate_left
            · intro w hSw; (try dsimp only at hSw); go_simp; (try with_reducible rfl)
            (try simp only [Act.put, List.getElem_toArray, List.getElem_cons_succ, List.getElem_cons_zero, List.setIfInBounds_toArray, List.set_cons_zero, List.set_cons_succ])
            refine wpAnyH_ready (rs := [19]) (by kernel_rfl) (by simp) ?_
            refine AllReadyH.cons rfl (fun K hK => ?_) AllReadyH.nil
            go_simp
            refine hK.out _ _ ⟨Sp.cell_kept (Sp.alloc_below wr.drew _) hHeld.1, Sp.cell_kept (Sp.alloc_below wr.drew _) hHeld.2.1, Sp.cell_kept (Sp.alloc_below wr.drew _) hHeld.2.2.1, Sp.cell_kept (Sp.alloc_below wr.drew _) hHeld.2.2.2⟩ (fun hHeld => ?_)
            clear hK K
            (try simp only [Act.put, List.getElem_toArray, List.getElem_cons_succ, List.getElem_cons_zero, List.setIfInBounds_toArray, List.set_cons_zero, List.set_cons_succ])
            refine wpAnyH_ready (rs := [20]) (by kernel_rfl) (by simp) ?_
            refine AllReadyH.cons rfl (fun K hK => ?_) AllReadyH.nil
            have zz := pb_cells wr.drew (0, 0, 0)
            obtain ⟨z0, z1, z2⟩ := zz
            simp only at z0 z1 z2
            go_simp
            have kA := (Sp.alloc_below wr (pb (fr, P, V - 2000))).drew
            refine hK.out _ _ ⟨Sp.cell_kept (kA) HE.out.1, Sp.cell_kept (kA) HE.out.2.1, Sp.cell_kept (kA) HE.out.2.2.1, Sp.cell_kept (kA) HE.out.2.2.2⟩ (fun hHeld => ?_)
            clear hK K
            refine wpAnyH_done (by kernel_rfl) ?_ _
            go_wp2_with fail
            go_meet
            exact ⟨rfl, PcNew.new⟩
          · go_simp
            refine hK.out _ _ ⟨Sp.cell_kept (Sp.alloc_below wr.drew _) hHeld.1, Sp.cell_kept (Sp.alloc_below wr.drew _) hHeld.2.1, Sp.cell_kept (Sp.alloc_below wr.drew _) hHeld.2.2.1, Sp.cell_kept (Sp.alloc_below wr.drew _) hHeld.2.2.2⟩ (fun hHeld => ?_)
            clear hK K
            (try simp only [Act.put, List.getElem_toArray, List.getElem_cons_succ, List.getElem_cons_zero, List.setIfInBounds_toArray, List.set_cons_zero, List.set_cons_succ])
            refine wpAnyH_ready (rs := [16]) (by kernel_rfl) (by simp) ?_
            refine AllReadyH.cons rfl (fun K hK => ?_) AllReadyH.nil
            go_simp
            refine (HP2.out _).mono ?_
            rintro _ wc ⟨rfl, rfl⟩
            refine hK.out _ _ hHeld (fun hHeld => ?_)
            clear hK K
            (try simp only [Act.put, List.getElem_toArray, List.getElem_cons_succ, List.getElem_cons_zero, List.setIfInBounds_toArray, List.set_cons_zero, List.set_cons_succ])
            refine wpAnyH_take (i := 17) (v := ?_) rfl (by kernel_rfl) (by kernel_rfl) (by kernel_rfl) (fun _ _ _ h => h) (Or.inl ⟨by rfl, ?_⟩) (by assumption) ?_
            rotate_left
            · intro w hSw; (try dsimp only at hSw); go_simp; (try with_reducible rfl)
            (try simp only [Act.put, List.getElem_toArray, List.getElem_cons_succ, List.getElem_cons_zero, List.setIfInBounds_toArray, List.set_cons_zero, List.set_cons_succ])
            refine wpAnyH_take (i := 18) (v := ?_) rfl (by kernel_rfl) (by kernel_rfl) (by kernel_rfl) (fun _ _ _ h => h) (Or.inl ⟨by rfl, ?_⟩) (by assumption) ?_
            rotate_left
            · intro w hSw; (try dsimp only at hSw); go_simp; (try with_reducible rfl)
            (try simp only [Act.put, List.getElem_toArray, List.getElem_cons_succ, List.getElem_cons_zero, List.setIfInBounds_toArray, List.set_cons_zero, List.set_cons_succ])
            refine wpAnyH_ready (rs := [20]) (by kernel_rfl) (by simp) ?_
            refine AllReadyH.cons rfl (fun K hK => ?_) AllReadyH.nil
            have zz := pb_cells wr.drew (0, 0, 0)
            obtain ⟨z0, z1, z2⟩ := zz
            simp only at z0 z1 z2
            go_simp
            have kA := (Sp.alloc_below wr (pb (fr, P, V - 2000))).drew
            refine hK.out _ _ ⟨Sp.cell_kept (kA) HE.out.1, Sp.cell_kept (kA) HE.out.2.1, Sp.cell_kept (kA) HE.out.2.2.1, Sp.cell_kept (kA) HE.out.2.2.2⟩ (fun hHeld => ?_)
            clear hK K
            refine wpAnyH_done (by kernel_rfl) ?_ _
            go_wp2_with fail
            go_meet
            exact ⟨rfl, PcNew.new⟩
        · go_simp
          refine hK.out _ _ ⟨Sp.cell_kept (Sp.alloc_below wr.drew _) hHeld.1, Sp.cell_kept (Sp.alloc_below wr.drew _) hHeld.2.1, Sp.cell_kept (Sp.alloc_below wr.drew _) hHeld.2.2.1, Sp.cell_kept (Sp.alloc_below wr.drew _) hHeld.2.2.2⟩ (fun hHeld => ?_)
          clear hK K
          (try simp only [Act.put, List.getElem_toArray, List.getElem_cons_succ, List.getElem_cons_zero, List.setIfInBounds_toArray, List.set_cons_zero, List.set_cons_succ])
          refine wpAnyH_ready (rs := [6]) (by kernel_rfl) (by simp) ?_
          refine AllReadyH.cons rfl (fun K hK => ?_) AllReadyH.nil
          go_simp
          refine (HP1.out _).mono ?_
          rintro _ wc ⟨rfl, rfl⟩
          refine hK.out _ _ hHeld (fun hHeld => ?_)
          clear hK K
          (try simp only [Act.put, List.getElem_toArray, List.getElem_cons_succ, List.getElem_cons_zero, List.setIfInBounds_toArray, List.set_cons_zero, List.set_cons_succ])
          refine wpAnyH_take (i := 7) (v := ?_) rfl (by kernel_rfl) (by kernel_rfl) (by kernel_rfl) (fun _ _ _ h => h) (Or.inl ⟨by rfl, ?_⟩) (by assumption) ?_
          rotate_left
          · intro w hSw; (try dsimp only at hSw); go_simp; (try with_reducible rfl)
          (try simp only [Act.put, List.getElem_toArray, List.getElem_cons_succ, List.getElem_cons_zero, List.setIfInBounds_toArray, List.set_cons_zero, List.set_cons_succ])
          refine wpAnyH_take (i := 10) (v := ?_) rfl (by kernel_rfl) (by kernel_rfl) (by kernel_rfl) (fun _ _ _ h => h) (Or.inl ⟨by rfl, ?_⟩) (by assumption) ?_
          rotate_left
          · intro w hSw; (try dsimp only at hSw); go_simp; (try with_reducible rfl)
          (try simp only [Act.put, List.getElem_toArray, List.getElem_cons_succ, List.getElem_cons_zero, List.setIfInBounds_toArray, List.set_cons_zero, List.set_cons_succ])
          refine wpAnyH_ready (rs := [16]) (by kernel_rfl) (by simp) ?_
          refine AllReadyH.cons rfl (fun K hK => ?_) AllReadyH.nil
          go_simp
          refine (HP2.out _).mono ?_
          rintro _ wc ⟨rfl, rfl⟩
          refine hK.out _ _ hHeld (fun hHeld => ?_)
          clear hK K
          (try simp only [Act.put, List.getElem_toArray, List.getElem_cons_succ, List.getElem_cons_zero, List.setIfInBounds_toArray, List.set_cons_zero, List.set_cons_succ])
          refine wpAnyH_take (i := 17) (v := ?_) rfl (by kernel_rfl) (by kernel_rfl) (by kernel_rfl) (fun _ _ _ h => h) (Or.inl ⟨by rfl, ?_⟩) (by assumption) ?_
          rotate_left
          · intro w hSw; (try dsimp only at hSw); go_simp; (try with_reducible rfl)
          (try simp only [Act.put, List.getElem_toArray, List.getElem_cons_succ, List.getElem_cons_zero, List.setIfInBounds_toArray, List.set_cons_zero, List.set_cons_succ])
          refine wpAnyH_take (i := 18) (v := ?_) rfl (by kernel_rfl) (by kernel_rfl) (by kernel_rfl) (fun _ _ _ h => h) (Or.inl ⟨by rfl, ?_⟩) (by assumption) ?_
          rotate_left
          · intro w hSw; (try dsimp only at hSw); go_simp; (try with_reducible rfl)
          (try simp only [Act.put, List.getElem_toArray, List.getElem_cons_succ, List.getElem_cons_zero, List.setIfInBounds_toArray, List.set_cons_zero, List.set_cons_succ])
          refine wpAnyH_ready (rs := [20]) (by kernel_rfl) (by simp) ?_
          refine AllReadyH.cons rfl (fun K hK => ?_) AllReadyH.nil
          have zz := pb_cells wr.drew (0, 0, 0)
          obtain ⟨z0, z1, z2⟩ := zz
          simp only at z0 z1 z2
          go_simp
          have kA := (Sp.alloc_below wr (pb (fr, P, V - 2000))).drew
          refine hK.out _ _ ⟨Sp.cell_kept (kA) HE.out.1, Sp.cell_kept (kA) HE.out.2.1, Sp.cell_kept (kA) HE.out.2.2.1, Sp.cell_kept (kA) HE.out.2.2.2⟩ (fun hHeld => ?_)
          clear hK K
          refine wpAnyH_done (by kernel_rfl) ?_ _
          go_wp2_with fail
          go_meet
          exact ⟨rfl, PcNew.new⟩
      case rest =>
        obtain ⟨rfl, HPC⟩ := hcut
        have HK1 := Lib.hid (show Below wr.heap.size wr wc from HPC.out.k)
        clear f0 f1 e0 e1 e2
        have e1 := Sp.cell_kept HK1.out HE.out.2.2.1
        have c1 := HPC.out.c1
        have z1 := HPC.out.z1
        generalize hq : wr.heap.size = q at HPC c1 z1 ⊢
        have HQ := Lib.hid hq
        clear hq
        have hzp : q ≠ x0 := by have := HLT.out; have := HQ.out; simp only at *; omega
        by_cases hy3 : y.tmod 3 = 0
        · have hb3 : (y.tmod 3 == 0) = true := by rw [hy3]; rfl
          clear hy3
          go_upto_region 9 with (go_at_call 17; (with_reducible refine (HP1.out _).mono ?_); rintro _ wc ⟨rfl, rfl⟩)
          have HPD := Lib.hid (HPC.out.set' HQ.out (Y - 1000000))
          have HM := Lib.hid (show -1000000000 ≤ (Y - 1000000) ∧ (Y - 1000000) ≤ 1000000000 by have := HBD.out; omega)
          clear c1 z1 e1 hb3 HPC HK1
          generalize wc.setCell ⟨q, 1, none⟩ (.int .i64 (Y - 1000000)) = wm at *
          generalize Y - 1000000 = Mv at *
          obtain ⟨c0, c1, c2⟩ := HPD.out.cells' HQ.out
          have HK2 := Lib.hid (show Below wr.heap.size wr wm from HPD.out.k)
          have HIM := Lib.hid (HIX.out.below HK2.out)
          by_cases hi0 : i = 0
          · obtain ⟨rfl, rfl⟩ : i = 0 ∧ L = [] := ⟨hi0, by have := HPT.out.len; rw [hi0] at this; exact List.eq_nil_of_length_eq_zero this⟩
            have f1 := HIM.out.cell
            obtain ⟨v0, f1⟩ := f1
            have z1 := HIM.out.base.z1
            clear hi0
            go_upto_region 11 with (fail)
            have f1' := World.cell?_setCell_same' wm ⟨x0, 1, none⟩ (.slice none 0 0) (by rw [f1]; rfl)
            have HB5 := Lib.hid (HIM.out.base.set hrx hwr (.slice none 0 0))
            have g0 : (wm.setCell ⟨x0, 1, none⟩ (.slice none 0 0)).cell? ⟨q, 0, none⟩ = _ := (World.cell?_setCell_far _ _ _ _ (Ne.symm hzp)).trans c0
            have g1 : (wm.setCell ⟨x0, 1, none⟩ (.slice none 0 0)).cell? ⟨q, 1, none⟩ = _ := (World.cell?_setCell_far _ _ _ _ (Ne.symm hzp)).trans c1
            have g2 : (wm.setCell ⟨x0, 1, none⟩ (.slice none 0 0)).cell? ⟨q, 2, none⟩ = _ := (World.cell?_setCell_far _ _ _ _ (Ne.symm hzp)).trans c2
            clear f1 z1 c0 c1 c2
            generalize wm.setCell ⟨x0, 1, none⟩ (.slice none 0 0) = w5 at *
            obtain ⟨vn, hvn⟩ : ∃ v : Value, v = .slice none 0 0 := ⟨_, rfl⟩
            rw [← hvn] at f1'
            have f1 := f1'
            clear f1'
            have HRW := Lib.hid (show RowP (w5.alloc (pb (fr, Mv, V - 2000))) (x0 + 1) vn [] by rw [hvn]; exact RowP.nil _ _)
            clear hvn
            have hz5 := HB5.out.hb.size
            have hx5 : x0 < w5.heap.size := World.block_lt_of_cell? _ _ f1
            have HSA := Lib.hid (show x0 + 1 ≤ (w5.alloc (pb (fr, Mv, V - 2000))).heap.size by simp; omega)
            have HLL := Lib.hid (show ([] : List Pc).length ≤ 30 by have := HPT.out.len; omega)
            go_upto_region 12 with (first | (at_builtin; refine wpList_append_src rfl _ _ 22 rfl (x0 + 1) 55 i0 (.agg #[.int .i64 0, .int .i64 0, .int .i64 0]) 3 24 Try.underP HI0.out.1 HI0.out.2.1 HI0.out.2.2.1 HI0.out.2.2.2 rfl (by decide) _ _ _ rfl HRW.out _ 1 (flatP [(fr, Mv, V - 2000)]) rfl ((show PcsAt (some ⟨w5.heap.size, 0, none⟩) [(fr, Mv, V - 2000)] (w5.alloc (pb (fr, Mv, V - 2000))) from pcs_new1 w5 (fr, Mv, V - 2000)).src (fun e => by cases e)) rfl (flatP_cell1 _) (by unfold maxLen; have := HLL.out; omega) (by have := HLL.out; omega) HSA.out ?_; intro v' w4 hown' hgrow; obtain ⟨f1', z1⟩ := HB5.out.mid f1 HRW.out (Sp.alloc_below w5 _) hgrow; have HNEW := Lib.hid (HB5.out.push (i := 0) (M := ([] : List Pc) ++ [(fr, Mv, V - 2000)]) hrx hwr f1 HRW.out (Sp.alloc_below w5 _) hgrow (RowP.app rfl rfl hown')); obtain ⟨a2, c2, hv2, -, -⟩ := (RowP.app (l := ([] : List Pc)) (r := [(fr, Mv, V - 2000)]) rfl rfl hown').pcs; generalize (([] : List Pc) ++ [(fr, Mv, V - 2000)]).length = m2 at hv2; clear hown' hgrow f1 g0 g1 g2; subst hv2))
            have e0 := HZI.out _ HNEW.out.base.hb
            simp only [Nat.zero_mul, Nat.add_zero] at e0
            clear f1' z1 hz5 hx5
            generalize w4.setCell ⟨x0, 1, none⟩ (.slice a2 m2 c2) = w6 at *
            go_wp2_with (go_at_call 17; (with_reducible refine (HP0.out _).mono ?_); rintro _ w6 ⟨rfl, rfl⟩)
            go_roundg g
            case measure => omega
            case rel => exact ⟨0 + 1, ([] : List Pc) ++ [(fr, Mv, V - 2000)], fr + (1 + U), by omega, by omega, by go_num, by go_num, HPT.out.push HM.out (by have := HBD.out; omega) (by have := HBD.out; omega), HNEW.out⟩
          · have hi1 : ¬ (i : Int) = 0 := by omega
            obtain ⟨v0, f1, hrow⟩ : ∃ v, wm.cell? ⟨x0, 1, none⟩ = some v ∧ RowP wm (x0 + 1) v L := by rcases HIM.out.row with ⟨e, -⟩ | ⟨-, h⟩; exact absurd e hi0; exact h
            have HRW := Lib.hid (hrow.below (Sp.alloc_below wm (pb (fr, Mv, V - 2000))))
            have HB5 := Lib.hid HIM.out.base
            clear hi0 hrow
            go_upto_region 11 with (fail)
            have g0 := c0
            have g1 := c1
            have g2 := c2
            clear c0 c1 c2
            generalize wm = w5 at *
            have hz5 := HB5.out.hb.size
            have hx5 : x0 < w5.heap.size := World.block_lt_of_cell? _ _ f1
            have HSA := Lib.hid (show x0 + 1 ≤ (w5.alloc (pb (fr, Mv, V - 2000))).heap.size by simp; omega)
            have HLL := Lib.hid (show L.length ≤ 30 by have := HPT.out.len; omega)
            go_upto_region 12 with (first | (at_builtin; refine wpList_append_src rfl _ _ 22 rfl (x0 + 1) 55 i0 (.agg #[.int .i64 0, .int .i64 0, .int .i64 0]) 3 24 Try.underP HI0.out.1 HI0.out.2.1 HI0.out.2.2.1 HI0.out.2.2.2 rfl (by decide) _ _ _ rfl HRW.out _ 1 (flatP [(fr, Mv, V - 2000)]) rfl ((show PcsAt (some ⟨w5.heap.size, 0, none⟩) [(fr, Mv, V - 2000)] (w5.alloc (pb (fr, Mv, V - 2000))) from pcs_new1 w5 (fr, Mv, V - 2000)).src (fun e => by cases e)) rfl (flatP_cell1 _) (by unfold maxLen; have := HLL.out; omega) (by have := HLL.out; omega) HSA.out ?_; intro v' w4 hown' hgrow; obtain ⟨f1', z1⟩ := HB5.out.mid f1 HRW.out (Sp.alloc_below w5 _) hgrow; have HNEW := Lib.hid (HB5.out.push (i := i) (M := L ++ [(fr, Mv, V - 2000)]) hrx hwr f1 HRW.out (Sp.alloc_below w5 _) hgrow (RowP.app rfl rfl hown')); obtain ⟨a2, c2, hv2, -, -⟩ := (RowP.app (l := L) (r := [(fr, Mv, V - 2000)]) rfl rfl hown').pcs; generalize (L ++ [(fr, Mv, V - 2000)]).length = m2 at hv2; clear hown' hgrow f1 g0 g1 g2; subst hv2))
            have e0 := HZI.out _ HNEW.out.base.hb
            clear f1' z1 hz5 hx5
            generalize w4.setCell ⟨x0, 1, none⟩ (.slice a2 m2 c2) = w6 at *
            go_wp2_with (go_at_call 17; (with_reducible refine (HP0.out _).mono ?_); rintro _ w6 ⟨rfl, rfl⟩)
            go_roundg g
            case measure => omega
            case rel => exact ⟨i + 1, L ++ [(fr, Mv, V - 2000)], fr + (1 + U), by omega, by omega, by go_num, by go_num, HPT.out.push HM.out (by have := HBD.out; omega) (by have := HBD.out; omega), HNEW.out⟩
        · have hb3 : (y.tmod 3 == 0) = false := beq_eq_false_iff_ne.2 hy3
          clear hy3
          go_upto_region 9 with (fail)
          have HPD := Lib.hid HPC.out
          have HM := Lib.hid (show -1000000000 ≤ P ∧ P ≤ 1000000000 by have := HBD.out; omega)
          clear c1 z1 e1 hb3 HPC HK1
          generalize wc = wm at *
          generalize P = Mv at *
          obtain ⟨c0, c1, c2⟩ := HPD.out.cells' HQ.out
          have HK2 := Lib.hid (show Below wr.heap.size wr wm from HPD.out.k)
          have HIM := Lib.hid (HIX.out.below HK2.out)
          by_cases hi0 : i = 0
          · obtain ⟨rfl, rfl⟩ : i = 0 ∧ L = [] := ⟨hi0, by have := HPT.out.len; rw [hi0] at this; exact List.eq_nil_of_length_eq_zero this⟩
            have f1 := HIM.out.cell
            obtain ⟨v0, f1⟩ := f1
            have z1 := HIM.out.base.z1
            clear hi0
            go_upto_region 11 with (fail)
            have f1' := World.cell?_setCell_same' wm ⟨x0, 1, none⟩ (.slice none 0 0) (by rw [f1]; rfl)
            have HB5 := Lib.hid (HIM.out.base.set hrx hwr (.slice none 0 0))
            have g0 : (wm.setCell ⟨x0, 1, none⟩ (.slice none 0 0)).cell? ⟨q, 0, none⟩ = _ := (World.cell?_setCell_far _ _ _ _ (Ne.symm hzp)).trans c0
            have g1 : (wm.setCell ⟨x0, 1, none⟩ (.slice none 0 0)).cell? ⟨q, 1, none⟩ = _ := (World.cell?_setCell_far _ _ _ _ (Ne.symm hzp)).trans c1
            have g2 : (wm.setCell ⟨x0, 1, none⟩ (.slice none 0 0)).cell? ⟨q, 2, none⟩ = _ := (World.cell?_setCell_far _ _ _ _ (Ne.symm hzp)).trans c2
            clear f1 z1 c0 c1 c2
            generalize wm.setCell ⟨x0, 1, none⟩ (.slice none 0 0) = w5 at *
            obtain ⟨vn, hvn⟩ : ∃ v : Value, v = .slice none 0 0 := ⟨_, rfl⟩
            rw [← hvn] at f1'
            have f1 := f1'
            clear f1'
            have HRW := Lib.hid (show RowP (w5.alloc (pb (fr, Mv, V - 2000))) (x0 + 1) vn [] by rw [hvn]; exact RowP.nil _ _)
            clear hvn
            have hz5 := HB5.out.hb.size
            have hx5 : x0 < w5.heap.size := World.block_lt_of_cell? _ _ f1
            have HSA := Lib.hid (show x0 + 1 ≤ (w5.alloc (pb (fr, Mv, V - 2000))).heap.size by simp; omega)
            have HLL := Lib.hid (show ([] : List Pc).length ≤ 30 by have := HPT.out.len; omega)
            go_upto_region 12 with (first | (at_builtin; refine wpList_append_src rfl _ _ 22 rfl (x0 + 1) 55 i0 (.agg #[.int .i64 0, .int .i64 0, .int .i64 0]) 3 24 Try.underP HI0.out.1 HI0.out.2.1 HI0.out.2.2.1 HI0.out.2.2.2 rfl (by decide) _ _ _ rfl HRW.out _ 1 (flatP [(fr, Mv, V - 2000)]) rfl ((show PcsAt (some ⟨w5.heap.size, 0, none⟩) [(fr, Mv, V - 2000)] (w5.alloc (pb (fr, Mv, V - 2000))) from pcs_new1 w5 (fr, Mv, V - 2000)).src (fun e => by cases e)) rfl (flatP_cell1 _) (by unfold maxLen; have := HLL.out; omega) (by have := HLL.out; omega) HSA.out ?_; intro v' w4 hown' hgrow; obtain ⟨f1', z1⟩ := HB5.out.mid f1 HRW.out (Sp.alloc_below w5 _) hgrow; have HNEW := Lib.hid (HB5.out.push (i := 0) (M := ([] : List Pc) ++ [(fr, Mv, V - 2000)]) hrx hwr f1 HRW.out (Sp.alloc_below w5 _) hgrow (RowP.app rfl rfl hown')); obtain ⟨a2, c2, hv2, -, -⟩ := (RowP.app (l := ([] : List Pc)) (r := [(fr, Mv, V - 2000)]) rfl rfl hown').pcs; generalize (([] : List Pc) ++ [(fr, Mv, V - 2000)]).length = m2 at hv2; clear hown' hgrow f1 g0 g1 g2; subst hv2))
            have e0 := HZI.out _ HNEW.out.base.hb
            simp only [Nat.zero_mul, Nat.add_zero] at e0
            clear f1' z1 hz5 hx5
            generalize w4.setCell ⟨x0, 1, none⟩ (.slice a2 m2 c2) = w6 at *
            go_wp2_with (go_at_call 17; (with_reducible refine (HP0.out _).mono ?_); rintro _ w6 ⟨rfl, rfl⟩)
            go_roundg g
            case measure => omega
            case rel => exact ⟨0 + 1, ([] : List Pc) ++ [(fr, Mv, V - 2000)], fr + (1 + U), by omega, by omega, by go_num, by go_num, HPT.out.push HM.out (by have := HBD.out; omega) (by have := HBD.out; omega), HNEW.out⟩
          · have hi1 : ¬ (i : Int) = 0 := by omega
            obtain ⟨v0, f1, hrow⟩ : ∃ v, wm.cell? ⟨x0, 1, none⟩ = some v ∧ RowP wm (x0 + 1) v L := by rcases HIM.out.row with ⟨e, -⟩ | ⟨-, h⟩; exact absurd e hi0; exact h
            have HRW := Lib.hid (hrow.below (Sp.alloc_below wm (pb (fr, Mv, V - 2000))))
            have HB5 := Lib.hid HIM.out.base
            clear hi0 hrow
            go_upto_region 11 with (fail)
            have g0 := c0
            have g1 := c1
            have g2 := c2
            clear c0 c1 c2
            generalize wm = w5 at *
            have hz5 := HB5.out.hb.size
            have hx5 : x0 < w5.heap.size := World.block_lt_of_cell? _ _ f1
            have HSA := Lib.hid (show x0 + 1 ≤ (w5.alloc (pb (fr, Mv, V - 2000))).heap.size by simp; omega)
            have HLL := Lib.hid (show L.length ≤ 30 by have := HPT.out.len; omega)
            go_upto_region 12 with (first | (at_builtin; refine wpList_append_src rfl _ _ 22 rfl (x0 + 1) 55 i0 (.agg #[.int .i64 0, .int .i64 0, .int .i64 0]) 3 24 Try.underP HI0.out.1 HI0.out.2.1 HI0.out.2.2.1 HI0.out.2.2.2 rfl (by decide) _ _ _ rfl HRW.out _ 1 (flatP [(fr, Mv, V - 2000)]) rfl ((show PcsAt (some ⟨w5.heap.size, 0, none⟩) [(fr, Mv, V - 2000)] (w5.alloc (pb (fr, Mv, V - 2000))) from pcs_new1 w5 (fr, Mv, V - 2000)).src (fun e => by cases e)) rfl (flatP_cell1 _) (by unfold maxLen; have := HLL.out; omega) (by have := HLL.out; omega) HSA.out ?_; intro v' w4 hown' hgrow; obtain ⟨f1', z1⟩ := HB5.out.mid f1 HRW.out (Sp.alloc_below w5 _) hgrow; have HNEW := Lib.hid (HB5.out.push (i := i) (M := L ++ [(fr, Mv, V - 2000)]) hrx hwr f1 HRW.out (Sp.alloc_below w5 _) hgrow (RowP.app rfl rfl hown')); obtain ⟨a2, c2, hv2, -, -⟩ := (RowP.app (l := L) (r := [(fr, Mv, V - 2000)]) rfl rfl hown').pcs; generalize (L ++ [(fr, Mv, V - 2000)]).length = m2 at hv2; clear hown' hgrow f1 g0 g1 g2; subst hv2))
            have e0 := HZI.out _ HNEW.out.base.hb
            clear f1' z1 hz5 hx5
            generalize w4.setCell ⟨x0, 1, none⟩ (.slice a2 m2 c2) = w6 at *
            go_wp2_with (go_at_call 17; (with_reducible refine (HP0.out _).mono ?_); rintro _ w6 ⟨rfl, rfl⟩)
            go_roundg g
            case measure => omega
            case rel => exact ⟨i + 1, L ++ [(fr, Mv, V - 2000)], fr + (1 + U), by omega, by omega, by go_num, by go_num, HPT.out.push HM.out (by have := HBD.out; omega) (by have := HBD.out; omega), HNEW.out⟩
    · have hor : (i : Int) < (n : Int) ∨ ¬ (i : Int) < (n : Int) := Classical.em _
      obtain ⟨a, c, M, f1, hMP, hMF, hM0, hM1⟩ := HIX.out.ends HPT.out hi30 hrx
      have f0 := HIX.out.base.f0
      have q0 := HIX.out.base.q0
      have q1 := HIX.out.base.q1
      have y0 := HIX.out.base.y0
      have y1 := HIX.out.base.y1
      have HFF := Lib.hid (fill2 (a := .int .i64 D) (b := .slice a M.length c) HIX.out.base.hb hwr q0 q1)
      have HLEN := Lib.hid (show M.length ≤ n + 1 ∧ (n = 0 ∨ M.length ≤ n) by rcases Nat.eq_zero_or_pos i with e | e; (have := hM0 e; omega); (have := hM1 e; omega))
      have HPZ := Lib.hid ((hMP.1.set_far (k := rb) (i := 0) (v := .int .i64 D) (fun b o e => by have := hMP.2 b o e; omega)).set_far (k := rb) (i := 1) (v := .slice a M.length c) (fun b o e => by have := hMP.2 b o e; omega))
      have HMF := Lib.hid hMF
      clear hMP hMF hM0 hM1 HPT HIX HZ HR HPK HN
      rcases hor with hlt | hlt
      · have h30 : ¬ (i : Int) < 30 := by omega
        clear hgo
        go_wp2
        obtain ⟨r0, r1, hBf⟩ := HFF.out
        generalize (wr.setCell ⟨rb, 0, none⟩ (.int .i64 D)).setCell ⟨rb, 1, none⟩ (.slice a M.length c) = W9 at *
        (try simp only [Exit.inBlock, Exit.then])
        refine bodyPost_ret (by simp [results, Try.results10, r0, r1, go_sem]; try rfl) rfl ?_
        exact ⟨a, c, M, rfl, HPZ.out, HMF.out, HLEN.out.1, HLEN.out.2, hBf⟩
      · clear hgo
        go_wp2
        obtain ⟨r0, r1, hBf⟩ := HFF.out
        generalize (wr.setCell ⟨rb, 0, none⟩ (.int .i64 D)).setCell ⟨rb, 1, none⟩ (.slice a M.length c) = W9 at *
        (try simp only [Exit.inBlock, Exit.then])
        refine bodyPost_ret (by simp [results, Try.results10, r0, r1, go_sem]; try rfl) rfl ?_
        exact ⟨a, c, M, rfl, HPZ.out, HMF.out, HLEN.out.1, HLEN.out.2, hBf⟩
end Go.Proofs.Ytdoojpilogcnjaa.Pw
