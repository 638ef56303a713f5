/- What package zone's Split returns. Condition: the zone's changes lie in memory as the argument says. -/
import Derived.Test.YtjmnohbgfkohpaaZoneDays
import Derived.Test.YtjmnohbgfkohpaaZoneTal
import Derived.Test.YtjmnohbgfkohpaaZoneSum2
import Derived.Test.YtjmnohbgfkohpaaShelf
import Derived.Maps.OwnIn
import Derived.Maps.OwnSet
import Derived.RangeFuncNested
namespace Go.Proofs.Ytjmnohbgfkohpaa.Zn
open Go Go.RowKit Go.Shelf
attribute [local go_sem] Oper.semAt_some
/-- The map of the minutes per day, in memory. -/
def MapAt (X : World) (gm : Nat) (s : List Piece) : Prop := ∃ (D : DataW Unit) (n : Nat), X.ownsMap Try.prog 3 (plainElem Try.prog 3) gm n D ∧ n ≤ s.length ∧ Tal s D
theorem owns_same {X Y : World} {gm n : Nat} {D : DataW Unit} (h : X.ownsMap Try.prog 3 (plainElem Try.prog 3) gm n D) (k : Y.heap[gm]? = X.heap[gm]?) : Y.ownsMap Try.prog 3 (plainElem Try.prog 3) gm n D := by
  obtain ⟨es, clock, hb, Ft, hs, hD⟩ := h
  exact ⟨es, clock, k.trans hb, Ft, hs, hD⟩
theorem MapAt.lt {X : World} {gm : Nat} {s : List Piece} (h : MapAt X gm s) : gm < X.heap.size := by obtain ⟨D, n, h, -⟩ := h; exact h.lt
theorem MapAt.same {X Y : World} {gm : Nat} {s : List Piece} (h : MapAt X gm s) (k : Y.heap[gm]? = X.heap[gm]?) : MapAt Y gm s := by
  obtain ⟨D, n, ⟨es, clock, hb, Ft, hs, hD⟩, h⟩ := h
  exact ⟨D, n, ⟨es, clock, k.trans hb, Ft, hs, hD⟩, h⟩
/-- What the loop over the days keeps: the map, the results' cells. -/
structure SplI (w : World) (gm gb gr ge : Nat) (s : List Piece) (X : World) : Prop where
  box : X.cell? ⟨gb, 0, none⟩ = some (.map (some gm))
  map : MapAt X gm s
  r : Boxed X gr 34 (.slice none 0 0)
  e : Boxed X ge 30 (.int .i64 0)
  days : ∀ x ∈ s, 0 ≤ x.1 ∧ x.1 ≤ 36524
  below : Below w.heap.size w X
theorem SplI.step {w : World} {gm gb gr ge : Nat} {s : List Piece} {X Y : World} {B : Nat} (h : SplI w gm gb gr ge s X) (k : Below B X Y) (h1 : gm < B) (h2 : gb < B) (h3 : gr < B) (h4 : ge < B) (h5 : w.heap.size ≤ B) : SplI w gm gb gr ge s Y :=
  ⟨(k.cell (p := ⟨gb, 0, none⟩) h2).trans h.box, h.map.same (k.block gm h1), (k.block gr h3).trans h.r, (k.block ge h4).trans h.e, h.days, h.below.trans (k.mono h5)⟩
/-- A loop over the days that a day out of range has ended. -/
structure SplX (w : World) (gr ge : Nat) (s : List Piece) (X : World) : Prop where
  r : Boxed X gr 34 (.slice none 0 0)
  e : Boxed X ge 30 (.int .i64 21)
  bad : ∃ x ∈ s, ¬ (0 ≤ x.1 ∧ x.1 ≤ 36524)
  below : Below w.heap.size w X
theorem SplX.step {w : World} {gr ge : Nat} {s : List Piece} {X Y : World} {B : Nat} (h : SplX w gr ge s X) (k : Below B X Y) (h3 : gr < B) (h4 : ge < B) (h5 : w.heap.size ≤ B) : SplX w gr ge s Y :=
  ⟨(k.block gr h3).trans h.r, (k.block ge h4).trans h.e, h.bad, h.below.trans (k.mono h5)⟩
theorem results_cells2 {fn : Func} {p u : Tmp} {t1 t2 : TypeId} (h : fn.results = #[.cell p t1, .cell u t2]) (tmps : Array Value) (P : Program) (w : World) :
    (results fn tmps).run P w = ((asAddr (tmps.getD p undef)).run P w).andThen fun a w1 => ((loadVar t1 a).run P w1).andThen fun v w2 => ((asAddr (tmps.getD u undef)).run P w2).andThen fun a2 w3 => ((loadVar t2 a2).run P w3).andThen fun v2 w4 => .ok (.tuple #[v, v2]) w4 := by
  simp only [results, h]
  simp [Sem.run_bind, Result.andThen]
theorem RowP.far {w w' : World} {base base' : Nat} {v : Value} {l : List (Int × Int)} (h : RowP w base v l) (k : ∀ g, base ≤ g → w'.heap[g]? = w.heap[g]?) (hb : base' ≤ base) : RowP w' base' v l := by
  refine ⟨h.1, ?_⟩
  rcases h.2 with hn | ⟨g, cap, cur, hv, hb2, hg, rest⟩
  · exact .inl hn
  · exact .inr ⟨g, cap, cur, hv, Nat.le_trans hb hb2, (k g hb2).trans hg, rest⟩
theorem SplI.put {w : World} {gm gb gr ge : Nat} {s : List Piece} {X Y : World} {D : DataW Unit} {n : Nat} (h : SplI w gm gb gr ge s X) (hn : n ≤ s.length) (hT : Tal s D) (x : Piece) (hx : 0 ≤ x.1 ∧ x.1 ≤ 36524) {v : Int} (hv : totP (dayP x.1) (s ++ [x]) = v)
    (hown : X.ownsMap Try.prog 3 (plainElem (H := Unit) Try.prog 3) gm n D) (hY : Y.ownsMap Try.prog 3 (plainElem (H := Unit) Try.prog 3) gm (n + 1) (D.put (.int .i64 x.1) (.lit (.int .i64 v)))) (hg : X.grownBy Y (some gm))
    (h1 : gb ≠ gm) (h2 : gr ≠ gm) (h3 : ge ≠ gm) (h4 : w.heap.size ≤ gm) (h5 : w.heap.size ≤ X.heap.size) : SplI w gm gb gr ge (s ++ [x]) Y := by
  have hb := World.block_lt_of_cell? _ _ h.box
  refine ⟨(World.cell?_of_block (w := X) (hg.block gb hb (fun e => h1 (by cases e; rfl)))).trans h.box, ⟨_, n + 1, hY, by rw [List.length_append]; show n + 1 ≤ s.length + 1; omega, hT.put hown.isMap x hv⟩, h.r.kept hg (fun e => h2 (by cases e; rfl)), h.e.kept hg (fun e => h3 (by cases e; rfl)), fun y hy => ?_, h.below.grown hg h5 (fun k e => by cases e; exact h4)⟩
  rcases List.mem_append.1 hy with hy | hy
  · exact h.days y hy
  · obtain rfl := List.mem_singleton.1 hy
    exact hx
set_option maxHeartbeats 4000000 in
set_option maxRecDepth 100000 in
theorem zsplit_in (nm : ByteArray) (b : Int) (a : Option Addr) (cap : Nat) (cs : List (Int × Int)) (f t : Int) (w : World) (v : Valid b cs) (hst : Str f t) (hbig : t - f ≤ 44640) (z : ZoneAt a cs w) :
    Calls Try.prog 20 #[zv nm b a cs.length cap, .int .i64 f, .int .i64 t] w fun r w' =>
      ((∃ u, r = .returned (.tuple #[u, .int .i64 0]) ∧ RowP w' w.heap.size u (ports (fun s => loc b cs s / 1440) f (t - f).toNat) ∧ ∀ x ∈ dall f b t cs, 0 ≤ x.1 ∧ x.1 ≤ 36524) ∨
        (r = .returned (.tuple #[.slice none 0 0, .int .i64 21]) ∧ ∃ x ∈ dall f b t cs, ¬ (0 ≤ x.1 ∧ x.1 ≤ 36524))) ∧ Below w.heap.size w w' := by
  have hV := fun w (z : ZoneAt a cs w) => zvalid_any nm b a cap cs w (by have := v.1; omega) z
  rw [decide_eq_true v] at hV
  have HV := Lib.hid (fun m w z => (callsIn_wide (n := m)).2 (hV w z))
  have HS := Lib.hid (fun m w => (callsIn_wide (n := m)).2 (zstretch_is (f := f) (t := t) true (decide_eq_true hst) w))
  have HM := Lib.hid (fun m w => (callsIn_wide (n := m)).2 (zdays_any nm b a cs.length cap f t w))
  have HPB := Lib.hid (fun x hx => dall_mem v (f := f) (t := t) hst.1 (x := x) hx)
  have HBD := Lib.hid (fun d => day_bd v f t hst.1 hst.2.1 d)
  have HLN := Lib.hid (dall_len v f t hst.1 hst.2.1)
  have HDL := Lib.hid (fun ks h1 h2 => day_list v f t hst.1 hst.2.1 (ks := ks) h1 h2)
  have HSQ := Lib.hid (fun W hb gz gf gt hc mine hm l => zdays_seq nm b a cap cs f t v hst w z W hb gz gf gt hc mine hm l)
  have inv := ZW.start w nm b a cs.length cap cs z
  obtain ⟨st0, st1, st2⟩ := hst
  clear hV v z
  generalize cs.length = len at *
  have k0 := inv.c0
  have k1 := inv.c1
  have k2 := inv.c2
  have hf1 : Fence.wide.fn 16 := trivial
  have hf2 : Fence.wide.fn 43 := trivial
  have hf3 : Fence.wide.fn 35 := trivial
  have hf4 : Fence.wide.fn 44 := trivial
  have hdep : Fence.wide.depth = none := rfl
  have hmm := @run_makeMap Try.prog
  refine (callsIn_wide (n := 9)).1 ?_
  refine callsIn_of_wp_marks Try.func20 rfl trivial ?_ rfl
  simp only [Try.ntmps20, List.size_toArray, List.length_cons, List.length_nil, Nat.reduceAdd, Nat.reduceSub, Array.replicate_succ, Array.replicate_zero, List.push_toArray, List.append_toArray, List.nil_append, List.cons_append]
  gi_upto_region 1 with (fail)
  have hal1 : Below (w.heap.size + 1) (w.alloc (.cells #[.string nm, .int .i64 b, .slice a len cap] 24)) ((w.alloc (.cells #[.string nm, .int .i64 b, .slice a len cap] 24)).alloc (.cells #[.slice none 0 0] 34)) := (Below.refl _ _).alloc (by simp) _
  have hbr := Boxed.new (w.alloc (.cells #[.string nm, .int .i64 b, .slice a len cap] 24)) 34 (.slice none 0 0)
  have hbr2 := hbr.alloc (.cells #[.int .i64 0] 30)
  have hbe := Boxed.new ((w.alloc (.cells #[.string nm, .int .i64 b, .slice a len cap] 24)).alloc (.cells #[.slice none 0 0] 34)) 30 (.int .i64 0)
  simp only [World.size_alloc] at hbr2 hbe
  have hinv2 := (inv.step ((Below.refl _ _).alloc (Nat.le_refl _) (.cells #[.slice none 0 0] 34))).step ((Below.refl _ _).alloc (Nat.le_refl _) (.cells #[.int .i64 0] 30))
  clear hbr hal1 k0 k1 k2 inv
  generalize ((w.alloc (.cells #[.string nm, .int .i64 b, .slice a len cap] 24)).alloc (.cells #[.slice none 0 0] 34)).alloc (.cells #[.int .i64 0] 30) = w1 at *
  have inv := hinv2
  clear hinv2
  have k0 := inv.c0
  have k1 := inv.c1
  have k2 := inv.c2
  gi_upto_region 5 with (first
    | (gi_at_call 16; ((with_reducible refine (HV.out _ _ inv.zone).mono ?_); rintro e wv ⟨rfl, hn⟩); replace inv := inv.step hn; replace hbr2 : Boxed wv _ _ _ := (hn.block _ hbr2.lt).trans hbr2; replace hbe : Boxed wv _ _ _ := (hn.block _ hbe.lt).trans hbe; have k0 := inv.c0; have k1 := inv.c1; have k2 := inv.c2; clear hn)
    | (gi_at_call 43; ((with_reducible refine (HS.out _ _).mono ?_); rintro e w' ⟨rfl, rfl⟩)))
  gi_upto_region 6 with (fail)
  have hgr : w.heap.size + 1 < wv.heap.size := hbr2.lt
  have hge : w.heap.size + 1 + 1 < wv.heap.size := hbe.lt
  have hL : SplI w wv.heap.size (wv.heap.size + 1) (w.heap.size + 1) (w.heap.size + 1 + 1) [] ((wv.alloc (.map #[] 0)).alloc (.cells #[.map (some wv.heap.size)] 60)) := by
    have hm0 := (World.ownsMap_made wv Try.prog 3 (plainElem (H := Unit) Try.prog 3)).alloc (.cells #[.map (some wv.heap.size)] 60)
    have hb0 := Boxed.new (wv.alloc (.map #[] 0)) 60 (.map (some wv.heap.size))
    simp only [World.size_alloc] at hb0
    exact ⟨hb0.cell, ⟨_, 0, hm0, Nat.le_refl _, Tal.nil⟩, (hbr2.alloc _).alloc _, (hbe.alloc _).alloc _, (fun x hx => absurd hx (by simp)), (inv.below.alloc inv.below.size _).alloc (by have := inv.below.size; simp; omega) _⟩
  have inv2 := (inv.step ((Below.refl _ _).alloc (Nat.le_refl _) (.map #[] 0))).step ((Below.refl _ _).alloc (Nat.le_refl _) (.cells #[.map (some wv.heap.size)] 60))
  have hsz2 : ((wv.alloc (.map #[] 0)).alloc (.cells #[.map (some wv.heap.size)] 60)).heap.size = wv.heap.size + 2 := by simp
  clear inv k0 k1 k2 hbr2 hbe
  generalize (wv.alloc (.map #[] 0)).alloc (.cells #[.map (some wv.heap.size)] 60) = w2 at *
  generalize wv.heap.size = gm at *
  have inv := inv2
  clear inv2
  have k0 := inv.c0
  have k1 := inv.c1
  have k2 := inv.c2
  have HL1 := Lib.hid hL
  have HG := Lib.hid (And.intro hgr (And.intro hge hsz2))
  clear hL hgr hge hsz2
  gi_wp2_with (gi_at_call 44; ((with_reducible refine (HM.out _ _).mono ?_); rintro e w3 ⟨rfl, hn⟩); have HN := Lib.hid hn; clear hn)
  have hs3 : w3.heap.size = w2.heap.size + 3 := by rw [HN.out]; exact capsW_size _ _ _ _ _ _ _ _
  have hb3 : Below w2.heap.size w2 w3 := by rw [HN.out]; exact capsW_below _ _ _ _ _ _ _ _
  have hc3 : Caps w3 w2.heap.size (w2.heap.size + 1) (w2.heap.size + 2) nm b a len cap f t := by rw [HN.out]; exact capsW_caps _ _ _ _ _ _ _ _
  obtain ⟨hg1, hg2, hg3⟩ := HG.out
  have hL3 := HL1.out.step hb3 (by omega) (by omega) (by omega) (by omega) inv.below.size
  have hbw := inv.below.trans (hb3.mono inv.below.size)
  clear HN HL1 HG inv k0 k1 k2
  refine range_outer (α := Piece) rfl (enters_of Try.func57 (by kernel_rfl) rfl) (encs := encPiece) (fun _ => rfl) (fun k => k = gm ∨ k = w.heap.size + 1 ∨ k = w.heap.size + 1 + 1) (fun k hk => by omega) (dall f b t cs)
    (fun W hW hsW => HSQ.out W (hbw.trans (hW.mono hbw.size)) _ _ _ (hc3.below hW) _ (fun i hi => by rcases hi with (rfl | rfl | rfl) | rfl <;> omega) _)
    (fun s X => SplI w gm (gm + 1) (w.heap.size + 1) (w.heap.size + 1 + 1) s X) (fun s X => SplX w (w.heap.size + 1) (w.heap.size + 1 + 1) s X ∧ ∃ r, dall f b t cs = s ++ r)
    (fun s X Y h k => h.step k (by omega) (by omega) (by omega) (by omega) hbw.size) (fun s X Y h k => ⟨h.1.step k (by omega) (by omega) hbw.size, h.2⟩) hL3 ?round ?done ?stop
  case round =>
    intro pre x rest X hx hI hlt
    gi_wp2
    refine ⟨(Oth.refl _ _).alloc _, fun X2 hT => ?_⟩
    obtain ⟨dd, m0, m1⟩ := x
    obtain ⟨s0, s1, s2, -⟩ := HPB.out (dd, m0, m1) (by rw [hx]; simp)
    simp only at s0 s1 s2
    have p0 : X2.cell? ⟨X.heap.size, 0, none⟩ = some (.int .i64 m0) := hT.cell (by simp [World.cell?_alloc_new]) (by show X.heap.size ≠ _; omega)
    have p1 : X2.cell? ⟨X.heap.size, 1, none⟩ = some (.int .i64 m1) := hT.cell (by simp [World.cell?_alloc_new]) (by show X.heap.size ≠ _; omega)
    have hX2s : X2.heap.size = X.heap.size + 1 := by rw [hT.size]; simp
    have hI2 := (hI.step ((Below.refl w3.heap.size X).alloc (by omega) (.cells #[.int .i64 m0, .int .i64 m1] 26)) (by omega) (by omega) (by omega) (by omega) hbw.size).step (hT.below (Nat.le_succ _)) (by omega) (by omega) (by omega) (by omega) hbw.size
    have hT0 : 0 ≤ totP (dayP dd) pre := totP_nonneg _ _ (dayP_nonneg (fun y hy => (HPB.out y (by rw [hx]; exact List.mem_append_left _ hy)).2.1) dd)
    have hdx : dayP dd (dd, m0, m1) = m1 - m0 := by unfold dayP; rw [if_pos rfl]
    have hT1 : totP (dayP dd) pre + (m1 - m0) ≤ 44640 := by
      have h1 := HBD.out dd
      have h3 := totP_nonneg (dayP dd) rest (dayP_nonneg (fun y hy => (HPB.out y (by rw [hx]; simp [hy])).2.1) dd)
      rw [hx, totP_append, totP_cons, hdx] at h1
      omega
    have hlen : pre.length < 44640 := by
      have h1 := HLN.out
      rw [hx, List.length_append, List.length_cons] at h1
      omega
    have HSN := Lib.hid (show totP (dayP dd) (pre ++ [(dd, m0, m1)]) = totP (dayP dd) pre + (m1 - m0) by rw [totP_snoc, hdx])
    have HI2 := Lib.hid hI2
    have HEX := Lib.hid (show ∃ r, dall f b t cs = (pre ++ [(dd, m0, m1)]) ++ r from ⟨rest, by rw [hx]; simp⟩)
    have kb := hI2.box
    have kr := hI2.r.cell
    have krf := hI2.r.frozen
    have ke := hI2.e.cell
    have kef := hI2.e.frozen
    obtain ⟨D, n, hown, hn, htal⟩ := hI2.map
    have hTV := htal.val dd
    have HTL := Lib.hid htal
    have hXg : gm + 1 < X2.heap.size := by omega
    have hwX := hI2.below.size
    clear hI hI2 hx HPB HSQ hL3 hc3 hT htal HBD HLN HDL hdx
    generalize totP (dayP dd) pre = T at *
    by_cases hd : 0 ≤ dd ∧ dd ≤ 36524
    · have HD := Lib.hid (fun m w => (callsIn_wide (n := m)).2 (zday_is (n := dd) true (decide_eq_true hd) w))
      have hkey := Maps.keyOf_int_mk Try.underlying3 (WalkArith.wf_i64 (n := dd) ⟨by omega, by omega⟩)
      have hw4 := IntWalk.i64_in (m1 - m0) (by omega)
      gi_wp2_with (first
        | (gi_at_call 35; ((with_reducible refine (CallsIn.inRound _ (HD.out _ _)).mono ?_); rintro e' w6 ⟨rfl, rfl⟩))
        | (gi_at_lookup; refine wpListIn_lookup_own_int _ rfl _ _ 60 rfl 3 3 .i64 (Maps.int_keyed Try.underlying3) Try.underlying60 Try.underlying3 (Try.zeroValue3 _) gm n _ rfl hown _ _ rfl hkey ?_; intro c hat hwc; have ec : c = T := (by rw [hat] at hTV; simpa using hTV); have hw3 := IntWalk.i64_in (c + (m1 - m0)) (by omega); have hwf := WalkArith.wf_i64 (n := c + (m1 - m0)) ⟨by omega, by omega⟩; have EC := Lib.hid ec; clear hat hwc hTV ec)
        | (gi_at_mapUpdate; refine wpListIn_mapUpdate_own _ rfl _ _ _ 60 rfl 3 3 (Maps.int_keyed Try.underlying3) Try.underlying60 _ gm n _ rfl hown (by unfold maxLen; omega) _ _ _ rfl rfl hkey _ [] (plainElem_int Try.underlying3 hwf) ?_; intro wz hown1 hgrow1))
      exact ⟨(Oth.refl _ _).grown hgrow1 (fun k e => .inl (.inl (by cases e; rfl))), HI2.out.put hn HTL.out (dd, m0, m1) hd (by rw [HSN.out, EC.out]) hown hown1 hgrow1 (by omega) (by omega) (by omega) (by omega) (by omega)⟩
    · have HD := Lib.hid (fun m w => (callsIn_wide (n := m)).2 (zday_is (n := dd) false (decide_eq_false hd) w))
      gi_wp2_with (gi_at_call 35; ((with_reducible refine (CallsIn.inRound _ (HD.out _ _)).mono ?_); rintro e' w6 ⟨rfl, rfl⟩))
      refine ⟨Oth.setCell (Oth.setCell (Oth.refl _ _) (.inl (.inr (.inl rfl))) _) (.inl (.inr (.inr rfl))) _, ⟨Boxed.other (Boxed.set _ HI2.out.r) (by omega) _, Boxed.set _ (Boxed.other HI2.out.e (by omega) _), ⟨(dd, m0, m1), by simp, hd⟩, (HI2.out.below.setCell (by show _ ≤ w.heap.size + 1; omega) _).setCell (by show _ ≤ w.heap.size + 1 + 1; omega) _⟩, HEX.out⟩
  case done =>
    intro Y hI hlt hK
    have hYs := hI.below.size
    have hgY : gm < Y.heap.size := hI.map.lt
    have hbY : gm + 1 < Y.heap.size := World.block_lt_of_cell? Y ⟨gm + 1, 0, none⟩ hI.box
    obtain ⟨D, n, hown, hn, htal⟩ := hI.map
    have HI := Lib.hid hI
    have HK := Lib.hid hK
    obtain ⟨es, hes, hp, hk⟩ := hown.entries (Maps.int_keyed Try.underlying3)
    subst hes
    have hnN : n ≤ 44640 := by have := HLN.out; omega
    have HTV := Lib.hid htal.val
    have kb := hI.box
    have cK : ∀ m mb W, CallsIn Fence.wide m Try.prog 46 #[.map mb] W fun e w' => e = .returned (.func (.func 60) #[] #[.pointer (some ⟨W.heap.size, 0, none⟩)]) ∧ w' = W.alloc (.cells #[.map mb] 60) := fun m mb W => AnyZI.keys_in Try.keysK Fence.wide m trivial rfl mb W
    have hseq : SeqGives Fence.wide 2 Try.prog 60 #[.pointer (some ⟨Y.heap.size, 0, none⟩)] encZ (fun ss => ss.Perm (intKeys (.map es : DataW Unit))) (Maps.size (.map es : DataW Unit)) (Y.alloc (.cells #[.map (some gm)] 60)) :=
      AnyZI.keys_gives (ρ := Try.keysK_ren) { Try.keysK with } Fence.wide _ trivial rfl (by omega) Y.heap.size gm n _ _ (by simp) (Boxed.new Y _ _).cell (hown.alloc _)
    have hsort : AnyZI.SortsIn Try.prog Try.sortedK_ren Fence.wide 4 := ⟨fun blk off cap ss W hH hblk hsz => callsIn_wide.2 (Try.slices_Sort_int blk off cap ss W hH hblk hsz), fun p cap W => callsIn_wide.2 (Try.slices_Sort_int_none p cap W)⟩
    have hsz := hown.size_le
    have cS0 := AnyZI.sorted_in Try.sortedK Fence.wide 5 trivial trivial trivial trivial rfl (by omega) hsort (enters_of Try.func59 (by kernel_rfl) rfl) 60 #[.pointer (some ⟨Y.heap.size, 0, none⟩)] trivial (enters_of Try.func60 (by kernel_rfl) rfl) _ _ (by unfold maxLen; omega) (by omega) _ hseq
    change CallsIn _ _ Try.prog 45 _ _ _ at cS0
    have cS := Lib.hid (fun m => (callsIn_wide (n := m)).2 ((callsIn_wide.1 cS0).mono (R' := fun e w' => ∃ ak ck, ∃ ks : List Int, e = .returned (.slice ak ks.length ck) ∧ IntsAt ak ks w' ∧ ks.length ≤ 44640 ∧ (ks.Pairwise (· < ·) ∧ ∀ d, d ∈ ks ↔ ∃ x ∈ dall f b t cs, x.1 = d) ∧ Below Y.heap.size Y w') (by
      rintro e w5 ⟨vk, ss, rfl, hS, hrow, -, hb5⟩
      have hri : RowI w5 (Y.alloc (.cells #[.map (some gm)] 60)).heap.size vk (ss.mergeSort fun x y => decide (x ≤ y)) := by
        unfold RowI
        rw [List.length_mergeSort]
        exact hrow
      obtain ⟨ak, ck, rfl, hia⟩ := hri.ints
      refine ⟨ak, ck, _, rfl, hia, ?_, sorted_keys htal hp hk hS, ((Below.refl _ _).alloc (Nat.le_refl _) _).trans (hb5.mono (by simp))⟩
      rw [List.length_mergeSort, hS.length_eq]
      show (es.map _).length ≤ _
      rw [List.length_map]
      exact Nat.le_trans hsz hnN)))
    have HMP := Lib.hid (fun X (k : Below Y.heap.size Y X) => owns_same hown (k.block gm hgY))
    have hfK : Fence.wide.fn 46 := trivial
    have hfS : Fence.wide.fn 45 := trivial
    clear hI hK htal hp hk hseq hsort cS0 HSQ HPB HBD hL3 hc3 hown hsz hn
    gi_wp2_with (first
      | (gi_at_call 46; ((with_reducible refine (cK _ _ _).mono ?_); rintro e w' ⟨rfl, rfl⟩))
      | (gi_at_call 45; ((with_reducible refine (cS.out _).mono ?_); rintro e w5 ⟨ak, ck, ks, rfl, hia, hkl, hks, hb5⟩; have HKS := Lib.hid hks; obtain ⟨N, hN⟩ : ∃ N, N = ks.length := ⟨_, rfl⟩; have HN := Lib.hid hN; rw [← hN] at hkl ⊢; clear hks hN)))
    obtain ⟨i0, hi, hz0, hz1, hz2⟩ := info_parts Try.infoP
    have HI0 := Lib.hid (And.intro hi (And.intro hz0 (And.intro hz1 hz2)))
    clear hi hz0 hz1 hz2 cK cS
    have HIA := Lib.hid (fun X (k : Below w5.heap.size w5 X) => hia.below k)
    clear hia
    gi_loopg [11, 50] N (fun g s11 s50 wx => ∃ (i : Nat) (acc : List (Int × Int)), i + g = N ∧ s50 = .int .i64 i ∧ acc.length = i ∧ Hid (acc = dayL (dall f b t cs) (ks.take i)) ∧ Hid (RowP wx w5.heap.size s11 acc) ∧ Below w5.heap.size w5 wx)
    case atStart => exact ⟨0, [], by omega, rfl, rfl, (show [] = _ by rw [List.take_zero]; rfl), RowP.nil _ _, Below.refl _ _⟩
    case round =>
      obtain ⟨i, acc, hg, rfl, hal, HA, HR, hb⟩ := hrel
      have hY5 := hb5.trans (hb.mono hb5.size)
      cases gk with
      | zero =>
        obtain rfl : i = N := by omega
        have hL := HI.out.step hY5 (by omega) (by omega) (by omega) (by omega) hYs
        have kr := hL.r.cell
        have krf := hL.r.frozen
        have ke := hL.e.cell
        have kef := hL.e.frozen
        have HKK := Lib.hid ((hY5.block _ hlt).trans HK.out)
        have HBY := Lib.hid hY5
        have HAC := Lib.hid (show acc = ports (fun s => loc b cs s / 1440) f (t - f).toNat by
          rw [HA.out, HN.out, List.take_length]
          exact HDL.out ks HKS.out.1 HKS.out.2)
        have HLL := Lib.hid hL
        obtain ⟨ar, cr, eu, -⟩ := HR.out.ports
        subst eu
        have HR2 := Lib.hid (show RowP wr w5.heap.size (.slice ar i cr) acc by rw [← hal]; exact HR.out)
        clear hL hY5
        gi_wp2
        have hK1 : (wr.setCell ⟨w.heap.size + 1, 0, none⟩ (.slice ar i cr)).heap[w3.heap.size]? = some (.deferred (some [])) := (Below.heap_setCell _ _ _ _ (by show _ ≠ w.heap.size + 1; omega)).trans HKK.out
        have hK2 : ((wr.setCell ⟨w.heap.size + 1, 0, none⟩ (.slice ar i cr)).setCell ⟨w.heap.size + 1 + 1, 0, none⟩ (.int .i64 0)).heap[gm + 2 + 3]? = some (.deferred (some [])) := by
          rw [← hg3, ← hs3]
          exact (Below.heap_setCell _ _ _ _ (by show _ ≠ w.heap.size + 1 + 1; omega)).trans hK1
        refine ⟨by simp, .inl ⟨_, _, rfl, run_takeDeferred hK2, ?_⟩⟩
        have b1 : Boxed ((wr.setCell ⟨w.heap.size + 1, 0, none⟩ (.slice ar i cr)).setCell ⟨w.heap.size + 1 + 1, 0, none⟩ (.int .i64 0)) (w.heap.size + 1) 34 (.slice ar i cr) := Boxed.other (Boxed.set _ HLL.out.r) (by omega) _
        have b2 : Boxed ((wr.setCell ⟨w.heap.size + 1, 0, none⟩ (.slice ar i cr)).setCell ⟨w.heap.size + 1 + 1, 0, none⟩ (.int .i64 0)) (w.heap.size + 1 + 1) 30 (.int .i64 0) := Boxed.set _ (Boxed.other HLL.out.e (by omega) _)
        have b3 := (HLL.out.below.setCell (p := ⟨w.heap.size + 1, 0, none⟩) (by show _ ≤ w.heap.size + 1; omega) (.slice ar i cr)).setCell (p := ⟨w.heap.size + 1 + 1, 0, none⟩) (by show _ ≤ w.heap.size + 1 + 1; omega) (.int .i64 0)
        have hR2 : RowP ((wr.setCell ⟨w.heap.size + 1, 0, none⟩ (.slice ar i cr)).setCell ⟨w.heap.size + 1 + 1, 0, none⟩ (.int .i64 0)) w5.heap.size (.slice ar i cr) acc := RowP.far HR2.out (fun g hg => (Below.heap_setCell _ _ _ _ (by show _ ≠ w.heap.size + 1 + 1; have := hb5.size; omega)).trans (Below.heap_setCell _ _ _ _ (by show _ ≠ w.heap.size + 1; have := hb5.size; omega))) (Nat.le_refl _)
        clear hK1 hK2
        generalize (wr.setCell ⟨w.heap.size + 1, 0, none⟩ (.slice ar i cr)).setCell ⟨w.heap.size + 1 + 1, 0, none⟩ (.int .i64 0) = Z1 at *
        have hZ : Below (gm + 2 + 3) Z1 (Z1.putObj (gm + 2 + 3) (.deferred none)) := (Turned.putObj (gm + 2 + 3) Z1 (.deferred none)).below (Nat.le_refl _)
        have b1' := Boxed.cell (W := Z1.putObj (gm + 2 + 3) (.deferred none)) (t := 34) ((hZ.block (w.heap.size + 1) (by omega)).trans b1)
        have b2' := Boxed.cell (W := Z1.putObj (gm + 2 + 3) (.deferred none)) (t := 30) ((hZ.block (w.heap.size + 1 + 1) (by omega)).trans b2)
        have b3' := b3.trans (hZ.mono (by omega))
        have hR3 := RowP.far hR2 (w' := Z1.putObj (gm + 2 + 3) (.deferred none)) (base' := w.heap.size) (fun g hg => World.putObj_heap_other (by have := hb5.size; omega)) (by have := hb5.size; omega)
        generalize Z1.putObj (gm + 2 + 3) (.deferred none) = Z at *
        refine ⟨.tuple #[.slice ar i cr, .int .i64 0], (by rw [results_cells2 rfl]; go_simp), .inl ⟨_, rfl, by rw [← HAC.out]; exact hR3, HI.out.days⟩, b3'⟩
      | succ g =>
        have hin : i < N := by omega
        obtain ⟨d, hd⟩ : ∃ d, ks[i]? = some d := ⟨_, List.getElem?_eq_getElem (by have := HN.out; omega)⟩
        obtain ⟨bk, ok, rfl, hc⟩ := HIA.out _ hb i d hd
        have kb6 := (hY5.cell (p := ⟨gm + 1, 0, none⟩) (by show gm + 1 < _; omega)).trans kb
        have hown := HMP.out _ hY5
        have hdr : -9223372036854775808 ≤ d ∧ d ≤ 9223372036854775807 := by
          obtain ⟨x, hx, e⟩ := (HKS.out.2 d).1 (List.mem_of_getElem? hd)
          have := HI.out.days x hx
          omega
        have hkey := Maps.keyOf_int_mk Try.underlying3 (WalkArith.wf_i64 (n := d) hdr)
        have hTV := HTV.out d
        have HA2 := Lib.hid (show acc ++ [(d, totP (dayP d) (dall f b t cs))] = dayL (dall f b t cs) (ks.take (i + 1)) by
          rw [HA.out, List.take_add_one, hd]; unfold dayL; rw [List.map_append]; rfl)
        have hbs := hb.size
        clear hd hY5 HA
        generalize totP (dayP d) (dall f b t cs) = T at *
        gi_wp2_with (first
          | (gi_at_lookup; refine wpListIn_lookup_own_int _ rfl _ _ 60 rfl 3 3 .i64 (Maps.int_keyed Try.underlying3) Try.underlying60 Try.underlying3 (Try.zeroValue3 _) gm n _ rfl hown _ _ rfl hkey ?_; intro c hat hwc; have EC := Lib.hid (show c = T by rw [hat] at hTV; simpa using hTV); clear hat hwc hTV)
          | (gi_at_builtin; refine wpListIn_append_own _ rfl _ _ 34 rfl w5.heap.size 46 i0 (.agg #[.int .i64 0, .int .i64 0]) 2 16 Try.underP HI0.out.1 HI0.out.2.1 HI0.out.2.2.1 HI0.out.2.2.2 rfl (by decide) _ _ _ rfl (World.ownsRow.alloc HR.out _) _ 1 1 [.int .i64 d, .int .i64 c] rfl rfl (two_cells rfl) two_one ?c3 ?c4 ?c5 ?_))
        case c3 => unfold maxLen; omega
        case c4 => omega
        case c5 => simp; omega
        intro v' w1 hown' hgrow _
        have hB := row_grown hb hbs (World.ownsRow.alloc HR.out _) hgrow (Nat.le_refl _)
        have HR1 := Lib.hid (RowP.push (l := acc) (d := d) (n := c) (by rw [hal]; exact hown'))
        clear hown' hgrow
        gi_wp2
        gi_roundg g
        case measure => omega
        case rel => exact ⟨i + 1, acc ++ [(d, c)], by omega, by go_num, by simp [hal], by rw [EC.out]; exact HA2.out, HR1.out, hB⟩
  case stop =>
    rintro pre Y ⟨hI, r, hr⟩ hlt hK
    gi_wp2
    refine ⟨by simp, .inl ⟨_, _, rfl, run_takeDeferred hK, ?_⟩⟩
    have hI2 := hI.step ((Turned.putObj w3.heap.size Y (.deferred none)).below (Nat.le_refl _)) (by omega) (by omega) hbw.size
    generalize Y.putObj w3.heap.size (.deferred none) = Z at *
    have kr := hI2.r.cell
    have ke := hI2.e.cell
    clear hK hlt
    refine ⟨_, (by rw [results_cells2 rfl]; go_simp), .inr ⟨rfl, ?_⟩, hI2.below⟩
    obtain ⟨x, hx, hb⟩ := hI.bad
    exact ⟨x, by rw [hr]; exact List.mem_append_left _ hx, hb⟩
end Go.Proofs.Ytjmnohbgfkohpaa.Zn
