/- What lexer.Lex returns for every source. Conditions: the tables of classes and symbols hold what their initialisers lay; a source of at most 7000 bytes. -/
import Derived.Test.YtlpombnmeioafaaDoorLexRow
import Derived.Test.YtlpombnmeioafaaDoorZoneRound
import Derived.RangeFuncBox
import Derived.RegionTactic
set_option linter.unusedVariables false
set_option linter.unusedSimpArgs false
namespace Go.Proofs.YtlpombnmeioafaaDoor.Lx
open Go Go.RowKit Go.Shelf Go.PlainAid Go.Proofs.YtlpombnmeioafaaDoor.Zn
attribute [local go_sem] Oper.semAt_some
theorem results_cells3 {fn : Func} {p u x : Tmp} {t1 t2 t3 : TypeId} (h : fn.results = #[.cell p t1, .cell u t2, .cell x t3]) (tmps : Array Value) (P : Program) (w : World) :
    (results fn tmps).run P w = ((asAddr (tmps.getD p undef)).run P w).andThen fun a w1 => ((loadVar t1 a).run P w1).andThen fun v w2 => ((asAddr (tmps.getD u undef)).run P w2).andThen fun a2 w3 => ((loadVar t2 a2).run P w3).andThen fun v2 w4 => ((asAddr (tmps.getD x undef)).run P w4).andThen fun a3 w5 => ((loadVar t3 a3).run P w5).andThen fun v3 w6 => .ok (.tuple #[v, v2, v3]) w6 := by
  simp only [results, h]
  simp [Sem.run_bind, Result.andThen]
/-- What Lex returns. -/
def LexPost (s : ByteArray) (T : List Tok × Nat × Nat) (w : World) (res : Ending) (w' : World) : Prop := ∃ a c, res = .returned (.tuple #[.slice a T.1.length c, .int .i64 T.2.1, .int .i64 T.2.2]) ∧ TokAt a (toks s T.1) w' ∧ (a = none → c = 0) ∧ T.1.length ≤ c ∧ (∀ b o, a = some ⟨b, o, none⟩ → w.heap.size ≤ b) ∧ Below w.heap.size w w'
theorem LexPost.none {s : ByteArray} {T : List Tok × Nat × Nat} {w w' : World} {e a : Nat} {res : Ending} (h : T = ([], e, a)) (hr : res = .returned (.tuple #[.slice none 0 0, .int .i64 e, .int .i64 a])) (hb : Below w.heap.size w w') : LexPost s T w res w' := by
  subst h
  exact ⟨Option.none, 0, hr, TokAt.nil _ _, (fun _ => rfl), Nat.le_refl _, (fun _ _ e => by cases e), hb⟩
set_option maxHeartbeats 4000000 in
set_option maxRecDepth 100000 in
theorem lex_long (s : ByteArray) (w : World) (hs : s.size ≤ 9223372036854775807) (h : 6000 < s.size) (hT : Tabs w) :
    Calls Tryd.prog 11 #[.string s] w (LexPost s (lexL (bl s)) w) := by
  have HE := Lib.hid (show lexL (bl s) = ([], 2, 0) by unfold lexL; rw [bl_len, if_pos h])
  have hd : decide ((6000 : Int) < (s.size : Int)) = true := decide_eq_true (by omega)
  clear hT
  go_enter Tryd.func11, Tryd.ntmps11
  go_wp2
  refine bodyPost_ret (by rw [results_cells3 rfl]; go_simp) rfl (LexPost.none HE.out rfl ?_)
  exact (((Below.refl _ _).alloc (Nat.le_refl _) _).alloc (by simp) _).alloc (by simp; omega) _
abbrev lexW (w : World) : World := (((w.alloc (.cells #[.slice none 0 0] 23)).alloc (.cells #[.int .i64 0] 24)).alloc (.cells #[.int .i64 0] 3)).alloc (.cells #[.slice none 0 0] 23)
theorem lexW_I (w : World) (base : Nat) : LexI w w.heap.size base [] (lexW w) := by
  have e1 : (lexW w).heap[w.heap.size]? = some (.cells #[.slice none 0 0] 23 (0, 0)) := by
    unfold lexW
    rw [Below.heap_alloc _ _ _ (by simp; omega), Below.heap_alloc _ _ _ (by simp; omega), Below.heap_alloc _ _ _ (by simp)]; exact World.alloc_heap_new _ _
  have e2 : (lexW w).heap[w.heap.size + 1]? = some (.cells #[.int .i64 0] 24 (0, 0)) := by
    unfold lexW
    rw [Below.heap_alloc _ _ _ (by simp), Below.heap_alloc _ _ _ (by simp)]
    have h := World.alloc_heap_new (w.alloc (.cells #[.slice none 0 0] 23)) (.cells #[.int .i64 0] 24)
    rwa [World.size_alloc] at h
  have e3 : (lexW w).heap[w.heap.size + 2]? = some (.cells #[.int .i64 0] 3 (0, 0)) := by
    unfold lexW
    rw [Below.heap_alloc _ _ _ (by simp)]
    have h := World.alloc_heap_new ((w.alloc (.cells #[.slice none 0 0] 23)).alloc (.cells #[.int .i64 0] 24)) (.cells #[.int .i64 0] 3)
    rwa [World.size_alloc, World.size_alloc] at h
  have e4 : (lexW w).heap[w.heap.size + 3]? = some (.cells #[.slice none 0 0] 23 (0, 0)) := by
    unfold lexW
    have h := World.alloc_heap_new (((w.alloc (.cells #[.slice none 0 0] 23)).alloc (.cells #[.int .i64 0] 24)).alloc (.cells #[.int .i64 0] 3)) (.cells #[.slice none 0 0] 23)
    rwa [World.size_alloc, World.size_alloc, World.size_alloc] at h
  have c : ∀ {k : Nat} {v : Value} {t : TypeId}, (lexW w).heap[k]? = some (.cells #[v] t (0, 0)) → (lexW w).cell? ⟨k, 0, none⟩ = some v ∧ (lexW w).frozen? ⟨k, 0, none⟩ = false := fun {k v t} h => ⟨by simp [World.cell?, h], by simp [World.frozen?, h]⟩
  exact ⟨(c e1).1, (c e2).1, (c e3).1, (c e1).2, (c e2).2, (c e3).2, (c e4).2, ⟨_, (c e4).1, RowT.nil _ _⟩, ((((Below.refl _ _).alloc (Nat.le_refl _) _).alloc (by simp) _).alloc (by simp; omega) _).alloc (by simp; omega) _⟩
theorem LexI.err {w X : World} {x0 base : Nat} {acc : List ATok} (h : LexI w x0 base acc X) (hw : w.heap.size ≤ x0) (er at_ : Nat) (mine : Nat → Prop) (hm : mine x0 ∧ mine (x0 + 1) ∧ mine (x0 + 2)) :
    Oth mine X ((((X.setCell ⟨x0, 0, none⟩ (.slice none 0 0)).setCell ⟨x0 + 1, 0, none⟩ (.int .i64 er)).setCell ⟨x0 + 2, 0, none⟩ (.int .i64 at_)).drew) ∧
    LexX w x0 er at_ ((((X.setCell ⟨x0, 0, none⟩ (.slice none 0 0)).setCell ⟨x0 + 1, 0, none⟩ (.int .i64 er)).setCell ⟨x0 + 2, 0, none⟩ (.int .i64 at_)).drew) := by
  refine ⟨((((Oth.refl mine X).setCell (.inl hm.1) _).setCell (.inl hm.2.1) _).setCell (.inl hm.2.2) _).drew, ?_, ?_, ?_, ?_⟩
  · show (((X.setCell _ _).setCell _ _).setCell _ _).cell? _ = _
    rw [World.cell?_setCell_other _ _ _ _ (fun q => by injection q with q; omega), World.cell?_setCell_other _ _ _ _ (fun q => by injection q with q; omega)]
    exact World.cell?_setCell_same' _ _ _ (by rw [h.r0]; rfl)
  · show (((X.setCell _ _).setCell _ _).setCell _ _).cell? _ = _
    rw [World.cell?_setCell_other _ _ _ _ (fun q => by injection q with q; omega)]
    exact World.cell?_setCell_same' _ _ _ (by rw [World.cell?_setCell_other _ _ _ _ (fun q => by injection q with q; omega), h.r1]; rfl)
  · show (((X.setCell _ _).setCell _ _).setCell _ _).cell? _ = _
    exact World.cell?_setCell_same' _ _ _ (by rw [World.cell?_setCell_other _ _ _ _ (fun q => by injection q with q; omega), World.cell?_setCell_other _ _ _ _ (fun q => by injection q with q; omega), h.r2]; rfl)
  · exact (((h.hb.setCell (show w.heap.size ≤ (⟨x0, 0, none⟩ : Addr).block from hw) _).setCell (show w.heap.size ≤ (⟨x0 + 1, 0, none⟩ : Addr).block by show w.heap.size ≤ x0 + 1; omega) _).setCell (show w.heap.size ≤ (⟨x0 + 2, 0, none⟩ : Addr).block by show w.heap.size ≤ x0 + 2; omega) _).drew
/-- What the results' boxes hold at the end. -/
structure LexZ (w : World) (x0 base : Nat) (v : Value) (e a : Int) (acc : List ATok) (Z : World) : Prop where
  r0 : Z.cell? ⟨x0, 0, none⟩ = some v
  r1 : Z.cell? ⟨x0 + 1, 0, none⟩ = some (.int .i64 e)
  r2 : Z.cell? ⟨x0 + 2, 0, none⟩ = some (.int .i64 a)
  row : RowT Z base v acc
  hb : Below w.heap.size w Z
theorem LexZ.kp {w X Y : World} {x0 base : Nat} {v : Value} {e a : Int} {acc : List ATok} (h : LexZ w x0 base v e a acc X) (q : Kp (x0 + 3) base X Y) (hw : w.heap.size ≤ x0) : LexZ w x0 base v e a acc Y :=
  ⟨q.cell (by show x0 ≤ _; omega) h.r0, q.cell (by show x0 + 1 ≤ _; omega) h.r1, q.cell (by show x0 + 2 ≤ _; omega) h.r2, h.row.kp q, q.below h.hb (by omega)⟩
theorem LexI.fin {w Y : World} {x0 base : Nat} {v : Value} {acc : List ATok} (h : LexI w x0 base acc Y) (hw : w.heap.size ≤ x0) (hb : x0 + 3 < base) (hr : RowT Y base v acc) (D : Nat) (hD : x0 + 3 < D) :
    LexZ w x0 base v 0 0 acc (((Y.setCell ⟨x0, 0, none⟩ v).setCell ⟨x0 + 1, 0, none⟩ (.int .i64 0)).setCell ⟨x0 + 2, 0, none⟩ (.int .i64 0)) ∧
    (((Y.setCell ⟨x0, 0, none⟩ v).setCell ⟨x0 + 1, 0, none⟩ (.int .i64 0)).setCell ⟨x0 + 2, 0, none⟩ (.int .i64 0)).heap[D]? = Y.heap[D]? := by
  refine ⟨⟨?_, ?_, ?_, ?_, ?_⟩, ?_⟩
  · rw [World.cell?_setCell_other _ _ _ _ (fun q => by injection q with q; omega), World.cell?_setCell_other _ _ _ _ (fun q => by injection q with q; omega)]
    exact World.cell?_setCell_same' _ _ _ (by rw [h.r0]; rfl)
  · rw [World.cell?_setCell_other _ _ _ _ (fun q => by injection q with q; omega)]
    exact World.cell?_setCell_same' _ _ _ (by rw [World.cell?_setCell_other _ _ _ _ (fun q => by injection q with q; omega), h.r1]; rfl)
  · exact World.cell?_setCell_same' _ _ _ (by rw [World.cell?_setCell_other _ _ _ _ (fun q => by injection q with q; omega), World.cell?_setCell_other _ _ _ _ (fun q => by injection q with q; omega), h.r2]; rfl)
  · exact ownsRow_setCell_below (ownsRow_setCell_below (ownsRow_setCell_below hr (show (⟨x0, 0, none⟩ : Addr).block < base by show x0 < base; omega) _) (show (⟨x0 + 1, 0, none⟩ : Addr).block < base by show x0 + 1 < base; omega) _) (show (⟨x0 + 2, 0, none⟩ : Addr).block < base by show x0 + 2 < base; omega) _
  · exact ((h.hb.setCell (show w.heap.size ≤ (⟨x0, 0, none⟩ : Addr).block from hw) _).setCell (show w.heap.size ≤ (⟨x0 + 1, 0, none⟩ : Addr).block by show w.heap.size ≤ x0 + 1; omega) _).setCell (show w.heap.size ≤ (⟨x0 + 2, 0, none⟩ : Addr).block by show w.heap.size ≤ x0 + 2; omega) _
  · rw [Below.heap_setCell _ _ _ _ (by show D ≠ x0 + 2; omega), Below.heap_setCell _ _ _ _ (by show D ≠ x0 + 1; omega), Below.heap_setCell _ _ _ _ (by show D ≠ x0; omega)]
theorem three_cells (W : World) (a b c : Value) (t : TypeId) (bk : Nat) (hbk : W.heap.size = bk) : ∀ j u, [a, b, c][j]? = some u → (W.alloc (.cells #[a, b, c] t)).cell? ((⟨bk, 0, none⟩ : Addr).add j) = some u := by
  subst hbk
  intro j u hu
  have e : (⟨W.heap.size, 0, none⟩ : Addr).add j = ⟨W.heap.size, 0 + j, none⟩ := by unfold Addr.add; split <;> simp_all
  rw [e, World.cell?_alloc_new, Nat.zero_add, List.getElem?_toArray]
  exact hu
theorem Tabs.lt {w : World} (h : Tabs w) : 0 < w.heap.size ∧ 1 < w.heap.size :=
  ⟨World.block_lt_of_cell? _ _ (h.c 0 (by decide)), World.block_lt_of_cell? _ _ (h.s 0 (.string ⟨#[61, 61]⟩) rfl)⟩
set_option maxHeartbeats 4000000 in
set_option maxRecDepth 100000 in
theorem lex_short (s : ByteArray) (w : World) (h : s.size ≤ 6000) (hT : Tabs w) :
    Calls Tryd.prog 11 #[.string s] w (LexPost s (lexL (bl s)) w) := by
  obtain ⟨T, hTT⟩ : ∃ T, T = lexL (bl s) := ⟨_, rfl⟩
  have HTT := Lib.hid (show T = cutA [] (all (bl s)) by rw [hTT]; unfold lexL; rw [bl_len, if_neg (by omega)])
  rw [← hTT]
  clear hTT
  have hd : decide ((6000 : Int) < (s.size : Int)) = false := decide_eq_false (by omega)
  have HT := Lib.hid hT
  clear hT
  have HTO := Lib.hid (fun m w => (callsIn_wide (n := m)).2 (tokensOf_any s w))
  have hf1 : Fence.wide.fn 19 := trivial
  have hdep : Fence.wide.depth = none := rfl
  have HI0 := lexW_I w (w.heap.size + 7)
  refine (callsIn_wide (n := 3)).1 ?_
  refine callsIn_of_wp_marks Tryd.func11 rfl trivial ?_ rfl
  simp only [Tryd.ntmps11, List.size_toArray, List.length_cons, List.length_nil, Nat.reduceAdd, Nat.reduceSub, Array.replicate_succ, Array.replicate_zero, List.push_toArray, List.append_toArray, List.nil_append, List.cons_append]
  gi_upto_region 4 with (fail)
  change Code.wpIn _ _ _ _ _ _ (lexW w)
  have e2 : w.heap.size + 1 + 1 = w.heap.size + 2 := rfl
  have e3 : w.heap.size + 1 + 1 + 1 = w.heap.size + 3 := rfl
  have hz4 : (lexW w).heap.size = w.heap.size + 4 := by simp [lexW]
  have hbl : Below w.heap.size w (lexW w) := HI0.hb
  have hTx := HT.out.below hbl
  have htl := HT.out.lt
  rw [e3, e2]
  clear e2 e3
  obtain ⟨x0, hx0⟩ : ∃ x, x = w.heap.size := ⟨_, rfl⟩
  rw [← hx0] at HI0 hz4 hbl htl ⊢
  have HX0 := Lib.hid hx0
  clear hx0
  generalize lexW w = W4 at *
  gi_wp2_with (gi_at_call 19; ((with_reducible refine (HTO.out _ _).mono ?_); rintro _ W6 ⟨rfl, hn6⟩); have HN6 := Lib.hid hn6; clear hn6)
  have h46 : Below W4.heap.size W4 W6 := by rw [HN6.out]; exact alloc_below _ _
  have hz6 : W6.heap.size = x0 + 5 := by rw [HN6.out]; simp [hz4]
  have hc6 : W6.cell? ⟨x0 + 4, 0, none⟩ = some (.string s) := by
    rw [HN6.out, ← hz4]; simp [World.cell?_alloc_new]
  have hI6 := HI0.kp (Kp.of_below h46 (Nat.le_refl _)) (Nat.le_of_eq HX0.out.symm)
  have hT6 := hTx.below h46
  have HX0' := Nat.le_of_eq HX0.out.symm
  clear HN6 HI0 hTx hbl h46
  have HCP := Lib.hid (cutA_pre ([] : List Tok))
  have hmix : Tryd.prog.follows .mixedOrders = true := by kernel_rfl
  obtain ⟨i0, hi, hq0, hq1, hq2⟩ := info_parts Tryd.infoT
  have HIN := Lib.hid (And.intro hi (And.intro hq0 (And.intro hq1 hq2)))
  clear hi hq0 hq1 hq2 hz4
  refine range_outer2 (α := Tok) rfl (enters_of Tryd.func22 (by kernel_rfl) rfl) (encs := encTok s) (fun _ => rfl) (fun i => (x0 ≤ i ∧ i ≤ x0 + 3) ∨ x0 + 6 < i) (fun i hi => by omega) (all (bl s))
    (fun W hbW hsW => lex_seq s (by omega) W (hT6.below hbW) (x0 + 4) (cell_kept hbW hc6) _ (fun i hi => by omega) _)
    (fun t X => LexI w x0 (x0 + 7) (toks s t) X ∧ (∀ u ∈ t, u.1 ≠ 0) ∧ t.length ≤ 2000) (fun _ X => ∃ er at_, LexX w x0 er at_ X ∧ T = ([], er, at_))
    (fun t X Y h q => ⟨h.1.kp (Kp.of_below q (Nat.le_refl _)) HX0', h.2⟩) (fun t X Y ⟨er, at_, h, k⟩ q => ⟨er, at_, h.kp (base := x0 + 7) (Kp.of_below q (Nat.le_refl _)) HX0', k⟩) (fun t X Y h q => ⟨h.1.kp (Kp.of_turned q (by omega) (by omega)) HX0', h.2⟩) (fun t X Y ⟨er, at_, h, k⟩ q => ⟨er, at_, h.kp (base := x0 + 7) (Kp.of_turned q (by omega) (by omega)) HX0', k⟩)
    ⟨hI6, (fun u hu => by cases hu), Nat.zero_le _⟩ ?round ?done ?stop
  case round =>
    intro pre x rest X hx hI hlt
    gi_wp2
    refine ⟨(Oth.refl _ _).alloc _, fun X2 hTn => ?_⟩
    obtain ⟨κ, p, n⟩ := x
    obtain ⟨hI, hnz, hln⟩ := hI
    have hX2s : X2.heap.size = X.heap.size + 1 := by rw [hTn.size]; simp
    have p0 : X2.cell? ⟨X.heap.size, 0, none⟩ = some (.int .i64 κ) := hTn.cell (by simp [World.cell?_alloc_new]) (by show X.heap.size ≠ _; omega)
    have p1 : X2.cell? ⟨X.heap.size, 1, none⟩ = some (.string (s.extract p (p + n))) := hTn.cell (by simp [World.cell?_alloc_new]) (by show X.heap.size ≠ _; omega)
    have p2 : X2.cell? ⟨X.heap.size, 2, none⟩ = some (.int .i64 p) := hTn.cell (by simp [World.cell?_alloc_new]) (by show X.heap.size ≠ _; omega)
    have hkp : Kp (x0 + 3) (x0 + 7) X X2 := (Kp.of_below (alloc_below X _) (Nat.le_refl _)).trans (Kp.of_turned hTn (by omega) (by omega))
    have hI2 := hI.kp hkp HX0'
    obtain ⟨v, hv2, hr2⟩ := hI2.row
    obtain ⟨av, cv, rfl, -, -, -, -⟩ := hr2.toks
    obtain ⟨m, hm⟩ : ∃ m, m = (toks s pre).length := ⟨_, rfl⟩
    have hml : m = pre.length := by rw [hm, toks_len]
    rw [← hm] at hv2 hr2
    have HM := Lib.hid (And.intro hm hml)
    have HTC : Hid (T = cutA pre ((κ, p, n) :: rest)) := Lib.hid (by
      rw [HTT.out, hx, HCP.out pre _ hnz (by simpa using hln)]; rfl)
    have r0 := hI2.r0
    have r1 := hI2.r1
    have r2 := hI2.r2
    have z0 := hI2.z0
    have z1 := hI2.z1
    have z2 := hI2.z2
    have z3 := hI2.z3
    have HNZ := Lib.hid hnz
    have HI2 := Lib.hid hI2
    have HR2 := Lib.hid hr2
    have HB2 := Lib.hid hI2.hb
    have HLN := Lib.hid hln
    have hnx : X2.heap.size ≠ x0 := by omega
    have HSZ := Lib.hid (And.intro hX2s (And.intro hz6 hlt))
    clear hm hml hI hnz hln hkp hr2 hI2 hx hTn HCP HTT hI6 hT6 hc6 hd hX2s
    generalize hxt : X.heap.size = xt at *
    have HXT := Lib.hid hxt
    clear hxt
    by_cases hm2 : m = 2000
    · have hq : ((m : Int) == 2000) = true := by rw [hm2]; rfl
      have HT2 : Hid (T = ([], 2, p)) := Lib.hid (by rw [HTC.out]; unfold cutA; rw [if_pos (by rw [← HM.out.2, hm2])])
      have HM2 := Lib.hid hm2
      clear hm2 HTC
      gi_upto_region 7 with (fail)
      gi_region
      all_goals
        gi_wp2
        exact ⟨(HI2.out.err HX0' 2 p _ ⟨.inl ⟨Nat.le_refl _, by omega⟩, .inl ⟨by omega, by omega⟩, .inl ⟨by omega, by omega⟩⟩).1, _, _, (HI2.out.err HX0' 2 p (fun i => (x0 ≤ i ∧ i ≤ x0 + 3) ∨ x0 + 6 < i) ⟨.inl ⟨Nat.le_refl _, by omega⟩, .inl ⟨by omega, by omega⟩, .inl ⟨by omega, by omega⟩⟩).2, HT2.out⟩
    · have hq : ((m : Int) == 2000) = false := by simpa using fun h : (m : Int) = 2000 => hm2 (by omega)
      by_cases hk : κ = 0
      · have hq2 : ((κ : Int) == 0) = true := by rw [hk]; rfl
        have HT2 : Hid (T = ([], 61, p)) := Lib.hid (by rw [HTC.out]; unfold cutA; rw [if_neg (by rw [← HM.out.2]; exact hm2), if_pos hk])
        have HM2 := Lib.hid (And.intro hm2 hk)
        clear hm2 hk HTC
        gi_upto_region 9 with (fail)
        gi_region
        all_goals
          gi_wp2
          exact ⟨(HI2.out.err HX0' 61 p _ ⟨.inl ⟨Nat.le_refl _, by omega⟩, .inl ⟨by omega, by omega⟩, .inl ⟨by omega, by omega⟩⟩).1, _, _, (HI2.out.err HX0' 61 p (fun i => (x0 ≤ i ∧ i ≤ x0 + 3) ∨ x0 + 6 < i) ⟨.inl ⟨Nat.le_refl _, by omega⟩, .inl ⟨by omega, by omega⟩, .inl ⟨by omega, by omega⟩⟩).2, HT2.out⟩
      · have hq2 : ((κ : Int) == 0) = false := by simpa using fun h : (κ : Int) = 0 => hk (by omega)
        have HM2 := Lib.hid (And.intro hm2 hk)
        clear hm2 hk HTC
        have kc := alloc_below X2 (.cells #[.int .i64 κ, .string (s.extract p (p + n)), .int .i64 p] 30)
        have hrow : World.ownsRow (X2.alloc (.cells #[.int .i64 κ, .string (s.extract p (p + n)), .int .i64 p] 30)) (x0 + 7) 30 3 (.slice av m cv) m (flatT (toks s pre)) := by
          have h := HR2.out.below kc
          unfold RowT at h
          rw [← HM.out.1] at h
          exact h
        have HKC := Lib.hid (And.intro kc hrow)
        have hsz := HSZ.out.1
        have hml2 : m ≤ 2000 := by have := HLN.out; have := HM.out.2; omega
        clear kc hrow
        gi_upto_region 10 with (fail)
        gi_wp2_with (gi_at_builtin; refine wpListIn_append_own_at _ rfl _ _ 23 rfl (x0 + 7) 30 i0 (.agg #[.int .i64 0, .string ⟨#[]⟩, .int .i64 0]) 3 32 Tryd.underT HIN.out.1 HIN.out.2.1 HIN.out.2.2.1 HIN.out.2.2.2 rfl (by decide) _ _ _ rfl HKC.out.2 _ 1 1 [.int .i64 κ, .string (s.extract p (p + n)), .int .i64 p] rfl rfl (three_cells _ _ _ _ _ _ hsz) ?c2 ?c3 ?c4 ?c5 ?_)
        case c2 => intro u hu; simp only [List.mem_cons, List.not_mem_nil, or_false] at hu; rcases hu with rfl | rfl | rfl <;> rfl
        case c3 => unfold maxLen; omega
        case c4 => omega
        case c5 => simp; have := HSZ.out; omega
        intro v9 W9 hown hg hnil hat
        have hown' : RowT W9 (x0 + 7) v9 (toks s pre ++ [(κ, s.extract p (p + n), p)]) := RowT.app HM.out.1 rfl hown
        obtain ⟨a9, c9, e9, -, -, -⟩ := hown'.toks
        obtain ⟨m9, hm9⟩ : ∃ m9, m9 = (toks s pre ++ [(κ, s.extract p (p + n), p)]).length := ⟨_, rfl⟩
        rw [← hm9] at e9
        clear hm9
        have hap := LexI.app HI2.out HX0' (by omega) HKC.out.1 hv2 (by unfold RowT; rw [← HM.out.1]; exact HKC.out.2) hg hown' (fun i => (x0 ≤ i ∧ i ≤ x0 + 3) ∨ x0 + 6 < i) (.inl ⟨by omega, Nat.le_refl _⟩) (fun i hi => Or.inr (by omega))
        have HAP := Lib.hid hap
        have hlo : ∀ i, (Value.slice av m cv).ownBlock = some i → x0 + 7 ≤ i := fun i hi => (World.ownsRow.lt HKC.out.2 i hi).1
        have bl : ∀ i, i ≤ x0 + 3 → i < (X2.alloc (.cells #[.int .i64 κ, .string (s.extract p (p + n)), .int .i64 p] 30)).heap.size → W9.heap[i]? = (X2.alloc (.cells #[.int .i64 κ, .string (s.extract p (p + n)), .int .i64 p] 30)).heap[i]? := fun i hi hl => hg.block i hl (fun e => by have := hlo i e.symm; omega)
        have hv9 : W9.cell? ⟨x0 + 3, 0, none⟩ = some (.slice av m cv) := (World.cell?_of_block (bl (x0 + 3) (Nat.le_refl _) (World.block_lt_of_cell? _ _ (cell_kept HKC.out.1 hv2)))).trans (cell_kept HKC.out.1 hv2)
        have hz9 : W9.frozen? ⟨x0 + 3, 0, none⟩ = false := by
          have hzk : (X2.alloc (.cells #[.int .i64 κ, .string (s.extract p (p + n)), .int .i64 p] 30)).frozen? ⟨x0 + 3, 0, none⟩ = false := (Kp.of_below (rb := x0 + 3) (base := x0 + 7) HKC.out.1 (Nat.le_refl _)).frozen (Nat.le_refl _) hv2 z3
          exact (frozen_block (bl (x0 + 3) (Nat.le_refl _) (World.block_lt_of_cell? _ _ (cell_kept HKC.out.1 hv2)))).trans hzk
        subst e9
        clear hap hown hown' hg hnil hat bl hlo hv2 r0 r1 r2 z0 z1 z2 z3 p0 p1 p2
        gi_wp2
        refine ⟨HAP.out.1, by rw [toks_app]; exact HAP.out.2, fun u hu => ?_, by rw [List.length_append]; have := HM.out.2; have := HM2.out.1; have := HLN.out; show _ + 1 ≤ _; omega⟩
        rcases List.mem_append.1 hu with hu | hu
        · exact HNZ.out u hu
        · obtain rfl := List.mem_singleton.1 hu
          exact HM2.out.2
  case done =>
    rintro Y ⟨hI, hnz, hln⟩ hlt hK
    have HT2 := Lib.hid (show T = (all (bl s), 0, 0) by
      have h := HCP.out (all (bl s)) [] hnz (by simpa using hln)
      rw [List.append_nil] at h
      rw [HTT.out, h]; simp [cutA])
    obtain ⟨v, hv, hr⟩ := hI.row
    obtain ⟨av, cv, rfl, hta, hcap, hnn, hfr⟩ := hr.toks
    have r0 := hI.r0
    have r1 := hI.r1
    have r2 := hI.r2
    have z0 := hI.z0
    have z1 := hI.z1
    have z2 := hI.z2
    have hf := hI.fin HX0' (by omega) hr W6.heap.size (by omega)
    have HTA := Lib.hid hcap
    obtain ⟨m, hm⟩ : ∃ m, m = (toks s (all (bl s))).length := ⟨_, rfl⟩
    have hml : m = (all (bl s)).length := by rw [hm, toks_len]
    rw [← hm] at hv hf
    have HML := Lib.hid (And.intro hm hml)
    have HF := Lib.hid hf
    have HK := Lib.hid hK
    clear hm hml hf hr hta hcap hnn hfr hI hK hI6 hT6 hc6
    gi_wp2
    have hK2 := HF.out.2.trans HK.out
    refine ⟨by simp, .inl ⟨_, _, rfl, run_takeDeferred hK2, ?_⟩⟩
    have hZ := HF.out.1.kp (Kp.of_turned (Turned.putObj W6.heap.size _ (.deferred none)) (by omega) (by omega)) HX0'
    clear hK2
    generalize (((Y.setCell ⟨x0, 0, none⟩ (.slice av m cv)).setCell ⟨x0 + 1, 0, none⟩ (.int .i64 0)).setCell ⟨x0 + 2, 0, none⟩ (.int .i64 0)).putObj W6.heap.size (.deferred none) = Z at *
    have k0 := hZ.r0
    have k1 := hZ.r1
    have k2 := hZ.r2
    have HZ := Lib.hid hZ
    clear hZ hv r0 r1 r2 z0 z1 z2 HF HK
    refine ⟨.tuple #[.slice av m cv, .int .i64 0, .int .i64 0], (by rw [results_cells3 rfl]; go_simp), ?_⟩
    obtain ⟨av', cv', e, hta, hcap, hnn, hfr⟩ := HZ.out.row.toks
    rw [← HML.out.1] at e hcap
    cases e
    refine ⟨av, cv, by rw [HT2.out, ← HML.out.2]; rfl, by rw [HT2.out]; exact hta, hnn, by rw [HT2.out, ← HML.out.2]; exact hcap, fun b o e => Nat.le_trans (by omega) (hfr b o e), HZ.out.hb⟩
  case stop =>
    rintro pre Y ⟨er, at_, hX, hTe⟩ hlt hK
    have HX := Lib.hid (hX.kp (base := x0 + 7) (Kp.of_turned (Turned.putObj W6.heap.size Y (.deferred none)) (by omega) (by omega)) HX0')
    have HK := Lib.hid hK
    have HTE := Lib.hid hTe
    clear hX hK hTe hI6 hT6 hc6
    gi_wp2
    refine ⟨by simp, .inl ⟨_, _, rfl, run_takeDeferred HK.out, ?_⟩⟩
    generalize Y.putObj W6.heap.size (.deferred none) = Z at *
    have k0 := HX.out.r0
    have k1 := HX.out.r1
    have k2 := HX.out.r2
    refine ⟨.tuple #[.slice none 0 0, .int .i64 er, .int .i64 at_], (by rw [results_cells3 rfl]; go_simp), LexPost.none HTE.out rfl HX.out.hb⟩
theorem lex_any (s : ByteArray) (w : World) (hs : s.size ≤ 9223372036854775807) (hT : Tabs w) :
    Calls Tryd.prog 11 #[.string s] w (LexPost s (lexL (bl s)) w) := by
  by_cases h : 6000 < s.size
  · exact lex_long s w hs h hT
  · exact lex_short s w (by omega) hT
end Go.Proofs.YtlpombnmeioafaaDoor.Lx
