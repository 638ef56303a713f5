/- What the reference implementation's Normal and Size of spans return. Conditions: the list lies in memory as the argument says; it is short. -/
import Derived.Test.YtdoojpilogcnjaaSpanRef3
set_option linter.unusedVariables false
set_option linter.unusedSimpArgs false
namespace Go.Proofs.Ytdoojpilogcnjaa.Sp
open Go.RowKit
theorem frozen_kept {w w' : World} (hb : Below w.heap.size w w') {a : Addr} {v : Value} {k : Bool} (hf : w.frozen? a = k) (hc : w.cell? a = some v) : w'.frozen? a = k := (hb.frozen (World.block_lt_of_cell? w a hc)).trans hf
theorem sweep_snoc : ∀ (s : List Sn) (out : List Sn) (x : Sn), sweep out (s ++ [x]) = if Proper x then grow (sweep out s) x else sweep out s
  | [], out, x => rfl
  | y :: s, out, x => by
    show sweep (if Proper y then grow out y else out) (s ++ [x]) = _
    rw [sweep_snoc s]; rfl
theorem sweep_take {s : List Sn} {i : Nat} {x : Sn} (hx : s[i]? = some x) : sweep [] (s.take (i + 1)) = if Proper x then grow (sweep [] (s.take i)) x else sweep [] (s.take i) := by
  rw [List.take_add_one, hx]
  exact sweep_snoc _ _ _
theorem grow_len : ∀ (l : List Sn) (x : Sn), (grow l x).length ≤ l.length + 1
  | [], _ => Nat.le_refl _
  | [y], x => by unfold grow; split <;> simp
  | y :: z :: r, x => by
    have := grow_len (z :: r) x
    show (y :: grow (z :: r) x).length ≤ _
    simp only [List.length_cons] at this ⊢
    omega
theorem sweep_len (s : List Sn) : ∀ i, i ≤ s.length → (sweep [] (s.take i)).length ≤ i
  | 0, _ => by rw [List.take_zero]; exact Nat.le_refl _
  | i + 1, h => by
    obtain ⟨x, hx⟩ : ∃ x, s[i]? = some x := ⟨_, List.getElem?_eq_getElem (by omega)⟩
    rw [sweep_take hx]
    have h1 := sweep_len s i (by omega)
    split
    · have := grow_len (sweep [] (s.take i)) x; omega
    · omega
theorem RowS.bump {w : World} {base g n cap : Nat} {l : List Sn} {i : Nat} {d m k : Int} (h : RowS w base (.slice (some ⟨g, 0, none⟩) n cap) l) (hi : l[i]? = some (d, m)) : RowS (w.setCell ⟨g, i * 2 + 1, none⟩ (.int .i64 k)) base (.slice (some ⟨g, 0, none⟩) n cap) (l.set i (d, k)) := by
  unfold RowS at *
  rw [List.length_set, flat_set l i d m k hi]
  refine ⟨by rw [List.length_set]; exact h.1, ?_⟩
  rcases h.2 with ⟨hv, _⟩ | ⟨g', cap', cur, hv, hb, hg, hn, hm, hs, ht⟩
  · cases hv
  · cases hv
    refine .inr ⟨g, cap, cur.setIfInBounds (i * 2 + 1) (.int .i64 k), rfl, hb, heap_setCell_same w g _ cur _ _ hg, hn, hm, by rw [Array.size_setIfInBounds]; exact hs, ?_⟩
    rw [Array.toList_setIfInBounds, List.take_set, ht]
theorem RowS.free {w : World} {base g n cap : Nat} {l : List Sn} (h : RowS w base (.slice (some ⟨g, 0, none⟩) n cap) l) (j : Nat) : w.frozen? ⟨g, j, none⟩ = false := by
  rcases h.2 with ⟨hv, _⟩ | ⟨g', cap', cur, hv, hb, hg, rest⟩
  · cases hv
  · cases hv
    simp [World.frozen?, hg]
theorem grow_last {l : List Sn} {y x : Sn} {n : Nat} (hn : n + 1 = l.length) (hy : l[n]? = some y) : grow l x = if x.1 ≤ y.2 then l.set n (y.1, max y.2 x.2) else l ++ [(x.1, x.2)] := by
  obtain ⟨p, z, rfl⟩ : ∃ p z, l = p ++ [z] := by
    rcases List.eq_nil_or_concat l with rfl | ⟨p, z, rfl⟩
    · simp at hn
    · exact ⟨p, z, by rw [List.concat_eq_append]⟩
  rw [List.length_append] at hn
  have hp : p.length = n := by simp only [List.length_singleton] at hn; omega
  obtain rfl : z = y := by
    rw [List.getElem?_append_right (by omega), hp, Nat.sub_self] at hy
    exact Option.some.inj hy
  rw [grow_snoc]
  split
  · rw [List.set_append_right _ _ (by omega), hp, Nat.sub_self]; rfl
  · rw [List.append_assoc]; rfl
set_option maxHeartbeats 8000000 in
set_option maxRecDepth 100000 in
theorem rnormal_any (a : Option Addr) (c : Nat) (l : List Sn) (w : World) (hl : l.length ≤ 1000) (hc : l.length ≤ c) (z : SpansAt a l w) :
    Calls Try.prog 44 #[.slice a l.length c] w fun r w' => ∃ v, r = .returned v ∧ RowS w' w.heap.size v (norm l) ∧ Below w.heap.size w w' := by
  have hS := rsorted_any a c l w hl hc z
  obtain ⟨n, hn⟩ : ∃ n, n = l.length := ⟨_, rfl⟩
  have HN := Lib.hid hn
  rw [← hn] at hS hl hc ⊢
  have HS := Lib.hid hS
  obtain ⟨i0, hi, hz0, hz1, hz2⟩ := info_parts Try.infoS
  have HI0 := Lib.hid (And.intro hi (And.intro hz0 (And.intro hz1 hz2)))
  clear hi hz0 hz1 hz2 hS z hn
  go_enter Try.func44, Try.ntmps44
  go_wp2_with (first
    | (go_at_call 59; (with_reducible refine HS.out.mono ?_); rintro e w1 ⟨a1, d1, s, rfl, z1, t1, m1, o1, hn1⟩; have T1 := Lib.hid t1; have M1 := Lib.hid (And.intro m1 o1); clear t1 m1 o1; obtain ⟨m, hm⟩ : ∃ m, m = s.length := ⟨_, rfl⟩; rw [← hm]; have HM := Lib.hid hm; clear hm)
  )
  have HB1 := Lib.hid hn1
  have HZ := Lib.hid (fun w' (k : Below w1.heap.size w1 w') => z1.below k)
  have hm1 : m ≤ 1000 := by have := T1.out; have := HM.out; omega
  clear hn1 z1 HS
  go_loopg [3, 5] m (fun g s3 s5 wx => ∃ (i : Nat) (acc : List Sn), i + g = m ∧ s5 = .int .i64 i ∧ Hid (acc = sweep [] (s.take i)) ∧ Hid (RowS wx w1.heap.size s3 acc) ∧ acc.length ≤ i ∧ Below w1.heap.size w1 wx)
  case atStart => exact ⟨0, [], by omega, rfl, (show [] = _ by rw [List.take_zero]; rfl), RowS.nil _ _, Nat.le_refl _, Below.refl _ _⟩
  case round =>
    obtain ⟨i, acc, hi, rfl, HA, HR, hal, hb⟩ := hrel
    cases gk with
    | zero =>
      have hlt : ¬ (i : Int) < (m : Int) := by omega
      go_wp2
      go_ret
      refine ⟨_, rfl, ?_, HB1.out.trans (hb.mono HB1.out.size)⟩
      rw [← sweep_norm M1.out.2 M1.out.1]
      have h := HR.out.lower HB1.out.size
      rwa [HA.out, List.take_of_length_le (by have := HM.out; omega)] at h
    | succ g =>
      have hlt : (i : Int) < (m : Int) := by omega
      obtain ⟨x, hx⟩ : ∃ x, s[i]? = some x := ⟨_, List.getElem?_eq_getElem (by have := HM.out; omega)⟩
      obtain ⟨bb, off, rfl, c1, c2⟩ := HZ.out _ hb i x hx
      have HT := Lib.hid (sweep_take hx)
      have hbb : bb < w1.heap.size := by
        obtain ⟨b3, o3, e3, c3, -⟩ := HZ.out w1 (Below.refl _ _) i x hx
        cases e3
        exact World.block_lt_of_cell? w1 ⟨bb, off + i * 2, none⟩ c3
      have hmix : Try.prog.follows .mixedOrders = true := by kernel_rfl
      clear hx
      obtain ⟨x1, x2⟩ := x
      have hq := fun w => rproper_any x1 x2 w
      by_cases hp : Proper (x1, x2)
      · rw [decide_eq_true hp] at hq
        have HP := Lib.hid hq
        have HPX := Lib.hid hp
        clear hq hp
        by_cases h0 : acc.length = 0
        · have hnil : acc = [] := List.eq_nil_of_length_eq_zero h0
          subst hnil
          obtain ⟨ar, cr, eu, -⟩ := HR.out.spans
          subst eu
          clear h0 hal
          go_wp2_with (first
            | (go_at_call 48; with_reducible refine (HP.out _).mono ?_; rintro e w2 ⟨rfl, hn⟩; replace hb := hb.trans (hn.mono hb.size); replace c1 := cell_kept hn c1; replace c2 := cell_kept hn c2; have HR2 := Lib.hid (HR.out.below hn); clear hn))
          have HRN := Lib.hid (fun j => RowS.below HR2.out (below_drewN (Below.refl _ _) j))
          have HBN := Lib.hid (fun j => below_drewN hb j)
          clear HR2
          go_quiet (fail)
          go_wp2_with (first
            | (at_builtin; refine wpList_append_own _ rfl _ _ 34 rfl w1.heap.size 50 i0 (.agg #[.int .i64 0, .int .i64 0]) 2 16 Try.underS HI0.out.1 HI0.out.2.1 HI0.out.2.2.1 HI0.out.2.2.2 rfl (by decide) _ _ _ rfl (World.ownsRow.alloc (HRN.out _) _) _ 1 1 [.int .i64 x1, .int .i64 x2] rfl rfl (two_cells rfl) two_one ?c3 ?c4 ?c5 ?_))
          case c3 => unfold maxLen; (simp)
          case c4 => (simp)
          case c5 => have h5 := hb.size; have := (HBN.out 0).size; simp; omega
          intro v' w4 hown' hgrow _
          have hB := row_grown (HBN.out _) (HBN.out _).size (World.ownsRow.alloc (HRN.out _) _) hgrow (Nat.le_refl _)
          have HR1 := Lib.hid (RowS.push (l := []) hown')
          clear hown' hgrow
          go_wp2
          go_roundg g
          case measure => omega
          case rel => exact ⟨i + 1, [] ++ [(x1, x2)], by omega, by go_num, (by show [] ++ [(x1, x2)] = _; rw [HT.out, if_pos HPX.out, ← HA.out]; rfl), HR1.out, by rw [List.length_append]; show _ + 1 ≤ _; (simp), hB⟩
        · rcases HR.out.2 with ⟨hv, h00⟩ | ⟨gb, cr, cur, eu, -⟩
          · exact absurd h00 h0
          · subst eu
            obtain ⟨a2, c9, e9, zr⟩ := HR.out.spans
            cases e9
            obtain ⟨q, hq⟩ : ∃ q, q + 1 = acc.length := ⟨acc.length - 1, by omega⟩
            obtain ⟨y, hy⟩ : ∃ y, acc[q]? = some y := ⟨_, List.getElem?_eq_getElem (by omega)⟩
            obtain ⟨gb', go', e9, e1, e2⟩ := zr q y hy
            cases e9
            rw [Nat.zero_add] at e1 e2
            have HG := Lib.hid (grow_last (x := (x1, x2)) hq hy)
            have HQ := Lib.hid hq
            have HAL := Lib.hid hal
            have hq1 : q ≤ 1000 := by omega
            have hfr := HR.out.free (q * 2 + 1)
            have hgb : w1.heap.size ≤ gb := by
              rcases HR.out.2 with ⟨hv, _⟩ | ⟨g', _, _, hv, hb', _⟩
              · cases hv
              · cases hv; exact hb'
            obtain ⟨y1, y2⟩ := y
            have HRB := Lib.hid (fun (W : World) (h : RowS W w1.heap.size (.slice (some ⟨gb, 0, none⟩) (q + 1) cr) acc) => RowS.bump (k := max y2 x2) h hy)
            rw [← hq] at HR ⊢
            clear hy hq hal h0 zr
            have hpos : (0 : Int) < (q : Int) + 1 := by omega
            have hqq : (q : Int) < (q : Int) + 1 := by omega
            have hq0 : (0 : Int) ≤ (q : Int) := by omega
            have hwq : IntKind.i64.wrap (q : Int) = (q : Int) := IntWalk.i64_in (q : Int) (by omega)
            by_cases hxy : x1 ≤ y2
            · go_wp2_with (first
                | (go_at_call 48; with_reducible refine (HP.out _).mono ?_; rintro e w2 ⟨rfl, hn⟩; replace hb := hb.trans (hn.mono hb.size); replace c1 := cell_kept hn c1; replace c2 := cell_kept hn c2; have HR2 := Lib.hid (HR.out.below hn); replace hfr := frozen_kept hn hfr e2; replace e1 := cell_kept hn e1; replace e2 := cell_kept hn e2; clear hn))
              go_quiet (fail)
              go_upto_region 9 with (fail)
              replace c2 : (w2.drewN nq).drew.cell? _ = _ := c2
              have HR9 := Lib.hid (HRB.out _ (HR2.out.below ((below_drewN (Below.refl _ _) nq).trans (Below.refl _ _).drew)))
              have hb9 := (below_drewN hb nq).trans ((Below.refl _ _).drew.mono (below_drewN hb nq).size)
              clear HR2
              refine wp_region_held_drew (S := fun w' => w'.cell? ⟨bb, off + i * 2 + 1, none⟩ = some (.int .i64 x2)) hmix c2 (fun hHeld => ?_)
              refine wpAnyH_take (i := 0) (v := ?_) rfl (by kernel_rfl) (by kernel_rfl) (by kernel_rfl) (fun _ _ _ h => h) (Or.inl ⟨by rfl, ?_⟩) (by assumption) ?_
              rotate_left
              · intro w hSw; (try dsimp only at hSw); go_simp; (try with_reducible rfl)
              (try simp only [Act.put, List.getElem_toArray, List.getElem_cons_zero, List.setIfInBounds_toArray, List.set_cons_zero, List.set_cons_succ])
              refine wpAnyH_take (i := 1) (v := ?_) rfl (by kernel_rfl) (by kernel_rfl) (by kernel_rfl) (fun _ _ _ h => h) (Or.inl ⟨by rfl, ?_⟩) (by assumption) ?_
              rotate_left
              · intro w hSw; (try dsimp only at hSw); go_simp; (try with_reducible rfl)
              (try simp only [Act.put, List.getElem_toArray, List.getElem_cons_succ, List.getElem_cons_zero, List.setIfInBounds_toArray, List.set_cons_zero, List.set_cons_succ])
              refine wpAnyH_take (i := 2) (v := ?_) rfl (by kernel_rfl) (by kernel_rfl) (by kernel_rfl) (fun _ _ _ h => h) (Or.inl ⟨by rfl, ?_⟩) (by assumption) ?_
              rotate_left
              · intro w hSw; (try dsimp only at hSw); go_simp; (try with_reducible rfl)
              (try simp only [Act.put, List.getElem_toArray, List.getElem_cons_succ, List.getElem_cons_zero, List.setIfInBounds_toArray, List.set_cons_zero, List.set_cons_succ])
              (try simp only [Int.add_sub_cancel, hwq])
              refine wpAnyH_take (i := 3) (v := ?_) rfl (by kernel_rfl) (by kernel_rfl) (by kernel_rfl) (fun _ _ _ h => h) (Or.inl ⟨by rfl, ?_⟩) (by assumption) ?_
              rotate_left
              · intro w hSw; (try dsimp only at hSw); go_simp; (try with_reducible rfl)
              (try simp only [Act.put, List.getElem_toArray, List.getElem_cons_succ, List.getElem_cons_zero, List.setIfInBounds_toArray, List.set_cons_zero, List.set_cons_succ])
              refine wpAnyH_take (i := 4) (v := ?_) rfl (by kernel_rfl) (by kernel_rfl) (by kernel_rfl) (fun _ _ _ h => h) (Or.inl ⟨by rfl, ?_⟩) (by assumption) ?_
              rotate_left
              · intro w hSw; (try dsimp only at hSw); go_simp; (try with_reducible rfl)
              (try simp only [Act.put, List.getElem_toArray, List.getElem_cons_succ, List.getElem_cons_zero, List.setIfInBounds_toArray, List.set_cons_zero, List.set_cons_succ])
              refine wpAnyH_take (i := 5) (v := ?_) rfl (by kernel_rfl) (by kernel_rfl) (by kernel_rfl) (fun _ _ _ h => h) (Or.inl ⟨by rfl, ?_⟩) (by assumption) ?_
              rotate_left
              · intro w hSw; (try dsimp only at hSw); go_simp; (try with_reducible rfl)
              (try simp only [Act.put, List.getElem_toArray, List.getElem_cons_succ, List.getElem_cons_zero, List.setIfInBounds_toArray, List.set_cons_zero, List.set_cons_succ])
              (try simp only [Int.add_sub_cancel, hwq])
              refine wpAnyH_take (i := 6) (v := ?_) rfl (by kernel_rfl) (by kernel_rfl) (by kernel_rfl) (fun _ _ _ h => h) (Or.inl ⟨by rfl, ?_⟩) (by assumption) ?_
              rotate_left
              · intro w hSw; (try dsimp only at hSw); go_simp; (try with_reducible rfl)
              (try simp only [Act.put, List.getElem_toArray, List.getElem_cons_succ, List.getElem_cons_zero, List.setIfInBounds_toArray, List.set_cons_zero, List.set_cons_succ])
              refine wpAnyH_take (i := 7) (v := ?_) rfl (by kernel_rfl) (by kernel_rfl) (by kernel_rfl) (fun _ _ _ h => h) (Or.inl ⟨by rfl, ?_⟩) (by assumption) ?_
              rotate_left
              · intro w hSw; (try dsimp only at hSw); go_simp; (try with_reducible rfl)
              (try simp only [Act.put, List.getElem_toArray, List.getElem_cons_succ, List.getElem_cons_zero, List.setIfInBounds_toArray, List.set_cons_zero, List.set_cons_succ])
              refine wpAnyH_take (i := 9) (v := ?_) rfl (by kernel_rfl) (by kernel_rfl) (by kernel_rfl) (fun _ _ _ h => h) (Or.inl ⟨by rfl, ?_⟩) (by assumption) ?_
              rotate_left
              · intro w hSw; (try dsimp only at hSw); go_simp; (try with_reducible rfl)
              (try simp only [Act.put, List.getElem_toArray, List.getElem_cons_succ, List.getElem_cons_zero, List.setIfInBounds_toArray, List.set_cons_zero, List.set_cons_succ])
              refine wpAnyH_take (i := 10) (v := ?_) rfl (by kernel_rfl) (by kernel_rfl) (by kernel_rfl) (fun _ _ _ h => h) (Or.inl ⟨by rfl, ?_⟩) (by assumption) ?_
              rotate_left
              · intro w hSw; (try dsimp only at hSw); go_simp; (try with_reducible rfl)
              (try simp only [Act.put, List.getElem_toArray, List.getElem_cons_succ, List.getElem_cons_zero, List.setIfInBounds_toArray, List.set_cons_zero, List.set_cons_succ])
              refine wpAnyH_take (i := 11) (v := ?_) rfl (by kernel_rfl) (by kernel_rfl) (by kernel_rfl) (fun _ _ _ h => h) (Or.inl ⟨by rfl, ?_⟩) (by assumption) ?_
              rotate_left
              · intro w hSw; (try dsimp only at hSw); go_simp; (try with_reducible rfl)
              (try simp only [Act.put, List.getElem_toArray, List.getElem_cons_succ, List.getElem_cons_zero, List.setIfInBounds_toArray, List.set_cons_zero, List.set_cons_succ])
              refine wpAnyH_take (i := 12) (v := ?_) rfl (by kernel_rfl) (by kernel_rfl) (by kernel_rfl) (fun _ _ _ h => h) (Or.inl ⟨by rfl, ?_⟩) (by assumption) ?_
              rotate_left
              · intro w hSw; (try dsimp only at hSw); go_simp; (try with_reducible rfl)
              (try simp only [Act.put, List.getElem_toArray, List.getElem_cons_succ, List.getElem_cons_zero, List.setIfInBounds_toArray, List.set_cons_zero, List.set_cons_succ])
              refine wpAnyH_take (i := 13) (v := ?_) rfl (by kernel_rfl) (by kernel_rfl) (by kernel_rfl) (fun _ _ _ h => h) (Or.inl ⟨by rfl, ?_⟩) (by assumption) ?_
              rotate_left
              · intro w hSw; (try dsimp only at hSw); go_simp; (try with_reducible rfl)
              (try simp only [Act.put, List.getElem_toArray, List.getElem_cons_succ, List.getElem_cons_zero, List.setIfInBounds_toArray, List.set_cons_zero, List.set_cons_succ])
              refine wpAnyH_ready (rs := [8]) (by kernel_rfl) (by simp) ?_
              refine AllReadyH.cons rfl (fun K hK => ?_) AllReadyH.nil
              go_simp
              (try skip)
              refine hK.out _ _ c2 (fun hHeld => ?_)
              clear hK K
              (try simp only [Act.put, List.getElem_toArray, List.getElem_cons_succ, List.getElem_cons_zero, List.setIfInBounds_toArray, List.set_cons_zero, List.set_cons_succ])
              refine wpAnyH_take (i := 14) (v := ?_) rfl (by kernel_rfl) (by kernel_rfl) (by kernel_rfl) (fun _ _ _ h => h) (Or.inl ⟨by rfl, ?_⟩) (by assumption) ?_
              rotate_left
              · intro w hSw; (try dsimp only at hSw); go_simp; (try with_reducible rfl)
              (try simp only [Act.put, List.getElem_toArray, List.getElem_cons_succ, List.getElem_cons_zero, List.setIfInBounds_toArray, List.set_cons_zero, List.set_cons_succ])
              refine wpAnyH_take (i := 15) (v := ?_) rfl (by kernel_rfl) (by kernel_rfl) (by kernel_rfl) (fun _ _ _ h => h) (Or.inl ⟨by rfl, ?_⟩) (by assumption) ?_
              rotate_left
              · intro w hSw; (try dsimp only at hSw); go_simp; (try with_reducible rfl)
              (try simp only [Act.put, List.getElem_toArray, List.getElem_cons_succ, List.getElem_cons_zero, List.setIfInBounds_toArray, List.set_cons_zero, List.set_cons_succ])
              refine wpAnyH_take (i := 16) (v := ?_) rfl (by kernel_rfl) (by kernel_rfl) (by kernel_rfl) (fun _ _ _ h => h) (Or.inl ⟨by rfl, ?_⟩) (by assumption) ?_
              rotate_left
              · intro w hSw; (try dsimp only at hSw); go_simp; (try with_reducible rfl)
              (try simp only [Act.put, List.getElem_toArray, List.getElem_cons_succ, List.getElem_cons_zero, List.setIfInBounds_toArray, List.set_cons_zero, List.set_cons_succ])
              refine wpAnyH_ready (rs := [17]) (by kernel_rfl) (by simp) ?_
              refine AllReadyH.cons rfl (fun K hK => ?_) AllReadyH.nil
              go_simp
              (try skip)
              refine hK.out _ _ (by rw [World.cell?_setCell_far _ _ _ _ (by show gb ≠ bb; omega)]; exact c2) (fun hHeld => ?_)
              clear hK K
              (try simp only [Act.put, List.getElem_toArray, List.getElem_cons_succ, List.getElem_cons_zero, List.setIfInBounds_toArray, List.set_cons_zero, List.set_cons_succ])
              refine wpAnyH_done (by kernel_rfl) ?_ _
              obtain ⟨mx, hmx⟩ : ∃ mx, mx = if y2 < x2 then x2 else y2 := ⟨_, rfl⟩
              rw [← hmx]
              have HMX := Lib.hid (show max y2 x2 = mx by rw [hmx]; split <;> omega)
              clear hmx
              go_wp2
              go_roundg g
              case measure => omega
              case rel => exact ⟨i + 1, acc.set q (y1, max y2 x2), by omega, by go_num, (by show acc.set q (y1, max y2 x2) = _; rw [HT.out, if_pos HPX.out, ← HA.out, HG.out, if_pos hxy]), (by
                have h := HR9.out
                rw [HMX.out] at h
                show RowS _ _ _ (acc.set q (y1, max y2 x2))
                rw [HMX.out]
                exact h), by rw [List.length_set]; have := HAL.out; omega, hb9.setCell hgb _⟩
            · go_wp2_with (first
                | (go_at_call 48; with_reducible refine (HP.out _).mono ?_; rintro e w2 ⟨rfl, hn⟩; replace hb := hb.trans (hn.mono hb.size); replace c1 := cell_kept hn c1; replace c2 := cell_kept hn c2; have HR2 := Lib.hid (HR.out.below hn); replace hfr := frozen_kept hn hfr e2; replace e1 := cell_kept hn e1; replace e2 := cell_kept hn e2; clear hn))
              have HRN := Lib.hid (fun j => RowS.below HR2.out (below_drewN (Below.refl _ _) j))
              have HBN := Lib.hid (fun j => below_drewN hb j)
              clear HR2
              go_quiet (fail)
              go_wp2_with (first
                | (at_builtin; refine wpList_append_own _ rfl _ _ 34 rfl w1.heap.size 50 i0 (.agg #[.int .i64 0, .int .i64 0]) 2 16 Try.underS HI0.out.1 HI0.out.2.1 HI0.out.2.2.1 HI0.out.2.2.2 rfl (by decide) _ _ _ rfl (World.ownsRow.alloc (HRN.out _) _) _ 1 1 [.int .i64 x1, .int .i64 x2] rfl rfl (two_cells rfl) two_one ?c3 ?c4 ?c5 ?_))
              case c3 => unfold maxLen; have := HQ.out; omega
              case c4 => have := HQ.out; omega
              case c5 => have h5 := hb.size; have := (HBN.out 0).size; simp; omega
              intro v' w4 hown' hgrow _
              have hB := row_grown (HBN.out _) (HBN.out _).size (World.ownsRow.alloc (HRN.out _) _) hgrow (Nat.le_refl _)
              have HR1 := Lib.hid (RowS.push (l := acc) hown')
              clear hown' hgrow
              go_wp2
              go_roundg g
              case measure => omega
              case rel => exact ⟨i + 1, acc ++ [(x1, x2)], by omega, by go_num, (by show acc ++ [(x1, x2)] = _; rw [HT.out, if_pos HPX.out, ← HA.out, HG.out, if_neg (show ¬ (x1, x2).1 ≤ (y1, y2).2 by show ¬ x1 ≤ y2; omega)]), HR1.out, by rw [List.length_append]; show _ + 1 ≤ _; have := HAL.out; omega, hB⟩
      · rw [decide_eq_false hp] at hq
        have HP := Lib.hid hq
        have HPX := Lib.hid hp
        clear hq hp
        go_wp2_with (first
          | (go_at_call 48; with_reducible refine (HP.out _).mono ?_; rintro e w2 ⟨rfl, hn⟩; replace hb := hb.trans (hn.mono hb.size); replace c1 := cell_kept hn c1; replace c2 := cell_kept hn c2; have HR2 := Lib.hid (HR.out.below hn); clear hn))
        go_roundg g
        case measure => omega
        case rel => exact ⟨i + 1, acc, by omega, by go_num, (by show acc = _; rw [HT.out, if_neg HPX.out]; exact HA.out), HR2.out, by omega, hb⟩
end Go.Proofs.Ytdoojpilogcnjaa.Sp
