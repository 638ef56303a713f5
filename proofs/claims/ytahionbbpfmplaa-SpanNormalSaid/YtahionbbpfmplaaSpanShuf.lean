/- What the laws' helper shuffled returns: the same spans in some order. Conditions: the list lies in memory as the argument says; it is short. -/
import Derived.Test.YtahionbbpfmplaaSpanStep
import Derived.Test.YtahionbbpfmplaaSpanAt
namespace Go.Proofs.Ytahionbbpfmplaa.Sp
open Go.RowKit
theorem zeroCells_size' (cs : Array Value) : ∀ n, (Builtin.zeroCells cs n).size = n * cs.size := fun n => by simp [Builtin.zeroCells]
/-- A slice at its capacity's end: an append lays a new row. -/
theorem step_append_fresh {P : Program} {w : World} {ops : Array Oper} {o : Oper} {a : Act} {K : Act → World → Prop} {Q : Exit → Act → World → Prop} {E : Prop} (hgd : o.guard = none) (s x : Operand) (t : TypeId)
    (ho : o.op = .call { callee := .builtin .append, args := #[s, x], argTypes := #[t, t] })
    (base : Nat) (e : TypeId) (i : TypeInfo) (z : Value) (size bytes : Nat) (ht : P.underlying t = some (.slice e)) (hi : P.info? e = some i) (hz : i.zero = some z)
    (hsize : i.size = size) (hby : i.bytes = bytes) (hzs : z.cells.size = size)
    (b : Addr) (k : Nat) (olds : List Value) (hs : a.eval s = .slice (some b) k k) (hlo : olds.length = k * size) (holds : ∀ j v, olds[j]? = some v → w.cell? (b.add j) = some v)
    (ad : Addr) (m c : Nat) (news : List Value) (hx : a.eval x = .slice (some ad) m c) (hl : news.length = m * size) (hnews : ∀ j u, news[j]? = some u → w.cell? (ad.add j) = some u)
    (hm : 0 < m) (h63 : k + m ≤ maxLen) (hbytes : (k + m) * bytes ≤ 140737488355328) (hbase : base ≤ w.heap.size)
    (h : ∀ v' w', w'.ownsRow base e size v' (k + m) (olds ++ news) → w.grownBy w' none → K (a.put o.dst v') w') :
    if Region.wanted o (yielded ops a.tmps) = true then Oper.wp P o a w K Q else E := by
  have hw : Region.wanted o (yielded ops a.tmps) = true := by simp [Region.wanted, hgd]
  rw [if_pos hw]
  subst hsize
  have hr := run_append_grow (P := P) w t o.type e i z ht hi hz b k k olds hlo holds ad m c news hl hnews (by omega) (by unfold maxLen at h63; omega) (growslice_fits (by omega) (by rw [hby]; exact hbytes))
  have hG := grownCap_ge w (k + m) k e
  have hGm := grownCap_le_maxLen w (k + m) k e h63
  unfold Oper.wp execOp
  simp only [ho, resolve, invoke, builtin, Sem.run_bind, Sem.run_pure, Result.andThen_ok, List.map_toArray, List.map_cons, List.map_nil, hs, hx, hr]
  refine h _ _ ⟨by rw [List.length_append, hlo, hl, Nat.add_mul], .inr ⟨w.heap.size, _, _, rfl, hbase, heap_alloc_new w.drew _, hG, hGm, ?_, ?_⟩⟩ ⟨rfl, rfl, rfl, (alloc_below w.drew _).size, fun q hq _ => (alloc_below w.drew _).block q hq⟩
  · rw [Array.size_append, Array.size_append, zeroCells_size', hzs, List.size_toArray, List.size_toArray, hlo, hl, ← Nat.add_mul, ← Nat.add_mul]
    congr 1; omega
  · rw [Array.toList_append, Array.toList_append]
    show ((olds ++ news) ++ _).take _ = _
    rw [List.take_append_of_le_length (by rw [List.length_append, hlo, hl, Nat.add_mul]; exact Nat.le_refl _), List.take_of_length_le (by rw [List.length_append, hlo, hl, Nat.add_mul]; exact Nat.le_refl _)]
theorem ownsRow_one {w : World} {base : Nat} {x y : Int} (hb : base ≤ w.heap.size) : (w.alloc (.cells #[.int .i64 x, .int .i64 y] 33)).ownsRow base 33 2 (.slice (some ⟨w.heap.size, 0, none⟩) 1 1) 1 (flat [(x, y)]) :=
  ⟨rfl, .inr ⟨w.heap.size, 1, _, rfl, hb, heap_alloc_new w _, Nat.le_refl _, by unfold maxLen; omega, rfl, rfl⟩⟩
theorem ownsRow_some {w : World} {base : Nat} {v : Value} {n : Nat} {xs : List Value} (h : w.ownsRow base 33 2 v n xs) (hn : 0 < n) : ∃ g c, v = .slice (some ⟨g, 0, none⟩) n c ∧ ∀ j u, xs[j]? = some u → w.cell? ((⟨g, 0, none⟩ : Addr).add j) = some u := by
  rcases h.2 with ⟨hv, h0⟩ | ⟨g, cap, cur, hv, rest⟩
  · omega
  · subst hv; exact ⟨g, cap, rfl, fun j u hu => World.ownsRow.cells h (g := g) rfl j u hu⟩
theorem cells_src {w : World} {ad : Addr} {xs : List Value} (h : ∀ j u, xs[j]? = some u → w.cell? (ad.add j) = some u) : ∀ m c, SrcAt w (.slice (some ad) m c) m xs := fun _ c => .inr ⟨ad, c, rfl, h⟩
theorem cells_of_src {w : World} {b o k c : Nat} {xs : List Value} (h : SrcAt w (.slice (some ⟨b, o, none⟩) k c) k xs) : ∀ j u, xs[j]? = some u → w.cell? ((⟨b, o, none⟩ : Addr).add j) = some u := by
  rcases h with ⟨e, -, -⟩ | ⟨ad, c', e, h⟩
  · cases e
  · cases e; exact h
theorem RowS.app3 {w : World} {base n m : Nat} {v : Value} {l r : List Sn} (hn : n = l.length) (hm : m = r.length) (h : w.ownsRow base 33 2 v (n + m) (flat l ++ flat r)) : RowS w base v (l ++ r) := by
  subst hn; subst hm; exact RowS.more h
set_option maxHeartbeats 4000000 in
set_option maxRecDepth 100000 in
theorem shuffled_any (a : Option Addr) (c : Nat) (l : List Sn) (y : Int) (w : World) (hl : l.length ≤ 1000) (hy : 0 ≤ y ∧ y ≤ 255) (z : SpansAt a l w) :
    Calls Try.prog 28 #[.slice a l.length c, .int .u8 y] w fun r w' => ∃ v, r = .returned v ∧ ∃ sh : List Sn, sh.length = l.length ∧ (∀ x, x ∈ sh ↔ x ∈ l) ∧ RowS w' w.heap.size v sh ∧ Below w.heap.size w w' := by
  obtain ⟨hy0, hy1⟩ := hy
  obtain ⟨n, hn⟩ : ∃ n, n = l.length := ⟨_, rfl⟩
  rw [← hn] at hl ⊢
  have HN := Lib.hid hn
  have HZ := Lib.hid (fun w' (k : Below w.heap.size w w') => z.below k)
  clear hn z
  obtain ⟨i0, hi, hz0, hz1, hz2⟩ := info_parts Try.infoS
  have HI0 := Lib.hid (And.intro hi (And.intro hz0 (And.intro hz1 hz2)))
  clear hi hz0 hz1 hz2
  go_enter Try.func28, Try.ntmps28
  go_wp2
  go_loopg [5, 11] n (fun g s5 s11 wx => ∃ (i : Nat) (acc : List Sn), i + g = n ∧ s11 = .int .i64 i ∧ Hid (acc.length = i) ∧ Hid (∀ x, x ∈ acc ↔ x ∈ l.take i) ∧ Hid (i = 0 → s5 = .slice none 0 0) ∧ Hid (RowS wx w.heap.size s5 acc) ∧ Below w.heap.size w wx)
  case atStart => exact ⟨0, [], by omega, rfl, rfl, (fun x => by simp), (fun _ => rfl), RowS.nil _ _, Below.refl _ _⟩
  case round =>
    obtain ⟨i, acc, hi, rfl, HL, HA, H0, HR, hb⟩ := hrel
    cases gk with
    | zero =>
      have hlt : ¬ (i : Int) < (n : Int) := by omega
      have HF := Lib.hid (fun x => (show x ∈ acc ↔ x ∈ l by have h := HA.out x; rwa [List.take_of_length_le (by have := HN.out; omega)] at h))
      go_wp2
      go_ret
      exact ⟨_, rfl, acc, by rw [HL.out]; omega, fun p q => HF.out (p, q), HR.out, hb⟩
    | succ g =>
      have hlt : (i : Int) < (n : Int) := by omega
      obtain ⟨x, hx⟩ : ∃ x, l[i]? = some x := ⟨_, List.getElem?_eq_getElem (by have := HN.out; omega)⟩
      obtain ⟨bb, off, rfl, c1, c2⟩ := HZ.out _ hb i x hx
      obtain ⟨kn, hkn⟩ : ∃ kn : Nat, (y + 3 * (i : Int)) % ((i : Int) + 1) = (kn : Int) := ⟨((y + 3 * (i : Int)) % ((i : Int) + 1)).toNat, (Int.toNat_of_nonneg (Int.emod_nonneg _ (by omega))).symm⟩
      have hkl : (kn : Int) < (i : Int) + 1 := by rw [← hkn]; exact Int.emod_lt_of_pos _ (by omega)
      have hkl2 : kn ≤ i := by omega
      have hkl3 : (kn : Int) ≤ (i : Int) := by omega
      have hk0 : (0 : Int) ≤ (kn : Int) := by omega
      have hnn : (0 : Int) ≤ y + 3 * (i : Int) := by omega
      have HA2 := Lib.hid (show ∀ q, q ∈ acc.take kn ++ ([x] ++ acc.drop kn) ↔ q ∈ l.take (i + 1) from fun q => by
        rw [List.take_add_one, hx, List.mem_append, List.mem_append, List.mem_append, ← HA.out q, List.mem_singleton]
        have e : q ∈ acc ↔ q ∈ acc.take kn ∨ q ∈ acc.drop kn := by rw [← List.mem_append, List.take_append_drop]
        rw [e]
        constructor
        · rintro (h | h | h)
          · exact .inl (.inl h)
          · exact .inr (by simpa using h)
          · exact .inl (.inr h)
        · rintro ((h | h) | h)
          · exact .inl h
          · exact .inr (.inr h)
          · exact .inr (.inl (by simpa using h)))
      have HL2 := Lib.hid (show (acc.take kn ++ ([x] ++ acc.drop kn)).length = i + 1 by
        rw [List.length_append, List.length_append, List.length_take, List.length_drop, HL.out, Nat.min_eq_left hkl2]
        show kn + (1 + (i - kn)) = i + 1
        omega)
      have hw3 := IntWalk.i64_in (3 * (i : Int)) (by omega)
      have hw4 := IntWalk.i64_in (y + 3 * (i : Int)) (by omega)
      have hw5 := IntWalk.i64_in ((i : Int) + 1) (by omega)
      have hmix : Try.prog.follows .mixedOrders = true := by kernel_rfl
      obtain ⟨x1, x2⟩ := x
      simp only at c1 c2
      clear hx
      obtain ⟨aa, cp, rfl, zr, hcp, hnone⟩ := HR.out.cap
      rw [HL.out] at hcp ⊢
      have hb5 := hb.trans ((alloc_below wr (.cells #[.int .i64 x1, .int .i64 x2] 33)).mono hb.size)
      have e1 : (wr.alloc (.cells #[.int .i64 x1, .int .i64 x2] 33)).cell? ⟨wr.heap.size, 0, none⟩ = some (.int .i64 x1) := by simp
      have e2 : (wr.alloc (.cells #[.int .i64 x1, .int .i64 x2] 33)).cell? ⟨wr.heap.size, 1, none⟩ = some (.int .i64 x2) := by simp
      have z5 := zr.below (alloc_below wr (.cells #[.int .i64 x1, .int .i64 x2] 33))
      by_cases hi0 : i = 0
      · have ea : acc = [] := List.eq_nil_of_length_eq_zero (HL.out.trans hi0)
        have e0 := H0.out hi0
        subst ea
        cases e0
        subst hi0
        obtain rfl : kn = 0 := by omega
        simp only [Nat.zero_mul, Nat.add_zero] at c1 c2
        go_upto_region 6 with (fail)
        generalize wr.alloc (.cells #[.int .i64 x1, .int .i64 x2] 33) = W5 at *
        generalize wr.heap.size = xb at *
        have HE12 := Lib.hid (And.intro e1 e2)
        refine wp_region_held_drew (S := fun W => W.cell? ⟨xb, 0, none⟩ = some (.int .i64 x1) ∧ W.cell? ⟨xb, 1, none⟩ = some (.int .i64 x2) ∧ Below W5.heap.size W5 W) hmix ⟨e1, e2, (Below.refl _ W5).drew⟩ (fun hHeld => ?_)
        generalize W5.drew = WR at *
        refine wpAnyH_take (i := 0) (v := ?_) rfl (by kernel_rfl) (by kernel_rfl) (by kernel_rfl) (fun _ _ _ h => h) (Or.inl ⟨by rfl, ?_⟩) (by assumption) ?_
        rotate_left
        · intro w hSw; (try dsimp only at hSw); go_simp; (try with_reducible rfl)
        (try simp only [Act.put, List.getElem_toArray, List.getElem_cons_zero, List.setIfInBounds_toArray, List.set_cons_zero, List.set_cons_succ])
        refine wpAnyH_take (i := 1) (v := ?_) rfl (by kernel_rfl) (by kernel_rfl) (by kernel_rfl) (fun _ _ _ h => h) (Or.inl ⟨by rfl, ?_⟩) (by assumption) ?_
        rotate_left
        · intro w hSw; (try dsimp only at hSw); go_simp; (try with_reducible rfl)
        (try simp only [Act.put, List.getElem_toArray, List.getElem_cons_succ, List.getElem_cons_zero, List.setIfInBounds_toArray, List.set_cons_zero, List.set_cons_succ])
        refine wpAnyH_take (i := 2) (v := ?_) rfl (by kernel_rfl) (by kernel_rfl) (by kernel_rfl) (fun _ _ _ h => h) (Or.inl ⟨by rfl, ?_⟩) (by assumption) ?_
        rotate_left
        · intro w hSw; (try dsimp only at hSw); go_simp; (try with_reducible rfl)
        (try simp only [Act.put, List.getElem_toArray, List.getElem_cons_succ, List.getElem_cons_zero, List.setIfInBounds_toArray, List.set_cons_zero, List.set_cons_succ])
        refine wpAnyH_take (i := 3) (v := ?_) rfl (by kernel_rfl) (by kernel_rfl) (by kernel_rfl) (fun _ _ _ h => h) (Or.inl ⟨by rfl, ?_⟩) (by assumption) ?_
        rotate_left
        · intro w hSw; (try dsimp only at hSw); go_simp; (try with_reducible rfl)
        (try simp only [Act.put, List.getElem_toArray, List.getElem_cons_succ, List.getElem_cons_zero, List.setIfInBounds_toArray, List.set_cons_zero, List.set_cons_succ])
        refine wpAnyH_take (i := 4) (v := ?_) rfl (by kernel_rfl) (by kernel_rfl) (by kernel_rfl) (fun _ _ _ h => h) (Or.inl ⟨by rfl, ?_⟩) (by assumption) ?_
        rotate_left
        · intro w hSw; (try dsimp only at hSw); go_simp; (try with_reducible rfl)
        (try simp only [Act.put, List.getElem_toArray, List.getElem_cons_succ, List.getElem_cons_zero, List.setIfInBounds_toArray, List.set_cons_zero, List.set_cons_succ])
        refine wpAnyH_take (i := 6) (v := ?_) rfl (by kernel_rfl) (by kernel_rfl) (by kernel_rfl) (fun _ _ _ h => h) (Or.inl ⟨by rfl, ?_⟩) (by assumption) ?_
        rotate_left
        · intro w hSw; (try dsimp only at hSw); go_simp; (try with_reducible rfl)
        (try simp only [Act.put, List.getElem_toArray, List.getElem_cons_succ, List.getElem_cons_zero, List.setIfInBounds_toArray, List.set_cons_zero, List.set_cons_succ])
        refine wpAnyH_take (i := 7) (v := ?_) rfl (by kernel_rfl) (by kernel_rfl) (by kernel_rfl) (fun _ _ _ h => h) (Or.inl ⟨by rfl, ?_⟩) (by assumption) ?_
        rotate_left
        · intro w hSw; (try dsimp only at hSw); go_simp; (try with_reducible rfl)
        (try simp only [Act.put, List.getElem_toArray, List.getElem_cons_succ, List.getElem_cons_zero, List.setIfInBounds_toArray, List.set_cons_zero, List.set_cons_succ])
        refine wpAnyH_take (i := 8) (v := ?_) rfl (by kernel_rfl) (by kernel_rfl) (by kernel_rfl) (fun _ _ _ h => h) (Or.inl ⟨by rfl, ?_⟩) (by assumption) ?_
        rotate_left
        · intro w hSw; (try dsimp only at hSw); go_simp; (try with_reducible rfl)
        (try simp only [Act.put, List.getElem_toArray, List.getElem_cons_succ, List.getElem_cons_zero, List.setIfInBounds_toArray, List.set_cons_zero, List.set_cons_succ])
        refine wpAnyH_ready (rs := [5]) (by kernel_rfl) (by simp) ?_
        refine AllReadyH.cons rfl (fun K hK => ?_) AllReadyH.nil
        go_simp
        have hB := hHeld.2.2.trans ((alloc_below WR (.cells #[.int .i64 x1, .int .i64 x2] 33)).mono hHeld.2.2.size)
        have HE := Lib.hid (ownsRow_one (x := x1) (y := x2) (w := WR) hHeld.2.2.size)
        refine hK.out _ _ ⟨cell_kept (hB) HE12.out.1, cell_kept (hB) HE12.out.2, hB⟩ (fun hHeld => ?_)
        clear hK K
        (try simp only [Act.put, List.getElem_toArray, List.getElem_cons_succ, List.getElem_cons_zero, List.setIfInBounds_toArray, List.set_cons_zero, List.set_cons_succ])
        generalize WR.alloc (.cells #[.int .i64 x1, .int .i64 x2] 33) = W0 at *
        generalize WR.heap.size = g0 at *
        refine wpAnyH_ready (rs := [9]) (by kernel_rfl) (by simp) ?_
        refine AllReadyH.cons rfl (fun K hK => ?_) AllReadyH.nil
        refine step_append_src (by rfl) (.tmp 30) (.tmp 33) 22 (by rfl) W5.heap.size 33 i0 (.agg #[.int .i64 0, .int .i64 0]) 2 16 Try.underS HI0.out.1 HI0.out.2.1 HI0.out.2.2.1 HI0.out.2.2.2 rfl (by decide) _ 1 (flat [(x1, x2)]) (by rfl) HE.out _ 0 [] (by rfl) (.inl ⟨rfl, rfl, rfl⟩) rfl (fun u hu => by cases hu) (by unfold maxLen; omega) (by omega) hHeld.2.2.size ?_
        intro v4 W4 hown4 hg4
        have hB4 := hHeld.2.2.grown hg4 hHeld.2.2.size (fun k hk => (HE.out.lt k hk).1)
        obtain ⟨g9, c9, rfl, hc9⟩ := ownsRow_some hown4 (by omega)
        have HC9 := Lib.hid hc9
        have HS4 := Lib.hid (cells_src hc9)
        clear hown4 hg4 hc9
        refine hK.out _ _ ⟨cell_kept (hB4) HE12.out.1, cell_kept (hB4) HE12.out.2, hB4⟩ (fun hHeld => ?_)
        clear hK K
        (try simp only [Act.put, List.getElem_toArray, List.getElem_cons_succ, List.getElem_cons_zero, List.setIfInBounds_toArray, List.set_cons_zero, List.set_cons_succ])
        refine wpAnyH_ready (rs := [10]) (by kernel_rfl) (by simp) ?_
        refine AllReadyH.cons rfl (fun K hK => ?_) AllReadyH.nil
        refine step_append_src (by rfl) (.tmp 28) (.tmp 34) 22 (by rfl) W5.heap.size 33 i0 (.agg #[.int .i64 0, .int .i64 0]) 2 16 Try.underS HI0.out.1 HI0.out.2.1 HI0.out.2.2.1 HI0.out.2.2.2 rfl (by decide) _ 0 [] (by rfl) (World.ownsRow_nil _ _ _ _) _ (1 + 0) (flat [(x1, x2)] ++ []) (by rfl) (HS4.out _ _) rfl (by rw [List.append_nil]; exact flat_cell1 _) (by unfold maxLen; omega) (by omega) hHeld.2.2.size ?_
        intro v5 W14 hown5 hg5
        have hB5 := hHeld.2.2.grown hg5 hHeld.2.2.size (fun k hk => by cases hk)
        have HR5 := Lib.hid (show RowS W14 W5.heap.size v5 (([] : List Sn).take 0 ++ ([(x1, x2)] ++ ([] : List Sn).drop 0)) by
          have q := RowS.app2 (l := []) (r := [(x1, x2)]) rfl hown5
          simpa using q)
        clear hown5 hg5
        refine hK.out _ _ ⟨cell_kept (hB5) HE12.out.1, cell_kept (hB5) HE12.out.2, hB5⟩ (fun hHeld => ?_)
        clear hK K
        (try simp only [Act.put, List.getElem_toArray, List.getElem_cons_succ, List.getElem_cons_zero, List.setIfInBounds_toArray, List.set_cons_zero, List.set_cons_succ])
        refine wpAnyH_take (i := 11) (v := ?_) rfl (by kernel_rfl) (by kernel_rfl) (by kernel_rfl) (fun _ _ _ h => h) (Or.inl ⟨by rfl, ?_⟩) (by assumption) ?_
        rotate_left
        · intro w hSw; (try dsimp only at hSw); go_simp; (try with_reducible rfl)
        (try simp only [Act.put, List.getElem_toArray, List.getElem_cons_succ, List.getElem_cons_zero, List.setIfInBounds_toArray, List.set_cons_zero, List.set_cons_succ])
        refine wpAnyH_done (by kernel_rfl) ?_ _
        go_wp2
        all_goals (
          go_roundg g
          case measure => omega
          case rel => exact ⟨0 + 1, _, by omega, by go_num, HL2.out, HA2.out, (fun e => by omega), HR5.out.lower hb5.size, hb5.trans (hB5.mono hb5.size)⟩)
      · obtain ⟨gb, hgb⟩ : ∃ gb, aa = some ⟨gb, 0, none⟩ := by
          rcases HR.out.2 with ⟨hv, h00⟩ | ⟨gb, cr, cur, eu, -⟩
          · exact absurd h00 (by rw [HL.out]; exact hi0)
          · exact ⟨gb, by simp only [Value.slice.injEq] at eu; exact eu.1⟩
        subst hgb
        have hkc : (kn : Int) ≤ (cp : Int) := by omega
        have hic : (i : Int) ≤ (cp : Int) := by omega
        go_upto_region 6 with (fail)
        generalize wr.alloc (.cells #[.int .i64 x1, .int .i64 x2] 33) = W5 at *
        generalize wr.heap.size = xb at *
        have HE12 := Lib.hid (And.intro e1 e2)
        have HXT := Lib.hid (fun W' (k : Below W5.heap.size W5 W') => cells_of_src ((z5.below k).src_take (c := cp) (show kn ≤ acc.length by rw [HL.out]; exact hkl2)))
        have HXD := Lib.hid (fun W' (k : Below W5.heap.size W5 W') => (show SrcAt W' (.slice (if cp = kn then some ⟨gb, 0, none⟩ else some ⟨gb, kn * 2, none⟩) (i - kn) (cp - kn)) (i - kn) (flat (acc.drop kn)) by have q := (z5.below k).src_drop_if (c := cp) kn (by rw [HL.out]; exact hcp); rw [HL.out, Nat.zero_add] at q; exact q))
        have HFT := Lib.hid (show (flat (acc.take kn)).length = kn * 2 by rw [flat_length, List.length_take, HL.out, Nat.min_eq_left hkl2])
        have HFD := Lib.hid (show (flat (acc.drop kn)).length = (i - kn) * 2 by rw [flat_length, List.length_drop, HL.out])
        have HF9 := Lib.hid (show (flat [(x1, x2)] ++ flat (acc.drop kn)).length = (1 + (i - kn)) * 2 by rw [List.length_append, HFD.out, Nat.add_mul]; rfl)
        refine wp_region_held_drew (S := fun W => W.cell? ⟨xb, 0, none⟩ = some (.int .i64 x1) ∧ W.cell? ⟨xb, 1, none⟩ = some (.int .i64 x2) ∧ Below W5.heap.size W5 W) hmix ⟨e1, e2, (Below.refl _ W5).drew⟩ (fun hHeld => ?_)
        generalize W5.drew = WR at *
        refine wpAnyH_take (i := 0) (v := ?_) rfl (by kernel_rfl) (by kernel_rfl) (by kernel_rfl) (fun _ _ _ h => h) (Or.inl ⟨by rfl, ?_⟩) (by assumption) ?_
        rotate_left
        · intro w hSw; (try dsimp only at hSw); go_simp; (try with_reducible rfl)
        (try simp only [Act.put, List.getElem_toArray, List.getElem_cons_zero, List.setIfInBounds_toArray, List.set_cons_zero, List.set_cons_succ])
        refine wpAnyH_take (i := 1) (v := ?_) rfl (by kernel_rfl) (by kernel_rfl) (by kernel_rfl) (fun _ _ _ h => h) (Or.inl ⟨by rfl, ?_⟩) (by assumption) ?_
        rotate_left
        · intro w hSw; (try dsimp only at hSw); go_simp; (try with_reducible rfl)
        (try simp only [Act.put, List.getElem_toArray, List.getElem_cons_succ, List.getElem_cons_zero, List.setIfInBounds_toArray, List.set_cons_zero, List.set_cons_succ])
        refine wpAnyH_take (i := 2) (v := ?_) rfl (by kernel_rfl) (by kernel_rfl) (by kernel_rfl) (fun _ _ _ h => h) (Or.inl ⟨by rfl, ?_⟩) (by assumption) ?_
        rotate_left
        · intro w hSw; (try dsimp only at hSw); go_simp; (try with_reducible rfl)
        (try simp only [Act.put, List.getElem_toArray, List.getElem_cons_succ, List.getElem_cons_zero, List.setIfInBounds_toArray, List.set_cons_zero, List.set_cons_succ])
        refine wpAnyH_take (i := 3) (v := ?_) rfl (by kernel_rfl) (by kernel_rfl) (by kernel_rfl) (fun _ _ _ h => h) (Or.inl ⟨by rfl, ?_⟩) (by assumption) ?_
        rotate_left
        · intro w hSw; (try dsimp only at hSw); go_simp; (try with_reducible rfl)
        (try simp only [Act.put, List.getElem_toArray, List.getElem_cons_succ, List.getElem_cons_zero, List.setIfInBounds_toArray, List.set_cons_zero, List.set_cons_succ])
        refine wpAnyH_take (i := 4) (v := ?_) rfl (by kernel_rfl) (by kernel_rfl) (by kernel_rfl) (fun _ _ _ h => h) (Or.inl ⟨by rfl, ?_⟩) (by assumption) ?_
        rotate_left
        · intro w hSw; (try dsimp only at hSw); go_simp; (try with_reducible rfl)
        (try simp only [Act.put, List.getElem_toArray, List.getElem_cons_succ, List.getElem_cons_zero, List.setIfInBounds_toArray, List.set_cons_zero, List.set_cons_succ])
        refine wpAnyH_take (i := 6) (v := ?_) rfl (by kernel_rfl) (by kernel_rfl) (by kernel_rfl) (fun _ _ _ h => h) (Or.inl ⟨by rfl, ?_⟩) (by assumption) ?_
        rotate_left
        · intro w hSw; (try dsimp only at hSw); go_simp; (try with_reducible rfl)
        (try simp only [Act.put, List.getElem_toArray, List.getElem_cons_succ, List.getElem_cons_zero, List.setIfInBounds_toArray, List.set_cons_zero, List.set_cons_succ])
        refine wpAnyH_take (i := 7) (v := ?_) rfl (by kernel_rfl) (by kernel_rfl) (by kernel_rfl) (fun _ _ _ h => h) (Or.inl ⟨by rfl, ?_⟩) (by assumption) ?_
        rotate_left
        · intro w hSw; (try dsimp only at hSw); go_simp; (try with_reducible rfl)
        (try simp only [Act.put, List.getElem_toArray, List.getElem_cons_succ, List.getElem_cons_zero, List.setIfInBounds_toArray, List.set_cons_zero, List.set_cons_succ])
        refine wpAnyH_take (i := 8) (v := ?_) rfl (by kernel_rfl) (by kernel_rfl) (by kernel_rfl) (fun _ _ _ h => h) (Or.inl ⟨by rfl, ?_⟩) (by assumption) ?_
        rotate_left
        · intro w hSw; (try dsimp only at hSw); go_simp; (try with_reducible rfl)
        (try simp only [Act.put, List.getElem_toArray, List.getElem_cons_succ, List.getElem_cons_zero, List.setIfInBounds_toArray, List.set_cons_zero, List.set_cons_succ])
        refine wpAnyH_ready (rs := [5]) (by kernel_rfl) (by simp) ?_
        refine AllReadyH.cons rfl (fun K hK => ?_) AllReadyH.nil
        go_simp
        have hB := hHeld.2.2.trans ((alloc_below WR (.cells #[.int .i64 x1, .int .i64 x2] 33)).mono hHeld.2.2.size)
        have HE := Lib.hid (ownsRow_one (x := x1) (y := x2) (w := WR) hHeld.2.2.size)
        refine hK.out _ _ ⟨cell_kept (hB) HE12.out.1, cell_kept (hB) HE12.out.2, hB⟩ (fun hHeld => ?_)
        clear hK K
        (try simp only [Act.put, List.getElem_toArray, List.getElem_cons_succ, List.getElem_cons_zero, List.setIfInBounds_toArray, List.set_cons_zero, List.set_cons_succ])
        generalize WR.alloc (.cells #[.int .i64 x1, .int .i64 x2] 33) = W0 at *
        generalize WR.heap.size = g0 at *
        refine wpAnyH_ready (rs := [9]) (by kernel_rfl) (by simp) ?_
        refine AllReadyH.cons rfl (fun K hK => ?_) AllReadyH.nil
        refine step_append_src (by rfl) (.tmp 30) (.tmp 33) 22 (by rfl) W5.heap.size 33 i0 (.agg #[.int .i64 0, .int .i64 0]) 2 16 Try.underS HI0.out.1 HI0.out.2.1 HI0.out.2.2.1 HI0.out.2.2.2 rfl (by decide) _ 1 (flat [(x1, x2)]) (by rfl) HE.out _ (i - kn) (flat (acc.drop kn)) (by rfl) (HXD.out _ hHeld.2.2) HFD.out (flat_cell1 _) (by unfold maxLen; omega) (by omega) hHeld.2.2.size ?_
        intro v4 W4 hown4 hg4
        have hB4 := hHeld.2.2.grown hg4 hHeld.2.2.size (fun k hk => (HE.out.lt k hk).1)
        obtain ⟨g9, c9, rfl, hc9⟩ := ownsRow_some hown4 (by omega)
        have HC9 := Lib.hid hc9
        have HS4 := Lib.hid (cells_src hc9)
        clear hown4 hg4 hc9
        refine hK.out _ _ ⟨cell_kept (hB4) HE12.out.1, cell_kept (hB4) HE12.out.2, hB4⟩ (fun hHeld => ?_)
        clear hK K
        (try simp only [Act.put, List.getElem_toArray, List.getElem_cons_succ, List.getElem_cons_zero, List.setIfInBounds_toArray, List.set_cons_zero, List.set_cons_succ])
        refine wpAnyH_ready (rs := [10]) (by kernel_rfl) (by simp) ?_
        refine AllReadyH.cons rfl (fun K hK => ?_) AllReadyH.nil
        refine step_append_fresh (by rfl) (.tmp 28) (.tmp 34) 22 (by rfl) W5.heap.size 33 i0 (.agg #[.int .i64 0, .int .i64 0]) 2 16 Try.underS HI0.out.1 HI0.out.2.1 HI0.out.2.2.1 HI0.out.2.2.2 rfl ⟨gb, 0, none⟩ kn (flat (acc.take kn)) (by rfl) HFT.out (HXT.out _ hHeld.2.2) ⟨g9, 0, none⟩ (1 + (i - kn)) c9 (flat [(x1, x2)] ++ flat (acc.drop kn)) (by rfl) HF9.out HC9.out (by omega) (by unfold maxLen; omega) (by omega) hHeld.2.2.size ?_
        intro v5 W14 hown5 hg5
        have hB5 := hHeld.2.2.grown hg5 hHeld.2.2.size (fun k hk => by cases hk)
        have HR5 := Lib.hid (show RowS W14 W5.heap.size v5 (acc.take kn ++ ([(x1, x2)] ++ acc.drop kn)) by
          rw [← flat_append] at hown5
          exact RowS.app3 (by rw [List.length_take, HL.out, Nat.min_eq_left hkl2]) (by rw [List.length_append, List.length_drop, HL.out]; rfl) hown5)
        clear hown5 hg5
        refine hK.out _ _ ⟨cell_kept (hB5) HE12.out.1, cell_kept (hB5) HE12.out.2, hB5⟩ (fun hHeld => ?_)
        clear hK K
        (try simp only [Act.put, List.getElem_toArray, List.getElem_cons_succ, List.getElem_cons_zero, List.setIfInBounds_toArray, List.set_cons_zero, List.set_cons_succ])
        refine wpAnyH_take (i := 11) (v := ?_) rfl (by kernel_rfl) (by kernel_rfl) (by kernel_rfl) (fun _ _ _ h => h) (Or.inl ⟨by rfl, ?_⟩) (by assumption) ?_
        rotate_left
        · intro w hSw; (try dsimp only at hSw); go_simp; (try with_reducible rfl)
        (try simp only [Act.put, List.getElem_toArray, List.getElem_cons_succ, List.getElem_cons_zero, List.setIfInBounds_toArray, List.set_cons_zero, List.set_cons_succ])
        refine wpAnyH_done (by kernel_rfl) ?_ _
        go_wp2
        all_goals (
          go_roundg g
          case measure => omega
          case rel => exact ⟨i + 1, _, by omega, by go_num, HL2.out, HA2.out, (fun e => by omega), HR5.out.lower hb5.size, hb5.trans (hB5.mono hb5.size)⟩)
theorem shuffled_at {n : Nat} {xs : List Sn} {y : Int} (hn : Ln n xs) (b1 : n ≤ 1000) (hy : 0 ≤ y ∧ y ≤ 255) : ∀ a c w, SpansAt a xs w → Calls Try.prog 28 #[.slice a n c, .int .u8 y] w fun r w' => ∃ v, r = .returned v ∧ ∃ sh : List Sn, Ln n sh ∧ (∀ x, x ∈ sh ↔ x ∈ xs) ∧ RowS w' w.heap.size v sh ∧ Below w.heap.size w w' := fun a c w z => by
  unfold Ln at hn; subst hn
  exact (shuffled_any a c xs y w (by omega) hy z).mono fun r w' ⟨v, hr, sh, h1, h2, h3, h4⟩ => ⟨v, hr, sh, h1.symm, h2, h3, h4⟩
end Go.Proofs.Ytahionbbpfmplaa.Sp
