/- What the reference's Starts returns: the common starts. Conditions: the pieces lie in memory as the arguments say; they are not too many. -/
import Derived.Test.YtdoojpilogcnjaaPwOwn14
import Derived.Test.YtdoojpilogcnjaaPwRef8
import Derived.BigQuiet
set_option linter.unusedVariables false
set_option linter.unusedSimpArgs false
namespace Go.Proofs.Ytdoojpilogcnjaa.Pw
open Go.RowKit Go.Proofs.Ytdoojpilogcnjaa.Sp
/-- A row of ints of the walk's own. -/
def RowI (w : World) (base : Nat) (v : Value) (S : List Int) : Prop := w.ownsRow base 3 1 v S.length (S.map (Value.int .i64))
theorem RowI.cells {w : World} {base : Nat} {v : Value} {S : List Int} (h : RowI w base v S) (h0 : 0 < S.length) : ∃ g cap, v = .slice (some ⟨g, 0, none⟩) S.length cap ∧ base ≤ g ∧ ∀ i x, S[i]? = some x → w.cell? ⟨g, i, none⟩ = some (.int .i64 x) := by
  rcases h.2 with ⟨-, e⟩ | ⟨g, cap, cur, hv, hb, hg, rest⟩
  · omega
  · refine ⟨g, cap, hv, hb, fun i x hx => ?_⟩
    subst hv
    have c := World.ownsRow.cells h (g := g) rfl i (.int .i64 x) (by rw [List.getElem?_map, hx]; rfl)
    rw [show (⟨g, 0, none⟩ : Addr).add i = ⟨g, 0 + i, none⟩ by unfold Addr.add; split <;> simp_all, Nat.zero_add] at c
    exact c
theorem RowI.app {w : World} {base : Nat} {v : Value} {S : List Int} {a b : Int} (h : w.ownsRow base 3 1 v (S.length + 2) (S.map (Value.int .i64) ++ [.int .i64 a, .int .i64 b])) : RowI w base v (S ++ [a, b]) := by
  unfold RowI
  rw [List.length_append, List.map_append]
  exact h
theorem ints_cell1 (S : List Int) : ∀ u ∈ S.map (Value.int .i64), u.oneCell' = true := fun u hu => by
  obtain ⟨x, -, rfl⟩ := List.mem_map.1 hu
  rfl
theorem RowI.app1 {w : World} {base : Nat} {v : Value} {S : List Int} {a : Int} (h : w.ownsRow base 3 1 v (S.length + 1) (S.map (Value.int .i64) ++ [.int .i64 a])) : RowI w base v (S ++ [a]) := by
  unfold RowI
  rw [List.length_append, List.map_append]
  exact h
theorem RowI.ints {w : World} {base : Nat} {v : Value} {S : List Int} (h : RowI w base v S) : ∃ a cap, v = .slice a S.length cap ∧ IntsAt a S w ∧ (∀ b o, a = some ⟨b, o, none⟩ → base ≤ b) := by
  rcases h.2 with ⟨hv, e⟩ | ⟨g, cap, cur, hv, hb, hg, rest⟩
  · refine ⟨none, 0, by rw [hv, e], fun i x hx => ?_, fun b o e => by cases e⟩
    rw [List.eq_nil_of_length_eq_zero e] at hx
    simp at hx
  · refine ⟨some ⟨g, 0, none⟩, cap, hv, fun i x hx => ⟨g, 0, rfl, ?_⟩, fun b o e => by cases e; exact hb⟩
    subst hv
    have c := World.ownsRow.cells h (g := g) rfl i (.int .i64 x) (by rw [List.getElem?_map, hx]; rfl)
    rw [show (⟨g, 0, none⟩ : Addr).add i = ⟨g, 0 + i, none⟩ by unfold Addr.add; split <;> simp_all] at c
    exact c
theorem ints_one {w : World} {o : Obj} {d : Int} (ho : o = .cells #[.int .i64 d] 3) : ∀ j u, ([Value.int .i64 d] : List Value)[j]? = some u → (w.alloc o).cell? ((⟨w.heap.size, 0, none⟩ : Addr).add j) = some u := fun j u hu => by
  subst ho
  exact World.news_of_block (cs := #[.int .i64 d]) (heap_alloc_new w _) j u hu
theorem drop_at {l : List Pc} {i : Nat} {p : Pc} (h : l[i]? = some p) : (l.map Prod.fst).drop i = p.1 :: (l.map Prod.fst).drop (i + 1) := by
  obtain ⟨hi, he⟩ := List.getElem?_eq_some_iff.1 h
  rw [List.drop_eq_getElem_cons (by rw [List.length_map]; exact hi), List.getElem_map, he]
theorem drop_end {l : List Pc} {i : Nat} (h : l.length ≤ i) : (l.map Prod.fst).drop i = [] := List.drop_eq_nil_of_le (by rw [List.length_map]; exact h)
theorem one_cell1 {x : Int} : ∀ u ∈ ([.int .i64 x] : List Value), u.oneCell' = true := fun u hu => by
  obtain rfl := List.mem_singleton.1 hu; rfl
/-- What Starts leaves. -/
def StPost (w : World) (S : List Int) (r : Ending) (w' : World) : Prop := ∃ a c, r = .returned (.slice a S.length c) ∧ IntsAt a S w' ∧ Below w.heap.size w w' ∧ ∀ b o, a = some ⟨b, o, none⟩ → w.heap.size ≤ b
/-- What the loop keeps. -/
structure StI (w : World) (x0 : Nat) (a b : Option Addr) (n m c k : Nat) (l r : List Pc) (v : Value) (acc : List Int) (i j : Nat) (W : World) : Prop where
  f1 : W.cell? ⟨x0, 1, none⟩ = some (.slice a n c)
  g1 : W.cell? ⟨x0 + 1, 1, none⟩ = some (.slice b m k)
  row : RowI W (x0 + 2) v acc
  hb : Below w.heap.size w W
  sum : acc ++ mgd ((l.map Prod.fst).drop i) ((r.map Prod.fst).drop j) = starts l r
  len : acc.length ≤ i + j
theorem StI.app {w : World} {x0 : Nat} {a b : Option Addr} {n m c k : Nat} {l r : List Pc} {v v' : Value} {acc : List Int} {i j i' j' : Nat} {W Wg w' : World} {x : Int} (h : StI w x0 a b n m c k l r v acc i j W) (hw : w.heap.size ≤ x0) (kg : Below W.heap.size W Wg) (hrow : RowI Wg (x0 + 2) v acc) (hg : Wg.grownBy w' v.ownBlock) (hown : RowI w' (x0 + 2) v' (acc ++ [x]))
    (hs : (acc ++ [x]) ++ mgd ((l.map Prod.fst).drop i') ((r.map Prod.fst).drop j') = starts l r) (hl : acc.length + 1 ≤ i' + j') : StI w x0 a b n m c k l r v' (acc ++ [x]) i' j' w' := by
  have hlo : ∀ q, v.ownBlock = some q → x0 + 2 ≤ q := fun q hq => (World.ownsRow.lt hrow q hq).1
  have ce : ∀ {p : Addr} {u : Value}, p.block < x0 + 2 → Wg.cell? p = some u → w'.cell? p = some u := fun {p u} hp hc => (World.cell?_of_block (w := Wg) (hg.block p.block (World.block_lt_of_cell? Wg p hc) (fun e => by have := hlo p.block e.symm; omega))).trans hc
  refine ⟨ce (by show x0 < _; omega) (Sp.cell_kept kg h.f1), ce (by show x0 + 1 < _; omega) (Sp.cell_kept kg h.g1), hown, ?_, hs, by rw [List.length_append]; exact hl⟩
  exact (h.hb.trans (kg.mono h.hb.size)).grown hg (by have := h.hb.size; have := kg.size; omega) (fun q hq => by have := hlo q hq; omega)
theorem StI.drew {w : World} {x0 : Nat} {a b : Option Addr} {n m c k : Nat} {l r : List Pc} {v : Value} {acc : List Int} {i j : Nat} {W W' : World} (h : StI w x0 a b n m c k l r v acc i j W) (kb : Below W.heap.size W W') : StI w x0 a b n m c k l r v acc i j W' := by
  refine ⟨Sp.cell_kept kb h.f1, Sp.cell_kept kb h.g1, ⟨h.row.1, ?_⟩, h.hb.trans (kb.mono h.hb.size), h.sum, h.len⟩
  rcases h.row.2 with hn | ⟨g, cap, cur, hv, hb, hg, rest⟩
  · exact .inl hn
  · exact .inr ⟨g, cap, cur, hv, hb, (kb.block g (Array.getElem?_eq_some_iff.1 hg).1).trans hg, rest⟩
theorem st_boxes (w : World) (d e : Int) (a b : Option Addr) (n c m k : Nat) : ((w.alloc (fb d a n c)).alloc (fb e b m k)).cell? ⟨w.heap.size, 1, none⟩ = some (.slice a n c) ∧ ((w.alloc (fb d a n c)).alloc (fb e b m k)).cell? ⟨w.heap.size + 1, 1, none⟩ = some (.slice b m k) ∧ Below w.heap.size w ((w.alloc (fb d a n c)).alloc (fb e b m k)) ∧ w.heap.size + 2 = ((w.alloc (fb d a n c)).alloc (fb e b m k)).heap.size := by
  have k1 := Sp.alloc_below w (fb d a n c)
  have k2 := Sp.alloc_below (w.alloc (fb d a n c)) (fb e b m k)
  have hs : (w.alloc (fb d a n c)).heap.size = w.heap.size + 1 := by simp
  have q := fb_cells w d a n c
  have q' := fb_cells (w.alloc (fb d a n c)) e b m k
  rw [hs] at q'
  exact ⟨Sp.cell_kept k2 q.2.1, q'.2.1, k1.trans (k2.mono k1.size), by simp⟩
set_option maxHeartbeats 16000000 in
set_option maxRecDepth 100000 in
theorem rstarts_any (d e : Int) (a b : Option Addr) (c k : Nat) (l r : List Pc) (w : World) (hl : l.length ≤ 1000) (hr : r.length ≤ 1000) (zl : PcsAt a l w) (zr : PcsAt b r w) :
    Calls Try.prog 31 #[fv d a l.length c, fv e b r.length k] w (StPost w (starts l r)) := by
  have HZ := Lib.hid (fun W (q : Below w.heap.size w W) => And.intro (zl.below q) (zr.below q))
  obtain ⟨n, hn⟩ : ∃ n, n = l.length := ⟨_, rfl⟩
  obtain ⟨m, hm⟩ : ∃ m, m = r.length := ⟨_, rfl⟩
  rw [← hn] at hl ⊢
  rw [← hm] at hr ⊢
  have HN := Lib.hid (And.intro hn hm)
  obtain ⟨f1, g1, hB, hsz⟩ := st_boxes w d e a b n c m k
  obtain ⟨i0, hi, hz0, hz1, hz2⟩ := info_parts Try.infoI
  have HI0 := Lib.hid (And.intro hi (And.intro hz0 (And.intro hz1 hz2)))
  have HSI : Hid (StI w w.heap.size a b n m c k l r (.slice none 0 0) [] 0 0 ((w.alloc (fb d a n c)).alloc (fb e b m k))) := ⟨f1, g1, World.ownsRow_nil _ _ _ _, hB, rfl, Nat.le_refl _⟩
  have HSZ := Lib.hid hsz
  clear hn hm zl zr hi hz0 hz1 hz2 f1 g1 hB hsz
  go_enter Try.func31, Try.ntmps31
  go_upto_region 1 with (fail)
  generalize (w.alloc (fb d a n c)).alloc (fb e b m k) = W1 at *
  generalize hx : w.heap.size = x0 at HSI HSZ ⊢
  have HX := Lib.hid hx
  clear hx
  have HZS := Lib.hid (fun W {v acc i j} (h : StI w x0 a b n m c k l r v acc i j W) => (show x0 + 2 ≤ W.heap.size from World.block_lt_of_cell? _ _ h.g1))
  go_wp2_with fail
  go_loopg [5, 6, 7] (n + m) (fun g s5 s6 s7 wx => ∃ (i j : Nat) (acc : List Int), i + j + g = n + m ∧ i ≤ n ∧ j ≤ m ∧ s6 = .int .i64 i ∧ s7 = .int .i64 j ∧ Hid (StI w x0 a b n m c k l r s5 acc i j wx))
  case atStart => exact ⟨0, 0, [], by omega, by omega, by omega, rfl, rfl, HSI⟩
  case round =>
    clear HSI
    obtain ⟨i, j, acc, hgk, hin, hjm, rfl, rfl, HS⟩ := hrel
    have f1 := HS.out.f1
    have g1 := HS.out.g1
    have hi0 : (0 : Int) ≤ (i : Int) := by omega
    have hj0 : (0 : Int) ≤ (j : Int) := by omega
    have hwi : IntKind.i64.wrap ((i : Int) + 1) = (i : Int) + 1 := IntWalk.i64_in _ (by omega)
    have hwj : IntKind.i64.wrap ((j : Int) + 1) = (j : Int) + 1 := IntWalk.i64_in _ (by omega)
    have HZZ := Lib.hid (HZ.out _ HS.out.hb)
    by_cases hi : i < n
    · obtain ⟨g, rfl⟩ : ∃ g, gk = g + 1 := ⟨gk - 1, by omega⟩
      have di : (i : Int) < (n : Int) := by omega
      have di2 : decide ((i : Int) < (n : Int)) = true := decide_eq_true di
      obtain ⟨p, hp⟩ : ∃ p, l[i]? = some p := ⟨_, List.getElem?_eq_getElem (by have := HN.out; omega)⟩
      obtain ⟨b1, o1, ha, e1, -, -⟩ := HZZ.out.1 i p hp
      subst ha
      have HDI := Lib.hid (drop_at hp)
      obtain ⟨x, hx⟩ : ∃ x, p.1 = x := ⟨_, rfl⟩
      rw [hx] at e1 HDI
      clear hp hx
      by_cases hj : j < m
      · have dj : (j : Int) < (m : Int) := by omega
        have ej : ((j : Int) == (m : Int)) = false := by rw [beq_eq_false_iff_ne]; omega
        obtain ⟨q, hq⟩ : ∃ q, r[j]? = some q := ⟨_, List.getElem?_eq_getElem (by have := HN.out; omega)⟩
        obtain ⟨b2, o2, ha, e2, -, -⟩ := HZZ.out.2 j q hq
        subst ha
        have HDJ := Lib.hid (drop_at hq)
        obtain ⟨y, hy⟩ : ∃ y, q.1 = y := ⟨_, rfl⟩
        rw [hy] at e2 HDJ
        clear hq hy
        by_cases hxy : x < y
        · have dxy : decide (x < y) = true := decide_eq_true hxy
          have HSUM := Lib.hid (show (acc ++ [x]) ++ mgd ((l.map Prod.fst).drop (i + 1)) ((r.map Prod.fst).drop (j)) = starts l r from by
            have h := HS.out.sum
            have h1 := HN.out
            rw [HDI.out, HDJ.out, mgd_lt hxy] at h
            rw [List.append_assoc, HDJ.out]
            exact h)
          have HLA := Lib.hid (show acc.length + 1 ≤ (i + 1) + (j) by have := HS.out.len; omega)
          clear hi hj hxy
          go_upto_region 5 with (fail)
          go_quiet (fail)
          go_upto_region 6 with (fail)
          generalize hE : World.drewN _ _ = wd
          have kb : Below wr.heap.size wr wd := by rw [← hE]; first | exact below_drewN (Below.refl _ _) _ | exact below_drewN (below_drewN (Below.refl _ _) _) _
          clear hE
          have HS2 := Lib.hid (HS.out.drew kb)
          clear f1 g1
          have f1 := HS2.out.f1
          have g1 := HS2.out.g1
          replace e1 := Sp.cell_kept kb e1
          have hzd : x0 + 2 ≤ wd.heap.size := by have := HS2.out.hb; have := HZS.out _ HS2.out; omega
          have HRA := Lib.hid (show RowI (wd.alloc (.cells #[.int .i64 x] 3)) (x0 + 2) u5 acc from World.ownsRow.alloc HS2.out.row _)
          have HAL := Lib.hid (show acc.length ≤ 2000 by have := HS2.out.len; omega)
          go_wp2_with (first | (at_builtin; refine wpList_append_src rfl _ _ 41 rfl (x0 + 2) 3 i0 (.int .i64 0) 1 8 (by kernel_rfl) HI0.out.1 HI0.out.2.1 HI0.out.2.2.1 HI0.out.2.2.2 rfl (by decide) _ _ _ rfl HRA.out _ 1 [.int .i64 x] rfl (.inr ⟨_, 1, rfl, ints_one rfl⟩) rfl one_cell1 (by unfold maxLen; have := HAL.out; omega) (by have := HAL.out; omega) (by rw [show (wd.alloc (.cells #[.int .i64 x] 3)).heap.size = wd.heap.size + 1 by simp]; omega) ?_; intro v' w4 hown hgrow; have HNEW := Lib.hid (StI.app (i' := i + 1) (j' := j) HS2.out (by have := HX.out; omega) (Sp.alloc_below wd _) HRA.out hgrow (RowI.app1 hown) HSUM.out HLA.out); clear hown hgrow))
          go_roundg g
          case measure => omega
          case rel => exact ⟨i + 1, j, acc ++ [x], by omega, by omega, by omega, by go_num, by go_num, HNEW⟩
        · have dxy : decide (x < y) = false := decide_eq_false hxy
          by_cases he : x = y
          · have dxe : (x == y) = true := beq_iff_eq.2 he
            have HSUM := Lib.hid (show (acc ++ [y]) ++ mgd ((l.map Prod.fst).drop (i + 1)) ((r.map Prod.fst).drop (j + 1)) = starts l r from by
              have h := HS.out.sum
              have h1 := HN.out
              rw [HDI.out, HDJ.out, mgd_eq he] at h
              rw [List.append_assoc]
              exact h)
            have HLA := Lib.hid (show acc.length + 1 ≤ (i + 1) + (j + 1) by have := HS.out.len; omega)
            obtain ⟨g', rfl⟩ : ∃ g', g = g' + 1 := ⟨g - 1, by omega⟩
            clear hi hj hxy he
            go_upto_region 5 with (fail)
            go_quiet (fail)
            go_upto_region 8 with (fail)
            go_quiet (fail)
            go_upto_region 10 with (fail)
            generalize hE : World.drewN _ _ = wd
            have kb : Below wr.heap.size wr wd := by rw [← hE]; first | exact below_drewN (Below.refl _ _) _ | exact below_drewN (below_drewN (Below.refl _ _) _) _
            clear hE
            have HS2 := Lib.hid (HS.out.drew kb)
            clear f1 g1
            have f1 := HS2.out.f1
            have g1 := HS2.out.g1
            replace e2 := Sp.cell_kept kb e2
            have hzd : x0 + 2 ≤ wd.heap.size := by have := HS2.out.hb; have := HZS.out _ HS2.out; omega
            have HRA := Lib.hid (show RowI (wd.alloc (.cells #[.int .i64 y] 3)) (x0 + 2) u5 acc from World.ownsRow.alloc HS2.out.row _)
            have HAL := Lib.hid (show acc.length ≤ 2000 by have := HS2.out.len; omega)
            go_wp2_with (first | (at_builtin; refine wpList_append_src rfl _ _ 41 rfl (x0 + 2) 3 i0 (.int .i64 0) 1 8 (by kernel_rfl) HI0.out.1 HI0.out.2.1 HI0.out.2.2.1 HI0.out.2.2.2 rfl (by decide) _ _ _ rfl HRA.out _ 1 [.int .i64 y] rfl (.inr ⟨_, 1, rfl, ints_one rfl⟩) rfl one_cell1 (by unfold maxLen; have := HAL.out; omega) (by have := HAL.out; omega) (by rw [show (wd.alloc (.cells #[.int .i64 y] 3)).heap.size = wd.heap.size + 1 by simp]; omega) ?_; intro v' w4 hown hgrow; have HNEW := Lib.hid (StI.app (i' := i + 1) (j' := j + 1) HS2.out (by have := HX.out; omega) (Sp.alloc_below wd _) HRA.out hgrow (RowI.app1 hown) HSUM.out HLA.out); clear hown hgrow))
            go_roundg g'
            case measure => omega
            case rel => exact ⟨i + 1, j + 1, acc ++ [y], by omega, by omega, by omega, by go_num, by go_num, HNEW⟩
          · have dxe : (x == y) = false := beq_eq_false_iff_ne.2 he
            have HSUM := Lib.hid (show (acc ++ [y]) ++ mgd ((l.map Prod.fst).drop (i)) ((r.map Prod.fst).drop (j + 1)) = starts l r from by
              have h := HS.out.sum
              have h1 := HN.out
              rw [HDI.out, HDJ.out, mgd_gt (by omega)] at h
              rw [List.append_assoc, HDI.out]
              exact h)
            have HLA := Lib.hid (show acc.length + 1 ≤ (i) + (j + 1) by have := HS.out.len; omega)
            clear hi hj hxy he
            go_upto_region 5 with (fail)
            go_quiet (fail)
            go_upto_region 8 with (fail)
            go_quiet (fail)
            go_upto_region 10 with (fail)
            generalize hE : World.drewN _ _ = wd
            have kb : Below wr.heap.size wr wd := by rw [← hE]; first | exact below_drewN (Below.refl _ _) _ | exact below_drewN (below_drewN (Below.refl _ _) _) _
            clear hE
            have HS2 := Lib.hid (HS.out.drew kb)
            clear f1 g1
            have f1 := HS2.out.f1
            have g1 := HS2.out.g1
            replace e2 := Sp.cell_kept kb e2
            have hzd : x0 + 2 ≤ wd.heap.size := by have := HS2.out.hb; have := HZS.out _ HS2.out; omega
            have HRA := Lib.hid (show RowI (wd.alloc (.cells #[.int .i64 y] 3)) (x0 + 2) u5 acc from World.ownsRow.alloc HS2.out.row _)
            have HAL := Lib.hid (show acc.length ≤ 2000 by have := HS2.out.len; omega)
            go_wp2_with (first | (at_builtin; refine wpList_append_src rfl _ _ 41 rfl (x0 + 2) 3 i0 (.int .i64 0) 1 8 (by kernel_rfl) HI0.out.1 HI0.out.2.1 HI0.out.2.2.1 HI0.out.2.2.2 rfl (by decide) _ _ _ rfl HRA.out _ 1 [.int .i64 y] rfl (.inr ⟨_, 1, rfl, ints_one rfl⟩) rfl one_cell1 (by unfold maxLen; have := HAL.out; omega) (by have := HAL.out; omega) (by rw [show (wd.alloc (.cells #[.int .i64 y] 3)).heap.size = wd.heap.size + 1 by simp]; omega) ?_; intro v' w4 hown hgrow; have HNEW := Lib.hid (StI.app (i' := i) (j' := j + 1) HS2.out (by have := HX.out; omega) (Sp.alloc_below wd _) HRA.out hgrow (RowI.app1 hown) HSUM.out HLA.out); clear hown hgrow))
            go_roundg g
            case measure => omega
            case rel => exact ⟨i, j + 1, acc ++ [y], by omega, by omega, by omega, by go_num, by go_num, HNEW⟩
      · have dj : ¬ (j : Int) < (m : Int) := by omega
        have ej : ((j : Int) == (m : Int)) = true := by rw [beq_iff_eq]; omega
        have HSUM := Lib.hid (show (acc ++ [x]) ++ mgd ((l.map Prod.fst).drop (i + 1)) ((r.map Prod.fst).drop (j)) = starts l r from by
          have h := HS.out.sum
          have h1 := HN.out
          rw [HDI.out, drop_end (l := r) (by omega), mgd_nil2] at h
          rw [List.append_assoc, drop_end (l := r) (by omega), mgd_nil2]
          exact h)
        have HLA := Lib.hid (show acc.length + 1 ≤ (i + 1) + (j) by have := HS.out.len; omega)
        clear hi hj
        go_upto_region 5 with (fail)
        go_quiet (fail)
        go_upto_region 6 with (fail)
        generalize hE : World.drewN _ _ = wd
        have kb : Below wr.heap.size wr wd := by rw [← hE]; first | exact below_drewN (Below.refl _ _) _ | exact below_drewN (below_drewN (Below.refl _ _) _) _
        clear hE
        have HS2 := Lib.hid (HS.out.drew kb)
        clear f1 g1
        have f1 := HS2.out.f1
        have g1 := HS2.out.g1
        replace e1 := Sp.cell_kept kb e1
        have hzd : x0 + 2 ≤ wd.heap.size := by have := HS2.out.hb; have := HZS.out _ HS2.out; omega
        have HRA := Lib.hid (show RowI (wd.alloc (.cells #[.int .i64 x] 3)) (x0 + 2) u5 acc from World.ownsRow.alloc HS2.out.row _)
        have HAL := Lib.hid (show acc.length ≤ 2000 by have := HS2.out.len; omega)
        go_wp2_with (first | (at_builtin; refine wpList_append_src rfl _ _ 41 rfl (x0 + 2) 3 i0 (.int .i64 0) 1 8 (by kernel_rfl) HI0.out.1 HI0.out.2.1 HI0.out.2.2.1 HI0.out.2.2.2 rfl (by decide) _ _ _ rfl HRA.out _ 1 [.int .i64 x] rfl (.inr ⟨_, 1, rfl, ints_one rfl⟩) rfl one_cell1 (by unfold maxLen; have := HAL.out; omega) (by have := HAL.out; omega) (by rw [show (wd.alloc (.cells #[.int .i64 x] 3)).heap.size = wd.heap.size + 1 by simp]; omega) ?_; intro v' w4 hown hgrow; have HNEW := Lib.hid (StI.app (i' := i + 1) (j' := j) HS2.out (by have := HX.out; omega) (Sp.alloc_below wd _) HRA.out hgrow (RowI.app1 hown) HSUM.out HLA.out); clear hown hgrow))
        go_roundg g
        case measure => omega
        case rel => exact ⟨i + 1, j, acc ++ [x], by omega, by omega, by omega, by go_num, by go_num, HNEW⟩
    · have di : ¬ (i : Int) < (n : Int) := by omega
      have di2 : decide ((i : Int) < (n : Int)) = false := decide_eq_false di
      by_cases hj : j < m
      · obtain ⟨g, rfl⟩ : ∃ g, gk = g + 1 := ⟨gk - 1, by omega⟩
        have dj : (j : Int) < (m : Int) := by omega
        have ej : ((j : Int) == (m : Int)) = false := by rw [beq_eq_false_iff_ne]; omega
        obtain ⟨q, hq⟩ : ∃ q, r[j]? = some q := ⟨_, List.getElem?_eq_getElem (by have := HN.out; omega)⟩
        obtain ⟨b2, o2, ha, e2, -, -⟩ := HZZ.out.2 j q hq
        subst ha
        have HDJ := Lib.hid (drop_at hq)
        obtain ⟨y, hy⟩ : ∃ y, q.1 = y := ⟨_, rfl⟩
        rw [hy] at e2 HDJ
        clear hq hy
        have HSUM := Lib.hid (show (acc ++ [y]) ++ mgd ((l.map Prod.fst).drop (i)) ((r.map Prod.fst).drop (j + 1)) = starts l r from by
          have h := HS.out.sum
          have h1 := HN.out
          rw [drop_end (l := l) (by omega), HDJ.out, mgd_nil] at h
          rw [List.append_assoc, drop_end (l := l) (by omega), mgd_nil]
          exact h)
        have HLA := Lib.hid (show acc.length + 1 ≤ (i) + (j + 1) by have := HS.out.len; omega)
        clear hi hj
        go_upto_region 5 with (fail)
        go_quiet (fail)
        go_upto_region 8 with (fail)
        go_quiet (fail)
        go_upto_region 10 with (fail)
        generalize hE : World.drewN _ _ = wd
        have kb : Below wr.heap.size wr wd := by rw [← hE]; first | exact below_drewN (Below.refl _ _) _ | exact below_drewN (below_drewN (Below.refl _ _) _) _
        clear hE
        have HS2 := Lib.hid (HS.out.drew kb)
        clear f1 g1
        have f1 := HS2.out.f1
        have g1 := HS2.out.g1
        replace e2 := Sp.cell_kept kb e2
        have hzd : x0 + 2 ≤ wd.heap.size := by have := HS2.out.hb; have := HZS.out _ HS2.out; omega
        have HRA := Lib.hid (show RowI (wd.alloc (.cells #[.int .i64 y] 3)) (x0 + 2) u5 acc from World.ownsRow.alloc HS2.out.row _)
        have HAL := Lib.hid (show acc.length ≤ 2000 by have := HS2.out.len; omega)
        go_wp2_with (first | (at_builtin; refine wpList_append_src rfl _ _ 41 rfl (x0 + 2) 3 i0 (.int .i64 0) 1 8 (by kernel_rfl) HI0.out.1 HI0.out.2.1 HI0.out.2.2.1 HI0.out.2.2.2 rfl (by decide) _ _ _ rfl HRA.out _ 1 [.int .i64 y] rfl (.inr ⟨_, 1, rfl, ints_one rfl⟩) rfl one_cell1 (by unfold maxLen; have := HAL.out; omega) (by have := HAL.out; omega) (by rw [show (wd.alloc (.cells #[.int .i64 y] 3)).heap.size = wd.heap.size + 1 by simp]; omega) ?_; intro v' w4 hown hgrow; have HNEW := Lib.hid (StI.app (i' := i) (j' := j + 1) HS2.out (by have := HX.out; omega) (Sp.alloc_below wd _) HRA.out hgrow (RowI.app1 hown) HSUM.out HLA.out); clear hown hgrow))
        go_roundg g
        case measure => omega
        case rel => exact ⟨i, j + 1, acc ++ [y], by omega, by omega, by omega, by go_num, by go_num, HNEW⟩
      · have dj : ¬ (j : Int) < (m : Int) := by omega
        obtain ⟨ar, cr, hv, hin2, hfr⟩ := HS.out.row.ints
        obtain rfl : acc = starts l r := by
          have h := HS.out.sum
          have h1 := HN.out
          rw [drop_end (by omega), drop_end (by omega), mgd_nil, List.append_nil] at h
          exact h
        have HII := Lib.hid hin2
        have HFR := Lib.hid (show ∀ b o, ar = some ⟨b, o, none⟩ → w.heap.size ≤ b from fun b o e => by have := hfr b o e; have := HX.out; omega)
        subst hv
        clear hi hj hin2 hfr HZZ
        go_wp2
        go_ret
        exact ⟨ar, cr, rfl, HII.out, HS.out.hb, HFR.out⟩
end Go.Proofs.Ytdoojpilogcnjaa.Pw
