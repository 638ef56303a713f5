/- What slices.Grow and slices.Concat at pieces return. Conditions: the lists lie in memory as the arguments say; they are short. -/
import Derived.Test.YtdoojpilogcnjaaPwOwn2
import Derived.Test.YtdoojpilogcnjaaSpanRef6
import Derived.Lib.AppendZerosOnto
set_option linter.unusedVariables false
set_option linter.unusedSimpArgs false
namespace Go.Proofs.Ytdoojpilogcnjaa.Pw
open Go.RowKit Go.Lib Go.Proofs.Ytdoojpilogcnjaa.Sp
theorem PcsAt.src {a : Option Addr} {c : Nat} {l : List Pc} {w : World} (h : PcsAt a l w) (hn : a = none → c = 0 ∧ l = []) : SrcAt w (.slice a l.length c) l.length (flatP l) := by
  cases l with
  | nil =>
    cases a with
    | none => exact .inl ⟨by rw [(hn rfl).1]; rfl, rfl, rfl⟩
    | some a => exact .inr ⟨a, c, rfl, fun j u hu => by simp [flatP] at hu⟩
  | cons p l =>
    obtain ⟨b, off, rfl, -, -, -⟩ := h 0 p rfl
    refine .inr ⟨_, c, rfl, fun j u hu => ?_⟩
    have hj : j < (p :: l).length * 3 := by rw [← flatP_length]; exact (List.getElem?_eq_some_iff.1 hu).1
    obtain ⟨x, hx⟩ : ∃ x, (p :: l)[j / 3]? = some x := ⟨_, List.getElem?_eq_getElem (by omega)⟩
    obtain ⟨b2, o2, e, u1, u2, u3⟩ := h (j / 3) x hx
    cases e
    obtain ⟨f1, f2, f3⟩ := flatP_get (p :: l) (j / 3) x hx
    rw [show (⟨b, off, none⟩ : Addr).add j = ⟨b, off + j, none⟩ by unfold Addr.add; split <;> simp_all]
    have hc : j % 3 = 0 ∨ j % 3 = 1 ∨ j % 3 = 2 := by omega
    rcases hc with q | q | q
    · rw [show j / 3 * 3 = j by omega] at f1
      rw [show off + j / 3 * 3 = off + j by omega] at u1
      rw [f1] at hu; obtain rfl := Option.some.inj hu; exact u1
    · rw [show j / 3 * 3 + 1 = j by omega] at f2
      rw [show off + j / 3 * 3 + 1 = off + j by omega] at u2
      rw [f2] at hu; obtain rfl := Option.some.inj hu; exact u2
    · rw [show j / 3 * 3 + 2 = j by omega] at f3
      rw [show off + j / 3 * 3 + 2 = off + j by omega] at u3
      rw [f3] at hu; obtain rfl := Option.some.inj hu; exact u3
theorem RowP.made {w : World} {base : Nat} (cur : Array Value) (cap : Nat) (hb : base ≤ w.heap.size) (hm : cap ≤ maxLen) (hs : cur.size = cap * 3) : RowP (w.alloc (.cells cur 55)) base (.slice (some ⟨w.heap.size, 0, none⟩) 0 cap) [] := World.ownsRow_made w cur cap hb hm hs
theorem zeroCells_size (cs : Array Value) : ∀ n, (Builtin.zeroCells cs n).size = n * cs.size := fun n => by
  simp [Builtin.zeroCells]
set_option maxHeartbeats 2000000 in
set_option maxRecDepth 100000 in
theorem pgrow_any (k : Int) (w : World) (h0 : 0 ≤ k) (h1 : k ≤ 100000) :
    Calls Try.prog 61 #[.slice none 0 0, .int .i64 k] w fun r w' => ∃ v, r = .returned v ∧ RowP w' w.heap.size v [] ∧ Below w.heap.size w w' := by
  obtain ⟨n, rfl⟩ := Int.eq_ofNat_of_zero_le h0
  have hn : n ≤ 100000 := by omega
  by_cases hz : n = 0
  · subst hz
    clear h0 h1 hn
    go_enter Try.func61, Try.ntmps61
    go_wp2
    go_ret
    exact ⟨_, rfl, RowP.nil _ _, Below.refl _ _⟩
  · obtain ⟨i0, hi, hz0, hz1, hz2⟩ := info_parts Try.infoP
    have hold : (Builtin.firstCells i0.size 0 (.slice none 0 0)).run Try.prog w.drew = .ok (([] : List Value).toArray) w.drew := run_firstCells_none w.drew i0.size 0 0 0
    have hrz : ∀ ty, (Builtin.append_ #[22, 3] ty #[.slice none 0 0, .int .i64 (n : Int)]).run Try.prog w = .ok (.slice (some ⟨w.heap.size, 0, none⟩) n (grownCap w n 0 55)) (w.drew.alloc (.cells (([] : List Value).toArray ++ Builtin.zeroCells (Value.agg #[.int .i64 0, .int .i64 0, .int .i64 0]).cells n ++ Builtin.zeroCells (Value.agg #[.int .i64 0, .int .i64 0, .int .i64 0]).cells (grownCap w n 0 55 - n)) 55)) := fun ty => by
      have h := Lib.run_append_grow_zeros (P := Try.prog) w 22 3 ty 55 i0 _ .i64 .i64 Try.underP (by kernel_rfl) hi hz0 none 0 0 [] hold n (by omega) (by omega) (by omega) (by omega) (by rw [hz2]; omega) (by
        exact growslice_fits (by omega) (by rw [hz2]; omega))
      simpa only [Nat.zero_add] using h
    have hG : n ≤ grownCap w n 0 55 := grownCap_ge w _ _ _
    have hGm := grownCap_le_maxLen w n 0 55 (by unfold maxLen; omega)
    obtain ⟨G, hG'⟩ : ∃ G, G = grownCap w n 0 55 := ⟨_, rfl⟩
    rw [← hG'] at hrz hG hGm
    have hGm2 := hGm
    unfold maxLen at hGm2
    have hsize : (([] : List Value).toArray ++ Builtin.zeroCells (Value.agg #[.int .i64 0, .int .i64 0, .int .i64 0]).cells n ++ Builtin.zeroCells (Value.agg #[.int .i64 0, .int .i64 0, .int .i64 0]).cells (G - n)).size = G * 3 := by
      rw [Array.size_append, Array.size_append, zeroCells_size, zeroCells_size]
      show 0 + n * 3 + (G - n) * 3 = G * 3
      omega
    generalize hcur : (([] : List Value).toArray ++ Builtin.zeroCells (Value.agg #[.int .i64 0, .int .i64 0, .int .i64 0]).cells n ++ Builtin.zeroCells (Value.agg #[.int .i64 0, .int .i64 0, .int .i64 0]).cells (G - n)) = cur at hrz hsize
    have HR := Lib.hid (RowP.made (w := w.drew) (base := w.heap.size) cur G (Nat.le_refl _) hGm hsize)
    have HB := Lib.hid (show Below w.heap.size w (w.drew.alloc (.cells cur 55)) from (below_drewN (Below.refl _ _) 1).trans ((alloc_below w.drew _).mono (Nat.le_refl _)))
    have hw1 : IntKind.i64.wrap ((n : Int) - 0) = (n : Int) := by rw [Int.sub_zero]; exact IntWalk.i64_in _ (by omega)
    have hpos : (0 : Int) < (n : Int) := by omega
    have hneg : ¬ (n : Int) < 0 := by omega
    clear hold hcur hG' hsize hi hz0 hz1 hz2 hz h0 h1
    go_enter Try.func61, Try.ntmps61
    go_wp2_with (at_builtin; refine Lib.wpList_append_run _ rfl _ _ _ _ rfl _ _ rfl rfl _ _ (hrz _) ?_)
    go_ret
    exact ⟨_, rfl, HR.out, HB.out⟩
set_option maxHeartbeats 4000000 in
set_option maxRecDepth 100000 in
theorem pconcat_any (g c : Nat) (a1 a2 : Option Addr) (c1 c2 : Nat) (l1 l2 : List Pc) (w : World) (hl1 : l1.length ≤ 4000) (hl2 : l2.length ≤ 4000) (s1 : ∀ w', Below w.heap.size w w' → SrcAt w' (.slice a1 l1.length c1) l1.length (flatP l1)) (s2 : ∀ w', Below w.heap.size w w' → SrcAt w' (.slice a2 l2.length c2) l2.length (flatP l2))
    (k1 : w.cell? ⟨g, 0, none⟩ = some (.slice a1 l1.length c1)) (k2 : w.cell? ⟨g, 1, none⟩ = some (.slice a2 l2.length c2)) :
    Calls Try.prog 49 #[.slice (some ⟨g, 0, none⟩) 2 c] w fun r w' => ∃ v, r = .returned v ∧ RowP w' w.heap.size v (l1 ++ l2) ∧ Below w.heap.size w w' := by
  have HK := Lib.hid (fun w' (k : Below w.heap.size w w') => And.intro (cell_kept k k1) (cell_kept k k2))
  have HS1 := Lib.hid (s1)
  have HS2 := Lib.hid (s2)
  have HF1 := Lib.hid (flatP_length l1)
  have HF2 := Lib.hid (flatP_length l2)
  obtain ⟨n1, hn1⟩ : ∃ n, n = l1.length := ⟨_, rfl⟩
  obtain ⟨n2, hn2⟩ : ∃ n, n = l2.length := ⟨_, rfl⟩
  rw [← hn1] at HS1 HF1 k1 hl1 HK
  rw [← hn2] at HS2 HF2 k2 hl2 HK
  have HN1 := Lib.hid hn1
  have HN2 := Lib.hid hn2
  clear s1 s2 hn1 hn2
  obtain ⟨i0, hi, hz0, hz1, hz2⟩ := info_parts Try.infoP
  have HI0 := Lib.hid (And.intro hi (And.intro hz0 (And.intro hz1 hz2)))
  clear hi hz0 hz1 hz2
  have HG := Lib.hid (pgrow_any ((n1 : Int) + (n2 : Int)) w (by omega) (by omega))
  have hw1 := IntWalk.i64_in (0 + (n1 : Int)) (by omega)
  have hw2 := IntWalk.i64_in ((n1 : Int) + (n2 : Int)) (by omega)
  have hp1 : ¬ (n1 : Int) < 0 := by omega
  have hp2 : ¬ (n1 : Int) + (n2 : Int) < 0 := by omega
  go_enter Try.func49, Try.ntmps49
  go_wp2
  go_loopg [3, 11] 2 (fun g s3 s11 wx => ((g = 2 ∧ s11 = .int .i64 0 ∧ s3 = .int .i64 0) ∨ (g = 1 ∧ s11 = .int .i64 1 ∧ s3 = .int .i64 n1) ∨ (g = 0 ∧ s11 = .int .i64 2 ∧ s3 = .int .i64 ((n1 : Int) + (n2 : Int)))) ∧ wx = w)
  case atStart => exact ⟨.inl ⟨rfl, rfl, rfl⟩, rfl⟩
  case round =>
    obtain ⟨hr, hwr⟩ := hrel
    subst hwr
    rcases hr with ⟨rfl, rfl, rfl⟩ | ⟨rfl, rfl, rfl⟩ | ⟨rfl, rfl, rfl⟩
    · go_wp2
      go_roundg 1
      case measure => omega
      case rel => exact ⟨.inr (.inl ⟨rfl, by go_num, by go_num⟩), rfl⟩
    · go_wp2
      go_roundg 0
      case measure => omega
      case rel => exact ⟨.inr (.inr ⟨rfl, by go_num, by go_num⟩), rfl⟩
    · clear k1 k2
      go_wp2_with (first
        | (go_at_call 61; (with_reducible refine HG.out.mono ?_); rintro e w1 ⟨v0, rfl, hr0, hb0⟩; have HR0 := Lib.hid hr0; have HB0 := Lib.hid hb0; clear hr0 hb0 HG))
      clear hw1 hw2 hp1 hp2
      go_loopg [6, 27] 2 (fun g s6 s27 wx => ((g = 2 ∧ s27 = .int .i64 0 ∧ Hid (RowP wx wr.heap.size s6 [])) ∨ (g = 1 ∧ s27 = .int .i64 1 ∧ Hid (RowP wx wr.heap.size s6 l1)) ∨ (g = 0 ∧ s27 = .int .i64 2 ∧ Hid (RowP wx wr.heap.size s6 (l1 ++ l2)))) ∧ Below wr.heap.size wr wx)
      case atStart => exact ⟨.inl ⟨rfl, rfl, HR0.out⟩, HB0.out⟩
      case round =>
        obtain ⟨hr, hb⟩ := hrel
        rcases hr with ⟨rfl, rfl, HR⟩ | ⟨rfl, rfl, HR⟩ | ⟨rfl, rfl, HR⟩
        · have hsz := hb.size
          obtain ⟨k1, k2⟩ := HK.out _ hb
          go_wp2_with (first
            | (at_builtin; refine wpList_append_src rfl _ _ 22 rfl _ 55 i0 (.agg #[.int .i64 0, .int .i64 0, .int .i64 0]) 3 24 Try.underP HI0.out.1 HI0.out.2.1 HI0.out.2.2.1 HI0.out.2.2.2 rfl (by decide) _ 0 (flatP []) rfl HR.out _ n1 (flatP l1) rfl (HS1.out _ hb) HF1.out (flatP_cell1 _) (by unfold maxLen; omega) (by omega) hsz ?_; intro v' w4 hown' hgrow; have hB := hb.grown hgrow hsz (fun k hk => (HR.out.lt k hk).1); have HR1 := Lib.hid (RowP.app (l := []) (r := l1) rfl HN1.out hown'); clear hown' hgrow k1 k2))
          go_roundg 1
          case measure => omega
          case rel => exact ⟨.inr (.inl ⟨rfl, by go_num, HR1.out⟩), hB⟩
        · have hsz := hb.size
          obtain ⟨k1, k2⟩ := HK.out _ hb
          go_wp2_with (first
            | (at_builtin; refine wpList_append_src rfl _ _ 22 rfl _ 55 i0 (.agg #[.int .i64 0, .int .i64 0, .int .i64 0]) 3 24 Try.underP HI0.out.1 HI0.out.2.1 HI0.out.2.2.1 HI0.out.2.2.2 rfl (by decide) _ n1 (flatP l1) rfl (by have h := HR.out; unfold RowP at h; rw [← HN1.out] at h; exact h) _ n2 (flatP l2) rfl (HS2.out _ hb) HF2.out (flatP_cell1 _) (by unfold maxLen; omega) (by omega) hsz ?_; intro v' w4 hown' hgrow; have hB := hb.grown hgrow hsz (fun k hk => (World.ownsRow.lt HR.out k hk).1); have HR1 := Lib.hid (RowP.app (l := l1) (r := l2) HN1.out HN2.out hown'); clear hown' hgrow k1 k2))
          go_roundg 0
          case measure => omega
          case rel => exact ⟨.inr (.inr ⟨rfl, by go_num, HR1.out⟩), hB⟩
        · go_wp2
          go_ret
          exact ⟨_, rfl, HR.out, hb⟩
end Go.Proofs.Ytdoojpilogcnjaa.Pw
