/- The walk of the reference implementation's count on no portions; on portions that its caller made. Conditions: the portions are the caller's own, in increasing order of their days, at most 100, of at most a million minutes each. -/
import Derived.Test.YtjmnohbgfkohpaaZoneCount3
namespace Go.Proofs.Ytjmnohbgfkohpaa.Zn
open Go.RowKit
set_option maxHeartbeats 4000000 in
set_option maxRecDepth 100000 in
theorem rcount_nil (base : Nat) (d : Int) (w : World) (hbs : base ≤ w.heap.size) :
    Calls Try.prog 48 #[.slice none 0 0, .int .i64 d] w fun r w' => ∃ v', r = .returned v' ∧ RowP w' base v' (ins [] d) ∧ Below base w w' := by
  obtain ⟨i0, hi, hz0, hz1, hz2⟩ := info_parts Try.infoP
  have HI0 := Lib.hid (And.intro hi (And.intro hz0 (And.intro hz1 hz2)))
  clear hi hz0 hz1 hz2
  have HBS := Lib.hid hbs
  clear hbs
  go_enter Try.func48, Try.ntmps48
  go_wp2
  go_loopg [5] 0 (fun r s5 wx => r = 0 ∧ s5 = .int .i64 0 ∧ wx = w)
  case atStart => exact ⟨rfl, rfl, rfl⟩
  case round =>
    obtain ⟨h0, rfl, rfl⟩ := hrel
    cases gk with
    | succ r => omega
    | zero =>
      have HXA := Lib.hid (show ∀ w1 o, ((wr.alloc o).alloc (.cells #[.int .i64 d, .int .i64 1] 46)).drew.grownBy w1 (some wr.heap.size) → ∀ j u, ([Value.int .i64 d, .int .i64 1] : List Value)[j]? = some u → w1.cell? ((⟨wr.heap.size + 1, 0, none⟩ : Addr).add j) = some u from fun w1 o hg => World.news_of_block (cs := #[.int .i64 d, .int .i64 1]) ((hg.block (wr.heap.size + 1) (by show _ < ((wr.alloc o).alloc _).heap.size; simp) (by simp)).trans (heap_alloc2_new wr o _)))
      have HXB := Lib.hid (show ∀ w1, ((wr.alloc (.cells #[.int .i64 d, .int .i64 1] 46)).alloc (.cells #[] 46)).drew.grownBy w1 (some (wr.heap.size + 1)) → ∀ j u, ([Value.int .i64 d, .int .i64 1] : List Value)[j]? = some u → w1.cell? ((⟨wr.heap.size, 0, none⟩ : Addr).add j) = some u from fun w1 hg => World.news_of_block (cs := #[.int .i64 d, .int .i64 1]) ((hg.block wr.heap.size (by show _ < ((wr.alloc _).alloc _).heap.size; simp; omega) (by simp)).trans ((Below.heap_alloc (wr.alloc _) _ _ (by simp)).trans (heap_alloc_new wr _))))
      have HOB := Lib.hid (show ((wr.alloc (.cells #[.int .i64 d, .int .i64 1] 46)).alloc (.cells #[] 46)).ownsRow wr.heap.size 46 2 (.slice (some ⟨wr.heap.size + 1, 0, none⟩) 0 0) 0 [] by
        have h5 := World.ownsRow_made (base := wr.heap.size) (size := 2) (e := 46) (wr.alloc (.cells #[.int .i64 d, .int .i64 1] 46)) #[] 0 (Nat.le_of_lt (by simp)) (Nat.zero_le _) rfl
        have e5 : (wr.alloc (.cells #[.int .i64 d, .int .i64 1] 46)).heap.size = wr.heap.size + 1 := by simp
        rwa [e5] at h5)
      go_wp2_with fail
      go_region_law (first
    | (refine step_src (by rfl) (.tmp 44) (.tmp 47) 34 (by rfl) wr.heap.size 46 i0 (.agg #[.int .i64 0, .int .i64 0]) 2 16 Try.underP HI0.out.1 HI0.out.2.1 HI0.out.2.2.1 HI0.out.2.2.2 rfl (by decide) _ 0 [] (by rfl) (World.ownsRow.alloc (World.ownsRow_made wr #[] 0 (Nat.le_refl _) (Nat.zero_le _) rfl) _) _ 0 [] (by rfl) (Or.inl ⟨rfl, rfl, rfl⟩) rfl (by simp) (by decide) (by decide) (Nat.le_of_lt (by simp; omega)) ?_; intro v1 w1 hown1 hgrow1; have hb1 : Below wr.heap.size wr w1 := Below.grown ((alloc_below wr _).alloc (Nat.le_of_lt (by simp)) _).drew hgrow1 (Nat.le_of_lt (by simp; omega)) (fun k hk => by cases hk; exact Nat.le_refl _); have hX1 := HXA.out w1 _ hgrow1; clear hgrow1)
    | (refine step_src (by rfl) (.tmp 44) (.tmp 47) 34 (by rfl) wr.heap.size 46 i0 (.agg #[.int .i64 0, .int .i64 0]) 2 16 Try.underP HI0.out.1 HI0.out.2.1 HI0.out.2.2.1 HI0.out.2.2.2 rfl (by decide) _ 0 [] (by rfl) HOB.out _ 0 [] (by rfl) (Or.inl ⟨rfl, rfl, rfl⟩) rfl (by simp) (by decide) (by decide) (Nat.le_of_lt (by simp; omega)) ?_; intro v1 w1 hown1 hgrow1; have hb1 : Below wr.heap.size wr w1 := Below.grown ((alloc_below wr _).alloc (Nat.le_of_lt (by simp)) _).drew hgrow1 (Nat.le_of_lt (by simp; omega)) (fun k hk => by cases hk; exact Nat.le_succ _); have hX1 := HXB.out w1 hgrow1; clear hgrow1)
    | (refine step_src (by rfl) (.tmp 44) (.tmp 47) 34 (by rfl) wr.heap.size 46 i0 (.agg #[.int .i64 0, .int .i64 0]) 2 16 Try.underP HI0.out.1 HI0.out.2.1 HI0.out.2.2.1 HI0.out.2.2.2 rfl (by decide) _ 0 [] (by rfl) (World.ownsRow_made wr #[] 0 (Nat.le_refl _) (Nat.zero_le _) rfl) _ 0 [] (by rfl) (Or.inl ⟨rfl, rfl, rfl⟩) rfl (by simp) (by decide) (by decide) (Nat.le_of_lt (by simp)) ?_; intro v1 w1 hown1 hgrow1; have hb1 : Below wr.heap.size wr w1 := Below.grown (alloc_below wr _).drew hgrow1 (Nat.le_of_lt (by simp)) (fun k hk => by cases hk; exact Nat.le_refl _); clear hgrow1)
    | (refine step_src (by rfl) (.tmp 48) (.tmp 51) 34 (by rfl) wr.heap.size 46 i0 (.agg #[.int .i64 0, .int .i64 0]) 2 16 Try.underP HI0.out.1 HI0.out.2.1 HI0.out.2.2.1 HI0.out.2.2.2 rfl (by decide) _ _ _ (by rfl) hown1 _ 1 [.int .i64 d, .int .i64 1] (by rfl) (Or.inr ⟨_, _, rfl, hX1⟩) rfl two_one (by decide) (by decide) hb1.size ?_; intro v2 w2 hown2 hgrow2; have hb2 : Below wr.heap.size wr w2 := Below.grown hb1 hgrow2 hb1.size (fun k hk => (hown1.lt k hk).1); clear hgrow2)
    | (refine step_src (by rfl) (.tmp 48) (.tmp 51) 34 (by rfl) wr.heap.size 46 i0 (.agg #[.int .i64 0, .int .i64 0]) 2 16 Try.underP HI0.out.1 HI0.out.2.1 HI0.out.2.2.1 HI0.out.2.2.2 rfl (by decide) _ _ _ (by rfl) (World.ownsRow.alloc hown1 _) _ 1 [.int .i64 d, .int .i64 1] (by rfl) (Or.inr ⟨_, _, rfl, (two_cells rfl)⟩) rfl two_one (by decide) (by decide) (Nat.le_trans hb1.size (alloc_below _ _).size) ?_; intro v2 w2 hown2 hgrow2; have hb2 : Below wr.heap.size wr w2 := Below.grown (hb1.alloc hb1.size _) hgrow2 (Nat.le_trans hb1.size (alloc_below _ _).size) (fun k hk => (hown1.lt k hk).1); clear hgrow2)
    | (refine step_src (by rfl) (.tmp 52) (.tmp 55) 34 (by rfl) wr.heap.size 46 i0 (.agg #[.int .i64 0, .int .i64 0]) 2 16 Try.underP HI0.out.1 HI0.out.2.1 HI0.out.2.2.1 HI0.out.2.2.2 rfl (by decide) _ _ _ (by rfl) hown2 _ 0 [] (by rfl) (Or.inl ⟨rfl, rfl, rfl⟩) rfl (by simp) (by decide) (by decide) hb2.size ?_; intro v3 w3 hown3 hgrow3; have hb3 : Below wr.heap.size wr w3 := Below.grown hb2 hgrow3 hb2.size (fun k hk => (hown2.lt k hk).1); clear hgrow3))
      all_goals go_wp2
      all_goals go_ret
      all_goals exact ⟨_, rfl, RowP.of hown3 rfl rfl HBS.out, hb3.mono HBS.out⟩
/-- Whichever of the two. -/
theorem rcount_any (base : Nat) (v : Value) (l : List (Int × Int)) (d : Int) (w : World) (h : RowP w base v l) (hp : Ports l) (hn : l.length ≤ 100) (hm : ∀ x ∈ l, x.2 ≤ 1000000) (hbs : base ≤ w.heap.size) :
    Calls Try.prog 48 #[v, .int .i64 d] w fun r w' => ∃ v', r = .returned v' ∧ RowP w' base v' (ins l d) ∧ Below base w w' := by
  rcases h.2 with ⟨hv, h0⟩ | ⟨g, cap, cur, hv, -⟩
  · obtain rfl : l = [] := List.eq_nil_of_length_eq_zero h0
    subst hv
    exact rcount_nil base d w hbs
  · subst hv
    exact rcount_row base g l.length cap l d w h rfl hp hn hm hbs
end Go.Proofs.Ytjmnohbgfkohpaa.Zn
