/- The walk of the reference implementation's count. Conditions: the portions are the caller's own, in increasing order of their days, at most 100, of at most a million minutes each. -/
import Derived.Test.YtjmnohbgfkohpaaZoneCount2
namespace Go.Proofs.Ytjmnohbgfkohpaa.Zn
open Go.RowKit
set_option maxHeartbeats 8000000 in
set_option maxRecDepth 100000 in
theorem rcount_row (base g n cap : Nat) (l : List (Int × Int)) (d : Int) (w : World) (h : RowP w base (.slice (some ⟨g, 0, none⟩) n cap) l) (hnl : n = l.length) (hp : Ports l) (hn : n ≤ 100) (hm : ∀ x ∈ l, x.2 ≤ 1000000) (hbs : base ≤ w.heap.size) :
    Calls Try.prog 48 #[.slice (some ⟨g, 0, none⟩) n cap, .int .i64 d] w fun r w' => ∃ v', r = .returned v' ∧ RowP w' base v' (ins l d) ∧ Below base w w' := by
  obtain ⟨K, hK, hK1, hK2⟩ := place d l hp
  rw [← hnl] at hK
  have hcell : ∀ i x, l[i]? = some x → w.cell? ⟨g, i * 2, none⟩ = some (.int .i64 x.1) ∧ w.cell? ⟨g, i * 2 + 1, none⟩ = some (.int .i64 x.2) := fun i x hx => by
    obtain ⟨a, c, e, hz⟩ := h.ports
    cases e
    obtain ⟨b, o, e2, c1, c2⟩ := hz i x hx
    cases e2
    rw [Nat.zero_add] at c1 c2
    exact ⟨c1, c2⟩
  have HCE := Lib.hid hcell
  have HK1 := Lib.hid hK1
  have HK2 := Lib.hid hK2
  have HR := Lib.hid h
  have HNL := Lib.hid hnl
  have HM := Lib.hid hm
  obtain ⟨i0, hi, hz0, hz1, hz2⟩ := info_parts Try.infoP
  have HI0 := Lib.hid (And.intro hi (And.intro hz0 (And.intro hz1 hz2)))
  have HP := Lib.hid hp
  have HBG := Lib.hid (show base ≤ g by rcases h.2 with ⟨hv, _⟩ | ⟨g', cap', cur, hv, hb, _⟩
                                        · cases hv
                                        · cases hv; exact hb)
  clear hi hz0 hz1 hz2 hcell hK1 hK2 h hnl hm hp
  go_enter Try.func48, Try.ntmps48
  go_wp2
  go_loopg [5] (n - K) (fun r s5 wx => ∃ at_ : Nat, Hid (at_ = K + r) ∧ at_ ≤ n ∧ s5 = .int .i64 at_ ∧ wx = w)
  case atStart => exact ⟨n, show n = K + (n - K) by omega, Nat.le_refl _, rfl, rfl⟩
  case round =>
    obtain ⟨at_, HAT, hatn, rfl, rfl⟩ := hrel
    cases gk with
    | succ r =>
      have hpos : 0 < at_ := by have := HAT.out; omega
      obtain ⟨x, hx⟩ : ∃ x, l[at_ - 1]? = some x := ⟨_, List.getElem?_eq_getElem (by have := HNL.out; omega)⟩
      obtain ⟨c1, c2⟩ := HCE.out _ x hx
      have hge := HK2.out _ x (by have := HAT.out; omega) hx
      have hpos' : (0 : Int) < (at_ : Int) := by omega
      have hp1 : 0 ≤ (at_ : Int) - 1 := by omega
      have hp2 : (at_ : Int) - 1 < (n : Int) := by omega
      have hw := IntWalk.i64_in ((at_ : Int) - 1) (by omega)
      have hnn : ((at_ : Int) - 1).toNat = at_ - 1 := by omega
      obtain ⟨x1, x2⟩ := x
      have hge' : d ≤ x1 := hge
      clear hx hge
      go_wp2
      go_roundg r
      case measure => omega
      case rel => exact ⟨at_ - 1, show at_ - 1 = K + r by have := HAT.out; omega, by omega, by go_num, rfl⟩
    | zero =>
      have HAT0 := Lib.hid (show at_ = K by have := HAT.out; omega)
      by_cases hpos : 0 < at_
      · obtain ⟨y, hy⟩ : ∃ y, l[at_ - 1]? = some y := ⟨_, List.getElem?_eq_getElem (by have := HNL.out; omega)⟩
        obtain ⟨b1, b2⟩ := HCE.out _ y hy
        have hlt0 := HK1.out _ y (by have := HAT0.out; omega) hy
        have hpos' : (0 : Int) < (at_ : Int) := by omega
        have hp1 : 0 ≤ (at_ : Int) - 1 := by omega
        have hp2 : (at_ : Int) - 1 < (n : Int) := by omega
        have hw := IntWalk.i64_in ((at_ : Int) - 1) (by omega)
        have hnn : ((at_ : Int) - 1).toNat = at_ - 1 := by omega
        obtain ⟨y1, y2⟩ := y
        have hlt1 : ¬ d ≤ y1 := by have h5 : y1 < d := hlt0; omega
        clear hy hlt0
        have hTag : True := trivial
        by_cases hE : ∃ m, l[at_]? = some (d, m)
        · -- the day is there
          obtain ⟨m, hm⟩ := hE
          obtain ⟨c1, c2⟩ := HCE.out _ _ hm
          have hlt : (at_ : Int) < (n : Int) := by have := (List.getElem?_eq_some_iff.1 hm).1; have := HNL.out; omega
          have h0a : (0 : Int) ≤ (at_ : Int) := Int.natCast_nonneg at_
          have hmb := HM.out _ (List.mem_of_getElem? hm)
          have hmb' : m ≤ 1000000 := hmb
          have hm0 : 0 ≤ m := by have h2 := HP.out.2 _ (List.mem_of_getElem? hm); have h3 : 0 < m := h2; omega
          have hfr := HR.out.free (at_ * 2 + 1)
          have HQ := Lib.hid (RowP.bump (k := m + 1) HR.out hm)
          have HE := Lib.hid (ins_put (fun j x hj hx => HK1.out j x (by rw [← HAT0.out]; exact hj) hx) hm)
          clear hm hmb
          go_wp2
          go_ret
          exact ⟨_, rfl, by rw [HE.out]; exact HQ.out, (Below.refl _ _).setCell (HBG.out) _⟩
        · -- a new day
          have hcap : n ≤ cap := by
            rcases HR.out.2 with ⟨hv, _⟩ | ⟨g', cap', cur, hv, _, _, hc, _⟩
            · cases hv
            · cases hv; exact hc
          have hac : (at_ : Int) ≤ (cap : Int) := by omega
          have han : (at_ : Int) ≤ (n : Int) := by omega
          have h0a : (0 : Int) ≤ (at_ : Int) := Int.natCast_nonneg at_
          have HBS := Lib.hid hbs
          have HINS := Lib.hid (ins_mid (l := l) (d := d) (K := at_) (fun j x hj hx => HK1.out j x (by rw [← HAT0.out]; exact hj) hx) (fun j x hj hx => HK2.out j x (by rw [← HAT0.out]; exact hj) hx) (fun x hx e => hE ⟨x.2, by rw [hx, ← e]⟩))
          have HLP := Lib.hid (show (flat (l.take at_)).length = at_ * 2 by rw [flat_length, List.length_take]; have := HNL.out; omega)
          have HLQ := Lib.hid (show (flat (l.drop at_)).length = (n - at_) * 2 by rw [flat_length, List.length_drop, ← HNL.out])
          have HLEN := Lib.hid (show 0 + at_ + 1 + (n - at_) = (ins l d).length by rw [HINS.out, List.length_append, List.length_cons, List.length_take, List.length_drop, ← HNL.out]; omega)
          have HFL := Lib.hid (show [] ++ flat (l.take at_) ++ [Value.int .i64 d, .int .i64 1] ++ flat (l.drop at_) = flat (ins l d) by rw [HINS.out, flat_append]; show _ = _ ++ (Value.int .i64 d :: .int .i64 1 :: flat (l.drop at_)); simp)
          have HSP := Lib.hid (show ∀ w', Below wr.heap.size wr w' → ∀ u c, u = .slice (some ⟨g, 0, none⟩) at_ c → SrcAt w' u at_ (flat (l.take at_)) from fun w' k u c e => .inr ⟨_, c, e, src_part (HR.out.below k) 0 (l.take at_) (fun i x hx => by
            rw [List.getElem?_take] at hx
            split at hx
            · rw [Nat.zero_add]; exact hx
            · cases hx)⟩)
          have HXA := Lib.hid (show ∀ w1 o, ((wr.alloc o).alloc (.cells #[.int .i64 d, .int .i64 1] 46)).drew.grownBy w1 (some wr.heap.size) → ∀ j u, ([Value.int .i64 d, .int .i64 1] : List Value)[j]? = some u → w1.cell? ((⟨wr.heap.size + 1, 0, none⟩ : Addr).add j) = some u from fun w1 o hg => World.news_of_block (cs := #[.int .i64 d, .int .i64 1]) ((hg.block (wr.heap.size + 1) (by show _ < ((wr.alloc o).alloc _).heap.size; simp) (by simp)).trans (heap_alloc2_new wr o _)))
          have HXB := Lib.hid (show ∀ w1, ((wr.alloc (.cells #[.int .i64 d, .int .i64 1] 46)).alloc (.cells #[] 46)).drew.grownBy w1 (some (wr.heap.size + 1)) → ∀ j u, ([Value.int .i64 d, .int .i64 1] : List Value)[j]? = some u → w1.cell? ((⟨wr.heap.size, 0, none⟩ : Addr).add j) = some u from fun w1 hg => World.news_of_block (cs := #[.int .i64 d, .int .i64 1]) ((hg.block wr.heap.size (by show _ < ((wr.alloc _).alloc _).heap.size; simp; omega) (by simp)).trans ((Below.heap_alloc (wr.alloc _) _ _ (by simp)).trans (heap_alloc_new wr _))))
          have HOB := Lib.hid (show ((wr.alloc (.cells #[.int .i64 d, .int .i64 1] 46)).alloc (.cells #[] 46)).ownsRow wr.heap.size 46 2 (.slice (some ⟨wr.heap.size + 1, 0, none⟩) 0 0) 0 [] by
            have h5 := World.ownsRow_made (base := wr.heap.size) (size := 2) (e := 46) (wr.alloc (.cells #[.int .i64 d, .int .i64 1] 46)) #[] 0 (Nat.le_of_lt (by simp)) (Nat.zero_le _) rfl
            have e5 : (wr.alloc (.cells #[.int .i64 d, .int .i64 1] 46)).heap.size = wr.heap.size + 1 := by simp
            rwa [e5] at h5)
          by_cases hln : at_ < n
          · obtain ⟨z, hz⟩ : ∃ z, l[at_]? = some z := ⟨_, List.getElem?_eq_getElem (by have := HNL.out; omega)⟩
            obtain ⟨c1, c2⟩ := HCE.out _ z hz
            obtain ⟨z1, z2⟩ := z
            have hlt : (at_ : Int) < (n : Int) := by omega
            have hzd : (z1 == d) = false := beq_false_of_ne (fun e => hE ⟨z2, by rw [hz, e]⟩)
            have hcne : ¬ cap = at_ := by omega
            have HSQ := Lib.hid (show ∀ w', Below wr.heap.size wr w' → ∀ u c, u = .slice (some ⟨g, at_ * 2, none⟩) (n - at_) c → SrcAt w' u (n - at_) (flat (l.drop at_)) from fun w' k u c e => .inr ⟨_, c, e, src_part (HR.out.below k) at_ (l.drop at_) (fun i x hx => by rw [List.getElem?_drop] at hx; exact hx)⟩)
            clear hz hE
            go_wp2_with fail
            go_region_law (first
              | (refine step_src (by rfl) (.tmp 44) (.tmp 47) 34 (by rfl) wr.heap.size 46 i0 (.agg #[.int .i64 0, .int .i64 0]) 2 16 Try.underP HI0.out.1 HI0.out.2.1 HI0.out.2.2.1 HI0.out.2.2.2 rfl (by decide) _ 0 [] (by rfl) (World.ownsRow.alloc (World.ownsRow_made wr #[] 0 (Nat.le_refl _) (Nat.zero_le _) rfl) _) _ at_ (flat (l.take at_)) (by rfl) (HSP.out _ ((alloc_below wr _).alloc (Nat.le_of_lt (by simp)) _).drew _ _ (by rfl)) HLP.out (flat_cell1 _) (by unfold maxLen; omega) (by omega) (Nat.le_of_lt (by simp; omega)) ?_; intro v1 w1 hown1 hgrow1; have hb1 : Below wr.heap.size wr w1 := Below.grown ((alloc_below wr _).alloc (Nat.le_of_lt (by simp)) _).drew hgrow1 (Nat.le_of_lt (by simp; omega)) (fun k hk => by cases hk; exact Nat.le_refl _); have hX1 := HXA.out w1 _ hgrow1; clear hgrow1)
              | (refine step_src (by rfl) (.tmp 44) (.tmp 47) 34 (by rfl) wr.heap.size 46 i0 (.agg #[.int .i64 0, .int .i64 0]) 2 16 Try.underP HI0.out.1 HI0.out.2.1 HI0.out.2.2.1 HI0.out.2.2.2 rfl (by decide) _ 0 [] (by rfl) HOB.out _ at_ (flat (l.take at_)) (by rfl) (HSP.out _ ((alloc_below wr _).alloc (Nat.le_of_lt (by simp)) _).drew _ _ (by rfl)) HLP.out (flat_cell1 _) (by unfold maxLen; omega) (by omega) (Nat.le_of_lt (by simp; omega)) ?_; intro v1 w1 hown1 hgrow1; have hb1 : Below wr.heap.size wr w1 := Below.grown ((alloc_below wr _).alloc (Nat.le_of_lt (by simp)) _).drew hgrow1 (Nat.le_of_lt (by simp; omega)) (fun k hk => by cases hk; exact Nat.le_succ _); have hX1 := HXB.out w1 hgrow1; clear hgrow1)
              | (refine step_src (by rfl) (.tmp 44) (.tmp 47) 34 (by rfl) wr.heap.size 46 i0 (.agg #[.int .i64 0, .int .i64 0]) 2 16 Try.underP HI0.out.1 HI0.out.2.1 HI0.out.2.2.1 HI0.out.2.2.2 rfl (by decide) _ 0 [] (by rfl) (World.ownsRow_made wr #[] 0 (Nat.le_refl _) (Nat.zero_le _) rfl) _ at_ (flat (l.take at_)) (by rfl) (HSP.out _ (alloc_below wr _).drew _ _ (by rfl)) HLP.out (flat_cell1 _) (by unfold maxLen; omega) (by omega) (Nat.le_of_lt (by simp)) ?_; intro v1 w1 hown1 hgrow1; have hb1 : Below wr.heap.size wr w1 := Below.grown (alloc_below wr _).drew hgrow1 (Nat.le_of_lt (by simp)) (fun k hk => by cases hk; exact Nat.le_refl _); clear hgrow1)
              | (refine step_src (by rfl) (.tmp 48) (.tmp 51) 34 (by rfl) wr.heap.size 46 i0 (.agg #[.int .i64 0, .int .i64 0]) 2 16 Try.underP HI0.out.1 HI0.out.2.1 HI0.out.2.2.1 HI0.out.2.2.2 rfl (by decide) _ _ _ (by rfl) hown1 _ 1 [.int .i64 d, .int .i64 1] (by rfl) (Or.inr ⟨_, _, rfl, hX1⟩) rfl two_one (by unfold maxLen; omega) (by omega) hb1.size ?_; intro v2 w2 hown2 hgrow2; have hb2 : Below wr.heap.size wr w2 := Below.grown hb1 hgrow2 hb1.size (fun k hk => (hown1.lt k hk).1); clear hgrow2)
              | (refine step_src (by rfl) (.tmp 48) (.tmp 51) 34 (by rfl) wr.heap.size 46 i0 (.agg #[.int .i64 0, .int .i64 0]) 2 16 Try.underP HI0.out.1 HI0.out.2.1 HI0.out.2.2.1 HI0.out.2.2.2 rfl (by decide) _ _ _ (by rfl) (World.ownsRow.alloc hown1 _) _ 1 [.int .i64 d, .int .i64 1] (by rfl) (Or.inr ⟨_, _, rfl, (two_cells rfl)⟩) rfl two_one (by unfold maxLen; omega) (by omega) (Nat.le_trans hb1.size (alloc_below _ _).size) ?_; intro v2 w2 hown2 hgrow2; have hb2 : Below wr.heap.size wr w2 := Below.grown (hb1.alloc hb1.size _) hgrow2 (Nat.le_trans hb1.size (alloc_below _ _).size) (fun k hk => (hown1.lt k hk).1); clear hgrow2)
              | (refine step_src (by rfl) (.tmp 52) (.tmp 55) 34 (by rfl) wr.heap.size 46 i0 (.agg #[.int .i64 0, .int .i64 0]) 2 16 Try.underP HI0.out.1 HI0.out.2.1 HI0.out.2.2.1 HI0.out.2.2.2 rfl (by decide) _ _ _ (by rfl) hown2 _ (n - at_) (flat (l.drop at_)) (by rfl) (HSQ.out _ hb2 _ _ (by rfl)) HLQ.out (flat_cell1 _) (by unfold maxLen; omega) (by omega) hb2.size ?_; intro v3 w3 hown3 hgrow3; have hb3 : Below wr.heap.size wr w3 := Below.grown hb2 hgrow3 hb2.size (fun k hk => (hown2.lt k hk).1); clear hgrow3))
            all_goals go_wp2
            all_goals go_ret
            all_goals exact ⟨_, rfl, RowP.of hown3 HLEN.out HFL.out HBS.out, hb3.mono HBS.out⟩
          · have hnlt : decide ((at_ : Int) < (n : Int)) = false := decide_eq_false (by omega)
            have hvac : ∀ w' (ad : Addr) j u, (flat (l.drop at_))[j]? = some u → World.cell? w' (ad.add j) = some u := fun w' ad j u hu => by
              have h5 := (List.getElem?_eq_some_iff.1 hu).1
              rw [HLQ.out] at h5
              omega
            by_cases hce : cap = at_
            · have hn0 : n - at_ = 0 := by omega
              rw [hn0] at HLQ HLEN
              have HSQ := Lib.hid (show ∀ w', Below wr.heap.size wr w' → ∀ u c, u = .slice (some ⟨g, 0, none⟩) 0 c → SrcAt w' u 0 (flat (l.drop at_)) from fun w' k u c e => .inr ⟨_, c, e, hvac w' _⟩)
              clear hn0
              clear hvac hE hln
              have hce2 : at_ = cap := hce.symm
              clear hce
              subst hce2
              go_wp2_with fail
              go_region_law (first
                | (refine step_src (by rfl) (.tmp 44) (.tmp 47) 34 (by rfl) wr.heap.size 46 i0 (.agg #[.int .i64 0, .int .i64 0]) 2 16 Try.underP HI0.out.1 HI0.out.2.1 HI0.out.2.2.1 HI0.out.2.2.2 rfl (by decide) _ 0 [] (by rfl) (World.ownsRow.alloc (World.ownsRow_made wr #[] 0 (Nat.le_refl _) (Nat.zero_le _) rfl) _) _ at_ (flat (l.take at_)) (by rfl) (HSP.out _ ((alloc_below wr _).alloc (Nat.le_of_lt (by simp)) _).drew _ _ (by rfl)) HLP.out (flat_cell1 _) (by unfold maxLen; omega) (by omega) (Nat.le_of_lt (by simp; omega)) ?_; intro v1 w1 hown1 hgrow1; have hb1 : Below wr.heap.size wr w1 := Below.grown ((alloc_below wr _).alloc (Nat.le_of_lt (by simp)) _).drew hgrow1 (Nat.le_of_lt (by simp; omega)) (fun k hk => by cases hk; exact Nat.le_refl _); have hX1 := HXA.out w1 _ hgrow1; clear hgrow1)
                | (refine step_src (by rfl) (.tmp 44) (.tmp 47) 34 (by rfl) wr.heap.size 46 i0 (.agg #[.int .i64 0, .int .i64 0]) 2 16 Try.underP HI0.out.1 HI0.out.2.1 HI0.out.2.2.1 HI0.out.2.2.2 rfl (by decide) _ 0 [] (by rfl) HOB.out _ at_ (flat (l.take at_)) (by rfl) (HSP.out _ ((alloc_below wr _).alloc (Nat.le_of_lt (by simp)) _).drew _ _ (by rfl)) HLP.out (flat_cell1 _) (by unfold maxLen; omega) (by omega) (Nat.le_of_lt (by simp; omega)) ?_; intro v1 w1 hown1 hgrow1; have hb1 : Below wr.heap.size wr w1 := Below.grown ((alloc_below wr _).alloc (Nat.le_of_lt (by simp)) _).drew hgrow1 (Nat.le_of_lt (by simp; omega)) (fun k hk => by cases hk; exact Nat.le_succ _); have hX1 := HXB.out w1 hgrow1; clear hgrow1)
                | (refine step_src (by rfl) (.tmp 44) (.tmp 47) 34 (by rfl) wr.heap.size 46 i0 (.agg #[.int .i64 0, .int .i64 0]) 2 16 Try.underP HI0.out.1 HI0.out.2.1 HI0.out.2.2.1 HI0.out.2.2.2 rfl (by decide) _ 0 [] (by rfl) (World.ownsRow_made wr #[] 0 (Nat.le_refl _) (Nat.zero_le _) rfl) _ at_ (flat (l.take at_)) (by rfl) (HSP.out _ (alloc_below wr _).drew _ _ (by rfl)) HLP.out (flat_cell1 _) (by unfold maxLen; omega) (by omega) (Nat.le_of_lt (by simp)) ?_; intro v1 w1 hown1 hgrow1; have hb1 : Below wr.heap.size wr w1 := Below.grown (alloc_below wr _).drew hgrow1 (Nat.le_of_lt (by simp)) (fun k hk => by cases hk; exact Nat.le_refl _); clear hgrow1)
                | (refine step_src (by rfl) (.tmp 48) (.tmp 51) 34 (by rfl) wr.heap.size 46 i0 (.agg #[.int .i64 0, .int .i64 0]) 2 16 Try.underP HI0.out.1 HI0.out.2.1 HI0.out.2.2.1 HI0.out.2.2.2 rfl (by decide) _ _ _ (by rfl) hown1 _ 1 [.int .i64 d, .int .i64 1] (by rfl) (Or.inr ⟨_, _, rfl, hX1⟩) rfl two_one (by unfold maxLen; omega) (by omega) hb1.size ?_; intro v2 w2 hown2 hgrow2; have hb2 : Below wr.heap.size wr w2 := Below.grown hb1 hgrow2 hb1.size (fun k hk => (hown1.lt k hk).1); clear hgrow2)
                | (refine step_src (by rfl) (.tmp 48) (.tmp 51) 34 (by rfl) wr.heap.size 46 i0 (.agg #[.int .i64 0, .int .i64 0]) 2 16 Try.underP HI0.out.1 HI0.out.2.1 HI0.out.2.2.1 HI0.out.2.2.2 rfl (by decide) _ _ _ (by rfl) (World.ownsRow.alloc hown1 _) _ 1 [.int .i64 d, .int .i64 1] (by rfl) (Or.inr ⟨_, _, rfl, (two_cells rfl)⟩) rfl two_one (by unfold maxLen; omega) (by omega) (Nat.le_trans hb1.size (alloc_below _ _).size) ?_; intro v2 w2 hown2 hgrow2; have hb2 : Below wr.heap.size wr w2 := Below.grown (hb1.alloc hb1.size _) hgrow2 (Nat.le_trans hb1.size (alloc_below _ _).size) (fun k hk => (hown1.lt k hk).1); clear hgrow2)
                | (refine step_src (by rfl) (.tmp 52) (.tmp 55) 34 (by rfl) wr.heap.size 46 i0 (.agg #[.int .i64 0, .int .i64 0]) 2 16 Try.underP HI0.out.1 HI0.out.2.1 HI0.out.2.2.1 HI0.out.2.2.2 rfl (by decide) _ _ _ (by rfl) hown2 _ 0 (flat (l.drop at_)) (by rfl) (HSQ.out _ hb2 _ _ (by rfl)) HLQ.out (flat_cell1 _) (by unfold maxLen; omega) (by omega) hb2.size ?_; intro v3 w3 hown3 hgrow3; have hb3 : Below wr.heap.size wr w3 := Below.grown hb2 hgrow3 hb2.size (fun k hk => (hown2.lt k hk).1); clear hgrow3))
              all_goals go_wp2
              all_goals go_ret
              all_goals exact ⟨_, rfl, RowP.of hown3 HLEN.out HFL.out HBS.out, hb3.mono HBS.out⟩
            · have HSQ := Lib.hid (show ∀ w', Below wr.heap.size wr w' → ∀ u c, u = .slice (some ⟨g, at_ * 2, none⟩) (n - at_) c → SrcAt w' u (n - at_) (flat (l.drop at_)) from fun w' k u c e => .inr ⟨_, c, e, hvac w' _⟩)
              have hnltN : decide (at_ < n) = false := decide_eq_false hln
              clear hvac hE hln
              go_wp2_with fail
              go_region_law (first
                | (refine step_src (by rfl) (.tmp 44) (.tmp 47) 34 (by rfl) wr.heap.size 46 i0 (.agg #[.int .i64 0, .int .i64 0]) 2 16 Try.underP HI0.out.1 HI0.out.2.1 HI0.out.2.2.1 HI0.out.2.2.2 rfl (by decide) _ 0 [] (by rfl) (World.ownsRow.alloc (World.ownsRow_made wr #[] 0 (Nat.le_refl _) (Nat.zero_le _) rfl) _) _ at_ (flat (l.take at_)) (by rfl) (HSP.out _ ((alloc_below wr _).alloc (Nat.le_of_lt (by simp)) _).drew _ _ (by rfl)) HLP.out (flat_cell1 _) (by unfold maxLen; omega) (by omega) (Nat.le_of_lt (by simp; omega)) ?_; intro v1 w1 hown1 hgrow1; have hb1 : Below wr.heap.size wr w1 := Below.grown ((alloc_below wr _).alloc (Nat.le_of_lt (by simp)) _).drew hgrow1 (Nat.le_of_lt (by simp; omega)) (fun k hk => by cases hk; exact Nat.le_refl _); have hX1 := HXA.out w1 _ hgrow1; clear hgrow1)
                | (refine step_src (by rfl) (.tmp 44) (.tmp 47) 34 (by rfl) wr.heap.size 46 i0 (.agg #[.int .i64 0, .int .i64 0]) 2 16 Try.underP HI0.out.1 HI0.out.2.1 HI0.out.2.2.1 HI0.out.2.2.2 rfl (by decide) _ 0 [] (by rfl) HOB.out _ at_ (flat (l.take at_)) (by rfl) (HSP.out _ ((alloc_below wr _).alloc (Nat.le_of_lt (by simp)) _).drew _ _ (by rfl)) HLP.out (flat_cell1 _) (by unfold maxLen; omega) (by omega) (Nat.le_of_lt (by simp; omega)) ?_; intro v1 w1 hown1 hgrow1; have hb1 : Below wr.heap.size wr w1 := Below.grown ((alloc_below wr _).alloc (Nat.le_of_lt (by simp)) _).drew hgrow1 (Nat.le_of_lt (by simp; omega)) (fun k hk => by cases hk; exact Nat.le_succ _); have hX1 := HXB.out w1 hgrow1; clear hgrow1)
                | (refine step_src (by rfl) (.tmp 44) (.tmp 47) 34 (by rfl) wr.heap.size 46 i0 (.agg #[.int .i64 0, .int .i64 0]) 2 16 Try.underP HI0.out.1 HI0.out.2.1 HI0.out.2.2.1 HI0.out.2.2.2 rfl (by decide) _ 0 [] (by rfl) (World.ownsRow_made wr #[] 0 (Nat.le_refl _) (Nat.zero_le _) rfl) _ at_ (flat (l.take at_)) (by rfl) (HSP.out _ (alloc_below wr _).drew _ _ (by rfl)) HLP.out (flat_cell1 _) (by unfold maxLen; omega) (by omega) (Nat.le_of_lt (by simp)) ?_; intro v1 w1 hown1 hgrow1; have hb1 : Below wr.heap.size wr w1 := Below.grown (alloc_below wr _).drew hgrow1 (Nat.le_of_lt (by simp)) (fun k hk => by cases hk; exact Nat.le_refl _); clear hgrow1)
                | (refine step_src (by rfl) (.tmp 48) (.tmp 51) 34 (by rfl) wr.heap.size 46 i0 (.agg #[.int .i64 0, .int .i64 0]) 2 16 Try.underP HI0.out.1 HI0.out.2.1 HI0.out.2.2.1 HI0.out.2.2.2 rfl (by decide) _ _ _ (by rfl) hown1 _ 1 [.int .i64 d, .int .i64 1] (by rfl) (Or.inr ⟨_, _, rfl, hX1⟩) rfl two_one (by unfold maxLen; omega) (by omega) hb1.size ?_; intro v2 w2 hown2 hgrow2; have hb2 : Below wr.heap.size wr w2 := Below.grown hb1 hgrow2 hb1.size (fun k hk => (hown1.lt k hk).1); clear hgrow2)
                | (refine step_src (by rfl) (.tmp 48) (.tmp 51) 34 (by rfl) wr.heap.size 46 i0 (.agg #[.int .i64 0, .int .i64 0]) 2 16 Try.underP HI0.out.1 HI0.out.2.1 HI0.out.2.2.1 HI0.out.2.2.2 rfl (by decide) _ _ _ (by rfl) (World.ownsRow.alloc hown1 _) _ 1 [.int .i64 d, .int .i64 1] (by rfl) (Or.inr ⟨_, _, rfl, (two_cells rfl)⟩) rfl two_one (by unfold maxLen; omega) (by omega) (Nat.le_trans hb1.size (alloc_below _ _).size) ?_; intro v2 w2 hown2 hgrow2; have hb2 : Below wr.heap.size wr w2 := Below.grown (hb1.alloc hb1.size _) hgrow2 (Nat.le_trans hb1.size (alloc_below _ _).size) (fun k hk => (hown1.lt k hk).1); clear hgrow2)
                | (refine step_src (by rfl) (.tmp 52) (.tmp 55) 34 (by rfl) wr.heap.size 46 i0 (.agg #[.int .i64 0, .int .i64 0]) 2 16 Try.underP HI0.out.1 HI0.out.2.1 HI0.out.2.2.1 HI0.out.2.2.2 rfl (by decide) _ _ _ (by rfl) hown2 _ (n - at_) (flat (l.drop at_)) (by rfl) (HSQ.out _ hb2 _ _ (by rfl)) HLQ.out (flat_cell1 _) (by unfold maxLen; omega) (by omega) hb2.size ?_; intro v3 w3 hown3 hgrow3; have hb3 : Below wr.heap.size wr w3 := Below.grown hb2 hgrow3 hb2.size (fun k hk => (hown2.lt k hk).1); clear hgrow3))
              all_goals go_wp2
              all_goals go_ret
              all_goals exact ⟨_, rfl, RowP.of hown3 HLEN.out HFL.out HBS.out, hb3.mono HBS.out⟩
      · have tpos : decide ((0 : Int) < (at_ : Int)) = false := decide_eq_false (by omega)
        have hTag : True := trivial
        by_cases hE : ∃ m, l[at_]? = some (d, m)
        · -- the day is there
          obtain ⟨m, hm⟩ := hE
          obtain ⟨c1, c2⟩ := HCE.out _ _ hm
          have hlt : (at_ : Int) < (n : Int) := by have := (List.getElem?_eq_some_iff.1 hm).1; have := HNL.out; omega
          have h0a : (0 : Int) ≤ (at_ : Int) := Int.natCast_nonneg at_
          have hmb := HM.out _ (List.mem_of_getElem? hm)
          have hmb' : m ≤ 1000000 := hmb
          have hm0 : 0 ≤ m := by have h2 := HP.out.2 _ (List.mem_of_getElem? hm); have h3 : 0 < m := h2; omega
          have hfr := HR.out.free (at_ * 2 + 1)
          have HQ := Lib.hid (RowP.bump (k := m + 1) HR.out hm)
          have HE := Lib.hid (ins_put (fun j x hj hx => HK1.out j x (by rw [← HAT0.out]; exact hj) hx) hm)
          clear hm hmb
          go_wp2
          go_ret
          exact ⟨_, rfl, by rw [HE.out]; exact HQ.out, (Below.refl _ _).setCell (HBG.out) _⟩
        · -- a new day
          have hcap : n ≤ cap := by
            rcases HR.out.2 with ⟨hv, _⟩ | ⟨g', cap', cur, hv, _, _, hc, _⟩
            · cases hv
            · cases hv; exact hc
          have hac : (at_ : Int) ≤ (cap : Int) := by omega
          have han : (at_ : Int) ≤ (n : Int) := by omega
          have h0a : (0 : Int) ≤ (at_ : Int) := Int.natCast_nonneg at_
          have HBS := Lib.hid hbs
          have HINS := Lib.hid (ins_mid (l := l) (d := d) (K := at_) (fun j x hj hx => HK1.out j x (by rw [← HAT0.out]; exact hj) hx) (fun j x hj hx => HK2.out j x (by rw [← HAT0.out]; exact hj) hx) (fun x hx e => hE ⟨x.2, by rw [hx, ← e]⟩))
          have HLP := Lib.hid (show (flat (l.take at_)).length = at_ * 2 by rw [flat_length, List.length_take]; have := HNL.out; omega)
          have HLQ := Lib.hid (show (flat (l.drop at_)).length = (n - at_) * 2 by rw [flat_length, List.length_drop, ← HNL.out])
          have HLEN := Lib.hid (show 0 + at_ + 1 + (n - at_) = (ins l d).length by rw [HINS.out, List.length_append, List.length_cons, List.length_take, List.length_drop, ← HNL.out]; omega)
          have HFL := Lib.hid (show [] ++ flat (l.take at_) ++ [Value.int .i64 d, .int .i64 1] ++ flat (l.drop at_) = flat (ins l d) by rw [HINS.out, flat_append]; show _ = _ ++ (Value.int .i64 d :: .int .i64 1 :: flat (l.drop at_)); simp)
          have HSP := Lib.hid (show ∀ w', Below wr.heap.size wr w' → ∀ u c, u = .slice (some ⟨g, 0, none⟩) at_ c → SrcAt w' u at_ (flat (l.take at_)) from fun w' k u c e => .inr ⟨_, c, e, src_part (HR.out.below k) 0 (l.take at_) (fun i x hx => by
            rw [List.getElem?_take] at hx
            split at hx
            · rw [Nat.zero_add]; exact hx
            · cases hx)⟩)
          have HXA := Lib.hid (show ∀ w1 o, ((wr.alloc o).alloc (.cells #[.int .i64 d, .int .i64 1] 46)).drew.grownBy w1 (some wr.heap.size) → ∀ j u, ([Value.int .i64 d, .int .i64 1] : List Value)[j]? = some u → w1.cell? ((⟨wr.heap.size + 1, 0, none⟩ : Addr).add j) = some u from fun w1 o hg => World.news_of_block (cs := #[.int .i64 d, .int .i64 1]) ((hg.block (wr.heap.size + 1) (by show _ < ((wr.alloc o).alloc _).heap.size; simp) (by simp)).trans (heap_alloc2_new wr o _)))
          have HXB := Lib.hid (show ∀ w1, ((wr.alloc (.cells #[.int .i64 d, .int .i64 1] 46)).alloc (.cells #[] 46)).drew.grownBy w1 (some (wr.heap.size + 1)) → ∀ j u, ([Value.int .i64 d, .int .i64 1] : List Value)[j]? = some u → w1.cell? ((⟨wr.heap.size, 0, none⟩ : Addr).add j) = some u from fun w1 hg => World.news_of_block (cs := #[.int .i64 d, .int .i64 1]) ((hg.block wr.heap.size (by show _ < ((wr.alloc _).alloc _).heap.size; simp; omega) (by simp)).trans ((Below.heap_alloc (wr.alloc _) _ _ (by simp)).trans (heap_alloc_new wr _))))
          have HOB := Lib.hid (show ((wr.alloc (.cells #[.int .i64 d, .int .i64 1] 46)).alloc (.cells #[] 46)).ownsRow wr.heap.size 46 2 (.slice (some ⟨wr.heap.size + 1, 0, none⟩) 0 0) 0 [] by
            have h5 := World.ownsRow_made (base := wr.heap.size) (size := 2) (e := 46) (wr.alloc (.cells #[.int .i64 d, .int .i64 1] 46)) #[] 0 (Nat.le_of_lt (by simp)) (Nat.zero_le _) rfl
            have e5 : (wr.alloc (.cells #[.int .i64 d, .int .i64 1] 46)).heap.size = wr.heap.size + 1 := by simp
            rwa [e5] at h5)
          by_cases hln : at_ < n
          · obtain ⟨z, hz⟩ : ∃ z, l[at_]? = some z := ⟨_, List.getElem?_eq_getElem (by have := HNL.out; omega)⟩
            obtain ⟨c1, c2⟩ := HCE.out _ z hz
            obtain ⟨z1, z2⟩ := z
            have hlt : (at_ : Int) < (n : Int) := by omega
            have hzd : (z1 == d) = false := beq_false_of_ne (fun e => hE ⟨z2, by rw [hz, e]⟩)
            have hcne : ¬ cap = at_ := by omega
            have HSQ := Lib.hid (show ∀ w', Below wr.heap.size wr w' → ∀ u c, u = .slice (some ⟨g, at_ * 2, none⟩) (n - at_) c → SrcAt w' u (n - at_) (flat (l.drop at_)) from fun w' k u c e => .inr ⟨_, c, e, src_part (HR.out.below k) at_ (l.drop at_) (fun i x hx => by rw [List.getElem?_drop] at hx; exact hx)⟩)
            clear hz hE
            go_wp2_with fail
            go_region_law (first
              | (refine step_src (by rfl) (.tmp 44) (.tmp 47) 34 (by rfl) wr.heap.size 46 i0 (.agg #[.int .i64 0, .int .i64 0]) 2 16 Try.underP HI0.out.1 HI0.out.2.1 HI0.out.2.2.1 HI0.out.2.2.2 rfl (by decide) _ 0 [] (by rfl) (World.ownsRow.alloc (World.ownsRow_made wr #[] 0 (Nat.le_refl _) (Nat.zero_le _) rfl) _) _ at_ (flat (l.take at_)) (by rfl) (HSP.out _ ((alloc_below wr _).alloc (Nat.le_of_lt (by simp)) _).drew _ _ (by rfl)) HLP.out (flat_cell1 _) (by unfold maxLen; omega) (by omega) (Nat.le_of_lt (by simp; omega)) ?_; intro v1 w1 hown1 hgrow1; have hb1 : Below wr.heap.size wr w1 := Below.grown ((alloc_below wr _).alloc (Nat.le_of_lt (by simp)) _).drew hgrow1 (Nat.le_of_lt (by simp; omega)) (fun k hk => by cases hk; exact Nat.le_refl _); have hX1 := HXA.out w1 _ hgrow1; clear hgrow1)
              | (refine step_src (by rfl) (.tmp 44) (.tmp 47) 34 (by rfl) wr.heap.size 46 i0 (.agg #[.int .i64 0, .int .i64 0]) 2 16 Try.underP HI0.out.1 HI0.out.2.1 HI0.out.2.2.1 HI0.out.2.2.2 rfl (by decide) _ 0 [] (by rfl) HOB.out _ at_ (flat (l.take at_)) (by rfl) (HSP.out _ ((alloc_below wr _).alloc (Nat.le_of_lt (by simp)) _).drew _ _ (by rfl)) HLP.out (flat_cell1 _) (by unfold maxLen; omega) (by omega) (Nat.le_of_lt (by simp; omega)) ?_; intro v1 w1 hown1 hgrow1; have hb1 : Below wr.heap.size wr w1 := Below.grown ((alloc_below wr _).alloc (Nat.le_of_lt (by simp)) _).drew hgrow1 (Nat.le_of_lt (by simp; omega)) (fun k hk => by cases hk; exact Nat.le_succ _); have hX1 := HXB.out w1 hgrow1; clear hgrow1)
              | (refine step_src (by rfl) (.tmp 44) (.tmp 47) 34 (by rfl) wr.heap.size 46 i0 (.agg #[.int .i64 0, .int .i64 0]) 2 16 Try.underP HI0.out.1 HI0.out.2.1 HI0.out.2.2.1 HI0.out.2.2.2 rfl (by decide) _ 0 [] (by rfl) (World.ownsRow_made wr #[] 0 (Nat.le_refl _) (Nat.zero_le _) rfl) _ at_ (flat (l.take at_)) (by rfl) (HSP.out _ (alloc_below wr _).drew _ _ (by rfl)) HLP.out (flat_cell1 _) (by unfold maxLen; omega) (by omega) (Nat.le_of_lt (by simp)) ?_; intro v1 w1 hown1 hgrow1; have hb1 : Below wr.heap.size wr w1 := Below.grown (alloc_below wr _).drew hgrow1 (Nat.le_of_lt (by simp)) (fun k hk => by cases hk; exact Nat.le_refl _); clear hgrow1)
              | (refine step_src (by rfl) (.tmp 48) (.tmp 51) 34 (by rfl) wr.heap.size 46 i0 (.agg #[.int .i64 0, .int .i64 0]) 2 16 Try.underP HI0.out.1 HI0.out.2.1 HI0.out.2.2.1 HI0.out.2.2.2 rfl (by decide) _ _ _ (by rfl) hown1 _ 1 [.int .i64 d, .int .i64 1] (by rfl) (Or.inr ⟨_, _, rfl, hX1⟩) rfl two_one (by unfold maxLen; omega) (by omega) hb1.size ?_; intro v2 w2 hown2 hgrow2; have hb2 : Below wr.heap.size wr w2 := Below.grown hb1 hgrow2 hb1.size (fun k hk => (hown1.lt k hk).1); clear hgrow2)
              | (refine step_src (by rfl) (.tmp 48) (.tmp 51) 34 (by rfl) wr.heap.size 46 i0 (.agg #[.int .i64 0, .int .i64 0]) 2 16 Try.underP HI0.out.1 HI0.out.2.1 HI0.out.2.2.1 HI0.out.2.2.2 rfl (by decide) _ _ _ (by rfl) (World.ownsRow.alloc hown1 _) _ 1 [.int .i64 d, .int .i64 1] (by rfl) (Or.inr ⟨_, _, rfl, (two_cells rfl)⟩) rfl two_one (by unfold maxLen; omega) (by omega) (Nat.le_trans hb1.size (alloc_below _ _).size) ?_; intro v2 w2 hown2 hgrow2; have hb2 : Below wr.heap.size wr w2 := Below.grown (hb1.alloc hb1.size _) hgrow2 (Nat.le_trans hb1.size (alloc_below _ _).size) (fun k hk => (hown1.lt k hk).1); clear hgrow2)
              | (refine step_src (by rfl) (.tmp 52) (.tmp 55) 34 (by rfl) wr.heap.size 46 i0 (.agg #[.int .i64 0, .int .i64 0]) 2 16 Try.underP HI0.out.1 HI0.out.2.1 HI0.out.2.2.1 HI0.out.2.2.2 rfl (by decide) _ _ _ (by rfl) hown2 _ (n - at_) (flat (l.drop at_)) (by rfl) (HSQ.out _ hb2 _ _ (by rfl)) HLQ.out (flat_cell1 _) (by unfold maxLen; omega) (by omega) hb2.size ?_; intro v3 w3 hown3 hgrow3; have hb3 : Below wr.heap.size wr w3 := Below.grown hb2 hgrow3 hb2.size (fun k hk => (hown2.lt k hk).1); clear hgrow3))
            all_goals go_wp2
            all_goals go_ret
            all_goals exact ⟨_, rfl, RowP.of hown3 HLEN.out HFL.out HBS.out, hb3.mono HBS.out⟩
          · have hnlt : decide ((at_ : Int) < (n : Int)) = false := decide_eq_false (by omega)
            have hvac : ∀ w' (ad : Addr) j u, (flat (l.drop at_))[j]? = some u → World.cell? w' (ad.add j) = some u := fun w' ad j u hu => by
              have h5 := (List.getElem?_eq_some_iff.1 hu).1
              rw [HLQ.out] at h5
              omega
            by_cases hce : cap = at_
            · have hn0 : n - at_ = 0 := by omega
              rw [hn0] at HLQ HLEN
              have HSQ := Lib.hid (show ∀ w', Below wr.heap.size wr w' → ∀ u c, u = .slice (some ⟨g, 0, none⟩) 0 c → SrcAt w' u 0 (flat (l.drop at_)) from fun w' k u c e => .inr ⟨_, c, e, hvac w' _⟩)
              clear hn0
              clear hvac hE hln
              have hce2 : at_ = cap := hce.symm
              clear hce
              subst hce2
              go_wp2_with fail
              go_region_law (first
                | (refine step_src (by rfl) (.tmp 44) (.tmp 47) 34 (by rfl) wr.heap.size 46 i0 (.agg #[.int .i64 0, .int .i64 0]) 2 16 Try.underP HI0.out.1 HI0.out.2.1 HI0.out.2.2.1 HI0.out.2.2.2 rfl (by decide) _ 0 [] (by rfl) (World.ownsRow.alloc (World.ownsRow_made wr #[] 0 (Nat.le_refl _) (Nat.zero_le _) rfl) _) _ at_ (flat (l.take at_)) (by rfl) (HSP.out _ ((alloc_below wr _).alloc (Nat.le_of_lt (by simp)) _).drew _ _ (by rfl)) HLP.out (flat_cell1 _) (by unfold maxLen; omega) (by omega) (Nat.le_of_lt (by simp; omega)) ?_; intro v1 w1 hown1 hgrow1; have hb1 : Below wr.heap.size wr w1 := Below.grown ((alloc_below wr _).alloc (Nat.le_of_lt (by simp)) _).drew hgrow1 (Nat.le_of_lt (by simp; omega)) (fun k hk => by cases hk; exact Nat.le_refl _); have hX1 := HXA.out w1 _ hgrow1; clear hgrow1)
                | (refine step_src (by rfl) (.tmp 44) (.tmp 47) 34 (by rfl) wr.heap.size 46 i0 (.agg #[.int .i64 0, .int .i64 0]) 2 16 Try.underP HI0.out.1 HI0.out.2.1 HI0.out.2.2.1 HI0.out.2.2.2 rfl (by decide) _ 0 [] (by rfl) HOB.out _ at_ (flat (l.take at_)) (by rfl) (HSP.out _ ((alloc_below wr _).alloc (Nat.le_of_lt (by simp)) _).drew _ _ (by rfl)) HLP.out (flat_cell1 _) (by unfold maxLen; omega) (by omega) (Nat.le_of_lt (by simp; omega)) ?_; intro v1 w1 hown1 hgrow1; have hb1 : Below wr.heap.size wr w1 := Below.grown ((alloc_below wr _).alloc (Nat.le_of_lt (by simp)) _).drew hgrow1 (Nat.le_of_lt (by simp; omega)) (fun k hk => by cases hk; exact Nat.le_succ _); have hX1 := HXB.out w1 hgrow1; clear hgrow1)
                | (refine step_src (by rfl) (.tmp 44) (.tmp 47) 34 (by rfl) wr.heap.size 46 i0 (.agg #[.int .i64 0, .int .i64 0]) 2 16 Try.underP HI0.out.1 HI0.out.2.1 HI0.out.2.2.1 HI0.out.2.2.2 rfl (by decide) _ 0 [] (by rfl) (World.ownsRow_made wr #[] 0 (Nat.le_refl _) (Nat.zero_le _) rfl) _ at_ (flat (l.take at_)) (by rfl) (HSP.out _ (alloc_below wr _).drew _ _ (by rfl)) HLP.out (flat_cell1 _) (by unfold maxLen; omega) (by omega) (Nat.le_of_lt (by simp)) ?_; intro v1 w1 hown1 hgrow1; have hb1 : Below wr.heap.size wr w1 := Below.grown (alloc_below wr _).drew hgrow1 (Nat.le_of_lt (by simp)) (fun k hk => by cases hk; exact Nat.le_refl _); clear hgrow1)
                | (refine step_src (by rfl) (.tmp 48) (.tmp 51) 34 (by rfl) wr.heap.size 46 i0 (.agg #[.int .i64 0, .int .i64 0]) 2 16 Try.underP HI0.out.1 HI0.out.2.1 HI0.out.2.2.1 HI0.out.2.2.2 rfl (by decide) _ _ _ (by rfl) hown1 _ 1 [.int .i64 d, .int .i64 1] (by rfl) (Or.inr ⟨_, _, rfl, hX1⟩) rfl two_one (by unfold maxLen; omega) (by omega) hb1.size ?_; intro v2 w2 hown2 hgrow2; have hb2 : Below wr.heap.size wr w2 := Below.grown hb1 hgrow2 hb1.size (fun k hk => (hown1.lt k hk).1); clear hgrow2)
                | (refine step_src (by rfl) (.tmp 48) (.tmp 51) 34 (by rfl) wr.heap.size 46 i0 (.agg #[.int .i64 0, .int .i64 0]) 2 16 Try.underP HI0.out.1 HI0.out.2.1 HI0.out.2.2.1 HI0.out.2.2.2 rfl (by decide) _ _ _ (by rfl) (World.ownsRow.alloc hown1 _) _ 1 [.int .i64 d, .int .i64 1] (by rfl) (Or.inr ⟨_, _, rfl, (two_cells rfl)⟩) rfl two_one (by unfold maxLen; omega) (by omega) (Nat.le_trans hb1.size (alloc_below _ _).size) ?_; intro v2 w2 hown2 hgrow2; have hb2 : Below wr.heap.size wr w2 := Below.grown (hb1.alloc hb1.size _) hgrow2 (Nat.le_trans hb1.size (alloc_below _ _).size) (fun k hk => (hown1.lt k hk).1); clear hgrow2)
                | (refine step_src (by rfl) (.tmp 52) (.tmp 55) 34 (by rfl) wr.heap.size 46 i0 (.agg #[.int .i64 0, .int .i64 0]) 2 16 Try.underP HI0.out.1 HI0.out.2.1 HI0.out.2.2.1 HI0.out.2.2.2 rfl (by decide) _ _ _ (by rfl) hown2 _ 0 (flat (l.drop at_)) (by rfl) (HSQ.out _ hb2 _ _ (by rfl)) HLQ.out (flat_cell1 _) (by unfold maxLen; omega) (by omega) hb2.size ?_; intro v3 w3 hown3 hgrow3; have hb3 : Below wr.heap.size wr w3 := Below.grown hb2 hgrow3 hb2.size (fun k hk => (hown2.lt k hk).1); clear hgrow3))
              all_goals go_wp2
              all_goals go_ret
              all_goals exact ⟨_, rfl, RowP.of hown3 HLEN.out HFL.out HBS.out, hb3.mono HBS.out⟩
            · have HSQ := Lib.hid (show ∀ w', Below wr.heap.size wr w' → ∀ u c, u = .slice (some ⟨g, at_ * 2, none⟩) (n - at_) c → SrcAt w' u (n - at_) (flat (l.drop at_)) from fun w' k u c e => .inr ⟨_, c, e, hvac w' _⟩)
              have hnltN : decide (at_ < n) = false := decide_eq_false hln
              clear hvac hE hln
              go_wp2_with fail
              go_region_law (first
                | (refine step_src (by rfl) (.tmp 44) (.tmp 47) 34 (by rfl) wr.heap.size 46 i0 (.agg #[.int .i64 0, .int .i64 0]) 2 16 Try.underP HI0.out.1 HI0.out.2.1 HI0.out.2.2.1 HI0.out.2.2.2 rfl (by decide) _ 0 [] (by rfl) (World.ownsRow.alloc (World.ownsRow_made wr #[] 0 (Nat.le_refl _) (Nat.zero_le _) rfl) _) _ at_ (flat (l.take at_)) (by rfl) (HSP.out _ ((alloc_below wr _).alloc (Nat.le_of_lt (by simp)) _).drew _ _ (by rfl)) HLP.out (flat_cell1 _) (by unfold maxLen; omega) (by omega) (Nat.le_of_lt (by simp; omega)) ?_; intro v1 w1 hown1 hgrow1; have hb1 : Below wr.heap.size wr w1 := Below.grown ((alloc_below wr _).alloc (Nat.le_of_lt (by simp)) _).drew hgrow1 (Nat.le_of_lt (by simp; omega)) (fun k hk => by cases hk; exact Nat.le_refl _); have hX1 := HXA.out w1 _ hgrow1; clear hgrow1)
                | (refine step_src (by rfl) (.tmp 44) (.tmp 47) 34 (by rfl) wr.heap.size 46 i0 (.agg #[.int .i64 0, .int .i64 0]) 2 16 Try.underP HI0.out.1 HI0.out.2.1 HI0.out.2.2.1 HI0.out.2.2.2 rfl (by decide) _ 0 [] (by rfl) HOB.out _ at_ (flat (l.take at_)) (by rfl) (HSP.out _ ((alloc_below wr _).alloc (Nat.le_of_lt (by simp)) _).drew _ _ (by rfl)) HLP.out (flat_cell1 _) (by unfold maxLen; omega) (by omega) (Nat.le_of_lt (by simp; omega)) ?_; intro v1 w1 hown1 hgrow1; have hb1 : Below wr.heap.size wr w1 := Below.grown ((alloc_below wr _).alloc (Nat.le_of_lt (by simp)) _).drew hgrow1 (Nat.le_of_lt (by simp; omega)) (fun k hk => by cases hk; exact Nat.le_succ _); have hX1 := HXB.out w1 hgrow1; clear hgrow1)
                | (refine step_src (by rfl) (.tmp 44) (.tmp 47) 34 (by rfl) wr.heap.size 46 i0 (.agg #[.int .i64 0, .int .i64 0]) 2 16 Try.underP HI0.out.1 HI0.out.2.1 HI0.out.2.2.1 HI0.out.2.2.2 rfl (by decide) _ 0 [] (by rfl) (World.ownsRow_made wr #[] 0 (Nat.le_refl _) (Nat.zero_le _) rfl) _ at_ (flat (l.take at_)) (by rfl) (HSP.out _ (alloc_below wr _).drew _ _ (by rfl)) HLP.out (flat_cell1 _) (by unfold maxLen; omega) (by omega) (Nat.le_of_lt (by simp)) ?_; intro v1 w1 hown1 hgrow1; have hb1 : Below wr.heap.size wr w1 := Below.grown (alloc_below wr _).drew hgrow1 (Nat.le_of_lt (by simp)) (fun k hk => by cases hk; exact Nat.le_refl _); clear hgrow1)
                | (refine step_src (by rfl) (.tmp 48) (.tmp 51) 34 (by rfl) wr.heap.size 46 i0 (.agg #[.int .i64 0, .int .i64 0]) 2 16 Try.underP HI0.out.1 HI0.out.2.1 HI0.out.2.2.1 HI0.out.2.2.2 rfl (by decide) _ _ _ (by rfl) hown1 _ 1 [.int .i64 d, .int .i64 1] (by rfl) (Or.inr ⟨_, _, rfl, hX1⟩) rfl two_one (by unfold maxLen; omega) (by omega) hb1.size ?_; intro v2 w2 hown2 hgrow2; have hb2 : Below wr.heap.size wr w2 := Below.grown hb1 hgrow2 hb1.size (fun k hk => (hown1.lt k hk).1); clear hgrow2)
                | (refine step_src (by rfl) (.tmp 48) (.tmp 51) 34 (by rfl) wr.heap.size 46 i0 (.agg #[.int .i64 0, .int .i64 0]) 2 16 Try.underP HI0.out.1 HI0.out.2.1 HI0.out.2.2.1 HI0.out.2.2.2 rfl (by decide) _ _ _ (by rfl) (World.ownsRow.alloc hown1 _) _ 1 [.int .i64 d, .int .i64 1] (by rfl) (Or.inr ⟨_, _, rfl, (two_cells rfl)⟩) rfl two_one (by unfold maxLen; omega) (by omega) (Nat.le_trans hb1.size (alloc_below _ _).size) ?_; intro v2 w2 hown2 hgrow2; have hb2 : Below wr.heap.size wr w2 := Below.grown (hb1.alloc hb1.size _) hgrow2 (Nat.le_trans hb1.size (alloc_below _ _).size) (fun k hk => (hown1.lt k hk).1); clear hgrow2)
                | (refine step_src (by rfl) (.tmp 52) (.tmp 55) 34 (by rfl) wr.heap.size 46 i0 (.agg #[.int .i64 0, .int .i64 0]) 2 16 Try.underP HI0.out.1 HI0.out.2.1 HI0.out.2.2.1 HI0.out.2.2.2 rfl (by decide) _ _ _ (by rfl) hown2 _ (n - at_) (flat (l.drop at_)) (by rfl) (HSQ.out _ hb2 _ _ (by rfl)) HLQ.out (flat_cell1 _) (by unfold maxLen; omega) (by omega) hb2.size ?_; intro v3 w3 hown3 hgrow3; have hb3 : Below wr.heap.size wr w3 := Below.grown hb2 hgrow3 hb2.size (fun k hk => (hown2.lt k hk).1); clear hgrow3))
              all_goals go_wp2
              all_goals go_ret
              all_goals exact ⟨_, rfl, RowP.of hown3 HLEN.out HFL.out HBS.out, hb3.mono HBS.out⟩
end Go.Proofs.Ytjmnohbgfkohpaa.Zn
