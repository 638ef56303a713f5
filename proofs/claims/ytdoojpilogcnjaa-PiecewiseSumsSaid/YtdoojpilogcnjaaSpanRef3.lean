/- What the reference implementation's merge and sorted of spans return. Conditions: the lists lie in memory as the arguments say; they are short. -/
import Derived.Test.YtdoojpilogcnjaaSpanRef
import Derived.Deep.RegionHeld3
import Derived.Deep.Cut
import Derived.Test.YtdoojpilogcnjaaSpanMath4
set_option linter.unusedVariables false
set_option linter.unusedSimpArgs false
namespace Go.Proofs.Ytdoojpilogcnjaa.Sp
open Go.RowKit
theorem drop_at {xs : List Sn} {i : Nat} {x : Sn} (h : xs[i]? = some x) : xs.drop i = x :: xs.drop (i + 1) := by
  obtain ⟨h1, he⟩ := List.getElem?_eq_some_iff.1 h
  rw [List.drop_eq_getElem_cons h1, he]
/-- The loop of merge, a round each. -/
def MgAt (xs ys acc : List Sn) (i k : Nat) : Prop := mg xs ys = acc ++ mg (xs.drop i) (ys.drop k) ∧ acc.length = i + k
theorem MgAt.start (xs ys : List Sn) : MgAt xs ys [] 0 0 := ⟨rfl, rfl⟩
theorem MgAt.left {xs ys acc : List Sn} {i k : Nat} {x : Sn} (h : MgAt xs ys acc i k) (hx : xs[i]? = some x) (hy : ∀ y, ys[k]? = some y → x.1 ≤ y.1) : MgAt xs ys (acc ++ [(x.1, x.2)]) (i + 1) k := by
  refine ⟨?_, by rw [List.length_append, h.2]; show i + k + 1 = _; omega⟩
  rw [h.1, drop_at hx, List.append_assoc]
  congr 1
  cases hk : ys.drop k with
  | nil => rw [mg_nil2, mg_nil2]; rfl
  | cons y r =>
    rw [mg_left (hy y (by have := congrArg (fun l => l[0]?) hk; simpa using this))]
    rfl
theorem MgAt.right {xs ys acc : List Sn} {i k : Nat} {y : Sn} (h : MgAt xs ys acc i k) (hy : ys[k]? = some y) (hx : ∀ x, xs[i]? = some x → ¬ x.1 ≤ y.1) : MgAt xs ys (acc ++ [(y.1, y.2)]) i (k + 1) := by
  refine ⟨?_, by rw [List.length_append, h.2]; show i + k + 1 = _; omega⟩
  rw [h.1, drop_at hy, List.append_assoc]
  congr 1
  cases hi : xs.drop i with
  | nil => rw [mg_nil, mg_nil]; rfl
  | cons x l =>
    rw [mg_right (hx x (by have := congrArg (fun l => l[0]?) hi; simpa using this))]
    rfl
theorem MgAt.done {xs ys acc : List Sn} {i k : Nat} (h : MgAt xs ys acc i k) (hi : xs.length ≤ i) (hk : ys.length ≤ k) : acc = mg xs ys := by
  rw [h.1, List.drop_eq_nil_of_le hi, List.drop_eq_nil_of_le hk, mg_nil, List.append_nil]
set_option maxHeartbeats 8000000 in
set_option maxRecDepth 100000 in
theorem rmerge_any (a1 a2 : Option Addr) (c1 c2 : Nat) (xs ys : List Sn) (w : World) (hn : xs.length ≤ 1000) (hm : ys.length ≤ 1000) (z1 : SpansAt a1 xs w) (z2 : SpansAt a2 ys w) :
    Calls Try.prog 66 #[.slice a1 xs.length c1, .slice a2 ys.length c2] w fun r w' => ∃ v, r = .returned v ∧ RowS w' w.heap.size v (mg xs ys) ∧ Below w.heap.size w w' := by
  have HZ1 := Lib.hid (fun w' (k : Below w.heap.size w w') => z1.below k)
  have HZ2 := Lib.hid (fun w' (k : Below w.heap.size w w') => z2.below k)
  obtain ⟨n, hn'⟩ : ∃ n, n = xs.length := ⟨_, rfl⟩
  obtain ⟨m, hm'⟩ : ∃ m, m = ys.length := ⟨_, rfl⟩
  rw [← hn'] at hn ⊢
  rw [← hm'] at hm ⊢
  have HN := Lib.hid hn'
  have HM := Lib.hid hm'
  clear hn' hm' z1 z2
  obtain ⟨i0, hi, hz0, hz1, hz2⟩ := info_parts Try.infoS
  have HI0 := Lib.hid (And.intro hi (And.intro hz0 (And.intro hz1 hz2)))
  clear hi hz0 hz1 hz2
  go_enter Try.func66, Try.ntmps66
  go_wp2
  go_loopg [5, 6, 7] (n + m) (fun g s5 s6 s7 wx => ∃ (i k : Nat) (acc : List Sn), (i ≤ n ∧ k ≤ m ∧ i + k + g = n + m) ∧ s6 = .int .i64 i ∧ s7 = .int .i64 k ∧ Hid (MgAt xs ys acc i k) ∧ Hid (RowS wx w.heap.size s5 acc) ∧ Below w.heap.size w wx)
  case atStart => exact ⟨0, 0, [], by omega, rfl, rfl, MgAt.start xs ys, RowS.nil _ _, Below.refl _ _⟩
  case round =>
    obtain ⟨i, k, acc, ⟨hi, hk, hg⟩, rfl, rfl, HS, HR, hb⟩ := hrel
    have hal := HS.out.2
    have hsz := hb.size
    by_cases hin : i = n
    · subst hin
      by_cases hkm : k = m
      · subst hkm
        obtain rfl : gk = 0 := by omega
        clear hi hk hg
        go_wp2
        go_ret
        exact ⟨_, rfl, by rw [← HS.out.done (by have := HN.out; omega) (by have := HM.out; omega)]; exact HR.out, hb⟩
      · cases gk with
        | zero => exact absurd hg (by omega)
        | succ g =>
          have hklt : (k : Int) < (m : Int) := by omega
          have e3 : ((k : Int) == (m : Int)) = false := beq_false_of_ne (by omega)
          have e5 : decide ((i : Int) < (i : Int)) = false := decide_eq_false (by omega)
          clear hkm
          obtain ⟨y, hy⟩ : ∃ y, ys[k]? = some y := ⟨_, List.getElem?_eq_getElem (by have := HM.out; omega)⟩
          obtain ⟨b2, o2, rfl, h2, h2'⟩ := HZ2.out _ hb k y hy
          obtain ⟨y1, y2⟩ := y
          have HS' := Lib.hid (HS.out.right hy (fun x hx => by have := (List.getElem?_eq_some_iff.1 hx).1; have := HN.out; omega))
          clear hy HS
          have HRN := Lib.hid (fun j => RowS.below HR.out (below_drewN (Below.refl _ _) j))
          have HBN := Lib.hid (fun j => below_drewN hb j)
          clear HR
          go_wp2_with fail
          go_quiet (fail)
          go_wp2_with (first
            | (at_builtin; refine wpList_append_own _ rfl _ _ 34 rfl w.heap.size 50 i0 (.agg #[.int .i64 0, .int .i64 0]) 2 16 Try.underS HI0.out.1 HI0.out.2.1 HI0.out.2.2.1 HI0.out.2.2.2 rfl (by decide) _ _ _ rfl (World.ownsRow.alloc (HRN.out _) _) _ 1 1 [.int .i64 y1, .int .i64 y2] rfl rfl (two_cells rfl) two_one ?c3 ?c4 ?c5 ?_))
          case c3 => unfold maxLen; omega
          case c4 => omega
          case c5 => have := (HBN.out 0).size; simp; omega
          intro v' w1 hown' hgrow _
          have hB := row_grown (HBN.out _) (HBN.out _).size (World.ownsRow.alloc (HRN.out _) _) hgrow (Nat.le_refl _)
          have HR1 := Lib.hid (RowS.push (l := acc) (by rw [hal]; exact hown'))
          clear hown' hgrow
          go_wp2
          go_roundg g
          case measure => omega
          case rel => exact ⟨i, k + 1, acc ++ [(y1, y2)], by omega, by go_num, by go_num, HS'.out, HR1.out, hB⟩
    · cases gk with
      | zero => exact absurd hg (by omega)
      | succ g =>
        have hilt : (i : Int) < (n : Int) := by omega
        have e1 : ((i : Int) == (n : Int)) = false := beq_false_of_ne (by omega)
        clear hin
        obtain ⟨x, hx⟩ : ∃ x, xs[i]? = some x := ⟨_, List.getElem?_eq_getElem (by have := HN.out; omega)⟩
        obtain ⟨b1, o1, rfl, h1, h1'⟩ := HZ1.out _ hb i x hx
        obtain ⟨x1, x2⟩ := x
        by_cases hkm : k = m
        · subst hkm
          have e4 : ((k : Int) == (k : Int)) = true := beq_self_eq_true _
          have HS' := Lib.hid (HS.out.left hx (fun y hy => by have := (List.getElem?_eq_some_iff.1 hy).1; have := HM.out; omega))
          clear hx HS
          have HRN := Lib.hid (fun j => RowS.below HR.out (below_drewN (Below.refl _ _) j))
          have HBN := Lib.hid (fun j => below_drewN hb j)
          clear HR
          go_wp2_with fail
          go_quiet (fail)
          go_wp2_with (first
            | (at_builtin; refine wpList_append_own _ rfl _ _ 34 rfl w.heap.size 50 i0 (.agg #[.int .i64 0, .int .i64 0]) 2 16 Try.underS HI0.out.1 HI0.out.2.1 HI0.out.2.2.1 HI0.out.2.2.2 rfl (by decide) _ _ _ rfl (World.ownsRow.alloc (HRN.out _) _) _ 1 1 [.int .i64 x1, .int .i64 x2] rfl rfl (two_cells rfl) two_one ?c3 ?c4 ?c5 ?_))
          case c3 => unfold maxLen; omega
          case c4 => omega
          case c5 => have := (HBN.out 0).size; simp; omega
          intro v' w1 hown' hgrow _
          have hB := row_grown (HBN.out _) (HBN.out _).size (World.ownsRow.alloc (HRN.out _) _) hgrow (Nat.le_refl _)
          have HR1 := Lib.hid (RowS.push (l := acc) (by rw [hal]; exact hown'))
          clear hown' hgrow
          go_wp2
          go_roundg g
          case measure => omega
          case rel => exact ⟨i + 1, k, acc ++ [(x1, x2)], by omega, by go_num, by go_num, HS'.out, HR1.out, hB⟩
        · have hklt : (k : Int) < (m : Int) := by omega
          have e3 : ((k : Int) == (m : Int)) = false := beq_false_of_ne (by omega)
          clear hkm
          obtain ⟨y, hy⟩ : ∃ y, ys[k]? = some y := ⟨_, List.getElem?_eq_getElem (by have := HM.out; omega)⟩
          obtain ⟨b2, o2, rfl, h2, h2'⟩ := HZ2.out _ hb k y hy
          obtain ⟨y1, y2⟩ := y
          by_cases hxy : x1 ≤ y1
          · have HS' := Lib.hid (HS.out.left hx (fun y hy' => by rw [hy] at hy'; obtain rfl := Option.some.inj hy'; exact hxy))
            clear hx hy HS
            have HRN := Lib.hid (fun j => RowS.below HR.out (below_drewN (Below.refl _ _) j))
            have HBN := Lib.hid (fun j => below_drewN hb j)
            clear HR
            go_wp2_with fail
            go_quiet (fail)
            go_wp2_with (first
              | (at_builtin; refine wpList_append_own _ rfl _ _ 34 rfl w.heap.size 50 i0 (.agg #[.int .i64 0, .int .i64 0]) 2 16 Try.underS HI0.out.1 HI0.out.2.1 HI0.out.2.2.1 HI0.out.2.2.2 rfl (by decide) _ _ _ rfl (World.ownsRow.alloc (HRN.out _) _) _ 1 1 [.int .i64 x1, .int .i64 x2] rfl rfl (two_cells rfl) two_one ?c3 ?c4 ?c5 ?_))
            case c3 => unfold maxLen; omega
            case c4 => omega
            case c5 => have := (HBN.out 0).size; simp; omega
            intro v' w1 hown' hgrow _
            have hB := row_grown (HBN.out _) (HBN.out _).size (World.ownsRow.alloc (HRN.out _) _) hgrow (Nat.le_refl _)
            have HR1 := Lib.hid (RowS.push (l := acc) (by rw [hal]; exact hown'))
            clear hown' hgrow
            go_wp2
            go_roundg g
            case measure => omega
            case rel => exact ⟨i + 1, k, acc ++ [(x1, x2)], by omega, by go_num, by go_num, HS'.out, HR1.out, hB⟩
          · have HS' := Lib.hid (HS.out.right hy (fun x hx' => by rw [hx] at hx'; obtain rfl := Option.some.inj hx'; exact hxy))
            clear hx hy HS
            have HRN := Lib.hid (fun j => RowS.below HR.out (below_drewN (Below.refl _ _) j))
            have HBN := Lib.hid (fun j => below_drewN hb j)
            clear HR
            go_wp2_with fail
            go_quiet (fail)
            go_wp2_with (first
              | (at_builtin; refine wpList_append_own _ rfl _ _ 34 rfl w.heap.size 50 i0 (.agg #[.int .i64 0, .int .i64 0]) 2 16 Try.underS HI0.out.1 HI0.out.2.1 HI0.out.2.2.1 HI0.out.2.2.2 rfl (by decide) _ _ _ rfl (World.ownsRow.alloc (HRN.out _) _) _ 1 1 [.int .i64 y1, .int .i64 y2] rfl rfl (two_cells rfl) two_one ?c3 ?c4 ?c5 ?_))
            case c3 => unfold maxLen; omega
            case c4 => omega
            case c5 => have := (HBN.out 0).size; simp; omega
            intro v' w1 hown' hgrow _
            have hB := row_grown (HBN.out _) (HBN.out _).size (World.ownsRow.alloc (HRN.out _) _) hgrow (Nat.le_refl _)
            have HR1 := Lib.hid (RowS.push (l := acc) (by rw [hal]; exact hown'))
            clear hown' hgrow
            go_wp2
            go_roundg g
            case measure => omega
            case rel => exact ⟨i, k + 1, acc ++ [(y1, y2)], by omega, by go_num, by go_num, HS'.out, HR1.out, hB⟩
theorem asc_small {l : List Sn} (h : l.length < 2) : Asc l := by
  match l, h with
  | [], _ => exact List.Pairwise.nil
  | [x], _ => exact List.pairwise_singleton _ _
  | x :: y :: r, h => simp at h; omega
set_option maxHeartbeats 4000000 in
set_option maxRecDepth 100000 in
theorem rsorted_at : ∀ (N : Nat) (a : Option Addr) (c : Nat) (l : List Sn) (w : World), l.length ≤ N → l.length ≤ 1000 → l.length ≤ c → SpansAt a l w →
    Calls Try.prog 59 #[.slice a l.length c] w fun r w' => ∃ a' c', ∃ s : List Sn, r = .returned (.slice a' s.length c') ∧ SpansAt a' s w' ∧ s.length = l.length ∧ (∀ x, x ∈ s ↔ x ∈ l) ∧ Asc s ∧ Below w.heap.size w w' := by
  intro N
  induction N with
  | zero =>
    intro a c l w h0 _ hc z
    have hl : l = [] := List.eq_nil_of_length_eq_zero (by omega)
    subst hl
    have HZ := Lib.hid z
    clear h0 z
    show Calls _ _ #[.slice a 0 c] w _
    go_enter Try.func59, Try.ntmps59
    go_wp2
    go_ret
    exact ⟨a, c, [], rfl, HZ.out, rfl, fun x => Iff.rfl, List.Pairwise.nil, Below.refl _ _⟩
  | succ N ih =>
    intro a c l w hN hl hc z
    by_cases h2 : l.length < 2
    · have HZ := Lib.hid z
      have HA := Lib.hid (asc_small h2)
      obtain ⟨n, hn⟩ : ∃ n, n = l.length := ⟨_, rfl⟩
      rw [← hn] at h2 hl hc ⊢
      have HN := Lib.hid hn
      have h2' : (n : Int) < 2 := by omega
      clear hn z ih hN
      go_enter Try.func59, Try.ntmps59
      go_wp2
      go_ret
      exact ⟨a, c, l, by rw [← HN.out]; rfl, HZ.out, HN.out.symm, fun x => Iff.rfl, HA.out, Below.refl _ _⟩
    · obtain ⟨x0, hx0⟩ : ∃ x, l[0]? = some x := ⟨_, List.getElem?_eq_getElem (by omega)⟩
      obtain ⟨bb, off, rfl, -, -⟩ := z 0 x0 hx0
      clear hx0 x0
      obtain ⟨n, hn⟩ : ∃ n, n = l.length := ⟨_, rfl⟩
      obtain ⟨k, hk⟩ : ∃ k, k = n / 2 := ⟨_, rfl⟩
      have hk0 : 0 < k := by omega
      have hkn : k < n := by omega
      have IH := Lib.hid ih
      have HZ := Lib.hid (fun w' (k : Below w.heap.size w w') => z.below k)
      rw [← hn] at h2 hl hc hN ⊢
      have HN := Lib.hid hn
      have HK := Lib.hid hk
      clear hn z ih hk
      go_enter Try.func59, Try.ntmps59
      have hmix : Try.prog.follows .mixedOrders = true := by kernel_rfl
      have hq : (n : Int).tdiv 2 = (k : Int) := by rw [Int.tdiv_eq_ediv_of_nonneg (by omega), HK.out]; omega
      have hwk : IntKind.i64.wrap (k : Int) = (k : Int) := IntWalk.i64_in (k : Int) (by omega)
      have hcne : ¬ c = k := by omega
      have hk5 : k ≤ c := by omega
      have hk6 : k ≤ n := by omega
      have hk7 : n ≤ c := by omega
      have hk1 : (0 : Int) ≤ (k : Int) := by omega
      have hk2 : (k : Int) ≤ (n : Int) := by omega
      have hk3 : (k : Int) ≤ (c : Int) := by omega
      have hk4 : (n : Int) ≤ (c : Int) := by omega
      have hlt : ¬ (n : Int) < 2 := by omega
      have HC1 := Lib.hid (show ∀ w', Below w.heap.size w w' → Calls Try.prog 59 #[.slice (some ⟨bb, off, none⟩) k c] w' fun r w'' => ∃ a' c', ∃ s : List Sn, r = .returned (.slice a' s.length c') ∧ SpansAt a' s w'' ∧ s.length = k ∧ (∀ x, x ∈ s ↔ x ∈ l.take k) ∧ Asc s ∧ Below w'.heap.size w' w'' from fun w' hb => by
        have hl1 : (l.take k).length = k := by rw [List.length_take, ← HN.out]; omega
        have h := IH.out (some ⟨bb, off, none⟩) c (l.take k) w' (by omega) (by omega) (by omega) (fun i x hx => HZ.out w' hb i x (by
          rw [List.getElem?_take] at hx
          split at hx
          · exact hx
          · cases hx))
        rwa [hl1] at h)
      have HC2 := Lib.hid (show ∀ w', Below w.heap.size w w' → Calls Try.prog 59 #[.slice (some ⟨bb, off + k * 2, none⟩) (n - k) (c - k)] w' fun r w'' => ∃ a' c', ∃ s : List Sn, r = .returned (.slice a' s.length c') ∧ SpansAt a' s w'' ∧ s.length = n - k ∧ (∀ x, x ∈ s ↔ x ∈ l.drop k) ∧ Asc s ∧ Below w'.heap.size w' w'' from fun w' hb => by
        have hl1 : (l.drop k).length = n - k := by rw [List.length_drop, ← HN.out]
        have h := IH.out (some ⟨bb, off + k * 2, none⟩) (c - k) (l.drop k) w' (by omega) (by omega) (by omega) ((HZ.out w' hb).part k (fun i x hx => by rw [List.getElem?_drop] at hx; exact hx))
        rwa [hl1] at h)
      have hb : Below w.heap.size w w.drew := (Below.refl _ _).drew
      go_upto_region 3 with (fail)
      refine wp_region_held_drew (S := fun _ => True) hmix trivial (fun hHeld => ?_)
      refine wpAnyH_take (i := 0) (v := ?_) rfl (by kernel_rfl) (by kernel_rfl) (by kernel_rfl) (fun _ _ _ h => h) (Or.inl ⟨by rfl, ?_⟩) (by assumption) ?_
      rotate_left
      · intro w hSw; (try dsimp only at hSw); go_simp; (try with_reducible rfl)
      (try simp only [Act.put, List.getElem_toArray, List.getElem_cons_zero, List.setIfInBounds_toArray, List.set_cons_zero, List.set_cons_succ])
      refine wpAnyH_take (i := 1) (v := ?_) rfl (by kernel_rfl) (by kernel_rfl) (by kernel_rfl) (fun _ _ _ h => h) (Or.inl ⟨by rfl, ?_⟩) (by assumption) ?_
      rotate_left
      · intro w hSw; (try dsimp only at hSw); go_simp; (try with_reducible rfl)
      (try simp only [Act.put, List.getElem_toArray, List.getElem_cons_succ, List.getElem_cons_zero, List.setIfInBounds_toArray, List.set_cons_zero, List.set_cons_succ])
      refine wpAnyH_take (i := 2) (v := ?_) rfl (by kernel_rfl) (by kernel_rfl) (by kernel_rfl) (fun _ _ _ h => h) (Or.inl ⟨by rfl, ?_⟩) (by assumption) ?_
      rotate_left
      · intro w hSw; (try dsimp only at hSw); go_simp; (try with_reducible rfl)
      (try simp only [Act.put, List.getElem_toArray, List.getElem_cons_succ, List.getElem_cons_zero, List.setIfInBounds_toArray, List.set_cons_zero, List.set_cons_succ])
      refine wpAnyH_take (i := 3) (v := ?_) rfl (by kernel_rfl) (by kernel_rfl) (by kernel_rfl) (fun _ _ _ h => h) (Or.inl ⟨by rfl, ?_⟩) (by assumption) ?_
      rotate_left
      · intro w hSw; (try dsimp only at hSw); go_simp; (try with_reducible rfl)
      (try simp only [Act.put, List.getElem_toArray, List.getElem_cons_succ, List.getElem_cons_zero, List.setIfInBounds_toArray, List.set_cons_zero, List.set_cons_succ])
      (try simp only [hq, hwk])
      refine wpAnyH_take (i := 6) (v := ?_) rfl (by kernel_rfl) (by kernel_rfl) (by kernel_rfl) (fun _ _ _ h => h) (Or.inl ⟨by rfl, ?_⟩) (by assumption) ?_
      rotate_left
      · intro w hSw; (try dsimp only at hSw); go_simp; (try with_reducible rfl)
      (try simp only [Act.put, List.getElem_toArray, List.getElem_cons_succ, List.getElem_cons_zero, List.setIfInBounds_toArray, List.set_cons_zero, List.set_cons_succ])
      refine wpAnyH_take (i := 7) (v := ?_) rfl (by kernel_rfl) (by kernel_rfl) (by kernel_rfl) (fun _ _ _ h => h) (Or.inl ⟨by rfl, ?_⟩) (by assumption) ?_
      rotate_left
      · intro w hSw; (try dsimp only at hSw); go_simp; (try with_reducible rfl)
      (try simp only [Act.put, List.getElem_toArray, List.getElem_cons_succ, List.getElem_cons_zero, List.setIfInBounds_toArray, List.set_cons_zero, List.set_cons_succ])
      refine wpAnyH_take (i := 8) (v := ?_) rfl (by kernel_rfl) (by kernel_rfl) (by kernel_rfl) (fun _ _ _ h => h) (Or.inl ⟨by rfl, ?_⟩) (by assumption) ?_
      rotate_left
      · intro w hSw; (try dsimp only at hSw); go_simp; (try with_reducible rfl)
      (try simp only [Act.put, List.getElem_toArray, List.getElem_cons_succ, List.getElem_cons_zero, List.setIfInBounds_toArray, List.set_cons_zero, List.set_cons_succ])
      refine wpAnyH_take (i := 9) (v := ?_) rfl (by kernel_rfl) (by kernel_rfl) (by kernel_rfl) (fun _ _ _ h => h) (Or.inl ⟨by rfl, ?_⟩) (by assumption) ?_
      rotate_left
      · intro w hSw; (try dsimp only at hSw); go_simp; (try with_reducible rfl)
      (try simp only [Act.put, List.getElem_toArray, List.getElem_cons_succ, List.getElem_cons_zero, List.setIfInBounds_toArray, List.set_cons_zero, List.set_cons_succ])
      (try simp only [hq, hwk])
      refine wpAnyH_take (i := 4) (v := ?_) rfl (by kernel_rfl) (by kernel_rfl) (by kernel_rfl) (fun _ _ _ h => h) (Or.inl ⟨by rfl, ?_⟩) (by assumption) ?_
      rotate_left
      · intro w hSw; (try dsimp only at hSw); go_simp; (try with_reducible rfl)
      (try simp only [Act.put, List.getElem_toArray, List.getElem_cons_succ, List.getElem_cons_zero, List.setIfInBounds_toArray, List.set_cons_zero, List.set_cons_succ])
      refine wpAnyH_take (i := 10) (v := ?_) rfl (by kernel_rfl) (by kernel_rfl) (by kernel_rfl) (fun _ _ _ h => h) (Or.inl ⟨by rfl, ?_⟩) (by assumption) ?_
      rotate_left
      · intro w hSw; (try dsimp only at hSw); go_simp; (try with_reducible rfl)
      (try simp only [Act.put, List.getElem_toArray, List.getElem_cons_succ, List.getElem_cons_zero, List.setIfInBounds_toArray, List.set_cons_zero, List.set_cons_succ])
      refine wpAnyH_ready (rs := [5]) (by kernel_rfl) (by simp) ?_
      refine AllReadyH.cons rfl (fun K hK => ?_) AllReadyH.nil
      go_simp
      refine (HC1.out _ hb).mono ?_
      rintro e w2 ⟨a1, d1, s1, rfl, z1, t1, m1, o1, hn1⟩
      have T1 := Lib.hid t1
      have M1 := Lib.hid (And.intro m1 o1)
      clear t1 m1 o1
      replace hb := hb.trans (hn1.mono hb.size)
      refine hK.out _ _ trivial (fun hHeld => ?_)
      clear hK K
      (try simp only [Act.put, List.getElem_toArray, List.getElem_cons_succ, List.getElem_cons_zero, List.setIfInBounds_toArray, List.set_cons_zero, List.set_cons_succ])
      refine wpAnyH_ready (rs := [11]) (by kernel_rfl) (by simp) ?_
      refine AllReadyH.cons rfl (fun K hK => ?_) AllReadyH.nil
      go_simp
      refine (HC2.out _ hb).mono ?_
      rintro e w3 ⟨a2, d2, s2, rfl, z2, t2, m2, o2, hn2⟩
      have T2 := Lib.hid t2
      have M2 := Lib.hid (And.intro m2 o2)
      clear t2 m2 o2
      replace hb := hb.trans (hn2.mono hb.size)
      replace z1 := z1.below hn2
      refine hK.out _ _ trivial (fun hHeld => ?_)
      clear hK K
      (try simp only [Act.put, List.getElem_toArray, List.getElem_cons_succ, List.getElem_cons_zero, List.setIfInBounds_toArray, List.set_cons_zero, List.set_cons_succ])
      refine wpAnyH_ready (rs := [12]) (by kernel_rfl) (by simp) ?_
      refine AllReadyH.cons rfl (fun K hK => ?_) AllReadyH.nil
      go_simp
      refine (rmerge_any a1 a2 d1 d2 s1 s2 _ (by have := T1.out; omega) (by have := T2.out; omega) z1 z2).mono ?_
      rintro e w4 ⟨v, rfl, hr, hn3⟩
      replace hb := hb.trans (hn3.mono hb.size)
      refine hK.out _ _ trivial (fun hHeld => ?_)
      clear hK K
      (try simp only [Act.put, List.getElem_toArray, List.getElem_cons_succ, List.getElem_cons_zero, List.setIfInBounds_toArray, List.set_cons_zero, List.set_cons_succ])
      refine wpAnyH_take (i := 13) (v := ?_) rfl (by kernel_rfl) (by kernel_rfl) (by kernel_rfl) (fun _ _ _ h => h) (Or.inl ⟨by rfl, ?_⟩) (by assumption) ?_
      rotate_left
      · intro w hSw; (try dsimp only at hSw); go_simp; (try with_reducible rfl)
      (try simp only [Act.put, List.getElem_toArray, List.getElem_cons_succ, List.getElem_cons_zero, List.setIfInBounds_toArray, List.set_cons_zero, List.set_cons_succ])
      refine wpAnyH_done (by kernel_rfl) ?_ _
      go_wp2
      go_ret
      obtain ⟨a3, d3, rfl, z3⟩ := hr.spans
      exact ⟨a3, d3, mg s1 s2, rfl, z3, by rw [mg_len, T1.out, T2.out]; omega, fun x1 x2 => by
        rw [mg_mem, M1.out.1, M2.out.1, ← List.mem_append, List.take_append_drop], mg_asc M1.out.2 M2.out.2, hb⟩
theorem rsorted_any (a : Option Addr) (c : Nat) (l : List Sn) (w : World) (hl : l.length ≤ 1000) (hc : l.length ≤ c) (z : SpansAt a l w) :
    Calls Try.prog 59 #[.slice a l.length c] w fun r w' => ∃ a' c', ∃ s : List Sn, r = .returned (.slice a' s.length c') ∧ SpansAt a' s w' ∧ s.length = l.length ∧ (∀ x, x ∈ s ↔ x ∈ l) ∧ Asc s ∧ Below w.heap.size w w' :=
  rsorted_at l.length a c l w (Nat.le_refl _) hl hc z
end Go.Proofs.Ytdoojpilogcnjaa.Sp
