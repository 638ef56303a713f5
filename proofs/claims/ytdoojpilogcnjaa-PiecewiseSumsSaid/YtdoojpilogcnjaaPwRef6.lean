/- What the reference implementation's Turn of piecewise linear functions returns. Conditions: the functions are valid, they lie in memory as the arguments say; where g is below f, it stays so up to the end. -/
import Derived.Test.YtdoojpilogcnjaaPwRef5
set_option linter.unusedVariables false
set_option linter.unusedSimpArgs false
namespace Go.Proofs.Ytdoojpilogcnjaa.Pw
open Go.RowKit Go.Proofs.Ytdoojpilogcnjaa.Sp
set_option maxHeartbeats 8000000 in
set_option maxRecDepth 100000 in
theorem rturn_any (d e : Int) (a b : Option Addr) (c k : Nat) (l r : List Pc) (s t : Int) (w : World) (h1 : l.length ≤ 64) (h2 : r.length ≤ 64) (ol : Ok l) (or : Ok r) (hs : 0 ≤ s) (hst : s ≤ t) (ht : t ≤ 1000000000000)
    (hm : ∀ x y, s ≤ x → x ≤ y → y ≤ t → num r x < num l x → num r y < num l y) (zl : PcsAt a l w) (zr : PcsAt b r w) :
    Calls Try.prog 36 #[fv d a l.length c, fv e b r.length k, .int .i64 s, .int .i64 t] w fun v w' => (∃ u, v = .returned (.int .i64 u) ∧ s ≤ u ∧ u ≤ t + 1 ∧ (∀ x, s ≤ x → x < u → ¬ num r x < num l x) ∧ (u ≤ t → num r u < num l u)) ∧ Below w.heap.size w w' := by
  have HL := Lib.hid (fun x (hx : s ≤ x ∧ x ≤ t) w' (q : Below w.heap.size w w') => rat_any d x a c l w' h1 ol (by omega) (by omega) (zl.below q))
  have HR := Lib.hid (fun x (hx : s ≤ x ∧ x ≤ t) w' (q : Below w.heap.size w w') => rat_any e x b k r w' h2 or (by omega) (by omega) (zr.below q))
  have HM := Lib.hid hm
  generalize l.length = n at *
  generalize r.length = m at *
  clear zl zr h1 h2 ol or hm
  have hsz : (w.alloc (fb d a n c)).heap.size = w.heap.size + 1 := by simp
  have hB1 : Below w.heap.size w ((w.alloc (fb d a n c)).alloc (fb e b m k)) := (alloc_below w _).trans ((alloc_below (w.alloc (fb d a n c)) (fb e b m k)).mono (alloc_below w _).size)
  have c0 : ((w.alloc (fb d a n c)).alloc (fb e b m k)).cell? ⟨w.heap.size, 0, none⟩ = some (.int .i64 d) := cell_kept (alloc_below (w.alloc (fb d a n c)) (fb e b m k)) (by simp [World.cell?_alloc_new])
  have c1 : ((w.alloc (fb d a n c)).alloc (fb e b m k)).cell? ⟨w.heap.size, 1, none⟩ = some (.slice a n c) := cell_kept (alloc_below (w.alloc (fb d a n c)) (fb e b m k)) (by simp [World.cell?_alloc_new])
  have g0 : ((w.alloc (fb d a n c)).alloc (fb e b m k)).cell? ⟨w.heap.size + 1, 0, none⟩ = some (.int .i64 e) := by rw [← hsz]; exact (by simp)
  have g1 : ((w.alloc (fb d a n c)).alloc (fb e b m k)).cell? ⟨w.heap.size + 1, 1, none⟩ = some (.slice b m k) := by rw [← hsz]; exact (by simp)
  go_enter Try.func36, Try.ntmps36
  go_upto_region 1 with (fail)
  generalize (w.alloc (fb d a n c)).alloc (fb e b m k) = W1 at *
  generalize w.heap.size = xb at c0 c1 g0 g1 ⊢
  have HE := Lib.hid (And.intro c0 (And.intro c1 (And.intro g0 g1)))
  have HB := Lib.hid hB1
  clear hB1 hsz
  have hmix : Try.prog.follows .mixedOrders = true := by kernel_rfl
  have hxt : s ≤ t ∧ t ≤ t := ⟨hst, Int.le_refl t⟩
  refine wp_region_held_drew (S := fun W => W.cell? ⟨xb, 0, none⟩ = some (.int .i64 d) ∧ W.cell? ⟨xb, 1, none⟩ = some (.slice a n c) ∧ W.cell? ⟨xb + 1, 0, none⟩ = some (.int .i64 e) ∧ W.cell? ⟨xb + 1, 1, none⟩ = some (.slice b m k) ∧ Below w.heap.size w W) hmix ⟨cell_kept ((Below.refl _ W1).drew) c0, cell_kept ((Below.refl _ W1).drew) c1, cell_kept ((Below.refl _ W1).drew) g0, cell_kept ((Below.refl _ W1).drew) g1, HB.out.trans (((Below.refl _ W1).drew).mono HB.out.size)⟩ (fun hHeld => ?_)
  refine wpAnyH_take (i := 0) (v := ?_) rfl (by kernel_rfl) (by kernel_rfl) (by kernel_rfl) (fun _ _ _ h => h) (Or.inl ⟨by rfl, ?_⟩) (by assumption) ?_
  rotate_left
  · intro w hSw; (try dsimp only at hSw); go_simp; (try with_reducible rfl)
  (try simp only [Act.put, List.getElem_toArray, List.getElem_cons_zero, List.setIfInBounds_toArray, List.set_cons_zero, List.set_cons_succ])
  refine wpAnyH_take (i := 1) (v := ?_) rfl (by kernel_rfl) (by kernel_rfl) (by kernel_rfl) (fun _ _ _ h => h) (Or.inl ⟨by rfl, ?_⟩) (by assumption) ?_
  rotate_left
  · intro w hSw; (try dsimp only at hSw); go_simp; (try with_reducible rfl)
  (try simp only [Act.put, List.getElem_toArray, List.getElem_cons_succ, List.getElem_cons_zero, List.setIfInBounds_toArray, List.set_cons_zero, List.set_cons_succ])
  refine wpAnyH_take (i := 3) (v := ?_) rfl (by kernel_rfl) (by kernel_rfl) (by kernel_rfl) (fun _ _ _ h => h) (Or.inl ⟨by rfl, ?_⟩) (by assumption) ?_
  rotate_left
  · intro w hSw; (try dsimp only at hSw); go_simp; (try with_reducible rfl)
  (try simp only [Act.put, List.getElem_toArray, List.getElem_cons_succ, List.getElem_cons_zero, List.setIfInBounds_toArray, List.set_cons_zero, List.set_cons_succ])
  refine wpAnyH_take (i := 4) (v := ?_) rfl (by kernel_rfl) (by kernel_rfl) (by kernel_rfl) (fun _ _ _ h => h) (Or.inl ⟨by rfl, ?_⟩) (by assumption) ?_
  rotate_left
  · intro w hSw; (try dsimp only at hSw); go_simp; (try with_reducible rfl)
  (try simp only [Act.put, List.getElem_toArray, List.getElem_cons_succ, List.getElem_cons_zero, List.setIfInBounds_toArray, List.set_cons_zero, List.set_cons_succ])
  refine wpAnyH_ready (rs := [2]) (by kernel_rfl) (by simp) ?_
  refine AllReadyH.cons rfl (fun K hK => ?_) AllReadyH.nil
  go_simp
  refine (HR.out (t) hxt _ hHeld.2.2.2.2).mono ?_
  rintro _ wc ⟨rfl, kc⟩
  refine hK.out _ _ ⟨cell_kept kc hHeld.1, cell_kept kc hHeld.2.1, cell_kept kc hHeld.2.2.1, cell_kept kc hHeld.2.2.2.1, hHeld.2.2.2.2.trans (kc.mono hHeld.2.2.2.2.size)⟩ (fun hHeld => ?_)
  clear hK K
  (try simp only [Act.put, List.getElem_toArray, List.getElem_cons_succ, List.getElem_cons_zero, List.setIfInBounds_toArray, List.set_cons_zero, List.set_cons_succ])
  refine wpAnyH_ready (rs := [5]) (by kernel_rfl) (by simp) ?_
  refine AllReadyH.cons rfl (fun K hK => ?_) AllReadyH.nil
  go_simp
  refine (HL.out (t) hxt _ hHeld.2.2.2.2).mono ?_
  rintro _ wc ⟨rfl, kc⟩
  refine hK.out _ _ ⟨cell_kept kc hHeld.1, cell_kept kc hHeld.2.1, cell_kept kc hHeld.2.2.1, cell_kept kc hHeld.2.2.2.1, hHeld.2.2.2.2.trans (kc.mono hHeld.2.2.2.2.size)⟩ (fun hHeld => ?_)
  clear hK K
  (try simp only [Act.put, List.getElem_toArray, List.getElem_cons_succ, List.getElem_cons_zero, List.setIfInBounds_toArray, List.set_cons_zero, List.set_cons_succ])
  refine wpAnyH_take (i := 6) (v := ?_) rfl (by kernel_rfl) (by kernel_rfl) (by kernel_rfl) (fun _ _ _ h => h) (Or.inl ⟨by rfl, ?_⟩) (by assumption) ?_
  rotate_left
  · intro w hSw; (try dsimp only at hSw); go_simp; (try with_reducible rfl)
  (try simp only [Act.put, List.getElem_toArray, List.getElem_cons_succ, List.getElem_cons_zero, List.setIfInBounds_toArray, List.set_cons_zero, List.set_cons_succ])
  refine wpAnyH_done (by kernel_rfl) ?_ _
  by_cases hu : num r t < num l t
  · have hge : ¬ num l t ≤ num r t := by omega
    have HHT := Lib.hid hu
    have HH := Lib.hid hHeld
    go_wp2
    clear hge hu HE HB
    go_loopg [9, 10] ((t - s).toNat) (fun g s9 s10 wx => ∃ lo hi : Int, s9 = .int .i64 lo ∧ s10 = .int .i64 hi ∧ s ≤ lo ∧ lo ≤ hi ∧ hi ≤ t ∧ hi - lo ≤ g ∧ Hid (∀ x, s ≤ x → x < lo → ¬ num r x < num l x) ∧ Hid (num r hi < num l hi) ∧ Hid (wx.cell? ⟨xb, 0, none⟩ = some (.int .i64 d) ∧ wx.cell? ⟨xb, 1, none⟩ = some (.slice a n c) ∧ wx.cell? ⟨xb + 1, 0, none⟩ = some (.int .i64 e) ∧ wx.cell? ⟨xb + 1, 1, none⟩ = some (.slice b m k) ∧ Below w.heap.size w wx))
    case atStart => exact ⟨s, t, rfl, rfl, Int.le_refl s, hst, Int.le_refl t, by omega, (Lib.hid (fun x h1 h2 => by omega)), HHT, HH⟩
    case round =>
      obtain ⟨lo, hi, rfl, rfl, h1, h2, h3, h4, HLO, HHI, HS⟩ := hrel
      by_cases hc : lo < hi
      · cases gk with
        | zero => omega
        | succ g =>
          obtain ⟨q, hq⟩ : ∃ q, (hi - lo).tdiv 2 = q := ⟨_, rfl⟩
          have hq2 : q = (hi - lo) / 2 := by rw [← hq, Int.tdiv_eq_ediv_of_nonneg (by omega)]
          obtain ⟨M, hM⟩ : ∃ M, lo + q = M := ⟨_, rfl⟩
          have hw1 : IntKind.i64.wrap (hi - lo) = hi - lo := IntWalk.i64_in _ (by omega)
          have hw2 : IntKind.i64.wrap q = q := IntWalk.i64_in _ (by omega)
          have hw3 : IntKind.i64.wrap (lo + q) = M := by rw [hM]; exact IntWalk.i64_in _ (by omega)
          have hM1 : lo ≤ M := by omega
          have hM2 : M < hi := by omega
          have hM3 : s ≤ M ∧ M ≤ t := by omega
          have hw4 : IntKind.i64.wrap (M + 1) = M + 1 := IntWalk.i64_in _ (by omega)
          have HB := Lib.hid HS.out.2.2.2.2
          obtain ⟨c0, c1, g0, g1, -⟩ := HS.out
          clear hq2
          go_upto_region 7 with (fail)
          refine wp_region_held_drew (S := fun W => W.cell? ⟨xb, 0, none⟩ = some (.int .i64 d) ∧ W.cell? ⟨xb, 1, none⟩ = some (.slice a n c) ∧ W.cell? ⟨xb + 1, 0, none⟩ = some (.int .i64 e) ∧ W.cell? ⟨xb + 1, 1, none⟩ = some (.slice b m k) ∧ Below w.heap.size w W) hmix ⟨cell_kept ((Below.refl _ wr).drew) c0, cell_kept ((Below.refl _ wr).drew) c1, cell_kept ((Below.refl _ wr).drew) g0, cell_kept ((Below.refl _ wr).drew) g1, HB.out.trans (((Below.refl _ wr).drew).mono HB.out.size)⟩ (fun hHeld => ?_)
          refine wpAnyH_take (i := 0) (v := ?_) rfl (by kernel_rfl) (by kernel_rfl) (by kernel_rfl) (fun _ _ _ h => h) (Or.inl ⟨by rfl, ?_⟩) (by assumption) ?_
          rotate_left
          · intro w hSw; (try dsimp only at hSw); go_simp; (try with_reducible rfl)
          (try simp only [Act.put, List.getElem_toArray, List.getElem_cons_zero, List.setIfInBounds_toArray, List.set_cons_zero, List.set_cons_succ])
          refine wpAnyH_take (i := 1) (v := ?_) rfl (by kernel_rfl) (by kernel_rfl) (by kernel_rfl) (fun _ _ _ h => h) (Or.inl ⟨by rfl, ?_⟩) (by assumption) ?_
          rotate_left
          · intro w hSw; (try dsimp only at hSw); go_simp; (try with_reducible rfl)
          (try simp only [Act.put, List.getElem_toArray, List.getElem_cons_succ, List.getElem_cons_zero, List.setIfInBounds_toArray, List.set_cons_zero, List.set_cons_succ])
          refine wpAnyH_take (i := 3) (v := ?_) rfl (by kernel_rfl) (by kernel_rfl) (by kernel_rfl) (fun _ _ _ h => h) (Or.inl ⟨by rfl, ?_⟩) (by assumption) ?_
          rotate_left
          · intro w hSw; (try dsimp only at hSw); go_simp; (try with_reducible rfl)
          (try simp only [Act.put, List.getElem_toArray, List.getElem_cons_succ, List.getElem_cons_zero, List.setIfInBounds_toArray, List.set_cons_zero, List.set_cons_succ])
          refine wpAnyH_take (i := 4) (v := ?_) rfl (by kernel_rfl) (by kernel_rfl) (by kernel_rfl) (fun _ _ _ h => h) (Or.inl ⟨by rfl, ?_⟩) (by assumption) ?_
          rotate_left
          · intro w hSw; (try dsimp only at hSw); go_simp; (try with_reducible rfl)
          (try simp only [Act.put, List.getElem_toArray, List.getElem_cons_succ, List.getElem_cons_zero, List.setIfInBounds_toArray, List.set_cons_zero, List.set_cons_succ])
          refine wpAnyH_ready (rs := [2]) (by kernel_rfl) (by simp) ?_
          refine AllReadyH.cons rfl (fun K hK => ?_) AllReadyH.nil
          go_simp
          refine (HR.out (M) hM3 _ hHeld.2.2.2.2).mono ?_
          rintro _ wc ⟨rfl, kc⟩
          refine hK.out _ _ ⟨cell_kept kc hHeld.1, cell_kept kc hHeld.2.1, cell_kept kc hHeld.2.2.1, cell_kept kc hHeld.2.2.2.1, hHeld.2.2.2.2.trans (kc.mono hHeld.2.2.2.2.size)⟩ (fun hHeld => ?_)
          clear hK K
          (try simp only [Act.put, List.getElem_toArray, List.getElem_cons_succ, List.getElem_cons_zero, List.setIfInBounds_toArray, List.set_cons_zero, List.set_cons_succ])
          refine wpAnyH_ready (rs := [5]) (by kernel_rfl) (by simp) ?_
          refine AllReadyH.cons rfl (fun K hK => ?_) AllReadyH.nil
          go_simp
          refine (HL.out (M) hM3 _ hHeld.2.2.2.2).mono ?_
          rintro _ wc ⟨rfl, kc⟩
          refine hK.out _ _ ⟨cell_kept kc hHeld.1, cell_kept kc hHeld.2.1, cell_kept kc hHeld.2.2.1, cell_kept kc hHeld.2.2.2.1, hHeld.2.2.2.2.trans (kc.mono hHeld.2.2.2.2.size)⟩ (fun hHeld => ?_)
          clear hK K
          (try simp only [Act.put, List.getElem_toArray, List.getElem_cons_succ, List.getElem_cons_zero, List.setIfInBounds_toArray, List.set_cons_zero, List.set_cons_succ])
          refine wpAnyH_take (i := 6) (v := ?_) rfl (by kernel_rfl) (by kernel_rfl) (by kernel_rfl) (fun _ _ _ h => h) (Or.inl ⟨by rfl, ?_⟩) (by assumption) ?_
          rotate_left
          · intro w hSw; (try dsimp only at hSw); go_simp; (try with_reducible rfl)
          (try simp only [Act.put, List.getElem_toArray, List.getElem_cons_succ, List.getElem_cons_zero, List.setIfInBounds_toArray, List.set_cons_zero, List.set_cons_succ])
          refine wpAnyH_done (by kernel_rfl) ?_ _
          by_cases hu : num r M < num l M
          · have HU := Lib.hid hu
            have HH := Lib.hid hHeld
            go_wp2
            go_roundg g
            case measure => omega
            case rel => exact ⟨lo, M, by go_num, by go_num, h1, hM1, by omega, by omega, HLO, HU, HH⟩
          · have HU := Lib.hid (show ∀ x, s ≤ x → x < M + 1 → ¬ num r x < num l x from fun x p1 p2 p3 => hu (HM.out x M p1 (by omega) hM3.2 p3))
            have HH := Lib.hid hHeld
            go_wp2
            go_roundg g
            case measure => omega
            case rel => exact ⟨M + 1, hi, by go_num, by go_num, by omega, by omega, h3, by omega, HU, HHI, HH⟩
      · have hlh : lo = hi := by omega
        have HU := Lib.hid (show lo ≤ t → num r lo < num l lo from fun _ => by rw [hlh]; exact HHI.out)
        have hle : lo ≤ t + 1 := by omega
        clear hlh
        go_wp2
        go_ret
        exact ⟨⟨lo, rfl, h1, hle, HLO.out, HU.out⟩, HS.out.2.2.2.2⟩
  · have hge : num l t ≤ num r t := by omega
    have hwt : IntKind.i64.wrap (t + 1) = t + 1 := IntWalk.i64_in _ (by omega)
    have HU := Lib.hid (show ∀ x, s ≤ x → x < t + 1 → ¬ num r x < num l x from fun x h1 h2 h3 => hu (HM.out x t h1 (by omega) (Int.le_refl t) h3))
    clear hu
    go_wp2
    go_ret
    exact ⟨⟨t + 1, rfl, by omega, by omega, HU.out, fun h => by omega⟩, hHeld.2.2.2.2⟩
end Go.Proofs.Ytdoojpilogcnjaa.Pw
