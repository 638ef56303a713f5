/- What the reference implementation's Minus of spans returns. Conditions: the lists lie in memory as the arguments say; they are short. -/
import Derived.Test.YtahionbbpfmplaaSpanRef7
namespace Go.Proofs.Ytahionbbpfmplaa.Sp
open Go.RowKit
/-- The gaps, only those that are not empty. -/
abbrev gp (lo : Int) (l : List Sn) : List Sn := (gaps lo l).filter fun x => decide (x.1 < x.2)
theorem gp_cons (lo : Int) (y : Sn) (l : List Sn) : gp lo (y :: l) = (if lo < y.1 then [(lo, y.1)] else []) ++ gp y.2 l := by
  show ((lo, y.1) :: gaps y.2 l).filter _ = _
  by_cases h : lo < y.1
  · rw [List.filter_cons_of_pos (by simpa using h), if_pos h]; rfl
  · rw [List.filter_cons_of_neg (by simpa using h), if_neg h]; rfl
theorem gp_nil (lo : Int) : gp lo [] = if lo < 1152921504606846976 then [(lo, 1152921504606846976)] else [] := by
  show [(lo, (1152921504606846976 : Int))].filter _ = _
  by_cases h : lo < 1152921504606846976
  · rw [List.filter_cons_of_pos (by simpa using h), if_pos h]; rfl
  · rw [List.filter_cons_of_neg (by simpa using h), if_neg h]; rfl
/-- The loop of Minus, a round each. -/
def GpAt (ys acc : List Sn) (i : Nat) (lo : Int) : Prop := gp (-1152921504606846976) ys = acc ++ gp lo (ys.drop i)
theorem GpAt.start (ys : List Sn) : GpAt ys [] 0 (-1152921504606846976) := rfl
theorem GpAt.add {ys acc : List Sn} {i : Nat} {lo : Int} {y : Sn} (h : GpAt ys acc i lo) (hy : ys[i]? = some y) (c : lo < y.1) : GpAt ys (acc ++ [(lo, y.1)]) (i + 1) y.2 := by
  unfold GpAt at h ⊢
  rw [h, drop_at hy, gp_cons, if_pos c, List.append_assoc]
theorem GpAt.skip {ys acc : List Sn} {i : Nat} {lo : Int} {y : Sn} (h : GpAt ys acc i lo) (hy : ys[i]? = some y) (c : ¬ lo < y.1) : GpAt ys acc (i + 1) y.2 := by
  unfold GpAt at h ⊢
  rw [h, drop_at hy, gp_cons, if_neg c, List.nil_append]
theorem GpAt.done {ys acc : List Sn} {i : Nat} {lo : Int} (h : GpAt ys acc i lo) (hi : ys.length ≤ i) : gp (-1152921504606846976) ys = acc ++ if lo < 1152921504606846976 then [(lo, 1152921504606846976)] else [] := by
  unfold GpAt at h
  rw [h, List.drop_eq_nil_of_le hi, gp_nil]
set_option maxHeartbeats 4000000 in
set_option maxRecDepth 100000 in
theorem rminus_any (a1 a2 : Option Addr) (c1 c2 : Nat) (xs ys : List Sn) (w : World) (hn : xs.length ≤ 300) (hm : ys.length ≤ 300) (z1 : SpansAt a1 xs w) (z2 : SpansAt a2 ys w) (n1 : xs.length ≤ c1) (n2 : ys.length ≤ c2) :
    Calls Try.prog 22 #[.slice a1 xs.length c1, .slice a2 ys.length c2] w fun r w' => ∃ v, r = .returned v ∧ RowS w' w.heap.size v (minus xs ys) ∧ Below w.heap.size w w' := by
  have HY := Lib.hid (show Calls Try.prog 16 #[.slice a2 ys.length c2] w fun r w'' => ∃ a' c', r = .returned (.slice a' (norm ys).length c') ∧ SpansAt a' (norm ys) w'' ∧ Below w.heap.size w w'' from
    (rnormal_any a2 c2 ys w (by omega) n2 z2).mono (fun r w'' ⟨v, hr, hrow, hb⟩ => by
      obtain ⟨a', c', rfl, hz⟩ := hrow.spans
      exact ⟨a', c', hr, hz, hb⟩))
  have HMT := Lib.hid (fun a3 c3 (rest : List Sn) w' (h3 : rest.length ≤ 400) (z3 : SpansAt a3 rest w') (n3 : rest.length ≤ c3) (k : Below w.heap.size w w') => rmeet_any a1 a3 c1 c3 xs rest w' (by omega) h3 (z1.below k) z3 n1 n3)
  have hly := norm_len ys
  have HR0 := Lib.hid (minus_gaps xs ys)
  have HPY := Lib.hid (norm_nf ys).2
  generalize xs.length = lx at *
  generalize ys.length = ly at *
  generalize minus xs ys = res at *
  generalize norm ys = Y at *
  obtain ⟨m, hm'⟩ : ∃ m, m = Y.length := ⟨_, rfl⟩
  rw [← hm'] at HY hly
  have HM := Lib.hid hm'
  have hmb : m ≤ 300 := by omega
  clear hm' z1 z2 n1 n2 hn hm hly
  obtain ⟨i0, hi, hz0, hz1, hz2⟩ := info_parts Try.infoS
  have HI0 := Lib.hid (And.intro hi (And.intro hz0 (And.intro hz1 hz2)))
  clear hi hz0 hz1 hz2
  go_enter Try.func22, Try.ntmps22
  go_wp2_with (first
    | (go_at_call 16; (with_reducible refine HY.out.mono ?_); rintro e w2 ⟨b2, d2, rfl, z2, hn2⟩; have HB0 := Lib.hid hn2; clear hn2))
  have HZY := Lib.hid (fun w' (k : Below w2.heap.size w2 w') => z2.below k)
  clear z2 HY
  go_loopg [6, 7, 8] m (fun g s6 s7 s8 wx => ∃ (i : Nat) (lo : Int) (acc : List Sn), i + g = m ∧ s8 = .int .i64 i ∧ s7 = .int .i64 lo ∧ acc.length ≤ i ∧ Hid (GpAt Y acc i lo) ∧ Hid (RowS wx w2.heap.size s6 acc) ∧ Below w2.heap.size w2 wx)
  case atStart => exact ⟨0, _, [], by omega, rfl, rfl, Nat.le_refl _, GpAt.start Y, RowS.nil _ _, Below.refl _ _⟩
  case round =>
    obtain ⟨i, lo, acc, hi, rfl, rfl, hal, HS, HR, hb⟩ := hrel
    have hsz := hb.size
    cases gk with
    | zero =>
      have hlt : ¬ (i : Int) < (m : Int) := by omega
      have HE := Lib.hid (HS.out.done (by have := HM.out; omega))
      by_cases hc : lo < 1152921504606846976
      · rw [if_pos hc] at HE
        go_wp2_with (first
          | (at_builtin; refine wpList_append_own _ rfl _ _ 22 rfl w2.heap.size 33 i0 (.agg #[.int .i64 0, .int .i64 0]) 2 16 Try.underS HI0.out.1 HI0.out.2.1 HI0.out.2.2.1 HI0.out.2.2.2 rfl (by decide) _ _ _ rfl (World.ownsRow.alloc HR.out _) _ 1 1 [.int .i64 lo, .int .i64 1152921504606846976] rfl rfl (two_cells rfl) two_one (by unfold maxLen; omega) (by omega) (by first | exact Nat.le_trans hsz (alloc_below _ _).size | exact hsz | (simp; omega) | omega) ?_; intro v' w4 hown' hgrow _; have hB := row_grown hb hsz (World.ownsRow.alloc HR.out _) hgrow (Nat.le_refl _); obtain ⟨a3, c3, rfl, z3, hc3, -⟩ := RowS.cap (RowS.push (l := acc) hown'); have HCM := Lib.hid (HMT.out a3 c3 _ w4 (by rw [List.length_append]; show _ + 1 ≤ _; omega) z3 hc3 (HB0.out.trans (hB.mono HB0.out.size))); obtain ⟨q, hq⟩ : ∃ q, q = (acc ++ [(lo, (1152921504606846976 : Int))]).length := ⟨_, rfl⟩; rw [← hq] at HCM ⊢; clear hown' hgrow z3 hc3 hq)
          | (go_at_call 20; (with_reducible refine HCM.out.mono ?_); rintro e w5 ⟨v, rfl, hr, hn5⟩))
        go_ret
        refine ⟨_, rfl, ?_, (HB0.out.trans (hB.mono HB0.out.size)).trans (hn5.mono (HB0.out.trans (hB.mono HB0.out.size)).size)⟩
        rw [HR0.out.symm.trans (congrArg (meet xs) HE.out)]
        exact hr.lower (HB0.out.trans (hB.mono HB0.out.size)).size
      · rw [if_neg hc, List.append_nil] at HE
        obtain ⟨a3, c3, eu, z3, hc3, -⟩ := RowS.cap HR.out
        subst eu
        have HCM := Lib.hid (HMT.out a3 c3 acc wr (by omega) z3 hc3 (HB0.out.trans (hb.mono HB0.out.size)))
        obtain ⟨q, hq⟩ : ∃ q, q = acc.length := ⟨_, rfl⟩
        rw [← hq] at HCM ⊢
        clear hq z3 hc3 hal HR
        go_wp2_with (first
          | (go_at_call 20; (with_reducible refine HCM.out.mono ?_); rintro e w5 ⟨v, rfl, hr, hn5⟩))
        go_ret
        refine ⟨_, rfl, ?_, (HB0.out.trans (hb.mono HB0.out.size)).trans (hn5.mono (HB0.out.trans (hb.mono HB0.out.size)).size)⟩
        rw [HR0.out.symm.trans (congrArg (meet xs) HE.out)]
        exact hr.lower (HB0.out.trans (hb.mono HB0.out.size)).size
    | succ g =>
      have hlt : (i : Int) < (m : Int) := by omega
      obtain ⟨y, hy⟩ : ∃ y, Y[i]? = some y := ⟨_, List.getElem?_eq_getElem (by have := HM.out; omega)⟩
      obtain ⟨p2, o2, rfl, g1, g2⟩ := HZY.out _ hb i y hy
      have HCY := Lib.hid (fun w' (kk : Below w2.heap.size w2 w') => (show w'.cell? ⟨p2, o2 + i * 2, none⟩ = some (.int .i64 y.1) ∧ w'.cell? ⟨p2, o2 + i * 2 + 1, none⟩ = some (.int .i64 y.2) from by
        obtain ⟨b9, o9, e9, q1, q2⟩ := HZY.out w' kk i y hy
        cases e9
        exact ⟨q1, q2⟩))
      have HSA := Lib.hid (fun c => HS.out.add hy c)
      have HSK := Lib.hid (fun c => HS.out.skip hy c)
      clear hy HS
      obtain ⟨y1, y2⟩ := y
      by_cases hc : lo < y1
      · have HN1 := Lib.hid (HSA.out hc)
        go_wp2_with (first
          | (at_builtin; refine wpList_append_own _ rfl _ _ 22 rfl w2.heap.size 33 i0 (.agg #[.int .i64 0, .int .i64 0]) 2 16 Try.underS HI0.out.1 HI0.out.2.1 HI0.out.2.2.1 HI0.out.2.2.2 rfl (by decide) _ _ _ rfl (World.ownsRow.alloc HR.out _) _ 1 1 [.int .i64 lo, .int .i64 y1] rfl rfl (two_cells rfl) two_one ?c3 ?c4 ?c5 ?_))
        case c3 => unfold maxLen; omega
        case c4 => omega
        case c5 => first | exact Nat.le_trans hsz (alloc_below _ _).size | exact hsz | (simp; omega) | omega
        intro v' w4 hown' hgrow _
        have hB := row_grown hb hsz (World.ownsRow.alloc HR.out _) hgrow (Nat.le_refl _)
        have HR1 := Lib.hid (RowS.push (l := acc) hown')
        clear hown' hgrow g1 g2
        obtain ⟨g1, g2⟩ := HCY.out _ hB
        go_wp2
        go_roundg g
        case measure => omega
        case rel => exact ⟨i + 1, y2, acc ++ [(lo, y1)], by omega, by go_num, rfl, by rw [List.length_append]; show _ + 1 ≤ _; omega, HN1.out, HR1.out, hB⟩
      · have HN1 := Lib.hid (HSK.out hc)
        go_wp2
        go_roundg g
        case measure => omega
        case rel => exact ⟨i + 1, y2, acc, by omega, by go_num, rfl, by omega, HN1.out, HR.out, hb⟩
end Go.Proofs.Ytahionbbpfmplaa.Sp
