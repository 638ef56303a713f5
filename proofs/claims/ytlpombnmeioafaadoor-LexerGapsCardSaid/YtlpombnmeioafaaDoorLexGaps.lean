/- The walk of the law LexerGaps: it returns true. Conditions: the tables of classes and symbols hold what their initialisers lay; the list of bytes lies in memory as the argument says. -/
import Derived.Test.YtlpombnmeioafaaDoorLexConcat
import Derived.Deep.RegionHeld3
import Derived.Deep.AppendLies
set_option linter.unusedVariables false
set_option linter.unusedSimpArgs false
namespace Go.Proofs.YtlpombnmeioafaaDoor.Lx
open Go Go.ChangeShapes Go.WideShapes Go.ChangeAt Go.RowKit Go.PlainAid Go.Lib
/-- The law's gaps. -/
def gapB : Nat → ByteArray
  | 0 => ⟨#[32]⟩
  | 1 => ⟨#[10]⟩
  | 2 => ⟨#[9, 13]⟩
  | 3 => ⟨#[32, 47, 47, 32, 99, 10]⟩
  | _ => ⟨#[32, 47, 47, 32, 69, 85, 82, 10, 32]⟩
theorem gapB_facts (j : Nat) (w : List Int) (h : gapN false w = 0) : (∃ c g', bl (gapB j) = c :: g' ∧ white c = true) ∧ gapN false (bl (gapB j) ++ w) = (bl (gapB j)).length ∧ (gapB j).size ≤ 9 := by
  match j with
  | 0 => exact ⟨⟨32, [], rfl, rfl⟩, by show gapN false (32 :: w) = 1; simp [gapN, white, h], by decide⟩
  | 1 => exact ⟨⟨10, [], rfl, rfl⟩, by show gapN false (10 :: w) = 1; simp [gapN, white, h], by decide⟩
  | 2 => exact ⟨⟨9, [13], rfl, rfl⟩, by show gapN false (9 :: 13 :: w) = 2; simp [gapN, white, h], by decide⟩
  | 3 => exact ⟨⟨32, [47, 47, 32, 99, 10], rfl, rfl⟩, by show gapN false (32 :: 47 :: 47 :: 32 :: 99 :: 10 :: w) = 6; simp [gapN, white, h], by decide⟩
  | _ + 4 => exact ⟨⟨32, [47, 47, 32, 69, 85, 82, 10, 32], rfl, rfl⟩, by show gapN false (32 :: 47 :: 47 :: 32 :: 69 :: 85 :: 82 :: 10 :: 32 :: w) = 9; simp [gapN, white, h], Nat.le_refl 9⟩
/-- The text so far, its tokens. -/
structure Gp (O : ByteArray) (T : List Tok) (acc : List ATok) (k : Nat) : Prop where
  ch : Chn (bl O) 0 T O.size
  tk : toks O T = acc
  ln : T.length = k
theorem Gp.nil : Gp ⟨#[]⟩ [] [] 0 := ⟨rfl, rfl, rfl⟩
theorem Gp.next {O : ByteArray} {T : List Tok} {acc : List ATok} {k : Nat} (h : Gp O T acc k) (j : Nat) {t : ByteArray} {κ : Nat} (ht : meas (bl t) = (κ, t.size)) (hκ : κ ≠ 0) (hg : gapN false (bl t) = 0) :
    Gp (O ++ gapB j ++ t) (T ++ [(κ, O.size + (gapB j).size, t.size)]) (acc ++ [(κ, t, O.size + (gapB j).size)]) (k + 1) := by
  obtain ⟨⟨c, g', e1, e2⟩, e3, e4⟩ := gapB_facts j (bl t) hg
  have hz : (O ++ gapB j ++ t).size = O.size + (gapB j).size + t.size := by rw [← bl_len, bl_app, bl_app, List.length_append, List.length_append, bl_len, bl_len, bl_len]
  have hb : bl (O ++ gapB j ++ t) = bl O ++ (bl (gapB j) ++ bl t) := by rw [bl_app, bl_app, List.append_assoc]
  have hch := Chn.next (A := bl O) (g := bl (gapB j)) (w := bl t) (ts := T) (k := κ) (by rw [bl_len]; exact h.ch) e1 e2 e3 (by rw [bl_len]; exact ht) hκ
  refine ⟨?_, ?_, ?_⟩
  · rw [hb, hz]
    rw [List.length_append, List.length_append, bl_len, bl_len, bl_len, ← Nat.add_assoc] at hch
    exact hch
  · have hends : ∀ x ∈ T, x.2.1 + x.2.2 ≤ O.size := h.ch.ends'
    have hO : toks (O ++ gapB j ++ t) T = acc := by
      rw [toks_left _ _ _ (fun x hx => by
        have := hends x hx
        have hz2 : (O ++ gapB j).size = O.size + (gapB j).size := by rw [← bl_len, bl_app, List.length_append, bl_len, bl_len]
        omega), toks_left _ _ _ hends, h.tk]
    rw [toks_app, hO]
    congr 1
    have hz2 : (O ++ gapB j).size = O.size + (gapB j).size := by rw [← bl_len, bl_app, List.length_append, bl_len, bl_len]
    have hx : (O ++ gapB j ++ t).extract (O.size + (gapB j).size) (O.size + (gapB j).size + t.size) = t := by
      have := ex_right (O ++ gapB j) t 0 t.size
      rw [hz2, Nat.add_zero] at this
      rw [this]; exact ByteArray.extract_zero_size
    show [(κ, (O ++ gapB j ++ t).extract (O.size + (gapB j).size) (O.size + (gapB j).size + t.size), O.size + (gapB j).size)] = _
    rw [hx]
  · rw [List.length_append, h.ln]; rfl
/-- A token of a source, as a text of its own. -/
theorem tok_text {s : ByteArray} {ts : List Tok} {e9 : Nat} (h : Chn (bl s) 0 ts e9) {k κ a m : Nat} (ht : ts[k]? = some (κ, a, m)) : meas (bl (s.extract a (a + m))) = (κ, m) ∧ κ ≠ 0 ∧ gapN false (bl (s.extract a (a + m))) = 0 ∧ a + m ≤ s.size ∧ (s.extract a (a + m)).size = m := by
  obtain ⟨e1, q1, q2, q3, q4, q5, q6⟩ := h.get ht
  simp only at q2 q3 q4 q5
  have hf := meas_facts q4 q5
  rw [List.length_drop, bl_len] at hf
  rw [bl_len] at q3
  have e : bl (s.extract a (a + m)) = ((bl s).drop a).take m := by rw [bl_extract, List.drop_take, Nat.add_sub_cancel_left]
  refine ⟨by rw [e]; exact meas_take q4 q5 (Nat.le_refl _), q5, ?_, by omega, by rw [extract_size']; omega⟩
  rw [e, q2]; exact gap_tok m
/-- A list of bytes that came in. -/
def BytesAt (a : Option Addr) (G : List Nat) (w : World) : Prop := ∀ (i x : Nat), G[i]? = some x → ∃ b o, a = some ⟨b, o, none⟩ ∧ w.cell? ⟨b, o + i, none⟩ = some (.int .u8 x)
theorem BytesAt.below {a : Option Addr} {G : List Nat} {w w' : World} (h : BytesAt a G w) (k : Below w.heap.size w w') : BytesAt a G w' := fun i x hx => by
  obtain ⟨b, o, e, h1⟩ := h i x hx; exact ⟨b, o, e, cell_kept k h1⟩
/-- The list of gaps, as the law lays it. -/
def KAt (kb : Nat) (w : World) : Prop := ∀ j, j < 5 → w.cell? ⟨kb, j, none⟩ = some (.string (gapB j))
theorem KAt.below {kb : Nat} {w w' : World} (h : KAt kb w) (k : Below w.heap.size w w') : KAt kb w' := fun j hj => cell_kept k (h j hj)
abbrev kindsO : Obj := .cells #[.string ⟨#[32]⟩, .string ⟨#[10]⟩, .string ⟨#[9, 13]⟩, .string ⟨#[32, 47, 47, 32, 99, 10]⟩, .string ⟨#[32, 47, 47, 32, 69, 85, 82, 10, 32]⟩] 9
theorem kinds_at (w : World) : KAt w.heap.size (w.alloc kindsO) := fun j hj => by
  rw [World.cell?_alloc_new]
  match j, hj with
  | 0, _ => rfl
  | 1, _ => rfl
  | 2, _ => rfl
  | 3, _ => rfl
  | 4, _ => rfl
set_option maxHeartbeats 32000000 in
set_option maxRecDepth 100000 in
theorem gaps_walk (s : ByteArray) (ga : Option Addr) (gc : Nat) (G : List Nat) (w : World) (hs : s.size ≤ maxLen) (hG : G.length ≤ maxLen) (hG8 : ∀ x ∈ G, x ≤ 255) (zG : BytesAt ga G w) (hT : Tabs w) :
    Calls Tryd.prog 6 #[.string s, .slice ga G.length gc] w fun r w' => r = .returned (.bool true) ∧ Below w.heap.size w w' := by
  unfold maxLen at hs hG
  have HH := Lib.hid (head_any w hT)
  have HT := Lib.hid hT
  have HG := Lib.hid zG
  have HG8 := Lib.hid hG8
  have hs' : s.size ≤ 9223372036854775807 := by omega
  obtain ⟨gn, hgn⟩ : ∃ n, n = G.length := ⟨_, rfl⟩
  rw [← hgn] at hG ⊢
  have HGN := Lib.hid hgn
  clear hgn zG hG8
  by_cases hl : 7000 < s.size
  · have hd : decide ((7000 : Int) < (s.size : Int)) = true := decide_eq_true (by omega)
    clear hT hl
    go_enter Tryd.func6, Tryd.ntmps6
    go_wp2_with (go_at_call 10; (with_reducible refine HH.out.mono ?_); rintro _ w1 ⟨rfl, hb⟩; have HB := Lib.hid hb; clear hb)
    go_ret
    exact ⟨rfl, HB.out⟩
  have hd : decide ((7000 : Int) < (s.size : Int)) = false := decide_eq_false (by omega)
  obtain ⟨ts, er, at_, he, hok, hl2, -⟩ := lex_any' s
  by_cases her : er = 0
  rotate_left
  · have HL := Lib.hid (fun w' h => lex_at s w' hs' h he)
    have hne' : ((er : Int) != 0) = true := by simp; omega
    clear hT he hl hok
    go_enter Tryd.func6, Tryd.ntmps6
    go_wp2_with (first
      | (go_at_call 10; (with_reducible refine HH.out.mono ?_); rintro _ w1 ⟨rfl, hb⟩; have HB := Lib.hid hb; clear hb)
      | (go_at_call 11; (with_reducible refine (HL.out _ (HT.out.below HB.out)).mono ?_); rintro _ w2 ⟨a1, c1, rfl, -, -, -, -, hb⟩; replace HB := Lib.hid (HB.out.trans (hb.mono HB.out.size)); clear hb))
    go_ret
    exact ⟨rfl, HB.out⟩
  subst her
  obtain ⟨-, -, e9, hch, -⟩ := hok rfl
  obtain ⟨n, hn⟩ : ∃ n, n = ts.length := ⟨_, rfl⟩
  have hn2 : n ≤ 2000 := by omega
  have HC := Lib.hid hch
  have HN := Lib.hid hn
  have HL : Hid (∀ w', Tabs w' → Calls Tryd.prog 11 #[.string s] w' fun r w2 => ∃ d c, r = .returned (.tuple #[.slice d n c, .int .i64 0, .int .i64 at_]) ∧ TokAt d (toks s ts) w2 ∧ Below w'.heap.size w' w2) := Lib.hid fun w' h => (lex_at s w' hs' h he).mono fun r w2 ⟨a, c, h1, h2, h3, h4, _, h6⟩ => ⟨a, c, by rw [hn]; exact h1, h2, h6⟩
  obtain ⟨i0, hi, hq0, hq1, hq2⟩ := info_parts Tryd.infoT
  have HI0 := Lib.hid (And.intro hi (And.intro hq0 (And.intro hq1 hq2)))
  have hs7 : s.size ≤ 7000 := by omega
  clear hi hq0 hq1 hq2 hT he hok hl2 hch hn hl hs'
  go_enter Tryd.func6, Tryd.ntmps6
  go_upto_region 8 with (first
    | (go_at_call 10; (with_reducible refine HH.out.mono ?_); rintro _ w1 ⟨rfl, hb⟩; have HB := Lib.hid hb; clear hb)
    | (go_at_call 11; (with_reducible refine (HL.out _ (HT.out.below HB.out)).mono ?_); rintro _ w2 ⟨d1, c1, rfl, z1, hb⟩; replace HB := Lib.hid (HB.out.trans (hb.mono HB.out.size)); have HZ1 := Lib.hid z1; clear hb z1))
  change Code.wp _ _ _ _ (w2.alloc kindsO)
  have HK := Lib.hid (kinds_at w2)
  have HB3 := Lib.hid (HB.out.trans ((alloc_below w2 kindsO).mono HB.out.size))
  have HZ3 := Lib.hid (HZ1.out.below (alloc_below w2 kindsO))
  generalize w2.alloc kindsO = w3 at *
  generalize w2.heap.size = kb at *
  clear HB HZ1 HH
  go_wp2
  go_loopg [10, 11, 12] n (fun g s10 s11 s12 wx => ∃ (i : Nat) (O : ByteArray) (T : List Tok) (acc : List ATok), i + g = n ∧ s10 = .string O ∧ s12 = .int .i64 i ∧ O.size ≤ i * 7100 ∧ acc.length = i ∧ Hid (Gp O T acc i) ∧ Hid (RowT wx w3.heap.size s11 acc) ∧ Hid (Below w3.heap.size w3 wx))
  case atStart => exact ⟨0, ⟨#[]⟩, [], [], by omega, rfl, rfl, Nat.zero_le _, rfl, Lib.hid Gp.nil, Lib.hid (RowT.nil _ _), Lib.hid (Below.refl _ _)⟩
  case round =>
    obtain ⟨i, O, T, acc, hi, rfl, rfl, hO, hal, HGP, HR, HBW⟩ := hrel
    have hin2 : i ≤ 2000 := by omega
    cases gk with
    | zero =>
      obtain rfl : i = n := by omega
      have hlt : ¬ (i : Int) < (i : Int) := by omega
      obtain ⟨a7, c7, e7, z7, -, -, -⟩ := HR.out.toks
      rw [hal] at e7
      subst e7
      have HZ7 := Lib.hid z7
      have hOs : O.size ≤ 9223372036854775807 := by omega
      have HSM := Lib.hid (fun d e cd ce w' => same_any d e cd ce i acc w' hal.symm (by omega))
      clear z7
      by_cases hbig : 6000 < O.size
      · have hdb : decide ((6000 : Int) < (O.size : Int)) = true := decide_eq_true (by omega)
        go_wp2
        go_ret
        exact ⟨rfl, HB3.out.trans (HBW.out.mono HB3.out.size)⟩
      · have hdb : decide ((6000 : Int) < (O.size : Int)) = false := decide_eq_false (by omega)
        have hokO : Ok (bl O) T := ok_end (by rw [bl_len]; exact HGP.out.ch) (by rw [bl_len]; omega) (by rw [HGP.out.ln]; omega)
        have HL9 : Hid (∀ w', Tabs w' → Calls Tryd.prog 11 #[.string O] w' fun r w2 => ∃ d c, r = .returned (.tuple #[.slice d i c, .int .i64 0, .int .i64 0]) ∧ TokAt d acc w2 ∧ Below w'.heap.size w' w2) := Lib.hid fun w' h => (lex_at O w' hOs h (ok_lex hokO)).mono fun r w2 ⟨a, c, h1, h2, h3, h4, _, h6⟩ => ⟨a, c, by rw [← HGP.out.ln]; exact h1, by rw [← HGP.out.tk]; exact h2, h6⟩
        clear hokO
        go_wp2_with (first
          | (go_at_call 11; (with_reducible refine (HL9.out _ (HT.out.below (HB3.out.trans (HBW.out.mono HB3.out.size)))).mono ?_); rintro _ w9 ⟨d9, c9, rfl, z9, hb9⟩; have HB9 := Lib.hid hb9; have HZ9 := Lib.hid z9; clear hb9 z9)
          | (go_at_call 13; (with_reducible refine (HSM.out _ _ _ _ _ HZ9.out (HZ7.out.below HB9.out)).mono ?_); rintro _ w8 ⟨rfl, hb⟩; have HB8 := Lib.hid (HB9.out.trans (hb.below.mono HB9.out.size)); clear hb))
        go_ret
        exact ⟨rfl, HB3.out.trans ((HBW.out.trans (HB8.out.mono HBW.out.size)).mono HB3.out.size)⟩
    | succ g =>
      have hlt : (i : Int) < (n : Int) := by omega
      have hin : i < n := by omega
      obtain ⟨⟨κ, p, m⟩, ht⟩ : ∃ x, ts[i]? = some x := ⟨_, List.getElem?_eq_getElem (by have := HN.out; omega)⟩
      obtain ⟨t1, t2, t3, t4, t5⟩ := tok_text HC.out ht
      obtain ⟨bb, off, rfl, c0, c1', c2⟩ := (HZ3.out.below HBW.out) i (κ, s.extract p (p + m), p) (by unfold toks; rw [List.getElem?_map, ht]; rfl)
      have HXL := Lib.hid (show (toks s ts)[i]? = some (κ, s.extract p (p + m), p) by unfold toks; rw [List.getElem?_map, ht]; rfl)
      generalize s.extract p (p + m) = X at *
      rw [← t5] at t1
      have HNX := Lib.hid (fun j => HGP.out.next j t1 t2 t3)
      have hX : X.size ≤ 7000 := by omega
      have hi0 : (0 : Int) ≤ (i : Int) := by omega
      clear t1 t2 t3 t4 t5 ht c2
      by_cases hgl : i < gn
      · have hdg : decide ((i : Int) < (gn : Int)) = true := decide_eq_true (by omega)
        obtain ⟨x, hx⟩ : ∃ x, G[i]? = some x := ⟨_, List.getElem?_eq_getElem (by have := HGN.out; omega)⟩
        obtain ⟨gb, go, rfl, cg⟩ := ((HG.out.below HB3.out).below HBW.out) i x hx
        have hx8 := HG8.out x (List.mem_of_getElem? hx)
        have hx9 : (x : Int) ≤ 255 := by omega
        have hx0 : (0 : Int) ≤ (x : Int) := by omega
        obtain ⟨j, hj⟩ : ∃ j, j = x % 5 := ⟨_, rfl⟩
        have hj5 : j < 5 := by omega
        have hr1 : (x : Int) % 5 = (j : Int) := by rw [hj]; exact (Int.natCast_emod x 5).symm
        have hr2 : Int.tmod (x : Int) 5 = (j : Int) := by rw [Int.tmod_eq_emod_of_nonneg (by omega)]; exact hr1
        have ck := (HK.out.below HBW.out) j hj5
        obtain ⟨Q, hQ⟩ : ∃ Q, Q = gapB j := ⟨_, rfl⟩
        rw [← hQ] at ck
        have HNJ := Lib.hid (HNX.out j)
        rw [← hQ] at HNJ
        have hq9 : Q.size ≤ 9 := by rw [hQ]; exact (gapB_facts j [] rfl).2.2
        clear hx hj hQ HNX
        have hz2 : (O ++ Q).size = O.size + Q.size := by rw [← bl_len, bl_app, List.length_append, bl_len, bl_len]
        have hz3 : (O ++ Q ++ X).size = O.size + Q.size + X.size := by rw [← bl_len, bl_app, List.length_append, bl_len, bl_len, hz2]
        have HSZ := Lib.hid (show (O ++ Q ++ X).size ≤ (i + 1) * 7100 by rw [hz3]; omega)
        obtain ⟨P, hP⟩ : ∃ P, P = O.size + Q.size := ⟨_, rfl⟩
        rw [← hP] at HNJ hz2 hz3
        have hPb : P ≤ 20000000 := by omega
        have HPP := Lib.hid hP
        clear hP
        have hrow : World.ownsRow ((wr.drew).alloc (.cells #[.int .i64 κ, .string X, .int .i64 P] 30)) w3.heap.size 30 3 u11 i (flatT acc) := by
          have h := (HR.out.below (Drw.below ⟨1, rfl⟩ : Below wr.heap.size wr wr.drew)).below (alloc_below wr.drew (.cells #[.int .i64 κ, .string X, .int .i64 P] 30))
          unfold RowT at h
          rw [hal] at h
          exact h
        have hbx : Below w3.heap.size w3 ((wr.drew).alloc (.cells #[.int .i64 κ, .string X, .int .i64 P] 30)) := HBW.out.drew.alloc HBW.out.size _
        have HRO := Lib.hid (And.intro hrow hbx)
        clear hrow hbx
        go_upto_region 16 with (fail)
        go_region_held3 (fun w' => w'.cell? ⟨bb, off + i * 3, none⟩ = some (.int .i64 κ) ∧ w'.cell? ⟨bb, off + i * 3 + 1, none⟩ = some (.string X))
          (first
            | go_keep
            | exact HS9.out)
          ((refine step_append_lies _ (by rfl) _ _ _ (by rfl) w3.heap.size 30 i0 (.agg #[.int .i64 0, .string ⟨#[]⟩, .int .i64 0]) 3 32 Tryd.underT HI0.out.1 HI0.out.2.1 HI0.out.2.2.1 HI0.out.2.2.2 rfl (by decide) _ i (flatT acc) (by rfl) HRO.out.1 ⟨wr.heap.size, 0, none⟩ 1 1 [.int .i64 κ, .string X, .int .i64 P] (by rfl) (by rfl)
              (World.news_of_block (cs := #[.int .i64 κ, .string X, .int .i64 P]) (t := 30) (fr := (0, 0)) (heap_alloc_new wr.drew _)) (fun u hu => by simp only [List.mem_cons, List.not_mem_nil, or_false] at hu; rcases hu with rfl | rfl | rfl <;> rfl) (by omega) (by unfold maxLen; omega) (by omega) (HRO.out.2.size) (wr.heap.size + 1) (by simp) ?_
            intro g9 c9 w9 hown hgrow hat hg9
            have hB9 := Lib.hid (row_grown HRO.out.2 HRO.out.1 hgrow (Nat.le_refl _))
            have HO9 := Lib.hid hown
            have HS9 := Lib.hid (show w9.cell? ⟨bb, off + i * 3, none⟩ = some (.int .i64 κ) ∧ w9.cell? ⟨bb, off + i * 3 + 1, none⟩ = some (.string X) by
              obtain ⟨b3, o3, e3, q0, q1, q2⟩ := (HZ3.out.below hB9.out) i (κ, X, p) HXL.out
              cases e3
              exact ⟨q0, q1⟩)
            clear hown hgrow hat hg9))
        have q1 := HS9.out.2
        have hRT : RowT w9 w3.heap.size (.slice (some ⟨g9, 0, none⟩) (i + 1) c9) (acc ++ [(κ, X, P)]) := RowT.app hal.symm rfl HO9.out
        have HRT := Lib.hid hRT
        clear hRT
        go_wp2
        go_roundg g
        case measure => omega
        case rel => exact ⟨i + 1, _, _, _, by omega, rfl, by go_num, HSZ.out, by rw [List.length_append, hal]; rfl, HNJ, HRT, hB9⟩
      · have hdg : decide ((i : Int) < (gn : Int)) = false := decide_eq_false (by omega)
        have HNJ := Lib.hid (HNX.out 0)
        have hQ0 : gapB 0 = ⟨#[32]⟩ := rfl
        rw [hQ0] at HNJ
        have hq9 : (⟨#[32]⟩ : ByteArray).size ≤ 9 := by decide
        clear HNX hQ0
        have hz2 : (O ++ (⟨#[32]⟩ : ByteArray)).size = O.size + (⟨#[32]⟩ : ByteArray).size := by rw [← bl_len, bl_app, List.length_append, bl_len, bl_len]
        have hz3 : (O ++ (⟨#[32]⟩ : ByteArray) ++ X).size = O.size + (⟨#[32]⟩ : ByteArray).size + X.size := by rw [← bl_len, bl_app, List.length_append, bl_len, bl_len, hz2]
        have HSZ := Lib.hid (show (O ++ (⟨#[32]⟩ : ByteArray) ++ X).size ≤ (i + 1) * 7100 by rw [hz3]; omega)
        obtain ⟨P, hP⟩ : ∃ P, P = O.size + (⟨#[32]⟩ : ByteArray).size := ⟨_, rfl⟩
        rw [← hP] at HNJ hz2 hz3
        have hPb : P ≤ 20000000 := by omega
        have HPP := Lib.hid hP
        clear hP
        have hrow : World.ownsRow ((wr.drew).alloc (.cells #[.int .i64 κ, .string X, .int .i64 P] 30)) w3.heap.size 30 3 u11 i (flatT acc) := by
          have h := (HR.out.below (Drw.below ⟨1, rfl⟩ : Below wr.heap.size wr wr.drew)).below (alloc_below wr.drew (.cells #[.int .i64 κ, .string X, .int .i64 P] 30))
          unfold RowT at h
          rw [hal] at h
          exact h
        have hbx : Below w3.heap.size w3 ((wr.drew).alloc (.cells #[.int .i64 κ, .string X, .int .i64 P] 30)) := HBW.out.drew.alloc HBW.out.size _
        have HRO := Lib.hid (And.intro hrow hbx)
        clear hrow hbx
        go_upto_region 16 with (fail)
        go_region_held3 (fun w' => w'.cell? ⟨bb, off + i * 3, none⟩ = some (.int .i64 κ) ∧ w'.cell? ⟨bb, off + i * 3 + 1, none⟩ = some (.string X))
          (first
            | go_keep
            | exact HS9.out)
          ((refine step_append_lies _ (by rfl) _ _ _ (by rfl) w3.heap.size 30 i0 (.agg #[.int .i64 0, .string ⟨#[]⟩, .int .i64 0]) 3 32 Tryd.underT HI0.out.1 HI0.out.2.1 HI0.out.2.2.1 HI0.out.2.2.2 rfl (by decide) _ i (flatT acc) (by rfl) HRO.out.1 ⟨wr.heap.size, 0, none⟩ 1 1 [.int .i64 κ, .string X, .int .i64 P] (by rfl) (by rfl)
              (World.news_of_block (cs := #[.int .i64 κ, .string X, .int .i64 P]) (t := 30) (fr := (0, 0)) (heap_alloc_new wr.drew _)) (fun u hu => by simp only [List.mem_cons, List.not_mem_nil, or_false] at hu; rcases hu with rfl | rfl | rfl <;> rfl) (by omega) (by unfold maxLen; omega) (by omega) (HRO.out.2.size) (wr.heap.size + 1) (by simp) ?_
            intro g9 c9 w9 hown hgrow hat hg9
            have hB9 := Lib.hid (row_grown HRO.out.2 HRO.out.1 hgrow (Nat.le_refl _))
            have HO9 := Lib.hid hown
            have HS9 := Lib.hid (show w9.cell? ⟨bb, off + i * 3, none⟩ = some (.int .i64 κ) ∧ w9.cell? ⟨bb, off + i * 3 + 1, none⟩ = some (.string X) by
              obtain ⟨b3, o3, e3, q0, q1, q2⟩ := (HZ3.out.below hB9.out) i (κ, X, p) HXL.out
              cases e3
              exact ⟨q0, q1⟩)
            clear hown hgrow hat hg9))
        have q1 := HS9.out.2
        have hRT : RowT w9 w3.heap.size (.slice (some ⟨g9, 0, none⟩) (i + 1) c9) (acc ++ [(κ, X, P)]) := RowT.app hal.symm rfl HO9.out
        have HRT := Lib.hid hRT
        clear hRT
        go_wp2
        go_roundg g
        case measure => omega
        case rel => exact ⟨i + 1, _, _, _, by omega, rfl, by go_num, HSZ.out, by rw [List.length_append, hal]; rfl, HNJ, HRT, hB9⟩
end Go.Proofs.YtlpombnmeioafaaDoor.Lx
