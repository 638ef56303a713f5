/- The laws' fixed examples: head returns true. Condition: the tables of classes and symbols hold what their initialisers lay. -/
import Derived.Test.YtlpombnmeioafaaDoorLexLex
set_option linter.unusedVariables false
set_option linter.unusedSimpArgs false
namespace Go.Proofs.YtlpombnmeioafaaDoor.Lx
open Go Go.RowKit Go.PlainAid
theorem lex_at (s : ByteArray) (w : World) (hs : s.size ≤ 9223372036854775807) (hT : Tabs w) {ts : List Tok} {e a : Nat} (h : lexL (bl s) = (ts, e, a)) :
    Calls Tryd.prog 11 #[.string s] w (LexPost s (ts, e, a) w) := h ▸ lex_any s w hs hT
set_option maxHeartbeats 2000000 in
theorem fails_any (s : ByteArray) (w : World) (hs : s.size ≤ 9223372036854775807) (hT : Tabs w) {e a : Nat} (h : lexL (bl s) = ([], e, a)) :
    Calls Tryd.prog 18 #[.string s, .int .i64 e, .int .i64 a] w fun r w' => r = .returned (.bool true) ∧ Below w.heap.size w w' := by
  have H := Lib.hid (lex_at s w hs hT h)
  have h1 : ((e : Int) == (e : Int)) = true := by simp
  have h2 : ((a : Int) == (a : Int)) = true := by simp
  clear h hT hs
  go_enter Tryd.func18, Tryd.ntmps18
  go_wp2_with ((with_reducible refine H.out.mono ?_); rintro _ w1 ⟨a1, c1, rfl, -, -, -, -, hb⟩; have HB := Lib.hid hb; clear hb)
  go_ret
  exact ⟨rfl, HB.out⟩
/-- A list of texts, or of numbers, as a literal lays it. -/
def StrsAt (a : Option Addr) (S : List ByteArray) (w : World) : Prop := ∀ (i : Nat) (x : ByteArray), S[i]? = some x → ∃ b, a = some ⟨b, 0, none⟩ ∧ w.cell? ⟨b, i, none⟩ = some (.string x)
def NumsAt (a : Option Addr) (S : List Nat) (w : World) : Prop := ∀ (i : Nat) (x : Nat), S[i]? = some x → ∃ b, a = some ⟨b, 0, none⟩ ∧ w.cell? ⟨b, i, none⟩ = some (.int .i64 x)
theorem StrsAt.below {a : Option Addr} {S : List ByteArray} {w w' : World} (h : StrsAt a S w) (k : Below w.heap.size w w') : StrsAt a S w' := fun i x hx => by obtain ⟨b, e, hc⟩ := h i x hx; exact ⟨b, e, cell_kept k hc⟩
theorem NumsAt.below {a : Option Addr} {S : List Nat} {w w' : World} (h : NumsAt a S w) (k : Below w.heap.size w w') : NumsAt a S w' := fun i x hx => by obtain ⟨b, e, hc⟩ := h i x hx; exact ⟨b, e, cell_kept k hc⟩
set_option maxHeartbeats 4000000 in
theorem texts_any (s : ByteArray) (a b : Option Addr) (ca cb n : Nat) (ts : List Tok) (w : World) (hs : s.size ≤ 9223372036854775807) (hT : Tabs w) (h : lexL (bl s) = (ts, 0, 0)) (hn : n = ts.length) (hn2 : n ≤ 2000)
    (zS : StrsAt a ((toks s ts).map (·.2.1)) w) (zN : NumsAt b ((toks s ts).map (·.2.2)) w) :
    Calls Tryd.prog 17 #[.string s, .slice a n ca, .slice b n cb] w fun r w' => r = .returned (.bool true) ∧ Below w.heap.size w w' := by
  obtain ⟨L, hL⟩ : ∃ L, L = toks s ts := ⟨_, rfl⟩
  have hLn : L.length = n := by rw [hL, toks_len, hn]
  rw [← hL] at zS zN
  have H0 := lex_at s w hs hT h
  have H : Hid (Calls Tryd.prog 11 #[.string s] w fun r w' => ∃ a c, r = .returned (.tuple #[.slice a n c, .int .i64 0, .int .i64 0]) ∧ TokAt a L w' ∧ Below w.heap.size w w') := Lib.hid (H0.mono fun r w' ⟨a, c, h1, h2, h3, h4, h5, h6⟩ => ⟨a, c, by rw [hn]; exact h1, by rw [hL]; exact h2, h6⟩)
  have HS := Lib.hid zS
  have HN := Lib.hid zN
  have HLN := Lib.hid hLn
  clear h hT hs H0 hL hLn zS zN hn
  have hq : ((n : Int) != (n : Int)) = false := by simp
  go_enter Tryd.func17, Tryd.ntmps17
  go_wp2_with ((with_reducible refine H.out.mono ?_); rintro _ w1 ⟨a1, c1, rfl, hta, hb⟩; have HB := Lib.hid hb; have HTA := Lib.hid hta; clear hb hta)
  go_loopw [10] (fun i W => ∃ k : Nat, k ≤ n ∧ i = .int .i64 k ∧ Hid (Drw w1 W)) (fun i W => n - (intOf i).toNat)
  case atStart => exact ⟨0, Nat.zero_le _, rfl, Lib.hid (Drw.refl _)⟩
  case round =>
    obtain ⟨k, hk, rfl, hq2⟩ := hrel
    by_cases hlt : k < n
    · obtain ⟨x, hx⟩ : ∃ x, L[k]? = some x := ⟨_, List.getElem?_eq_getElem (by rw [HLN.out]; exact hlt)⟩
      have hb2 := HB.out.trans (hq2.out.below.mono HB.out.size)
      obtain ⟨g1, o1, rfl, t0, t1, t2⟩ := (HTA.out.below hq2.out.below) k x hx
      obtain ⟨g2, rfl, t3⟩ := (HS.out.below hb2) k x.2.1 (by rw [List.getElem?_map, hx]; rfl)
      obtain ⟨g3, rfl, t4⟩ := (HN.out.below hb2) k x.2.2 (by rw [List.getElem?_map, hx]; rfl)
      have e1 : (x.2.1.toList != x.2.1.toList) = false := by simp
      have e2 : ((x.2.2 : Int) != (x.2.2 : Int)) = false := by simp
      have hk0 : (0 : Int) ≤ (k : Int) := by omega
      clear hb2 hx
      go_wp2
      go_quiet (fail)
      go_wp2
      go_roundw
      case rel => exact ⟨k + 1, by omega, by go_num, Lib.hid (hq2.out.drewN _)⟩
      case measure => simp [intOf]; omega
    · go_wp2
      go_ret
      exact ⟨rfl, HB.out.trans (hq2.out.below.mono HB.out.size)⟩
theorem lit_strs (W : World) (S : List ByteArray) (t : TypeId) (o : Obj) (A : Array Value) (hA : A = (S.map .string).toArray) : StrsAt (some ⟨W.heap.size, 0, none⟩) S ((W.alloc (.cells A t)).alloc o) := fun i x hx => by
  subst hA
  refine ⟨_, rfl, ?_⟩
  rw [World.cell?_alloc_lt _ _ _ (by simp), World.cell?_alloc_new, List.getElem?_toArray, List.getElem?_map, hx]; rfl
theorem lit_nums (W : World) (S : List Nat) (t : TypeId) (o : Obj) (A : Array Value) (hA : A = (S.map fun n => .int .i64 n).toArray) : NumsAt (some ⟨W.heap.size + 1, 0, none⟩) S ((W.alloc o).alloc (.cells A t)) := fun i x hx => by
  subst hA
  refine ⟨_, rfl, ?_⟩
  have h := World.cell?_alloc_new (w := W.alloc o)
  simp only [World.size_alloc] at h
  rw [h, List.getElem?_toArray, List.getElem?_map, hx]; rfl
theorem ex0 (W : World) (hT : Tabs W) : Calls Tryd.prog 17 #[.string ⟨#[104, 111, 117, 114, 115, 32, 62, 61, 32, 56, 32, 109, 105, 110, 32, 47, 47, 32, 120]⟩, .slice (some ⟨W.heap.size, 0, none⟩) 4 4, .slice (some ⟨W.heap.size + 1, 0, none⟩) 4 4] ((W.alloc (.cells #[.string ⟨#[104, 111, 117, 114, 115]⟩, .string ⟨#[62, 61]⟩, .string ⟨#[56]⟩, .string ⟨#[109, 105, 110]⟩] 9)).alloc (.cells #[.int .i64 0, .int .i64 6, .int .i64 9, .int .i64 11] 3)) fun r w' => r = .returned (.bool true) ∧ Below W.heap.size W w' := by
  have k : Below W.heap.size W ((W.alloc (.cells #[.string ⟨#[104, 111, 117, 114, 115]⟩, .string ⟨#[62, 61]⟩, .string ⟨#[56]⟩, .string ⟨#[109, 105, 110]⟩] 9)).alloc (.cells #[.int .i64 0, .int .i64 6, .int .i64 9, .int .i64 11] 3)) := ((Below.refl _ _).alloc (Nat.le_refl _) _).alloc (by simp) _
  refine (texts_any ⟨#[104, 111, 117, 114, 115, 32, 62, 61, 32, 56, 32, 109, 105, 110, 32, 47, 47, 32, 120]⟩ _ _ _ _ _ [(1, 0, 5), (6, 6, 2), (3, 9, 1), (1, 11, 3)] _ (by decide) (hT.below k) (by decide +kernel) rfl (by decide) (lit_strs W _ _ _ _ ?_) (lit_nums W _ _ _ _ ?_)).mono fun r w' ⟨h1, h2⟩ => ⟨h1, k.trans (h2.mono k.size)⟩
  · rfl
  · rfl
theorem ex1 (W : World) (hT : Tabs W) : Calls Tryd.prog 17 #[.string ⟨#[69, 85, 82, 32, 49, 50, 46, 53, 48, 42, 50]⟩, .slice (some ⟨W.heap.size, 0, none⟩) 4 4, .slice (some ⟨W.heap.size + 1, 0, none⟩) 4 4] ((W.alloc (.cells #[.string ⟨#[69, 85, 82]⟩, .string ⟨#[49, 50, 46, 53, 48]⟩, .string ⟨#[42]⟩, .string ⟨#[50]⟩] 9)).alloc (.cells #[.int .i64 0, .int .i64 4, .int .i64 9, .int .i64 10] 3)) fun r w' => r = .returned (.bool true) ∧ Below W.heap.size W w' := by
  have k : Below W.heap.size W ((W.alloc (.cells #[.string ⟨#[69, 85, 82]⟩, .string ⟨#[49, 50, 46, 53, 48]⟩, .string ⟨#[42]⟩, .string ⟨#[50]⟩] 9)).alloc (.cells #[.int .i64 0, .int .i64 4, .int .i64 9, .int .i64 10] 3)) := ((Below.refl _ _).alloc (Nat.le_refl _) _).alloc (by simp) _
  refine (texts_any ⟨#[69, 85, 82, 32, 49, 50, 46, 53, 48, 42, 50]⟩ _ _ _ _ _ [(2, 0, 3), (4, 4, 5), (6, 9, 1), (3, 10, 1)] _ (by decide) (hT.below k) (by decide +kernel) rfl (by decide) (lit_strs W _ _ _ _ ?_) (lit_nums W _ _ _ _ ?_)).mono fun r w' ⟨h1, h2⟩ => ⟨h1, k.trans (h2.mono k.size)⟩
  · rfl
  · rfl
theorem ex2 (W : World) (hT : Tabs W) : Calls Tryd.prog 17 #[.string ⟨#[50, 48, 50, 52, 45, 48, 50, 45, 51, 48]⟩, .slice (some ⟨W.heap.size, 0, none⟩) 1 1, .slice (some ⟨W.heap.size + 1, 0, none⟩) 1 1] ((W.alloc (.cells #[.string ⟨#[50, 48, 50, 52, 45, 48, 50, 45, 51, 48]⟩] 9)).alloc (.cells #[.int .i64 0] 3)) fun r w' => r = .returned (.bool true) ∧ Below W.heap.size W w' := by
  have k : Below W.heap.size W ((W.alloc (.cells #[.string ⟨#[50, 48, 50, 52, 45, 48, 50, 45, 51, 48]⟩] 9)).alloc (.cells #[.int .i64 0] 3)) := ((Below.refl _ _).alloc (Nat.le_refl _) _).alloc (by simp) _
  refine (texts_any ⟨#[50, 48, 50, 52, 45, 48, 50, 45, 51, 48]⟩ _ _ _ _ _ [(5, 0, 10)] _ (by decide) (hT.below k) (by decide +kernel) rfl (by decide) (lit_strs W _ _ _ _ ?_) (lit_nums W _ _ _ _ ?_)).mono fun r w' ⟨h1, h2⟩ => ⟨h1, k.trans (h2.mono k.size)⟩
  · rfl
  · rfl
theorem fl0 (W : World) (hT : Tabs W) : Calls Tryd.prog 18 #[.string ⟨#[50, 48, 50, 52, 45, 48, 50]⟩, .int .i64 61, .int .i64 5] W fun r w' => r = .returned (.bool true) ∧ Below W.heap.size W w' := fails_any ⟨#[50, 48, 50, 52, 45, 48, 50]⟩ W (by decide) hT (e := 61) (a := 5) (by decide +kernel)
theorem fl1 (W : World) (hT : Tabs W) : Calls Tryd.prog 18 #[.string ⟨#[49, 50, 46, 53]⟩, .int .i64 61, .int .i64 0] W fun r w' => r = .returned (.bool true) ∧ Below W.heap.size W w' := fails_any ⟨#[49, 50, 46, 53]⟩ W (by decide) hT (e := 61) (a := 0) (by decide +kernel)
theorem fl2 (W : World) (hT : Tabs W) : Calls Tryd.prog 18 #[.string ⟨#[48, 48, 55]⟩, .int .i64 61, .int .i64 0] W fun r w' => r = .returned (.bool true) ∧ Below W.heap.size W w' := fails_any ⟨#[48, 48, 55]⟩ W (by decide) hT (e := 61) (a := 0) (by decide +kernel)
theorem fl3 (W : World) (hT : Tabs W) : Calls Tryd.prog 18 #[.string ⟨#[69, 85, 82, 79]⟩, .int .i64 61, .int .i64 0] W fun r w' => r = .returned (.bool true) ∧ Below W.heap.size W w' := fails_any ⟨#[69, 85, 82, 79]⟩ W (by decide) hT (e := 61) (a := 0) (by decide +kernel)
theorem fl4 (W : World) (hT : Tabs W) : Calls Tryd.prog 18 #[.string ⟨#[97, 33, 98]⟩, .int .i64 61, .int .i64 1] W fun r w' => r = .returned (.bool true) ∧ Below W.heap.size W w' := fails_any ⟨#[97, 33, 98]⟩ W (by decide) hT (e := 61) (a := 1) (by decide +kernel)
theorem exNil (W : World) (hT : Tabs W) : Calls Tryd.prog 17 #[.string ⟨#[]⟩, .slice none 0 0, .slice none 0 0] W fun r w' => r = .returned (.bool true) ∧ Below W.heap.size W w' :=
  texts_any ⟨#[]⟩ none none 0 0 0 [] W (by decide) hT (by decide +kernel) rfl (by decide) (fun i x hx => by simp [toks] at hx) (fun i x hx => by simp [toks] at hx)
set_option maxHeartbeats 8000000 in
theorem head_any (w : World) (hT : Tabs w) : Calls Tryd.prog 10 #[] w fun r w' => r = .returned (.bool true) ∧ Below w.heap.size w w' := by
  have HT := Lib.hid hT
  have HB := Lib.hid (Below.refl w.heap.size w)
  clear hT
  have E0 := Lib.hid ex0
  have E1 := Lib.hid ex1
  have E2 := Lib.hid ex2
  have G0 := Lib.hid fl0
  have G1 := Lib.hid fl1
  have G2 := Lib.hid fl2
  have G3 := Lib.hid fl3
  have G4 := Lib.hid fl4
  have EN := Lib.hid exNil
  go_enter Tryd.func10, Tryd.ntmps10
  go_wp2_with (first
    | (go_at_call 17; (with_reducible refine (E0.out _ HT.out).mono ?_); rintro _ v0 ⟨rfl, hb⟩; replace HT := Lib.hid (HT.out.below hb); replace HB := Lib.hid (HB.out.trans (hb.mono HB.out.size)); clear hb)
    | (go_at_call 17; (with_reducible refine (E1.out _ HT.out).mono ?_); rintro _ v1 ⟨rfl, hb⟩; replace HT := Lib.hid (HT.out.below hb); replace HB := Lib.hid (HB.out.trans (hb.mono HB.out.size)); clear hb)
    | (go_at_call 17; (with_reducible refine (E2.out _ HT.out).mono ?_); rintro _ v2 ⟨rfl, hb⟩; replace HT := Lib.hid (HT.out.below hb); replace HB := Lib.hid (HB.out.trans (hb.mono HB.out.size)); clear hb)
    | (go_at_call 18; (with_reducible refine (G0.out _ HT.out).mono ?_); rintro _ u0 ⟨rfl, hb⟩; replace HT := Lib.hid (HT.out.below hb); replace HB := Lib.hid (HB.out.trans (hb.mono HB.out.size)); clear hb)
    | (go_at_call 18; (with_reducible refine (G1.out _ HT.out).mono ?_); rintro _ u1 ⟨rfl, hb⟩; replace HT := Lib.hid (HT.out.below hb); replace HB := Lib.hid (HB.out.trans (hb.mono HB.out.size)); clear hb)
    | (go_at_call 18; (with_reducible refine (G2.out _ HT.out).mono ?_); rintro _ u2 ⟨rfl, hb⟩; replace HT := Lib.hid (HT.out.below hb); replace HB := Lib.hid (HB.out.trans (hb.mono HB.out.size)); clear hb)
    | (go_at_call 18; (with_reducible refine (G3.out _ HT.out).mono ?_); rintro _ u3 ⟨rfl, hb⟩; replace HT := Lib.hid (HT.out.below hb); replace HB := Lib.hid (HB.out.trans (hb.mono HB.out.size)); clear hb)
    | (go_at_call 18; (with_reducible refine (G4.out _ HT.out).mono ?_); rintro _ u4 ⟨rfl, hb⟩; replace HT := Lib.hid (HT.out.below hb); replace HB := Lib.hid (HB.out.trans (hb.mono HB.out.size)); clear hb)
    | (go_at_call 17; (with_reducible refine (EN.out _ HT.out).mono ?_); rintro _ vn ⟨rfl, hb⟩; replace HT := Lib.hid (HT.out.below hb); replace HB := Lib.hid (HB.out.trans (hb.mono HB.out.size)); clear hb))
  go_ret
  exact ⟨rfl, HB.out⟩
end Go.Proofs.YtlpombnmeioafaaDoor.Lx
