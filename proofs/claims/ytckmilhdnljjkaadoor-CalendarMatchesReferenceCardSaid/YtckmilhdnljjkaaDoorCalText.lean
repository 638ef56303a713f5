/- What calendar.Text, twoDigits and strconv.Itoa (at the numbers that Text hands over) return. Conditions: the table of the days before each month and the library's table of powers of ten hold what their initialisers lay. -/
import Derived.Test.YtckmilhdnljjkaaDoorCalWalk2
import Derived.Test.YtckmilhdnljjkaaDoorShelf
import Derived.Lib.LaidTab
import Derived.WalkLawsBesides
namespace Go.Proofs.YtckmilhdnljjkaaDoor.Cal
open Go.RowKit Go.Sort
theorem block_then {a b c : World} (h : Below a.heap.size a b) (k : Below b.heap.size b c) : Below a.heap.size a c := h.trans (k.mono h.size)
theorem cell_kept {w w' : World} (hb : Below w.heap.size w w') {a : Addr} {v : Value} (hc : w.cell? a = some v) : w'.cell? a = some v := (hb.cell (World.block_lt_of_cell? w a hc)).trans hc
theorem tab_kept {P : Program} {n : String} {g : Nat} {k : IntKind} {zs : List Int} {w w' : World} (hg : P.globalNamed n = some g) (h : Lib.TabIs P w n k zs) (hb : Below w.heap.size w w') : Lib.TabIs P w' n k zs := by
  unfold Lib.TabIs World.var? at h ⊢
  rw [hg] at h ⊢
  simp only [Option.bind_some] at h ⊢
  have hlt : g < w.heap.size := by
    rcases Nat.lt_or_ge g w.heap.size with h' | h'
    · exact h'
    · rw [Array.getElem?_eq_none h'] at h; cases h
  rw [hb.block g hlt]
  exact h
theorem below_drewN {B : Nat} {a w : World} (h : Below B a w) (n : Nat) : Below B a (w.drewN n) := h.trans ⟨rfl, rfl, rfl, Nat.le_refl _, fun _ _ => rfl⟩
theorem below_grow (w : World) (os : Array Obj) : Below w.heap.size w (grow w os) :=
  ⟨rfl, rfl, rfl, by simp [grow], fun k hk => by simp [grow, Array.getElem?_append, hk]⟩
/-- The tables that the calendar reads. -/
structure Ok (w : World) : Prop where
  tab : HasTab w
  pow : Lib.TabIs Tryd.prog w "internal/strconv.uint64pow10" .u64 Lib.pow10Tab
theorem gPow : Tryd.prog.globalNamed "internal/strconv.uint64pow10" = some 1 := by kernel_rfl
theorem Ok.below {w w' : World} (h : Ok w) (hb : Below w.heap.size w w') : Ok w' :=
  ⟨fun k hk => cell_kept hb (h.tab k hk), tab_kept gPow h.pow hb⟩
/-- A decimal digit. -/
def dig (n : Int) : UInt8 := UInt8.ofNat (48 + n.toNat)
theorem dec_small (i : Nat) (h : i < 10) : Lib.decDigits i = [UInt8.ofNat (48 + i)] := by rw [Lib.decDigits, dif_pos h]
theorem itoa_small (n : Int) (h0 : 0 ≤ n) (h1 : n < 10) : Lib.decDigits n.toNat = [dig n] := by rw [dec_small _ (by omega)]; rfl
theorem itoa_year (c : Int) (h0 : 0 ≤ c) (h1 : c ≤ 99) : Lib.itoa (2000 + c) = [50, 48, dig (c / 10), dig (c % 10)] := by
  obtain ⟨k, rfl⟩ : ∃ k : Nat, c = k := ⟨c.toNat, by omega⟩
  have e0 : (2000 + (k : Int)).toNat = 2000 + k := by omega
  unfold Lib.itoa
  rw [if_neg (by omega), e0, Lib.decDigits, dif_neg (by omega), Lib.decDigits, dif_neg (by omega), Lib.decDigits, dif_neg (by omega), Lib.decDigits, dif_pos (by omega)]
  have a1 : (2000 + k) / 10 / 10 / 10 = 2 := by omega
  have a2 : (2000 + k) / 10 / 10 % 10 = 0 := by omega
  have a3 : (2000 + k) / 10 % 10 = k / 10 := by omega
  have a4 : (2000 + k) % 10 = k % 10 := by omega
  rw [a1, a2, a3, a4]
  have b1 : ((k : Int) / 10).toNat = k / 10 := by omega
  have b2 : ((k : Int) % 10).toNat = k % 10 := by omega
  simp only [dig, b1, b2]
  rfl
theorem year_text (c : Int) (w : World) (h0 : 0 ≤ c) (h1 : c ≤ 99) (ok : Ok w) :
    Calls Tryd.prog 33 #[.int .i64 (2000 + c)] w fun e w' => e = .returned (.string ⟨#[50, 48, dig (c / 10), dig (c % 10)]⟩) ∧ Below w.heap.size w w' :=
  (Tryd.strconv_Itoa (2000 + c) (by omega) (by omega) w ok.pow).mono fun e w' ⟨he, k, os, hw⟩ => by
    rw [itoa_year c h0 h1] at he
    exact ⟨he, by subst hw; exact block_then (below_drewN (Below.refl _ _) _) (below_grow _ _)⟩
theorem digit_text (n : Int) (w : World) (h0 : 0 ≤ n) (h1 : n < 10) :
    Calls Tryd.prog 33 #[.int .i64 n] w fun e w' => e = .returned (.string ⟨#[dig n]⟩) ∧ w = w' := by
  have h := Tryd.strconv_Itoa_small n.toNat (by omega) w
  rw [itoa_small n h0 h1, show ((n.toNat : Nat) : Int) = n by omega] at h
  exact h.mono fun e w' ⟨he, hw⟩ => ⟨he, hw.symm⟩
theorem cat_bytes (a b : Array UInt8) : (⟨a⟩ : ByteArray) ++ ⟨b⟩ = ⟨a ++ b⟩ := by
  apply ByteArray.ext; simp
theorem ret_str {a b : ByteArray} (h : a = b) : Ending.returned (.string a) = .returned (.string b) := by rw [h]
theorem two_text (n : Int) (w : World) (h0 : 0 ≤ n) (h1 : n ≤ 99) :
    Calls Tryd.prog 34 #[.int .i64 n] w fun e w' => e = .returned (.string ⟨#[dig (n / 10), dig (n % 10)]⟩) ∧ w = w' := by
  go_enter Tryd.func34, Tryd.ntmps34
  go_wp2_with (first
    | (go_at_call 33; refine (digit_text _ _ (by omega) (by omega)).mono ?_; rintro e w' ⟨rfl, rfl⟩))
  go_ret
  exact ⟨ret_str (by rw [cat_bytes]; rfl), rfl⟩
/-- A date's text. -/
def txt (y m d : Int) : ByteArray := ⟨#[50, 48, dig ((y - 2000) / 10), dig ((y - 2000) % 10), 45, dig (m / 10), dig (m % 10), 45, dig (d / 10), dig (d % 10)]⟩
/-- A day's text. -/
noncomputable def dtxt (d : Int) : ByteArray := txt (2000 + mo d / 12) (mo d % 12 + 1) (dm d + 1)
theorem cat_date (c m d : Int) : ByteArray.mk #[50, 48, dig (c / 10), dig (c % 10)] ++ ⟨#[45]⟩ ++ ⟨#[dig (m / 10), dig (m % 10)]⟩ ++ ⟨#[45]⟩ ++ ⟨#[dig (d / 10), dig (d % 10)]⟩ = txt (2000 + c) m d := by
  simp only [cat_bytes]
  unfold txt
  rw [show 2000 + c - 2000 = c by omega]
  rfl
set_option maxHeartbeats 400000 in
theorem text_in (d : Int) (w : World) (h0 : 0 ≤ d) (h1 : d ≤ 36524) (ok : Ok w) :
    Calls Tryd.prog 19 #[.int .i64 d] w fun e w' => e = .returned (.string (dtxt d)) ∧ Below w.heap.size w w' := by
  obtain ⟨f0, f1, f2, f3, f4, f5, f6⟩ := mo_facts d h0 h1
  clear f3 f5 f6
  go_enter Tryd.func19, Tryd.ntmps19
  go_wp2_with (first
    | (go_at_call 29; refine (isDay_yes _ _ h0 h1).mono ?_; rintro e w' ⟨rfl, rfl⟩)
    | (go_at_call 11; refine (date_in _ _ h0 h1 ok.tab).mono ?_; rintro e w' ⟨rfl, rfl⟩)
    | (go_at_call 33; refine (year_text _ _ (by omega) (by omega) ok).mono ?_; rintro e w1 ⟨rfl, hb⟩)
    | (go_at_call 34; refine (two_text _ _ (by omega) (by omega)).mono ?_; rintro e w' ⟨rfl, rfl⟩))
  go_ret
  exact ⟨ret_str (cat_date _ _ _), hb⟩
theorem text_out (d : Int) (w : World) (h : d < 0 ∨ 36524 < d) :
    Calls Tryd.prog 19 #[.int .i64 d] w fun e w' => e = .returned (.string ⟨#[]⟩) ∧ w = w' := by
  go_enter Tryd.func19, Tryd.ntmps19
  go_wp2_with (first
    | (go_at_call 29; refine (isDay_no _ _ h).mono ?_; rintro e w' ⟨rfl, rfl⟩))
  go_ret
  exact ⟨rfl, rfl⟩
end Go.Proofs.YtckmilhdnljjkaaDoor.Cal
