/- What calendar.Parse returns for every text. Condition: the calendar's tables hold what their initialisers lay. -/
import Derived.Test.YtckmilhdnljjkaaDoorCalParse
namespace Go.Proofs.YtckmilhdnljjkaaDoor.Cal
open Go.RowKit Go.Sort Go.PlainAid
theorem size_ext (s : ByteArray) (a b : Nat) (hb : b ≤ s.size) : (s.extract a b).size = b - a := by
  rw [ByteArray.size_extract]; omega
theorem bt_ext (s : ByteArray) (a b i : Nat) (hb : b ≤ s.size) (hi : a + i < b) : bt (s.extract a b) i = bt s (a + i) := by
  have h1 : i < (s.extract a b).size := by rw [size_ext s a b hb]; omega
  unfold bt
  rw [dif_pos h1, dif_pos (by omega)]
  congr 2
  simp [ByteArray.getElem_eq_getElem_data, ByteArray.data_extract]
/-- The year, month and day of the month that a text of the form writes. -/
def pY (s : ByteArray) : Int := 1000 * (bt s 0 - 48) + 100 * (bt s 1 - 48) + 10 * (bt s 2 - 48) + (bt s 3 - 48)
def pM (s : ByteArray) : Int := 10 * (bt s 5 - 48) + (bt s 6 - 48)
def pD (s : ByteArray) : Int := 10 * (bt s 8 - 48) + (bt s 9 - 48)
theorem same_flip {P : Program} {f : FuncId} {args : Array Value} {w : World} {v : Value} (h : Calls P f args w fun e w' => e = .returned v ∧ w = w') : Calls P f args w fun e w' => e = .returned v ∧ w' = w :=
  h.mono fun _ _ ⟨a, b⟩ => ⟨a, b.symm⟩
theorem digit_at {s : ByteArray} (h : Form s) (i : Nat) (hi : i < 10) (h4 : i ≠ 4) (h7 : i ≠ 7) : 48 ≤ bt s i ∧ bt s i ≤ 57 := (h.2 i hi).2 h4 h7
theorem number_ext (s : ByteArray) (w : World) (a b : Nat) (hb : b ≤ s.size) (h4 : b - a ≤ 4) (hd : ∀ i, a ≤ i → i < b → 48 ≤ bt s i ∧ bt s i ≤ 57) :
    Calls Tryd.prog 38 #[.string (s.extract a b)] w fun e w' => e = .returned (.int .i64 (num (s.extract a b) (b - a))) ∧ w = w' := by
  have h := number_any (s.extract a b) w (by rw [size_ext s a b hb]; exact h4) (fun i hi => by
    rw [size_ext s a b hb] at hi
    rw [bt_ext s a b i hb (by omega)]
    exact hd _ (by omega) (by omega))
  rwa [size_ext s a b hb] at h
theorem number_y (s : ByteArray) (w : World) (h : Form s) :
    Calls Tryd.prog 38 #[.string (s.extract 0 4)] w fun e w' => e = .returned (.int .i64 (pY s)) ∧ w = w' := by
  have hs := h.1
  have e : num (s.extract 0 4) 4 = pY s := by
    simp only [num]
    rw [bt_ext s 0 4 0 (by omega) (by omega), bt_ext s 0 4 1 (by omega) (by omega), bt_ext s 0 4 2 (by omega) (by omega), bt_ext s 0 4 3 (by omega) (by omega)]
    unfold pY; simp only [Nat.zero_add]; omega
  rw [← e]
  exact number_ext s w 0 4 (by omega) (by omega) (fun i _ hi => digit_at h i (by omega) (by omega) (by omega))
theorem number_m (s : ByteArray) (w : World) (h : Form s) :
    Calls Tryd.prog 38 #[.string (s.extract 5 7)] w fun e w' => e = .returned (.int .i64 (pM s)) ∧ w = w' := by
  have hs := h.1
  have e : num (s.extract 5 7) 2 = pM s := by
    simp only [num]
    rw [bt_ext s 5 7 0 (by omega) (by omega), bt_ext s 5 7 1 (by omega) (by omega)]
    unfold pM; simp only [Nat.add_zero, Nat.reduceAdd]; omega
  rw [← e]
  exact number_ext s w 5 7 (by omega) (by omega) (fun i _ hi => digit_at h i (by omega) (by omega) (by omega))
theorem number_d (s : ByteArray) (w : World) (h : Form s) :
    Calls Tryd.prog 38 #[.string (s.extract 8 s.size)] w fun e w' => e = .returned (.int .i64 (pD s)) ∧ w = w' := by
  have hs := h.1
  have e : num (s.extract 8 10) 2 = pD s := by
    simp only [num]
    rw [bt_ext s 8 10 0 (by omega) (by omega), bt_ext s 8 10 1 (by omega) (by omega)]
    unfold pD; simp only [Nat.add_zero, Nat.reduceAdd]; omega
  rw [← e, hs]
  exact number_ext s w 8 10 (by omega) (by omega) (fun i _ hi => digit_at h i (by omega) (by omega) (by omega))
theorem parse_form (s : ByteArray) (w : World) (h : ¬ Form s) :
    Calls Tryd.prog 27 #[.string s] w fun e w' => e = .returned (.tuple #[.int .i64 0, .int .i64 12]) ∧ w = w' := by
  go_enter Tryd.func27, Tryd.ntmps27
  go_wp2_with (first
    | (go_at_call 37; refine (form_no _ _ h).mono ?_; rintro e w' ⟨rfl, rfl⟩))
  go_ret2
  exact ⟨rfl, rfl⟩
theorem tab_drewN {w : World} (h : HasTab w) (n : Nat) : HasTab (w.drewN n) := fun k hk => cell_kept (below_drewN (Below.refl _ _) n) (h k hk)
/-- The day that a text of the form writes, and whether there is one. -/
def pRes (s : ByteArray) (v : Value) : Prop :=
  (NoDate (pY s) (pM s) (pD s) ∧ v = .tuple #[.int .i64 0, .int .i64 21]) ∨ (¬ NoDate (pY s) (pM s) (pD s) ∧ v = .tuple #[.int .i64 (beg (12 * (pY s - 2000) + pM s - 1) + pD s - 1), .int .i64 0])
theorem day_any (y m d : Int) : ∃ a c : Int, (NoDate y m d ∧ a = 0 ∧ c = 21 ∨ ¬ NoDate y m d ∧ a = beg (12 * (y - 2000) + m - 1) + d - 1 ∧ c = 0) ∧
    ∀ w, HasTab w → Calls Tryd.prog 25 #[.int .i64 y, .int .i64 m, .int .i64 d] w fun e w' => e = .returned (.tuple #[.int .i64 a, .int .i64 c]) ∧ w = w' := by
  by_cases h : NoDate y m d
  · exact ⟨0, 21, Or.inl ⟨h, rfl, rfl⟩, fun w hw => day_no y m d w h hw⟩
  · have h' := h
    unfold NoDate at h'
    exact ⟨_, 0, Or.inr ⟨h, rfl, rfl⟩, fun w hw => day_yes y m d w (by omega) (by omega) (by omega) (by omega) (by omega) (by omega) hw⟩
def ParseRes (s : ByteArray) (w : World) (e : Ending) (w' : World) : Prop := ∃ v, e = .returned v ∧ pRes s v ∧ ∃ n, w' = w.drewN n
set_option maxHeartbeats 400000 in
theorem parse_any (s : ByteArray) (w : World) (h : Form s) (hT : HasTab w) :
    Calls Tryd.prog 27 #[.string s] w (ParseRes s w) := by
  obtain ⟨a, c, hac, hday⟩ := day_any (pY s) (pM s) (pD s)
  have HR : Hid (pRes s (.tuple #[.int .i64 a, .int .i64 c])) := by
    rcases hac with ⟨x, rfl, rfl⟩ | ⟨x, rfl, rfl⟩
    · exact Or.inl ⟨x, rfl⟩
    · exact Or.inr ⟨x, rfl⟩
  have HD := Lib.hid hday
  clear hday hac
  have hs1 : s.size ≤ 10 := by have := h.1; omega
  have hs2 : 10 ≤ s.size := by have := h.1; omega
  have r1 : ∀ W, (Instr.slice 9 (.string s) none (some (.int .i64 4)) none).run Tryd.prog W = .ok (.string (s.extract 0 4)) W := fun W => run_slice_string_h W 9 s Tryd.underlying9 .i64 4 (by omega) (by omega)
  have r2 : ∀ W, (Instr.slice 9 (.string s) (some (.int .i64 5)) (some (.int .i64 7)) none).run Tryd.prog W = .ok (.string (s.extract 5 7)) W := fun W => run_slice_string W 9 s .i64 .i64 5 7 Tryd.underlying9 (by omega) (by omega) (by omega)
  have r3 : ∀ W, (Instr.slice 9 (.string s) (some (.int .i64 8)) none none).run Tryd.prog W = .ok (.string (s.extract 8 s.size)) W := fun W => run_slice_string_l W 9 s Tryd.underlying9 .i64 8 (by omega) (by omega)
  go_enter Tryd.func27, Tryd.ntmps27
  go_wp2_with (first
    | (go_at_call 37; refine (form_yes _ _ h).mono ?_; rintro e w' ⟨rfl, rfl⟩))
  go_quiet ((first
    | (go_at_call 38; with_reducible exact Calls.quiet_of_same (same_flip (number_y _ _ h)))
    | (go_at_call 38; with_reducible exact Calls.quiet_of_same (same_flip (number_m _ _ h)))
    | (go_at_call 38; with_reducible exact Calls.quiet_of_same (same_flip (number_d _ _ h)))
    | (go_at_call 25; with_reducible exact Calls.quiet_of_same (same_flip (HD.out _ (tab_drewN hT _))))))
  go_wp2
  go_ret2
  exact ⟨_, rfl, HR.out, _, rfl⟩
end Go.Proofs.YtckmilhdnljjkaaDoor.Cal
