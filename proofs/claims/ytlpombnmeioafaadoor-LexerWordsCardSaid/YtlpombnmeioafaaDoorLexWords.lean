/- The law LexerWords returns true for every two bytes: the given statement. Condition: the tables of classes and symbols hold what their initialisers lay (tied to the program's text). -/
import Derived.Test.YtlpombnmeioafaaDoorLexOk
import Derived.Laws.IdiomStrings
set_option linter.unusedVariables false
set_option linter.unusedSimpArgs false
namespace Go.Proofs.YtlpombnmeioafaaDoor.Lx
open Go Go.ChangeShapes Go.WideShapes Go.ChangeAt Go.RowKit Go.PlainAid
/-- So many equal bytes. -/
def rb (c : Int) (k : Nat) : ByteArray := ⟨(List.replicate k (UInt8.ofNat c.toNat)).toArray⟩
theorem rb_size (c : Int) (k : Nat) : (rb c k).size = k := by show (List.replicate k _).toArray.size = k; simp
theorem rb_succ (c : Int) (k : Nat) : rb c k ++ (⟨#[UInt8.ofNat c.toNat]⟩ : ByteArray) = rb c (k + 1) := by
  apply ByteArray.ext
  rw [ByteArray.data_append]
  show (List.replicate k _).toArray ++ #[_] = (List.replicate (k + 1) _).toArray
  rw [List.replicate_succ']
  exact (List.append_toArray _ _)
theorem u8_back {c : Int} (h0 : 0 ≤ c) (h1 : c ≤ 255) : ((UInt8.ofNat c.toNat).toNat : Int) = c := by
  rw [UInt8.toNat_ofNat']; omega
theorem bl_rb {c : Int} (h0 : 0 ≤ c) (h1 : c ≤ 255) (k : Nat) : bl (rb c k) = List.replicate k c := by
  show (List.replicate k (UInt8.ofNat c.toNat)).toArray.toList.map _ = _
  rw [List.toList_toArray, List.map_replicate, u8_back h0 h1]
theorem bl_zero {c : Int} (h0 : 0 ≤ c) (h1 : c ≤ 255) (k : Nat) : bl ((⟨#[48]⟩ : ByteArray) ++ rb c k) = 48 :: List.replicate k c := by
  unfold bl
  rw [ByteArray.data_append, Array.toList_append, List.map_append]
  have := bl_rb h0 h1 k
  unfold bl at this
  rw [this]; rfl
theorem fit_mem {F l : List Int} (h : fit F l = true) : ∀ f ∈ F, f ≠ 100 → f ∈ l := by
  induction F generalizing l with
  | nil => intro f hf; cases hf
  | cons g F ih =>
    cases l with
    | nil => simp [fit] at h
    | cons c l =>
      simp only [fit, Bool.and_eq_true] at h
      intro f hf hn
      rcases List.mem_cons.1 hf with rfl | hf
      · rw [if_neg hn] at h
        have : c = f := by simpa using h.1
        rw [this]; exact List.mem_cons_self ..
      · exact List.mem_cons_of_mem _ (ih h.2 f hf hn)
theorem no_date {l : List Int} (h : (45 : Int) ∉ l) : ¬ fit dateF l = true := fun hf => h (fit_mem hf 45 (by decide) (by decide))
theorem rep_cons (n : Nat) (c : Int) (h : 0 < n) : ∃ r, List.replicate n c = c :: r := by
  obtain ⟨m, rfl⟩ : ∃ m, n = m + 1 := ⟨n - 1, by omega⟩
  exact ⟨List.replicate m c, List.replicate_succ⟩
theorem lo_facts {c : Int} (h0 : 97 ≤ c) (h1 : c ≤ 122) : lo c = true ∧ wd c = true ∧ nm c = true ∧ white c = false ∧ c ≠ 47 := by
  refine ⟨by unfold lo; simp; omega, by unfold wd nm lo; simp; omega, by unfold nm lo; simp; omega, by unfold white; simp; omega, by omega⟩
theorem up_facts {c : Int} (h0 : 65 ≤ c) (h1 : c ≤ 90) : lo c = false ∧ up c = true ∧ wd c = true ∧ white c = false ∧ c ≠ 47 := by
  refine ⟨by unfold lo; simp; omega, by unfold up; simp; omega, by unfold wd up; simp; omega, by unfold white; simp; omega, by omega⟩
theorem dg_facts {c : Int} (h0 : 48 ≤ c) (h1 : c ≤ 57) : lo c = false ∧ up c = false ∧ dg c = true ∧ wd c = true ∧ white c = false ∧ c ≠ 47 := by
  refine ⟨by unfold lo; simp; omega, by unfold up; simp; omega, by unfold dg; simp; omega, by unfold wd nm dg; simp; omega, by unfold white; simp; omega, by omega⟩
theorem meas_lo {c : Int} (h0 : 97 ≤ c) (h1 : c ≤ 122) {n : Nat} (hn : 0 < n) : meas (List.replicate n c) = if n ≤ 16 then (1, n) else (0, 0) := by
  obtain ⟨a, b, d, -, -⟩ := lo_facts h0 h1
  have e : meas (List.replicate n c) = mName (List.replicate n c) := by
    obtain ⟨r, hr⟩ := rep_cons n c hn
    rw [hr]; simp only [meas, a, if_true]
  rw [e]; unfold mName
  rw [runL_rep wd c n b, runL_rep nm c n d]
  by_cases h : n ≤ 16
  · rw [if_pos h, if_neg (by omega)]
  · rw [if_neg h, if_pos (by omega)]
theorem meas_up {c : Int} (h0 : 65 ≤ c) (h1 : c ≤ 90) {n : Nat} (hn : 0 < n) : meas (List.replicate n c) = if n = 3 then (2, n) else (0, 0) := by
  obtain ⟨a, b, d, -, -⟩ := up_facts h0 h1
  have e : meas (List.replicate n c) = mCur (List.replicate n c) := by
    obtain ⟨r, hr⟩ := rep_cons n c hn
    rw [hr]; simp [meas, a, b]
  rw [e]; unfold mCur
  rw [runL_rep wd c n d, runL_rep up c n b]
  by_cases h : n = 3
  · rw [if_pos h, if_neg (by omega), h]
  · rw [if_neg h, if_pos (by omega)]
theorem meas_dg {c : Int} (h0 : 49 ≤ c) (h1 : c ≤ 57) {n : Nat} (hn : 0 < n) : meas (List.replicate n c) = if n ≤ 12 then (3, n) else (0, 0) := by
  obtain ⟨a, b, d, f, -, -⟩ := dg_facts (show 48 ≤ c by omega) h1
  obtain ⟨r, hr⟩ := rep_cons n c hn
  have e : meas (List.replicate n c) = mDig (List.replicate n c) := by
    rw [hr]; simp [meas, a, b, d]
  have hnd : ¬ fit dateF (List.replicate n c) = true := no_date (fun h => by have := (List.mem_replicate.1 h).2; omega)
  have hf : mForm (List.replicate n c) = if n ≤ 12 then (3, n) else (0, 0) := by
    unfold mForm
    rw [if_neg hnd, runL_rep dg c n d, if_neg (fun h => by rw [hr] at h; have := h.2; simp at this; omega), if_neg (fun h => by
      have := h.2
      rw [List.drop_of_length_le (by simp)] at this
      simp [fit, centsF] at this)]
  rw [e]; unfold mDig
  rw [hf]
  by_cases h : n ≤ 12
  · rw [if_pos h]
    simp only
    rw [List.drop_of_length_le (by simp)]; simp [stuck]
  · rw [if_neg h]
    simp
theorem meas_00 {c : Int} (h0 : 49 ≤ c) (h1 : c ≤ 57) {n : Nat} (hn : 0 < n) : meas (48 :: List.replicate n c) = (0, 0) := by
  obtain ⟨a, b, d, f, -, -⟩ := dg_facts (show 48 ≤ c by omega) h1
  have e : meas (48 :: List.replicate n c) = mDig (48 :: List.replicate n c) := rfl
  have hnd : ¬ fit dateF (48 :: List.replicate n c) = true := no_date (fun h => by
    rcases List.mem_cons.1 h with h | h
    · cases h
    · have := (List.mem_replicate.1 h).2; omega)
  have hr : runL dg (48 :: List.replicate n c) = n + 1 := by
    show (if dg 48 = true then runL dg (List.replicate n c) + 1 else 0) = _
    rw [if_pos (show dg 48 = true from rfl), runL_rep dg c n d]
  have hf : mForm (48 :: List.replicate n c) = (0, 0) := by
    unfold mForm
    rw [if_neg hnd, hr, if_pos ⟨by omega, rfl⟩]
  rw [e]; unfold mDig
  rw [hf]; rfl
/-- What the law asks of each word. -/
def Word (s : ByteArray) (k : Nat) (is : Bool) : Prop := lexL (bl s) = if is = true then ([(k, 0, s.size)], 0, 0) else ([], 61, 0)
theorem word_of {s : ByteArray} {k : Nat} {is : Bool} (hk : k ≠ 0) (hs : s.size ≤ 6000) (hp : 0 < s.size) (hg : gapN false (bl s) = 0) (hm : meas (bl s) = if is = true then (k, s.size) else (0, 0)) : Word s k is := by
  unfold Word
  cases is
  · rw [if_neg (by simp)] at hm ⊢
    exact lex_bad (by rw [bl_len]; exact hs) (by rw [bl_len]; exact hp) hg hm
  · rw [if_pos rfl] at hm ⊢
    have := lex_one (k := k) (by rw [bl_len]; exact hs) hg (by rw [bl_len]; exact hm) hk
    rwa [bl_len] at this
theorem word_lo {c : Int} (h0 : 97 ≤ c) (h1 : c ≤ 122) {n : Nat} (hn : 0 < n) (h : n ≤ 255) : Word (rb c n) 1 (decide (n ≤ 16)) := by
  have e := bl_rb (show 0 ≤ c by omega) (show c ≤ 255 by omega) n
  refine word_of (by decide) (by rw [rb_size]; omega) (by rw [rb_size]; omega) ?_ ?_
  · rw [e]; exact gap_none c n (lo_facts h0 h1).2.2.2.1 (lo_facts h0 h1).2.2.2.2
  · rw [e, meas_lo h0 h1 hn, rb_size]; simp
theorem word_up {c : Int} (h0 : 65 ≤ c) (h1 : c ≤ 90) {n : Nat} (hn : 0 < n) (h : n ≤ 255) : Word (rb c n) 2 (decide (n = 3)) := by
  have e := bl_rb (show 0 ≤ c by omega) (show c ≤ 255 by omega) n
  refine word_of (by decide) (by rw [rb_size]; omega) (by rw [rb_size]; omega) ?_ ?_
  · rw [e]; exact gap_none c n (up_facts h0 h1).2.2.2.1 (up_facts h0 h1).2.2.2.2
  · rw [e, meas_up h0 h1 hn, rb_size]; simp
theorem word_dg {c : Int} (h0 : 49 ≤ c) (h1 : c ≤ 57) {n : Nat} (hn : 0 < n) (h : n ≤ 255) : Word (rb c n) 3 (decide (n ≤ 12)) := by
  have e := bl_rb (show 0 ≤ c by omega) (show c ≤ 255 by omega) n
  have f := dg_facts (show 48 ≤ c by omega) h1
  refine word_of (by decide) (by rw [rb_size]; omega) (by rw [rb_size]; omega) ?_ ?_
  · rw [e]; exact gap_none c n f.2.2.2.2.1 f.2.2.2.2.2
  · rw [e, meas_dg h0 h1 hn, rb_size]; simp
theorem word_00 {c : Int} (h0 : 49 ≤ c) (h1 : c ≤ 57) {n : Nat} (hn : 0 < n) (h : n ≤ 255) : Word ((⟨#[48]⟩ : ByteArray) ++ rb c n) 3 false := by
  have e := bl_zero (show 0 ≤ c by omega) (show c ≤ 255 by omega) n
  have hz : ((⟨#[48]⟩ : ByteArray) ++ rb c n).size = n + 1 := by rw [← bl_len, e]; simp
  refine word_of (by decide) (by rw [hz]; omega) (by rw [hz]; omega) ?_ ?_
  · rw [e]; rfl
  · rw [e, meas_00 h0 h1 hn]; rfl
set_option maxHeartbeats 4000000 in
theorem one_any (s : ByteArray) (k : Nat) (is : Bool) (w : World) (hs : s.size ≤ 6000) (h : Word s k is) (hT : Tabs w) :
    Calls Tryd.prog 16 #[.string s, .int .i64 k, .bool is] w fun r w' => r = .returned (.bool true) ∧ Below w.heap.size w w' := by
  unfold Word at h
  cases is
  · rw [if_neg (by simp)] at h
    have H := Lib.hid (lex_at s w (by omega) hT h)
    clear h hT
    go_enter Tryd.func16, Tryd.ntmps16
    go_wp2_with (go_at_call 11; (with_reducible refine H.out.mono ?_); rintro _ w2 ⟨a1, c1, rfl, -, -, -, -, hb⟩; have HB := Lib.hid hb; clear hb)
    go_ret
    exact ⟨rfl, HB.out⟩
  · rw [if_pos rfl] at h
    have H0 := lex_at s w (by omega) hT h
    have hx : s.extract 0 (0 + s.size) = s := by rw [Nat.zero_add]; exact ByteArray.extract_zero_size
    have H : Hid (Calls Tryd.prog 11 #[.string s] w fun r w' => ∃ g o c, r = .returned (.tuple #[.slice (some ⟨g, o, none⟩) 1 c, .int .i64 0, .int .i64 0]) ∧ w'.cell? ⟨g, o, none⟩ = some (.int .i64 k) ∧ w'.cell? ⟨g, o + 1, none⟩ = some (.string s) ∧ Below w.heap.size w w') := Lib.hid (H0.mono fun r w' ⟨a, c, h1, h2, _, _, _, h6⟩ => by
      obtain ⟨g, o, rfl, t0, t1, t2⟩ := h2 0 (k, s, 0) (by show some (k, s.extract 0 (0 + s.size), 0) = _; rw [hx])
      refine ⟨g, o, c, h1, ?_, ?_, h6⟩
      · simpa using t0
      · simpa using t1)
    have e1 : (s.toList == s.toList) = true := by simp
    have e2 : ((k : Int) == (k : Int)) = true := by simp
    clear h hT H0 hx
    go_enter Tryd.func16, Tryd.ntmps16
    go_wp2_with (go_at_call 11; (with_reducible refine H.out.mono ?_); rintro _ w2 ⟨g, o, c1, rfl, t0, t1, hb⟩; have HB := Lib.hid hb; clear hb)
    go_ret
    exact ⟨rfl, HB.out⟩
theorem byte_back (c : Int) (h0 : 0 ≤ c) (h1 : c ≤ 255) (W : World) : (convert 33 9 (.slice (some ⟨W.heap.size, 0, none⟩) 1 1)).run Tryd.prog (W.alloc (.cells #[.int .u8 c] 5)) = .ok (.string ⟨#[UInt8.ofNat c.toNat]⟩) (W.alloc (.cells #[.int .u8 c] 5)) := by
  refine run_convert_bytes_back (W.alloc (.cells #[.int .u8 c] 5)) _ _ 5 ⟨W.heap.size, 0, none⟩ 1 [UInt8.ofNat c.toNat] Tryd.underlying33 Tryd.underlying5 Tryd.underlying9 ?_
  intro j hj
  have : j = 0 := by simpa using hj
  subst this
  show (W.alloc _).cell? (Addr.add _ 0) = some (.int .u8 ((UInt8.ofNat c.toNat).toNat : Int))
  rw [u8_back h0 h1]
  show (W.alloc _).cell? ⟨W.heap.size, 0, none⟩ = _
  rw [World.cell?_alloc_new]; rfl
set_option maxHeartbeats 8000000 in
set_option maxRecDepth 100000 in
theorem words_walk (n0 q : Int) (w : World) (n00 : 0 ≤ n0) (n01 : n0 ≤ 255) (q0 : 0 ≤ q) (q1 : q ≤ 255) (hT : Tabs w) :
    Calls Tryd.prog 9 #[.int .u8 n0, .int .u8 q] w fun r w' => r = .returned (.bool true) ∧ Below w.heap.size w w' := by
  have HH := Lib.hid (head_any w hT)
  have HT := Lib.hid hT
  clear hT
  by_cases hz : n0 = 0
  · subst hz
    go_enter Tryd.func9, Tryd.ntmps9
    go_wp2_with (go_at_call 10; (with_reducible refine HH.out.mono ?_); rintro _ w1 ⟨rfl, hb⟩; have HB := Lib.hid hb; clear hb)
    go_ret
    exact ⟨rfl, HB.out⟩
  · obtain ⟨n, rfl⟩ : ∃ n : Nat, n0 = n := ⟨n0.toNat, by omega⟩
    have hzz : ((n : Int) == 0) = false := by simpa using hz
    have hn0 : 0 < n := by omega
    have hn1 : n ≤ 255 := by omega
    clear hz n00 n01
    obtain ⟨c1, hc1⟩ : ∃ c, c = 97 + q % 26 := ⟨_, rfl⟩
    obtain ⟨c2, hc2⟩ : ∃ c, c = 65 + q % 26 := ⟨_, rfl⟩
    obtain ⟨c3, hc3⟩ : ∃ c, c = 49 + q % 9 := ⟨_, rfl⟩
    have b1 : 97 ≤ c1 ∧ c1 ≤ 122 := by omega
    have b2 : 65 ≤ c2 ∧ c2 ≤ 90 := by omega
    have b3 : 49 ≤ c3 ∧ c3 ≤ 57 := by omega
    have W1 := Lib.hid (fun w' => one_any (rb c1 n) 1 _ w' (by rw [rb_size]; omega) (word_lo b1.1 b1.2 hn0 hn1))
    have W2 := Lib.hid (fun w' => one_any (rb c2 n) 2 _ w' (by rw [rb_size]; omega) (word_up b2.1 b2.2 hn0 hn1))
    have W3 := Lib.hid (fun w' => one_any (rb c3 n) 3 _ w' (by rw [rb_size]; omega) (word_dg b3.1 b3.2 hn0 hn1))
    have W4 := Lib.hid (fun w' => one_any ((⟨#[48]⟩ : ByteArray) ++ rb c3 n) 3 false w' (by rw [← bl_len, bl_zero (by omega) (by omega)]; simp; omega) (word_00 b3.1 b3.2 hn0 hn1))
    have K1 := byte_back c1 (by omega) (by omega)
    have K2 : ∀ W : World, (convert 33 9 (.slice (some ⟨W.heap.size + 1, 0, none⟩) 1 1)).run Tryd.prog ((W.alloc (.cells #[.int .u8 c1] 5)).alloc (.cells #[.int .u8 c2] 5)) = .ok (.string ⟨#[UInt8.ofNat c2.toNat]⟩) ((W.alloc (.cells #[.int .u8 c1] 5)).alloc (.cells #[.int .u8 c2] 5)) := fun W => by
      have h := byte_back c2 (by omega) (by omega) (W.alloc (.cells #[.int .u8 c1] 5))
      rwa [World.size_alloc] at h
    have K3 : ∀ W : World, (convert 33 9 (.slice (some ⟨W.heap.size + 1 + 1, 0, none⟩) 1 1)).run Tryd.prog (((W.alloc (.cells #[.int .u8 c1] 5)).alloc (.cells #[.int .u8 c2] 5)).alloc (.cells #[.int .u8 c3] 5)) = .ok (.string ⟨#[UInt8.ofNat c3.toNat]⟩) (((W.alloc (.cells #[.int .u8 c1] 5)).alloc (.cells #[.int .u8 c2] 5)).alloc (.cells #[.int .u8 c3] 5)) := fun W => by
      have h := byte_back c3 (by omega) (by omega) ((W.alloc (.cells #[.int .u8 c1] 5)).alloc (.cells #[.int .u8 c2] 5))
      rwa [World.size_alloc, World.size_alloc] at h
    have HC := Lib.hid (And.intro hc1 (And.intro hc2 hc3))
    have hd16 : decide ((n : Int) ≤ 16) = decide (n ≤ 16) := by rw [Bool.eq_iff_iff, decide_eq_true_eq, decide_eq_true_eq]; omega
    have hd3 : ((n : Int) == 3) = decide (n = 3) := by rw [Bool.eq_iff_iff]; simp; omega
    have hd12 : decide ((n : Int) ≤ 12) = decide (n ≤ 12) := by rw [Bool.eq_iff_iff, decide_eq_true_eq, decide_eq_true_eq]; omega
    obtain ⟨p1, hp1⟩ : ∃ b, b = decide (n ≤ 16) := ⟨_, rfl⟩
    obtain ⟨p2, hp2⟩ : ∃ b, b = decide (n = 3) := ⟨_, rfl⟩
    obtain ⟨p3, hp3⟩ : ∃ b, b = decide (n ≤ 12) := ⟨_, rfl⟩
    rw [← hp1] at W1 hd16
    rw [← hp2] at W2 hd3
    rw [← hp3] at W3 hd12
    have r1 : (97 : Int) + q % 26 = c1 := hc1.symm
    have r2 : (65 : Int) + q % 26 = c2 := hc2.symm
    have r3 : (49 : Int) + q % 9 = c3 := hc3.symm
    have V1 : Hid (∀ w', Tabs w' → Calls Tryd.prog 16 #[.string (rb c1 n), .int .i64 1, .bool p1] w' fun r w2 => r = .returned (.bool true) ∧ Below w'.heap.size w' w2) := Lib.hid W1.out
    have V2 : Hid (∀ w', Tabs w' → Calls Tryd.prog 16 #[.string (rb c2 n), .int .i64 2, .bool p2] w' fun r w2 => r = .returned (.bool true) ∧ Below w'.heap.size w' w2) := Lib.hid W2.out
    have V3 : Hid (∀ w', Tabs w' → Calls Tryd.prog 16 #[.string (rb c3 n), .int .i64 3, .bool p3] w' fun r w2 => r = .returned (.bool true) ∧ Below w'.heap.size w' w2) := Lib.hid W3.out
    have V4 : Hid (∀ w', Tabs w' → Calls Tryd.prog 16 #[.string ((⟨#[48]⟩ : ByteArray) ++ rb c3 n), .int .i64 3, .bool false] w' fun r w2 => r = .returned (.bool true) ∧ Below w'.heap.size w' w2) := Lib.hid W4.out
    clear hc1 hc2 hc3 b1 b2 b3 hp1 hp2 hp3 W1 W2 W3 W4
    go_enter Tryd.func9, Tryd.ntmps9
    go_wp2_with (go_at_call 10; (with_reducible refine HH.out.mono ?_); rintro _ w1 ⟨rfl, hb⟩; have HB := Lib.hid hb; clear hb)
    go_loopw [7, 8, 9, 10] (fun a b c i W => ∃ k : Nat, k ≤ n ∧ a = .string (rb c1 k) ∧ b = .string (rb c2 k) ∧ c = .string (rb c3 k) ∧ i = .int .i64 k ∧ Hid (Below w.heap.size w W)) (fun a b c i W => n - (intOf i).toNat)
    case atStart => exact ⟨0, Nat.zero_le _, rfl, rfl, rfl, rfl, HB⟩
    case round =>
      obtain ⟨k, hk, rfl, rfl, rfl, rfl, hB⟩ := hrel
      by_cases hlt : k < n
      · have z1 := rb_size c1 k
        have z2 := rb_size c2 k
        have z3 := rb_size c3 k
        go_wp2
        exact ⟨⟨k + 1, by omega, by rw [rb_succ], by rw [rb_succ], by rw [rb_succ], by go_num, Lib.hid (((hB.out.alloc hB.out.size _).alloc (by have := hB.out.size; simp; omega) _).alloc (by have := hB.out.size; simp; omega) _)⟩, by simp [intOf]; omega⟩
      · obtain rfl : k = n := by omega
        have z3 := rb_size c3 k
        go_wp2_with (first
          | ((with_reducible refine (V1.out _ (HT.out.below hB.out)).mono ?_); rintro _ w2 ⟨rfl, hb⟩; replace hB := Lib.hid (hB.out.trans (hb.mono hB.out.size)); clear hb)
          | ((with_reducible refine (V2.out _ (HT.out.below hB.out)).mono ?_); rintro _ w2 ⟨rfl, hb⟩; replace hB := Lib.hid (hB.out.trans (hb.mono hB.out.size)); clear hb)
          | ((with_reducible refine (V3.out _ (HT.out.below hB.out)).mono ?_); rintro _ w2 ⟨rfl, hb⟩; replace hB := Lib.hid (hB.out.trans (hb.mono hB.out.size)); clear hb)
          | ((with_reducible refine (V4.out _ (HT.out.below hB.out)).mono ?_); rintro _ w2 ⟨rfl, hb⟩; replace hB := Lib.hid (hB.out.trans (hb.mono hB.out.size)); clear hb))
        go_ret
        exact ⟨rfl, hB.out⟩
-- CARD
open Go.ChangeMaps (open_string shut_string)
set_option maxRecDepth 100000 in
theorem words_lifted (os : Os) (started : os.Started) (H : Type) (enc : TypeId × Value → H) :
    ReturnsInHanded {} Tryd.checked os 9 .any (fun w args => (Rows.lexerWordsSpec.pre enc Tryd.prog Tryd.f9 [] false w args ∧ laidMetH Tryd.prog laid w) ∧ sizedMet enc Tryd.prog Tryd.f9 (OpenSpec.ofChange Rows.lexerWordsSpec) false w args)
      (Rows.lexerWordsSpec.post enc Tryd.prog Tryd.f9 false true false false) := by
  refine returnsInHanded_of_change_and (C := Tryd.checked) (X := fun w _ => laidMetH Tryd.prog laid w) (fun _ _ _ hh h => h.of_heap hh) own started (by kernel_rfl) Tryd.func9
    (ChangeSpec.witness_shaped (enc := enc) (C := Tryd.checked) (os := os) (X := fun w _ => laidMetH Tryd.prog laid w) false (World.laidAll Tryd.prog os laid) #[.int .u8 0, .int .u8 0] 8 (World.laidAll_os _ _ _)
      (World.shaped_of_ZipB (by kernel_rfl) (by kernel_rfl)) (by kernel_rfl) (by kernel_rfl) (by kernel_rfl) (met os _)) ?_
  intro W base args ds gs before hval0 hW _ _ hL _
  have hval : ∀ (j : Nat) t v, Tryd.f9.params[j]? = some t → args[j]? = some v → Value.okWide Tryd.prog W .any base t v := hval0
  have hW' := hW
  obtain ⟨p, q, hA0, hV, rfl, _, _⟩ := hW
  have hA : DataW.TrodAll enc Tryd.prog W 0 (fun _ => true) true Tryd.f9.params.toList args.toList ds p := hA0
  rw [Tryd.params9] at hA hval
  obtain ⟨v0, v1, d0, d1, p0, p1, rfl, rfl, rfl, h0, h1⟩ := trodAll_two hA
  obtain ⟨rfl, rfl⟩ := trodVars_none hV
  obtain ⟨x0, rfl, rfl, rfl, wx0⟩ := open_int Tryd.underlying5 (hval 0 5 v0 rfl rfl) h0
  have bx0 := bounds_u8 wx0
  obtain ⟨x1, rfl, rfl, rfl, wx1⟩ := open_int Tryd.underlying5 (hval 1 5 v1 rfl rfl) h1
  have bx1 := bounds_u8 wx1
  simp only [List.append_nil] at hW'
  refine (words_walk x0 x1 W bx0.1 bx0.2 bx1.1 bx1.2 (tabs_of hL)).mono fun e W' ⟨he, hb⟩ => ?_
  subst he
  exact ⟨_, rfl, _, _, _, [], [], [], hW', trodAll_mk1 (shut_bool Tryd.underlying4 _), trodAll_mk2 (shut_int Tryd.underlying5 wx0) (shut_int Tryd.underlying5 wx1), rfl, hb.frame _, fun h => by cases h⟩
theorem words_said : Rows.LexerWordsSaid :=
  OpenClaim.holds_of_wide 9 Tryd.f9 rfl rfl rfl rfl rfl rfl rfl ⟨rfl, rfl, rfl, rfl, rfl⟩ rfl rfl rfl rfl rfl (by kernel_rfl) Tryd.func9 (by kernel_rfl)
    (of_decide_eq_true (by kernel_rfl)) (by unfold Func.isWrapper; first | (rw [if_pos (by decide +kernel)]; kernel_rfl) | (rw [if_neg (by decide +kernel)]; exact ⟨rfl, rfl⟩))
    (fun os started H enc _ => words_lifted os started H enc)
theorem words_plain (f : FuncId) (fn : Func) (hf : Tryd.pinned.checked.prog.funcNamed "wageoffice/wageofficelaw06.LexerWords" = some f) (hfn : Tryd.pinned.checked.prog.funcs[f]? = some fn) :
    false = Tryd.pinned.checked.prog.looks [] ∧ ∀ (j : Nat) t, fn.params[j]? = some t → Tryd.pinned.checked.prog.wantsStandIn t = false := by
  obtain rfl : f = 9 := Option.some.inj ((show Tryd.prog.funcNamed "wageoffice/wageofficelaw06.LexerWords" = some 9 by kernel_rfl).symm.trans hf) |>.symm
  obtain rfl : fn = Tryd.f9 := (Option.some.inj (Tryd.func9.symm.trans hfn)).symm
  refine ⟨by kernel_rfl, fun j t ht => ?_⟩
  rw [Tryd.params9] at ht
  obtain rfl : t = 5 := by simpa using Array.mem_of_getElem? ht
  exact (show Tryd.prog.wantsStandIn 5 = false by kernel_rfl)
theorem words_holds : Rows.LexerWordsCardSaid :=
  Claim7.holds_tied_plain_at .later [] _ _ _ _ words_said (fun _ h => by cases h) (by kernel_rfl) (fun _ h => by cases h) lexerWords_row_tie rfl ⟨rfl, rfl⟩ (by kernel_rfl) rfl words_plain (by kernel_rfl)
end Go.Proofs.YtlpombnmeioafaaDoor.Lx
