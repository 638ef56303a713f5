/- What a caller may ask of package zone: the results of its functions as the chapter's mathematics has them, in a structure of its own; and the same of the reference implementation. Conditions: the zone's changes lie in memory as the argument says. -/
import Derived.Test.YtjmnohbgfkohpaaZoneRef5
import Derived.Test.YtjmnohbgfkohpaaZoneRef6
namespace Go.Proofs.Ytjmnohbgfkohpaa.Zn
open Go.RowKit
instance (f t : Int) : Decidable (Str f t) := by unfold Str; exact inferInstance
instance (f t : Int) : Decidable (Frm f t) := by unfold Frm; exact inferInstance
/-- The local day, the minute, the error of an instant. -/
def locE (b : Int) (cs : List (Int × Int)) (t : Int) : Int := if Valid b cs ∧ 0 ≤ t ∧ t ≤ 52595999 then if 0 ≤ loc b cs t / 1440 ∧ loc b cs t / 1440 ≤ 36524 then 0 else 21 else 1
def locD (b : Int) (cs : List (Int × Int)) (t : Int) : Int := if locE b cs t = 0 then loc b cs t / 1440 else 0
def locM (b : Int) (cs : List (Int × Int)) (t : Int) : Int := if locE b cs t = 0 then loc b cs t % 1440 else 0
theorem LocRes.fn {b : Int} {cs : List (Int × Int)} {t d m e : Int} (h : LocRes b cs t d m e) : d = locD b cs t ∧ m = locM b cs t ∧ e = locE b cs t := by
  unfold locD locM
  rcases h with ⟨h, rfl, rfl, rfl⟩ | ⟨v, t0, t1, h, rfl, rfl, rfl⟩ | ⟨v, t0, t1, d0, d1, rfl, rfl, rfl⟩
  · have : locE b cs t = 1 := by unfold locE; rw [if_neg h]
    rw [this]; exact ⟨rfl, rfl, rfl⟩
  · have : locE b cs t = 21 := by unfold locE; rw [if_pos ⟨v, t0, t1⟩, if_neg h]
    rw [this]; exact ⟨rfl, rfl, rfl⟩
  · have : locE b cs t = 0 := by unfold locE; rw [if_pos ⟨v, t0, t1⟩, if_pos ⟨d0, d1⟩]
    rw [this]; exact ⟨rfl, rfl, rfl⟩
/-- The minutes of a stretch in a window, and the error. -/
def winE (b : Int) (cs : List (Int × Int)) (f t wf wt : Int) : Int := if Valid b cs ∧ Str f t ∧ Frm wf wt then if 44640 < t - f then 2 else 0 else 1
def winN (b : Int) (cs : List (Int × Int)) (f t wf wt : Int) : Int := if winE b cs f t wf wt = 0 then win b cs f (t - f).toNat wf wt else 0
theorem WinRes.fn {b : Int} {cs : List (Int × Int)} {f t wf wt n e : Int} (h : WinRes b cs f t wf wt n e) : n = winN b cs f t wf wt ∧ e = winE b cs f t wf wt := by
  unfold winN
  rcases h with ⟨h, rfl, rfl⟩ | ⟨v, s, g, h, rfl, rfl⟩ | ⟨v, s, g, h, rfl, rfl⟩
  · have : winE b cs f t wf wt = 1 := by unfold winE; rw [if_neg h]
    rw [this]; exact ⟨rfl, rfl⟩
  · have : winE b cs f t wf wt = 2 := by unfold winE; rw [if_pos ⟨v, s, g⟩, if_pos h]
    rw [this]; exact ⟨rfl, rfl⟩
  · have : winE b cs f t wf wt = 0 := by unfold winE; rw [if_pos ⟨v, s, g⟩, if_neg (by omega)]
    rw [this]; exact ⟨rfl, rfl⟩
/-- The portions of a stretch, and the error. -/
def splitE (b : Int) (cs : List (Int × Int)) (f t : Int) : Int := if Valid b cs ∧ Str f t then if 44640 < t - f then 2 else if cnt f (fun s => !decide (0 ≤ loc b cs s / 1440 ∧ loc b cs s / 1440 ≤ 36524)) (t - f).toNat = 0 then 0 else 21 else 1
def splitL (b : Int) (cs : List (Int × Int)) (f t : Int) : List (Int × Int) := if splitE b cs f t = 0 then ports (fun s => loc b cs s / 1440) f (t - f).toNat else []
/-- The offset. -/
def offR (b : Int) (cs : List (Int × Int)) (t : Int) : Int := if Valid b cs then offFrom b cs t else 0
theorem rLocal_any (nm : ByteArray) (b : Int) (a : Option Addr) (cap : Nat) (cs : List (Int × Int)) (t : Int) (w : World) (hl : cs.length ≤ 9223372036854775807) (z : ZoneAt a cs w) :
    Calls Try.prog 15 #[zv nm b a cs.length cap, .int .i64 t] w fun r w' => r = .returned (.tuple #[.int .i64 (locD b cs t), .int .i64 (locM b cs t), .int .i64 (locE b cs t)]) ∧ Below w.heap.size w w' := by
  obtain ⟨d, m, e, hr, hc⟩ := rLocal_ex nm b a cap cs t hl
  obtain ⟨rfl, rfl, rfl⟩ := hr.fn
  exact hc w z
theorem rWindow_any (nm : ByteArray) (b : Int) (a : Option Addr) (cap : Nat) (cs : List (Int × Int)) (f t wf wt : Int) (w : World) (hl : cs.length ≤ 9223372036854775807) (z : ZoneAt a cs w) :
    Calls Try.prog 23 #[zv nm b a cs.length cap, .int .i64 f, .int .i64 t, sv wf wt] w fun r w' => r = .returned (.tuple #[.int .i64 (winN b cs f t wf wt), .int .i64 (winE b cs f t wf wt)]) ∧ Below w.heap.size w w' := by
  obtain ⟨n, e, hr, hc⟩ := rwindow_ex nm b a cap cs f t wf wt hl
  obtain ⟨rfl, rfl⟩ := hr.fn
  exact hc w z
/-- A number of Go's int. -/
def Rng (x : Int) : Prop := -9223372036854775808 ≤ x ∧ x ≤ 9223372036854775807
/-- A zone of few changes, of Go's numbers. -/
structure ZR (b : Int) (cs : List (Int × Int)) : Prop where
  len : cs.length ≤ 70
  base : Rng b
  mem : ∀ x ∈ cs, Rng x.1 ∧ Rng x.2
/-- What a caller may ask of package zone, in a world that is in order. -/
structure ZC (OK : World → Prop) : Prop where
  step : ∀ w w', OK w → Below w.heap.size w w' → OK w'
  valid : ∀ (nm : ByteArray) (b : Int) (a : Option Addr) (cap : Nat) (cs : List (Int × Int)), ZR b cs → ∀ w, OK w → ZoneAt a cs w →
    Calls Try.prog 16 #[zv nm b a cs.length cap] w fun r w' => r = .returned (.bool (decide (Valid b cs))) ∧ Below w.heap.size w w'
  offset : ∀ (nm : ByteArray) (b : Int) (a : Option Addr) (cap : Nat) (cs : List (Int × Int)) (t : Int), ZR b cs → Rng t → ∀ w, OK w → ZoneAt a cs w →
    Calls Try.prog 18 #[zv nm b a cs.length cap, .int .i64 t] w fun r w' => r = .returned (.int .i64 (offR b cs t)) ∧ Below w.heap.size w w'
  loc : ∀ (nm : ByteArray) (b : Int) (a : Option Addr) (cap : Nat) (cs : List (Int × Int)) (t : Int), ZR b cs → Rng t → ∀ w, OK w → ZoneAt a cs w →
    Calls Try.prog 14 #[zv nm b a cs.length cap, .int .i64 t] w fun r w' => r = .returned (.tuple #[.int .i64 (locD b cs t), .int .i64 (locM b cs t), .int .i64 (locE b cs t)]) ∧ Below w.heap.size w w'
  insts : ∀ (nm : ByteArray) (b : Int) (a : Option Addr) (cap : Nat) (cs : List (Int × Int)) (d m : Int), ZR b cs → Rng d → Rng m → ∀ w, OK w → ZoneAt a cs w →
    Calls Try.prog 26 #[zv nm b a cs.length cap, .int .i64 d, .int .i64 m] w fun r w' => ∃ a' c', r = .returned (.slice a' (insR b cs d m).length c') ∧ IntsAt a' (insR b cs d m) w' ∧ Below w.heap.size w w'
  len : ∀ (nm : ByteArray) (b : Int) (a : Option Addr) (cap : Nat) (cs : List (Int × Int)) (d : Int), ZR b cs → Rng d → ∀ w, OK w → ZoneAt a cs w →
    Calls Try.prog 28 #[zv nm b a cs.length cap, .int .i64 d] w fun r w' => r = .returned (.int .i64 (lenR b cs d)) ∧ Below w.heap.size w w'
  split : ∀ (nm : ByteArray) (b : Int) (a : Option Addr) (cap : Nat) (cs : List (Int × Int)) (f t : Int), ZR b cs → Rng f → Rng t → ∀ w, OK w → ZoneAt a cs w →
    Calls Try.prog 20 #[zv nm b a cs.length cap, .int .i64 f, .int .i64 t] w fun r w' => ∃ a' c', r = .returned (.tuple #[.slice a' (splitL b cs f t).length c', .int .i64 (splitE b cs f t)]) ∧ PortsAt a' (splitL b cs f t) w' ∧ Below w.heap.size w w'
  win : ∀ (nm : ByteArray) (b : Int) (a : Option Addr) (cap : Nat) (cs : List (Int × Int)) (f t wf wt : Int), ZR b cs → Rng f → Rng t → Rng wf → Rng wt → ∀ w, OK w → ZoneAt a cs w →
    Calls Try.prog 22 #[zv nm b a cs.length cap, .int .i64 f, .int .i64 t, sv wf wt] w fun r w' => r = .returned (.tuple #[.int .i64 (winN b cs f t wf wt), .int .i64 (winE b cs f t wf wt)]) ∧ Below w.heap.size w w'
/-- The chapter's example. -/
abbrev ex : List (Int × Int) := [(5000, 120), (20000, 60)]
theorem ex_zr : ZR 60 ex := ⟨by decide, by unfold Rng; decide, fun x hx => by
  rcases List.mem_cons.1 hx with rfl | hx
  · exact ⟨by unfold Rng; decide, by unfold Rng; decide⟩
  · obtain rfl := List.mem_singleton.1 hx
    exact ⟨by unfold Rng; decide, by unfold Rng; decide⟩⟩
theorem ex_at (t : Int) : Zn.loc 60 ex t = if 5000 ≤ t then (if 20000 ≤ t then t + 60 else t + 120) else t + 60 := by
  show t + (if 5000 ≤ t then (if 20000 ≤ t then 60 else 120) else 60) = _
  split
  · split <;> rfl
  · rfl
theorem ex_valid : decide (Valid 60 ex) = true := by decide
theorem ex_loc1 : locD 60 ex 4999 = 3 ∧ locM 60 ex 4999 = 739 ∧ locE 60 ex 4999 = 0 := by decide
theorem ex_loc2 : locD 60 ex 5000 = 3 ∧ locM 60 ex 5000 = 800 ∧ locE 60 ex 5000 = 0 := by decide
theorem ex_loc3 : locD 60 ex (-1) = 0 ∧ locM 60 ex (-1) = 0 ∧ locE 60 ex (-1) = 1 := by decide
theorem ex_off : offR 60 ex (-5) = 60 := by decide
theorem ex_ins1 : insR 60 ex 3 750 = [] := by
  have h : insts 60 ex 3 750 = [] := List.eq_nil_iff_forall_not_mem.2 (fun t ht => by
    obtain ⟨t0, t1, e⟩ := (insts_mem (of_decide_eq_true ex_valid) 3 750 t).1 ht
    rw [ex_at] at e
    split at e
    · split at e <;> omega
    · omega)
  unfold insR; rw [h]; split <;> rfl
theorem ex_ins2 : insR 60 ex 13 1370 = [19970, 20030] := by
  have h : insts 60 ex 13 1370 = [19970, 20030] := sorted_ext (insts_sorted 13 1370) (by decide) (fun t => by
    rw [insts_mem (of_decide_eq_true ex_valid) 13 1370 t, ex_at]
    simp only [List.mem_cons, List.not_mem_nil, or_false]
    split
    · split <;> omega
    · omega)
  unfold insR; rw [h, if_pos (by decide)]
theorem ex_len1 : lenR 60 ex 3 = 1380 := by
  have h : dlen 60 ex 3 = 1380 := by kernel_rfl
  unfold lenR; rw [h, if_pos (by decide)]; rfl
theorem ex_len2 : lenR 60 ex 13 = 1500 := by
  have h : dlen 60 ex 13 = 1500 := by kernel_rfl
  unfold lenR; rw [h, if_pos (by decide)]; rfl
theorem ex_len3 : lenR 60 ex 14 = 1440 := by
  have h : dlen 60 ex 14 = 1440 := by kernel_rfl
  unfold lenR; rw [h, if_pos (by decide)]; rfl
theorem ex_split : splitE 60 ex 4200 5800 = 0 ∧ splitL 60 ex 4200 5800 = [(2, 60), (3, 1380), (4, 160)] := by
  have h0 : cnt 4200 (fun s => !decide (0 ≤ Zn.loc 60 ex s / 1440 ∧ Zn.loc 60 ex s / 1440 ≤ 36524)) 1600 = 0 := by kernel_rfl
  have h1 : splitE 60 ex 4200 5800 = 0 := by
    unfold splitE
    rw [if_pos (by decide), if_neg (by decide), show ((5800 : Int) - 4200).toNat = 1600 from rfl, if_pos h0]
  have h2 : ports (fun s => Zn.loc 60 ex s / 1440) 4200 1600 = [(2, 60), (3, 1380), (4, 160)] := by kernel_rfl
  refine ⟨h1, ?_⟩
  unfold splitL
  rw [h1, if_pos rfl, show ((5800 : Int) - 4200).toNat = 1600 from rfl, h2]
theorem ex_win : winE 60 ex 4200 5800 1380 360 = 0 ∧ winN 60 ex 4200 5800 1380 360 = 640 := by
  have h1 : winE 60 ex 4200 5800 1380 360 = 0 := by decide
  have h2 : Zn.win 60 ex 4200 1600 1380 360 = 640 := by kernel_rfl
  refine ⟨h1, ?_⟩
  unfold winN
  rw [h1, if_pos rfl, show ((5800 : Int) - 4200).toNat = 1600 from rfl, h2]
  rfl
end Go.Proofs.Ytjmnohbgfkohpaa.Zn
