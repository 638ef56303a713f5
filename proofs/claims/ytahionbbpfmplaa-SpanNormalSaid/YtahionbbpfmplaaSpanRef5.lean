/- What the reference implementation's Size and Union of spans return. Conditions: the lists lie in memory as the arguments say; they are short. -/
import Derived.Test.YtahionbbpfmplaaSpanRef4
namespace Go.Proofs.Ytahionbbpfmplaa.Sp
open Go.RowKit
theorem tot_take_snoc {l : List Sn} {i : Nat} {x : Sn} (hx : l[i]? = some x) : tot (l.take (i + 1)) = tot (l.take i) + (x.2 - x.1) := by
  have app : ∀ p q : List Sn, tot (p ++ q) = tot p + tot q := fun p q => by
    induction p with
    | nil => show tot q = 0 + tot q; omega
    | cons y p ih => show y.2 - y.1 + tot (p ++ q) = y.2 - y.1 + tot p + tot q; rw [ih]; omega
  rw [List.take_add_one, hx, app]
  show tot (l.take i) + (x.2 - x.1 + 0) = _
  omega
theorem tot_take_bd {l : List Sn} (h : ∀ x ∈ l, Proper x) (i : Nat) : 0 ≤ tot (l.take i) ∧ tot (l.take i) ≤ tot l := by
  have app : ∀ p q : List Sn, tot (p ++ q) = tot p + tot q := fun p q => by
    induction p with
    | nil => show tot q = 0 + tot q; omega
    | cons y p ih => show y.2 - y.1 + tot (p ++ q) = y.2 - y.1 + tot p + tot q; rw [ih]; omega
  have h1 := (tot_pos (l.take i) (fun x hx => h x (List.mem_of_mem_take hx))).1
  have h2 := (tot_pos (l.drop i) (fun x hx => h x (List.mem_of_mem_drop hx))).1
  have h3 := app (l.take i) (l.drop i)
  rw [List.take_append_drop] at h3
  omega
set_option maxHeartbeats 4000000 in
set_option maxRecDepth 100000 in
theorem rsize_any (a : Option Addr) (c : Nat) (l : List Sn) (w : World) (hl : l.length ≤ 1000) (hc : l.length ≤ c) (z : SpansAt a l w) :
    Calls Try.prog 26 #[.slice a l.length c] w fun r w' => r = .returned (.int .i64 (size l)) ∧ Below w.heap.size w w' := by
  have hS : Calls Try.prog 16 #[.slice a l.length c] w fun r w' => ∃ a' c', r = .returned (.slice a' (norm l).length c') ∧ SpansAt a' (norm l) w' ∧ Below w.heap.size w w' :=
    (rnormal_any a c l w hl hc z).mono (fun r w' ⟨v, hr, hrow, hb⟩ => by
      obtain ⟨a', c', rfl, hz⟩ := hrow.spans
      exact ⟨a', c', hr, hz, hb⟩)
  have HS := Lib.hid hS
  have hnl := norm_len l
  have HB := Lib.hid (fun i => tot_take_bd (norm_nf l).2 i)
  have HSB := Lib.hid (size_bd l)
  have HP := Lib.hid (norm_nf l).2
  show Calls _ _ _ _ (fun r w' => r = .returned (.int .i64 (tot (norm l))) ∧ _)
  have HSB2 := Lib.hid (show tot (norm l) ≤ 2305843009213693952 from HSB.out.2)
  generalize norm l = s at *
  obtain ⟨m, hm⟩ : ∃ m, m = s.length := ⟨_, rfl⟩
  rw [← hm] at HS hnl
  have HM := Lib.hid hm
  generalize l.length = n at *
  clear hm hS z HSB
  go_enter Try.func26, Try.ntmps26
  go_wp2_with (first
    | (go_at_call 16; (with_reducible refine HS.out.mono ?_); rintro e w1 ⟨a1, d1, rfl, z1, hn1⟩))
  have HB1 := Lib.hid hn1
  have HZ := Lib.hid (fun w' (k : Below w1.heap.size w1 w') => z1.below k)
  clear hn1 z1 HS
  go_loopg [4, 5] m (fun g s4 s5 wx => ∃ i : Nat, i + g = m ∧ s4 = .int .i64 (tot (s.take i)) ∧ s5 = .int .i64 i ∧ Below w1.heap.size w1 wx)
  case atStart => exact ⟨0, by omega, by rw [List.take_zero]; rfl, rfl, Below.refl _ _⟩
  case round =>
    obtain ⟨i, hi, rfl, rfl, hb⟩ := hrel
    cases gk with
    | zero =>
      have hlt : ¬ (i : Int) < (m : Int) := by omega
      go_wp2
      go_ret
      exact ⟨ret_int (by rw [List.take_of_length_le (by have := HM.out; omega)]), HB1.out.trans (hb.mono HB1.out.size)⟩
    | succ g =>
      have hlt : (i : Int) < (m : Int) := by omega
      obtain ⟨x, hx⟩ : ∃ x, s[i]? = some x := ⟨_, List.getElem?_eq_getElem (by have := HM.out; omega)⟩
      obtain ⟨bb, off, rfl, c1, c2⟩ := HZ.out _ hb i x hx
      have hs := tot_take_snoc hx
      have h1 := HB.out i
      have h2 := HB.out (i + 1)
      have h3 := HSB2.out
      have hp := HP.out x (List.mem_of_getElem? hx)
      clear hx
      obtain ⟨x1, x2⟩ := x
      obtain ⟨p1, p2, p3⟩ := hp
      simp only at hs p1 p2 p3
      have HSN := Lib.hid hs
      have hT1 : 0 ≤ tot (s.take i) ∧ tot (s.take i) + (x2 - x1) ≤ 2305843009213693952 := by omega
      clear hs h1 h2 h3
      generalize tot (s.take i) = T at *
      have hw1 := IntWalk.i64_in (x2 - x1) (by omega)
      have hw2 := IntWalk.i64_in (T + (x2 - x1)) (by omega)
      go_wp2_with fail
      go_quiet (fail)
      go_wp2
      go_roundg g
      case measure => omega
      case rel => exact ⟨i + 1, by omega, by rw [HSN.out], by go_num, below_drewN hb _⟩
end Go.Proofs.Ytahionbbpfmplaa.Sp
