/- What the reference's Shift returns for every short list of tokens. Conditions: the list lies in memory as the argument says. -/
import Derived.Test.YtlpombnmeioafaaDoorLexRow
import Derived.Deep.RegionHeld3
import Derived.Deep.AppendLies
import Derived.OwnWalk
import Derived.Deep.LoopGhost
set_option linter.unusedVariables false
set_option linter.unusedSimpArgs false
namespace Go.Proofs.YtlpombnmeioafaaDoor.Lx
open Go Go.RowKit Go.PlainAid Go.Proofs.YtlpombnmeioafaaDoor.Zn
def shT (b : Nat) (L : List ATok) : List ATok := L.map fun t => (t.1, t.2.1, t.2.2 + b)
theorem shT_snoc {L : List ATok} {i : Nat} {x : ATok} {b : Nat} (hx : L[i]? = some x) : shT b (L.take (i + 1)) = shT b (L.take i) ++ [(x.1, x.2.1, x.2.2 + b)] := by
  unfold shT
  rw [List.take_add_one, hx, List.map_append]; rfl
theorem row_grown {w wx w' : World} {v : Value} {base : Nat} {t : TypeId} {size n : Nat} {xs : List Value} (hb : Below w.heap.size w wx) (hown : wx.ownsRow base t size v n xs) (hg : wx.grownBy w' v.ownBlock) (hbase : w.heap.size ≤ base) : Below w.heap.size w w' :=
  hb.grown hg hb.size (fun i hi => Nat.le_trans hbase (World.ownsRow.lt hown i hi).1)
set_option maxHeartbeats 4000000 in
set_option maxRecDepth 100000 in
theorem shift_any (a : Option Addr) (c n b : Nat) (L : List ATok) (w : World) (hn : n = L.length) (hl : n ≤ 2000) (hb9 : b ≤ 10000) (hx9 : ∀ x ∈ L, x.2.2 ≤ 10000) (z : TokAt a L w) :
    Calls Tryd.prog 15 #[.slice a n c, .int .i64 b] w fun r w' => ∃ v, r = .returned v ∧ RowT w' w.heap.size v (shT b L) ∧ Below w.heap.size w w' := by
  have HN := Lib.hid hn
  have HF := Lib.hid hx9
  have HZ := Lib.hid (fun w' (k : Below w.heap.size w w') => z.below k)
  clear hn z hx9
  obtain ⟨i0, hi, hz0, hz1, hz2⟩ := info_parts Tryd.infoT
  have HI0 := Lib.hid (And.intro hi (And.intro hz0 (And.intro hz1 hz2)))
  clear hi hz0 hz1 hz2
  go_enter Tryd.func15, Tryd.ntmps15
  go_wp2
  go_loopg [5, 6] n (fun g s5 s6 wx => ∃ (i : Nat) (acc : List ATok), i + g = n ∧ s6 = .int .i64 i ∧ Hid (acc = shT b (L.take i)) ∧ acc.length ≤ i ∧ Hid (RowT wx w.heap.size s5 acc) ∧ Below w.heap.size w wx)
  case atStart => exact ⟨0, [], by omega, rfl, Lib.hid (show [] = _ by rw [List.take_zero]; rfl), Nat.le_refl _, Lib.hid (RowT.nil _ _), Below.refl _ _⟩
  case round =>
    obtain ⟨i, acc, hi, rfl, HA, hal, HR, hb⟩ := hrel
    cases gk with
    | zero =>
      have hlt : ¬ (i : Int) < (n : Int) := by omega
      have HF2 := Lib.hid (show acc = shT b L by rw [HA.out, List.take_of_length_le (by have := HN.out; omega)])
      clear HA
      go_wp2
      go_ret
      exact ⟨_, rfl, by rw [← HF2.out]; exact HR.out, hb⟩
    | succ g =>
      have hlt : (i : Int) < (n : Int) := by omega
      have hin : i < n := by omega
      obtain ⟨x, hx⟩ : ∃ x, L[i]? = some x := ⟨_, List.getElem?_eq_getElem (by have := HN.out; omega)⟩
      obtain ⟨bb, off, rfl, c0, c1, c2⟩ := HZ.out _ hb i x hx
      have HA2 := Lib.hid (show acc ++ [(x.1, x.2.1, x.2.2 + b)] = shT b (L.take (i + 1)) by rw [shT_snoc hx, HA.out])
      have hx2 := HF.out x (List.mem_of_getElem? hx)
      have HXL := Lib.hid hx
      clear hx HA
      obtain ⟨κ, t, p⟩ := x
      simp only at c0 c1 c2 HA2 hx2
      have hw1 : IntKind.i64.wrap ((p : Int) + (b : Int)) = (p : Int) + (b : Int) := IntWalk.i64_in _ (by omega)
      have hi0 : (0 : Int) ≤ (i : Int) := by omega
      have hsz := hb.size
      obtain ⟨m, hm⟩ : ∃ m, m = acc.length := ⟨_, rfl⟩
      have hrow : World.ownsRow ((wr.drew).alloc (.cells #[.int .i64 κ, .string t, .int .i64 ((p : Int) + (b : Int))] 30)) w.heap.size 30 3 u5 m (flatT acc) := by
        have h := (HR.out.below (Drw.below ⟨1, rfl⟩ : Below wr.heap.size wr wr.drew)).below (alloc_below wr.drew (.cells #[.int .i64 κ, .string t, .int .i64 ((p : Int) + (b : Int))] 30))
        unfold RowT at h
        rw [← hm] at h
        exact h
      have hbx : Below w.heap.size w ((wr.drew).alloc (.cells #[.int .i64 κ, .string t, .int .i64 ((p : Int) + (b : Int))] 30)) := hb.drew.alloc hb.size _
      have HRO := Lib.hid (And.intro hrow hbx)
      have HMM := Lib.hid hm
      have hm2 : m ≤ 2000 := by omega
      clear hrow hbx hm
      go_upto_region 5 with (fail)
      go_region_held3 (fun w' => w'.cell? ⟨bb, off + i * 3, none⟩ = some (.int .i64 κ) ∧ w'.cell? ⟨bb, off + i * 3 + 1, none⟩ = some (.string t) ∧ w'.cell? ⟨bb, off + i * 3 + 2, none⟩ = some (.int .i64 p))
        (first
          | go_keep
          | exact HS9.out)
        ((refine step_append_lies _ (by rfl) _ _ _ (by rfl) w.heap.size 30 i0 (.agg #[.int .i64 0, .string ⟨#[]⟩, .int .i64 0]) 3 32 Tryd.underT HI0.out.1 HI0.out.2.1 HI0.out.2.2.1 HI0.out.2.2.2 rfl (by decide) _ m (flatT acc) (by rfl) HRO.out.1 ⟨wr.heap.size, 0, none⟩ 1 1 [.int .i64 κ, .string t, .int .i64 ((p : Int) + (b : Int))] (by rfl) (by rfl)
            (World.news_of_block (cs := #[.int .i64 κ, .string t, .int .i64 ((p : Int) + (b : Int))]) (t := 30) (fr := (0, 0)) (heap_alloc_new wr.drew _)) (fun u hu => by simp only [List.mem_cons, List.not_mem_nil, or_false] at hu; rcases hu with rfl | rfl | rfl <;> rfl) (by omega) (by unfold maxLen; omega) (by omega) (HRO.out.2.size) (wr.heap.size + 1) (by simp) ?_
          intro g9 c9 w9 hown hgrow hat hg9
          have hB9 := Lib.hid (row_grown HRO.out.2 HRO.out.1 hgrow (Nat.le_refl _))
          have HO9 := Lib.hid hown
          have HS9 := Lib.hid (show w9.cell? ⟨bb, off + i * 3, none⟩ = some (.int .i64 κ) ∧ w9.cell? ⟨bb, off + i * 3 + 1, none⟩ = some (.string t) ∧ w9.cell? ⟨bb, off + i * 3 + 2, none⟩ = some (.int .i64 p) by
            obtain ⟨b3, o3, e3, q0, q1, q2⟩ := HZ.out _ hB9.out i (κ, t, p) HXL.out
            cases e3
            exact ⟨q0, q1, q2⟩)
          clear hown hgrow hat hg9))
      go_wp2
      have hRT : RowT w9 w.heap.size (.slice (some ⟨g9, 0, none⟩) (m + 1) c9) (acc ++ [(κ, t, p + b)]) := RowT.app HMM.out rfl HO9.out
      have HRT := Lib.hid hRT
      clear hRT
      go_roundg g
      case measure => omega
      case rel => exact ⟨i + 1, acc ++ [(κ, t, p + b)], by omega, by go_num, HA2, by rw [List.length_append]; show _ + 1 ≤ _; omega, HRT, hB9.out⟩
end Go.Proofs.YtlpombnmeioafaaDoor.Lx
