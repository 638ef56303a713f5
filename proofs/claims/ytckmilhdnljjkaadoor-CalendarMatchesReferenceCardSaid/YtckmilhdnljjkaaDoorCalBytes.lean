/- A slice of bytes that a call made from a string: its cells, its way back to a string, a store into it; and the text that Text writes for what Parse has read. Condition: the calendar's tables hold what their initialisers lay. -/
import Derived.Test.YtckmilhdnljjkaaDoorCalText2
import Derived.Laws.IdiomStrings
namespace Go.Proofs.YtckmilhdnljjkaaDoor.Cal
open Go.ChangeShapes Go.WideShapes Go.ChangeAt Go.RowKit Go.Sort Go.PlainAid
/-- What holds of the world on the way: nothing that was there has turned, the tables, the bytes of the call's own block g. -/
structure Keep (w : World) (g : Nat) (l : List UInt8) (wc : World) : Prop where
  below : Below w.heap.size w wc
  ok : Ok wc
  mine : w.heap.size ≤ g
  bytes : ∀ j (hj : j < l.length), wc.cell? ⟨g, j, none⟩ = some (.int .u8 (l[j].toNat : Int))
theorem Keep.step {w : World} {g : Nat} {l : List UInt8} {wc wn : World} (h : Keep w g l wc) (k : Below wc.heap.size wc wn) : Keep w g l wn :=
  ⟨h.below.trans (k.mono h.below.size), h.ok.below k, h.mine, fun j hj => cell_kept k (h.bytes j hj)⟩
theorem Keep.drew {w : World} {g : Nat} {l : List UInt8} {wc : World} (h : Keep w g l wc) : Keep w g l wc.drew := h.step ((Below.refl _ _).drew)
theorem conv_back {w : World} {g : Nat} {l : List UInt8} {wc : World} (h : Keep w g l wc) (cap : Nat) (hl : l.length = 10) :
    (convert 41 9 (.slice (some ⟨g, 0, none⟩) 10 cap)).run Tryd.prog wc = .ok (.string ⟨l.toArray⟩) wc := by
  have := run_convert_bytes_back (P := Tryd.prog) wc 41 9 5 ⟨g, 0, none⟩ cap l Tryd.underlying41 Tryd.underlying5 Tryd.underlying9 (fun j hj => by
    rw [add_plain, Nat.zero_add]; exact h.bytes j hj)
  rwa [hl] at this
/-- What the conversion of a string of ten bytes makes. -/
theorem conv_to (w w1 : World) (hb : Below w.heap.size w w1) (ok : Ok w1) (s : ByteArray) (hs : s.size = 10) :
    ∃ (cap : Nat) (wn : World), (convert 9 41 (.string s)).run Tryd.prog w1 = .ok (.slice (some ⟨w1.heap.size, 0, none⟩) 10 cap) wn ∧ Keep w w1.heap.size s.data.toList wn ∧ ∀ j, j < 10 → wn.frozen? ⟨w1.heap.size, j, none⟩ = false := by
  have h := run_bytes_of_string (P := Tryd.prog) w1 9 41 5 s Tryd.underlying9 Tryd.underlying41 Tryd.underlying5
  have hd : s.data.size = 10 := hs
  rw [hs] at h
  refine ⟨_, _, h, ?_, fun j hj => ?_⟩
  · have h1 : Below w1.heap.size w1 (w1.drew.alloc (.cells (bytesRow s (grownCap w1 10 0 5)) 5 ((bytesRow s (grownCap w1 10 0 5)).size, (bytesRow s (grownCap w1 10 0 5)).size + 1))) :=
      ((Below.refl _ w1).drew).alloc (Nat.le_refl _) _
    refine ⟨hb.trans (h1.mono hb.size), ok.below h1, hb.size, fun j hj => ?_⟩
    have hj' : j < s.data.size := by simpa using hj
    have := World.cell?_alloc_mark w1.drew (bytesRow s (grownCap w1 10 0 5)) 5 ((bytesRow s (grownCap w1 10 0 5)).size, (bytesRow s (grownCap w1 10 0 5)).size + 1) j
    rw [bytesRow_at s _ j hj'] at this
    exact this
  · have := World.frozen?_alloc_mark w1.drew (bytesRow s (grownCap w1 10 0 5)) 5 (bytesRow s (grownCap w1 10 0 5)).size ((bytesRow s (grownCap w1 10 0 5)).size + 1) j
    refine Eq.trans this ?_
    have hz : 10 ≤ (bytesRow s (grownCap w1 10 0 5)).size := by simp [bytesRow]; omega
    simp; omega
/-- A store into it. -/
theorem Keep.store {w : World} {g : Nat} {l : List UInt8} {wc : World} (h : Keep w g l wc) (j : Nat) (hj : j < l.length) (x : Int) (x0 : 0 ≤ x) (x1 : x ≤ 255) :
    Keep w g (l.set j (UInt8.ofNat x.toNat)) (wc.setCell ⟨g, j, none⟩ (.int .u8 x)) := by
  have hb : Below w.heap.size w (wc.setCell ⟨g, j, none⟩ (.int .u8 x)) := h.below.setCell (p := ⟨g, j, none⟩) h.mine _
  refine ⟨hb, ?_, h.mine, fun i hi => ?_⟩
  · have hT := h.ok.tab
    have hlt : ∀ k : Nat, k < 12 → (wc.setCell ⟨g, j, none⟩ (.int .u8 x)).cell? ⟨0, k, none⟩ = wc.cell? ⟨0, k, none⟩ := fun k hk =>
      World.cell?_setCell_other _ _ _ _ (fun e => by
        have e1 : g = 0 := congrArg Addr.block e
        have e2 : j = k := congrArg Addr.off e
        have c1 := h.bytes j hj
        have c2 := hT k hk
        rw [← e1, ← e2, c1] at c2
        cases c2)
    refine ⟨fun k hk => (hlt k hk).trans (hT k hk), ?_⟩
    have hp := h.ok.pow
    unfold Lib.TabIs World.var? at hp ⊢
    rw [gPow] at hp ⊢
    simp only [Option.bind_some] at hp ⊢
    have hg : g ≠ 1 := fun e => by
      have c1 := h.bytes j hj
      have c2 := Lib.TabIs.cell h.ok.pow gPow j
      rw [e] at c1
      rw [c1] at c2
      have hz : Lib.pow10Tab.length = 20 := rfl
      by_cases hj20 : j < 20
      · have := c2 (by omega)
        cases this
      · have h3 := World.var?_cell gPow h.ok.pow j
        rw [c1] at h3
        have h4 : ((Lib.pow10Tab.map fun z => Value.int .u64 z).toArray)[j]? = none := by simp; omega
        rw [h4] at h3
        cases h3
    have : (wc.setCell ⟨g, j, none⟩ (.int .u8 x)).heap[1]? = wc.heap[1]? := Below.heap_setCell _ _ _ _ (fun e => hg e.symm)
    rw [this]
    exact hp
  · have hi' : i < l.length := by simpa using hi
    by_cases e : i = j
    · subst e
      rw [World.cell?_setCell_same _ _ _ (h.bytes i hj)]
      have : ((UInt8.ofNat x.toNat).toNat : Int) = x := by rw [UInt8.toNat_ofNat']; omega
      simp only [List.getElem_set_self, this]
    · rw [World.cell?_setCell_other _ _ _ _ (fun h' => e (congrArg Addr.off h').symm), h.bytes i hi']
      simp [Ne.symm e]
theorem byte_of (b : UInt8) (n : Int) (h : (b.toNat : Int) = 48 + n) (h0 : 0 ≤ n) (h1 : n ≤ 9) : dig n = b := by
  apply UInt8.toNat_inj.1
  have := dig_nat n h0 h1
  omega
theorem bt_list (l : List UInt8) (i : Nat) (hi : i < l.length) : bt ⟨l.toArray⟩ i = (l[i].toNat : Int) := by
  unfold bt
  have hs : (⟨l.toArray⟩ : ByteArray).size = l.length := by simp [ByteArray.size]
  rw [dif_pos (by rw [hs]; exact hi)]
  simp [ByteArray.getElem_eq_getElem_data]
/-- The text of the day that a text of the form writes is that text. -/
theorem text_of_form (l : List UInt8) (f : Form ⟨l.toArray⟩) (h : ¬ NoDate (pY ⟨l.toArray⟩) (pM ⟨l.toArray⟩) (pD ⟨l.toArray⟩)) :
    ∃ i : Int, 0 ≤ i ∧ i ≤ 36524 ∧ beg (12 * (pY ⟨l.toArray⟩ - 2000) + pM ⟨l.toArray⟩ - 1) + pD ⟨l.toArray⟩ - 1 = i ∧ dtxt i = ⟨l.toArray⟩ := by
  have hl : l.length = 10 := by have := f.1; simpa [ByteArray.size] using this
  match l, hl with
  | [b0, b1, b2, b3, b4, b5, b6, b7, b8, b9], _ =>
    have c0 := digit_at f 0 (by decide) (by decide) (by decide)
    have c1 := digit_at f 1 (by decide) (by decide) (by decide)
    have c2 := digit_at f 2 (by decide) (by decide) (by decide)
    have c3 := digit_at f 3 (by decide) (by decide) (by decide)
    have c5 := digit_at f 5 (by decide) (by decide) (by decide)
    have c6 := digit_at f 6 (by decide) (by decide) (by decide)
    have c8 := digit_at f 8 (by decide) (by decide) (by decide)
    have c9 := digit_at f 9 (by decide) (by decide) (by decide)
    have c4 := (f.2 4 (by decide)).1 (Or.inl rfl)
    have c7 := (f.2 7 (by decide)).1 (Or.inr rfl)
    have y0 : pY ⟨[b0, b1, b2, b3, b4, b5, b6, b7, b8, b9].toArray⟩ = 1000 * ((b0.toNat : Int) - 48) + 100 * ((b1.toNat : Int) - 48) + 10 * ((b2.toNat : Int) - 48) + ((b3.toNat : Int) - 48) := rfl
    have m0 : pM ⟨[b0, b1, b2, b3, b4, b5, b6, b7, b8, b9].toArray⟩ = 10 * ((b5.toNat : Int) - 48) + ((b6.toNat : Int) - 48) := rfl
    have d0 : pD ⟨[b0, b1, b2, b3, b4, b5, b6, b7, b8, b9].toArray⟩ = 10 * ((b8.toNat : Int) - 48) + ((b9.toNat : Int) - 48) := rfl
    change 48 ≤ (b0.toNat : Int) ∧ (b0.toNat : Int) ≤ 57 at c0
    change 48 ≤ (b1.toNat : Int) ∧ (b1.toNat : Int) ≤ 57 at c1
    change 48 ≤ (b2.toNat : Int) ∧ (b2.toNat : Int) ≤ 57 at c2
    change 48 ≤ (b3.toNat : Int) ∧ (b3.toNat : Int) ≤ 57 at c3
    change (b4.toNat : Int) = 45 at c4
    change 48 ≤ (b5.toNat : Int) ∧ (b5.toNat : Int) ≤ 57 at c5
    change 48 ≤ (b6.toNat : Int) ∧ (b6.toNat : Int) ≤ 57 at c6
    change (b7.toNat : Int) = 45 at c7
    change 48 ≤ (b8.toNat : Int) ∧ (b8.toNat : Int) ≤ 57 at c8
    change 48 ≤ (b9.toNat : Int) ∧ (b9.toNat : Int) ≤ 57 at c9
    rw [y0, m0, d0] at h ⊢
    clear y0 m0 d0 f
    have h' := h
    unfold NoDate at h'
    generalize hY : 1000 * ((b0.toNat : Int) - 48) + 100 * ((b1.toNat : Int) - 48) + 10 * ((b2.toNat : Int) - 48) + ((b3.toNat : Int) - 48) = Y at *
    generalize hM : 10 * ((b5.toNat : Int) - 48) + ((b6.toNat : Int) - 48) = M at *
    generalize hD : 10 * ((b8.toNat : Int) - 48) + ((b9.toNat : Int) - 48) = D at *
    have h1 := mo_mk (m := 12 * (Y - 2000) + M - 1) (b := D - 1) (by omega) (by omega) (by omega) (by omega)
    have h2 := day_bd (m := 12 * (Y - 2000) + M - 1) (b := D - 1) (by omega) (by omega) (by omega) (by omega)
    rw [show beg (12 * (Y - 2000) + M - 1) + (D - 1) = beg (12 * (Y - 2000) + M - 1) + D - 1 by omega] at h1 h2
    refine ⟨_, h2.1, h2.2, rfl, ?_⟩
    unfold dtxt txt
    rw [h1.1, h1.2, show 2000 + (12 * (Y - 2000) + M - 1) / 12 = Y by omega, show (12 * (Y - 2000) + M - 1) % 12 + 1 = M by omega, show D - 1 + 1 = D by omega]
    rw [byte_of b2 ((Y - 2000) / 10) (by omega) (by omega) (by omega), byte_of b3 ((Y - 2000) % 10) (by omega) (by omega) (by omega), byte_of b5 (M / 10) (by omega) (by omega) (by omega), byte_of b6 (M % 10) (by omega) (by omega) (by omega),
      byte_of b8 (D / 10) (by omega) (by omega) (by omega), byte_of b9 (D % 10) (by omega) (by omega) (by omega)]
    have e0 : b0 = 50 := UInt8.toNat_inj.1 (by have : (50 : UInt8).toNat = 50 := rfl; omega)
    have e1 : b1 = 48 := UInt8.toNat_inj.1 (by have : (48 : UInt8).toNat = 48 := rfl; omega)
    have e4 : b4 = 45 := UInt8.toNat_inj.1 (by have : (45 : UInt8).toNat = 45 := rfl; omega)
    have e7 : b7 = 45 := UInt8.toNat_inj.1 (by have : (45 : UInt8).toNat = 45 := rfl; omega)
    rw [e0, e1, e4, e7]
end Go.Proofs.YtckmilhdnljjkaaDoor.Cal
