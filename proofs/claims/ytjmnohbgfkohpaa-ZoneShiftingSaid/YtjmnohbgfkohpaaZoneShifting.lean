/- The law ZoneShifting returns true. Conditions: package zone's contracts; the zone's changes lie in memory as the argument says. -/
import Derived.Test.YtjmnohbgfkohpaaZoneSum
import Derived.Deep.RegionLaw
import Derived.Deep.RegionHeld3
import Derived.BigRegion
import Derived.Deep.DeepCutAuto
namespace Go.Proofs.Ytjmnohbgfkohpaa.Zn
open Go.RowKit
/-- Changes that the call itself made. -/
def RowC (w : World) (base : Nat) (v : Value) (l : List (Int × Int)) : Prop := w.ownsRow base 52 2 v l.length (flat l)
theorem RowC.nil (w : World) (base : Nat) : RowC w base (.slice none 0 0) [] := World.ownsRow_nil _ _ _ _
theorem RowC.below {w w' : World} {base : Nat} {v : Value} {l : List (Int × Int)} (h : RowC w base v l) (k : Below w.heap.size w w') : RowC w' base v l := by
  refine ⟨h.1, ?_⟩
  rcases h.2 with hn | ⟨g, cap, cur, hv, hb, hg, rest⟩
  · exact .inl hn
  · exact .inr ⟨g, cap, cur, hv, hb, (k.block g (Array.getElem?_eq_some_iff.1 hg).1).trans hg, rest⟩
theorem RowC.push {w : World} {base : Nat} {v : Value} {l : List (Int × Int)} {d n : Int} (h : w.ownsRow base 52 2 v (l.length + 1) (flat l ++ [.int .i64 d, .int .i64 n])) : RowC w base v (l ++ [(d, n)]) := by
  unfold RowC
  rw [List.length_append, flat_append]
  exact h
/-- A store into another block turns nothing of it. -/
theorem RowC.store {w : World} {base : Nat} {v u : Value} {l : List (Int × Int)} {p : Addr} (h : RowC w base v l) (hp : p.block < base) : RowC (w.setCell p u) base v l := by
  refine ⟨h.1, ?_⟩
  rcases h.2 with hn | ⟨g, cap, cur, hv, hb, hg, rest⟩
  · exact .inl hn
  · exact .inr ⟨g, cap, cur, hv, hb, (Below.heap_setCell w p u g (by omega)).trans hg, rest⟩
theorem RowC.zone {w : World} {base : Nat} {v : Value} {l : List (Int × Int)} (h : RowC w base v l) : ∃ a cap, v = .slice a l.length cap ∧ ZoneAt a l w := by
  rcases h.2 with ⟨hv, hn⟩ | ⟨g, cap, cur, hv, hb, hg, rest⟩
  · refine ⟨none, 0, by rw [hv, hn], fun i x hx => ?_⟩
    rw [List.eq_nil_of_length_eq_zero hn] at hx
    simp at hx
  · refine ⟨some ⟨g, 0, none⟩, cap, hv, fun i x hx => ⟨g, 0, rfl, ?_⟩⟩
    subst hv
    obtain ⟨e1, e2⟩ := flat_get l i x hx
    have c1 := World.ownsRow.cells h (g := g) rfl (i * 2) _ e1
    have c2 := World.ownsRow.cells h (g := g) rfl (i * 2 + 1) _ e2
    have e : ∀ j, (⟨g, 0, none⟩ : Addr).add j = ⟨g, 0 + j, none⟩ := fun j => by unfold Addr.add; split <;> simp_all
    rw [e] at c1 c2
    exact ⟨c1, c2⟩
theorem Try.infoC : (Try.prog.info? 52).map (fun i => (i.zero, i.size, i.bytes)) = some (some (.agg #[.int .i64 0, .int .i64 0]), 2, 16) := by kernel_rfl
theorem Try.underC : Try.prog.underlying 22 = some (.slice 52) := by kernel_rfl
theorem two_cellsC {w : World} {o : Obj} {d n : Int} (ho : o = .cells #[.int .i64 d, .int .i64 n] 52) : ∀ j u, ([Value.int .i64 d, .int .i64 n] : List Value)[j]? = some u → (w.alloc o).cell? ((⟨w.heap.size, 0, none⟩ : Addr).add j) = some u := fun j u hu => by
  subst ho
  exact World.news_of_block (cs := #[.int .i64 d, .int .i64 n]) (heap_alloc_new w _) j u hu
/-- All offsets increased by one number. -/
def shl (y : Int) (cs : List (Int × Int)) : List (Int × Int) := cs.map fun x => (x.1, x.2 + y)
theorem shl_take (y : Int) (cs : List (Int × Int)) {i : Nat} {x : Int × Int} (h : cs[i]? = some x) : (shl y cs).take (i + 1) = (shl y cs).take i ++ [(x.1, x.2 + y)] := by
  have h' : (shl y cs)[i]? = some (x.1, x.2 + y) := by unfold shl; rw [List.getElem?_map, h]; rfl
  rw [List.take_add_one, h']; rfl
theorem shl_loc (y b : Int) (cs : List (Int × Int)) (t : Int) : loc (b + y) (shl y cs) t = loc b cs t + y := by
  have := off_shift y cs b t
  unfold loc shl
  rw [this]; omega
/-- The two boxes of the law, on the way: the zone's, and the one of the zone that is built, in block g. -/
structure Sh (OK : World → Prop) (w : World) (nm : ByteArray) (b : Int) (a : Option Addr) (len cap : Nat) (cs : List (Int × Int)) (g : Nat) (by_ : Int) (v : Value) (l : List (Int × Int)) (wx : World) : Prop where
  z : ZK OK w w.heap.size nm b a len cap cs wx
  lt : w.heap.size < g ∧ g < wx.heap.size
  y : wx.heap[g]? = some (.cells #[.string nm, .int .i64 (b + by_), v] 24 (0, 0))
  row : RowC wx (g + 1) v l
theorem Sh.y0 {OK : World → Prop} {w : World} {nm : ByteArray} {b : Int} {a : Option Addr} {len cap : Nat} {cs : List (Int × Int)} {g : Nat} {by_ : Int} {v : Value} {l : List (Int × Int)} {wx : World} (h : Sh OK w nm b a len cap cs g by_ v l wx) : wx.cell? ⟨g, 0, none⟩ = some (.string nm) := by rw [cell_of_row wx g 0 _ _ _ h.y]; rfl
theorem Sh.y1 {OK : World → Prop} {w : World} {nm : ByteArray} {b : Int} {a : Option Addr} {len cap : Nat} {cs : List (Int × Int)} {g : Nat} {by_ : Int} {v : Value} {l : List (Int × Int)} {wx : World} (h : Sh OK w nm b a len cap cs g by_ v l wx) : wx.cell? ⟨g, 1, none⟩ = some (.int .i64 (b + by_)) := by rw [cell_of_row wx g 1 _ _ _ h.y]; rfl
theorem Sh.y2 {OK : World → Prop} {w : World} {nm : ByteArray} {b : Int} {a : Option Addr} {len cap : Nat} {cs : List (Int × Int)} {g : Nat} {by_ : Int} {v : Value} {l : List (Int × Int)} {wx : World} (h : Sh OK w nm b a len cap cs g by_ v l wx) : wx.cell? ⟨g, 2, none⟩ = some v := by rw [cell_of_row wx g 2 _ _ _ h.y]; rfl
theorem Sh.step {OK : World → Prop} {w : World} {nm : ByteArray} {b : Int} {a : Option Addr} {len cap : Nat} {cs : List (Int × Int)} {g : Nat} {by_ : Int} {v : Value} {l : List (Int × Int)} {wx wn : World} (H : ZC OK) (h : Sh OK w nm b a len cap cs g by_ v l wx) (k : Below wx.heap.size wx wn) : Sh OK w nm b a len cap cs g by_ v l wn :=
  ⟨h.z.step H k, ⟨h.lt.1, Nat.lt_of_lt_of_le h.lt.2 k.size⟩, (k.block g h.lt.2).trans h.y, h.row.below k⟩
theorem okFrom_offs : ∀ {cs : List (Int × Int)} {p o : Int}, okFrom p o cs → ∀ x ∈ cs, (0 ≤ x.1 ∧ x.1 ≤ 52595999) ∧ -840 ≤ x.2 ∧ x.2 ≤ 840
  | [], _, _, _, x, hx => by cases hx
  | (a, f) :: r, p, o, h, x, hx => by
    obtain ⟨h1, h2, -, h4, h5, -, -, h8⟩ := h
    rcases List.mem_cons.1 hx with rfl | hx
    · exact ⟨⟨h1, h2⟩, h4, h5⟩
    · exact okFrom_offs h8 x hx
theorem ZK.far {OK : World → Prop} {w : World} {nm : ByteArray} {b : Int} {a : Option Addr} {len cap : Nat} {cs : List (Int × Int)} {wx wn : World} (H : ZC OK) (ok0 : OK w) (z0 : ZoneAt a cs w) (h : ZK OK w w.heap.size nm b a len cap cs wx) (k : Below (w.heap.size + 1) wx wn) : ZK OK w w.heap.size nm b a len cap cs wn :=
  ⟨h.zw.grown z0 k, H.step _ _ ok0 (h.zw.below.trans (k.mono (Nat.le_succ _)))⟩
theorem Sh.start {OK : World → Prop} {w : World} {nm : ByteArray} {b : Int} {a : Option Addr} {len cap : Nat} {cs : List (Int × Int)} {by_ : Int} {wx : World} (H : ZC OK) (h : ZK OK w w.heap.size nm b a len cap cs wx) : Sh OK w nm b a len cap cs wx.heap.size by_ (.slice none 0 0) [] (wx.alloc (.cells #[.string nm, .int .i64 (b + by_), .slice none 0 0] 24)) :=
  ⟨h.step H (alloc_below _ _), ⟨World.block_lt_of_cell? _ _ h.zw.c0, by simp⟩, heap_alloc_new _ _, RowC.nil _ _⟩
/-- The world behind the append, before the store. -/
theorem Sh.mid {OK : World → Prop} {w : World} {nm : ByteArray} {b : Int} {a : Option Addr} {len cap : Nat} {cs : List (Int × Int)} {g : Nat} {by_ : Int} {v : Value} {l : List (Int × Int)} {wx w1 : World} {o : Obj} (h : Sh OK w nm b a len cap cs g by_ v l wx) (hgrow : (wx.alloc o).grownBy w1 v.ownBlock) : Below (g + 1) wx w1 :=
  grown_below (World.ownsRow.alloc h.row _) hgrow h.lt.2 (Nat.le_refl _)
theorem Sh.mid2 {OK : World → Prop} {w : World} {nm : ByteArray} {b : Int} {a : Option Addr} {len cap : Nat} {cs : List (Int × Int)} {g : Nat} {by_ : Int} {v : Value} {l : List (Int × Int)} {wx w1 : World} {o : Obj} (h : Sh OK w nm b a len cap cs g by_ v l wx) (hgrow : (wx.alloc o).grownBy w1 v.ownBlock) : w1.cell? ⟨g, 2, none⟩ = some v ∧ w1.frozen? ⟨g, 2, none⟩ = false := by
  have e := ((h.mid hgrow).block g (Nat.lt_succ_self _)).trans h.y
  exact ⟨by rw [cell_of_row w1 g 2 _ _ _ e]; rfl, by simp [World.frozen?, e]⟩
theorem Sh.put {OK : World → Prop} {w : World} {nm : ByteArray} {b : Int} {a : Option Addr} {len cap : Nat} {cs : List (Int × Int)} {g : Nat} {by_ : Int} {v v' : Value} {l : List (Int × Int)} {wx w1 : World} {o : Obj} {d n : Int} (H : ZC OK) (ok0 : OK w) (z0 : ZoneAt a cs w) (h : Sh OK w nm b a len cap cs g by_ v l wx)
    (hown : w1.ownsRow (g + 1) 52 2 v' (l.length + 1) (flat l ++ [.int .i64 d, .int .i64 n])) (hgrow : (wx.alloc o).grownBy w1 v.ownBlock) : Sh OK w nm b a len cap cs g by_ v' (l ++ [(d, n)]) (w1.setCell ⟨g, 2, none⟩ v') := by
  have k1 := h.mid hgrow
  have k2 : Below g wx (w1.setCell ⟨g, 2, none⟩ v') := (k1.mono (Nat.le_succ _)).setCell (Nat.le_refl _) _
  refine ⟨h.z.far H ok0 z0 (k2.mono h.lt.1), ⟨h.lt.1, Nat.lt_of_lt_of_le h.lt.2 k2.size⟩, ?_, (RowC.push hown).store (Nat.lt_succ_self _)⟩
  have e := (k1.block g (Nat.lt_succ_self _)).trans h.y
  rw [heap_setCell_same w1 g 2 _ _ v' e]; rfl
set_option maxHeartbeats 8000000 in
set_option maxRecDepth 100000 in
theorem shifting_walk {OK : World → Prop} (H : ZC OK) (nm : ByteArray) (b : Int) (a : Option Addr) (cap : Nat) (cs : List (Int × Int)) (y t : Int) (w : World) (hb : Rng b) (hm : ∀ x ∈ cs, Rng x.1 ∧ Rng x.2) (hl : cs.length ≤ 9223372036854775807) (hy : Rng y) (ht : Rng t) (ok : OK w) (z : ZoneAt a cs w) :
    Calls Try.prog 9 #[zv nm b a cs.length cap, .int .i64 y, .int .i64 t] w fun r w' => r = .returned (.bool true) ∧ Below w.heap.size w w' := by
  have inv := ZK.start H w nm b a cs.length cap cs ok z
  have hV := fun w (z : ZoneAt a cs w) => rvalid_any nm b a cap cs w hl z
  have HZ := Lib.hid z
  have HOK := Lib.hid ok
  clear z ok
  by_cases hs : cs.length ≤ 70
  · have zr : ZR b cs := ⟨hs, hb, hm⟩
    have HSM := Lib.hid (fun w => small_yes nm b a cs.length cap hs w)
    by_cases v : Valid b cs
    · rw [decide_eq_true v] at hV
      have HV := Lib.hid hV
      by_cases hin : -2000 ≤ y ∧ y ≤ 2000
      · obtain ⟨y0, y1⟩ := hin
        have b0 := v.2.1
        have b1 := v.2.2.1
        have hov := okFrom_offs v.2.2.2
        have HX := Lib.hid hov
        obtain ⟨len, hlen⟩ : ∃ len, len = cs.length := ⟨_, rfl⟩
        have HLEN := Lib.hid hlen
        rw [← hlen] at inv hs HSM HV
        have HVV := Lib.hid v
        have C := Lib.hid H
        have HZR := Lib.hid zr
        have HT := Lib.hid ht
        rw [← hlen]
        clear H hb hm hl zr hV v hov ht hlen hy
        have k0 := inv.zw.c0
        have k1 := inv.zw.c1
        have k2 := inv.zw.c2
        obtain ⟨i0, hi, hz0, hz1, hz2⟩ := info_parts Try.infoC
        have HI0 := Lib.hid (And.intro hi (And.intro hz0 (And.intro hz1 hz2)))
        clear hi hz0 hz1 hz2
        go_enter Try.func9, Try.ntmps9
        go_wp2_with (first
          | (go_at_call 11; with_reducible refine (head_any C.out _ inv.ok).mono ?_; rintro e w2 ⟨rfl, hn⟩; replace inv := inv.step C.out hn; have k0 := inv.zw.c0; have k1 := inv.zw.c1; have k2 := inv.zw.c2; clear hn)
          | (go_at_call 12; with_reducible refine (HSM.out _).mono ?_; rintro e w2 ⟨rfl, hn⟩; replace inv := inv.step C.out hn; have k0 := inv.zw.c0; have k1 := inv.zw.c1; have k2 := inv.zw.c2; clear hn)
          | (go_at_call 17; with_reducible refine (HV.out _ inv.zw.zone).mono ?_; rintro e w2 ⟨rfl, hn⟩; replace inv := inv.step C.out hn; have k0 := inv.zw.c0; have k1 := inv.zw.c1; have k2 := inv.zw.c2; clear hn))
        have hsh := Sh.start (by_ := y) C.out inv
        go_loopg [9] len (fun g s9 wx => ∃ (i : Nat) (v : Value) (acc : List (Int × Int)), i + g = len ∧ s9 = .int .i64 i ∧ Hid (acc = (shl y cs).take i) ∧ Sh OK w nm b a len cap cs w2.heap.size y v acc wx)
        case atStart => exact ⟨0, _, [], by omega, rfl, rfl, hsh⟩
        case round =>
          clear hsh inv k0 k1 k2
          obtain ⟨i, v, acc, hi, rfl, HA, hsh⟩ := hrel
          have k2 := hsh.z.zw.c2
          cases gk with
          | zero =>
            have hlt : ¬ (i : Int) < (len : Int) := by omega
            have hil : acc.length = len := by rw [HA.out, List.length_take]; unfold shl; rw [List.length_map]; have := HLEN.out; omega
            have hacc : acc = shl y cs := by rw [HA.out]; exact List.take_of_length_le (by unfold shl; rw [List.length_map]; have := HLEN.out; omega)
            obtain ⟨a', c', rfl, hz'⟩ := hsh.row.zone
            have zy : ZR (b + y) acc := ⟨by omega, rng_small (by omega) (by omega), fun x hx => by
              rw [hacc] at hx
              obtain ⟨x0, hx0, rfl⟩ := List.mem_map.1 hx
              have := HX.out x0 hx0
              exact ⟨rng_small (by show -1000000000 ≤ x0.1; omega) (by show x0.1 ≤ 1000000000; omega), rng_small (by show -1000000000 ≤ x0.2 + y; omega) (by show x0.2 + y ≤ 1000000000; omega)⟩⟩
            have hVY := fun w (z : ZoneAt a' acc w) => rvalid_any nm (b + y) a' c' acc w (by omega) z
            have hL := C.out.loc nm b a cap cs t HZR.out HT.out
            have hM := C.out.loc nm (b + y) a' c' acc t zy HT.out
            rw [← HLEN.out] at hL
            rw [hil] at hVY hM hsh
            have k0 := hsh.z.zw.c0
            have k1 := hsh.z.zw.c1
            have k3 := hsh.y0
            have k4 := hsh.y1
            have k5 := hsh.y2
            by_cases vy : Valid (b + y) acc
            · rw [decide_eq_true vy] at hVY
              have HVY := Lib.hid hVY
              have harg : locE b cs t = 1 ↔ locE (b + y) acc t = 1 := by
                rw [locE_arg, locE_arg]
                exact ⟨fun h hh => h ⟨HVV.out, hh.2⟩, fun h hh => h ⟨vy, hh.2⟩⟩
              by_cases hee : locE b cs t = 0 ∧ locE (b + y) acc t = 0
              · obtain ⟨he, hf⟩ := hee
                obtain ⟨-, g1, g2, g3, g4, g5, -⟩ := locE_ok he
                obtain ⟨-, f1, f2, f3, f4, f5, -⟩ := locE_ok hf
                have hll : loc (b + y) acc t = loc b cs t + y := by rw [hacc]; exact shl_loc y b cs t
                have hoo : offFrom (b + y) acc t = offFrom b cs t + y := by rw [hacc]; exact off_shift y cs b t
                have hob := bd HVV.out t
                rw [he] at hL
                rw [hf] at hM
                have hO := C.out.offset nm b a cap cs t HZR.out HT.out
                have hP := C.out.offset nm (b + y) a' c' acc t zy HT.out
                have hW := C.out.valid nm (b + y) a' c' acc zy
                rw [show offR b cs t = offFrom b cs t from if_pos HVV.out, ← HLEN.out] at hO
                rw [show offR (b + y) acc t = offFrom (b + y) acc t from if_pos vy, hoo, hil] at hP
                rw [decide_eq_true vy, hil] at hW
                have HL := Lib.hid hL
                have HM := Lib.hid hM
                have HO := Lib.hid hO
                have HP := Lib.hid hP
                have HW := Lib.hid hW
                clear hL hM hO hP hW hVY vy he hf hoo harg zy
                generalize locD b cs t = d1 at *
                generalize locM b cs t = m1 at *
                generalize locD (b + y) acc t = d2 at *
                generalize locM (b + y) acc t = m2 at *
                generalize loc b cs t = l1 at *
                generalize loc (b + y) acc t = l2 at *
                generalize offFrom b cs t = o1 at *
                have hwo : IntKind.i64.wrap (o1 + y) = o1 + y := IntWalk.i64_in (o1 + y) (by omega)
                have HACC := Lib.hid hacc
                clear hacc
                have HFIN := Lib.hid (show (IntKind.i64.wrap (IntKind.i64.wrap (d2 * 1440) + m2) == IntKind.i64.wrap (IntKind.i64.wrap (IntKind.i64.wrap (d1 * 1440) + m1) + y)) = true by
                  rw [IntWalk.i64_in (d2 * 1440) (by omega), IntWalk.i64_in (d1 * 1440) (by omega), IntWalk.i64_in (d2 * 1440 + m2) (by omega), IntWalk.i64_in (d1 * 1440 + m1) (by omega), IntWalk.i64_in (d1 * 1440 + m1 + y) (by omega)]
                  exact beq_iff_eq.2 (by omega))
                go_upto_region 15 with (first
                  | (go_at_call 17; with_reducible refine (HVY.out _ hz').mono ?_; rintro e w3 ⟨rfl, hn⟩; replace hsh := hsh.step C.out hn; replace hz' := hz'.below hn; have k0 := hsh.z.zw.c0; have k1 := hsh.z.zw.c1; have k2 := hsh.z.zw.c2; have k3 := hsh.y0; have k4 := hsh.y1; have k5 := hsh.y2; clear hn)
                  | (go_at_call 14; with_reducible refine (HL.out _ hsh.z.ok hsh.z.zw.zone).mono ?_; rintro e w3 ⟨rfl, hn⟩; replace hsh := hsh.step C.out hn; replace hz' := hz'.below hn; have k0 := hsh.z.zw.c0; have k1 := hsh.z.zw.c1; have k2 := hsh.z.zw.c2; have k3 := hsh.y0; have k4 := hsh.y1; have k5 := hsh.y2; clear hn)
                  | (go_at_call 14; with_reducible refine (HM.out _ hsh.z.ok hz').mono ?_; rintro e w3 ⟨rfl, hn⟩; replace hsh := hsh.step C.out hn; replace hz' := hz'.below hn; have k0 := hsh.z.zw.c0; have k1 := hsh.z.zw.c1; have k2 := hsh.z.zw.c2; have k3 := hsh.y0; have k4 := hsh.y1; have k5 := hsh.y2; clear hn))
                replace hsh := hsh.step C.out (Below.refl _ _).drew
                replace hz' := hz'.below (Below.refl _ _).drew
                go_region_held3 (fun w' => w'.cell? ⟨w.heap.size, 0, none⟩ = some (.string nm) ∧ w'.cell? ⟨w.heap.size, 1, none⟩ = some (.int .i64 b) ∧ w'.cell? ⟨w.heap.size, 2, none⟩ = some (.slice a len cap) ∧ w'.cell? ⟨w2.heap.size, 0, none⟩ = some (.string nm) ∧ w'.cell? ⟨w2.heap.size, 1, none⟩ = some (.int .i64 (b + y)) ∧ w'.cell? ⟨w2.heap.size, 2, none⟩ = some (.slice a' len c') ∧ Sh OK w nm b a len cap cs w2.heap.size y (.slice a' len c') acc w' ∧ ZoneAt a' acc w')
                  (first
                    | exact ⟨hsh.z.zw.c0, hsh.z.zw.c1, hsh.z.zw.c2, hsh.y0, hsh.y1, hsh.y2, hsh, hz'⟩)
                  (first
                    | (go_at_call 16; with_reducible refine (HW.out _ hsh.z.ok hz').mono ?_; rintro e w3 ⟨rfl, hn⟩; replace hsh := hsh.step C.out hn; replace hz' := hz'.below hn; clear hn)
                    | (go_at_call 18; with_reducible refine (HP.out _ hsh.z.ok hz').mono ?_; rintro e w3 ⟨rfl, hn⟩; replace hsh := hsh.step C.out hn; replace hz' := hz'.below hn; clear hn)
                    | (go_at_call 18; with_reducible refine (HO.out _ hsh.z.ok hsh.z.zw.zone).mono ?_; rintro e w3 ⟨rfl, hn⟩; replace hsh := hsh.step C.out hn; replace hz' := hz'.below hn; clear hn))
                all_goals go_wp2
                all_goals go_ret
                all_goals exact ⟨ret_bool HFIN.out, hsh.z.zw.below⟩
              · have hkk : (locE b cs t = 0 ∧ locE (b + y) acc t = 21) ∨ (locE b cs t = 21 ∧ locE (b + y) acc t = 0) ∨ (locE b cs t = 21 ∧ locE (b + y) acc t = 21) ∨ (locE b cs t = 1 ∧ locE (b + y) acc t = 1) := by
                  rcases locE_kinds b cs t with h | h | h <;> rcases locE_kinds (b + y) acc t with h' | h' | h' <;> omega
                have HL := Lib.hid hL
                have HM := Lib.hid hM
                have HACC := Lib.hid hacc
                clear hL hM hVY vy harg zy hacc hee
                generalize locE b cs t = q1 at *
                generalize locE (b + y) acc t = q2 at *
                generalize locD b cs t = d1 at *
                generalize locM b cs t = m1 at *
                generalize locD (b + y) acc t = d2 at *
                generalize locM (b + y) acc t = m2 at *
                rcases hkk with ⟨rfl, rfl⟩ | ⟨rfl, rfl⟩ | ⟨rfl, rfl⟩ | ⟨rfl, rfl⟩
                all_goals (go_wp2_with (first
                  | (go_at_call 17; with_reducible refine (HVY.out _ hz').mono ?_; rintro e w3 ⟨rfl, hn⟩; replace hsh := hsh.step C.out hn; replace hz' := hz'.below hn; have k0 := hsh.z.zw.c0; have k1 := hsh.z.zw.c1; have k2 := hsh.z.zw.c2; have k3 := hsh.y0; have k4 := hsh.y1; have k5 := hsh.y2; clear hn)
                  | (go_at_call 14; with_reducible refine (HL.out _ hsh.z.ok hsh.z.zw.zone).mono ?_; rintro e w3 ⟨rfl, hn⟩; replace hsh := hsh.step C.out hn; replace hz' := hz'.below hn; have k0 := hsh.z.zw.c0; have k1 := hsh.z.zw.c1; have k2 := hsh.z.zw.c2; have k3 := hsh.y0; have k4 := hsh.y1; have k5 := hsh.y2; clear hn)
                  | (go_at_call 14; with_reducible refine (HM.out _ hsh.z.ok hz').mono ?_; rintro e w3 ⟨rfl, hn⟩; replace hsh := hsh.step C.out hn; replace hz' := hz'.below hn; have k0 := hsh.z.zw.c0; have k1 := hsh.z.zw.c1; have k2 := hsh.z.zw.c2; have k3 := hsh.y0; have k4 := hsh.y1; have k5 := hsh.y2; clear hn)))
                all_goals go_ret
                all_goals exact ⟨rfl, hsh.z.zw.below⟩
            · rw [decide_eq_false vy] at hVY
              have HVY := Lib.hid hVY
              have HACC := Lib.hid hacc
              clear hL hM hVY vy zy hacc
              go_wp2_with (first
                | (go_at_call 17; with_reducible refine (HVY.out _ hz').mono ?_; rintro e w3 ⟨rfl, hn⟩; replace hsh := hsh.step C.out hn; replace hz' := hz'.below hn; have k0 := hsh.z.zw.c0; have k1 := hsh.z.zw.c1; have k2 := hsh.z.zw.c2; have k3 := hsh.y0; have k4 := hsh.y1; have k5 := hsh.y2; clear hn))
              go_ret
              exact ⟨rfl, hsh.z.zw.below⟩
          | succ g =>
            have hlt : (i : Int) < (len : Int) := by omega
            have h0i : (0 : Int) ≤ (i : Int) := Int.natCast_nonneg i
            obtain ⟨x, hx⟩ : ∃ x, cs[i]? = some x := ⟨_, List.getElem?_eq_getElem (by have := HLEN.out; omega)⟩
            have hxb := HX.out x (List.mem_of_getElem? hx)
            obtain ⟨bb, off, rfl, h1, h2⟩ := hsh.z.zw.zone i x hx
            have HS := Lib.hid (show acc ++ [(x.1, x.2 + y)] = (shl y cs).take (i + 1) by rw [HA.out]; exact (shl_take y cs hx).symm)
            have hll : acc.length ≤ 70 := by rw [HA.out, List.length_take]; omega
            obtain ⟨x1, x2⟩ := x
            have hx3 : -840 ≤ x2 ∧ x2 ≤ 840 := hxb.2
            clear hx hxb
            have y2 := hsh.y2
            have kb : ∀ ob, (wr.alloc ob).cell? ⟨w2.heap.size, 2, none⟩ = some v := fun ob => cell_kept (alloc_below wr ob) y2
            have HSH := Lib.hid (hsh.step C.out (Below.refl _ _).drew)
            clear hsh
            have hwr : IntKind.i64.wrap (x2 + y) = x2 + y := IntWalk.i64_in (x2 + y) (by omega)
            go_wp2_with fail
            go_region_law (refine step_append_lies _ (by rfl) _ _ 22 (by rfl) (w2.heap.size + 1) 52 i0 (.agg #[.int .i64 0, .int .i64 0]) 2 16 Try.underC HI0.out.1 HI0.out.2.1 HI0.out.2.2.1 HI0.out.2.2.2 rfl (by decide) _ _ _ (by rfl) (World.ownsRow.alloc HSH.out.row _) _ 1 1 [.int .i64 x1, .int .i64 (x2 + y)] (by rfl) rfl (two_cellsC rfl) two_one (by decide) (by unfold maxLen; omega) (by omega) (Nat.le_trans HSH.out.lt.2 (alloc_below _ _).size) _ rfl ?_; intro g2 cap2 w1 hown' hgrow _ _; have q1 := (HSH.out.mid2 hgrow).1; have q2 := (HSH.out.mid2 hgrow).2; have HS1 := Lib.hid (HSH.out.put C.out HOK.out HZ.out hown' hgrow); clear hown' hgrow)
            all_goals clear kb
            all_goals go_wp2
            all_goals go_roundg g
            all_goals first | omega | exact ⟨i + 1, _, _, by omega, by go_num, HS.out, HS1.out⟩
      · have C := Lib.hid H
        clear H hb hm hl hs zr hV v hy ht
        generalize cs.length = len at *
        have k0 := inv.zw.c0
        have k1 := inv.zw.c1
        have k2 := inv.zw.c2
        by_cases h0 : y < -2000
        · have e : decide (y < -2000) = true := decide_eq_true h0
          clear hin
          go_enter Try.func9, Try.ntmps9
          go_wp2_with (first
            | (go_at_call 11; with_reducible refine (head_any C.out _ inv.ok).mono ?_; rintro e w2 ⟨rfl, hn⟩; replace inv := inv.step C.out hn; have k0 := inv.zw.c0; have k1 := inv.zw.c1; have k2 := inv.zw.c2; clear hn)
            | (go_at_call 12; with_reducible refine (HSM.out _).mono ?_; rintro e w2 ⟨rfl, hn⟩; replace inv := inv.step C.out hn; have k0 := inv.zw.c0; have k1 := inv.zw.c1; have k2 := inv.zw.c2; clear hn)
            | (go_at_call 17; with_reducible refine (HV.out _ inv.zw.zone).mono ?_; rintro e w2 ⟨rfl, hn⟩; replace inv := inv.step C.out hn; have k0 := inv.zw.c0; have k1 := inv.zw.c1; have k2 := inv.zw.c2; clear hn))
          go_ret
          exact ⟨rfl, inv.zw.below⟩
        · have e : decide (y < -2000) = false := decide_eq_false h0
          have e2 : decide (2000 < y) = true := decide_eq_true (by omega)
          clear hin h0
          go_enter Try.func9, Try.ntmps9
          go_wp2_with (first
            | (go_at_call 11; with_reducible refine (head_any C.out _ inv.ok).mono ?_; rintro e w2 ⟨rfl, hn⟩; replace inv := inv.step C.out hn; have k0 := inv.zw.c0; have k1 := inv.zw.c1; have k2 := inv.zw.c2; clear hn)
            | (go_at_call 12; with_reducible refine (HSM.out _).mono ?_; rintro e w2 ⟨rfl, hn⟩; replace inv := inv.step C.out hn; have k0 := inv.zw.c0; have k1 := inv.zw.c1; have k2 := inv.zw.c2; clear hn)
            | (go_at_call 17; with_reducible refine (HV.out _ inv.zw.zone).mono ?_; rintro e w2 ⟨rfl, hn⟩; replace inv := inv.step C.out hn; have k0 := inv.zw.c0; have k1 := inv.zw.c1; have k2 := inv.zw.c2; clear hn))
          go_ret
          exact ⟨rfl, inv.zw.below⟩
    · rw [decide_eq_false v] at hV
      have HV := Lib.hid hV
      have C := Lib.hid H
      clear H hb hm hl hs zr hV v hy ht
      generalize cs.length = len at *
      have k0 := inv.zw.c0
      have k1 := inv.zw.c1
      have k2 := inv.zw.c2
      go_enter Try.func9, Try.ntmps9
      go_wp2_with (first
        | (go_at_call 11; with_reducible refine (head_any C.out _ inv.ok).mono ?_; rintro e w2 ⟨rfl, hn⟩; replace inv := inv.step C.out hn; have k0 := inv.zw.c0; have k1 := inv.zw.c1; have k2 := inv.zw.c2; clear hn)
        | (go_at_call 12; with_reducible refine (HSM.out _).mono ?_; rintro e w2 ⟨rfl, hn⟩; replace inv := inv.step C.out hn; have k0 := inv.zw.c0; have k1 := inv.zw.c1; have k2 := inv.zw.c2; clear hn)
        | (go_at_call 17; with_reducible refine (HV.out _ inv.zw.zone).mono ?_; rintro e w2 ⟨rfl, hn⟩; replace inv := inv.step C.out hn; have k0 := inv.zw.c0; have k1 := inv.zw.c1; have k2 := inv.zw.c2; clear hn))
      go_ret
      exact ⟨rfl, inv.zw.below⟩
  · have HSM := Lib.hid (fun w => small_no nm b a cs.length cap hs hl w)
    have C := Lib.hid H
    clear H hb hm hl hs hV hy ht
    generalize cs.length = len at *
    have k0 := inv.zw.c0
    have k1 := inv.zw.c1
    have k2 := inv.zw.c2
    go_enter Try.func9, Try.ntmps9
    go_wp2_with (first
      | (go_at_call 11; with_reducible refine (head_any C.out _ inv.ok).mono ?_; rintro e w2 ⟨rfl, hn⟩; replace inv := inv.step C.out hn; have k0 := inv.zw.c0; have k1 := inv.zw.c1; have k2 := inv.zw.c2; clear hn)
      | (go_at_call 12; with_reducible refine (HSM.out _).mono ?_; rintro e w2 ⟨rfl, hn⟩; replace inv := inv.step C.out hn; have k0 := inv.zw.c0; have k1 := inv.zw.c1; have k2 := inv.zw.c2; clear hn))
    go_ret
    exact ⟨rfl, inv.zw.below⟩
end Go.Proofs.Ytjmnohbgfkohpaa.Zn
