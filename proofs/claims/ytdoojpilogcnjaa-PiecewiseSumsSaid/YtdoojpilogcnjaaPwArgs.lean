/- What the laws' arguments returns: arguments from 0 to 10^12, in a row of its own. Conditions: the functions' pieces lie in memory as the arguments say and are valid; they are not too many. -/
import Derived.Test.YtdoojpilogcnjaaPwStarts
import Derived.Test.YtdoojpilogcnjaaPwMade
import Derived.Test.YtdoojpilogcnjaaSpanStep
import Derived.Maps.AppendAt
set_option linter.unusedVariables false
set_option linter.unusedSimpArgs false
namespace Go.Proofs.Ytdoojpilogcnjaa.Pw
open Go.RowKit Go.Proofs.Ytdoojpilogcnjaa.Sp
theorem step_append_at {P : Program} {w : World} {ops : Array Oper} {o : Oper} {a : Act} {K : Act → World → Prop} {Q : Exit → Act → World → Prop} {E : Prop} (hgd : o.guard = none) (s x : Operand) (t : TypeId)
    (ho : o.op = .call { callee := .builtin .append, args := #[s, x], argTypes := #[t, t] })
    (base : Nat) (e : TypeId) (i : TypeInfo) (z : Value) (size bytes : Nat) (ht : P.underlying t = some (.slice e)) (hi : P.info? e = some i) (hz : i.zero = some z)
    (hsize : i.size = size) (hby : i.bytes = bytes) (hzs : z.cells.size = size) (hsz : 0 < size)
    (v : Value) (n : Nat) (xs : List Value) (hs : a.eval s = v) (hown : w.ownsRow base e size v n xs)
    (ad : Addr) (m c : Nat) (news : List Value) (hx : a.eval x = .slice (some ad) m c) (hl : news.length = m * size) (hnews : ∀ j u, news[j]? = some u → w.cell? (ad.add j) = some u) (h1 : ∀ u ∈ news, u.oneCell' = true)
    (h63 : n + m ≤ maxLen) (hbytes : (n + m) * bytes ≤ 140737488355328) (hbase : base ≤ w.heap.size)
    (h : ∀ v' w', w'.ownsRow base e size v' (n + m) (xs ++ news) → w.grownBy w' v.ownBlock → (v'.ownBlock = v.ownBlock ∨ v'.ownBlock = some w.heap.size) → K (a.put o.dst v') w') :
    if Region.wanted o (yielded ops a.tmps) = true then Oper.wp P o a w K Q else E := by
  have hw : Region.wanted o (yielded ops a.tmps) = true := by simp [Region.wanted, hgd]
  rw [if_pos hw]
  obtain ⟨v', w', hr, h2, h3, h4, h5⟩ := run_append_own_at (P := P) w base t o.type e i z size bytes ht hi hz hsize hby hzs hsz v n xs hown ad m c news hl hnews h1 h63 hbytes hbase
  unfold Oper.wp execOp
  simp only [ho, resolve, invoke, builtin, Sem.run_bind, Sem.run_pure, Result.andThen_ok, List.map_toArray, List.map_cons, List.map_nil, hs, hx, hr]
  exact h v' w' h2 h3 h5
theorem RowI.below {w w' : World} {base : Nat} {v : Value} {S : List Int} (h : RowI w base v S) (kb : Below w.heap.size w w') : RowI w' base v S := by
  refine ⟨h.1, ?_⟩
  rcases h.2 with hn | ⟨g, cap, cur, hv, hb, hg, rest⟩
  · exact .inl hn
  · exact .inr ⟨g, cap, cur, hv, hb, (kb.block g (Array.getElem?_eq_some_iff.1 hg).1).trans hg, rest⟩
theorem ints_four {w : World} {o : Obj} {d e f g : Int} (ho : o = .cells #[.int .i64 d, .int .i64 e, .int .i64 f, .int .i64 g] 3) : ∀ j u, ([Value.int .i64 d, .int .i64 e, .int .i64 f, .int .i64 g] : List Value)[j]? = some u → (w.alloc o).cell? ((⟨w.heap.size, 0, none⟩ : Addr).add j) = some u := fun j u hu => by
  subst ho
  exact World.news_of_block (cs := #[.int .i64 d, .int .i64 e, .int .i64 f, .int .i64 g]) (heap_alloc_new w _) j u hu
theorem four_one {d e f g : Int} : ∀ u ∈ ([Value.int .i64 d, .int .i64 e, .int .i64 f, .int .i64 g] : List Value), u.oneCell' = true := fun u hu => by
  simp at hu; rcases hu with rfl | rfl | rfl | rfl <;> rfl
theorem RowI.app4 {w : World} {base : Nat} {v : Value} {S : List Int} {d e f g : Int} (h : w.ownsRow base 3 1 v (S.length + 4) (S.map (Value.int .i64) ++ [.int .i64 d, .int .i64 e, .int .i64 f, .int .i64 g])) : RowI w base v (S ++ [d, e, f, g]) := by
  unfold RowI
  rw [List.length_append, List.map_append]
  exact h
/-- What arguments leaves. -/
def ArgPost (w : World) (N : Nat) (r : Ending) (w' : World) : Prop := ∃ v S, r = .returned v ∧ RowI w' w.heap.size v S ∧ (∀ x ∈ S, 0 ≤ x ∧ x ≤ 1000000000000) ∧ S.length ≤ 2 + 4 * N ∧ 0 < S.length ∧ Below w.heap.size w w'
/-- What the loop keeps. -/
structure ArI (w : World) (sa : Option Addr) (St : List Int) (v : Value) (acc : List Int) (i : Nat) (W : World) : Prop where
  row : RowI W w.heap.size v acc
  own : St ≠ [] → ∀ q, v.ownBlock = some q → ∀ b o, sa = some ⟨b, o, none⟩ → q ≠ b
  lt : St ≠ [] → ∀ b o, sa = some ⟨b, o, none⟩ → b < W.heap.size
  st : IntsAt sa St W
  bd : ∀ x ∈ acc, 0 ≤ x ∧ x ≤ 1000000000000
  len : acc.length = 2 + 4 * i
  hb : Below w.heap.size w W
theorem ArI.below {w : World} {sa : Option Addr} {St : List Int} {v : Value} {acc : List Int} {i : Nat} {W W' : World} (h : ArI w sa St v acc i W) (k : Below W.heap.size W W') : ArI w sa St v acc i W' :=
  ⟨h.row.below k, h.own, fun hn b o e => Nat.lt_of_lt_of_le (h.lt hn b o e) k.size, h.st.below k, h.bd, h.len, h.hb.trans (k.mono h.hb.size)⟩
theorem ArI.app {w : World} {sa : Option Addr} {St : List Int} {v v' : Value} {acc : List Int} {i : Nat} {W w' : World} {d e f g : Int} (h : ArI w sa St v acc i W) (hown : RowI w' w.heap.size v' (acc ++ [d, e, f, g])) (hg : W.grownBy w' v.ownBlock) (hv : v'.ownBlock = v.ownBlock ∨ v'.ownBlock = some W.heap.size)
    (hd : (0 ≤ d ∧ d ≤ 1000000000000) ∧ (0 ≤ e ∧ e ≤ 1000000000000) ∧ (0 ≤ f ∧ f ≤ 1000000000000) ∧ (0 ≤ g ∧ g ≤ 1000000000000)) : ArI w sa St v' (acc ++ [d, e, f, g]) (i + 1) w' := by
  refine ⟨hown, fun hn q hq b o es => ?_, fun hn b o es => Nat.lt_of_lt_of_le (h.lt hn b o es) hg.size, fun j x hx => ?_, fun x hx => ?_, by rw [List.length_append, h.len]; show _ + 4 = _; omega, h.hb.grown hg h.hb.size (fun q hq => (World.ownsRow.lt h.row q hq).1)⟩
  · rcases hv with hv | hv
    · exact h.own hn q (hv.symm.trans hq) b o es
    · rw [hv] at hq; have := Option.some.inj hq; have := h.lt hn b o es; omega
  · have hn : St ≠ [] := fun e => by rw [e] at hx; simp at hx
    obtain ⟨b, o, es, c⟩ := h.st j x hx
    exact ⟨b, o, es, (World.cell?_of_block (w := W) (hg.block b (h.lt hn b o es) (fun q => h.own hn b q.symm b o es rfl))).trans c⟩
  · rcases List.mem_append.1 hx with hx | hx
    · exact h.bd x hx
    · simp only [List.mem_cons, List.not_mem_nil, or_false] at hx
      rcases hx with rfl | rfl | rfl | rfl
      · exact hd.1
      · exact hd.2.1
      · exact hd.2.2.1
      · exact hd.2.2.2
theorem starts_bd {l r : List Pc} (hl : Ok l) (hr : Ok r) {x : Int} (hx : x ∈ starts l r) : 0 ≤ x ∧ x ≤ 1000000000000 := by
  rcases (starts_mem l r x).1 hx with ⟨p, hp, rfl⟩ | ⟨p, hp, rfl⟩
  · exact ⟨from_nonneg hl hp, hl.top p hp⟩
  · exact ⟨from_nonneg hr hp, hr.top p hp⟩
theorem starts_le (l r : List Pc) : (starts l r).length ≤ l.length + r.length := by
  have h := (mgd_spec _ (l.map Prod.fst) (r.map Prod.fst) (Nat.le_refl _)).2.1
  rw [List.length_map, List.length_map] at h
  exact h
theorem load_fn (w : World) (d : Int) (a : Option Addr) (n c : Nat) : (w.alloc (fb d a n c)).cell? ⟨w.heap.size, 0, none⟩ = some (.int .i64 d) ∧ (w.alloc (fb d a n c)).cell? ⟨w.heap.size, 1, none⟩ = some (.slice a n c) := ⟨(fb_cells w d a n c).1, (fb_cells w d a n c).2.1⟩
set_option maxHeartbeats 16000000 in
set_option maxRecDepth 100000 in
theorem args_any (d e x : Int) (a b : Option Addr) (c k : Nat) (l r : List Pc) (w : World) (hx : Rg x) (hl : l.length ≤ 100) (hr : r.length ≤ 100) (ol : Ok l) (or_ : Ok r) (zl : PcsAt a l w) (zr : PcsAt b r w) :
    Calls Try.prog 26 #[fv d a l.length c, fv e b r.length k, .int .i64 x] w (ArgPost w (l.length + r.length)) := by
  have HST := Lib.hid (fun W (q : Below w.heap.size w W) => rstarts_any d e a b c k l r W (by omega) (by omega) (zl.below q) (zr.below q))
  have HP1 := Lib.hid (fun w => pick_any x 1000000000001 w hx (by decide) (by decide))
  have HP2 := Lib.hid (fun w => pick_any x 1000 w hx (by decide) (by decide))
  have hC0 := pk_bd (c := x) (n := 1000000000001) (by decide)
  have hC1 := pk_bd (c := x) (n := 1000) (by decide)
  generalize pk x 1000000000001 = C0 at *
  generalize pk x 1000 = C1 at *
  have HSB := Lib.hid (fun x (hx : x ∈ starts l r) => starts_bd ol or_ hx)
  have HSL := Lib.hid (starts_le l r)
  have HCB := Lib.hid (And.intro hC0 hC1)
  have HNL := Lib.hid (And.intro hl hr)
  generalize starts l r = St at *
  obtain ⟨i0, hi, hz0, hz1, hz2⟩ := info_parts Try.infoI
  have HI0 := Lib.hid (And.intro hi (And.intro hz0 (And.intro hz1 hz2)))
  have q1 := load_fn w d a l.length c
  have hB1 := Sp.alloc_below w (fb d a l.length c)
  have q2 := load_fn (w.alloc (fb d a l.length c)) e b r.length k
  have hB2 := Sp.alloc_below (w.alloc (fb d a l.length c)) (fb e b r.length k)
  have hsz : (w.alloc (fb d a l.length c)).heap.size = w.heap.size + 1 := by simp
  rw [hsz] at q2
  have f0 := Sp.cell_kept hB2 q1.1
  have f1 := Sp.cell_kept hB2 q1.2
  obtain ⟨g0, g1⟩ := q2
  have hB := hB1.trans (hB2.mono hB1.size)
  clear hx hl hr ol or_ zl zr hi hz0 hz1 hz2 hC0 hC1 q1 hB1 hB2 hsz
  generalize l.length = n at *
  generalize r.length = m at *
  have HFG := Lib.hid (And.intro f0 (And.intro f1 (And.intro g0 g1)))
  have HB := Lib.hid hB
  clear hB
  go_enter Try.func26, Try.ntmps26
  go_upto_region 1 with (fail)
  change Code.wp _ _ _ _ ((w.alloc (fb d a n c)).alloc (fb e b m k))
  generalize (w.alloc (fb d a n c)).alloc (fb e b m k) = W1 at *
  generalize hx0 : w.heap.size = x0 at f0 f1 g0 g1 ⊢
  have HX := Lib.hid hx0
  clear hx0
  go_upto_region 2 with (go_at_call 17; (with_reducible refine (HP1.out _).mono ?_); rintro _ W1 ⟨rfl, rfl⟩)
  have kA := Sp.alloc_below W1 (.cells #[.int .i64 C0, .int .i64 1000000000000] 3)
  have hRW : RowI (W1.alloc (.cells #[.int .i64 C0, .int .i64 1000000000000] 3)) w.heap.size (.slice (some ⟨W1.heap.size, 0, none⟩) 2 2) [C0, 1000000000000] :=
    World.ownsRow_lit (size := 1) W1 #[.int .i64 C0, .int .i64 1000000000000] 2 HB.out.size (by unfold maxLen; decide) rfl
  have HRW := Lib.hid hRW
  have hs2 : W1.heap.size < (W1.alloc (.cells #[.int .i64 C0, .int .i64 1000000000000] 3)).heap.size := by simp
  have HB2 := Lib.hid (HB.out.trans (kA.mono HB.out.size))
  clear f0 f1 g0 g1 hRW
  have f0 := Sp.cell_kept kA HFG.out.1
  have f1 := Sp.cell_kept kA HFG.out.2.1
  have g0 := Sp.cell_kept kA HFG.out.2.2.1
  have g1 := Sp.cell_kept kA HFG.out.2.2.2
  rw [HX.out] at f0 f1 g0 g1
  generalize W1.alloc (.cells #[.int .i64 C0, .int .i64 1000000000000] 3) = W2 at *
  generalize W1.heap.size = y0 at HRW hs2 ⊢
  have HS2 := Lib.hid hs2
  clear kA hs2
  go_upto_region 3 with (go_at_call 31; (with_reducible refine (HST.out _ HB2.out).mono ?_); rintro _ W3 ⟨sa, sc, rfl, hst, hbs, hfs⟩; have HAI : Hid (ArI w sa St (.slice (some ⟨y0, 0, none⟩) 2 2) [C0, 1000000000000] 0 W3) := ⟨HRW.out.below hbs, (fun _ q hq b o es => by have := hfs b o es; have := HS2.out; have := Option.some.inj hq; simp only at this; omega), (fun hn b o es => by obtain ⟨y, t, e⟩ := List.exists_cons_of_ne_nil hn; obtain ⟨b2, o2, e2, c2⟩ := hst 0 y (by rw [e]; rfl); rw [es] at e2; cases e2; exact World.block_lt_of_cell? _ _ c2), hst, (fun x hx => by have := HCB.out; simp only [List.mem_cons, List.not_mem_nil, or_false] at hx; rcases hx with rfl | rfl <;> omega), rfl, HB2.out.trans (hbs.mono HB2.out.size)⟩; clear hst hbs hfs f0 f1 g0 g1)
  obtain ⟨M, hM⟩ : ∃ M, M = St.length := ⟨_, rfl⟩
  rw [← hM]
  have HM := Lib.hid hM
  clear hM
  go_wp2_with fail
  go_loopg [7, 9] M (fun g s7 s9 wx => ∃ (i : Nat) (acc : List Int), i + g = M ∧ s9 = .int .i64 i ∧ Hid (ArI w sa St s7 acc i wx))
  case atStart => exact ⟨0, [C0, 1000000000000], by omega, rfl, HAI⟩
  case round =>
    clear HAI
    obtain ⟨i, acc, hi, rfl, HA⟩ := hrel
    cases gk with
    | zero =>
      obtain rfl : i = M := by omega
      have HLL := Lib.hid (show acc.length ≤ 2 + 4 * (n + m) ∧ 0 < acc.length by have := HA.out.len; have := HM.out; have := HSL.out; omega)
      go_wp2
      go_ret
      exact ⟨_, acc, rfl, HA.out.row, HA.out.bd, HLL.out.1, HLL.out.2, HA.out.hb⟩
    | succ g =>
      have hlt : (i : Int) < (M : Int) := by omega
      have hi0 : (0 : Int) ≤ (i : Int) := by omega
      have hMb : M ≤ 200 := by have := HM.out; have := HSL.out; have := HNL.out; omega
      have hwi : IntKind.i64.wrap ((i : Int) + 1) = (i : Int) + 1 := IntWalk.i64_in _ (by omega)
      obtain ⟨y, hy⟩ : ∃ y, St[i]? = some y := ⟨_, List.getElem?_eq_getElem (by have := HM.out; omega)⟩
      obtain ⟨sb, so, es, e0⟩ := HA.out.st i y hy
      subst es
      have HY := Lib.hid hy
      have hyb := HSB.out y (List.mem_of_getElem? hy)
      have hcb := HCB.out
      obtain ⟨s1, hs1⟩ : ∃ s, y - 1 = s := ⟨_, rfl⟩
      obtain ⟨s2, hs2⟩ : ∃ s, y + 1 = s := ⟨_, rfl⟩
      obtain ⟨s3, hs3⟩ : ∃ s, y + C1 = s := ⟨_, rfl⟩
      have w1 : IntKind.i64.wrap (y - 1) = s1 := by rw [hs1]; exact IntWalk.i64_in _ (by omega)
      have w2 : IntKind.i64.wrap (y + 1) = s2 := by rw [hs2]; exact IntWalk.i64_in _ (by omega)
      have w3 : IntKind.i64.wrap (y + C1) = s3 := by rw [hs3]; exact IntWalk.i64_in _ (by omega)
      have HBD := Lib.hid (show (0 ≤ y ∧ y ≤ 1000000000000) ∧ (0 ≤ max 0 s1 ∧ max 0 s1 ≤ 1000000000000) ∧ (0 ≤ min 1000000000000 s2 ∧ min 1000000000000 s2 ≤ 1000000000000) ∧ (0 ≤ min 1000000000000 s3 ∧ min 1000000000000 s3 ≤ 1000000000000) by omega)
      have HA1 := Lib.hid (HA.out.below (Below.refl _ wr).drew)
      have HE := Lib.hid e0
      have HLN := Lib.hid (show acc.length ≤ 1000 by have := HA.out.len; omega)
      clear hy hyb hcb hs1 hs2 hs3
      have hmix : Try.prog.follows .mixedOrders = true := by kernel_rfl
      go_upto_region 6 with (fail)
      refine wp_region_held_drew (S := fun W => W.cell? ⟨sb, so + i, none⟩ = some (.int .i64 y)) hmix (Sp.cell_kept (Below.refl _ wr).drew HE.out) (fun hHeld => ?_)
      generalize wr.drew = WR at *
      refine wpAnyH_take (i := 0) (v := ?_) rfl (by kernel_rfl) (by kernel_rfl) (by kernel_rfl) (fun _ _ _ h => h) (Or.inl ⟨by rfl, ?_⟩) (by assumption) ?_
      rotate_left
      · intro w hSw; (try dsimp only at hSw); go_simp; (try with_reducible rfl)
      (try simp only [Act.put, List.getElem_toArray, List.getElem_cons_succ, List.getElem_cons_zero, List.setIfInBounds_toArray, List.set_cons_zero, List.set_cons_succ])
      refine wpAnyH_take (i := 1) (v := ?_) rfl (by kernel_rfl) (by kernel_rfl) (by kernel_rfl) (fun _ _ _ h => h) (Or.inl ⟨by rfl, ?_⟩) (by assumption) ?_
      rotate_left
      · intro w hSw; (try dsimp only at hSw); go_simp; (try with_reducible rfl)
      (try simp only [Act.put, List.getElem_toArray, List.getElem_cons_succ, List.getElem_cons_zero, List.setIfInBounds_toArray, List.set_cons_zero, List.set_cons_succ])
      refine wpAnyH_take (i := 2) (v := ?_) rfl (by kernel_rfl) (by kernel_rfl) (by kernel_rfl) (fun _ _ _ h => h) (Or.inl ⟨by rfl, ?_⟩) (by assumption) ?_
      rotate_left
      · intro w hSw; (try dsimp only at hSw); go_simp; (try with_reducible rfl)
      (try simp only [Act.put, List.getElem_toArray, List.getElem_cons_succ, List.getElem_cons_zero, List.setIfInBounds_toArray, List.set_cons_zero, List.set_cons_succ])
      refine wpAnyH_take (i := 3) (v := ?_) rfl (by kernel_rfl) (by kernel_rfl) (by kernel_rfl) (fun _ _ _ h => h) (Or.inl ⟨by rfl, ?_⟩) (by assumption) ?_
      rotate_left
      · intro w hSw; (try dsimp only at hSw); go_simp; (try with_reducible rfl)
      (try simp only [Act.put, List.getElem_toArray, List.getElem_cons_succ, List.getElem_cons_zero, List.setIfInBounds_toArray, List.set_cons_zero, List.set_cons_succ])
      refine wpAnyH_take (i := 4) (v := ?_) rfl (by kernel_rfl) (by kernel_rfl) (by kernel_rfl) (fun _ _ _ h => h) (Or.inl ⟨by rfl, ?_⟩) (by assumption) ?_
      rotate_left
      · intro w hSw; (try dsimp only at hSw); go_simp; (try with_reducible rfl)
      (try simp only [Act.put, List.getElem_toArray, List.getElem_cons_succ, List.getElem_cons_zero, List.setIfInBounds_toArray, List.set_cons_zero, List.set_cons_succ])
      refine wpAnyH_take (i := 5) (v := ?_) rfl (by kernel_rfl) (by kernel_rfl) (by kernel_rfl) (fun _ _ _ h => h) (Or.inl ⟨by rfl, ?_⟩) (by assumption) ?_
      rotate_left
      · intro w hSw; (try dsimp only at hSw); go_simp; (try with_reducible rfl)
      (try simp only [Act.put, List.getElem_toArray, List.getElem_cons_succ, List.getElem_cons_zero, List.setIfInBounds_toArray, List.set_cons_zero, List.set_cons_succ])
      refine wpAnyH_take (i := 6) (v := ?_) rfl (by kernel_rfl) (by kernel_rfl) (by kernel_rfl) (fun _ _ _ h => h) (Or.inl ⟨by rfl, ?_⟩) (by assumption) ?_
      rotate_left
      · intro w hSw; (try dsimp only at hSw); go_simp; (try with_reducible rfl)
      (try simp only [Act.put, List.getElem_toArray, List.getElem_cons_succ, List.getElem_cons_zero, List.setIfInBounds_toArray, List.set_cons_zero, List.set_cons_succ])
      refine wpAnyH_take (i := 7) (v := ?_) rfl (by kernel_rfl) (by kernel_rfl) (by kernel_rfl) (fun _ _ _ h => h) (Or.inl ⟨by rfl, ?_⟩) (by assumption) ?_
      rotate_left
      · intro w hSw; (try dsimp only at hSw); go_simp; (try with_reducible rfl)
      (try simp only [Act.put, List.getElem_toArray, List.getElem_cons_succ, List.getElem_cons_zero, List.setIfInBounds_toArray, List.set_cons_zero, List.set_cons_succ])
      refine wpAnyH_take (i := 8) (v := ?_) rfl (by kernel_rfl) (by kernel_rfl) (by kernel_rfl) (fun _ _ _ h => h) (Or.inl ⟨by rfl, ?_⟩) (by assumption) ?_
      rotate_left
      · intro w hSw; (try dsimp only at hSw); go_simp; (try with_reducible rfl)
      (try simp only [Act.put, List.getElem_toArray, List.getElem_cons_succ, List.getElem_cons_zero, List.setIfInBounds_toArray, List.set_cons_zero, List.set_cons_succ])
      refine wpAnyH_take (i := 9) (v := ?_) rfl (by kernel_rfl) (by kernel_rfl) (by kernel_rfl) (fun _ _ _ h => h) (Or.inl ⟨by rfl, ?_⟩) (by assumption) ?_
      rotate_left
      · intro w hSw; (try dsimp only at hSw); go_simp; (try with_reducible rfl)
      (try simp only [Act.put, List.getElem_toArray, List.getElem_cons_succ, List.getElem_cons_zero, List.setIfInBounds_toArray, List.set_cons_zero, List.set_cons_succ])
      refine wpAnyH_take (i := 10) (v := ?_) rfl (by kernel_rfl) (by kernel_rfl) (by kernel_rfl) (fun _ _ _ h => h) (Or.inl ⟨by rfl, ?_⟩) (by assumption) ?_
      rotate_left
      · intro w hSw; (try dsimp only at hSw); go_simp; (try with_reducible rfl)
      (try simp only [Act.put, List.getElem_toArray, List.getElem_cons_succ, List.getElem_cons_zero, List.setIfInBounds_toArray, List.set_cons_zero, List.set_cons_succ])
      refine wpAnyH_take (i := 11) (v := ?_) rfl (by kernel_rfl) (by kernel_rfl) (by kernel_rfl) (fun _ _ _ h => h) (Or.inl ⟨by rfl, ?_⟩) (by assumption) ?_
      rotate_left
      · intro w hSw; (try dsimp only at hSw); go_simp; (try with_reducible rfl)
      (try simp only [Act.put, List.getElem_toArray, List.getElem_cons_succ, List.getElem_cons_zero, List.setIfInBounds_toArray, List.set_cons_zero, List.set_cons_succ])
      refine wpAnyH_take (i := 12) (v := ?_) rfl (by kernel_rfl) (by kernel_rfl) (by kernel_rfl) (fun _ _ _ h => h) (Or.inl ⟨by rfl, ?_⟩) (by assumption) ?_
      rotate_left
      · intro w hSw; (try dsimp only at hSw); go_simp; (try with_reducible rfl)
      (try simp only [Act.put, List.getElem_toArray, List.getElem_cons_succ, List.getElem_cons_zero, List.setIfInBounds_toArray, List.set_cons_zero, List.set_cons_succ])
      refine wpAnyH_take (i := 13) (v := ?_) rfl (by kernel_rfl) (by kernel_rfl) (by kernel_rfl) (fun _ _ _ h => h) (Or.inl ⟨by rfl, ?_⟩) (by assumption) ?_
      rotate_left
      · intro w hSw; (try dsimp only at hSw); go_simp; (try with_reducible rfl)
      (try simp only [Act.put, List.getElem_toArray, List.getElem_cons_succ, List.getElem_cons_zero, List.setIfInBounds_toArray, List.set_cons_zero, List.set_cons_succ])
      refine wpAnyH_take (i := 14) (v := ?_) rfl (by kernel_rfl) (by kernel_rfl) (by kernel_rfl) (fun _ _ _ h => h) (Or.inl ⟨by rfl, ?_⟩) (by assumption) ?_
      rotate_left
      · intro w hSw; (try dsimp only at hSw); go_simp; (try with_reducible rfl)
      (try simp only [Act.put, List.getElem_toArray, List.getElem_cons_succ, List.getElem_cons_zero, List.setIfInBounds_toArray, List.set_cons_zero, List.set_cons_succ])
      refine wpAnyH_take (i := 15) (v := ?_) rfl (by kernel_rfl) (by kernel_rfl) (by kernel_rfl) (fun _ _ _ h => h) (Or.inl ⟨by rfl, ?_⟩) (by assumption) ?_
      rotate_left
      · intro w hSw; (try dsimp only at hSw); go_simp; (try with_reducible rfl)
      (try simp only [Act.put, List.getElem_toArray, List.getElem_cons_succ, List.getElem_cons_zero, List.setIfInBounds_toArray, List.set_cons_zero, List.set_cons_succ])
      refine wpAnyH_take (i := 16) (v := ?_) rfl (by kernel_rfl) (by kernel_rfl) (by kernel_rfl) (fun _ _ _ h => h) (Or.inl ⟨by rfl, ?_⟩) (by assumption) ?_
      rotate_left
      · intro w hSw; (try dsimp only at hSw); go_simp; (try with_reducible rfl)
      (try simp only [Act.put, List.getElem_toArray, List.getElem_cons_succ, List.getElem_cons_zero, List.setIfInBounds_toArray, List.set_cons_zero, List.set_cons_succ])
      refine wpAnyH_take (i := 17) (v := ?_) rfl (by kernel_rfl) (by kernel_rfl) (by kernel_rfl) (fun _ _ _ h => h) (Or.inl ⟨by rfl, ?_⟩) (by assumption) ?_
      rotate_left
      · intro w hSw; (try dsimp only at hSw); go_simp; (try with_reducible rfl)
      (try simp only [Act.put, List.getElem_toArray, List.getElem_cons_succ, List.getElem_cons_zero, List.setIfInBounds_toArray, List.set_cons_zero, List.set_cons_succ])
      refine wpAnyH_take (i := 18) (v := ?_) rfl (by kernel_rfl) (by kernel_rfl) (by kernel_rfl) (fun _ _ _ h => h) (Or.inl ⟨by rfl, ?_⟩) (by assumption) ?_
      rotate_left
      · intro w hSw; (try dsimp only at hSw); go_simp; (try with_reducible rfl)
      (try simp only [Act.put, List.getElem_toArray, List.getElem_cons_succ, List.getElem_cons_zero, List.setIfInBounds_toArray, List.set_cons_zero, List.set_cons_succ])
      refine wpAnyH_take (i := 19) (v := ?_) rfl (by kernel_rfl) (by kernel_rfl) (by kernel_rfl) (fun _ _ _ h => h) (Or.inl ⟨by rfl, ?_⟩) (by assumption) ?_
      rotate_left
      · intro w hSw; (try dsimp only at hSw); go_simp; (try with_reducible rfl)
      (try simp only [Act.put, List.getElem_toArray, List.getElem_cons_succ, List.getElem_cons_zero, List.setIfInBounds_toArray, List.set_cons_zero, List.set_cons_succ])
      refine wpAnyH_take (i := 20) (v := ?_) rfl (by kernel_rfl) (by kernel_rfl) (by kernel_rfl) (fun _ _ _ h => h) (Or.inl ⟨by rfl, ?_⟩) (by assumption) ?_
      rotate_left
      · intro w hSw; (try dsimp only at hSw); go_simp; (try with_reducible rfl)
      (try simp only [Act.put, List.getElem_toArray, List.getElem_cons_succ, List.getElem_cons_zero, List.setIfInBounds_toArray, List.set_cons_zero, List.set_cons_succ])
      refine wpAnyH_take (i := 21) (v := ?_) rfl (by kernel_rfl) (by kernel_rfl) (by kernel_rfl) (fun _ _ _ h => h) (Or.inl ⟨by rfl, ?_⟩) (by assumption) ?_
      rotate_left
      · intro w hSw; (try dsimp only at hSw); go_simp; (try with_reducible rfl)
      (try simp only [Act.put, List.getElem_toArray, List.getElem_cons_succ, List.getElem_cons_zero, List.setIfInBounds_toArray, List.set_cons_zero, List.set_cons_succ])
      refine wpAnyH_ready (rs := [22]) (by kernel_rfl) (by simp) ?_
      refine AllReadyH.cons rfl (fun K hK => ?_) AllReadyH.nil
      go_simp
      refine (HP2.out _).mono ?_
      rintro _ WR ⟨rfl, rfl⟩
      refine hK.out _ _ hHeld (fun hHeld => ?_)
      clear hK K
      (try simp only [Act.put, List.getElem_toArray, List.getElem_cons_succ, List.getElem_cons_zero, List.setIfInBounds_toArray, List.set_cons_zero, List.set_cons_succ])
      refine wpAnyH_take (i := 23) (v := ?_) rfl (by kernel_rfl) (by kernel_rfl) (by kernel_rfl) (fun _ _ _ h => h) (Or.inl ⟨by rfl, ?_⟩) (by assumption) ?_
      rotate_left
      · intro w hSw; (try dsimp only at hSw); go_simp; (try with_reducible rfl)
      (try simp only [Act.put, List.getElem_toArray, List.getElem_cons_succ, List.getElem_cons_zero, List.setIfInBounds_toArray, List.set_cons_zero, List.set_cons_succ])
      refine wpAnyH_take (i := 24) (v := ?_) rfl (by kernel_rfl) (by kernel_rfl) (by kernel_rfl) (fun _ _ _ h => h) (Or.inl ⟨by rfl, ?_⟩) (by assumption) ?_
      rotate_left
      · intro w hSw; (try dsimp only at hSw); go_simp; (try with_reducible rfl)
      (try simp only [Act.put, List.getElem_toArray, List.getElem_cons_succ, List.getElem_cons_zero, List.setIfInBounds_toArray, List.set_cons_zero, List.set_cons_succ])
      refine wpAnyH_ready (rs := [25]) (by kernel_rfl) (by simp) ?_
      refine AllReadyH.cons rfl (fun K hK => ?_) AllReadyH.nil
      go_simp
      have kA := Sp.alloc_below WR (.cells #[.int .i64 y, .int .i64 (max 0 s1), .int .i64 (min 1000000000000 s2), .int .i64 (min 1000000000000 s3)] 3)
      have HA2 := Lib.hid (HA1.out.below kA)
      have HNW := Lib.hid (ints_four (w := WR) (d := y) (e := max 0 s1) (f := min 1000000000000 s2) (g := min 1000000000000 s3) rfl)
      refine hK.out _ _ (Sp.cell_kept kA hHeld) (fun hHeld => ?_)
      clear hK K kA
      (try simp only [Act.put, List.getElem_toArray, List.getElem_cons_succ, List.getElem_cons_zero, List.setIfInBounds_toArray, List.set_cons_zero, List.set_cons_succ])
      generalize WR.alloc (.cells #[.int .i64 y, .int .i64 (max 0 s1), .int .i64 (min 1000000000000 s2), .int .i64 (min 1000000000000 s3)] 3) = WA at *
      generalize WR.heap.size = gn at HNW ⊢
      refine wpAnyH_ready (rs := [26]) (by kernel_rfl) (by simp) ?_
      refine AllReadyH.cons rfl (fun K hK => ?_) AllReadyH.nil
      refine step_append_at (by rfl) (.tmp 22) (.tmp 47) 41 (by rfl) w.heap.size 3 i0 (.int .i64 0) 1 8 (by kernel_rfl) HI0.out.1 HI0.out.2.1 HI0.out.2.2.1 HI0.out.2.2.2 rfl (by decide) _ acc.length (acc.map (Value.int .i64)) (by rfl) HA2.out.row ⟨gn, 0, none⟩ 4 4 [.int .i64 y, .int .i64 (max 0 s1), .int .i64 (min 1000000000000 s2), .int .i64 (min 1000000000000 s3)] (by rfl) rfl HNW.out four_one (by have := HLN.out; unfold maxLen; omega) (by have := HLN.out; omega) HA2.out.hb.size ?_
      intro v5 W14 hown5 hg5 hv5
      have HA3 := Lib.hid (HA2.out.app (RowI.app4 hown5) hg5 hv5 HBD.out)
      clear hown5 hg5 hv5
      refine hK.out _ _ ?_ (fun hHeld => ?_)
      · obtain ⟨b5, o5, e5, c5⟩ := HA3.out.st i y HY.out
        cases e5
        exact c5
      clear hK K
      (try simp only [Act.put, List.getElem_toArray, List.getElem_cons_succ, List.getElem_cons_zero, List.setIfInBounds_toArray, List.set_cons_zero, List.set_cons_succ])
      refine wpAnyH_take (i := 27) (v := ?_) rfl (by kernel_rfl) (by kernel_rfl) (by kernel_rfl) (fun _ _ _ h => h) (Or.inl ⟨by rfl, ?_⟩) (by assumption) ?_
      rotate_left
      · intro w hSw; (try dsimp only at hSw); go_simp; (try with_reducible rfl)
      (try simp only [Act.put, List.getElem_toArray, List.getElem_cons_succ, List.getElem_cons_zero, List.setIfInBounds_toArray, List.set_cons_zero, List.set_cons_succ])
      refine wpAnyH_done (by kernel_rfl) ?_ _
      clear hHeld HE HA1 HA2 HNW e0
      go_wp2_with fail
      go_roundg g
      case measure => omega
      case rel => exact ⟨i + 1, acc ++ [y, max 0 s1, min 1000000000000 s2, min 1000000000000 s3], by omega, by go_num, HA3⟩
end Go.Proofs.Ytdoojpilogcnjaa.Pw
