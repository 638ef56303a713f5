/- The law LexerConcat returns true for every two sources: the given statement. Condition: the tables of classes and symbols hold what their initialisers lay (tied to the program's text). -/
import Derived.Test.YtlpombnmeioafaaDoorLexOk
import Derived.Test.YtlpombnmeioafaaDoorLexSame
import Derived.Test.YtlpombnmeioafaaDoorLexShift
import Derived.Deep.Cut
import Derived.Lib.AppendZerosOnto
set_option linter.unusedVariables false
set_option linter.unusedSimpArgs false
namespace Go.Proofs.YtlpombnmeioafaaDoor.Lx
open Go Go.ChangeShapes Go.WideShapes Go.ChangeAt Go.RowKit Go.PlainAid Go.Lib
/-- A source of cells: nil, or cells that lie there. -/
def SrcAt (w : World) (u : Value) (m : Nat) (news : List Value) : Prop :=
  (u = .slice none 0 0 ∧ m = 0 ∧ news = []) ∨ ∃ ad c, u = .slice (some ad) m c ∧ ∀ j x, news[j]? = some x → w.cell? (ad.add j) = some x
theorem wpList_append_src {P : Program} {w : World} {ops : Array Oper} {rest : List Oper} {o : Oper} {a : Act} {Q : Exit → Act → World → Prop} (hgd : o.guard = none) (s x : Operand) (t : TypeId)
    (ho : o.op = .call { callee := .builtin .append, args := #[s, x], argTypes := #[t, t] })
    (base : Nat) (e : TypeId) (i : TypeInfo) (z : Value) (size bytes : Nat) (ht : P.underlying t = some (.slice e)) (hi : P.info? e = some i) (hz : i.zero = some z)
    (hsize : i.size = size) (hby : i.bytes = bytes) (hzs : z.cells.size = size) (hsz : 0 < size)
    (v : Value) (n : Nat) (xs : List Value) (hs : a.eval s = v) (hown : w.ownsRow base e size v n xs)
    (u : Value) (m : Nat) (news : List Value) (hx : a.eval x = u) (hsrc : SrcAt w u m news) (hl : news.length = m * size) (h1 : ∀ u ∈ news, u.oneCell' = true)
    (h63 : n + m ≤ maxLen) (hbytes : (n + m) * bytes ≤ 140737488355328) (hbase : base ≤ w.heap.size)
    (h : ∀ v' w', w'.ownsRow base e size v' (n + m) (xs ++ news) → w.grownBy w' v.ownBlock → wpList P ops Q rest (a.put o.dst v') w') :
    wpList P ops Q (o :: rest) a w := by
  rcases hsrc with ⟨hu, rfl, rfl⟩ | ⟨ad, c, hu, hc⟩
  · have hrun := run_append_owned_none (P := P) (w := w) base t o.type e i size ht hi v n xs hown
    have hx' : a.eval x = .slice none 0 0 := hx.trans hu
    refine wpList_plain hgd fun K hK => ?_
    unfold Oper.wp
    simp [execOp, ho, resolve, invoke, builtin, hs, hx', hrun, Result.andThen]
    have hh := h v w (by rw [List.append_nil]; exact hown) ⟨rfl, rfl, rfl, Nat.le_refl _, fun _ _ _ => rfl⟩
    exact hK _ _ hh
  · exact wpList_append_own w hgd s x t ho base e i z size bytes ht hi hz hsize hby hzs hsz v n xs hs hown ad m c news (hx.trans hu) hl hc h1 h63 hbytes hbase (fun v' w' g1 g2 _ => h v' w' g1 g2)
theorem TokAt.src {a : Option Addr} {c : Nat} {l : List ATok} {w : World} (h : TokAt a l w) (hn : a = none → c = 0) : SrcAt w (.slice a l.length c) l.length (flatT l) := by
  cases a with
  | none =>
    have hl : l = [] := by
      cases l with
      | nil => rfl
      | cons x r => obtain ⟨b, o, e, -⟩ := h 0 x rfl; cases e
    subst hl
    rw [hn rfl]
    exact .inl ⟨rfl, rfl, rfl⟩
  | some ad =>
    refine .inr ⟨ad, c, rfl, fun j u hu => ?_⟩
    have hj := (List.getElem?_eq_some_iff.1 hu).1
    rw [flatT_length] at hj
    obtain ⟨x, hx⟩ : ∃ x, l[j / 3]? = some x := ⟨_, List.getElem?_eq_getElem (by omega)⟩
    obtain ⟨b, off, e, u1, u2, u3⟩ := h (j / 3) x hx
    cases e
    obtain ⟨f1, f2, f3⟩ := flatT_get l (j / 3) x hx
    rw [show (⟨b, off, none⟩ : Addr).add j = ⟨b, off + j, none⟩ by unfold Addr.add; split <;> simp_all]
    have hc : j % 3 = 0 ∨ j % 3 = 1 ∨ j % 3 = 2 := by omega
    rcases hc with q | q | q
    · rw [show j / 3 * 3 = j by omega] at f1
      rw [show off + j / 3 * 3 = off + j by omega] at u1
      rw [f1] at hu; obtain rfl := Option.some.inj hu; exact u1
    · rw [show j / 3 * 3 + 1 = j by omega] at f2
      rw [show off + j / 3 * 3 + 1 = off + j by omega] at u2
      rw [f2] at hu; obtain rfl := Option.some.inj hu; exact u2
    · rw [show j / 3 * 3 + 2 = j by omega] at f3
      rw [show off + j / 3 * 3 + 2 = off + j by omega] at u3
      rw [f3] at hu; obtain rfl := Option.some.inj hu; exact u3
theorem bl_app (a b : ByteArray) : bl (a ++ b) = bl a ++ bl b := by
  unfold bl; rw [ByteArray.data_append, Array.toList_append, List.map_append]
theorem bl_lf (a b : ByteArray) : bl (a ++ (⟨#[10]⟩ : ByteArray) ++ b) = bl a ++ 10 :: bl b := by
  rw [bl_app, bl_app, List.append_assoc]; rfl
theorem ex_left (a b : ByteArray) (i j : Nat) (h : j ≤ a.size) : (a ++ b).extract i j = a.extract i j := by
  apply bytes_eq
  rw [bl_extract, bl_extract, bl_app, List.take_append_of_le_length (by rw [bl_len]; exact h)]
theorem ex_right (a b : ByteArray) (i j : Nat) : (a ++ b).extract (a.size + i) (a.size + j) = b.extract i j := by
  apply bytes_eq
  rw [bl_extract, bl_extract, bl_app]
  rw [show a.size = (bl a).length from (bl_len a).symm, List.take_length_add_append, List.drop_length_add_append]
theorem toks_left (a b : ByteArray) (ts : List Tok) (h : ∀ t ∈ ts, t.2.1 + t.2.2 ≤ a.size) : toks (a ++ b) ts = toks a ts := by
  unfold toks
  refine List.map_congr_left fun t ht => ?_
  show (t.1, (a ++ b).extract _ _, t.2.1) = (t.1, a.extract _ _, t.2.1)
  rw [ex_left _ _ _ _ (h t ht)]
theorem toks_right (a b : ByteArray) (ts : List Tok) : toks (a ++ b) (shift a.size ts) = shT a.size (toks b ts) := by
  unfold toks shift shT
  rw [List.map_map, List.map_map]
  refine List.map_congr_left fun t ht => ?_
  show (t.1, (a ++ b).extract (t.2.1 + a.size) (t.2.1 + a.size + t.2.2), t.2.1 + a.size) = (t.1, b.extract t.2.1 (t.2.1 + t.2.2), t.2.1 + a.size)
  rw [show t.2.1 + a.size + t.2.2 = a.size + (t.2.1 + t.2.2) by omega, show t.2.1 + a.size = a.size + t.2.1 by omega, ex_right]
theorem Chn.ends' {L : List Int} {e e' : Nat} {ts : List Tok} (h : Chn L e ts e') : ∀ t ∈ ts, t.2.1 + t.2.2 ≤ e' := by
  induction ts generalizing e with
  | nil => intro t ht; cases ht
  | cons u ts ih =>
    intro t ht
    rcases List.mem_cons.1 ht with rfl | ht
    · exact h.2.2.2.2.le
    · exact ih h.2.2.2.2 t ht
theorem toks_join (a b : ByteArray) (l m : List Tok) (h : ∀ t ∈ l, t.2.1 + t.2.2 ≤ a.size) : toks (a ++ (⟨#[10]⟩ : ByteArray) ++ b) (l ++ shift (a.size + 1) m) = toks a l ++ shT (a.size + 1) (toks b m) := by
  have hz : (a ++ (⟨#[10]⟩ : ByteArray)).size = a.size + 1 := by rw [← bl_len, bl_app, List.length_append, bl_len]; rfl
  rw [toks_app, ← hz, toks_right, toks_left _ _ _ (fun t ht => by have := h t ht; omega), toks_left _ _ _ h]
/-- What a text without errors, or with one, comes to. -/
theorem lex_any' (s : ByteArray) : ∃ (ts : List Tok) (er at_ : Nat), lexL (bl s) = (ts, er, at_) ∧ (er = 0 → Ok (bl s) ts) ∧ ts.length ≤ 2000 ∧ (6000 < s.size → er ≠ 0) := by
  rcases lex_cases (bl s) with ⟨ts, he, hok⟩ | ⟨h, he⟩ | ⟨ts, e', er, at_, h6, he, _, _, _, _, hor⟩
  · exact ⟨ts, 0, 0, he, fun _ => hok, hok.2.1, fun h => by have := hok.1; rw [bl_len] at this; omega⟩
  · exact ⟨[], 2, 0, he, (fun h => by cases h), Nat.zero_le _, fun _ => by decide⟩
  · exact ⟨[], er, at_, he, (fun h => by omega), Nat.zero_le _, fun _ => by omega⟩
set_option maxHeartbeats 16000000 in
set_option maxRecDepth 100000 in
theorem concat_walk (a b : ByteArray) (w : World) (ha : a.size ≤ maxLen) (hb0 : b.size ≤ maxLen) (hT : Tabs w) :
    Calls Tryd.prog 7 #[.string a, .string b] w fun r w' => r = .returned (.bool true) ∧ Below w.heap.size w w' := by
  unfold maxLen at ha hb0
  have HH := Lib.hid (head_any w hT)
  have HT := Lib.hid hT
  have ha' : a.size ≤ 9223372036854775807 := by omega
  have hb' : b.size ≤ 9223372036854775807 := by omega
  obtain ⟨l, E1, A1, he1, ho1, hl1, hg1⟩ := lex_any' a
  obtain ⟨m, E2, A2, he2, ho2, hl2, hg2⟩ := lex_any' b
  have HL1 := Lib.hid (fun w' h => lex_at a w' ha' h he1)
  have HL2 := Lib.hid (fun w' h => lex_at b w' hb' h he2)
  obtain ⟨n1, hn1⟩ : ∃ n, n = l.length := ⟨_, rfl⟩
  obtain ⟨n2, hn2⟩ : ∃ n, n = m.length := ⟨_, rfl⟩
  rw [← hn1] at hl1
  rw [← hn2] at hl2
  have HV1 : Hid (∀ w', Tabs w' → Calls Tryd.prog 11 #[.string a] w' fun r w2 => ∃ d c, r = .returned (.tuple #[.slice d n1 c, .int .i64 E1, .int .i64 A1]) ∧ TokAt d (toks a l) w2 ∧ (d = none → c = 0) ∧ Below w'.heap.size w' w2) := Lib.hid fun w' h => (HL1.out w' h).mono fun r w2 ⟨a, c, h1, h2, h3, h4, _, h6⟩ => ⟨a, c, by rw [hn1]; exact h1, h2, h3, h6⟩
  have HV2 : Hid (∀ w', Tabs w' → Calls Tryd.prog 11 #[.string b] w' fun r w2 => ∃ d c, r = .returned (.tuple #[.slice d n2 c, .int .i64 E2, .int .i64 A2]) ∧ TokAt d (toks b m) w2 ∧ (d = none → c = 0) ∧ Below w'.heap.size w' w2) := Lib.hid fun w' h => (HL2.out w' h).mono fun r w2 ⟨a, c, h1, h2, h3, h4, _, h6⟩ => ⟨a, c, by rw [hn2]; exact h1, h2, h3, h6⟩
  obtain ⟨p, hp⟩ : ∃ p, p = ((E1 : Int) != 0) := ⟨_, rfl⟩
  obtain ⟨q, hq⟩ : ∃ q, q = ((E2 : Int) != 0) := ⟨_, rfl⟩
  obtain ⟨r, hr⟩ : ∃ r, r = decide ((2000 : Int) < (n1 : Int) + (n2 : Int)) := ⟨_, rfl⟩
  have hp' : ((E1 : Int) != 0) = p := hp.symm
  have hq' : ((E2 : Int) != 0) = q := hq.symm
  have hr' : decide ((2000 : Int) < (n1 : Int) + (n2 : Int)) = r := hr.symm
  have HE := Lib.hid (And.intro he1 (And.intro he2 (And.intro ho1 (And.intro ho2 (And.intro hg1 (And.intro hg2 (And.intro hn1 hn2)))))))
  have HPQ := Lib.hid (And.intro hp (And.intro hq hr))
  clear hT he1 he2 ho1 ho2 hg1 hg2 hn1 hn2 HL1 HL2 hp hq hr
  cases p
  rotate_left
  · clear hq' hr' HPQ HE
    go_enter Tryd.func7, Tryd.ntmps7
    go_wp2_with (first
      | (go_at_call 10; (with_reducible refine HH.out.mono ?_); rintro _ w1 ⟨rfl, hb⟩; have HB := Lib.hid hb; clear hb)
      | (go_at_call 11; (with_reducible refine (HV1.out _ (HT.out.below HB.out)).mono ?_); rintro _ w2 ⟨d1, c1, rfl, -, -, hb⟩; replace HB := Lib.hid (HB.out.trans (hb.mono HB.out.size)); clear hb)
      | (go_at_call 11; (with_reducible refine (HV2.out _ (HT.out.below HB.out)).mono ?_); rintro _ w3 ⟨d2, c2, rfl, -, -, hb⟩; replace HB := Lib.hid (HB.out.trans (hb.mono HB.out.size)); clear hb))
    all_goals (go_ret; exact ⟨rfl, HB.out⟩)
  cases q
  rotate_left
  · clear hr' HPQ HE
    go_enter Tryd.func7, Tryd.ntmps7
    go_wp2_with (first
      | (go_at_call 10; (with_reducible refine HH.out.mono ?_); rintro _ w1 ⟨rfl, hb⟩; have HB := Lib.hid hb; clear hb)
      | (go_at_call 11; (with_reducible refine (HV1.out _ (HT.out.below HB.out)).mono ?_); rintro _ w2 ⟨d1, c1, rfl, -, -, hb⟩; replace HB := Lib.hid (HB.out.trans (hb.mono HB.out.size)); clear hb)
      | (go_at_call 11; (with_reducible refine (HV2.out _ (HT.out.below HB.out)).mono ?_); rintro _ w3 ⟨d2, c2, rfl, -, -, hb⟩; replace HB := Lib.hid (HB.out.trans (hb.mono HB.out.size)); clear hb))
    all_goals (go_ret; exact ⟨rfl, HB.out⟩)
  cases r
  rotate_left
  · clear HPQ HE
    go_enter Tryd.func7, Tryd.ntmps7
    go_wp2_with (first
      | (go_at_call 10; (with_reducible refine HH.out.mono ?_); rintro _ w1 ⟨rfl, hb⟩; have HB := Lib.hid hb; clear hb)
      | (go_at_call 11; (with_reducible refine (HV1.out _ (HT.out.below HB.out)).mono ?_); rintro _ w2 ⟨d1, c1, rfl, -, -, hb⟩; replace HB := Lib.hid (HB.out.trans (hb.mono HB.out.size)); clear hb)
      | (go_at_call 11; (with_reducible refine (HV2.out _ (HT.out.below HB.out)).mono ?_); rintro _ w3 ⟨d2, c2, rfl, -, -, hb⟩; replace HB := Lib.hid (HB.out.trans (hb.mono HB.out.size)); clear hb))
    all_goals (go_ret; exact ⟨rfl, HB.out⟩)
  obtain rfl : E1 = 0 := by have := HPQ.out.1; simp at this; omega
  obtain rfl : E2 = 0 := by have := HPQ.out.2.1; simp at this; omega
  obtain ⟨he1, he2, ho1, ho2, hg1, hg2, hn1, hn2⟩ := HE.out
  have hA : a.size ≤ 6000 := Nat.le_of_not_lt (fun h => hg1 h rfl)
  have hB6 : b.size ≤ 6000 := Nat.le_of_not_lt (fun h => hg2 h rfl)
  have hok1 := ho1 rfl
  have hok2 := ho2 rfl
  have hn12 : n1 + n2 ≤ 2000 := by have := HPQ.out.2.2; simp at this; omega
  clear he1 he2 ho1 ho2 hg1 hg2 HE HPQ hp' hq' ha hb0 ha' hb'
  by_cases hsz : 6000 < a.size + b.size + 1
  · have hd : decide ((6000 : Int) < (a.size : Int) + (b.size : Int) + 1) = true := decide_eq_true (by omega)
    clear hok1 hok2 hn1 hn2 hsz
    go_enter Tryd.func7, Tryd.ntmps7
    go_wp2_with (first
      | (go_at_call 10; (with_reducible refine HH.out.mono ?_); rintro _ w1 ⟨rfl, hb⟩; have HB := Lib.hid hb; clear hb)
      | (go_at_call 11; (with_reducible refine (HV1.out _ (HT.out.below HB.out)).mono ?_); rintro _ w2 ⟨d1, c1, rfl, -, -, hb⟩; replace HB := Lib.hid (HB.out.trans (hb.mono HB.out.size)); clear hb)
      | (go_at_call 11; (with_reducible refine (HV2.out _ (HT.out.below HB.out)).mono ?_); rintro _ w3 ⟨d2, c2, rfl, -, -, hb⟩; replace HB := Lib.hid (HB.out.trans (hb.mono HB.out.size)); clear hb))
    all_goals (go_ret; exact ⟨rfl, HB.out⟩)
  · have hd : decide ((6000 : Int) < (a.size : Int) + (b.size : Int) + 1) = false := decide_eq_false (by omega)
    have hj := ok_concat hok1 hok2 (by rw [bl_len, bl_len]; omega) (by omega)
    rw [bl_len, ← bl_lf] at hj
    obtain ⟨-, -, e9, hch, -⟩ := id hok1
    have hends : ∀ t ∈ l, t.2.1 + t.2.2 ≤ a.size := fun t ht => by
      have h1 := hch.ends' t ht
      have h2 := hch.len (Nat.zero_le _)
      rw [bl_len] at h2; omega
    have htj := toks_join a b l m hends
    obtain ⟨-, -, e8, hch2, -⟩ := id hok2
    have hends2 : ∀ x ∈ toks b m, x.2.2 ≤ 10000 := fun x hx => by
      unfold toks at hx
      obtain ⟨t, ht, rfl⟩ := List.mem_map.1 hx
      have h1 := hch2.ends' t ht
      have h2 := hch2.len (Nat.zero_le _)
      rw [bl_len] at h2
      show t.2.1 ≤ 10000; omega
    obtain ⟨J, hJ⟩ : ∃ J, J = a ++ (⟨#[10]⟩ : ByteArray) ++ b := ⟨_, rfl⟩
    have hJs : J.size ≤ 9223372036854775807 := by rw [hJ, ← bl_len, bl_lf, List.length_append, List.length_cons, bl_len, bl_len]; omega
    rw [← hJ] at hj htj
    have hlen : (l ++ shift (a.size + 1) m).length = n1 + n2 := by rw [List.length_append, hn1, hn2]; unfold shift; rw [List.length_map]
    have HV3 : Hid (∀ w', Tabs w' → Calls Tryd.prog 11 #[.string J] w' fun r w2 => ∃ d c, r = .returned (.tuple #[.slice d (n1 + n2) c, .int .i64 0, .int .i64 0]) ∧ TokAt d (toks a l ++ shT (a.size + 1) (toks b m)) w2 ∧ Below w'.heap.size w' w2) := Lib.hid fun w' h => (lex_at J w' hJs h (ok_lex hj)).mono fun r w2 ⟨a, c, h1, h2, h3, h4, _, h6⟩ => ⟨a, c, by rw [hlen] at h1; exact h1, by rw [htj] at h2; exact h2, h6⟩
    have hl1' : (toks a l).length = n1 := by rw [toks_len, hn1]
    have hl2' : (toks b m).length = n2 := by rw [toks_len, hn2]
    clear hok1 hok2 hj hch hch2 hends htj hn1 hn2 hlen
    generalize toks a l = L at *
    generalize toks b m = M at *
    have HSH := Lib.hid (fun d c w' (z : TokAt d M w') => shift_any d c n2 (a.size + 1) M w' hl2'.symm hl2 (by omega) hends2 z)
    have HSM := Lib.hid (fun d e cd ce w' => same_any d e cd ce (n1 + n2) (L ++ shT (a.size + 1) M) w' (by unfold shT; rw [List.length_append, List.length_map, hl1', hl2']) (by omega))
    have HLN := Lib.hid (And.intro hl1' hl2')
    have hcat : ∀ W : World, True := fun _ => trivial
    have w1' : IntKind.i64.wrap ((a.size : Int) + 1) = ((a.size + 1 : Nat) : Int) := by rw [IntWalk.i64_in _ (by omega)]; rfl
    obtain ⟨i0, hi, hq0, hq1, hq2⟩ := info_parts Tryd.infoT
    have HI0 := Lib.hid (And.intro hi (And.intro hq0 (And.intro hq1 hq2)))
    rw [hJ] at HV3
    have U1 : Hid (∀ w', Tabs w' → Calls Tryd.prog 11 #[.string a] w' fun r w2 => ∃ d c, r = .returned (.tuple #[.slice d n1 c, .int .i64 0, .int .i64 A1]) ∧ TokAt d L w2 ∧ (d = none → c = 0) ∧ Below w'.heap.size w' w2) := Lib.hid HV1.out
    have U2 : Hid (∀ w', Tabs w' → Calls Tryd.prog 11 #[.string b] w' fun r w2 => ∃ d c, r = .returned (.tuple #[.slice d n2 c, .int .i64 0, .int .i64 A2]) ∧ TokAt d M w2 ∧ (d = none → c = 0) ∧ Below w'.heap.size w' w2) := Lib.hid HV2.out
    clear HV1 HV2
    have z1 : (a ++ (⟨#[10]⟩ : ByteArray)).size = a.size + 1 := by rw [← bl_len, bl_app, List.length_append, bl_len]; rfl
    have z2 : (a ++ (⟨#[10]⟩ : ByteArray) ++ b).size = a.size + 1 + b.size := by rw [← bl_len, bl_app, List.length_append, bl_len, bl_len, z1]
    clear hi hq0 hq1 hq2 hcat hl1' hl2' hends2 hJ hJs
    go_enter Tryd.func7, Tryd.ntmps7
    go_upto_region 8 with (first
      | (go_at_call 10; (with_reducible refine HH.out.mono ?_); rintro _ w1 ⟨rfl, hb⟩; have HB := Lib.hid hb; clear hb)
      | (go_at_call 11; (with_reducible refine (U1.out _ (HT.out.below HB.out)).mono ?_); rintro _ w2 ⟨d1, c1, rfl, z1, k1, hb⟩; replace HB := Lib.hid (HB.out.trans (hb.mono HB.out.size)); have HZ1 := Lib.hid z1; have HK1 := Lib.hid k1; clear hb z1 k1)
      | (go_at_call 11; (with_reducible refine (U2.out _ (HT.out.below HB.out)).mono ?_); rintro _ w3 ⟨d2, c2, rfl, z2, k2, hb⟩; replace HB := Lib.hid (HB.out.trans (hb.mono HB.out.size)); have HZ2 := Lib.hid z2; have HK2 := Lib.hid k2; replace HZ1 := Lib.hid (HZ1.out.below hb); clear hb z2 k2))
    have hb := HB.out
    have HFL := Lib.hid (show (flatT L).length = n1 * 3 by rw [flatT_length, HLN.out.1])
    have HS1 := Lib.hid (fun w' (k : Below w3.heap.size w3 w') => (show SrcAt w' (.slice d1 n1 c1) n1 (flatT L) by have h := (HZ1.out.below k).src HK1.out; rw [HLN.out.1] at h; exact h))
    go_upto_region 9 with (go_at_call 11; (with_reducible refine (HV3.out _ (HT.out.below HB.out)).mono ?_); rintro _ w4 ⟨d4, c4, rfl, z4, hb4⟩; have HB4 := Lib.hid hb4; have HZ4 := Lib.hid z4; clear hb4 z4)
    have k4 := alloc_below w4 (.cells #[] 30)
    have K4 := Lib.hid k4
    clear k4
    have HS4 := Lib.hid (HS1.out _ (HB4.out.trans (K4.out.mono HB4.out.size)))
    have HSX : Hid (∀ w', TokAt d2 M w' → Calls Tryd.prog 15 #[.slice d2 n2 c2, .int .i64 ((a.size : Int) + 1)] w' fun r w2 => ∃ v, r = .returned v ∧ RowT w2 w'.heap.size v (shT (a.size + 1) M) ∧ Below w'.heap.size w' w2) := Lib.hid (HSH.out d2 c2)
    have hshl : (shT (a.size + 1) M).length = n2 := by unfold shT; rw [List.length_map, HLN.out.2]
    have HSL := Lib.hid hshl
    clear hshl HSH
    go_wp2_with (first
      | (at_builtin; refine wpList_append_src rfl _ _ 23 rfl w4.heap.size 30 i0 (.agg #[.int .i64 0, .string ⟨#[]⟩, .int .i64 0]) 3 32 Tryd.underT HI0.out.1 HI0.out.2.1 HI0.out.2.2.1 HI0.out.2.2.2 rfl (by decide) _ 0 [] rfl (World.ownsRow_made _ #[] 0 (Nat.le_refl _) (Nat.zero_le _) rfl) _ n1 (flatT L) rfl HS4.out HFL.out (flatT_cell1 _) (by unfold maxLen; omega) (by omega) K4.out.size ?_; intro v1 w5 hown1 hgrow1; have HO1 := Lib.hid hown1; have HB5 := Lib.hid (K4.out.grown hgrow1 K4.out.size (fun k hk => by cases hk; exact Nat.le_refl _)); clear hgrow1 hown1)
      | (go_at_call 15; (with_reducible refine (HSX.out _ ((HZ2.out.below HB4.out).below HB5.out)).mono ?_); rintro _ w6 ⟨v6, rfl, hrow6, hb6⟩; obtain ⟨a6, c6, e6, z6, -, hn6, -⟩ := hrow6.toks; rw [HSL.out] at e6; subst e6; have HB6 := Lib.hid hb6; have HZ6 := Lib.hid z6; have HN6 := Lib.hid hn6; have HR5 := Lib.hid (show RowT w5 w4.heap.size v1 ([] ++ L) from RowT.app (l := []) rfl HLN.out.1.symm HO1.out); have HR6 := Lib.hid (show World.ownsRow w6 w4.heap.size 30 3 v1 n1 (flatT L) by have h := HR5.out.below HB6.out; unfold RowT at h; rw [List.nil_append, HLN.out.1] at h; exact h); have HS6 := Lib.hid (show SrcAt w6 (.slice a6 n2 c6) n2 (flatT (shT (a.size + 1) M)) by have h := HZ6.out.src HN6.out; rw [HSL.out] at h; exact h); have HF6 := Lib.hid (show (flatT (shT (a.size + 1) M)).length = n2 * 3 by rw [flatT_length, HSL.out]); have HB56 := Lib.hid (HB5.out.trans (HB6.out.mono HB5.out.size)); clear hb6 z6 hn6 hrow6)
      | (at_builtin; refine wpList_append_src rfl _ _ 23 rfl w4.heap.size 30 i0 (.agg #[.int .i64 0, .string ⟨#[]⟩, .int .i64 0]) 3 32 Tryd.underT HI0.out.1 HI0.out.2.1 HI0.out.2.2.1 HI0.out.2.2.2 rfl (by decide) _ n1 (flatT L) rfl HR6.out _ n2 (flatT (shT (a.size + 1) M)) rfl HS6.out HF6.out (flatT_cell1 _) (by unfold maxLen; omega) (by omega) HB56.out.size ?_; intro v7 w7 hown7 hgrow7; have HB7 := Lib.hid (HB56.out.grown hgrow7 HB56.out.size (fun k hk => (World.ownsRow.lt HR6.out k hk).1)); obtain ⟨a7, c7, e7, z7, -, -, -⟩ := (show RowT w7 w4.heap.size v7 (L ++ shT (a.size + 1) M) from RowT.app HLN.out.1.symm HSL.out.symm hown7).toks; rw [List.length_append, HLN.out.1, HSL.out] at e7; subst e7; have HZ7 := Lib.hid z7; clear hown7 hgrow7 z7)
      | (go_at_call 13; (with_reducible refine (HSM.out _ _ _ _ _ (HZ4.out.below HB7.out) HZ7.out).mono ?_); rintro _ w8 ⟨rfl, hb⟩; have HB8 := Lib.hid (HB7.out.trans (hb.below.mono HB7.out.size)); clear hb))
    go_ret
    exact ⟨rfl, HB.out.trans ((HB4.out.trans (HB8.out.mono HB4.out.size)).mono HB.out.size)⟩
-- CARD
open Go.ChangeMaps (open_string shut_string)
set_option maxRecDepth 100000 in
theorem concat_lifted (os : Os) (started : os.Started) (H : Type) (enc : TypeId × Value → H) :
    ReturnsInHanded {} Tryd.checked os 7 .any (fun w args => (Rows.lexerConcatSpec.pre enc Tryd.prog Tryd.f7 [] false w args ∧ laidMetH Tryd.prog laid w) ∧ sizedMet enc Tryd.prog Tryd.f7 (OpenSpec.ofChange Rows.lexerConcatSpec) false w args)
      (Rows.lexerConcatSpec.post enc Tryd.prog Tryd.f7 false true false false) := by
  refine returnsInHanded_of_change_and (C := Tryd.checked) (X := fun w _ => laidMetH Tryd.prog laid w) (fun _ _ _ hh h => h.of_heap hh) own started (by kernel_rfl) Tryd.func7
    (ChangeSpec.witness_shaped (enc := enc) (C := Tryd.checked) (os := os) (X := fun w _ => laidMetH Tryd.prog laid w) false (World.laidAll Tryd.prog os laid) #[.string ⟨#[]⟩, .string ⟨#[]⟩] 8 (World.laidAll_os _ _ _)
      (World.shaped_of_ZipB (by kernel_rfl) (by kernel_rfl)) (by kernel_rfl) (by kernel_rfl) (by kernel_rfl) (met os _)) ?_
  intro W base args ds gs before hval0 hW _ _ hL _
  have hval : ∀ (j : Nat) t v, Tryd.f7.params[j]? = some t → args[j]? = some v → Value.okWide Tryd.prog W .any base t v := hval0
  have hW' := hW
  obtain ⟨p, q, hA0, hV, rfl, _, _⟩ := hW
  have hA : DataW.TrodAll enc Tryd.prog W 0 (fun _ => true) true Tryd.f7.params.toList args.toList ds p := hA0
  rw [Tryd.params7] at hA hval
  obtain ⟨v0, v1, d0, d1, p0, p1, rfl, rfl, rfl, h0, h1⟩ := trodAll_two hA
  obtain ⟨rfl, rfl⟩ := trodVars_none hV
  obtain ⟨s0, rfl, rfl, rfl, hs0⟩ := open_string Tryd.underlying9 (hval 0 9 v0 rfl rfl) h0
  obtain ⟨s1, rfl, rfl, rfl, hs1⟩ := open_string Tryd.underlying9 (hval 1 9 v1 rfl rfl) h1
  simp only [List.append_nil] at hW'
  refine (concat_walk s0 s1 W hs0 hs1 (tabs_of hL)).mono fun e W' ⟨he, hb⟩ => ?_
  subst he
  exact ⟨_, rfl, _, _, _, [], [], [], hW', trodAll_mk1 (shut_bool Tryd.underlying4 _), trodAll_mk2 (shut_string Tryd.underlying9 hs0) (shut_string Tryd.underlying9 hs1), rfl, hb.frame _, fun h => by cases h⟩
theorem concat_said : Rows.LexerConcatSaid :=
  OpenClaim.holds_of_wide 7 Tryd.f7 rfl rfl rfl rfl rfl rfl rfl ⟨rfl, rfl, rfl, rfl, rfl⟩ rfl rfl rfl rfl rfl (by kernel_rfl) Tryd.func7 (by kernel_rfl)
    (of_decide_eq_true (by kernel_rfl)) (by unfold Func.isWrapper; first | (rw [if_pos (by decide +kernel)]; kernel_rfl) | (rw [if_neg (by decide +kernel)]; exact ⟨rfl, rfl⟩))
    (fun os started H enc _ => concat_lifted os started H enc)
theorem concat_plain (f : FuncId) (fn : Func) (hf : Tryd.pinned.checked.prog.funcNamed "wageoffice/wageofficelaw06.LexerConcat" = some f) (hfn : Tryd.pinned.checked.prog.funcs[f]? = some fn) :
    false = Tryd.pinned.checked.prog.looks [] ∧ ∀ (j : Nat) t, fn.params[j]? = some t → Tryd.pinned.checked.prog.wantsStandIn t = false := by
  obtain rfl : f = 7 := Option.some.inj ((show Tryd.prog.funcNamed "wageoffice/wageofficelaw06.LexerConcat" = some 7 by kernel_rfl).symm.trans hf) |>.symm
  obtain rfl : fn = Tryd.f7 := (Option.some.inj (Tryd.func7.symm.trans hfn)).symm
  refine ⟨by kernel_rfl, fun j t ht => ?_⟩
  rw [Tryd.params7] at ht
  obtain rfl : t = 9 := by simpa using Array.mem_of_getElem? ht
  exact (show Tryd.prog.wantsStandIn 9 = false by kernel_rfl)
theorem concat_holds : Rows.LexerConcatCardSaid :=
  Claim7.holds_tied_plain_at .later [] _ _ _ _ concat_said (fun _ h => by cases h) (by kernel_rfl) (fun _ h => by cases h) lexerConcat_row_tie rfl ⟨rfl, rfl⟩ (by kernel_rfl) rfl concat_plain (by kernel_rfl)
end Go.Proofs.YtlpombnmeioafaaDoor.Lx
