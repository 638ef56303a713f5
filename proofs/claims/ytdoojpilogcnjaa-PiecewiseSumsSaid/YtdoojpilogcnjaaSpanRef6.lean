/- What the reference implementation's Union of spans returns. Conditions: the lists lie in memory as the arguments say; they are short. -/
import Derived.Test.YtdoojpilogcnjaaSpanRef4
set_option linter.unusedVariables false
set_option linter.unusedSimpArgs false
namespace Go.Proofs.Ytdoojpilogcnjaa.Sp
open Go.RowKit
/-- A source of cells: nil, or cells that lie there. -/
def SrcAt (w : World) (u : Value) (m : Nat) (news : List Value) : Prop :=
  (u = .slice none 0 0 ∧ m = 0 ∧ news = []) ∨ ∃ ad c, u = .slice (some ad) m c ∧ ∀ j x, news[j]? = some x → w.cell? (ad.add j) = some x
theorem wpList_append_src {P : Program} {w : World} {ops : Array Oper} {rest : List Oper} {o : Oper} {a : Act} {Q : Exit → Act → World → Prop} (hgd : o.guard = none) (s x : Operand) (t : TypeId)
    (ho : o.op = .call { callee := .builtin .append, args := #[s, x], argTypes := #[t, t] })
    (base : Nat) (e : TypeId) (i : TypeInfo) (z : Value) (size bytes : Nat) (ht : P.underlying t = some (.slice e)) (hi : P.info? e = some i) (hz : i.zero = some z)
    (hsize : i.size = size) (hby : i.bytes = bytes) (hzs : z.cells.size = size) (hsz : 0 < size)
    (v : Value) (n : Nat) (xs : List Value) (hs : a.eval s = v) (hown : w.ownsRow base e size v n xs)
    (u : Value) (m : Nat) (news : List Value) (hx : a.eval x = u) (hsrc : SrcAt w u m news) (hl : news.length = m * size) (h1 : ∀ u ∈ news, u.oneCell' = true)
    (h63 : n + m ≤ maxLen) (hbytes : (n + m) * bytes ≤ 140737488355328) (hbase : base ≤ w.heap.size)
    (h : ∀ v' w', w'.ownsRow base e size v' (n + m) (xs ++ news) → w.grownBy w' v.ownBlock → wpList P ops Q rest (a.put o.dst v') w') :
    wpList P ops Q (o :: rest) a w := by
  rcases hsrc with ⟨hu, rfl, rfl⟩ | ⟨ad, c, hu, hc⟩
  · have hrun := run_append_owned_none (P := P) (w := w) base t o.type e i size ht hi v n xs hown
    have hx' : a.eval x = .slice none 0 0 := hx.trans hu
    refine wpList_plain hgd fun K hK => ?_
    unfold Oper.wp
    simp [execOp, ho, resolve, invoke, builtin, hs, hx', hrun, Result.andThen]
    have hh := h v w (by rw [List.append_nil]; exact hown) ⟨rfl, rfl, rfl, Nat.le_refl _, fun _ _ _ => rfl⟩
    exact hK _ _ hh
  · exact wpList_append_own w hgd s x t ho base e i z size bytes ht hi hz hsize hby hzs hsz v n xs hs hown ad m c news (hx.trans hu) hl hc h1 h63 hbytes hbase (fun v' w' g1 g2 _ => h v' w' g1 g2)
theorem SpansAt.src {a : Option Addr} {c : Nat} {l : List Sn} {w : World} (h : SpansAt a l w) (hn : a = none → c = 0) : SrcAt w (.slice a l.length c) l.length (flat l) := by
  cases a with
  | none =>
    have hl : l = [] := by
      cases l with
      | nil => rfl
      | cons x r => obtain ⟨b, o, e, -⟩ := h 0 x rfl; cases e
    subst hl
    rw [hn rfl]
    exact .inl ⟨rfl, rfl, rfl⟩
  | some ad =>
    refine .inr ⟨ad, c, rfl, fun j u hu => ?_⟩
    have hj := (List.getElem?_eq_some_iff.1 hu).1
    rw [flat_length] at hj
    obtain ⟨x, hx⟩ : ∃ x, l[j / 2]? = some x := ⟨_, List.getElem?_eq_getElem (by omega)⟩
    obtain ⟨b, off, e, h1, h2⟩ := h (j / 2) x hx
    cases e
    obtain ⟨f1, f2⟩ := flat_get l (j / 2) x hx
    have e : ∀ k, (⟨b, off, none⟩ : Addr).add k = ⟨b, off + k, none⟩ := fun k => by unfold Addr.add; split <;> simp_all
    rw [e]
    rcases Nat.mod_two_eq_zero_or_one j with g | g
    · have ej : j = j / 2 * 2 := by omega
      rw [ej] at hu
      rw [f1] at hu
      obtain rfl := Option.some.inj hu
      rw [ej]
      exact h1
    · have ej : j = j / 2 * 2 + 1 := by omega
      rw [ej] at hu
      rw [f2] at hu
      obtain rfl := Option.some.inj hu
      rw [ej, ← Nat.add_assoc]
      exact h2
theorem RowS.more {w : World} {base : Nat} {v : Value} {l r : List Sn} (h : w.ownsRow base 50 2 v (l.length + r.length) (flat l ++ flat r)) : RowS w base v (l ++ r) := by
  unfold RowS
  rw [List.length_append, flat_append]
  exact h
theorem RowS.of2 {w : World} {base : Nat} {v : Value} {l r : List Sn} {n m : Nat} (hn : n = l.length) (hm : m = r.length) (h : w.ownsRow base 50 2 v (0 + n + m) ([] ++ flat l ++ flat r)) : RowS w base v (l ++ r) := by
  subst hn; subst hm
  rw [Nat.zero_add, List.nil_append] at h
  exact RowS.more h
theorem RowS.cap {w : World} {base : Nat} {v : Value} {l : List Sn} (h : RowS w base v l) : ∃ a cap, v = .slice a l.length cap ∧ SpansAt a l w ∧ l.length ≤ cap ∧ (a = none → cap = 0) := by
  obtain ⟨a, cap, e, z⟩ := h.spans
  refine ⟨a, cap, e, z, ?_, fun ha => ?_⟩
  · rcases h.2 with ⟨hv, hn⟩ | ⟨g, cap', cur, hv, _, _, hc, _⟩
    · rw [hn]; exact Nat.zero_le _
    · rw [e] at hv
      simp only [Value.slice.injEq] at hv
      rw [hv.2.2]; exact hc
  · rcases h.2 with ⟨hv, hn⟩ | ⟨g, cap', cur, hv, _⟩
    · rw [e] at hv
      simp only [Value.slice.injEq] at hv
      exact hv.2.2
    · rw [e, ha] at hv
      simp at hv
end Go.Proofs.Ytdoojpilogcnjaa.Sp
