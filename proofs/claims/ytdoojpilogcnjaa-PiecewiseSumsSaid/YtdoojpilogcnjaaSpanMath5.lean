/- Plain mathematics of sets of integers as lists of intervals, fifth part: a sweep over the sorted bounds of two lists. No condition but those that each names; it speaks of integers and lists alone. -/
import Derived.Test.YtdoojpilogcnjaaSpanMath4
set_option linter.unusedVariables false
set_option linter.unusedSimpArgs false
namespace Go.Proofs.Ytdoojpilogcnjaa.Sp
/-- A bound: its place, its list, its change. -/
abbrev Bd := Int × Int × Int
def bd2 (k : Int) (x : Sn) : List Bd := if Proper x then [(x.1, k, 1), (x.2, k, -1)] else []
def bds (k : Int) (l : List Sn) : List Bd := l.flatMap (bd2 k)
theorem bds_cons (k : Int) (x : Sn) (l : List Sn) : bds k (x :: l) = bd2 k x ++ bds k l := rfl
theorem bds_snoc {k : Int} {l : List Sn} {i : Nat} {x : Sn} (hx : l[i]? = some x) : bds k (l.take (i + 1)) = bds k (l.take i) ++ bd2 k x := by
  unfold bds
  rw [List.take_add_one, hx, List.flatMap_append]
  simp
theorem bd2_len (k : Int) (x : Sn) : (bd2 k x).length ≤ 2 := by unfold bd2; split <;> simp
theorem bds_len (k : Int) : ∀ l : List Sn, (bds k l).length ≤ l.length * 2
  | [] => by simp [bds]
  | x :: l => by
    have h1 := bd2_len k x
    have h2 := bds_len k l
    rw [bds_cons, List.length_append, List.length_cons]
    omega
/-- A bound of a list of spans. -/
def Fit (x : Bd) : Prop := -1152921504606846976 ≤ x.1 ∧ x.1 ≤ 1152921504606846976 ∧ (x.2.1 = 0 ∨ x.2.1 = 1) ∧ (x.2.2 = 1 ∨ x.2.2 = -1)
theorem bd2_fit {k : Int} (hk : k = 0 ∨ k = 1) {x : Sn} {y : Bd} (hy : y ∈ bd2 k x) : Fit y := by
  unfold bd2 at hy
  split at hy
  · rename_i hp
    obtain ⟨p1, p2, p3⟩ := hp
    rcases List.mem_cons.1 hy with rfl | hy
    · exact ⟨p1, by show x.1 ≤ _; omega, hk, .inl rfl⟩
    · obtain rfl := List.mem_singleton.1 hy
      exact ⟨by show _ ≤ x.2; omega, p2, hk, .inr rfl⟩
  · cases hy
theorem bds_fit {k : Int} (hk : k = 0 ∨ k = 1) {l : List Sn} {y : Bd} (hy : y ∈ bds k l) : Fit y := by
  obtain ⟨x, _, h⟩ := List.mem_flatMap.1 hy
  exact bd2_fit hk h
/-- What the bounds of a list up to a place add up to; all of them. -/
def tal (k n : Int) : List Bd → Int
  | [] => 0
  | x :: l => (if x.2.1 = k ∧ x.1 ≤ n then x.2.2 else 0) + tal k n l
def opn (k : Int) : List Bd → Int
  | [] => 0
  | x :: l => (if x.2.1 = k then x.2.2 else 0) + opn k l
theorem tal_append (k n : Int) : ∀ l r : List Bd, tal k n (l ++ r) = tal k n l + tal k n r
  | [], r => by show tal k n r = 0 + tal k n r; omega
  | x :: l, r => by
    show _ + tal k n (l ++ r) = _ + tal k n l + tal k n r
    rw [tal_append k n l r]; omega
theorem opn_append (k : Int) : ∀ l r : List Bd, opn k (l ++ r) = opn k l + opn k r
  | [], r => by show opn k r = 0 + opn k r; omega
  | x :: l, r => by
    show _ + opn k (l ++ r) = _ + opn k l + opn k r
    rw [opn_append k l r]; omega
theorem tal_perm {l r : List Bd} (h : l.Perm r) (k n : Int) : tal k n l = tal k n r := by
  induction h with
  | nil => rfl
  | cons x _ ih => show _ + tal k n _ = _ + tal k n _; rw [ih]
  | swap x y l => show _ + (_ + tal k n l) = _ + (_ + tal k n l); omega
  | trans _ _ h1 h2 => exact h1.trans h2
theorem opn_perm {l r : List Bd} (h : l.Perm r) (k : Int) : opn k l = opn k r := by
  induction h with
  | nil => rfl
  | cons x _ ih => show _ + opn k _ = _ + opn k _; rw [ih]
  | swap x y l => show _ + (_ + opn k l) = _ + (_ + opn k l); omega
  | trans _ _ h1 h2 => exact h1.trans h2
theorem tal_all {k n : Int} : ∀ {l : List Bd}, (∀ x ∈ l, x.1 ≤ n) → tal k n l = opn k l
  | [], _ => rfl
  | x :: l, h => by
    have h1 := h x List.mem_cons_self
    have h2 := tal_all (k := k) (n := n) (l := l) (fun y hy => h y (List.mem_cons_of_mem _ hy))
    show (if x.2.1 = k ∧ x.1 ≤ n then x.2.2 else 0) + tal k n l = (if x.2.1 = k then x.2.2 else 0) + opn k l
    rw [h2]
    by_cases c : x.2.1 = k
    · rw [if_pos ⟨c, h1⟩, if_pos c]
    · rw [if_neg (fun e => c e.1), if_neg c]
theorem tal_none {k n : Int} : ∀ {l : List Bd}, (∀ x ∈ l, n < x.1) → tal k n l = 0
  | [], _ => rfl
  | x :: l, h => by
    have h1 := h x List.mem_cons_self
    have h2 := tal_none (k := k) (n := n) (l := l) (fun y hy => h y (List.mem_cons_of_mem _ hy))
    show (if x.2.1 = k ∧ x.1 ≤ n then x.2.2 else 0) + tal k n l = 0
    rw [h2, if_neg (fun e => by omega)]
    rfl
theorem tal_bds (k n : Int) : ∀ l : List Sn, 0 ≤ tal k n (bds k l) ∧ (0 < tal k n (bds k l) ↔ El l n)
  | [] => ⟨Int.le_refl _, ⟨fun h => absurd h (Int.lt_irrefl 0), fun h => absurd h (el_nil _)⟩⟩
  | x :: l => by
    obtain ⟨h1, h2⟩ := tal_bds k n l
    rw [bds_cons, tal_append, el_cons]
    have key : tal k n (bd2 k x) = if Proper x ∧ x.1 ≤ n ∧ n < x.2 then 1 else 0 := by
      unfold bd2
      by_cases hp : Proper x
      · rw [if_pos hp]
        have hlt := hp.2.2
        show (if k = k ∧ x.1 ≤ n then (1 : Int) else 0) + ((if k = k ∧ x.2 ≤ n then (-1 : Int) else 0) + 0) = _
        by_cases c1 : x.1 ≤ n
        · by_cases c2 : x.2 ≤ n
          · rw [if_pos ⟨rfl, c1⟩, if_pos ⟨rfl, c2⟩, if_neg (by rintro ⟨-, -, h⟩; omega)]; rfl
          · rw [if_pos ⟨rfl, c1⟩, if_neg (fun e => c2 e.2), if_pos ⟨hp, c1, by omega⟩]; rfl
        · rw [if_neg (fun e => c1 e.2), if_neg (fun e => by have := e.2; omega), if_neg (fun e => c1 e.2.1)]; rfl
      · rw [if_neg hp, if_neg (fun e => hp e.1)]; rfl
    rw [key]
    by_cases c : Proper x ∧ x.1 ≤ n ∧ n < x.2
    · rw [if_pos c]
      exact ⟨by omega, ⟨fun _ => .inl c, fun _ => by omega⟩⟩
    · rw [if_neg c]
      refine ⟨by omega, ?_⟩
      rw [show (0 : Int) + tal k n (bds k l) = tal k n (bds k l) by omega, h2]
      exact ⟨.inr, fun h => h.elim (fun h => absurd h c) id⟩
theorem tal_other {j k : Int} (h : j ≠ k) (n : Int) : ∀ l : List Sn, tal k n (bds j l) = 0
  | [] => rfl
  | x :: l => by
    rw [bds_cons, tal_append, tal_other h n l]
    unfold bd2
    split
    · show (if j = k ∧ _ then (1 : Int) else 0) + ((if j = k ∧ _ then (-1 : Int) else 0) + 0) + 0 = 0
      rw [if_neg (fun e => h e.1), if_neg (fun e => h e.1)]; rfl
    · rfl
theorem opn_bds (j k : Int) : ∀ l : List Sn, opn k (bds j l) = 0
  | [] => rfl
  | x :: l => by
    rw [bds_cons, opn_append, opn_bds j k l]
    unfold bd2
    split
    · show (if j = k then (1 : Int) else 0) + ((if j = k then (-1 : Int) else 0) + 0) + 0 = 0
      split <;> rfl
    · rfl
theorem opn_bd {k : Int} : ∀ {l : List Bd}, (∀ x ∈ l, Fit x) → -(l.length : Int) ≤ opn k l ∧ opn k l ≤ l.length
  | [], _ => ⟨Int.le_refl _, Int.le_refl _⟩
  | x :: l, h => by
    obtain ⟨-, -, -, hc⟩ := h x List.mem_cons_self
    have h2 := opn_bd (k := k) (l := l) (fun y hy => h y (List.mem_cons_of_mem _ hy))
    have e : opn k (x :: l) = (if x.2.1 = k then x.2.2 else 0) + opn k l := rfl
    rw [e, List.length_cons]
    split <;> rcases hc with hc | hc <;> omega
/-- The sweep's state: how many spans of each list are open; whether the last place was inside; the result. -/
structure St where
  a : Int
  b : Int
  inn : Bool
  res : List Sn
/-- The last span ends at t. -/
def shut (t : Int) : List Sn → List Sn
  | [] => []
  | [y] => [(y.1, t)]
  | y :: z :: r => y :: shut t (z :: r)
theorem shut_snoc (t : Int) (y : Sn) : ∀ p : List Sn, shut t (p ++ [y]) = p ++ [(y.1, t)]
  | [] => rfl
  | [z] => rfl
  | z :: u :: r => by
    show z :: shut t (u :: r ++ [y]) = _
    rw [shut_snoc t y (u :: r)]; rfl
theorem shut_set {l : List Sn} {y : Sn} {n : Nat} {t : Int} (hn : n + 1 = l.length) (hy : l[n]? = some y) : shut t l = l.set n (y.1, t) := by
  obtain ⟨p, z, rfl⟩ : ∃ p z, l = p ++ [z] := by
    rcases List.eq_nil_or_concat l with rfl | ⟨p, z, rfl⟩
    · simp at hn
    · exact ⟨p, z, by rw [List.concat_eq_append]⟩
  rw [List.length_append] at hn
  have hp : p.length = n := by simp only [List.length_singleton] at hn; omega
  obtain rfl : z = y := by
    rw [List.getElem?_append_right (by omega), hp, Nat.sub_self] at hy
    exact Option.some.inj hy
  rw [shut_snoc, List.set_append_right _ _ (by omega), hp, Nat.sub_self]; rfl
def bump (x : Bd) (s : St) : St := { s with a := if x.2.1 = 0 then s.a + x.2.2 else s.a, b := if x.2.1 = 0 then s.b else s.b + x.2.2 }
def flip (x : Bd) (s : St) : St := if s.inn then { s with inn := false, res := shut x.1 s.res } else { s with inn := true, res := s.res ++ [(x.1, 0)] }
def stp (h : Bool → Bool → Bool) (x : Bd) (same : Bool) (s : St) : St :=
  if same then bump x s else if h (decide (0 < (bump x s).a)) (decide (0 < (bump x s).b)) = s.inn then bump x s else flip x (bump x s)
def run (h : Bool → Bool → Bool) : St → List Bd → St
  | s, [] => s
  | s, x :: r => run h (stp h x (decide (r.head?.map (fun y => y.1) = some x.1)) s) r
theorem run_cons (h : Bool → Bool → Bool) (s : St) (x : Bd) (r : List Bd) : run h s (x :: r) = run h (stp h x (decide (r.head?.map (fun y => y.1) = some x.1)) s) r := rfl
theorem stp_same (h : Bool → Bool → Bool) (x : Bd) (s : St) : stp h x true s = bump x s := rfl
def st0 : St := ⟨0, 0, false, []⟩
/-- Whether a place is in the result, by the bounds up to it. -/
def ins (h : Bool → Bool → Bool) (d : List Bd) (n : Int) : Bool := h (decide (0 < tal 0 n d)) (decide (0 < tal 1 n d))
def fin (h : Bool → Bool → Bool) (d : List Bd) : Bool := h (decide (0 < opn 0 d)) (decide (0 < opn 1 d))
theorem ins_all {h : Bool → Bool → Bool} {d : List Bd} {n : Int} (hd : ∀ x ∈ d, x.1 ≤ n) : ins h d n = fin h d := by
  unfold ins fin; rw [tal_all hd, tal_all hd]
theorem ins_app {h : Bool → Bool → Bool} {d e : List Bd} {n : Int} (he : ∀ x ∈ e, n < x.1) : ins h (d ++ e) n = ins h d n := by
  unfold ins; rw [tal_append, tal_append, tal_none he, tal_none he, Int.add_zero, Int.add_zero]
/-- What the result is, behind the decided bounds d; the bounds z are still to come. -/
def Res (h : Bool → Bool → Bool) (d z : List Bd) (s : St) : Prop :=
  (s.inn = true ∧ ∃ q st, s.res = q ++ [(st, 0)] ∧ Nf q ∧ (∀ y ∈ q, y.2 < st) ∧ (∀ y ∈ z, st < y.1) ∧ -1152921504606846976 ≤ st ∧ ∀ n, ins h d n = true ↔ El q n ∨ st ≤ n) ∨
  (s.inn = false ∧ Nf s.res ∧ (∀ y ∈ s.res, ∀ u ∈ z, y.2 < u.1) ∧ ∀ n, ins h d n = true ↔ El s.res n)
theorem run_spec (h : Bool → Bool → Bool) (hff : h false false = false) : ∀ (r d e : List Bd) (s : St),
    s.a = opn 0 (d ++ e) → s.b = opn 1 (d ++ e) → s.inn = fin h d → (e = [] ∨ ∃ y r', r = y :: r' ∧ ∀ x ∈ e, x.1 = y.1) → (∀ x ∈ d, ∀ y ∈ e ++ r, x.1 < y.1) →
    r.Pairwise (fun x y => x.1 ≤ y.1) → (∀ x ∈ r, Fit x) → Res h d (e ++ r) s → opn 0 (d ++ e ++ r) = 0 → opn 1 (d ++ e ++ r) = 0 →
    Nf (run h s r).res ∧ ∀ n, El (run h s r).res n ↔ ins h (d ++ e ++ r) n = true
  | [], d, e, s, ha, hb, hin, he, _, _, _, hres, h0, h1 => by
    have he' : e = [] := by
      rcases he with rfl | ⟨y, r', hr, _⟩
      · rfl
      · cases hr
    subst he'
    simp only [List.append_nil] at *
    have hf : s.inn = false := by
      rw [hin]; unfold fin; rw [h0, h1]; exact hff
    rcases hres with ⟨h1, _⟩ | ⟨_, h2, _, h4⟩
    · rw [hf] at h1; cases h1
    · exact ⟨h2, fun n => (h4 n).symm⟩
  | x :: r, d, e, s, ha, hb, hin, he, hd, hsort, hfit, hres, h0, h1 => by
    have hs := List.pairwise_cons.1 hsort
    obtain ⟨f1, f2, f3, f4⟩ := hfit x List.mem_cons_self
    have hex : ∀ y ∈ e, y.1 = x.1 := by
      rcases he with rfl | ⟨y, r', hr, hy⟩
      · intro y hy; cases hy
      · cases hr; exact hy
    have opx : ∀ k, opn k (d ++ (e ++ [x])) = opn k (d ++ e) + if x.2.1 = k then x.2.2 else 0 := fun k => by
      rw [← List.append_assoc, opn_append k (d ++ e)]
      show _ + ((if x.2.1 = k then x.2.2 else 0) + 0) = _
      omega
    have ba : (bump x s).a = opn 0 (d ++ (e ++ [x])) := by
      rw [opx]
      show (if x.2.1 = 0 then s.a + x.2.2 else s.a) = _
      rw [ha]; split <;> omega
    have bb : (bump x s).b = opn 1 (d ++ (e ++ [x])) := by
      rw [opx]
      show (if x.2.1 = 0 then s.b else s.b + x.2.2) = _
      rw [hb]
      rcases f3 with g | g
      · rw [if_pos g, g]; simp
      · rw [if_neg (by omega), g]; simp
    have bi : (bump x s).inn = s.inn := rfl
    have br : (bump x s).res = s.res := rfl
    rw [run_cons]
    have reas : d ++ e ++ x :: r = d ++ (e ++ [x]) ++ r := by simp
    have reas2 : e ++ x :: r = e ++ [x] ++ r := by simp
    by_cases hsame : r.head?.map (fun y => y.1) = some x.1
    · -- the next bound lies at the same place
      rw [decide_eq_true hsame, stp_same, reas]
      rw [reas] at h0 h1
      rw [reas2] at hd hres
      obtain ⟨y, r', hr, hy⟩ : ∃ y r', r = y :: r' ∧ y.1 = x.1 := by
        cases r with
        | nil => cases hsame
        | cons y r' => exact ⟨y, r', rfl, Option.some.inj hsame⟩
      refine run_spec h hff r d (e ++ [x]) (bump x s) ba bb (bi.trans hin) (.inr ⟨y, r', hr, fun z hz => ?_⟩) hd hs.2 (fun z hz => hfit z (List.mem_cons_of_mem _ hz)) hres h0 h1
      rw [hy]
      rcases List.mem_append.1 hz with hz | hz
      · exact hex z hz
      · obtain rfl := List.mem_singleton.1 hz; rfl
    · rw [decide_eq_false hsame]
      have hlt : ∀ z ∈ r, x.1 < z.1 := fun z hz => by
        cases r with
        | nil => cases hz
        | cons y r' =>
          have h1 := hs.1 y List.mem_cons_self
          have h2 : y.1 ≠ x.1 := fun e => hsame (congrArg some e)
          rcases List.mem_cons.1 hz with rfl | hz
          · omega
          · have := (List.pairwise_cons.1 hs.2).1 z hz; omega
      have hd' : ∀ y ∈ d ++ (e ++ [x]), y.1 ≤ x.1 := fun y hy => by
        rcases List.mem_append.1 hy with hy | hy
        · have := hd y hy x (by simp); omega
        · rcases List.mem_append.1 hy with hy | hy
          · exact Int.le_of_eq (hex y hy)
          · obtain rfl := List.mem_singleton.1 hy; exact Int.le_refl _
      have hstrict : ∀ y ∈ d ++ (e ++ [x]), ∀ z ∈ [] ++ r, y.1 < z.1 := fun y hy z hz => Int.lt_of_le_of_lt (hd' y hy) (hlt z hz)
      have low : ∀ n, n < x.1 → ins h (d ++ (e ++ [x])) n = ins h d n := fun n hn => ins_app (fun y hy => by
        rcases List.mem_append.1 hy with hy | hy
        · rw [hex y hy]; exact hn
        · obtain rfl := List.mem_singleton.1 hy; exact hn)
      have high : ∀ n, x.1 ≤ n → ins h (d ++ (e ++ [x])) n = fin h (d ++ (e ++ [x])) := fun n hn => ins_all (fun y hy => Int.le_trans (hd' y hy) hn)
      have highd : ∀ n, x.1 ≤ n → ins h d n = fin h d := fun n hn => ins_all (fun y hy => by have := hd' y (List.mem_append_left _ hy); omega)
      have hfin : h (decide (0 < (bump x s).a)) (decide (0 < (bump x s).b)) = fin h (d ++ (e ++ [x])) := by rw [ba, bb]; rfl
      have hxz : x ∈ e ++ x :: r := by simp
      have hrz : ∀ z ∈ r, z ∈ e ++ x :: r := fun z hz => by simp [hz]
      rw [reas]
      rw [reas] at h0 h1
      rw [show d ++ (e ++ [x]) ++ r = d ++ (e ++ [x]) ++ [] ++ r by simp]
      rw [show d ++ (e ++ [x]) ++ r = d ++ (e ++ [x]) ++ [] ++ r by simp] at h0 h1
      have go : ∀ s' : St, s'.a = (bump x s).a → s'.b = (bump x s).b → s'.inn = fin h (d ++ (e ++ [x])) → Res h (d ++ (e ++ [x])) ([] ++ r) s' → Nf (run h s' r).res ∧ ∀ n, El (run h s' r).res n ↔ ins h (d ++ (e ++ [x]) ++ [] ++ r) n = true := fun s' g1 g2 g3 g4 =>
        run_spec h hff r (d ++ (e ++ [x])) [] s' (by rw [List.append_nil, g1, ba]) (by rw [List.append_nil, g2, bb]) g3 (.inl rfl) hstrict hs.2 (fun z hz => hfit z (List.mem_cons_of_mem _ hz)) g4 h0 h1
      unfold stp
      rw [if_neg (by decide), hfin]
      by_cases hv : fin h (d ++ (e ++ [x])) = s.inn
      · rw [if_pos hv]
        have same : ∀ n, ins h (d ++ (e ++ [x])) n = ins h d n := fun n => by
          rcases Int.lt_or_le n x.1 with g | g
          · exact low n g
          · rw [high n g, highd n g, hv, hin]
        refine go _ rfl rfl (bi.trans hv.symm) ?_
        rcases hres with ⟨r1, q, st, r2, r3, r4, r5, r6, r7⟩ | ⟨r1, r2, r3, r4⟩
        · exact .inl ⟨r1, q, st, r2, r3, r4, fun y hy => r5 y (hrz y hy), r6, fun n => by rw [same]; exact r7 n⟩
        · exact .inr ⟨r1, r2, fun y hy u hu => r3 y hy u (hrz u hu), fun n => by rw [same]; exact r4 n⟩
      · rw [if_neg hv]
        unfold flip
        rw [bi]
        rcases hres with ⟨r1, q, st, r2, r3, r4, r5, r6, r7⟩ | ⟨r1, r2, r3, r4⟩
        · rw [r1, if_pos rfl]
          have hf : fin h (d ++ (e ++ [x])) = false := by
            rw [r1] at hv; cases hh : fin h (d ++ (e ++ [x])) with
            | false => rfl
            | true => exact absurd hh hv
          have hst := r5 x hxz
          have hp : Proper (st, x.1) := ⟨r6, f2, hst⟩
          refine go ⟨(bump x s).a, (bump x s).b, false, shut x.1 s.res⟩ rfl rfl hf.symm (.inr ⟨rfl, ?_, ?_, ?_⟩)
          · show Nf (shut x.1 s.res)
            rw [r2, shut_snoc]
            exact ⟨List.pairwise_append.2 ⟨r3.1, List.pairwise_singleton _ _, fun y hy u hu => by obtain rfl := List.mem_singleton.1 hu; exact r4 y hy⟩, fun y hy => (List.mem_append.1 hy).elim (r3.2 y) (fun hy => by obtain rfl := List.mem_singleton.1 hy; exact hp)⟩
          · show ∀ y ∈ shut x.1 s.res, _
            rw [r2, shut_snoc]
            intro y hy u hu
            have := hlt u hu
            rcases List.mem_append.1 hy with hy | hy
            · have := r4 y hy; omega
            · obtain rfl := List.mem_singleton.1 hy; exact this
          · show ∀ n, _ ↔ El (shut x.1 s.res) n
            intro n
            rw [r2, shut_snoc, el_append, el_cons]
            rcases Int.lt_or_le n x.1 with g | g
            · rw [low n g, r7 n]
              exact ⟨fun k => k.imp id (fun k => .inl ⟨hp, k, g⟩), fun k => k.imp id (fun k => k.elim (fun k => k.2.1) (fun k => absurd k (el_nil _)))⟩
            · rw [high n g, hf]
              constructor
              · intro k; cases k
              · rintro (⟨y, hy, _, _, k⟩ | ⟨_, _, k⟩ | k)
                · have := r4 y hy; omega
                · have k' : n < x.1 := k; omega
                · exact absurd k (el_nil _)
        · rw [r1, if_neg (by decide)]
          have hf : fin h (d ++ (e ++ [x])) = true := by
            rw [r1] at hv; cases hh : fin h (d ++ (e ++ [x])) with
            | true => rfl
            | false => exact absurd hh hv
          refine go ⟨(bump x s).a, (bump x s).b, true, s.res ++ [(x.1, 0)]⟩ rfl rfl hf.symm (.inl ⟨rfl, s.res, x.1, rfl, r2, fun y hy => r3 y hy x hxz, hlt, f1, fun n => ?_⟩)
          rcases Int.lt_or_le n x.1 with g | g
          · rw [low n g, r4 n]
            exact ⟨.inl, fun k => k.elim id (fun k => by omega)⟩
          · rw [high n g, hf]
            exact ⟨fun _ => .inr g, fun _ => rfl⟩
/-- What a sweep over the sorted bounds of two lists yields. -/
theorem run_set (h : Bool → Bool → Bool) (hff : h false false = false) (a b : List Sn) (L : List Bd) (hp : L.Perm (bds 0 a ++ bds 1 b)) (hs : L.Pairwise (fun x y => x.1 ≤ y.1)) :
    Nf (run h st0 L).res ∧ ∀ n, El (run h st0 L).res n ↔ h (has a n) (has b n) = true := by
  have h0 : ∀ k, opn k L = 0 := fun k => by rw [opn_perm hp, opn_append, opn_bds, opn_bds]; rfl
  have hfit : ∀ x ∈ L, Fit x := fun x hx => by
    rcases List.mem_append.1 (hp.mem_iff.1 hx) with hx | hx
    · exact bds_fit (.inl rfl) hx
    · exact bds_fit (.inr rfl) hx
  have key := run_spec h hff L [] [] st0 rfl rfl (by show false = _; unfold fin; exact hff.symm) (.inl rfl) (fun x hx => by cases hx) hs hfit
    (.inr ⟨rfl, nf_nil, (fun y hy => by cases hy), fun n => by
      show h _ _ = true ↔ _
      show h false false = true ↔ _
      rw [hff]
      exact ⟨(fun k => by cases k), fun k => absurd k (el_nil _)⟩⟩) (h0 0) (h0 1)
  refine ⟨key.1, fun n => (key.2 n).trans ?_⟩
  have t0 : tal 0 n L = tal 0 n (bds 0 a) := by rw [tal_perm hp, tal_append, tal_other (by decide : (1 : Int) ≠ 0)]; omega
  have t1 : tal 1 n L = tal 1 n (bds 1 b) := by rw [tal_perm hp, tal_append, tal_other (by decide : (0 : Int) ≠ 1)]; omega
  have e0 : decide (0 < tal 0 n L) = has a n := by rw [Bool.eq_iff_iff, decide_eq_true_eq, t0, (tal_bds 0 n a).2, has_el]
  have e1 : decide (0 < tal 1 n L) = has b n := by rw [Bool.eq_iff_iff, decide_eq_true_eq, t1, (tal_bds 1 n b).2, has_el]
  show ins h L n = true ↔ _
  unfold ins
  rw [e0, e1]
theorem run_union (a b : List Sn) (L : List Bd) (hp : L.Perm (bds 0 a ++ bds 1 b)) (hs : L.Pairwise (fun x y => x.1 ≤ y.1)) : (run (fun x y => x || y) st0 L).res = union a b := by
  obtain ⟨h1, h2⟩ := run_set (fun x y => x || y) rfl a b L hp hs
  exact nf_ext h1 (union_nf a b) (fun n => by rw [h2, union_el, Bool.or_eq_true, has_el, has_el])
theorem run_meet (a b : List Sn) (L : List Bd) (hp : L.Perm (bds 0 a ++ bds 1 b)) (hs : L.Pairwise (fun x y => x.1 ≤ y.1)) : (run (fun x y => x && y) st0 L).res = meet a b := by
  obtain ⟨h1, h2⟩ := run_set (fun x y => x && y) rfl a b L hp hs
  exact nf_ext h1 (meet_nf a b) (fun n => by rw [h2, meet_el, Bool.and_eq_true, has_el, has_el])
theorem run_minus (a b : List Sn) (L : List Bd) (hp : L.Perm (bds 0 a ++ bds 1 b)) (hs : L.Pairwise (fun x y => x.1 ≤ y.1)) : (run (fun x y => x && !y) st0 L).res = minus a b := by
  obtain ⟨h1, h2⟩ := run_set (fun x y => x && !y) rfl a b L hp hs
  exact nf_ext h1 (minus_nf a b) (fun n => by rw [h2, minus_el, Bool.and_eq_true, has_el, Bool.not_eq_true', ← Bool.not_eq_true, has_el])
end Go.Proofs.Ytdoojpilogcnjaa.Sp
