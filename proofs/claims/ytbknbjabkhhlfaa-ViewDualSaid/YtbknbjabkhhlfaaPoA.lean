/-
  Plain mathematics of sorted lists of pairs: look-up, putting in, taking out.
-/
import Derived.Test.YtbknbjabkhhlfaaMemR
import Derived.Lib.Bytealg
import Derived.Test.YtbknbjabkhhlfaaChecked
import Derived.ProofKit
import Derived.Lib.Hide
import Derived.Deep.LoopGhost
import Derived.BigRegion
import Derived.Laws.CopyOwn
import Derived.Test.YtbknbjabkhhlfaaWalksC
import Derived.Shelf.SlSortCmp.QuietGrown
import Derived.Test.YtbknbjabkhhlfaaDuA
import Derived.Deep.Upon
import Derived.Deep.RegionLaw
import Derived.RegionTactic
import Derived.Laws.AppendOwnNone
import Derived.Sort.LotA
import Derived.Shelf.SlSortCmp.KitK
set_option linter.unusedVariables false
set_option maxRecDepth 100000
namespace Go.Proofs.Ytbknbjabkhhlfaa
open Go.Sort Go.Lib

def cfK (x y : Pr) : Int := Lib.compareBytes x.1.data.toList y.1.data.toList
def ltOf (cf : Pr → Pr → Int) (x y : Pr) : Bool := decide (cf x y < 0)
abbrev lt' : Pr → Pr → Bool := ltOf cfK
theorem lt_of (x y : Pr) (h : cfK x y < 0) : lt' x y = true := decide_eq_true h
theorem nlt_of (x y : Pr) (h : ¬ cfK x y < 0) : lt' x y = false := decide_eq_false h
theorem cmp_lt : ∀ a b : List UInt8, decide (Lib.compareBytes a b < 0) = ltStr a b
  | [], b => by cases b <;> simp [Lib.compareBytes, ltStr]
  | _ :: _, [] => by simp [Lib.compareBytes, ltStr]
  | u :: a, v :: b => by
    rw [Lib.compareBytes]
    by_cases h1 : u < v
    · simp [h1, ltStr, List.cons_lt_cons_iff]
    · by_cases h2 : v < u
      · have h3 : ¬ u = v := by rintro rfl; exact h1 h2
        simp [h1, h2, h3, ltStr, List.cons_lt_cons_iff]
      · have h3 : u = v := by
          rw [UInt8.lt_iff_toNat_lt] at h1 h2
          exact UInt8.toNat_inj.1 (by omega)
        subst h3
        rw [if_neg h1, if_neg h1, cmp_lt a b]
        simp [ltStr]
theorem cmp_eq0 : ∀ a b : List UInt8, Lib.compareBytes a b = 0 ↔ a = b
  | [], [] => by simp [Lib.compareBytes]
  | [], _ :: _ => by simp [Lib.compareBytes]
  | _ :: _, [] => by simp [Lib.compareBytes]
  | u :: a, v :: b => by
    rw [Lib.compareBytes]
    by_cases h1 : u < v
    · have h3 : ¬ u = v := by rintro rfl; exact UInt8.lt_irrefl _ h1
      simp [h1, h3]
    · by_cases h2 : v < u
      · have h3 : ¬ u = v := by rintro rfl; exact h1 h2
        simp [h1, h2, h3]
      · have h3 : u = v := by
          rw [UInt8.lt_iff_toNat_lt] at h1 h2
          exact UInt8.toNat_inj.1 (by omega)
        subst h3
        rw [if_neg h1, if_neg h1, cmp_eq0 a b]
        simp

theorem ltOf_cfK (x y : Pr) : ltOf cfK x y = kl x.1 y.1 := cmp_lt _ _
theorem cfK_zero (x y : Pr) : cfK x y = 0 ↔ x.1 = y.1 := by
  unfold cfK
  rw [cmp_eq0]
  exact ⟨key_ext, fun h => by rw [h]⟩

/-- The value of the last pair with a key. -/
def lk : List Pr → ByteArray → Option Int
  | [], _ => none
  | x :: r, k => match lk r k with
    | some v => some v
    | none => if x.1 = k then some x.2 else none

theorem lk_nil (k : ByteArray) : lk [] k = none := rfl
theorem lk_append (a b : List Pr) (k : ByteArray) : lk (a ++ b) k = (lk b k).or (lk a k) := by
  induction a with
  | nil => simp [lk]
  | cons x r ih =>
    rw [List.cons_append, lk, ih]
    cases lk b k with
    | some v => simp
    | none => simp only [Option.or]; rw [lk]
theorem lk_one (x : Pr) (k : ByteArray) : lk [x] k = if x.1 = k then some x.2 else none := by simp [lk]
theorem lk_none {xs : List Pr} {k : ByteArray} (h : ∀ p ∈ xs, p.1 ≠ k) : lk xs k = none := by
  induction xs with
  | nil => rfl
  | cons x r ih =>
    rw [lk, ih (fun p hp => h p (List.mem_cons_of_mem _ hp)), if_neg (h x (List.mem_cons_self ..))]
theorem lk_filter (p : Pr → Bool) (k : ByteArray) : ∀ xs : List Pr, (∀ x ∈ xs, x.1 = k → p x = true) → lk (xs.filter p) k = lk xs k
  | [], _ => rfl
  | x :: r, h => by
    have ih := lk_filter p k r fun y hy => h y (List.mem_cons_of_mem _ hy)
    by_cases hp : p x = true
    · rw [List.filter_cons_of_pos hp, lk, lk, ih]
    · rw [List.filter_cons_of_neg hp, ih, lk, if_neg (fun e => hp (h x (List.mem_cons_self ..) e))]
      cases lk r k <;> rfl
theorem lk_mem {xs : List Pr} (h : Asc xs) (k : ByteArray) (v : Int) : (k, v) ∈ xs ↔ lk xs k = some v := by
  induction xs with
  | nil => simp [lk]
  | cons x r ih =>
    obtain ⟨h1, h2⟩ := List.pairwise_cons.1 h
    have ih := ih h2
    rw [List.mem_cons, ih, lk]
    by_cases hk : x.1 = k
    · have hn : lk r k = none := lk_none fun p hp e => kl_ne (h1 p hp) (hk.trans e.symm)
      rw [hn, if_pos hk]
      constructor
      · rintro (e | e)
        · rw [← e]
        · cases e
      · intro e
        left
        injection e with e
        rw [← hk, ← e]
    · rw [if_neg hk]
      constructor
      · rintro (e | e)
        · exact absurd (by rw [← e]) hk
        · rw [e]
      · intro e
        right
        cases hr : lk r k with
        | none => rw [hr] at e; cases e
        | some u => rw [hr] at e; exact e

/-- Two ascending lists with the same values are one. -/
theorem asc_mem_ext : ∀ xs ys : List Pr, Asc xs → Asc ys → (∀ p, p ∈ xs ↔ p ∈ ys) → xs = ys
  | [], [], _, _, _ => rfl
  | [], y :: ys, _, _, h => absurd ((h y).2 (List.mem_cons_self ..)) (List.not_mem_nil)
  | x :: xs, [], _, _, h => absurd ((h x).1 (List.mem_cons_self ..)) (List.not_mem_nil)
  | x :: xs, y :: ys, hx, hy, h => by
    obtain ⟨x1, x2⟩ := List.pairwise_cons.1 hx
    obtain ⟨y1, y2⟩ := List.pairwise_cons.1 hy
    have e : x = y := by
      rcases List.mem_cons.1 ((h x).1 (List.mem_cons_self ..)) with e | e
      · exact e
      · rcases List.mem_cons.1 ((h y).2 (List.mem_cons_self ..)) with e' | e'
        · exact e'.symm
        · have := kl_asymm (y1 x e)
          rw [x1 y e'] at this
          cases this
    subst e
    rw [asc_mem_ext xs ys x2 y2 fun p => ⟨fun hp => ?_, fun hp => ?_⟩]
    · rcases List.mem_cons.1 ((h p).1 (List.mem_cons_of_mem _ hp)) with e | e
      · subst e; exact absurd rfl (kl_ne (x1 p hp))
      · exact e
    · rcases List.mem_cons.1 ((h p).2 (List.mem_cons_of_mem _ hp)) with e | e
      · subst e; exact absurd rfl (kl_ne (y1 p hp))
      · exact e
theorem asc_ext {xs ys : List Pr} (hx : Asc xs) (hy : Asc ys) (h : ∀ k, lk xs k = lk ys k) : xs = ys :=
  asc_mem_ext xs ys hx hy fun ⟨k, v⟩ => by rw [lk_mem hx, lk_mem hy, h]

/-- The list around a key. -/
structure Split (xs : List Pr) (k : ByteArray) (A M C : List Pr) : Prop where
  eq : xs = A ++ (M ++ C)
  lo : ∀ a ∈ A, kl a.1 k = true
  hi : ∀ c ∈ C, kl k c.1 = true
  mid : M = [] ∨ ∃ u, M = [(k, u)]

def PutOf (xs : List Pr) (k : ByteArray) (v : Int) (ys : List Pr) : Prop :=
  Asc ys ∧ (∀ j, lk ys j = if j = k then some v else lk xs j) ∧ ys.length = xs.length + (if (lk xs k).isSome then 0 else 1)
def DropOf (xs : List Pr) (k : ByteArray) (ys : List Pr) : Prop :=
  Asc ys ∧ (∀ j, lk ys j = if j = k then none else lk xs j) ∧ ys.length + (if (lk xs k).isSome then 1 else 0) = xs.length
def OfOf (xs ys : List Pr) : Prop := Asc ys ∧ (∀ j, lk ys j = lk xs j) ∧ ys.length ≤ xs.length

theorem Split.lkA {xs : List Pr} {k : ByteArray} {A M C : List Pr} (h : Split xs k A M C) : lk A k = none := lk_none fun a ha => kl_ne (h.lo a ha)
theorem Split.lkC {xs : List Pr} {k : ByteArray} {A M C : List Pr} (h : Split xs k A M C) : lk C k = none := lk_none fun c hc => Ne.symm (kl_ne (h.hi c hc))
theorem Split.lk_ {xs : List Pr} {k : ByteArray} {A M C : List Pr} (h : Split xs k A M C) : lk xs k = lk M k := by
  rw [h.eq, lk_append, lk_append, h.lkA, h.lkC]
  cases lk M k <;> rfl
theorem Split.lkM {xs : List Pr} {k : ByteArray} {A M C : List Pr} (h : Split xs k A M C) {j : ByteArray} (hj : j ≠ k) : lk M j = none := by
  rcases h.mid with e | ⟨u, e⟩ <;> subst e
  · rfl
  · rw [lk_one, if_neg (Ne.symm hj)]

theorem Split.put {xs : List Pr} {k : ByteArray} {A M C : List Pr} (hx : Asc xs) (h : Split xs k A M C) (v : Int) : PutOf xs k v (A ++ (k, v) :: C) := by
  have hx' := hx
  rw [h.eq] at hx'
  obtain ⟨a1, a2, a3⟩ := List.pairwise_append.1 hx'
  obtain ⟨b1, b2, b3⟩ := List.pairwise_append.1 a2
  refine ⟨List.pairwise_append.2 ⟨a1, List.pairwise_cons.2 ⟨fun c hc => h.hi c hc, b2⟩, fun a ha c hc => ?_⟩, fun j => ?_, ?_⟩
  · rcases List.mem_cons.1 hc with e | e
    · subst e; exact h.lo a ha
    · exact a3 a ha c (List.mem_append_right _ e)
  · by_cases hj : j = k
    · subst hj
      rw [if_pos rfl, lk_append, show (j, v) :: C = [(j, v)] ++ C from rfl, lk_append, h.lkC, lk_one, if_pos rfl]
      rfl
    · rw [if_neg hj, h.eq, lk_append, show (k, v) :: C = [(k, v)] ++ C from rfl, lk_append, lk_append, lk_append, lk_one, if_neg (Ne.symm hj), h.lkM hj]
  · rw [h.lk_]
    rcases h.mid with e | ⟨u, e⟩ <;> rw [h.eq, e] <;> simp [lk] <;> omega

theorem Split.drop {xs : List Pr} {k : ByteArray} {A M C : List Pr} (hx : Asc xs) (h : Split xs k A M C) : DropOf xs k (A ++ C) := by
  have hx' := hx
  rw [h.eq] at hx'
  obtain ⟨a1, a2, a3⟩ := List.pairwise_append.1 hx'
  obtain ⟨b1, b2, b3⟩ := List.pairwise_append.1 a2
  refine ⟨List.pairwise_append.2 ⟨a1, b2, fun a ha c hc => a3 a ha c (List.mem_append_right _ hc)⟩, fun j => ?_, ?_⟩
  · by_cases hj : j = k
    · subst hj
      rw [if_pos rfl, lk_append, h.lkA, h.lkC]
      rfl
    · rw [if_neg hj, h.eq, lk_append, lk_append, lk_append, h.lkM hj]
      cases lk C j <;> rfl
  · rw [h.lk_]
    rcases h.mid with e | ⟨u, e⟩ <;> rw [h.eq, e] <;> simp [lk] <;> omega

/-- What the search finds. -/
theorem split_of {xs : List Pr} (hx : Asc xs) {k : ByteArray} {i : Nat} (hi : i ≤ xs.length) (h1 : ∀ t x, t < i → xs[t]? = some x → kl x.1 k = true) (h2 : ∀ t x, i ≤ t → xs[t]? = some x → kl x.1 k = false) :
    (∃ u, xs[i]? = some (k, u) ∧ Split xs k (xs.take i) [(k, u)] (xs.drop (i + 1))) ∨ ((∀ x, xs[i]? = some x → x.1 ≠ k) ∧ Split xs k (xs.take i) [] (xs.drop i)) := by
  have hA : ∀ a ∈ xs.take i, kl a.1 k = true := fun a ha => by
    obtain ⟨t, ht⟩ := List.mem_iff_getElem?.1 ha
    have htl : t < i := by
      rcases Nat.lt_or_ge t i with h | h
      · exact h
      · rw [List.getElem?_eq_none (by simp; omega)] at ht; cases ht
    rw [List.getElem?_take_of_lt htl] at ht
    exact h1 t a htl ht
  cases hg : xs[i]? with
  | none =>
    have hl : xs.length ≤ i := List.getElem?_eq_none_iff.1 hg
    refine .inr ⟨fun x hx => (by cases hx), ⟨by simp, hA, fun c hc => ?_, .inl rfl⟩⟩
    rw [List.drop_eq_nil_of_le hl] at hc
    cases hc
  | some y =>
    have hlt : i < xs.length := by
      rcases Nat.lt_or_ge i xs.length with h | h
      · exact h
      · rw [List.getElem?_eq_none h] at hg; cases hg
    have hd : xs.drop i = y :: xs.drop (i + 1) := by
      rw [List.drop_eq_getElem_cons hlt]
      rw [List.getElem?_eq_getElem hlt] at hg
      injection hg with hg
      rw [hg]
    have hy := h2 i y (Nat.le_refl _) hg
    have hasc : Asc (xs.drop i) := hx.sublist (List.drop_sublist ..)
    rw [hd] at hasc
    obtain ⟨c1, c2⟩ := List.pairwise_cons.1 hasc
    by_cases hk : y.1 = k
    · refine .inl ⟨y.2, by rw [← hk], ⟨?_, hA, fun c hc => by rw [← hk]; exact c1 c hc, .inr ⟨_, rfl⟩⟩⟩
      have : y = (k, y.2) := by rw [← hk]
      rw [← this]
      conv => lhs; rw [← List.take_append_drop i xs, hd]
      rfl
    · refine .inr ⟨fun x hx => (by cases hx; exact hk), ⟨by simp, hA, fun c hc => ?_, .inl rfl⟩⟩
      have hky := kl_of_ne hy hk
      rw [hd] at hc
      rcases List.mem_cons.1 hc with e | e
      · subst e; exact hky
      · exact kl_trans hky (c1 c e)

theorem PutOf.unique {xs : List Pr} {k : ByteArray} {v : Int} {ys zs : List Pr} (h : PutOf xs k v ys) (g : PutOf xs k v zs) : ys = zs :=
  asc_ext h.1 g.1 fun j => by rw [h.2.1, g.2.1]
theorem DropOf.unique {xs : List Pr} {k : ByteArray} {ys zs : List Pr} (h : DropOf xs k ys) (g : DropOf xs k zs) : ys = zs :=
  asc_ext h.1 g.1 fun j => by rw [h.2.1, g.2.1]
theorem OfOf.unique {xs ys zs : List Pr} (h : OfOf xs ys) (g : OfOf xs zs) : ys = zs :=
  asc_ext h.1 g.1 fun j => by rw [h.2.1, g.2.1]

/-! ### The last of each key, of a sorted array -/
end Go.Proofs.Ytbknbjabkhhlfaa
/-
  Pairs: the comparison by key; copy, at elements of two cells.
-/
set_option linter.unusedVariables false
set_option maxRecDepth 100000
namespace Go.Proofs.Ytbknbjabkhhlfaa
open Go.Shelf Go.RowKit Go.Lib Go.Sort

set_option maxHeartbeats 1000000 in
theorem cmpString (a b : ByteArray) (w : World) : Calls Try.prog 90 #[.string a, .string b] w fun e w' => e = .returned (.int .i64 (Lib.compareBytes a.data.toList b.data.toList)) ∧ w = w' := by
  go_enter Try.func90, Try.ntmps90
  go_wp2
  rw [run_callFunc_extern Try.func92 (by kernel_rfl) (by kernel_rfl) (by kernel_rfl) (e := Extern.BytealgCompare.compare) (by kernel_rfl), Lib.run_compareString]
  simp only [Result.andThen]
  rw [Oper.upon_value]
  go_wp2
  go_ret
  exact ⟨rfl, rfl⟩

theorem compare_any (a b : ByteArray) (w : World) : Calls Try.prog 84 #[.string a, .string b] w fun e w' => e = .returned (.int .i64 (Lib.compareBytes a.data.toList b.data.toList)) ∧ w = w' := by
  go_enter Try.func84, Try.ntmps84
  go_wp2_with (go_at_call 90; refine (cmpString _ _ _).mono ?_; rintro e w' ⟨rfl, rfl⟩)
  go_ret
  exact ⟨rfl, rfl⟩

set_option maxHeartbeats 1000000 in
theorem byKey_any (x y : Pr) (W : World) : Calls Try.prog 67 #[.agg #[.string x.1, .int .u64 x.2], .agg #[.string y.1, .int .u64 y.2]] W fun e w' => e = .returned (.int .i64 (cfK x y)) ∧ ∃ q os', w' = grow (W.drewN q) os' := by
  have hcon := fun W' => compare_any x.1 y.1 W'
  unfold cfK
  generalize Lib.compareBytes x.1.data.toList y.1.data.toList = r at hcon ⊢
  go_enter Try.func67, Try.ntmps67
  go_wp2_with (go_at_call 84; refine (hcon _).mono ?_; rintro e w' ⟨rfl, rfl⟩)
  go_ret
  exact ⟨rfl, 0, _, by rw [alloc_eq_grow, alloc_eq_grow, grow_grow]; rfl⟩

section
variable {P : Program}
theorem run_copy2_none (w : World) (dT sT ty elem : TypeId) (dp sp : Option Addr) (dLen dCap sLen sCap : Nat) (hu : P.underlying dT = some (.slice elem)) (hs : (P.info? elem).map (·.size) = some 2) (hn : Nat.min sLen dLen = 0) :
    (Builtin.copy_ #[dT, sT] ty #[.slice dp dLen dCap, .slice sp sLen sCap]).run P w = .ok (goInt 0) w := by
  cases hq : P.info? elem with
  | none => simp [hq] at hs
  | some i =>
    cases dp <;> cases sp <;> simp [Builtin.copy_, run_underlying hu, Builtin.lenOf, Builtin.firstCells, sizeOf, typeInfo, hq, hn, storeCells, loadCells, loadCellsFrom]

theorem run_copy2_row (w : World) (dT sT ty elem : TypeId) (g o dLen dCap : Nat) (a : Addr) (sLen sCap : Nat) (cur : Array Value) (t : TypeId) (cs : List Value) (k : Nat)
    (hu : P.underlying dT = some (.slice elem)) (hs : (P.info? elem).map (·.size) = some 2)
    (hg : w.heap[g]? = some (.cells cur t (0, 0))) (hk : k = Nat.min sLen dLen) (hn : cs.length = k * 2)
    (hsrc : ∀ j v, cs[j]? = some v → w.cell? (a.add j) = some v) (hfit : o + cs.length ≤ cur.size) (h1 : ∀ v ∈ cs, v.oneCell' = true) :
    (Builtin.copy_ #[dT, sT] ty #[.slice (some ⟨g, o, none⟩) dLen dCap, .slice (some a) sLen sCap]).run P w =
      .ok (goInt k) (w.setRow g (cur.toList.take o ++ cs ++ cur.toList.drop (o + cs.length)).toArray) := by
  have hl := run_loadCells_list (P := P) w a cs hsrc
  have hst := run_storeCells_at P g o t cs 0 cur w hg (by simpa using hfit) h1
  rw [hn] at hl
  cases hq : P.info? elem with
  | none => simp [hq] at hs
  | some i =>
    have hi : i.size = 2 := by simpa [hq] using hs
    simp [Builtin.copy_, run_underlying hu, Builtin.lenOf, Builtin.firstCells, sizeOf, typeInfo, hq, hi, ← hk, hl, hst]

theorem wpList_copy2 {w : World} {ops : Array Oper} {rest : List Oper} {o : Oper} {a : Act} {Q : Exit → Act → World → Prop} (hgd : o.guard = none) (d s : Operand) (dT sT : TypeId)
    (ho : o.op = .call { callee := .builtin .copy, args := #[d, s], argTypes := #[dT, sT] }) (elem : TypeId) (hu : P.underlying dT = some (.slice elem)) (hsz : (P.info? elem).map (·.size) = some 2)
    (dp sp : Option Addr) (dLen dCap sLen sCap : Nat) (hd : a.eval d = .slice dp dLen dCap) (hs : a.eval s = .slice sp sLen sCap)
    (g off : Nat) (cur : List Value) (t : TypeId) (hg : w.heap[g]? = some (.cells cur.toArray t (0, 0))) (cs : List Value) (k : Nat) (hk : k = Nat.min sLen dLen) (hn : cs.length = k * 2)
    (hpos : 0 < k → dp = some ⟨g, off, none⟩ ∧ ∃ ad, sp = some ad ∧ ∀ j v, cs[j]? = some v → w.cell? (ad.add j) = some v)
    (hfit : off + cs.length ≤ cur.length) (h1 : ∀ v ∈ cs, v.oneCell' = true) (B : Nat) (w0 : World) (hb : Below B w0 w) (hBg : B ≤ g)
    (h : ∀ w', Hid (w'.heap[g]? = some (.cells (splice cur off cs).toArray t (0, 0))) → Below B w0 w' → wpList P ops Q rest (a.put o.dst (goInt k)) w') :
    wpList P ops Q (o :: rest) a w := by
  refine wpList_plain hgd fun K hK => ?_
  by_cases h0 : k = 0
  · subst h0
    obtain rfl : cs = [] := List.eq_nil_of_length_eq_zero (by omega)
    have hrun := run_copy2_none (P := P) w dT sT o.type elem dp sp dLen dCap sLen sCap hu hsz hk.symm
    unfold Oper.wp
    simp [execOp, ho, resolve, invoke, builtin, hd, hs, hrun, Result.andThen]
    exact hK _ _ (h w (show _ = _ by simpa [splice] using hg) hb)
  · obtain ⟨rfl, ad, rfl, hsrc⟩ := hpos (by omega)
    have hrun := run_copy2_row (P := P) w dT sT o.type elem g off dLen dCap ad sLen sCap cur.toArray t cs k hu hsz hg hk hn hsrc (by simpa using hfit) h1
    unfold Oper.wp
    simp [execOp, ho, resolve, invoke, builtin, hd, hs, hrun, Result.andThen]
    exact hK _ _ (h _ (show _ = _ by simpa [splice] using setRow_heap w g _ _ t _ hg) (below_setRow hb hBg _))
end
end Go.Proofs.Ytbknbjabkhhlfaa
/-
  The walks of the binary search and of the span of a key.
-/
set_option linter.unusedVariables false
set_option maxRecDepth 100000
namespace Go.Proofs.Ytbknbjabkhhlfaa
open Go.Shelf Go.RowKit Go.Lib Go.Sort

theorem below_grow {B : Nat} {w wr : World} (h : Below B w wr) (hB : B ≤ wr.heap.size) (n : Nat) (os : Array Obj) : Below B w (grow (wr.drewN n) os) :=
  h.trans ⟨rfl, rfl, rfl, by rw [size_grow]; exact Nat.le_add_right _ _, fun k hk => by
    rw [heap_grow_old _ _ (by show k < wr.heap.size; omega)]; rfl⟩
def Found (xs : List Pr) (k : ByteArray) (i : Nat) (f : Bool) : Prop :=
  i ≤ xs.length ∧ ((f = true ∧ ∃ u, xs[i]? = some (k, u) ∧ Split xs k (xs.take i) [(k, u)] (xs.drop (i + 1))) ∨ (f = false ∧ Split xs k (xs.take i) [] (xs.drop i)))

theorem Rd.grown {w : World} {B : Nat} {A : Option Addr} {xs : List Pr} (h : Rd w B A xs) (hB : B ≤ w.heap.size) (n : Nat) (os : Array Obj) : Rd (grow (w.drewN n) os) B A xs :=
  h.keep fun p hp => by rw [cell?_grow _ _ _ (by show p.block < w.heap.size; omega)]; rfl

end Go.Proofs.Ytbknbjabkhhlfaa
/-
  The walks of Put, Drop, Find of package pairs.
-/
set_option linter.unusedVariables false
set_option maxRecDepth 100000
namespace Go.Proofs.Ytbknbjabkhhlfaa
open Go.Shelf Go.RowKit Go.Lib Go.Sort

theorem pairSize : (Try.prog.info? 56).map (·.size) = some 2 := by kernel_rfl

/-- What make leaves. -/
theorem made_heap {w w1 : World} {n : Nat} {xs : List Value} (h : w1.ownsRow w.heap.size 56 2 (.slice (some ⟨w.heap.size, 0, none⟩) n n) n xs) :
    ∃ Z : List Value, Z.length = n * 2 ∧ w1.heap[w.heap.size]? = some (.cells Z.toArray 56 (0, 0)) := by
  rcases h.2 with ⟨e, _⟩ | ⟨g, cap, cur, e, hb, hg, hnc, hcm, hcs, ht⟩
  · cases e
  · simp only [Value.slice.injEq, Option.some.injEq, Addr.mk.injEq, and_true, true_and] at e
    obtain ⟨rfl, rfl⟩ := e
    exact ⟨cur.toList, by simpa using hcs, by simpa using hg⟩

theorem own_of_heap {w : World} {base g : Nat} {xs : List Pr} {n c : Nat} (hn : xs.length = n) (hb : base ≤ g) (hc : n ≤ c) (hcm : c ≤ maxLen) {cur : List Value} (hcs : cur.length = c * 2) (ht : cur.take (n * 2) = flat xs)
    (hg : w.heap[g]? = some (.cells cur.toArray 56 (0, 0))) : Own w base (.slice (some ⟨g, 0, none⟩) n c) xs := by
  subst hn
  exact ⟨flat_length xs, .inr ⟨g, c, cur.toArray, rfl, hb, hg, hc, hcm, by simpa using hcs, by simpa using ht⟩⟩


/-- copy: as many elements as the shorter of the two has go over. -/
theorem copy2_ex {w0 w : World} (ty : TypeId) (dp sp : Option Addr) (dLen dCap sLen sCap : Nat) (g off : Nat) (cur : List Value) (hg : w.heap[g]? = some (.cells cur.toArray 56 (0, 0))) (cs : List Value) (k : Nat) (hk : k = Nat.min sLen dLen) (hn : cs.length = k * 2)
    (hpos : 0 < k → dp = some ⟨g, off, none⟩ ∧ ∃ ad, sp = some ad ∧ ∀ j v, cs[j]? = some v → w.cell? (ad.add j) = some v)
    (hfit : off + cs.length ≤ cur.length) (h1 : ∀ v ∈ cs, v.oneCell' = true) (B : Nat) (hb : Below B w0 w) (hBg : B ≤ g) :
    ∃ w', (Builtin.copy_ #[33, 33] ty #[.slice dp dLen dCap, .slice sp sLen sCap]).run Try.prog w = .ok (.int .i64 k) w' ∧ Hid (w'.heap[g]? = some (.cells (splice cur off cs).toArray 56 (0, 0))) ∧ Below B w0 w' := by
  by_cases h0 : k = 0
  · subst h0
    obtain rfl : cs = [] := List.eq_nil_of_length_eq_zero (by omega)
    exact ⟨w, run_copy2_none (P := Try.prog) w 33 33 ty 56 dp sp dLen dCap sLen sCap Try.underlying33 pairSize hk.symm, (show _ = _ by simpa [splice] using hg), hb⟩
  · obtain ⟨rfl, ad, rfl, hsrc⟩ := hpos (by omega)
    exact ⟨_, run_copy2_row (P := Try.prog) w 33 33 ty 56 g off dLen dCap ad sLen sCap cur.toArray 56 cs k Try.underlying33 pairSize hg hk hn hsrc (by simpa using hfit) h1,
      (show _ = _ by simpa [splice] using setRow_heap w g _ _ 56 _ hg), below_setRow hb hBg _⟩

theorem upon_copy {o : Oper} {a : Act} {K : Act → World → Prop} {Q : Exit → Act → World → Prop} {w w0 : World} (ty : TypeId) (dp sp : Option Addr) (dLen dCap sLen sCap : Nat) (g off : Nat) (cur : List Value) (hg : Hid (w.heap[g]? = some (.cells cur.toArray 56 (0, 0)))) (cs : List Value) (k : Nat) (hk : k = Nat.min sLen dLen) (hn : Hid (cs.length = k * 2))
    (hpos : 0 < k → dp = some ⟨g, off, none⟩ ∧ ∃ ad, sp = some ad ∧ ∀ j v, cs[j]? = some v → w.cell? (ad.add j) = some v)
    (hfit : off + cs.length ≤ cur.length) (h1 : ∀ v ∈ cs, v.oneCell' = true) (B : Nat) (hb : Below B w0 w) (hBg : B ≤ g)
    (h : ∀ w', Hid (w'.heap[g]? = some (.cells (splice cur off cs).toArray 56 (0, 0))) → Below B w0 w' → K (a.put o.dst (.int .i64 k)) w') :
    Oper.upon Try.prog o a K Q ((Sem.run Try.prog (Builtin.copy_ #[33, 33] ty #[.slice dp dLen dCap, .slice sp sLen sCap]) w).andThen fun a w' => Result.ok (Next.value a) w') := by
  obtain ⟨w', e, h2, h3⟩ := copy2_ex ty dp sp dLen dCap sLen sCap g off cur hg.out cs k hk hn.out hpos hfit h1 B hb hBg
  rw [e]
  simp only [Result.andThen]
  rw [Oper.upon_value]
  exact h w' h2 h3

theorem OwnPost.up {xs : List Pr} {w w1 : World} {e : Ending} {w' : World} (h : OwnPost xs w1 e w') (hb : Below w.heap.size w w1) : OwnPost xs w e w' := by
  obtain ⟨v, he, ho, hb'⟩ := h
  exact ⟨v, he, ho.mono hb.size, hb.trans (hb'.mono hb.size)⟩

theorem one_rd (w : World) (k : ByteArray) (v : Int) : Rd (w.alloc (.cells #[.string k, .int .u64 v] 56)) (w.heap.size + 1) (some ⟨w.heap.size, 0, none⟩) [(k, v)] := fun _ =>
  ⟨_, rfl, Nat.lt_succ_self _, fun j u hj => by
    match j, hj with
    | 0, hj => simp [flat, enc] at hj; subst hj; simp [Addr.add]
    | 1, hj => simp [flat, enc] at hj; subst hj; simp [Addr.add]⟩

/-- What Put and Drop do with the span that they found. -/
theorem Found.putOf {xs : List Pr} {k : ByteArray} {i j : Nat} {f : Bool} (h : Found xs k i f) (hj : j = if f then i + 1 else i) (ha : Asc xs) (v : Int) : i ≤ j ∧ j ≤ xs.length ∧ PutOf xs k v (xs.take i ++ ([(k, v)] ++ xs.drop j)) ∧ DropOf xs k (xs.take i ++ ([] ++ xs.drop j)) := by
  obtain ⟨hi, ⟨rfl, u, hu, hs⟩ | ⟨rfl, hs⟩⟩ := h
  · simp only [if_true] at hj
    subst hj
    exact ⟨by omega, (List.getElem?_eq_some_iff.1 hu).1, hs.put ha v, hs.drop ha⟩
  · simp only [Bool.false_eq_true, if_false] at hj
    subst hj
    exact ⟨Nat.le_refl _, hi, hs.put ha v, hs.drop ha⟩

theorem Found.look {xs : List Pr} {k : ByteArray} {i : Nat} {f : Bool} (h : Found xs k i f) : (f = true ∧ i < xs.length ∧ ∃ u, xs[i]? = some (k, u) ∧ lk xs k = some u) ∨ (f = false ∧ lk xs k = none) := by
  obtain ⟨hi, ⟨rfl, u, hu, hs⟩ | ⟨rfl, hs⟩⟩ := h
  · exact .inl ⟨rfl, (List.getElem?_eq_some_iff.1 hu).1, u, hu, by rw [hs.lk_, lk_one, if_pos rfl]⟩
  · exact .inr ⟨rfl, by rw [hs.lk_]; rfl⟩

end Go.Proofs.Ytbknbjabkhhlfaa
/-
  The walks of the reference of layer 3: without, with.
-/
set_option linter.unusedVariables false
set_option maxRecDepth 100000
namespace Go.Proofs.Ytbknbjabkhhlfaa
open Go.Shelf Go.RowKit Go.Lib Go.Sort

def UpPost (P : List Pr → Prop) (w : World) (e : Ending) (w' : World) : Prop :=
  ∃ (A : Option Addr) (c : Nat) (ys : List Pr), e = .returned (.slice A ys.length c) ∧ P ys ∧ Rd w' w'.heap.size A ys ∧ ys.length ≤ c ∧ Below w.heap.size w w'

theorem OwnPost.upPost {P : List Pr → Prop} {ys : List Pr} {w : World} {e : Ending} {w' : World} (h : OwnPost ys w e w') (hP : P ys) : UpPost P w e w' := by
  obtain ⟨v, rfl, ho, hb⟩ := h
  obtain ⟨A, c, rfl, hR, _, hc⟩ := ho.open_
  exact ⟨A, c, ys, rfl, hP, hR, hc, hb⟩

theorem PutOf.le {xs : List Pr} {k : ByteArray} {v : Int} {ys : List Pr} (h : PutOf xs k v ys) : ys.length ≤ xs.length + 1 := by
  have := h.2.2
  split at this <;> omega
theorem DropOf.le {xs : List Pr} {k : ByteArray} {ys : List Pr} (h : DropOf xs k ys) : ys.length ≤ xs.length := by
  have := h.2.2
  split at this <;> omega
theorem PutOf.same {xs : List Pr} {k : ByteArray} {v : Int} {ys : List Pr} (h : PutOf xs k v ys) : lk ys k = some v := by rw [h.2.1, if_pos rfl]
theorem PutOf.other {xs : List Pr} {k j : ByteArray} {v : Int} {ys : List Pr} (h : PutOf xs k v ys) (hj : j ≠ k) : lk ys j = lk xs j := by rw [h.2.1, if_neg hj]
theorem DropOf.same {xs : List Pr} {k : ByteArray} {ys : List Pr} (h : DropOf xs k ys) : lk ys k = none := by rw [h.2.1, if_pos rfl]
theorem DropOf.other {xs : List Pr} {k j : ByteArray} {ys : List Pr} (h : DropOf xs k ys) (hj : j ≠ k) : lk ys j = lk xs j := by rw [h.2.1, if_neg hj]

theorem lit_rd (w : World) (xs : List Pr) : Rd (w.alloc (.cells (flat xs).toArray 56)) (w.alloc (.cells (flat xs).toArray 56)).heap.size (some ⟨w.heap.size, 0, none⟩) xs := fun _ =>
  ⟨_, rfl, by simp, fun j u hj => by
    have := cell_of_row (w.alloc (.cells (flat xs).toArray 56)) w.heap.size j (flat xs).toArray 56 (0, 0) (heap_alloc_new w _)
    have e : (⟨w.heap.size, 0, none⟩ : Addr).add j = ⟨w.heap.size, j, none⟩ := by
      unfold Addr.add
      split
      · subst_vars; rfl
      · simp
    rw [e, this]
    simpa using hj⟩

theorem one_cells (w : World) (x : Pr) (t : TypeId) : ∀ j u, (enc x)[j]? = some u → (w.alloc (.cells #[.string x.1, .int .u64 x.2] t)).cell? ((⟨w.heap.size, 0, none⟩ : Addr).add j) = some u := by
  intro j u hj
  match j, hj with
  | 0, hj => simp [enc] at hj; subst hj; simp [Addr.add]
  | 1, hj => simp [enc] at hj; subst hj; simp [Addr.add]

theorem wpList_append_pair {w w0 : World} {ops : Array Oper} {rest : List Oper} {o : Oper} {a : Act} {Q : Exit → Act → World → Prop} (hgd : o.guard = none) (s x : Operand)
    (ho : o.op = .call { callee := .builtin .append, args := #[s, x], argTypes := #[33, 33] }) (base : Nat) (v : Value) (ys : List Pr) (hs : a.eval s = v) (hown : Own w base v ys)
    (ad : Addr) (c : Nat) (y : Pr) (hx : a.eval x = .slice (some ad) 1 c) (hnews : ∀ j u, (enc y)[j]? = some u → w.cell? (ad.add j) = some u)
    (hn : ys.length ≤ 100000) (hb : Below base w0 w) (hbase : base ≤ w.heap.size)
    (h : ∀ v' w', Hid (Own w' base v' (ys ++ [y])) → Below base w0 w' → wpList Try.prog ops Q rest (a.put o.dst v') w') :
    wpList Try.prog ops Q (o :: rest) a w := by
  refine wpList_plain hgd fun K hK => ?_
  obtain ⟨v', w', hr, h2, h3⟩ := run_append_pair o.type base v ys hown ad c [y] (by simpa [flat] using hnews) (by simp; omega) hbase
  unfold Oper.wp execOp
  simp only [ho, resolve, invoke, builtin, Sem.run_bind, Sem.run_pure, Result.andThen_ok, List.map_toArray, List.map_cons, List.map_nil, hs, hx]
  simp only [List.length_singleton] at hr
  simp only [hr, Result.andThen_ok]
  exact hK _ _ (h v' w' h2 (hb.trans h3))

/-- The pairs with other keys. -/
def wo (xs : List Pr) (k : ByteArray) : List Pr := xs.filter fun p => !(p.1.toList == k.toList)
theorem wo_le (xs : List Pr) (k : ByteArray) : (wo xs k).length ≤ xs.length := List.length_filter_le _ _
theorem wo_ne {xs : List Pr} {k : ByteArray} {p : Pr} (h : p ∈ wo xs k) : p.1 ≠ k := by
  have := (List.mem_filter.1 h).2
  rintro rfl
  simp at this
theorem wo_asc {xs : List Pr} (h : Asc xs) (k : ByteArray) : Asc (wo xs k) := h.sublist List.filter_sublist
theorem wo_lk (xs : List Pr) (k j : ByteArray) : lk (wo xs k) j = if j = k then none else lk xs j := by
  by_cases hj : j = k
  · subst hj
    rw [if_pos rfl]
    exact lk_none fun p hp => wo_ne hp
  · rw [if_neg hj]
    refine lk_filter _ _ _ fun x _ hx => ?_
    simp only [Bool.not_eq_true', beq_eq_false_iff_ne]
    rw [Lib.toList_data, Lib.toList_data]
    exact fun e => hj (hx ▸ key_ext e)
theorem wo_succ (xs : List Pr) (k : ByteArray) (i : Nat) (x : Pr) (hx : xs[i]? = some x) : wo (xs.take (i + 1)) k = wo (xs.take i) k ++ (if (x.1.toList == k.toList) then [] else [x]) := by
  rw [List.take_add_one, hx]
  unfold wo
  rw [List.filter_append]
  congr 1
  cases h : x.1.toList == k.toList <;> simp [h]

theorem step_append_any {w w0 : World} {ops : Array Oper} {o : Oper} {a : Act} {K : Act → World → Prop} {Q : Exit → Act → World → Prop} {E : Prop} (hgd : o.guard = none) (s x : Operand)
    (ho : o.op = .call { callee := .builtin .append, args := #[s, x], argTypes := #[33, 33] }) (base : Nat) (v : Value) (ys : List Pr) (hs : a.eval s = v) (hown : Own w base v ys)
    (A : Option Addr) (m c B : Nat) (ns : List Pr) (hx : a.eval x = .slice A m c) (hm : m = ns.length) (hR : Rd w B A ns) (hA : A = none → c = 0)
    (hn : ys.length + ns.length ≤ 1000000) (hb : Below base w0 w) (hbase : base ≤ w.heap.size)
    (h : ∀ v' w', Hid (Own w' base v' (ys ++ ns)) → Below base w0 w' → K (a.put o.dst v') w') :
    if Region.wanted o (yielded ops a.tmps) = true then Oper.wp Try.prog o a w K Q else E := by
  have hw : Region.wanted o (yielded ops a.tmps) = true := by simp [Region.wanted, hgd]
  rw [if_pos hw]
  obtain ⟨v', w', hr, h2, h3⟩ := run_append_any o.type base v ys hown A m c B ns hm hR hA hn hbase
  unfold Oper.wp execOp
  simp only [ho, resolve, invoke, builtin, Sem.run_bind, Sem.run_pure, Result.andThen_ok, List.map_toArray, List.map_cons, List.map_nil, hs, hx, hr]
  exact h v' w' h2 (hb.trans h3)

theorem one_rd' (w : World) (x : Pr) : Rd (w.alloc (.cells #[.string x.1, .int .u64 x.2] 56)) (w.heap.size + 1) (some ⟨w.heap.size, 0, none⟩) [x] := fun _ =>
  ⟨_, rfl, Nat.lt_succ_self _, by simpa [flat] using one_cells w x 56⟩

/-- What the loop of 'with' finds. -/
theorem put_at {xs : List Pr} (ha : Asc xs) {x : Pr} (hne : ∀ y ∈ xs, y.1 ≠ x.1) {i : Nat} (hi : i ≤ xs.length) (h1 : ∀ t y, t < i → xs[t]? = some y → kl y.1 x.1 = true) (h2 : ∀ y, xs[i]? = some y → kl y.1 x.1 = false) :
    PutOf xs x.1 x.2 ((xs.take i ++ [x]) ++ xs.drop i) := by
  have h2' : ∀ t y, i ≤ t → xs[t]? = some y → kl y.1 x.1 = false := fun t y ht hy => by
    rcases Nat.eq_or_lt_of_le ht with e | e
    · subst e; exact h2 y hy
    · obtain ⟨hl, e1⟩ := List.getElem?_eq_some_iff.1 hy
      have hil : i < xs.length := by omega
      have hlt := List.pairwise_iff_getElem.1 ha i t hil hl e
      rw [e1] at hlt
      exact kl_ntrans (kl_asymm hlt) (h2 _ (List.getElem?_eq_getElem hil))
  rcases split_of ha hi h1 h2' with ⟨u, hu, _⟩ | ⟨_, hs⟩
  · exact absurd rfl (hne (x.1, u) (List.mem_of_getElem? hu))
  · have := hs.put ha x.2
    rw [List.append_assoc]
    exact this

structure WithI (x : Pr) (w wr : World) (s5 : Value) (ys : List Pr) : Prop where
  own : Own wr (w.heap.size + 1) s5 ys
  below : Below (w.heap.size + 1) (w.alloc (.cells #[.string x.1, .int .u64 x.2] 56)) wr
theorem WithI.box {x : Pr} {w wr : World} {s5 : Value} {ys : List Pr} (h : WithI x w wr s5 ys) : wr.cell? ⟨w.heap.size, 0, none⟩ = some (.string x.1) ∧ wr.cell? ⟨w.heap.size, 1, none⟩ = some (.int .u64 x.2) := by
  rw [h.below.cell (p := ⟨w.heap.size, 0, none⟩) (Nat.lt_succ_self _), h.below.cell (p := ⟨w.heap.size, 1, none⟩) (Nat.lt_succ_self _)]
  simp
theorem WithI.all {x : Pr} {w wr : World} {s5 : Value} {ys : List Pr} (h : WithI x w wr s5 ys) : Below w.heap.size w wr :=
  ((Below.refl _ w).alloc (Nat.le_refl _) _).trans (h.below.mono (Nat.le_succ _))
theorem WithI.size {x : Pr} {w wr : World} {s5 : Value} {ys : List Pr} (h : WithI x w wr s5 ys) : w.heap.size + 1 ≤ wr.heap.size := by
  have := h.below.size
  simpa using this

end Go.Proofs.Ytbknbjabkhhlfaa
/-
  The walks of the reference of layer 3: Of, Put, Drop, Find.
-/
set_option linter.unusedVariables false
set_option maxRecDepth 100000
namespace Go.Proofs.Ytbknbjabkhhlfaa
open Go.Shelf Go.RowKit Go.Lib Go.Sort

def OfPost (xs : List Pr) (w : World) (e : Ending) (w' : World) : Prop := ∃ ys, OfOf xs ys ∧ OwnPost ys w e w'

structure OfI (xs : List Pr) (i : Nat) (ys : List Pr) : Prop where
  asc : Asc ys
  look : ∀ k, lk ys k = lk (xs.take i) k
  len : ys.length ≤ i
theorem OfI.step {xs ys zs : List Pr} {i : Nat} {x : Pr} (h : OfI xs i ys) (hx : xs[i]? = some x) (hz : PutOf (wo ys x.1) x.1 x.2 zs) : OfI xs (i + 1) zs := by
  refine ⟨hz.1, fun k => ?_, ?_⟩
  · rw [hz.2.1, wo_lk, h.look, List.take_add_one, hx]
    simp only [Option.toList]
    rw [lk_append, lk_one]
    by_cases e : k = x.1
    · subst e; simp
    · rw [if_neg e, if_neg e, if_neg (Ne.symm e)]; rfl
  · have := hz.le
    have := wo_le ys x.1
    have := h.len
    omega

end Go.Proofs.Ytbknbjabkhhlfaa
/-
  pairs.Of of fewer than 20 pairs: the insertion sort keeps the order of equals; the walk.
-/
set_option linter.unusedVariables false
set_option maxRecDepth 100000
namespace Go.Proofs.Ytbknbjabkhhlfaa
open Go.Shelf Go.RowKit Go.Lib Go.Sort
section
variable {α : Type} [Inhabited α]
/-- Neither is less. -/
def eqv (lt : α → α → Bool) (x y : α) : Bool := !lt x y && !lt y x

/-- d' is d, changed within [a, b) alone, and the elements that equal any one element keep their order. -/
structure Chg (lt : α → α → Bool) (a b : Nat) (d d' : Array α) : Prop where
  size : d'.size = d.size
  out : ∀ i, i < a ∨ b ≤ i → d'[i]! = d[i]!
  filt : ∀ z, d'.toList.filter (eqv lt z) = d.toList.filter (eqv lt z)

/-- .. and is sorted there. -/
structure Merged (lt : α → α → Bool) (a b : Nat) (d d' : Array α) : Prop where
  chg : Chg lt a b d d'
  sorted : SortedIn lt a b d'

variable {lt : α → α → Bool}

theorem Chg.refl (a b : Nat) (d : Array α) : Chg lt a b d d := ⟨rfl, fun _ _ => rfl, fun _ => rfl⟩
theorem Chg.trans {a b : Nat} {d d1 d2 : Array α} (h : Chg lt a b d d1) (k : Chg lt a b d1 d2) : Chg lt a b d d2 :=
  ⟨k.size.trans h.size, fun i hi => (k.out i hi).trans (h.out i hi), fun z => (k.filt z).trans (h.filt z)⟩
theorem Chg.mono {a b a' b' : Nat} {d d' : Array α} (h : Chg lt a b d d') (ha : a' ≤ a) (hb : b ≤ b') : Chg lt a' b' d d' :=
  ⟨h.size, fun i hi => h.out i (by omega), h.filt⟩

theorem get_toList (d : Array α) (i : Nat) (hi : i < d.size) : d.toList[i]? = some d[i]! := by
  rw [Array.getElem?_toList, getElem!_pos d i hi, Array.getElem?_eq_getElem hi]

theorem take_eq_of_out {d d' : Array α} (hs : d'.size = d.size) (a : Nat) (h : ∀ i, i < a → d'[i]! = d[i]!) : d'.toList.take a = d.toList.take a := by
  apply List.ext_getElem?
  intro i
  by_cases hi : i < a
  · rw [List.getElem?_take_of_lt hi, List.getElem?_take_of_lt hi]
    by_cases hd : i < d.size
    · rw [get_toList d i hd, get_toList d' i (by omega), h i hi]
    · rw [List.getElem?_eq_none (by simp; omega), List.getElem?_eq_none (by simp; omega)]
  · rw [List.getElem?_eq_none (by simp; omega), List.getElem?_eq_none (by simp; omega)]

theorem drop_eq_of_out {d d' : Array α} (hs : d'.size = d.size) (b : Nat) (h : ∀ i, b ≤ i → d'[i]! = d[i]!) : d'.toList.drop b = d.toList.drop b := by
  apply List.ext_getElem?
  intro i
  rw [List.getElem?_drop, List.getElem?_drop]
  by_cases hd : b + i < d.size
  · rw [get_toList d _ hd, get_toList d' _ (by omega), h _ (by omega)]
  · rw [List.getElem?_eq_none (by simp; omega), List.getElem?_eq_none (by simp; omega)]

omit [Inhabited α] in
theorem eqv_self (hS : SWO lt) (x : α) : eqv lt x x = true := by simp [eqv, hS.irrefl]

/-- What lies in the part afterwards lay in the part before. -/
theorem Chg.mem (hS : SWO lt) {a b : Nat} {d d' : Array α} (h : Chg lt a b d d') (hb : b ≤ d.size) {t : Nat} (h1 : a ≤ t) (h2 : t < b) : ∃ u, a ≤ u ∧ u < b ∧ d'[t]! = d[u]! := by
  have hp := take_eq_of_out h.size a fun i hi => h.out i (.inl hi)
  have hq := drop_eq_of_out h.size b fun i hi => h.out i (.inr hi)
  have split : ∀ e : Array α, e.toList = e.toList.take a ++ ((e.toList.drop a).take (b - a) ++ e.toList.drop b) := fun e => by
    have : e.toList.drop b = (e.toList.drop a).drop (b - a) := by rw [List.drop_drop]; congr 1; omega
    rw [this, List.take_append_drop, List.take_append_drop]
  have hf := h.filt d'[t]!
  rw [split d', split d, hp, hq] at hf
  simp only [List.filter_append] at hf
  have hm := List.append_cancel_right (List.append_cancel_left hf)
  have hmem : d'[t]! ∈ (d'.toList.drop a).take (b - a) := by
    rw [List.mem_iff_getElem?]
    refine ⟨t - a, ?_⟩
    rw [List.getElem?_take_of_lt (by omega), List.getElem?_drop, show a + (t - a) = t by omega, get_toList d' t (by have := h.size; omega)]
  have hmem2 : d'[t]! ∈ ((d.toList.drop a).take (b - a)).filter (eqv lt d'[t]!) := by
    rw [← hm]; exact List.mem_filter.2 ⟨hmem, eqv_self hS _⟩
  obtain ⟨u, hu⟩ := List.mem_iff_getElem?.1 (List.mem_filter.1 hmem2).1
  have hul : u < b - a := by
    rcases Nat.lt_or_ge u (b - a) with h3 | h3
    · exact h3
    · rw [List.getElem?_eq_none (by simp; omega)] at hu; cases hu
  rw [List.getElem?_take_of_lt hul, List.getElem?_drop, get_toList d _ (by omega)] at hu
  exact ⟨a + u, by omega, by omega, by injection hu with hu; exact hu.symm⟩

/-- d' is d with the blocks [s, m) and [m, e) exchanged. -/
structure Rotd (s m e : Nat) (d d' : Array α) : Prop where
  size : d'.size = d.size
  lo : ∀ t, t < s → d'[t]! = d[t]!
  fst : ∀ t, s ≤ t → t < s + (e - m) → d'[t]! = d[t - s + m]!
  snd : ∀ t, s + (e - m) ≤ t → t < e → d'[t]! = d[t - (e - m)]!
  hi : ∀ t, e ≤ t → d'[t]! = d[t]!

theorem Rotd.refl_left (s e : Nat) (d : Array α) (h : s ≤ e) : Rotd s s e d d :=
  ⟨rfl, fun _ _ => rfl, fun t h1 _ => by rw [show t - s + s = t by omega], fun t h1 h2 => by omega, fun _ _ => rfl⟩
theorem Rotd.refl_right (s e : Nat) (d : Array α) : Rotd s e e d d :=
  ⟨rfl, fun _ _ => rfl, fun t h1 h2 => by omega, fun t h1 h2 => by rw [show t - (e - e) = t by omega], fun _ _ => rfl⟩

theorem Rotd.list {s m e : Nat} {d d' : Array α} (h : Rotd s m e d d') (h1 : s ≤ m) (h2 : m ≤ e) (h3 : e ≤ d.size) :
    d'.toList = d.toList.take s ++ ((d.toList.drop m).take (e - m) ++ ((d.toList.drop s).take (m - s) ++ d.toList.drop e)) := by
  apply List.ext_getElem?
  intro t
  have hsz := h.size
  by_cases ht : t < d.size
  · rw [get_toList d' t (by omega)]
    by_cases c1 : t < s
    · rw [List.getElem?_append_left (by simp; omega), List.getElem?_take_of_lt c1, get_toList d t ht, h.lo t c1]
    · rw [List.getElem?_append_right (by simp; omega), List.length_take_of_le (by simp; omega)]
      by_cases c2 : t < s + (e - m)
      · rw [List.getElem?_append_left (by simp; omega), List.getElem?_take_of_lt (by omega), List.getElem?_drop, get_toList d _ (by omega), h.fst t (by omega) c2]
        congr 2; omega
      · rw [List.getElem?_append_right (by simp; omega), List.length_take_of_le (by simp; omega)]
        by_cases c3 : t < e
        · rw [List.getElem?_append_left (by simp; omega), List.getElem?_take_of_lt (by omega), List.getElem?_drop, get_toList d _ (by omega), h.snd t (by omega) c3]
          congr 2; omega
        · rw [List.getElem?_append_right (by simp; omega), List.length_take_of_le (by simp; omega), List.getElem?_drop, get_toList d _ (by omega), h.hi t (by omega)]
          congr 2; omega
  · rw [List.getElem?_eq_none (by simp; omega), List.getElem?_eq_none (by simp; omega)]

omit [Inhabited α] in
theorem filter_nil_or (hS : SWO lt) (z : α) (A B : List α) (h : ∀ u ∈ A, ∀ v ∈ B, lt v u = true) : A.filter (eqv lt z) = [] ∨ B.filter (eqv lt z) = [] := by
  by_cases hA : A.filter (eqv lt z) = []
  · exact .inl hA
  · right
    obtain ⟨u, hu⟩ := List.exists_mem_of_ne_nil _ hA
    obtain ⟨hu1, hu2⟩ := List.mem_filter.1 hu
    rw [List.filter_eq_nil_iff]
    intro v hv he
    simp only [eqv, Bool.and_eq_true, Bool.not_eq_true'] at hu2 he
    have := hS.ntrans v z u he.2 hu2.1
    rw [h u hu1 v hv] at this
    cases this

theorem Rotd.chg (hS : SWO lt) {s m e : Nat} {d d' : Array α} (h : Rotd s m e d d') (h1 : s ≤ m) (h2 : m ≤ e) (h3 : e ≤ d.size)
    (hlt : ∀ p q, s ≤ p → p < m → m ≤ q → q < e → lt d[q]! d[p]! = true) : Chg lt s e d d' := by
  refine ⟨h.size, fun i hi => ?_, fun z => ?_⟩
  · rcases hi with hi | hi
    · exact h.lo i hi
    · exact h.hi i hi
  · have split : d.toList = d.toList.take s ++ ((d.toList.drop s).take (m - s) ++ ((d.toList.drop m).take (e - m) ++ d.toList.drop e)) := by
      have e1 : d.toList.drop e = (d.toList.drop m).drop (e - m) := by rw [List.drop_drop]; congr 1; omega
      have e2 : d.toList.drop m = (d.toList.drop s).drop (m - s) := by rw [List.drop_drop]; congr 1; omega
      rw [e1, List.take_append_drop, e2, List.take_append_drop, List.take_append_drop]
    rw [h.list h1 h2 h3]
    conv => rhs; rw [split]
    simp only [List.filter_append]
    congr 1
    rw [← List.append_assoc, ← List.append_assoc]
    congr 1
    have hn := filter_nil_or hS z ((d.toList.drop s).take (m - s)) ((d.toList.drop m).take (e - m)) (fun u hu v hv => by
      obtain ⟨i, hi⟩ := List.mem_iff_getElem?.1 hu
      obtain ⟨j, hj⟩ := List.mem_iff_getElem?.1 hv
      have hil : i < m - s := by
        rcases Nat.lt_or_ge i (m - s) with h4 | h4
        · exact h4
        · rw [List.getElem?_eq_none (by simp; omega)] at hi; cases hi
      have hjl : j < e - m := by
        rcases Nat.lt_or_ge j (e - m) with h4 | h4
        · exact h4
        · rw [List.getElem?_eq_none (by simp; omega)] at hj; cases hj
      rw [List.getElem?_take_of_lt hil, List.getElem?_drop, get_toList d _ (by omega)] at hi
      rw [List.getElem?_take_of_lt hjl, List.getElem?_drop, get_toList d _ (by omega)] at hj
      injection hi with hi
      injection hj with hj
      rw [← hi, ← hj]
      exact hlt _ _ (by omega) (by omega) (by omega) (by omega))
    rcases hn with hn | hn <;> rw [hn] <;> simp

/-- One element inserted into the sorted block at its right. -/
theorem merged_left (hS : SWO lt) {a i b : Nat} {d d' : Array α} (h : Rotd a (a + 1) i d d') (hi : a + 1 ≤ i) (hib : i ≤ b) (hb : b ≤ d.size) (hs : SortedIn lt (a + 1) b d)
    (h1 : ∀ t, a + 1 ≤ t → t < i → lt d[t]! d[a]! = true) (h2 : ∀ t, i ≤ t → t < b → lt d[t]! d[a]! = false) : Merged lt a b d d' := by
  refine ⟨(h.chg hS (by omega) hi (by omega) fun p q hp hp' hq hq' => ?_).mono (Nat.le_refl _) hib, fun p q hp hpq hq => ?_⟩
  · obtain rfl : p = a := by omega
    exact h1 q hq hq'
  · have g : ∀ t, a ≤ t → t < b → (t < i - 1 ∧ d'[t]! = d[t + 1]!) ∨ (t = i - 1 ∧ d'[t]! = d[a]!) ∨ (i ≤ t ∧ d'[t]! = d[t]!) := fun t ht ht' => by
      by_cases c1 : t < i - 1
      · exact .inl ⟨c1, by rw [h.fst t ht (by omega), show t - a + (a + 1) = t + 1 by omega]⟩
      · by_cases c2 : t = i - 1
        · exact .inr (.inl ⟨c2, by rw [h.snd t (by omega) (by omega)]; congr 2; omega⟩)
        · exact .inr (.inr ⟨by omega, h.hi t (by omega)⟩)
    rcases g p hp (by omega) with ⟨cp, ep⟩ | ⟨cp, ep⟩ | ⟨cp, ep⟩ <;> rcases g q (by omega) hq with ⟨cq, eq⟩ | ⟨cq, eq⟩ | ⟨cq, eq⟩ <;> rw [ep, eq]
    · exact hs _ _ (by omega) (by omega) (by omega)
    · exact hS.asymmA (h1 _ (by omega) (by omega))
    · exact hs _ _ (by omega) (by omega) (by omega)
    · omega
    · omega
    · exact h2 _ cq hq
    · omega
    · omega
    · exact hs _ _ (by omega) (by omega) (by omega)

/-- One element inserted into the sorted block at its left. -/
theorem merged_right (hS : SWO lt) {a i m : Nat} {d d' : Array α} (h : Rotd i m (m + 1) d d') (hi : a ≤ i) (him : i ≤ m) (hb : m + 1 ≤ d.size) (hs : SortedIn lt a m d)
    (h1 : ∀ t, a ≤ t → t < i → lt d[m]! d[t]! = false) (h2 : ∀ t, i ≤ t → t < m → lt d[m]! d[t]! = true) : Merged lt a (m + 1) d d' := by
  refine ⟨(h.chg hS him (by omega) (by omega) fun p q hp hp' hq hq' => ?_).mono hi (Nat.le_refl _), fun p q hp hpq hq => ?_⟩
  · obtain rfl : q = m := by omega
    exact h2 p hp hp'
  · have g : ∀ t, a ≤ t → t < m + 1 → (t < i ∧ d'[t]! = d[t]!) ∨ (t = i ∧ d'[t]! = d[m]!) ∨ (i + 1 ≤ t ∧ d'[t]! = d[t - 1]!) := fun t ht ht' => by
      by_cases c1 : t < i
      · exact .inl ⟨c1, h.lo t c1⟩
      · by_cases c2 : t = i
        · exact .inr (.inl ⟨c2, by rw [h.fst t (by omega) (by omega)]; congr 2; omega⟩)
        · exact .inr (.inr ⟨by omega, by rw [h.snd t (by omega) (by omega)]; congr 2; omega⟩)
    rcases g p hp (by omega) with ⟨cp, ep⟩ | ⟨cp, ep⟩ | ⟨cp, ep⟩ <;> rcases g q (by omega) hq with ⟨cq, eq⟩ | ⟨cq, eq⟩ | ⟨cq, eq⟩ <;> rw [ep, eq]
    · exact hs _ _ (by omega) (by omega) (by omega)
    · exact h1 _ hp cp
    · exact hs _ _ (by omega) (by omega) (by omega)
    · omega
    · omega
    · exact hS.asymmA (h2 _ (by omega) (by omega))
    · omega
    · omega
    · exact hs _ _ (by omega) (by omega) (by omega)

/-- What symMerge's middle step gives: the two halves, each of two sorted blocks, and nothing of the left one is greater than anything of the right one. -/
structure Halves (lt : α → α → Bool) (a s mid e b : Nat) (d d1 : Array α) : Prop where
  chg : Chg lt a b d d1
  s1 : SortedIn lt a s d1
  s2 : SortedIn lt s mid d1
  s3 : SortedIn lt mid e d1
  s4 : SortedIn lt e b d1
  cross : ∀ i j, a ≤ i → i < mid → mid ≤ j → j < b → lt d1[j]! d1[i]! = false

theorem sorted_le (hS : SWO lt) {a b : Nat} {d : Array α} (h : SortedIn lt a b d) {i j : Nat} (h1 : a ≤ i) (h2 : i ≤ j) (h3 : j < b) : lt d[j]! d[i]! = false := by
  rcases Nat.lt_or_ge i j with h4 | h4
  · exact h i j h1 h4 h3
  · obtain rfl : i = j := by omega
    exact hS.irrefl _

theorem halves (hS : SWO lt) {a s m mid e b : Nat} {d d1 : Array α} (h : Rotd s m e d d1) (has : a ≤ s) (hsm : s ≤ m) (hme : m ≤ e) (heb : e ≤ b) (hb : b ≤ d.size) (hem : e + s = mid + m) (hsmid : s ≤ mid)
    (hl : SortedIn lt a m d) (hr : SortedIn lt m b d)
    (hB : s < m → m < e → lt d[e - 1]! d[s]! = true) (hC : a < s → e < b → lt d[e]! d[s - 1]! = false) : Halves lt a s mid e b d d1 := by
  have hlt : ∀ p q, s ≤ p → p < m → m ≤ q → q < e → lt d[q]! d[p]! = true := fun p q hp hp' hq hq' => by
    have h1 := hB (by omega) (by omega)
    have h2 := sorted_le hS hl has hp hp'
    have h3 := sorted_le hS hr hq (show q ≤ e - 1 by omega) (by omega)
    cases h4 : lt d[q]! d[p]! with
    | true => rfl
    | false =>
      have h5 := hS.ntrans _ _ _ (hS.ntrans _ _ _ h3 h4) h2
      rw [h1] at h5
      cases h5
  have hge : ∀ p q, a ≤ p → p < s → e ≤ q → q < b → lt d[q]! d[p]! = false := fun p q hp hp' hq hq' => by
    have h1 := hC (by omega) (by omega)
    have h2 := sorted_le hS hl hp (show p ≤ s - 1 by omega) (by omega)
    have h3 := sorted_le hS hr (show m ≤ e by omega) hq hq'
    exact hS.ntrans _ _ _ (hS.ntrans _ _ _ h3 h1) h2
  refine ⟨(h.chg hS hsm hme (by omega) hlt).mono has heb, fun p q hp hpq hq => ?_, fun p q hp hpq hq => ?_, fun p q hp hpq hq => ?_, fun p q hp hpq hq => ?_, fun p q hp hpq hq hqb => ?_⟩
  · rw [h.lo p (by omega), h.lo q (by omega)]; exact hl _ _ hp hpq (by omega)
  · rw [h.fst p hp (by omega), h.fst q (by omega) (by omega)]; exact hr _ _ (by omega) (by omega) (by omega)
  · rw [h.snd p (by omega) (by omega), h.snd q (by omega) hq]; exact hl _ _ (by omega) (by omega) (by omega)
  · rw [h.hi p hp, h.hi q (by omega)]; exact hr _ _ (by omega) hpq hq
  · by_cases c1 : p < s
    · rw [h.lo p c1]
      by_cases c2 : q < e
      · rw [h.snd q (by omega) c2]; exact sorted_le hS hl hp (by omega) (by omega)
      · rw [h.hi q (by omega)]; exact hge _ _ hp c1 (by omega) hqb
    · rw [h.fst p (by omega) (by omega)]
      by_cases c2 : q < e
      · rw [h.snd q (by omega) c2]; exact hS.asymmA (hlt _ _ (by omega) (by omega) (by omega) (by omega))
      · rw [h.hi q (by omega)]; exact sorted_le hS hr (by omega) (by omega) hqb

/-- A half of which one block is empty is sorted as it is. -/
theorem Halves.left_trivial {a s mid e b : Nat} {d d1 : Array α} (h : Halves lt a s mid e b d d1) (has : a ≤ s) (hsm : s ≤ mid) (hn : ¬ (a < s ∧ s < mid)) : Merged lt a mid d1 d1 := by
  refine ⟨Chg.refl _ _ _, ?_⟩
  rcases Nat.eq_or_lt_of_le has with h1 | h1
  · rw [h1]; exact h.s2
  · rw [show mid = s by omega]; exact h.s1
theorem Halves.right_trivial {a s mid e b : Nat} {d d1 : Array α} (h : Halves lt a s mid e b d d1) {d2 : Array α} (hd : Merged lt a mid d1 d2) (hme : mid ≤ e) (heb : e ≤ b) (hn : ¬ (mid < e ∧ e < b)) : Merged lt mid b d2 d2 := by
  refine ⟨Chg.refl _ _ _, fun p q hp hpq hq => ?_⟩
  rw [hd.chg.out p (by omega), hd.chg.out q (by omega)]
  rcases Nat.eq_or_lt_of_le hme with h1 | h1
  · exact h.s4 p q (by omega) hpq hq
  · exact h.s3 p q hp hpq (by omega)
theorem Halves.s3' {a s mid e b : Nat} {d d1 d2 : Array α} (h : Halves lt a s mid e b d d1) (hd : Merged lt a mid d1 d2) : SortedIn lt mid e d2 := fun p q hp hpq hq => by
  rw [hd.chg.out p (by omega), hd.chg.out q (by omega)]; exact h.s3 p q hp hpq hq
theorem Halves.s4' {a s mid e b : Nat} {d d1 d2 : Array α} (h : Halves lt a s mid e b d d1) (hd : Merged lt a mid d1 d2) (hme : mid ≤ e) : SortedIn lt e b d2 := fun p q hp hpq hq => by
  rw [hd.chg.out p (by omega), hd.chg.out q (by omega)]; exact h.s4 p q hp hpq hq

theorem Halves.merged (hS : SWO lt) {a s mid e b : Nat} {d d1 d2 d3 : Array α} (h : Halves lt a s mid e b d d1) (ham : a ≤ mid) (hmb : mid ≤ b) (hb : b ≤ d.size) (h2 : Merged lt a mid d1 d2) (h3 : Merged lt mid b d2 d3) : Merged lt a b d d3 := by
  refine ⟨(h.chg.trans (h2.chg.mono (Nat.le_refl _) hmb)).trans (h3.chg.mono ham (Nat.le_refl _)), fun p q hp hpq hq => ?_⟩
  have z1 := h.chg.size
  have z2 := h2.chg.size
  by_cases c1 : q < mid
  · rw [h3.chg.out p (.inl (by omega)), h3.chg.out q (.inl c1)]; exact h2.sorted p q hp hpq c1
  · by_cases c2 : p < mid
    · obtain ⟨u, hu1, hu2, hu⟩ := h2.chg.mem hS (by omega) hp c2
      obtain ⟨v, hv1, hv2, hv⟩ := h3.chg.mem hS (by omega) (show mid ≤ q by omega) hq
      rw [h3.chg.out p (.inl c2), hu, hv, h2.chg.out v (.inr hv1)]
      exact h.cross u v hu1 hu2 hv1 hv2
    · exact h3.sorted p q (by omega) hpq hq

/-! ### The insertion sort keeps the order of equals -/
theorem chg_swp (hS : SWO lt) (d : Array α) (j : Nat) (hj : j + 1 < d.size) (hl : lt d[j + 1]! d[j]! = true) (a b : Nat) (ha : a ≤ j) (hb : j + 2 ≤ b) : Chg lt a b d (swp d (j + 1) j) := by
  have g := swp_get d hj (show j < d.size by omega)
  have hr : Rotd j (j + 1) (j + 2) d (swp d (j + 1) j) := by
    refine ⟨swp_size _ _ _, fun t ht => ?_, fun t h1 h2 => ?_, fun t h1 h2 => ?_, fun t ht => ?_⟩
    · rw [g, if_neg (by omega), if_neg (by omega)]
    · obtain rfl : t = j := by omega
      rw [g, if_pos rfl, show t - t + (t + 1) = t + 1 by omega]
    · obtain rfl : t = j + 1 := by omega
      rw [g, if_neg (by omega), if_pos rfl, show j + 1 - (j + 2 - (j + 1)) = j by omega]
    · rw [g, if_neg (by omega), if_neg (by omega)]
  refine (hr.chg hS (by omega) (by omega) (by omega) fun p q hp hp' hq hq' => ?_).mono ha hb
  obtain rfl : p = j := by omega
  obtain rfl : q = p + 1 := by omega
  exact hl

theorem chg_inner (hS : SWO lt) (a b : Nat) : ∀ (j : Nat) (d : Array α), j < b → b ≤ d.size → Chg lt a b d (insInner lt a j d)
  | 0, d, _, _ => Chg.refl _ _ _
  | j + 1, d, hj, hb => by
    unfold insInner
    split
    · rename_i hc
      simp only [gt_iff_lt, Bool.and_eq_true, decide_eq_true_eq] at hc
      exact (chg_swp hS d j (by omega) hc.2 a b (by omega) (by omega)).trans (chg_inner hS a b j _ (by omega) (by rw [swp_size]; exact hb))
    · exact Chg.refl _ _ _

theorem chg_outer (hS : SWO lt) (a b : Nat) : ∀ (n i : Nat) (d : Array α), b - i = n → b ≤ d.size → Chg lt a b d (insOuter lt a b i d)
  | 0, i, d, hn, _ => by rw [insOuter, if_neg (by omega)]; exact Chg.refl _ _ _
  | n + 1, i, d, hn, hb => by
    rw [insOuter, if_pos (by omega)]
    have h := chg_inner hS a b i d (by omega) hb
    exact h.trans (chg_outer hS a b n (i + 1) _ (by omega) (by rw [h.size]; exact hb))

theorem merged_insertion (hS : SWO lt) (a b : Nat) (d : Array α) (hab : a ≤ b) (hb : b ≤ d.size) : Merged lt a b d (insertionSort lt d a b) :=
  ⟨chg_outer hS a b _ _ d rfl hb, (insertionSort_holds hS d a b hab hb).2⟩

end
theorem cmpLays (blk off size : Nat) (w : World) : CmpLays Try.prog 67 #[] enc 2 cfK blk off size w :=
  fun _ _ _ _ x y => byKey_any x y _
theorem enters32 : ∀ args w, (callFunc 67 args).run Try.prog w = .ok (.enter 67 args) w := enters_of Try.func67 (by kernel_rfl) rfl
/-- The numbering of the library's insertion sort at this program. -/
def insRen : Go.Shelf.Ren := ⟨fun | 20 => 88 | n => n, fun | 22 => 33 | 24 => 56 | 25 => 114 | n => n, fun n => n⟩
theorem insLay : SlLaysF0.n20 Try.prog insRen := {
  mixed := mixedOrders
  f20 := ⟨Try.f88.name, by decide, Try.func88.trans (congrArg some (by kernel_rfl))⟩
  t0 := Try.underlying0
  a0 := Try.isAgg0
  z0 := Try.sizeOf0
  v0 := Try.zeroValue0
  t3 := Try.underlying3
  a3 := Try.isAgg3
  z3 := Try.sizeOf3
  v3 := Try.zeroValue3
  t4 := Try.underlying4
  a4 := Try.isAgg4
  z4 := Try.sizeOf4
  v4 := Try.zeroValue4
  t22 := Try.underlying33
  a22 := Try.isAgg33
  z22 := Try.sizeOf33
  v22 := Try.zeroValue33
  t25 := Try.underlying114
  a25 := Try.isAgg114
  z25 := Try.sizeOf114
  v25 := Try.zeroValue114 }
theorem insertion_any (blk off cap a b : Nat) (za zb : Int) (ha : za = a) (hzb : zb = b) (sz : Nat) (d0 d : Array Pr) (hz : sz = d.size) (w0 w : World) (R : RowK enc 2 w0 blk off d0) (hs : d.size = d0.size) (S : SWK enc 2 w0 blk off d w)
    (hS : SWO lt') (hab : a ≤ b) (hb : b ≤ d.size) (hsz : d0.size < 4611686018427387904) :
    Calls Try.prog 88 #[.slice (some ⟨blk, off, none⟩) sz cap, .int .i64 za, .int .i64 zb, .func (.func 67) #[] #[]] w fun e w' =>
      e = .returned (.tuple #[]) ∧ ∃ d', Merged lt' a b d d' ∧ SWK enc 2 w0 blk off d' w' := by
  subst ha hzb hz
  have h := AnyQ.insertionSortCmpFunc insLay 2 Try.isAgg56 Try.sizeOf56 enc (fun _ => rfl) enc_one cfK 67 #[] blk off cap a b d w enters32 (cmpLays blk off d.size w) (S.holds R.hblk R.hH hs) (S.lt R.hblk) hab hb (by omega)
  refine h.mono ?_
  rintro e w' ⟨rfl, n, os, rfl⟩
  have hm := merged_insertion hS a b d hab hb
  exact ⟨rfl, _, hm, S.on R.hblk n _ os hm.chg.size⟩
set_option maxHeartbeats 1000000 in
set_option maxRecDepth 100000 in
/-- Fewer than 20 elements: one block. -/
theorem stable_few (blk off cap : Nat) (d : Array Pr) (w : World) (R : RowK enc 2 w blk off d) (hS : SWO lt') (hn : d.size < 20) :
    Calls Try.prog 83 #[.slice (some ⟨blk, off, none⟩) d.size cap, .int .i64 d.size, .func (.func 67) #[] #[]] w fun e w' =>
      e = .returned (.tuple #[]) ∧ ∃ d', Merged lt' 0 d.size d d' ∧ SWK enc 2 w blk off d' w' := by
  have S0 := SWK.start R.hH
  have c := insertion_any blk off cap 0 d.size 0 d.size rfl rfl d.size d d rfl w w R rfl S0 hS (Nat.zero_le _) (Nat.le_refl _) (by omega)
  have h1 : ¬ ((20 : Int) ≤ (d.size : Int)) := by omega
  have h2 : ¬ ((20 : Int) < (d.size : Int)) := by omega
  go_enter Try.func83, Try.ntmps83
  go_wp2
  go_loopg [7, 8] 1 (fun _ s7 s8 wr => s7 = .int .i64 0 ∧ s8 = .int .i64 20 ∧ wr = w)
  case atStart => exact ⟨rfl, rfl, rfl⟩
  case round =>
    obtain ⟨rfl, rfl, rfl⟩ := hrel
    go_wp2_with (go_at_call 88; refine c.mono ?_; rintro e w' ⟨rfl, d', hm, S1⟩)
    go_loopg [6, 7, 8, 9] 1 (fun _ s6 s7 s8 s9 wr => s6 = .int .i64 20 ∧ wr = w')
    case atStart => exact ⟨rfl, rfl⟩
    case round =>
      obtain ⟨rfl, rfl⟩ := hrel
      go_wp2
      go_end0
      exact ⟨rfl, d', hm, S1⟩
theorem swo_lt : SWO lt' := by
  have e : ∀ x y : Pr, lt' x y = ltStr x.1.data.toList y.1.data.toList := fun x y => by
    show decide (Lib.compareBytes _ _ < 0) = _
    have h : ∀ a b : List UInt8, decide (Lib.compareBytes a b < 0) = ltStr a b := by
      intro a
      induction a with
      | nil => intro b; cases b <;> simp [Lib.compareBytes, ltStr]
      | cons u a ih =>
        intro b
        cases b with
        | nil => simp [Lib.compareBytes, ltStr]
        | cons v b =>
          rw [Lib.compareBytes]
          by_cases h1 : u < v
          · simp [h1, ltStr, List.cons_lt_cons_iff]
          · by_cases h2 : v < u
            · have h3 : ¬ u = v := by rintro rfl; exact h1 h2
              simp [h1, h2, h3, ltStr, List.cons_lt_cons_iff]
            · have h3 : u = v := by
                rw [UInt8.lt_iff_toNat_lt] at h1 h2
                exact UInt8.toNat_inj.1 (by omega)
              subst h3
              rw [if_neg h1, if_neg h1, ih b]
              simp [ltStr]
    exact h _ _
  refine ⟨fun x => ?_, fun x y z h1 h2 => ?_, fun x y z h1 h2 => ?_⟩
  · rw [e]; exact swo_ltStr.irrefl _
  · rw [e] at *; exact swo_ltStr.trans _ _ _ h1 h2
  · rw [e] at *; exact swo_ltStr.ntrans _ _ _ h1 h2
def keepB (d : Array Pr) (i : Nat) : Bool := decide (i + 1 = d.size ∨ d[i + 1]!.1 ≠ d[i]!.1)
def kp (d : Array Pr) : Nat → List Pr
  | 0 => []
  | i + 1 => if keepB d i then kp d i ++ [d[i]!] else kp d i
theorem kp_le (d : Array Pr) : ∀ i, (kp d i).length ≤ i
  | 0 => Nat.le_refl _
  | i + 1 => by
    have := kp_le d i
    unfold kp
    split
    · simp; omega
    · omega
structure KpInv (d : Array Pr) (i : Nat) : Prop where
  asc : Asc (kp d i)
  lt : i < d.size → ∀ p ∈ kp d i, kl p.1 d[i]!.1 = true
  look : ∀ k, (i < d.size → k ≠ d[i]!.1) → lk (kp d i) k = lk (d.toList.take i) k
theorem take_succ_arr (d : Array Pr) (i : Nat) (hi : i < d.size) : d.toList.take (i + 1) = d.toList.take i ++ [d[i]!] := by
  rw [List.take_add_one, get_toList d i hi]
  rfl
theorem kpInv {d : Array Pr} (hs : SortedIn (ltOf cfK) 0 d.size d) : ∀ i, i ≤ d.size → KpInv d i
  | 0, _ => ⟨List.Pairwise.nil, fun _ p hp => (by cases hp), fun k _ => by simp [kp]⟩
  | i + 1, hi => by
    have ih := kpInv hs i (by omega)
    have hil : i < d.size := by omega
    have hlt := ih.lt hil
    have hnone : lk (kp d i) d[i]!.1 = none := lk_none fun p hp => kl_ne (hlt p hp)
    by_cases hk : keepB d i = true
    · have hkp : kp d (i + 1) = kp d i ++ [d[i]!] := by rw [kp, if_pos hk]
      have hk' : i + 1 = d.size ∨ d[i + 1]!.1 ≠ d[i]!.1 := of_decide_eq_true hk
      refine ⟨?_, fun hl p hp => ?_, fun k hkk => ?_⟩
      · rw [hkp]
        exact List.pairwise_append.2 ⟨ih.asc, List.pairwise_singleton _ _, fun a ha b hb => by rw [List.mem_singleton] at hb; subst hb; exact hlt a ha⟩
      · have hne : d[i + 1]!.1 ≠ d[i]!.1 := by rcases hk' with h | h; · omega
                                               · exact h
        have h1 := hs i (i + 1) (Nat.zero_le _) (by omega) hl
        rw [ltOf_cfK] at h1
        have h2 := kl_of_ne h1 hne
        rw [hkp] at hp
        rcases List.mem_append.1 hp with e | e
        · exact kl_trans (hlt p e) h2
        · rw [List.mem_singleton] at e; subst e; exact h2
      · rw [hkp, take_succ_arr d i hil, lk_append, lk_append, lk_one]
        by_cases e : d[i]!.1 = k
        · rw [if_pos e]; rfl
        · rw [if_neg e, ih.look k fun _ => Ne.symm e]
    · have hkp : kp d (i + 1) = kp d i := by rw [kp, if_neg hk]
      have hk' : ¬ (i + 1 = d.size ∨ d[i + 1]!.1 ≠ d[i]!.1) := fun h => hk (decide_eq_true h)
      have h1 : i + 1 < d.size := by
        rcases Nat.lt_or_ge (i + 1) d.size with h | h
        · exact h
        · exact absurd (.inl (by omega)) hk'
      have he : d[i + 1]!.1 = d[i]!.1 := Classical.not_not.1 fun h => hk' (.inr h)
      refine ⟨by rw [hkp]; exact ih.asc, fun _ p hp => ?_, fun k hkk => ?_⟩
      · rw [hkp] at hp; rw [he]; exact hlt p hp
      · have hne : k ≠ d[i]!.1 := by rw [← he]; exact hkk h1
        rw [hkp, take_succ_arr d i hil, lk_append, lk_one, if_neg (Ne.symm hne), ih.look k fun _ => hne]
        rfl
/-- A stable sort keeps the last value of each key. -/
theorem lk_stable {d d' : Array Pr} (h : Chg (ltOf cfK) 0 d.size d d') (k : ByteArray) : lk d'.toList k = lk d.toList k := by
  have e : ∀ xs : List Pr, lk (xs.filter (eqv (ltOf cfK) (k, 0))) k = lk xs k := fun xs => lk_filter _ _ _ fun x _ hx => by
    simp [eqv, ltOf_cfK, hx, kl_irrefl]
  rw [← e d'.toList, ← e d.toList, h.filt]
theorem of_sorted {d d' : Array Pr} (h : Merged (ltOf cfK) 0 d.size d d') : OfOf d.toList (kp d' d'.size) := by
  have hz := h.chg.size
  have hi := kpInv (d := d') (by rw [hz]; exact h.sorted) d'.size (Nat.le_refl _)
  refine ⟨hi.asc, fun k => ?_, ?_⟩
  · rw [hi.look k (fun h => by omega), List.take_of_length_le (by simp), lk_stable h.chg k]
  · have := kp_le d' d'.size
    have h2 : d.toList.length = d.size := by simp
    omega
theorem flatK_flat (d : Array Pr) : flatK enc 2 d = (flat d.toList).toArray := by
  refine ext_get! (by simp [flat_length]) fun t ht => ?_
  have ht' : t < d.size * 2 := by simpa using ht
  rw [get_flatK _ _ _ _ ht']
  have hx := get_toList d (t / 2) (by omega)
  rcases Nat.mod_two_eq_zero_or_one t with h | h
  · have e := flat_get0 d.toList (t / 2) _ hx
    rw [show t / 2 * 2 = t by omega] at e
    rw [h]
    simp [getElem!_def, e, enc]
  · have e := flat_get1 d.toList (t / 2) _ hx
    rw [show t / 2 * 2 + 1 = t by omega] at e
    rw [h]
    simp [getElem!_def, e, enc]
theorem putCells_all (F cur : Array Value) (h : cur.size = F.size) : putCells id 0 F cur = F := by
  apply Array.ext
  · simp [putCells, h]
  · intro i h1 h2
    simp [putCells, h2]
theorem blk_sorted {w0 W : World} {g : Nat} {cur : Array Value} {d : Array Pr} (hg : w0.heap[g]? = some (.cells cur 56 (0, 0))) (hc : cur.size = d.size * 2) (S : SWK enc 2 w0 g 0 d W) :
    W.heap[g]? = some (.cells (flat d.toList).toArray 56 (0, 0)) := by
  obtain ⟨n, os, rfl⟩ := S
  have hlt : g < w0.heap.size := (Array.getElem?_eq_some_iff.1 hg).1
  unfold sortWorldK
  rw [heap_grow_old _ _ (by rw [size_putRowK]; exact hlt)]
  show (w0.heap.modify g (onCells (putCells id 0 (flatK enc 2 d))))[g]? = _
  rw [Array.getElem?_modify, if_pos rfl, hg]
  simp only [Option.map_some, onCells]
  rw [putCells_all _ _ (by rw [size_flatK]; exact hc), flatK_flat]
theorem below_sorted {w0 W : World} {g B : Nat} {d : Array Pr} (hB : B ≤ g) (hg : g < w0.heap.size) (S : SWK enc 2 w0 g 0 d W) : Below B w0 W := by
  have hle := S.le
  obtain ⟨n, os, rfl⟩ := S
  refine ⟨rfl, rfl, rfl, hle, fun k hk => ?_⟩
  unfold sortWorldK
  rw [heap_grow_old _ _ (by rw [size_putRowK]; show k < w0.heap.size; omega)]
  show (w0.heap.modify g _)[k]? = _
  rw [Array.getElem?_modify, if_neg (by omega)]
theorem holds_flat {w : World} {g : Nat} {xs : List Pr} (hg : w.heap[g]? = some (.cells (flat xs).toArray 56 (0, 0))) : HoldsK enc 2 w g 0 xs.toArray := by
  intro j hj
  have e : flatK enc 2 xs.toArray = (flat xs).toArray := flatK_flat xs.toArray
  rw [e] at hj ⊢
  have hc := cell_of_row w g (0 + j) _ 56 (0, 0) hg
  refine ⟨?_, by simp [World.frozen?, hg]⟩
  rw [hc, Nat.zero_add]
  simp only [id]
  rw [getElem!_pos _ j hj, Array.getElem?_eq_getElem hj]
theorem row_of_flat {w : World} {g : Nat} {xs : List Pr} (hg : w.heap[g]? = some (.cells (flat xs).toArray 56 (0, 0))) : RowK enc 2 w g 0 xs.toArray :=
  ⟨fun _ => rfl, enc_one, holds_flat hg, (Array.getElem?_eq_some_iff.1 hg).1⟩

set_option maxHeartbeats 1000000 in
theorem sortStable_any (blk off cap : Nat) (d : Array Pr) (w : World) (R : RowK enc 2 w blk off d) (hn : d.size < 20) :
    Calls Try.prog 66 #[.slice (some ⟨blk, off, none⟩) d.size cap, .func (.func 67) #[] #[]] w fun e w' =>
      e = .returned (.tuple #[]) ∧ ∃ d', Merged lt' 0 d.size d d' ∧ SWK enc 2 w blk off d' w' := by
  have c := Lib.hid (stable_few blk off cap d w R swo_lt hn)
  clear R
  go_enter Try.func66, Try.ntmps66
  go_wp2_with (go_at_call 83; refine c.out.mono ?_; rintro e w' ⟨rfl, d', h1, h2⟩)
  go_end0
  exact ⟨rfl, d', h1, h2⟩
/-- One element appended within a row that is known whole. -/
theorem wpList_append_row {w : World} {ops : Array Oper} {rest : List Oper} {o : Oper} {a : Act} {Q : Exit → Act → World → Prop} (hgd : o.guard = none) (s x : Operand)
    (ho : o.op = .call { callee := .builtin .append, args := #[s, x], argTypes := #[33, 33] }) (g k cap : Nat) (cur : List Value) (hs : a.eval s = .slice (some ⟨g, 0, none⟩) k cap) (hg : Hid (w.heap[g]? = some (.cells cur.toArray 56 (0, 0))))
    (ad : Addr) (c : Nat) (news : List Value) (hx : a.eval x = .slice (some ad) 1 c) (hl : news.length = 2) (hnews : ∀ j u, news[j]? = some u → w.cell? (ad.add j) = some u) (h1 : ∀ u ∈ news, u.oneCell' = true)
    (hroom : k + 1 ≤ cap) (hfit : k * 2 + 2 ≤ cur.length) (B : Nat) (w0 : World) (hb : Below B w0 w) (hB : B ≤ g)
    (h : ∀ w', Hid (w'.heap[g]? = some (.cells (splice cur (k * 2) news).toArray 56 (0, 0))) → Below B w0 w' → wpList Try.prog ops Q rest (a.put o.dst (.slice (some ⟨g, 0, none⟩) (k + 1) cap)) w') :
    wpList Try.prog ops Q (o :: rest) a w := by
  obtain ⟨i0, hi0, hz0, hz1, hz2⟩ := info_parts pairInfo
  refine wpList_plain hgd fun K hK => ?_
  have hr := run_append_room (P := Try.prog) w 33 o.type 56 i0 Try.underlying33 hi0 g k cap cur.toArray hg.out ad 1 c news (by rw [hl, hz1]) hnews h1 hroom (by rw [hz1, hl]; simpa using hfit)
  unfold Oper.wp execOp
  simp only [ho, resolve, invoke, builtin, Sem.run_bind, Sem.run_pure, Result.andThen_ok, List.map_toArray, List.map_cons, List.map_nil, hs, hx, hr]
  refine hK _ _ (h _ (show _ = _ from ?_) (below_setRow hb hB _))
  rw [hz1]
  simpa [splice] using setRow_heap w g _ _ 56 _ hg.out


theorem splice_flat (a r : List Pr) (x : Pr) (r0 : Pr) : splice (flat (a ++ r0 :: r)) (a.length * 2) (enc x) = flat ((a ++ [x]) ++ r) := by
  unfold splice
  rw [flat_take, show a.length * 2 + (enc x).length = (a.length + 1) * 2 by simp [enc]; omega, flat_drop]
  have e1 : (a ++ r0 :: r).take a.length = a := by simp
  have e2 : (a ++ r0 :: r).drop (a.length + 1) = r := by
    rw [List.drop_append]
    simp
  rw [e1, e2, flat_append, flat_append, List.append_assoc]
  rfl

theorem splice_whole {Z X : List Value} (h : Z.length = X.length) : splice Z 0 X = X := by
  unfold splice
  simp [List.drop_of_length_le (Nat.le_of_eq h)]

/-- What the loop knows of its row: the kept ones stand ahead, what is not yet read is as it was. -/
structure Kept (g : Nat) (d : Array Pr) (i : Nat) (w0 w : World) : Prop where
  ex : ∃ rest : List Pr, (kp d i).length + rest.length = d.size ∧ (∀ t, i ≤ t → t < d.size → (kp d i ++ rest)[t]? = some d[t]!) ∧ w.heap[g]? = some (.cells (flat (kp d i ++ rest)).toArray 56 (0, 0))
  below : Below g w0 w

theorem Kept.cells {g : Nat} {d : Array Pr} {i : Nat} {w0 w : World} (h : Kept g d i w0 w) {t : Nat} (h1 : i ≤ t) (h2 : t < d.size) :
    w.cell? ⟨g, t * 2, none⟩ = some (.string d[t]!.1) ∧ w.cell? ⟨g, t * 2 + 1, none⟩ = some (.int .u64 d[t]!.2) := by
  obtain ⟨rest, hl, ht, hg⟩ := h.ex
  have hx := ht t h1 h2
  exact ⟨by rw [cell_of_row w g _ _ 56 (0, 0) hg]; simpa using flat_get0 _ t _ hx, by rw [cell_of_row w g _ _ 56 (0, 0) hg]; simpa using flat_get1 _ t _ hx⟩
theorem Kept.lt {g : Nat} {d : Array Pr} {i : Nat} {w0 w : World} (h : Kept g d i w0 w) : g < w.heap.size := by
  obtain ⟨rest, hl, ht, hg⟩ := h.ex
  exact (Array.getElem?_eq_some_iff.1 hg).1
theorem Kept.up {g : Nat} {d : Array Pr} {i : Nat} {w0 w w' : World} (h : Kept g d i w0 w) {B : Nat} (hb : Below B w w') (hB : g < B) : Kept g d i w0 w' := by
  obtain ⟨rest, hl, ht, hg⟩ := h.ex
  exact ⟨⟨rest, hl, ht, (hb.block g hB).trans hg⟩, h.below.trans (hb.mono (by omega))⟩
theorem Kept.skip {g : Nat} {d : Array Pr} {i : Nat} {w0 w : World} (h : Kept g d i w0 w) (hk : keepB d i = false) : Kept g d (i + 1) w0 w := by
  obtain ⟨rest, hl, ht, hg⟩ := h.ex
  have e : kp d (i + 1) = kp d i := by rw [kp, hk]; rfl
  exact ⟨⟨rest, by rw [e]; exact hl, fun t h1 h2 => by rw [e]; exact ht t (by omega) h2, by rw [e]; exact hg⟩, h.below⟩
theorem kp_succ_length {d : Array Pr} {i : Nat} (hk : keepB d i = true) : (kp d (i + 1)).length = (kp d i).length + 1 := by rw [kp, hk]; simp
/-- The row behind an append. -/
theorem Kept.push {g : Nat} {d : Array Pr} {i : Nat} {w0 w w' : World} {cur : List Value} (h : Kept g d i w0 w) (hi : i < d.size) (hk : keepB d i = true) (hc : w.heap[g]? = some (.cells cur.toArray 56 (0, 0)))
    (hG : w'.heap[g]? = some (.cells (splice cur ((kp d i).length * 2) (enc d[i]!)).toArray 56 (0, 0))) (hb : Below g w0 w') : Kept g d (i + 1) w0 w' := by
  obtain ⟨rest, hl, ht, hg⟩ := h.ex
  have e : kp d (i + 1) = kp d i ++ [d[i]!] := by rw [kp, hk]; rfl
  have hle := kp_le d i
  obtain ⟨r0, rest', rfl⟩ : ∃ r0 rest', rest = r0 :: rest' := by
    cases rest with
    | nil => simp at hl; omega
    | cons r0 r => exact ⟨r0, r, rfl⟩
  have ec : cur = flat (kp d i ++ r0 :: rest') := by
    rw [hg] at hc
    injection hc with hc
    injection hc with hc
    exact (List.toArray_inj hc).symm
  rw [ec, splice_flat] at hG
  refine ⟨⟨rest', by rw [e]; simp at hl ⊢; omega, fun t h1 h2 => ?_, by rw [e]; exact hG⟩, hb⟩
  rw [e]
  have := ht t (by omega) h2
  rw [List.getElem?_append_right (by omega)] at this
  rw [List.getElem?_append_right (by simp; omega)]
  obtain ⟨q, hq⟩ : ∃ q, t - (kp d i).length = q + 1 := ⟨t - (kp d i).length - 1, by omega⟩
  rw [hq, List.getElem?_cons_succ] at this
  rw [List.length_append, List.length_singleton, show t - ((kp d i).length + 1) = q by omega]
  exact this

theorem heap_alloc_old {w : World} {g : Nat} {o : Option Obj} (h : Hid (w.heap[g]? = o)) (hg : g < w.heap.size) (x : Obj) : Hid ((w.alloc x).heap[g]? = o) := by
  show _ = _
  rw [← h.out]
  exact Below.heap_alloc w x g hg
set_option maxHeartbeats 4000000 in
theorem of_any (A : Option Addr) (c : Nat) (xs : List Pr) (B : Nat) (w : World) (h : Rd w B A xs) (hB : B ≤ w.heap.size) (hn : xs.length < 20) :
    Calls Try.prog 56 #[.slice A xs.length c] w (OfPost xs w) := by
  obtain ⟨i0, hi0, hz0, hz1, hz2⟩ := info_parts pairInfo
  have HX := Lib.hid h
  clear h
  have mixed := mixedOrders
  go_enter Try.func56, Try.ntmps56
  go_wp2_with (at_make
               refine wpList_make_full w rfl (.tmp 8) (.tmp 8) 33 rfl w.heap.size 56 i0 _ 2 Try.underlying33 hi0 hz0 hz1 _ _ _ _ xs.length rfl rfl rfl rfl (by rw [hz2]; omega) (by simp only [maxLen]; omega) (Nat.le_refl _) ?_
               intro w1 hown1 hg1
               obtain ⟨Z, hZ, hG1⟩ := made_heap hown1
               have HZ := Lib.hid hZ
               have HG1 := Lib.hid hG1
               have hB1 : Below w.heap.size w w1 := (Below.refl _ _).grown hg1 (Nat.le_refl _) (by simp)
               clear hown1 hg1 hZ hG1)
  refine upon_copy (w0 := w) _ _ _ _ _ _ _ w.heap.size 0 Z HG1 (flat xs) xs.length (Nat.min_self _).symm (flat_length xs) (fun hf => ⟨rfl, by obtain ⟨ad, e, _, hc⟩ := (HX.out.more hB).below hB1 hf; exact ⟨ad, e, hc⟩⟩) (by rw [flat_length, HZ.out]; omega) (flat_one _) w.heap.size hB1 (Nat.le_refl _) ?_
  intro w2 HG2' hB2
  have HG2 : Hid (w2.heap[w.heap.size]? = some (.cells (flat xs).toArray 56 (0, 0))) := by
    have := HG2'.out
    rw [splice_whole (by rw [HZ.out, flat_length])] at this
    exact this
  clear HG2' HG1 hB1
  have c31 := Lib.hid (sortStable_any w.heap.size 0 xs.length xs.toArray w2 (row_of_flat HG2.out) (by simpa using hn))
  go_wp2_with (go_at_call 66; refine (c31.out).mono ?_; rintro e w3 ⟨rfl, d', hm, hS⟩; have HM := Lib.hid hm; have HS := Lib.hid hS; clear hm hS c31)
  have hz : d'.size = xs.length := by have := HM.out.chg.size; simpa using this
  have HZ' := Lib.hid hz
  have K0 : Aside (Kept w.heap.size d' 0 w w3) := ⟨⟨d'.toList, by simp [kp], fun t _ ht => by simp only [kp, List.nil_append]; exact get_toList d' t ht, (blk_sorted HG2.out (by simp [flat_length, hz]) HS.out : w3.heap[w.heap.size]? = some (.cells (flat ([] ++ d'.toList)).toArray 56 (0, 0)))⟩, hB2.trans (below_sorted (Nat.le_refl _) (Array.getElem?_eq_some_iff.1 HG2.out).1 HS.out)⟩
  clear hz HG2 HS hB2
  go_loopg [4, 19] xs.length (fun kx s4 s19 wr => ∃ i j : Nat, s4 = .slice (some ⟨w.heap.size, 0, none⟩) j xs.length ∧ s19 = .int .i64 i ∧ i ≤ xs.length ∧ xs.length - i ≤ kx ∧ Aside (j = (kp d' i).length) ∧ Aside (Kept w.heap.size d' i w wr))
  case atStart => exact ⟨0, 0, rfl, rfl, Nat.zero_le _, by omega, rfl, K0⟩
  case round =>
    clear K0
    obtain ⟨i, j, rfl, rfl, hi, hkx, J, K1⟩ := hrel
    by_cases hlt : i < xs.length
    · have hltz : (i : Int) < (xs.length : Int) := by omega
      have hgl := K1.out.lt
      obtain ⟨c0, c1⟩ := K1.out.cells (Nat.le_refl i) (by rw [HZ'.out]; exact hlt)
      obtain ⟨x, hx⟩ : ∃ x, x = d'[i]! := ⟨_, rfl⟩
      rw [← hx] at c0 c1
      have X : Aside _ := hx
      clear hx
      go_wp2_with fail
      obtain ⟨wb, hwb⟩ : ∃ wb, wb = wr.alloc (.cells #[.string x.1, .int .u64 x.2] 56) := ⟨_, rfl⟩
      rw [← hwb]
      have b0 : wb.cell? ⟨wr.heap.size, 0, none⟩ = some (.string x.1) := by rw [hwb]; simp
      have b1 : wb.cell? ⟨wr.heap.size, 1, none⟩ = some (.int .u64 x.2) := by rw [hwb]; simp
      have hgb : w.heap.size < wb.heap.size := by rw [hwb]; simp; omega
      have KK : Aside (Kept w.heap.size d' i w wb) := by
        show Kept _ _ _ _ _
        rw [hwb]
        exact K1.out.up ((Below.refl wr.heap.size wr).alloc (Nat.le_refl _) _) hgl
      have hBb := KK.out.below
      obtain ⟨rest, hl, _, hgc⟩ := KK.out.ex
      have HGc := Lib.hid hgc
      have HL := Lib.hid hl
      have hjn : j + 1 ≤ xs.length := by have := kp_le d' i; have := J.out; omega
      have ni : (0 : Int) ≤ (i : Int) + 1 := by omega
      have ni2 : ((i : Int) + 1).toNat = i + 1 := by omega
      have ni3 : IntKind.i64.wrap ((i : Int) + 1) = (i : Int) + 1 := by rw [IntKind.wrap_i64]; omega
      clear hwb c0 c1 K1 hl hgc hgl
      by_cases hlast : i + 1 = xs.length
      · have t1 : ((i : Int) + 1 == (xs.length : Int)) = true := by rw [beq_iff_eq]; omega
        have HLA := Lib.hid hlast
        clear hlast
        go_quiet (fail)
        have HK : Hid (keepB d' i = true) := decide_eq_true (.inl (HLA.out.trans HZ'.out.symm))
        clear t1 ni ni2 ni3
        go_wp2_with (at_builtin; refine wpList_append_row rfl (.tmp 40) (.tmp 42) rfl w.heap.size j xs.length (flat (kp d' i ++ rest)) rfl (heap_alloc_old HGc hgb _) ⟨wb.heap.size, 0, none⟩ 1 (enc x) rfl rfl (one_cells (wb.drewN nq) x 56) (enc_one x) hjn (by rw [flat_length, List.length_append]; have h1 := HL.out; have h2 := HZ'.out; have h3 := J.out; omega) w.heap.size w ((below_drew hBb nq).alloc (Nat.le_of_lt hgb) _) (Nat.le_refl _) ?_; intro w5 HG5 hB5)
        go_roundg (xs.length - (i + 1))
        case measure => omega
        case rel =>
          have e5 : (kp d' (i + 1)).length = j + 1 := by rw [kp_succ_length HK.out, ← J.out]
          exact ⟨i + 1, j + 1, rfl, by go_num, by omega, Nat.le_refl _, e5.symm, KK.out.push (by rw [HZ'.out]; exact hlt) HK.out HGc.out (by rw [← J.out, ← X.out]; exact HG5.out) hB5⟩
      · have t1 : ((i : Int) + 1 == (xs.length : Int)) = false := by rw [beq_eq_false_iff_ne]; omega
        have b3 : (i : Int) + 1 < (xs.length : Int) := by omega
        obtain ⟨y0, y1⟩ := KK.out.cells (t := i + 1) (by omega) (by rw [HZ'.out]; omega)
        obtain ⟨y, hy⟩ : ∃ y, y = d'[i + 1]! := ⟨_, rfl⟩
        rw [← hy] at y0 y1
        have Y : Aside _ := hy
        clear hy y1
        by_cases hk : y.1 = x.1
        · have t2 : (y.1.toList == x.1.toList) = true := by rw [hk]; exact beq_self_eq_true _
          have HK : Hid (keepB d' i = false) := decide_eq_false (by
            rintro (e | e)
            · rw [HZ'.out] at e; exact hlast e
            · rw [← X.out, ← Y.out] at e; exact e hk)
          clear hk
          go_quiet (fail)
          clear y0 b0 b1 t1 t2 ni2 ni3
          go_wp2
          go_roundg (xs.length - (i + 1))
          case measure => omega
          case rel =>
            have e5 : j = (kp d' (i + 1)).length := by rw [kp, HK.out]; exact J.out
            exact ⟨i + 1, j, rfl, by go_num, by omega, Nat.le_refl _, e5, (KK.out.skip HK.out).up (below_drew (Below.refl wb.heap.size wb) nq) hgb⟩
        · have t2 : (y.1.toList == x.1.toList) = false := by rw [beq_eq_false_iff_ne, Lib.toList_data, Lib.toList_data]; exact fun e => hk (key_ext e)
          have HNE := Lib.hid hk
          clear hk
          go_quiet (fail)
          have HK : Hid (keepB d' i = true) := decide_eq_true (.inr (by rw [← X.out, ← Y.out]; exact HNE.out))
          clear y0 t1 t2 ni ni2 ni3
          go_wp2_with (at_builtin; refine wpList_append_row rfl (.tmp 40) (.tmp 42) rfl w.heap.size j xs.length (flat (kp d' i ++ rest)) rfl (heap_alloc_old HGc hgb _) ⟨wb.heap.size, 0, none⟩ 1 (enc x) rfl rfl (one_cells (wb.drewN nq) x 56) (enc_one x) hjn (by rw [flat_length, List.length_append]; have h1 := HL.out; have h2 := HZ'.out; have h3 := J.out; omega) w.heap.size w ((below_drew hBb nq).alloc (Nat.le_of_lt hgb) _) (Nat.le_refl _) ?_; intro w5 HG5 hB5)
          go_roundg (xs.length - (i + 1))
          case measure => omega
          case rel =>
            have e5 : (kp d' (i + 1)).length = j + 1 := by rw [kp_succ_length HK.out, ← J.out]
            exact ⟨i + 1, j + 1, rfl, by go_num, by omega, Nat.le_refl _, e5.symm, KK.out.push (by rw [HZ'.out]; exact hlt) HK.out HGc.out (by rw [← J.out, ← X.out]; exact HG5.out) hB5⟩
    · obtain rfl : i = xs.length := by omega
      go_wp2
      go_ret
      obtain ⟨rest, hl, _, hg⟩ := K1.out.ex
      have ho := of_sorted HM.out
      rw [HZ'.out] at ho
      refine ⟨_, ho, _, rfl, own_of_heap J.out.symm (Nat.le_refl _) (by have := kp_le d' xs.length; have := J.out; omega) (by simp only [maxLen]; omega) (by rw [flat_length, List.length_append]; rw [HZ'.out] at hl; omega) ?_ hg, K1.out.below⟩
      rw [J.out, flat_take]
      simp


end Go.Proofs.Ytbknbjabkhhlfaa
