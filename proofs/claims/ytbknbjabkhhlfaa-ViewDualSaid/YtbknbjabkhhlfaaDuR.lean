/-
  Both arenas behind start; behind both Builds.
-/
import Derived.Test.YtbknbjabkhhlfaaDuJ
import Derived.Test.YtbknbjabkhhlfaaArB1
import Derived.Handy
set_option linter.unusedVariables false
set_option maxRecDepth 100000
namespace Go.Proofs.Ytbknbjabkhhlfaa
open Go.Shelf Go.RowKit Go.Lib Go.Sort

theorem Ob.zero {w : World} {base : Nat} {T : TypeId} {q : Nat} {s : Sd} {acc : Int} (h : Ob w base T q s acc) : Ob w 0 T q s acc :=
  ⟨h.blk, Nat.zero_le _, h.nod.mono (Nat.zero_le _), OwnR.mono h.cel (Nat.zero_le _), h.l, h.nl, h.cl⟩
section
variable {w w1 : World} {B qa qm : Nat} {s t : Sd} {x y : Int}
/-- One of the reference's, and an arena that was made later. -/
theorem two_of (hm : Ob w B 40 qm t y) (hb : RowKit.Below w.heap.size w w1) (ha : Ob w1 w.heap.size 69 qa s x) (hf : ∀ n ∈ s.ns, FRs w.heap.size n) (hl : SameL t.ns s.ns) (hc : s.cs = t.cs) (hg : s.gen = t.gen) : Two w1 qa qm s t x y :=
  ⟨ha.zero, (hm.up hb).zero, fun k hk hk2 => by have := (hm.mu_lt hk2).2; have := (ha.mu_lt hk).1; omega,
    fun n hn => ⟨fun ad e hk => by have := (hf n hn).1 ad e; have := (hm.mu_lt hk).2; omega, fun ad e hk => by have := (hf n hn).2 ad e; have := (hm.mu_lt hk).2; omega⟩,
    fun n hn => ⟨fun ad e hk => by have := (hm.l n hn).lb ad e; have := (ha.mu_lt hk).1; omega, fun ad e hk => by have := (hm.l n hn).lp ad e; have := (ha.mu_lt hk).1; omega⟩,
    hl, hc, hg⟩
end
theorem ownScan_gen (s : Sd) (a b : Int) : ∀ (ns : List Nd) (used : List Nat), ownScan { s with gen := a } ns used = ownScan { s with gen := b } ns used
  | [], _ => rfl
  | n :: ns, used => by
    unfold ownScan
    cases cellOf n with
    | none => exact ownScan_gen s a b ns used
    | some c =>
      show (hasC _ c && (_ && _)) = (hasC _ c && (_ && _))
      rw [ownScan_gen s a b ns ((c.toNat - 1) :: used)]
      rfl
theorem GS.proper5 {lo : Nat} {s : Sd} (h : GS lo { s with gen := 3 }) : properB { s with gen := 5 } = true := by
  have hp := h.proper
  have h2 : nodesB { s with gen := 5 } = true := by
    rw [nodesB, List.all_eq_true]
    intro n hn
    have := (h.ok n hn).1
    simp only [nodeP, Bool.and_eq_true, decide_eq_true_eq] at this ⊢
    exact ⟨this.1, by omega⟩
  unfold properB at hp ⊢
  simp only [Bool.and_eq_true] at hp ⊢
  exact ⟨hp.1, h2, hp.2.2.1, (ownScan_gen s 5 3 s.ns []).trans hp.2.2.2⟩
theorem vn_sing (rf : Nat) (h : Int) (key : ByteArray) (v : Int) (hk : key.size ≤ 64) : VN rf (singN h key v) := by
  refine ⟨?_, by show (0 : Int) ≤ 3; omega, rfl, rfl, rfl, (fun z hz => by cases hz), ⟨Int.le_refl 0, Int.natCast_nonneg rf⟩, ⟨Int.le_refl 0, Int.natCast_nonneg rf⟩, ⟨Int.le_refl 0, Int.natCast_nonneg rf⟩⟩
  have : longK key = false := by unfold longK; exact decide_eq_false (by omega)
  simp [validN, eqN, own, cellsB, fieldsB, singN, Nd.zero, this]
/-- Both arenas as start leaves them. -/
structure St8 (w0 w : World) (qa qm : Nat) (sa sm : Sd) (h : Int) (key : ByteArray) (v : Int) : Prop where
  two : Two w qa qm sa sm 0 0
  ma : ∀ k, Mu qa sa k → w0.heap.size ≤ k
  mm : ∀ k, Mu qm sm k → w0.heap.size ≤ k
  len : sa.ns.length = 3 ∧ sm.ns.length = 3
  cs : sa.cs = [] ∧ sm.cs = []
  xa : sameN (singN h key v) (nodeV sa 3)
  xm : sameN (singN h key v) (nodeV sm 3)
  bel : Below w0.heap.size w0 w
def StartP (h : Int) (key : ByteArray) (v : Int) (w : World) (e : Ending) (w' : World) : Prop :=
  ∃ qa qm sa sm, e = .returned (.tuple #[.pointer (some ⟨qa, 0, none⟩), .pointer (some ⟨qm, 0, none⟩), .int .i64 3]) ∧ St8 w w' qa qm sa sm h key v
section
attribute [local go_sem ↓] exec_load28 exec_store44
end
end Go.Proofs.Ytbknbjabkhhlfaa
/-
  Build behind start; awake.
-/
set_option linter.unusedVariables false
set_option maxRecDepth 100000
namespace Go.Proofs.Ytbknbjabkhhlfaa
open Go.Shelf Go.RowKit Go.Lib Go.Sort
theorem SameL.trans {a b c : List Nd} (h : SameL a b) (k : SameL b c) : SameL a c := by
  refine ⟨h.1.trans k.1, fun i x z hx hz => ?_⟩
  have hi : i < b.length := by rw [← h.1]; exact (List.getElem?_eq_some_iff.1 hx).1
  have hy := List.getElem?_eq_getElem hi
  exact (h.2 i x _ hx hy).trans (k.2 i _ z hy hz)
theorem SameL.append {a b c d : List Nd} (h : SameL a b) (k : SameL c d) : SameL (a ++ c) (b ++ d) := by
  refine ⟨by simp [h.1, k.1], fun i x y hx hy => ?_⟩
  by_cases hi : i < a.length
  · rw [List.getElem?_append_left hi] at hx
    rw [List.getElem?_append_left (h.1 ▸ hi)] at hy
    exact h.2 i x y hx hy
  · rw [List.getElem?_append_right (by omega)] at hx
    rw [List.getElem?_append_right (by rw [← h.1]; omega), ← h.1] at hy
    exact k.2 _ x y hx hy
theorem Rans.same {lo lo' : Nat} {s s' t t' : Sd} {l : List (Nd × Int)} (a : Rans lo s s' l) (b : Rans lo' t t' l) (hl : SameL t.ns s.ns) (hc : s.cs = t.cs) (hg : s.gen = t.gen) : SameL t'.ns s'.ns ∧ s'.cs = t'.cs ∧ s'.gen = t'.gen := by
  obtain ⟨ys, a1, a2, _⟩ := a.ns
  obtain ⟨zs, b1, b2, _⟩ := b.ns
  refine ⟨?_, by rw [a.cs, b.cs, hc], by rw [a.gen, b.gen, hg]⟩
  rw [a1, b1]
  rw [← hc] at b2
  exact hl.append (b2.symm.trans a2)
theorem Rn.did {T : TypeId} {base q : Nat} {s t : Sd} {acc : Int} {l : List (Nd × Int)} {w wr : World} (h : Rn T base q s acc l w wr t) : Did w wr q s t := by
  obtain ⟨ys, h1, _, h3⟩ := h.rans.ns
  refine ⟨h.fr, h.mu, fun n hn => ?_⟩
  rw [h1] at hn
  exact (List.mem_append.1 hn).elim .inl fun hn => .inr (h3 n hn)
theorem Rn.bel {T : TypeId} {base q : Nat} {s t : Sd} {acc : Int} {l : List (Nd × Int)} {w wr : World} (h : Rn T base q s acc l w wr t) {B : Nat} (hB : B ≤ w.heap.size) (hM : ∀ k, Mu q s k → B ≤ k) : Below B w wr := h.fr.below hB hM
/-- What the two Builds are about is the same. -/
theorem duOf_same {a b : Nd} (h : sameN a b) (x K : Int) (key : ByteArray) (val gen : Int) (c : Nat) : duOf b x K key val gen c = duOf a x K key val gen c := by
  obtain ⟨h1, h2, h3, h4⟩ := same_f h
  unfold duOf
  rw [h2, h3, h4]
theorem two_builds {w w1 w2 : World} {qa qm : Nat} {s s' t t' : Sd} {l : List (Nd × Int)} (h : Two w qa qm s t 0 0) (a : Rn 69 0 qa s 0 l w w1 s') (b : Rn 40 0 qm t 0 l w1 w2 t') : Two w2 qa qm s' t' 0 0 := by
  obtain ⟨h1, h2, h3⟩ := a.rans.same b.rans h.ns h.cs h.gen
  exact h.step a.ob a.did b.ob b.did h1 h2 h3
/-- Node number k of a state with three nodes behind allocations. -/
theorem nodeV_new {lo : Nat} {s t : Sd} {l : List (Nd × Int)} (h : Rans lo s t l) {i : Nat} {n : Nd} (hn : (opsN l s.cs.length)[i]? = some n) : sameN n (nodeV t ((s.ns.length : Int) + (i : Int) + 1)) := by
  obtain ⟨ys, h1, h2, _⟩ := h.ns
  have hi := (List.getElem?_eq_some_iff.1 hn).1
  have hy := List.getElem?_eq_getElem (by rw [← h2.1]; exact hi : i < ys.length)
  have e : nodeV t ((s.ns.length : Int) + (i : Int) + 1) = ys[i]'(by rw [← h2.1]; exact hi) := by
    unfold nodeV
    rw [if_pos ⟨by omega, by rw [h1, List.length_append]; have := h2.1; omega⟩, show ((s.ns.length : Int) + (i : Int) + 1 - 1).toNat = s.ns.length + i by omega, h1, List.getElem?_append_right (by omega), show s.ns.length + i - s.ns.length = i by omega, hy]
    rfl
  rw [e]
  exact h2.2 i n _ hn hy
theorem isCom_self (h : Int) : IsCom h h 11 := ⟨Nat.le_refl _, fun _ _ => rfl, fun h => absurd h (by omega)⟩
theorem u64_7 : U64 7 := by unfold U64; omega
theorem aw_node {qa : Nat} {t : Sd} {k kd : Int} {w : World} (h : Ob w 0 69 qa t 0) (hk : (nodeV t k).kind = kd) : Calls Try.prog 114 #[.pointer (some ⟨qa, 0, none⟩), .int .i64 k] w fun e w' => ∃ y : Nd, e = .returned (.agg #[.int .i64 kd, .int .i64 y.gen, .int .i64 y.main, .int .u64 y.bm, .slice y.bA y.bs.length y.bc, .int .u64 y.hash, .string y.key, .int .u64 y.val, .slice y.pA y.ps.length y.pc, .int .i64 y.prev, .int .i64 y.old, .int .i64 y.exp, .int .i64 y.new, .int .i64 y.status]) ∧ Ob w' 0 69 qa t 0 ∧ Below w.heap.size w w' :=
  (node_lit k h).mono fun e w' ⟨y, he, hs, hb⟩ => ⟨y, by rw [he, (same_f hs).1, hk], h.up hb, hb⟩
theorem run_field0 (a b c d e f g h i j k l m n : Value) (w : World) : (Instr.field 35 (.agg #[a, b, c, d, e, f, g, h, i, j, k, l, m, n]) 0).run Try.prog w = .ok a w := by kernel_rfl
section
attribute [local go_sem] run_field0
end
end Go.Proofs.Ytbknbjabkhhlfaa
/-
  The state behind Build is proper.
-/
set_option linter.unusedVariables false
set_option maxRecDepth 100000
namespace Go.Proofs.Ytbknbjabkhhlfaa
open Go.Shelf Go.RowKit Go.Lib Go.Sort

theorem SameL.unsnoc {xs ys : List Nd} {a : Nd} (h : SameL (xs ++ [a]) ys) : ∃ zs b, ys = zs ++ [b] ∧ SameL xs zs ∧ sameN a b := by
  have hl := h.1
  rw [List.length_append, List.length_singleton] at hl
  have hne : ys ≠ [] := fun e => by rw [e] at hl; simp at hl
  refine ⟨ys.dropLast, ys.getLast hne, (List.dropLast_concat_getLast hne).symm, ⟨by rw [List.length_dropLast]; omega, fun i x y hx hy => ?_⟩, ?_⟩
  · have hi := (List.getElem?_eq_some_iff.1 hx).1
    refine h.2 i x y (by rw [List.getElem?_append_left hi]; exact hx) ?_
    rw [List.getElem?_dropLast] at hy
    split at hy
    · exact hy
    · cases hy
  · refine h.2 xs.length a _ (by rw [List.getElem?_append_right (Nat.le_refl _)]; simp) ?_
    rw [List.getLast_eq_getElem, List.getElem?_eq_getElem (by omega)]
    congr 1
    congr 1
    omega
/-- The last allocation apart. -/
theorem Rans.split {lo : Nat} {s t : Sd} {l : List (Nd × Int)} {n : Nd} {v : Int} (h : Rans lo s t (l ++ [(n, v)])) : ∃ u, Rans lo s u l ∧ Alloced lo u t n v := by
  obtain ⟨ys, h1, h2, h3⟩ := h.ns
  rw [opsN_snoc] at h2
  obtain ⟨zs, b, rfl, h4, h5⟩ := h2.unsnoc
  refine ⟨{ t with ns := s.ns ++ zs, cs := s.cs ++ opsC l }, ⟨⟨zs, rfl, h4, fun y hy => h3 y (List.mem_append_left _ hy)⟩, rfl, h.gen⟩, ⟨⟨b, by rw [h1, List.append_assoc], ?_, h3 b (by simp)⟩, ?_, rfl⟩⟩
  · show sameN (alN n (((s.cs ++ opsC l).length : Int) + 1)) b
    rw [List.length_append]
    exact h5
  · show t.cs = if hasO n then (s.cs ++ opsC l) ++ [v] else s.cs ++ opsC l
    rw [h.cs, opsC_append]
    show s.cs ++ (opsC l ++ ((if hasO n then [v] else []) ++ [])) = _
    cases hasO n <;> simp
/-- What allocations must be. -/
def OpsOk (k : Nat) (l : List (Nd × Int)) : Prop := ∀ i n v, l[i]? = some (n, v) → VN (k + i) n ∧ 0 ≤ v ∧ v ≤ ((k + i : Nat) : Int)
theorem OpsOk.snoc {k : Nat} {l : List (Nd × Int)} {n : Nd} {v : Int} (h : OpsOk k l) (hn : VN (k + l.length) n) (hv : 0 ≤ v ∧ v ≤ ((k + l.length : Nat) : Int)) : OpsOk k (l ++ [(n, v)]) := fun i m u hi => by
  by_cases hl : i < l.length
  · rw [List.getElem?_append_left hl] at hi
    exact h i m u hi
  · have hlt := (List.getElem?_eq_some_iff.1 hi).1
    simp at hlt
    obtain rfl : i = l.length := by omega
    rw [List.getElem?_append_right (Nat.le_refl _)] at hi
    simp at hi
    obtain ⟨rfl, rfl⟩ := hi
    exact ⟨hn, hv⟩
theorem OpsOk.init {k : Nat} {l : List (Nd × Int)} {n : Nd} {v : Int} (h : OpsOk k (l ++ [(n, v)])) : OpsOk k l ∧ VN (k + l.length) n ∧ 0 ≤ v ∧ v ≤ ((k + l.length : Nat) : Int) :=
  ⟨fun i m u hi => h i m u (by rw [List.getElem?_append_left (List.getElem?_eq_some_iff.1 hi).1]; exact hi), h l.length n v (by rw [List.getElem?_append_right (Nat.le_refl _)]; simp)⟩
theorem GS.rans {lo lo' : Nat} {s : Sd} (h : GS lo s) (hlo : lo ≤ lo') : ∀ (N : Nat) (l : List (Nd × Int)) (t : Sd), l.length = N → OpsOk s.ns.length l → Rans lo' s t l → GS lo t
  | 0, l, t, hN, _, hr => by
    obtain rfl := List.eq_nil_of_length_eq_zero hN
    obtain ⟨ys, h1, h2, _⟩ := hr.ns
    have hy : ys = [] := List.eq_nil_of_length_eq_zero (by rw [← h2.1]; rfl)
    subst hy
    rw [List.append_nil] at h1
    have hc := hr.cs
    rw [show opsC [] = [] from rfl, List.append_nil] at hc
    exact ⟨by rw [h1]; exact h.m0, by rw [h1]; exact h.m1, fun n hn => by rw [h1] at hn ⊢; exact h.ok n hn, by rw [h1, hc]; exact h.own, fun z hz => by rw [hc] at hz; rw [h1]; exact h.cs z hz, by rw [hr.gen]; exact h.gen⟩
  | N + 1, l, t, hN, ho, hr => by
    have hne : l ≠ [] := fun e => by rw [e] at hN; simp at hN
    obtain ⟨l', o, rfl⟩ : ∃ l' o, l = l' ++ [o] := ⟨l.dropLast, l.getLast hne, (List.dropLast_concat_getLast hne).symm⟩
    obtain ⟨n, v⟩ := o
    obtain ⟨u, hu, ha⟩ := hr.split
    obtain ⟨h1, h2, h3⟩ := ho.init
    have hlen : l'.length = N := by simpa using hN
    have gu := GS.rans h hlo N l' u hlen h1 hu
    have hul := hu.len
    exact gu.alloc ha hlo (by rw [hul]; exact h2) (by rw [hul]; exact h3)
end Go.Proofs.Ytbknbjabkhhlfaa
/-
  The nodes of the procedure are what a proper state may be given; the list of two pairs.
-/
set_option linter.unusedVariables false
set_option maxRecDepth 100000
namespace Go.Proofs.Ytbknbjabkhhlfaa
open Go.Shelf Go.RowKit Go.Lib Go.Sort

theorem vn_inn {rf : Nat} {g : Int} (hg : 1 ≤ g ∧ g ≤ 3) : VN rf (innN g) := by
  have e : innN g = { Nd.zero with kind := 2, gen := (1 : Int) + ((g - 1).toNat : Int) } := by
    unfold innN
    rw [show (1 : Int) + ((g - 1).toNat : Int) = g by omega]
  rw [e]
  exact vn_I rf (g - 1).toNat (by omega)
theorem vn_one {rf : Nat} {i x : Int} (hi : inr i = true) (hx : 1 ≤ x ∧ x ≤ rf) : VN rf (cndN (withI 0 i) [x]) :=
  vn_C rf _ none 0 [x] (by rw [cnt_with hi, cnt0, has0]; rfl) (fun z hz => by simp at hz; omega)
theorem vn_two {rf : Nat} {i k x y : Int} (hi : inr i = true) (hk : inr k = true) (hik : i ≠ k) (hx : 1 ≤ x ∧ x ≤ rf) (hy : 1 ≤ y ∧ y ≤ rf) : VN rf (cndN (withI (withI 0 i) k) [x, y]) := by
  refine vn_C rf _ none 0 [x, y] ?_ (fun z hz => by simp at hz; omega)
  rw [cnt_with hk, cnt_with hi, cnt0, has0, has_with_other (by have := (inr_iff k).1 hk; omega) hik, has0]
  rfl
theorem vn_list {rf : Nat} {h : Int} {ps : List Pr} (h2 : 2 ≤ ps.length) (ha : Asc ps) (hl : longB ps = false) : VN rf (listN h ps) := by
  refine ⟨?_, by show (0 : Int) ≤ 3; omega, rfl, rfl, rfl, (fun z hz => by cases hz), ⟨Int.le_refl 0, Int.natCast_nonneg rf⟩, ⟨Int.le_refl 0, Int.natCast_nonneg rf⟩, ⟨Int.le_refl 0, Int.natCast_nonneg rf⟩⟩
  have h1 : validB ps = true := validB_true ha
  simp [validN, eqN, own, cellsB, fieldsB, listN, Nd.zero, h1, hl]
  exact decide_eq_true h2
/-- What the procedure must be given. -/
structure DuOk (D : Du) (k : Nat) : Prop where
  x : 1 ≤ D.x ∧ D.x ≤ k
  gen : 1 ≤ D.gen ∧ D.gen ≤ 3
  key : D.key.size ≤ 64
  two : D.c = 11 → 2 ≤ D.ps.length ∧ Asc D.ps ∧ longB D.ps = false
  ne : D.c ≠ 11 → sl D.H D.c ≠ sl D.K D.c
theorem dual_opsOk {D : Du} {k : Nat} (h : DuOk D k) : ∀ m, OpsOk k (dualL D ((k : Int) + 1) m)
  | 0 => by
    have hx := h.x
    have e0 : OpsOk k [] := fun i n v hi => by cases hi
    rw [dualL, baseL]
    by_cases hc : D.c = 11
    · rw [if_pos hc]
      obtain ⟨a, b, c⟩ := h.two hc
      exact e0.snoc (l := []) (vn_list a b c) ⟨Int.le_refl 0, by omega⟩
    · rw [if_neg hc]
      refine OpsOk.snoc (l := [_]) (e0.snoc (l := []) (vn_sing _ _ _ _ h.key) ⟨Int.le_refl 0, by omega⟩) ?_ ⟨Int.le_refl 0, by omega⟩
      split
      · exact vn_two (sl_inr _ _) (sl_inr _ _) (h.ne hc) ⟨by omega, by simp⟩ ⟨hx.1, by simp; omega⟩
      · exact vn_two (sl_inr _ _) (sl_inr _ _) (h.ne hc) ⟨hx.1, by simp; omega⟩ ⟨by omega, by simp⟩
  | m + 1 => by
    have ih := dual_opsOk h m
    have hp := (dual_pos D ((k : Int) + 1) m).1
    rw [dualL, show ∀ (l : List (Nd × Int)) (a b : Nd × Int), l ++ [a, b] = (l ++ [a]) ++ [b] from fun l a b => by simp]
    refine (ih.snoc (vn_inn h.gen) ⟨by omega, by push_cast; omega⟩).snoc (vn_one (sl_inr _ _) ⟨by omega, ?_⟩) ⟨Int.le_refl 0, by omega⟩
    rw [List.length_append, List.length_singleton]
    push_cast
    omega
/-- The list of two pairs with different keys. -/
theorem ofL_two {a b : Pr} (hne : a.1 ≠ b.1) : ofL [a, b] = if kl b.1 a.1 = true then [b, a] else [a, b] := by
  split
  next h =>
    have ho : OfOf [a, b] [b, a] := ⟨by simp [Asc, h], fun j => by
      simp only [lk]
      by_cases h1 : a.1 = j
      · have h2 : ¬ b.1 = j := fun e => hne (h1.trans e.symm)
        simp [h1, h2]
      · simp [h1]
        by_cases h2 : b.1 = j <;> simp [h2], Nat.le_refl _⟩
    exact (ofL_eq ho).symm
  next h =>
    have hk : kl a.1 b.1 = true := kl_of_ne (by simpa using h) (fun e => hne e.symm)
    have ho : OfOf [a, b] [a, b] := ⟨by simp [Asc, hk], fun j => rfl, Nat.le_refl _⟩
    exact (ofL_eq ho).symm
theorem ofL_ok {a b : Pr} (hne : a.1 ≠ b.1) (ha : a.1.size ≤ 64) (hb : b.1.size ≤ 64) : 2 ≤ (ofL [a, b]).length ∧ Asc (ofL [a, b]) ∧ longB (ofL [a, b]) = false := by
  have la : longK a.1 = false := decide_eq_false (by omega)
  have lb : longK b.1 = false := decide_eq_false (by omega)
  rw [ofL_two hne]
  split
  next h => exact ⟨Nat.le_refl _, by simp [Asc, h], by simp [longB, la, lb]⟩
  next h =>
    have hk : kl a.1 b.1 = true := kl_of_ne (by simpa using h) (fun e => hne e.symm)
    exact ⟨Nat.le_refl _, by simp [Asc, hk], by simp [longB, la, lb]⟩
end Go.Proofs.Ytbknbjabkhhlfaa
