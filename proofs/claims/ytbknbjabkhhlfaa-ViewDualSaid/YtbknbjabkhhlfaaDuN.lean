/-
  What a row of allocations leaves; the nodes that the document's procedure allocates.
-/
import Derived.Test.YtbknbjabkhhlfaaArB1
import Derived.Test.YtbknbjabkhhlfaaBrE
import Derived.Test.YtbknbjabkhhlfaaKhA
import Derived.Test.YtbknbjabkhhlfaaBrF
set_option linter.unusedVariables false
set_option maxRecDepth 100000
namespace Go.Proofs.Ytbknbjabkhhlfaa
open Go.Shelf Go.RowKit Go.Lib Go.Sort

/-- The nodes that allocations leave, where k cells were. -/
def opsN : List (Nd × Int) → Nat → List Nd
  | [], _ => []
  | (n, _) :: r, k => alN n ((k : Int) + 1) :: opsN r (if hasO n then k + 1 else k)
/-- .. and the cells. -/
def opsC : List (Nd × Int) → List Int
  | [] => []
  | (n, v) :: r => (if hasO n then [v] else []) ++ opsC r
theorem opsC_append : ∀ a b : List (Nd × Int), opsC (a ++ b) = opsC a ++ opsC b
  | [], b => rfl
  | (n, v) :: r, b => by rw [List.cons_append, opsC, opsC, opsC_append r b, List.append_assoc]
theorem opsN_snoc (n : Nd) (v : Int) : ∀ (l : List (Nd × Int)) (k : Nat), opsN (l ++ [(n, v)]) k = opsN l k ++ [alN n (((k + (opsC l).length : Nat) : Int) + 1)]
  | [], k => rfl
  | (m, u) :: r, k => by
    rw [List.cons_append, opsN, opsN, opsN_snoc n v r, opsC, List.cons_append]
    congr 4
    cases hasO m <;> simp
    omega
theorem opsN_length : ∀ (l : List (Nd × Int)) (k : Nat), (opsN l k).length = l.length
  | [], _ => rfl
  | (n, v) :: r, k => by rw [opsN, List.length_cons, opsN_length r, List.length_cons]
theorem alN_same {a b : Nd} (h : sameN a b) (c : Int) : sameN (alN a c) (alN b c) := by
  obtain ⟨A, c', P, d, rfl⟩ := h
  exact ⟨A, c', P, d, rfl⟩
theorem hasO_same {a b : Nd} (h : sameN a b) : hasO b = hasO a := by
  obtain ⟨A, c', P, d, rfl⟩ := h
  rfl
/-- From s to t the allocations l have run. -/
structure Rans (lo : Nat) (s t : Sd) (l : List (Nd × Int)) : Prop where
  ns : ∃ ys, t.ns = s.ns ++ ys ∧ SameL (opsN l s.cs.length) ys ∧ ∀ y ∈ ys, FRs lo y
  cs : t.cs = s.cs ++ opsC l
  gen : t.gen = s.gen
theorem SameL.nil_ : SameL [] [] := ⟨rfl, fun i a b ha _ => by simp at ha⟩
theorem Rans.refl (lo : Nat) (s : Sd) : Rans lo s s [] := ⟨⟨[], by simp, SameL.nil_, fun y hy => by cases hy⟩, by simp [opsC], rfl⟩
theorem FRs.le {lo lo' : Nat} {n : Nd} (h : FRs lo' n) (hl : lo ≤ lo') : FRs lo n := ⟨fun ad e => Nat.le_trans hl (h.1 ad e), fun ad e => Nat.le_trans hl (h.2 ad e)⟩
theorem Rans.snoc {lo lo' : Nat} {s t u : Sd} {l : List (Nd × Int)} {n n0 : Nd} {v : Int} (h : Rans lo s t l) (a : Alloced lo' t u n v) (hl : lo ≤ lo') (hn : sameN n0 n) : Rans lo s u (l ++ [(n0, v)]) := by
  obtain ⟨ys, h1, h2, h3⟩ := h.ns
  obtain ⟨y, a1, a2, a3⟩ := a.ns
  have hc := h.cs
  refine ⟨⟨ys ++ [y], by rw [a1, h1, List.append_assoc], ?_, fun z hz => ?_⟩, ?_, a.gen.trans h.gen⟩
  · rw [opsN_snoc]
    refine h2.snoc ((alN_same hn _).trans ?_)
    rw [hc, List.length_append] at a2
    exact a2
  · rcases List.mem_append.1 hz with hz | hz
    · exact h3 z hz
    · rw [List.mem_singleton.1 hz]; exact a3.le hl
  · rw [a.cs, hc, opsC_append, hasO_same hn]
    show _ = s.cs ++ (opsC l ++ ((if hasO n0 then [v] else []) ++ []))
    cases hasO n0 <;> simp
theorem Rans.len {lo : Nat} {s t : Sd} {l : List (Nd × Int)} (h : Rans lo s t l) : t.ns.length = s.ns.length + l.length := by
  obtain ⟨ys, h1, h2, _⟩ := h.ns
  rw [h1, List.length_append, ← h2.1, opsN_length]
theorem opsC_le : ∀ l : List (Nd × Int), (opsC l).length ≤ l.length
  | [] => Nat.le_refl _
  | (n, v) :: r => by
    have := opsC_le r
    rw [opsC, List.length_append, List.length_cons]
    cases hasO n <;> simp <;> omega
theorem Rans.clen {lo : Nat} {s t : Sd} {l : List (Nd × Int)} (h : Rans lo s t l) : t.cs.length ≤ s.cs.length + l.length := by
  rw [h.cs, List.length_append]
  have := opsC_le l
  omega

/-! ### The nodes of the procedure -/
def singN (h : Int) (s : ByteArray) (v : Int) : Nd := { Nd.zero with kind := 4, hash := h, key := s, val := v }
def innN (g : Int) : Nd := { Nd.zero with kind := 2, gen := g }
def listN (h : Int) (ps : List Pr) : Nd := { Nd.zero with kind := 6, hash := h, ps := ps }
def cndN (bm : Int) (L : List Int) : Nd := mkC bm none 0 L
/-- What the procedure is about: X's hash value, number, key and value, the others, the generation; c is the number of levels with equal slices, ps the collision list. -/
structure Du where
  H : Int
  x : Int
  K : Int
  key : ByteArray
  val : Int
  gen : Int
  c : Nat
  ps : List Pr
noncomputable def baseL (D : Du) (f : Int) : List (Nd × Int) :=
  if D.c = 11 then [(listN D.K D.ps, 0)]
  else [(singN D.K D.key D.val, 0), (cndN (withI (withI 0 (sl D.H D.c)) (sl D.K D.c)) (if sl D.K D.c < sl D.H D.c then [f, D.x] else [D.x, f]), 0)]
/-- The allocations of m levels above the lowest; f is the number of the first node. -/
noncomputable def dualL (D : Du) (f : Int) : Nat → List (Nd × Int)
  | 0 => baseL D f
  | m + 1 => dualL D f m ++ [(innN D.gen, f - 1 + ((dualL D f m).length : Int)), (cndN (withI 0 (sl D.K (D.c - (m + 1)))) [f + ((dualL D f m).length : Int)], 0)]
theorem base_len (D : Du) (f : Int) : (baseL D f).length = if D.c = 11 then 1 else 2 := by
  unfold baseL
  split <;> rfl
theorem dual_len (D : Du) (f : Int) : ∀ m, (dualL D f m).length = (if D.c = 11 then 1 else 2) + 2 * m
  | 0 => base_len D f
  | m + 1 => by
    rw [dualL, List.length_append, dual_len D f m]
    simp
    omega
theorem dual_pos (D : Du) (f : Int) (m : Nat) : 1 ≤ (dualL D f m).length ∧ (dualL D f m).length ≤ 2 + 2 * m := by
  rw [dual_len]
  split <;> omega
theorem dual_clen (D : Du) (f : Int) : ∀ m, (opsC (dualL D f m)).length = 1 + 2 * m
  | 0 => by
    unfold dualL baseL
    split <;> rfl
  | m + 1 => by
    rw [dualL, opsC_append, List.length_append, dual_clen D f m]
    show 1 + 2 * m + 2 = _
    omega
end Go.Proofs.Ytbknbjabkhhlfaa
/-
  A C-node with one branch, with two.
-/
set_option linter.unusedVariables false
set_option maxRecDepth 100000
namespace Go.Proofs.Ytbknbjabkhhlfaa
open Go.Shelf Go.RowKit Go.Lib Go.Sort

theorem isC_mkC {bm : Int} {A : Option Addr} {c : Nat} {L : List Int} (hl : (L.length : Int) = cntI bm) (hy : ∀ z ∈ L, 1 ≤ z) : isC (mkC bm A c L) = true := by
  have h : lowB L = false := lowB_false fun j z hj hz => decide_eq_false (by have := hy z (List.mem_of_getElem? hz); omega)
  have h2 : ((L.length : Int) == cntI bm) = true := beq_iff_eq.2 hl
  simp [isC, mkC, validN, eqN, own, cellsB, fieldsB, Nd.zero, h, h2]
theorem cnt0 : cntI 0 = 0 := by decide +kernel
theorem has0 (i : Int) : hasB 0 i = false := by
  cases h : hasB 0 i
  · rfl
  · have h1 := pos_cnt h
    have h2 := pN_cast 0 i
    rw [cnt0] at h1
    omega
theorem pos0 (i : Int) : posI 0 i = 0 := by
  have h1 := pos_le_cnt 0 i
  have h2 := pN_cast 0 i
  rw [cnt0] at h1
  omega
theorem u0 : U64 0 := ⟨Int.le_refl 0, by omega⟩
theorem sl_inr (h : Int) (l : Nat) : inr (sl h l) = true := (inr_iff _).2 (by have := sl_range h l; omega)
theorem insL0 (i x : Int) : insL 0 [] i x = [x] := by
  unfold insL
  simp
theorem ins_one {A : Option Addr} {c : Nat} {i x : Int} (hi : inr i = true) (hx : 1 ≤ x) : insOk (mkC 0 A c []) i x = true := by
  have h1 : isC (mkC 0 A c []) = true := isC_mkC (by rw [cnt0]; rfl) (fun z hz => by cases hz)
  have h2 : hasB (mkC 0 A c []).bm i = false := has0 i
  unfold insOk
  rw [h1, hi, h2, decide_eq_true hx]
  rfl
theorem ins_two {A : Option Addr} {c : Nat} {i k x s : Int} (hi : inr i = true) (hk : inr k = true) (hik : i ≠ k) (hx : 1 ≤ x) (hs : 1 ≤ s) : insOk (mkC (withI 0 i) A c [x]) k s = true := by
  have h1 : isC (mkC (withI 0 i) A c [x]) = true := isC_mkC (by rw [cnt_with hi, cnt0, has0]; rfl) (fun z hz => by simp at hz; omega)
  have h2 : hasB (mkC (withI 0 i) A c [x]).bm k = false := by
    show hasB (withI 0 i) k = false
    rw [has_with_other (by have := (inr_iff k).1 hk; omega) hik]
    exact has0 k
  unfold insOk
  rw [h1, hk, h2, decide_eq_true hs]
  rfl
theorem insL1 {i k x s : Int} (hi : inr i = true) (hk : inr k = true) (hik : i ≠ k) : insL (withI 0 i) [x] k s = if k < i then [s, x] else [x, s] := by
  obtain ⟨n, rfl⟩ : ∃ n : Nat, k = (n : Int) := ⟨k.toNat, by have := (inr_iff k).1 hk; omega⟩
  have hp := pos_with (b := 0) hi n (by have := (inr_iff (n : Int)).1 hk; omega)
  rw [pos0, has0] at hp
  have h2 := pN_cast (withI 0 i) n
  unfold insL
  by_cases h : (n : Int) < i
  · rw [if_neg (by omega)] at hp
    rw [if_pos h, show pN (withI 0 i) n = 0 by omega]
    rfl
  · rw [if_pos ⟨by omega, rfl⟩] at hp
    rw [if_neg h, show pN (withI 0 i) n = 1 by omega]
    rfl
end Go.Proofs.Ytbknbjabkhhlfaa
