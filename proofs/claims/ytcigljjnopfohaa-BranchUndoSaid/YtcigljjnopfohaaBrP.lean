/-
  Layer 6: the small facts of the laws.
-/
import Derived.Test.YtcigljjnopfohaaBrO
set_option linter.unusedVariables false
set_option maxRecDepth 100000
namespace Go.Proofs.Ytcigljjnopfohaa
open Go.Shelf Go.RowKit Go.Lib Go.Sort

theorem u16_of_wf {h : Int} (w : (Lit.int .u16 h).wf = true) : 0 ≤ h ∧ h ≤ 65535 := by
  have a : IntKind.u16.min = 0 := by decide
  have b : IntKind.u16.max = 65535 := by decide
  simp [Lit.wf, a, b] at w
  omega
theorem idx_ok {a : Int} (w : (Lit.int .u8 a).wf = true) : inr (wrap64 (a.tmod 64)) = true := by
  have h := u8_of_wf w
  rw [inr_iff, Int.tmod_eq_emod_of_nonneg h.1]
  unfold wrap64; omega
theorem ref_ok {a : Int} (w : (Lit.int .u16 a).wf = true) : 1 ≤ wrap64 (1 + wrap64 a) := by
  have h := u16_of_wf w
  unfold wrap64; omega
/-- The law's node, in one letter. -/
def LN2 (w : World) (e : Ending) (w' : World) : Prop := ∃ n : Nd, e = .returned (.agg n.cs) ∧ GN w' n ∧ isC n = true ∧ n.bs.length ≤ 64 ∧ Below w.heap.size w w'
theorem lnode2 (a : Option Addr) (len cap : Nat) (w : World) (hl : len ≤ maxLen) (hz : ∀ j, j < len → ∃ ad z, a = some ad ∧ w.cell? (ad.add j) = some (.int .i64 z)) : Calls Try.prog 8 #[.slice a len cap] w (LN2 w) :=
  (lnode_any a len cap w hl hz).mono fun e w' ⟨pv, bm, A, c, L, he, hg, hc, hl, hb⟩ => ⟨_, he, hg, hc, hl, hb⟩
theorem oks_none {n : Nd} {i r : Int} {w : World} {B : Nat} (hc : isC n = true) (hR : NRd w B n) (hi : inr i = true) (e : fN n i = none) (hr : 1 ≤ r) : insOk n i r = true ∧ updOk n i r = false ∧ remOk n i = false := by
  have hh : hasB n.bm i = false := by rw [has_fN hc hR, e]; rfl
  exact ⟨(map_ins (ok := true) hc hR hi e hr (m := mkC (withI n.bm i) none 0 (insL n.bm n.bs i r)) fun _ => ⟨none, 0, rfl⟩).1, gt_upd_no (.inr (.inl hh)), gt_rem_no (.inr hh)⟩
theorem oks_some {n : Nd} {i r z : Int} {w : World} {B : Nat} (hc : isC n = true) (hR : NRd w B n) (e : fN n i = some z) (hr : 1 ≤ r) : insOk n i r = false ∧ updOk n i r = true ∧ remOk n i = true := by
  have hh : hasB n.bm i = true := by rw [has_fN hc hR, e]; rfl
  have hs : (fN n i).isSome = true := by rw [e]; rfl
  exact ⟨gt_ins_no (.inr (.inr (.inl hh))), (map_upd hc hR hs hr (m := mkC n.bm none 0 (updL n.bm n.bs i r)) fun _ => ⟨none, 0, rfl⟩).1, (map_rem hc hR hs (m := mkC (wtoI n.bm i) none 0 (remL n.bm n.bs i)) fun _ => ⟨none, 0, rfl⟩).1⟩
theorem isC_valid {n : Nd} (h : isC n = true) : validN n = true := by
  unfold isC at h
  rw [Bool.and_eq_true] at h
  exact h.2
theorem rvalid2 {V : World} {y : Nd} (h : GN V y) (hc : isC y = true) : Calls Try.prog 19 #[.agg y.cs] V fun e w' => e = .returned (.bool true) ∧ Gr V w' := by
  have := rvalid_any y V.heap.size V h.rd (Nat.le_refl _)
  rwa [isC_valid hc] at this
end Go.Proofs.Ytcigljjnopfohaa
