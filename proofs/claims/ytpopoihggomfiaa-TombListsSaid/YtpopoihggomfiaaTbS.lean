/-
  Layer 7: what Grown and Shrunk do to the law's list.
-/
import Derived.Test.YtpopoihggomfiaaTbR
set_option linter.unusedVariables false
set_option maxRecDepth 100000
namespace Go.Proofs.Ytpopoihggomfiaa
open Go.Shelf Go.RowKit Go.Lib Go.Sort

theorem gro_no {n : Nd} {k : ByteArray} (hk : (64 : Int) < k.size) : groB n k = false := by
  simp [groB, longK, hk]
theorem gro_yes {n : Nd} {k : ByteArray} (hL : LN n) (hk : ¬ (64 : Int) < k.size) : groB n k = true := by
  simp [groB, longK, hk, hL.isL]
structure GK (n : Nd) (k : ByteArray) (v : Int) (g : Nd) : Prop where
  hash : g.hash = n.hash
  put : PutOf n.ps k v g.ps
  isL : isL g = true
  valid : validN g = true
theorem gk_of {n g : Nd} {k : ByteArray} {v : Int} (hL : LN n) (hk : ¬ (64 : Int) < k.size) (hg : Vw g (groV n k v)) : GK n k v g := by
  obtain ⟨A, c, P, d, rfl⟩ := hg
  have hb := gro_yes hL hk
  obtain ⟨ys, hy⟩ := put_ex n.ps hL.asc k v
  have hp : PutOf n.ps k v (putL n.ps k v) := putL_put hy
  have hv : groV n k v = { Nd.zero with kind := 6, hash := n.hash, ps := putL n.ps k v } := by simp only [groV, hb, if_true]
  rw [hv]
  have h2 : 2 ≤ (putL n.ps k v).length := by have := hp.2.2; have := hL.two; omega
  have hl : Ytpopoihggomfiaa.isL { Nd.zero with kind := 6, hash := n.hash, bA := A, bc := c, pA := P, pc := d, ps := putL n.ps k v } = true :=
    isL_mk rfl rfl rfl rfl rfl rfl rfl rfl rfl rfl rfl (Int.le_refl 0) hp.1 h2 (fun p hm => by
      have h1 := (lk_mem hp.1 p.1 p.2).1 hm
      rw [hp.2.1] at h1
      by_cases e : p.1 = k
      · rw [e]; omega
      · rw [if_neg e] at h1
        obtain ⟨q, hq, e2⟩ := lk_ex (by rw [h1]; rfl)
        have := hL.keys q hq
        rw [← e2]; omega)
  refine ⟨rfl, hp, hl, ?_⟩
  unfold Ytpopoihggomfiaa.isL at hl
  rw [Bool.and_eq_true] at hl
  exact hl.2
section
variable {n g : Nd} {k : ByteArray} {v : Int}
theorem GK.lk (h : GK n k v g) : Ytpopoihggomfiaa.lk g.ps k = some v := by rw [h.put.2.1, if_pos rfl]
theorem GK.len (h : GK n k v g) (hL : LN n) : g.ps.length ≤ 9 := by have h1 := h.put.2.2; have h2 := hL.len; split at h1 <;> omega
theorem GK.had (h : GK n k v g) (hk : (Ytpopoihggomfiaa.lk n.ps k).isSome = true) : g.ps.length = n.ps.length := by rw [h.put.2.2, hk]; rfl
theorem GK.shr (h : GK n k v g) (hL : LN n) (hk : (Ytpopoihggomfiaa.lk n.ps k).isSome = false) : shrB g k = true ∧ shrV g k = { Nd.zero with kind := 6, hash := n.hash, ps := n.ps } := by
  have hs : shrB g k = true := by simp [shrB, h.isL, h.lk]
  have e : wo g.ps k = n.ps := asc_ext (wo_asc h.put.1 k) hL.asc fun j => by
    rw [wo_lk, h.put.2.1]
    by_cases ej : j = k
    · subst ej
      rw [if_pos rfl]
      cases hh : Ytpopoihggomfiaa.lk n.ps j with
      | none => rfl
      | some u => rw [hh] at hk; cases hk
    · rw [if_neg ej, if_neg ej]
  refine ⟨hs, ?_⟩
  have h1 : ¬ n.ps.length = 1 := by have := hL.two; omega
  simp only [shrV, hs, if_true, e, restV, h.hash]
  rw [if_neg h1]
end
end Go.Proofs.Ytpopoihggomfiaa
