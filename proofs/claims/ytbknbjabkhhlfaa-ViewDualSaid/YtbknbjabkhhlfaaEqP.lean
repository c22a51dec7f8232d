/-
  The walks of Equal of the program, the whole: nodes that differ first at one field, or at none.
-/
import Derived.Test.YtbknbjabkhhlfaaEqP1
import Derived.Test.YtbknbjabkhhlfaaEqP2
set_option linter.unusedVariables false
set_option maxRecDepth 100000
namespace Go.Proofs.Ytbknbjabkhhlfaa
open Go.Shelf Go.RowKit Go.Lib Go.Sort
theorem equal_any (a b : Nd) (B : Nat) (w : World) (ha : NRd w B a) (hb : NRd w B b) (hB : B ≤ w.heap.size) :
    Calls Try.prog 61 #[.agg a.cs, .agg b.cs] w fun e w' => e = .returned (.bool (eqN a b)) ∧ Gr w w' := by
  obtain ⟨kind, gen, main, bm, bA, bc, bs, hash, key, val, pA, pc, ps, prev, old, exp, new, status⟩ := a
  obtain ⟨kind', gen', main', bm', bA', bc', bs', hash', key', val', pA', pc', ps', prev', old', exp', new', status'⟩ := b
  by_cases h : kind = kind'
  rotate_left
  · rw [show eqN ⟨kind, gen, main, bm, bA, bc, bs, hash, key, val, pA, pc, ps, prev, old, exp, new, status⟩ ⟨kind', gen', main', bm', bA', bc', bs', hash', key', val', pA', pc', ps', prev', old', exp', new', status'⟩ = false by simp [eqN, h]]
    exact equal_kind _ _ _ _ _ _ _ _ _ _ _ _ _ _ _ _ _ _ _ _ _ _ _ _ _ _ _ _ _ _ _ _ _ _ _ _ _ _ ha hb hB h
  subst h
  by_cases h : gen = gen'
  rotate_left
  · rw [show eqN ⟨kind, gen, main, bm, bA, bc, bs, hash, key, val, pA, pc, ps, prev, old, exp, new, status⟩ ⟨kind, gen', main', bm', bA', bc', bs', hash', key', val', pA', pc', ps', prev', old', exp', new', status'⟩ = false by simp [eqN, h]]
    exact equal_gen _ _ _ _ _ _ _ _ _ _ _ _ _ _ _ _ _ _ _ _ _ _ _ _ _ _ _ _ _ _ _ _ _ _ _ _ _ ha hb hB h
  subst h
  by_cases h : main = main'
  rotate_left
  · rw [show eqN ⟨kind, gen, main, bm, bA, bc, bs, hash, key, val, pA, pc, ps, prev, old, exp, new, status⟩ ⟨kind, gen, main', bm', bA', bc', bs', hash', key', val', pA', pc', ps', prev', old', exp', new', status'⟩ = false by simp [eqN, h]]
    exact equal_main _ _ _ _ _ _ _ _ _ _ _ _ _ _ _ _ _ _ _ _ _ _ _ _ _ _ _ _ _ _ _ _ _ _ _ _ ha hb hB h
  subst h
  by_cases h : bm = bm'
  rotate_left
  · rw [show eqN ⟨kind, gen, main, bm, bA, bc, bs, hash, key, val, pA, pc, ps, prev, old, exp, new, status⟩ ⟨kind, gen, main, bm', bA', bc', bs', hash', key', val', pA', pc', ps', prev', old', exp', new', status'⟩ = false by simp [eqN, h]]
    exact equal_bm _ _ _ _ _ _ _ _ _ _ _ _ _ _ _ _ _ _ _ _ _ _ _ _ _ _ _ _ _ _ _ _ _ _ _ ha hb hB h
  subst h
  by_cases h : bs = bs'
  rotate_left
  · rw [show eqN ⟨kind, gen, main, bm, bA, bc, bs, hash, key, val, pA, pc, ps, prev, old, exp, new, status⟩ ⟨kind, gen, main, bm, bA', bc', bs', hash', key', val', pA', pc', ps', prev', old', exp', new', status'⟩ = false by simp [eqN, h]]
    exact equal_bs _ _ _ _ _ _ _ _ _ _ _ _ _ _ _ _ _ _ _ _ _ _ _ _ _ _ _ _ _ _ _ _ _ _ ha hb hB h
  subst h
  by_cases h : hash = hash'
  rotate_left
  · rw [show eqN ⟨kind, gen, main, bm, bA, bc, bs, hash, key, val, pA, pc, ps, prev, old, exp, new, status⟩ ⟨kind, gen, main, bm, bA', bc', bs, hash', key', val', pA', pc', ps', prev', old', exp', new', status'⟩ = false by simp [eqN, h]]
    exact equal_hash _ _ _ _ _ _ _ _ _ _ _ _ _ _ _ _ _ _ _ _ _ _ _ _ _ _ _ _ _ _ _ _ _ ha hb hB h
  subst h
  by_cases h : key = key'
  rotate_left
  · rw [show eqN ⟨kind, gen, main, bm, bA, bc, bs, hash, key, val, pA, pc, ps, prev, old, exp, new, status⟩ ⟨kind, gen, main, bm, bA', bc', bs, hash, key', val', pA', pc', ps', prev', old', exp', new', status'⟩ = false by simp [eqN, h]]
    exact equal_key _ _ _ _ _ _ _ _ _ _ _ _ _ _ _ _ _ _ _ _ _ _ _ _ _ _ _ _ _ _ _ _ ha hb hB h
  subst h
  by_cases h : val = val'
  rotate_left
  · rw [show eqN ⟨kind, gen, main, bm, bA, bc, bs, hash, key, val, pA, pc, ps, prev, old, exp, new, status⟩ ⟨kind, gen, main, bm, bA', bc', bs, hash, key, val', pA', pc', ps', prev', old', exp', new', status'⟩ = false by simp [eqN, h]]
    exact equal_val _ _ _ _ _ _ _ _ _ _ _ _ _ _ _ _ _ _ _ _ _ _ _ _ _ _ _ _ _ _ _ ha hb hB h
  subst h
  by_cases h : ps = ps'
  rotate_left
  · rw [show eqN ⟨kind, gen, main, bm, bA, bc, bs, hash, key, val, pA, pc, ps, prev, old, exp, new, status⟩ ⟨kind, gen, main, bm, bA', bc', bs, hash, key, val, pA', pc', ps', prev', old', exp', new', status'⟩ = false by simp [eqN, h]]
    exact equal_ps _ _ _ _ _ _ _ _ _ _ _ _ _ _ _ _ _ _ _ _ _ _ _ _ _ _ _ _ _ _ ha hb hB h
  subst h
  by_cases h : prev = prev'
  rotate_left
  · rw [show eqN ⟨kind, gen, main, bm, bA, bc, bs, hash, key, val, pA, pc, ps, prev, old, exp, new, status⟩ ⟨kind, gen, main, bm, bA', bc', bs, hash, key, val, pA', pc', ps, prev', old', exp', new', status'⟩ = false by simp [eqN, h]]
    exact equal_prev _ _ _ _ _ _ _ _ _ _ _ _ _ _ _ _ _ _ _ _ _ _ _ _ _ _ _ _ _ ha hb hB h
  subst h
  by_cases h : old = old'
  rotate_left
  · rw [show eqN ⟨kind, gen, main, bm, bA, bc, bs, hash, key, val, pA, pc, ps, prev, old, exp, new, status⟩ ⟨kind, gen, main, bm, bA', bc', bs, hash, key, val, pA', pc', ps, prev, old', exp', new', status'⟩ = false by simp [eqN, h]]
    exact equal_old _ _ _ _ _ _ _ _ _ _ _ _ _ _ _ _ _ _ _ _ _ _ _ _ _ _ _ _ ha hb hB h
  subst h
  by_cases h : exp = exp'
  rotate_left
  · rw [show eqN ⟨kind, gen, main, bm, bA, bc, bs, hash, key, val, pA, pc, ps, prev, old, exp, new, status⟩ ⟨kind, gen, main, bm, bA', bc', bs, hash, key, val, pA', pc', ps, prev, old, exp', new', status'⟩ = false by simp [eqN, h]]
    exact equal_exp _ _ _ _ _ _ _ _ _ _ _ _ _ _ _ _ _ _ _ _ _ _ _ _ _ _ _ ha hb hB h
  subst h
  by_cases h : new = new'
  rotate_left
  · rw [show eqN ⟨kind, gen, main, bm, bA, bc, bs, hash, key, val, pA, pc, ps, prev, old, exp, new, status⟩ ⟨kind, gen, main, bm, bA', bc', bs, hash, key, val, pA', pc', ps, prev, old, exp, new', status'⟩ = false by simp [eqN, h]]
    exact equal_new _ _ _ _ _ _ _ _ _ _ _ _ _ _ _ _ _ _ _ _ _ _ _ _ _ _ ha hb hB h
  subst h
  by_cases h : status = status'
  rotate_left
  · rw [show eqN ⟨kind, gen, main, bm, bA, bc, bs, hash, key, val, pA, pc, ps, prev, old, exp, new, status⟩ ⟨kind, gen, main, bm, bA', bc', bs, hash, key, val, pA', pc', ps, prev, old, exp, new, status'⟩ = false by simp [eqN, h]]
    exact equal_status _ _ _ _ _ _ _ _ _ _ _ _ _ _ _ _ _ _ _ _ _ _ _ _ _ ha hb hB h
  subst h
  rw [show eqN ⟨kind, gen, main, bm, bA, bc, bs, hash, key, val, pA, pc, ps, prev, old, exp, new, status⟩ ⟨kind, gen, main, bm, bA', bc', bs, hash, key, val, pA', pc', ps, prev, old, exp, new, status⟩ = true by simp [eqN]]
  exact equal_all _ _ _ _ _ _ _ _ _ _ _ _ _ _ _ _ _ _ _ _ _ _ _ _ ha hb hB

end Go.Proofs.Ytbknbjabkhhlfaa
