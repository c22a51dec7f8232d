/-
  Layer 7: a list that is shrunk again and again.
-/
import Derived.Test.YtpopoihggomfiaaTbT
set_option linter.unusedVariables false
set_option maxRecDepth 100000
namespace Go.Proofs.Ytpopoihggomfiaa
open Go.Shelf Go.RowKit Go.Lib Go.Sort

theorem cut_at {L : List Pr} {i : Nat} {x : Pr} (hx : L[i]? = some x) : L = L.take i ++ x :: L.drop (i + 1) := by
  obtain ⟨hl, e⟩ := List.getElem?_eq_some_iff.1 hx
  rw [← e, ← List.drop_eq_getElem_cons hl, List.take_append_drop]
theorem wo_erase {L : List Pr} (ha : Asc L) {i : Nat} {x : Pr} (hx : L[i]? = some x) : wo L x.1 = L.take i ++ L.drop (i + 1) := by
  have hs := cut_at hx
  have hp : (L.take i ++ x :: L.drop (i + 1)).Pairwise fun x y => kl x.1 y.1 = true := by rw [← hs]; exact ha
  obtain ⟨_, h2, h3⟩ := List.pairwise_append.1 hp
  have h4 := (List.pairwise_cons.1 h2).1
  have key : ∀ p : Pr, p.1 ≠ x.1 → (!(p.1.toList == x.1.toList)) = true := fun p hne => by
    simp only [Bool.not_eq_true', beq_eq_false_iff_ne]
    rw [Lib.toList_data, Lib.toList_data]
    exact fun e => hne (key_ext e)
  have e1 : (L.take i).filter (fun p => !(p.1.toList == x.1.toList)) = L.take i := List.filter_eq_self.2 fun p hp => key p (kl_ne (h3 p hp x (List.mem_cons_self ..)))
  have e2 : (L.drop (i + 1)).filter (fun p => !(p.1.toList == x.1.toList)) = L.drop (i + 1) := List.filter_eq_self.2 fun p hp => key p (Ne.symm (kl_ne (h4 p hp)))
  have : wo (L.take i ++ x :: L.drop (i + 1)) x.1 = L.take i ++ L.drop (i + 1) := by
    unfold wo
    rw [List.filter_append, List.filter_cons, e1, e2]
    simp
  rw [← hs] at this
  exact this
/-- The node of a list of pairs that are left. -/
structure Dn (h : Int) (m : Nd) (L : List Pr) : Prop where
  hash : m.hash = h
  bs : m.bs = []
  asc : Asc L
  keys : ∀ p ∈ L, p.1.size ≤ 3
  st : (2 ≤ L.length ∧ isL m = true ∧ m.ps = L) ∨ (∃ x, L = [x] ∧ m.kind = 5 ∧ m.key = x.1 ∧ m.val = x.2)
theorem Dn.first {n : Nd} (h : LN n) (hb : n.bs = []) : Dn n.hash n n.ps := ⟨rfl, hb, h.asc, h.keys, .inl ⟨h.two, h.isL, rfl⟩⟩
theorem isL_bs {n : Nd} (h : isL n = true) : n.bs = [] := by
  obtain ⟨kind, gen, main, bm, bA, bc, bs, hash, key, val, pA, pc, ps, prev, old, exp, new, status⟩ := n
  unfold isL at h
  rw [Bool.and_eq_true, beq_iff_eq] at h
  obtain ⟨hk, hv⟩ := h
  simp only at hk
  subst hk
  unfold validN at hv
  rw [Bool.and_eq_true] at hv
  have := hv.1
  simp [eqN, own, Nd.zero] at this
  exact this.2.2.2.1
theorem Dn.step {h : Int} {m : Nd} {L : List Pr} (d : Dn h m L) (h2 : 2 ≤ L.length) {i : Nat} {x : Pr} (hx : L[i]? = some x) :
    shrB m x.1 = true ∧ ∀ y, Vw y (shrV m x.1) → Dn h y (L.take i ++ L.drop (i + 1)) ∧ (1 < (L.take i ++ L.drop (i + 1)).length → y.ps = L.take i ++ L.drop (i + 1)) := by
  rcases d.st with ⟨_, hl, hp⟩ | ⟨z, hz, _⟩
  · have hm : x ∈ L := List.mem_of_getElem? hx
    have hk : lk L x.1 = some x.2 := (lk_mem d.asc x.1 x.2).1 hm
    have hs : shrB m x.1 = true := by simp [shrB, hl, hp, hk]
    have hw : wo m.ps x.1 = L.take i ++ L.drop (i + 1) := by rw [hp]; exact wo_erase d.asc hx
    have hlen : (L.take i ++ L.drop (i + 1)).length + 1 = L.length := by
      have := (List.getElem?_eq_some_iff.1 hx).1
      simp; omega
    have ha : Asc (L.take i ++ L.drop (i + 1)) := by rw [← hw]; exact wo_asc (by rw [hp]; exact d.asc) _
    have hkeys : ∀ p ∈ L.take i ++ L.drop (i + 1), p.1.size ≤ 3 := fun p hm => d.keys p ((List.mem_append.1 hm).elim List.mem_of_mem_take List.mem_of_mem_drop)
    refine ⟨hs, fun y hy => ?_⟩
    have hv : shrV m x.1 = restV h (L.take i ++ L.drop (i + 1)) := by simp only [shrV, hs, if_true, hw, d.hash]
    rw [hv] at hy
    generalize L.take i ++ L.drop (i + 1) = R at *
    unfold restV at hy
    by_cases h1 : R.length = 1
    · rw [if_pos h1] at hy
      obtain ⟨A, c, P, q, rfl⟩ := hy
      match R, h1 with
      | [u], _ => exact ⟨⟨rfl, rfl, ha, hkeys, .inr ⟨u, rfl, rfl, rfl, rfl⟩⟩, fun hh => absurd hh (by simp)⟩
    · rw [if_neg h1] at hy
      obtain ⟨A, c, P, q, rfl⟩ := hy
      have hr2 : 2 ≤ R.length := by omega
      exact ⟨⟨rfl, rfl, ha, hkeys, .inl ⟨hr2, isL_mk rfl rfl rfl rfl rfl rfl rfl rfl rfl rfl rfl (Int.le_refl 0) ha hr2 (fun p hm => by have := hkeys p hm; omega), rfl⟩⟩, fun _ => rfl⟩
  · rw [hz] at h2; simp at h2
theorem Dn.last {h : Int} {m : Nd} {L : List Pr} (d : Dn h m L) (h1 : ¬ 1 < L.length) : ∃ x, L = [x] ∧ m.kind = 5 ∧ m.key = x.1 ∧ m.val = x.2 := by
  rcases d.st with ⟨h2, _⟩ | h
  · omega
  · exact h
/-- A node whose lists' blocks are as they were. -/
theorem gn_same {w w' : World} {n : Nd} (h : GN w n) (hs : w.heap.size ≤ w'.heap.size) (hb : n.bs = []) (hp : ∀ ad, n.pA = some ad → 0 < n.ps.length → ad.block < w.heap.size → w'.heap[ad.block]? = w.heap[ad.block]?) : GN w' n := by
  refine ⟨⟨fun hn => by rw [hb] at hn; simp at hn, fun hn => ?_, h.rd.bm, h.rd.bl, h.rd.pl⟩, h.ba, h.pa, h.bc, h.pc⟩
  obtain ⟨ad, e, hlt, hc⟩ := h.rd.p hn
  exact ⟨ad, e, Nat.lt_of_lt_of_le hlt hs, fun j u hu => (World.cell?_of_block (by rw [block_add]; exact hp ad e hn hlt)).trans (hc j u hu)⟩
end Go.Proofs.Ytpopoihggomfiaa
