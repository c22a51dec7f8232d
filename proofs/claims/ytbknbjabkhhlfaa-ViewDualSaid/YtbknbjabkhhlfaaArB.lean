/-
  The walks of ownCell, hasCell, marked.
-/
import Derived.Test.YtbknbjabkhhlfaaArA
import Derived.Test.YtbknbjabkhhlfaaWalksG
import Derived.Test.YtbknbjabkhhlfaaEqP
set_option linter.unusedVariables false
set_option maxRecDepth 100000
namespace Go.Proofs.Ytbknbjabkhhlfaa
open Go.Shelf Go.RowKit Go.Lib Go.Sort
attribute [local go_sem ↓] exec_load28

/-- The place of a node's own cell. -/
def ownIx (n : Nd) : Option Nat := if n.kind = 2 then some 2 else if n.kind = 8 then some 13 else if mainB n then some 9 else none
def ownP (b : Nat) (n : Nd) : Value := .pointer ((ownIx n).map fun i => ⟨b, i, none⟩)
set_option maxHeartbeats 2000000 in
theorem ownCell_any (b : Nat) (n : Nd) (w : World) (h : w.heap[b]? = some (.cells n.cs 35 (0, 0))) : Calls Try.prog 27 #[.pointer (some ⟨b, 0, none⟩)] w fun e w' => e = .returned (ownP b n) ∧ Gr w w' := by
  have c0 := node_cellA h (i := 0) (v := .int .i64 n.kind) rfl
  have ld := run_loadNode h
  have MM := Lib.hid (fun V => main_any n V)
  clear h
  by_cases k2 : n.kind = 2
  · rw [show ownP b n = .pointer (some ⟨b, 2, none⟩) by simp [ownP, ownIx, k2]]
    have t2 : (n.kind == 2) = true := beq_iff_eq.2 k2
    clear k2 MM ld
    go_enter Try.func27, Try.ntmps27
    go_wp2
    go_ret
    exact ⟨rfl, Gr.refl _⟩
  by_cases k8 : n.kind = 8
  · rw [show ownP b n = .pointer (some ⟨b, 13, none⟩) by simp [ownP, ownIx, k8]]
    have t2 : (n.kind == 2) = false := beq_eq_false_iff_ne.2 k2
    have t8 : (n.kind == 8) = true := beq_iff_eq.2 k8
    clear k2 k8 MM ld
    go_enter Try.func27, Try.ntmps27
    go_wp2
    go_ret
    exact ⟨rfl, Gr.refl _⟩
  have t2 : (n.kind == 2) = false := beq_eq_false_iff_ne.2 k2
  have t8 : (n.kind == 8) = false := beq_eq_false_iff_ne.2 k8
  cases hm : mainB n with
  | true =>
    rw [show ownP b n = .pointer (some ⟨b, 9, none⟩) by simp [ownP, ownIx, k2, k8, hm]]
    rw [hm] at MM
    clear k2 k8 hm
    go_enter Try.func27, Try.ntmps27
    go_wp2_with (go_at_call 47; refine (MM.out _).mono ?_; rintro e w' ⟨rfl, hg⟩; have HG := Lib.hid hg; clear hg)
    go_ret
    exact ⟨rfl, HG.out⟩
  | false =>
    rw [show ownP b n = .pointer none by simp [ownP, ownIx, k2, k8, hm]]
    rw [hm] at MM
    clear k2 k8 hm
    go_enter Try.func27, Try.ntmps27
    go_wp2_with (go_at_call 47; refine (MM.out _).mono ?_; rintro e w' ⟨rfl, hg⟩; have HG := Lib.hid hg; clear hg)
    go_ret
    exact ⟨rfl, HG.out⟩

def hasC (s : Sd) (c : Int) : Bool := decide (1 ≤ c) && decide (c ≤ (s.cs.length : Int))
set_option maxHeartbeats 2000000 in
theorem hasCell_any (s : Sd) (c : Int) (w : World) : Calls Try.prog 54 #[.agg s.vals, .int .i64 c] w fun e w' => e = .returned (.bool (hasC s c)) ∧ Gr w w' := by
  unfold Sd.vals
  by_cases h1 : 1 ≤ c
  · have d1 : decide (c ≥ 1) = true := decide_eq_true h1
    by_cases h2 : c ≤ (s.cs.length : Int)
    · rw [show hasC s c = true by simp [hasC, h1, h2]]
      have d2 : decide (c ≤ (s.cs.length : Int)) = true := decide_eq_true h2
      clear h1 h2
      go_enter Try.func54, Try.ntmps54
      go_wp2
      go_ret
      exact ⟨rfl, (Gr.refl w).alloc _⟩
    · rw [show hasC s c = false by simp [hasC, h2]]
      have d2 : decide (c ≤ (s.cs.length : Int)) = false := decide_eq_false h2
      clear h1 h2
      go_enter Try.func54, Try.ntmps54
      go_wp2
      go_ret
      exact ⟨rfl, (Gr.refl w).alloc _⟩
  · rw [show hasC s c = false by simp [hasC, h1]]
    have d1 : decide (c ≥ 1) = false := decide_eq_false h1
    clear h1
    go_enter Try.func54, Try.ntmps54
    go_wp2
    go_ret
    exact ⟨rfl, (Gr.refl w).alloc _⟩

def kindAt (s : Sd) (i : Nat) : Int := match s.ns[i]? with | some n => n.kind | none => 0
def markedB (s : Sd) : Bool := decide (2 ≤ s.ns.length) && (kindAt s 0 == 1 && kindAt s 1 == 1)
set_option maxHeartbeats 2000000 in
theorem marked_any (s : Sd) (B : Nat) (w : World) (h : SRd w B s) (hB : B ≤ w.heap.size) : Calls Try.prog 34 #[.agg s.vals] w fun e w' => e = .returned (.bool (markedB s)) ∧ Gr w w' := by
  have hl := h.nl
  by_cases h2 : s.ns.length < 2
  · rw [show markedB s = false by simp [markedB, Nat.not_le.2 h2]]
    have d : decide ((s.ns.length : Int) < 2) = true := decide_eq_true (by omega)
    clear h h2
    unfold Sd.vals
    go_enter Try.func34, Try.ntmps34
    go_wp2
    go_ret
    exact ⟨rfl, (Gr.refl w).alloc _⟩
  · have h0 : ∃ n0, s.ns[0]? = some n0 := ⟨_, List.getElem?_eq_getElem (by omega)⟩
    have h1 : ∃ n1, s.ns[1]? = some n1 := ⟨_, List.getElem?_eq_getElem (by omega)⟩
    obtain ⟨n0, e0⟩ := h0
    obtain ⟨n1, e1⟩ := h1
    rw [show markedB s = (n0.kind == 1 && n1.kind == 1) by simp [markedB, kindAt, e0, e1]; omega]
    obtain ⟨b, o, eA, hb, hc0⟩ := h.n.at_ e0
    obtain ⟨b', o', eA', hb', hc1⟩ := h.n.at_ e1
    have ee := eA.symm.trans eA'
    injection ee with ee
    injection ee with eb eo
    subst eb eo
    have c0 := fun os => (World.cell?_alloc_lt w os ⟨b, o, none⟩ (by show b < _; omega)).trans ((hc0 0 (by omega)).trans (show n0.cs[0]? = some (.int .i64 n0.kind) from rfl))
    have c1 := fun os => (World.cell?_alloc_lt w os ⟨b, o + 14, none⟩ (by show b < _; omega)).trans ((hc1 0 (by omega)).trans (show n1.cs[0]? = some (.int .i64 n1.kind) from rfl))
    have d : decide ((s.ns.length : Int) < 2) = false := decide_eq_false (by omega)
    have l0 : (0 : Int) < (s.ns.length : Int) := by omega
    have l1 : (1 : Int) < (s.ns.length : Int) := by omega
    unfold Sd.vals
    rw [eA]
    clear h e0 e1 hc0 hc1 eA eA' h2
    cases k0 : (n0.kind == 1) with
    | false =>
      simp only [Bool.false_and]
      go_enter Try.func34, Try.ntmps34
      go_wp2
      go_ret
      exact ⟨rfl, (Gr.refl w).alloc _⟩
    | true =>
      cases k1 : (n1.kind == 1) with
      | false =>
        go_enter Try.func34, Try.ntmps34
        go_wp2
        go_ret
        exact ⟨rfl, (Gr.refl w).alloc _⟩
      | true =>
        go_enter Try.func34, Try.ntmps34
        go_wp2
        go_ret
        exact ⟨rfl, (Gr.refl w).alloc _⟩

end Go.Proofs.Ytbknbjabkhhlfaa
