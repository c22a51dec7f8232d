/-
  The walks of Wipe; what a wiped row leaves as it was.
-/
import Derived.Test.YtojcdnjnhejlmaaWalksI
set_option linter.unusedVariables false
namespace Go.Proofs.Ytojcdnjnhejlmaa
open Go.Shelf Go.RowKit Go.Lib Go.Sort

/-! ### Wipe -/
/-- Row g, of so many cells. -/
def RowN (w : World) (g S : Nat) : Prop := ∃ cur, w.heap[g]? = some (.cells cur 41 (0, 0)) ∧ cur.size = S
theorem RowN.lt {w : World} {g S : Nat} (h : RowN w g S) : g < w.heap.size := by
  obtain ⟨cur, hg, _⟩ := h
  exact (Array.getElem?_eq_some_iff.1 hg).1
theorem RowN.cell {w : World} {g S i : Nat} (h : RowN w g S) (hi : i < S) : (∃ v, w.cell? ⟨g, i, none⟩ = some v) ∧ w.frozen? ⟨g, i, none⟩ = false := by
  obtain ⟨cur, hg, hs⟩ := h
  refine ⟨⟨cur[i]'(by omega), ?_⟩, by simp [World.frozen?, hg]⟩
  rw [cell_of_row w g i cur 41 (0, 0) hg, Array.getElem?_eq_getElem (by omega)]
theorem RowN.set {w : World} {g S : Nat} (h : RowN w g S) (b o : Nat) (v : Value) : RowN (w.setCell ⟨b, o, none⟩ v) g S := by
  obtain ⟨cur, hg, hs⟩ := h
  by_cases e : b = g
  · subst e
    refine ⟨cur.setIfInBounds o v, ?_, by simpa using hs⟩
    simp [World.setCell, Array.getElem?_modify, hg]
  · exact ⟨cur, (Below.heap_setCell w ⟨b, o, none⟩ v g (fun h => e h.symm)).trans hg, hs⟩
theorem grown_set {w w' : World} {g : Nat} (h : w.grownBy w' (some g)) (o : Nat) (v : Value) : w.grownBy (w'.setCell ⟨g, o, none⟩ v) (some g) :=
  ⟨h.os, h.tape, h.output, by simpa using h.size, fun k hk hne => (Below.heap_setCell w' ⟨g, o, none⟩ v k (fun e => hne (by rw [e]))).trans (h.block k hk hne)⟩
theorem RowN.old {w w' : World} {g S : Nat} (h : RowN w g S) (e : w'.heap[g]? = w.heap[g]?) : RowN w' g S := by
  obtain ⟨cur, hg, hs⟩ := h
  exact ⟨cur, e.trans hg, hs⟩

def WipePPost (g S : Nat) (w : World) (e : Ending) (w' : World) : Prop := e = .returned (.tuple #[]) ∧ w.grownBy w' (some g) ∧ RowN w' g S

set_option maxHeartbeats 1000000 in
theorem wipeP_row (g m c S : Nat) (f : Pr) (w : World) (h : RowN w g S) (hm : m * 2 ≤ S) (hn : m ≤ 1000000) :
    Calls Try.prog 28 #[.slice (some ⟨g, 0, none⟩) m c, .agg #[.string f.1, .int .u64 f.2]] w (WipePPost g S w) := by
  have H := Lib.hid h
  have hgw := h.lt
  clear h
  have I0 : Aside (RowN (w.alloc (.cells #[.string f.1, .int .u64 f.2] 41)) g S) := H.out.old (Below.heap_alloc w _ g hgw)
  have G0 : Aside (w.grownBy (w.alloc (.cells #[.string f.1, .int .u64 f.2] 41)) (some g)) := ⟨rfl, rfl, rfl, by simp, fun k hk _ => Below.heap_alloc w _ k hk⟩
  go_enter Try.func28, Try.ntmps28
  go_wp2
  go_loopg [4] m (fun kx s4 wr => ∃ i : Nat, s4 = .int .i64 i ∧ i ≤ m ∧ m - i ≤ kx ∧ Aside (RowN wr g S) ∧ Aside (w.grownBy wr (some g)) ∧ Aside (wr.cell? ⟨w.heap.size, 0, none⟩ = some (.string f.1) ∧ wr.cell? ⟨w.heap.size, 1, none⟩ = some (.int .u64 f.2)))
  case atStart => exact ⟨0, rfl, Nat.zero_le _, by omega, I0, G0, (⟨by simp, by simp⟩ : _ ∧ _)⟩
  case round =>
    clear I0 G0
    obtain ⟨i, rfl, hi, hkx, R, G, BX⟩ := hrel
    by_cases hlt : i < m
    · have hltz : (i : Int) < (m : Int) := by omega
      obtain ⟨b0, b1⟩ := BX.out
      obtain ⟨⟨u0, c0⟩, f0⟩ := R.out.cell (i := i * 2) (by omega)
      obtain ⟨⟨u1, c1⟩, f1⟩ := R.out.cell (i := i * 2 + 1) (by omega)
      have hgb : ¬ g = w.heap.size := by omega
      have hgb' : ¬ w.heap.size = g := by omega
      go_wp2
      go_roundg (m - (i + 1))
      case measure => omega
      case rel =>
        refine ⟨i + 1, by go_num, by omega, Nat.le_refl _, (R.out.set _ _ _).set _ _ _, grown_set (grown_set G.out _ _) _ _, (⟨?_, ?_⟩ : _ ∧ _)⟩
        · rw [World.cell?_setCell_other _ _ _ _ (fun e => hgb (by injection e)), World.cell?_setCell_other _ _ _ _ (fun e => hgb (by injection e))]; exact BX.out.1
        · rw [World.cell?_setCell_other _ _ _ _ (fun e => hgb (by injection e)), World.cell?_setCell_other _ _ _ _ (fun e => hgb (by injection e))]; exact BX.out.2
    · go_wp2
      go_end0
      exact ⟨rfl, G.out, R.out⟩


theorem wipeP_nil (c : Nat) (f : Pr) (w : World) :
    Calls Try.prog 28 #[.slice none 0 c, .agg #[.string f.1, .int .u64 f.2]] w fun e w' => e = .returned (.tuple #[]) ∧ Below w.heap.size w w' := by
  go_enter Try.func28, Try.ntmps28
  go_wp2
  go_loopg [4] 1 (fun kx s4 wr => s4 = .int .i64 0 ∧ Aside (Below w.heap.size w wr))
  case atStart => exact ⟨rfl, (Below.refl _ w).alloc (Nat.le_refl _) _⟩
  case round =>
    obtain ⟨rfl, HB⟩ := hrel
    go_wp2
    go_end0
    exact ⟨rfl, HB.out⟩


/-! ### refs -/
def RowNR (w : World) (g S : Nat) : Prop := ∃ cur, w.heap[g]? = some (.cells cur 26 (0, 0)) ∧ cur.size = S
theorem RowNR.lt {w : World} {g S : Nat} (h : RowNR w g S) : g < w.heap.size := by
  obtain ⟨cur, hg, _⟩ := h
  exact (Array.getElem?_eq_some_iff.1 hg).1
theorem RowNR.cell {w : World} {g S i : Nat} (h : RowNR w g S) (hi : i < S) : (∃ v, w.cell? ⟨g, i, none⟩ = some v) ∧ w.frozen? ⟨g, i, none⟩ = false := by
  obtain ⟨cur, hg, hs⟩ := h
  refine ⟨⟨cur[i]'(by omega), ?_⟩, by simp [World.frozen?, hg]⟩
  rw [cell_of_row w g i cur 26 (0, 0) hg, Array.getElem?_eq_getElem (by omega)]
theorem RowNR.set {w : World} {g S : Nat} (h : RowNR w g S) (b o : Nat) (v : Value) : RowNR (w.setCell ⟨b, o, none⟩ v) g S := by
  obtain ⟨cur, hg, hs⟩ := h
  by_cases e : b = g
  · subst e
    refine ⟨cur.setIfInBounds o v, ?_, by simpa using hs⟩
    simp [World.setCell, Array.getElem?_modify, hg]
  · exact ⟨cur, (Below.heap_setCell w ⟨b, o, none⟩ v g (fun h => e h.symm)).trans hg, hs⟩
def WipeRPost (g S : Nat) (w : World) (e : Ending) (w' : World) : Prop := e = .returned (.tuple #[]) ∧ w.grownBy w' (some g) ∧ RowNR w' g S

theorem grown_refl (a : World) (T : Nat) : a.grownBy a (some T) := ⟨rfl, rfl, rfl, Nat.le_refl _, fun _ _ _ => rfl⟩
set_option maxHeartbeats 1000000 in
theorem wipeR_row (g m c S : Nat) (f : Int) (w : World) (h : RowNR w g S) (hm : m ≤ S) (hn : m ≤ 1000000) :
    Calls Try.prog 27 #[.slice (some ⟨g, 0, none⟩) m c, .int .i64 f] w (WipeRPost g S w) := by
  have H := Lib.hid h
  clear h
  have I0 : Aside (RowNR w g S) := H.out
  have G0 : Aside (w.grownBy w (some g)) := grown_refl w g
  go_enter Try.func27, Try.ntmps27
  go_wp2
  go_loopg [4] m (fun kx s4 wr => ∃ i : Nat, s4 = .int .i64 i ∧ i ≤ m ∧ m - i ≤ kx ∧ Aside (RowNR wr g S) ∧ Aside (w.grownBy wr (some g)))
  case atStart => exact ⟨0, rfl, Nat.zero_le _, by omega, I0, G0⟩
  case round =>
    clear I0 G0
    obtain ⟨i, rfl, hi, hkx, R, G⟩ := hrel
    by_cases hlt : i < m
    · have hltz : (i : Int) < (m : Int) := by omega
      obtain ⟨⟨u0, c0⟩, f0⟩ := R.out.cell (i := i) (by omega)
      go_wp2
      go_roundg (m - (i + 1))
      case measure => omega
      case rel => exact ⟨i + 1, by go_num, by omega, Nat.le_refl _, R.out.set _ _ _, grown_set G.out _ _⟩
    · go_wp2
      go_end0
      exact ⟨rfl, G.out, R.out⟩
theorem wipeR_nil (c : Nat) (f : Int) (w : World) :
    Calls Try.prog 27 #[.slice none 0 c, .int .i64 f] w fun e w' => e = .returned (.tuple #[]) ∧ Below w.heap.size w w' := by
  go_enter Try.func27, Try.ntmps27
  go_wp2
  go_loopg [4] 1 (fun kx s4 wr => s4 = .int .i64 0 ∧ Aside (Below w.heap.size w wr))
  case atStart => exact ⟨rfl, Below.refl _ w⟩
  case round =>
    obtain ⟨rfl, HB⟩ := hrel
    go_wp2
    go_end0
    exact ⟨rfl, HB.out⟩

/-! ### What a call on a row leaves -/
/-- Nothing of w changed, but perhaps one row of type t between the blocks lo and hi. -/
def Wiped (t lo hi : Nat) (w w' : World) : Prop := Below w.heap.size w w' ∨ ∃ g cur, lo ≤ g ∧ g < hi ∧ w.heap[g]? = some (.cells cur t (0, 0)) ∧ w.grownBy w' (some g)
theorem Wiped.block {t lo hi : Nat} {w w' : World} (h : Wiped t lo hi w w') {k : Nat} (hk : k < w.heap.size) (ho : k < lo ∨ hi ≤ k) : w'.heap[k]? = w.heap[k]? := by
  rcases h with h | ⟨g, cur, h1, h2, _, hg⟩
  · exact h.block k hk
  · exact hg.block k hk (fun e => by injection e with e; omega)
theorem Wiped.other {t lo hi : Nat} {w w' : World} (h : Wiped t lo hi w w') {k : Nat} {cs : Array Value} {t' : TypeId} {fr : Nat × Nat} (hk : w.heap[k]? = some (.cells cs t' fr)) (ht : t' ≠ t) : w'.heap[k]? = w.heap[k]? := by
  have hlt := (Array.getElem?_eq_some_iff.1 hk).1
  rcases h with h | ⟨g, cur, h1, h2, hc, hg⟩
  · exact h.block k hlt
  · refine hg.block k hlt (fun e => ?_)
    injection e with e
    subst e
    rw [hk] at hc
    injection hc with hc
    injection hc with _ hc _
    exact ht hc
theorem Wiped.size {t lo hi : Nat} {w w' : World} (h : Wiped t lo hi w w') : w.heap.size ≤ w'.heap.size := by
  rcases h with h | ⟨g, cur, h1, h2, hc, hg⟩
  · exact h.size
  · exact hg.size
theorem Wiped.below {t lo hi : Nat} {w w' : World} (h : Wiped t lo hi w w') (hlo : lo ≤ w.heap.size) : Below lo w w' := by
  rcases h with h | ⟨g, cur, h1, h2, hc, hg⟩
  · exact h.mono hlo
  · exact ⟨hg.os, hg.tape, hg.output, hg.size, fun k hk => hg.block k (by omega) (fun e => by injection e; omega)⟩
/-- A value that is nil or leads to a row of pairs between two blocks. -/
def RowP (lo hi : Nat) (w : World) (v : Value) : Prop :=
  v = .slice none 0 0 ∨ ∃ g m c cur, v = .slice (some ⟨g, 0, none⟩) m c ∧ w.heap[g]? = some (.cells cur 41 (0, 0)) ∧ m * 2 ≤ cur.size ∧ m ≤ 1000000 ∧ lo ≤ g ∧ g < hi
def RowR (lo hi : Nat) (w : World) (v : Value) : Prop :=
  v = .slice none 0 0 ∨ ∃ g m c cur, v = .slice (some ⟨g, 0, none⟩) m c ∧ w.heap[g]? = some (.cells cur 26 (0, 0)) ∧ m ≤ cur.size ∧ m ≤ 1000000 ∧ lo ≤ g ∧ g < hi
theorem Own.rowP {w : World} {base : Nat} {v : Value} {xs : List Pr} (h : Own w base v xs) (hn : xs.length ≤ 1000000) : RowP base w.heap.size w v := by
  rcases h.2 with ⟨rfl, _⟩ | ⟨g, cap, cur, rfl, hb, hg, hnc, hcm, hcs, ht⟩
  · exact .inl rfl
  · exact .inr ⟨g, xs.length, cap, cur, rfl, hg, by rw [hcs]; omega, hn, hb, (Array.getElem?_eq_some_iff.1 hg).1⟩
theorem OwnR.rowR {w : World} {base : Nat} {v : Value} {xs : List Int} (h : OwnR w base v xs) (hn : xs.length ≤ 1000000) : RowR base w.heap.size w v := by
  rcases h.2 with ⟨rfl, _⟩ | ⟨g, cap, cur, rfl, hb, hg, hnc, hcm, hcs, ht⟩
  · exact .inl rfl
  · exact .inr ⟨g, xs.length, cap, cur, rfl, hg, by rw [hcs]; omega, hn, hb, (Array.getElem?_eq_some_iff.1 hg).1⟩
theorem RowP.keep {lo hi : Nat} {w w' : World} {v : Value} (h : RowP lo hi w v) (hk : ∀ k cs, lo ≤ k → k < hi → w.heap[k]? = some (.cells cs 41 (0, 0)) → w'.heap[k]? = w.heap[k]?) : RowP lo hi w' v := by
  rcases h with rfl | ⟨g, m, c, cur, rfl, hg, h1, h2, h3, h4⟩
  · exact .inl rfl
  · exact .inr ⟨g, m, c, cur, rfl, (hk g cur h3 h4 hg).trans hg, h1, h2, h3, h4⟩
theorem RowR.keep {lo hi : Nat} {w w' : World} {v : Value} (h : RowR lo hi w v) (hk : ∀ k cs, lo ≤ k → k < hi → w.heap[k]? = some (.cells cs 26 (0, 0)) → w'.heap[k]? = w.heap[k]?) : RowR lo hi w' v := by
  rcases h with rfl | ⟨g, m, c, cur, rfl, hg, h1, h2, h3, h4⟩
  · exact .inl rfl
  · exact .inr ⟨g, m, c, cur, rfl, (hk g cur h3 h4 hg).trans hg, h1, h2, h3, h4⟩
def WipedP (lo hi : Nat) (w : World) (e : Ending) (w' : World) : Prop := e = .returned (.tuple #[]) ∧ Wiped 41 lo hi w w'
def WipedR (lo hi : Nat) (w : World) (e : Ending) (w' : World) : Prop := e = .returned (.tuple #[]) ∧ Wiped 26 lo hi w w'
theorem wipeP_any (v : Value) (f : Pr) (lo hi : Nat) (w : World) (h : RowP lo hi w v) : Calls Try.prog 28 #[v, .agg #[.string f.1, .int .u64 f.2]] w (WipedP lo hi w) := by
  rcases h with rfl | ⟨g, m, c, cur, rfl, hg, h1, h2, h3, h4⟩
  · exact (wipeP_nil 0 f w).mono fun _ _ ⟨he, hb⟩ => ⟨he, .inl hb⟩
  · exact (wipeP_row g m c cur.size f w ⟨cur, hg, rfl⟩ h1 h2).mono fun _ _ ⟨he, hb, _⟩ => ⟨he, .inr ⟨g, cur, h3, h4, hg, hb⟩⟩
theorem wipeR_any (v : Value) (f : Int) (lo hi : Nat) (w : World) (h : RowR lo hi w v) : Calls Try.prog 27 #[v, .int .i64 f] w (WipedR lo hi w) := by
  rcases h with rfl | ⟨g, m, c, cur, rfl, hg, h1, h2, h3, h4⟩
  · exact (wipeR_nil 0 f w).mono fun _ _ ⟨he, hb⟩ => ⟨he, .inl hb⟩
  · exact (wipeR_row g m c cur.size f w ⟨cur, hg, rfl⟩ h1 h2).mono fun _ _ ⟨he, hb, _⟩ => ⟨he, .inr ⟨g, cur, h3, h4, hg, hb⟩⟩
/-- Reads, in a block from lo to hi. -/
def RdX (w : World) (lo hi : Nat) (A : Option Addr) (cs : List Value) : Prop :=
  0 < cs.length → ∃ ad, A = some ad ∧ lo ≤ ad.block ∧ ad.block < hi ∧ ∀ j u, cs[j]? = some u → w.cell? (ad.add j) = some u
theorem RdX.keep {w w' : World} {lo hi : Nat} {A : Option Addr} {cs : List Value} (h : RdX w lo hi A cs) (hk : ∀ k, lo ≤ k → k < hi → w'.heap[k]? = w.heap[k]?) : RdX w' lo hi A cs := fun hn => by
  obtain ⟨ad, e, h1, h2, hc⟩ := h hn
  exact ⟨ad, e, h1, h2, fun j u hu => (World.cell?_of_block (hk _ (by rw [block_add]; exact h1) (by rw [block_add]; exact h2))).trans (hc j u hu)⟩
theorem Own.rdX {w : World} {base : Nat} {A : Option Addr} {c : Nat} {xs : List Pr} (h : Own w base (.slice A xs.length c) xs) : RdX w base w.heap.size A (flat xs) := by
  rcases h.2 with ⟨hv, hn⟩ | ⟨g, cap, cur, hv, hb, hg, hnc, hcm, hcs, ht⟩
  · have : xs = [] := List.eq_nil_of_length_eq_zero hn
    subst this
    exact fun h => absurd h (by simp [flat_nil])
  · injection hv with e1 e2 e3
    subst e1
    exact fun _ => ⟨_, rfl, hb, (Array.getElem?_eq_some_iff.1 hg).1, h.cells (g := g) rfl⟩
theorem OwnR.rdX {w : World} {base : Nat} {A : Option Addr} {c : Nat} {xs : List Int} (h : OwnR w base (.slice A xs.length c) xs) : RdX w base w.heap.size A (flatR xs) := by
  rcases h.2 with ⟨hv, hn⟩ | ⟨g, cap, cur, hv, hb, hg, hnc, hcm, hcs, ht⟩
  · have : xs = [] := List.eq_nil_of_length_eq_zero hn
    subst this
    exact fun h => absurd h (by simp [flatR])
  · injection hv with e1 e2 e3
    subst e1
    exact fun _ => ⟨_, rfl, hb, (Array.getElem?_eq_some_iff.1 hg).1, h.cells (g := g) rfl⟩
theorem RdX.rd {w : World} {lo hi : Nat} {A : Option Addr} {xs : List Pr} (h : RdX w lo hi A (flat xs)) : Rd w hi A xs := fun hn => by
  obtain ⟨ad, e, h1, h2, hc⟩ := h (by rw [flat_length]; omega)
  exact ⟨ad, e, h2, hc⟩
theorem RdX.rdR {w : World} {lo hi : Nat} {A : Option Addr} {xs : List Int} (h : RdX w lo hi A (flatR xs)) : RdR w hi A xs := fun hn => by
  obtain ⟨ad, e, h1, h2, hc⟩ := h (by rw [flatR_length]; omega)
  exact ⟨ad, e, h2, hc⟩

end Go.Proofs.Ytojcdnjnhejlmaa
