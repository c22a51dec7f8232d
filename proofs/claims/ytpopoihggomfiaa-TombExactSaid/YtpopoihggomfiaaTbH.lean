/-
  The walk of the tape's pairs.
-/
import Derived.Test.YtpopoihggomfiaaTbF
import Derived.Test.YtpopoihggomfiaaWalksT
set_option linter.unusedVariables false
set_option maxRecDepth 100000
namespace Go.Proofs.Ytpopoihggomfiaa
open Go.Shelf Go.RowKit Go.Lib Go.Sort

theorem Own.grown {w w' : World} {base T : Nat} {v : Value} {xs : List Pr} (h : Own w base v xs) (hT : T < base) (hg : w.grownBy w' (some T)) : Own w' base v xs := by
  refine ⟨h.1, ?_⟩
  rcases h.2 with hn | ⟨g, cap, cur, hv, hbg, hg', rest⟩
  · exact .inl hn
  · exact .inr ⟨g, cap, cur, hv, hbg, (hg.block g (Array.getElem?_eq_some_iff.1 hg').1 (fun e => by injection e with e; omega)).trans hg', rest⟩

theorem Own.cap {w : World} {base : Nat} {A : Option Addr} {n c : Nat} {xs : List Pr} (h : Own w base (.slice A n c) xs) : c ≤ maxLen := by
  rcases h.2 with ⟨hv, _⟩ | ⟨g, cap, cur, hv, hb, hg, hnc, hcm, _⟩
  · injection hv with _ _ e3; subst e3; exact Nat.zero_le _
  · injection hv with _ _ e3; subst e3; exact hcm
def PairsPost (T : Nat) (w : World) (e : Ending) (w' : World) : Prop :=
  ∃ (A : Option Addr) (c : Nat) (ys : List Pr), e = .returned (.slice A ys.length c) ∧ ys.length ≤ 6 ∧ (∀ p ∈ ys, p.1.size ≤ 3) ∧ Own w' w.heap.size (.slice A ys.length c) ys ∧ c ≤ maxLen ∧ Tape T w' ∧ w.grownBy w' (some T)

set_option maxHeartbeats 2000000 in
theorem pairs_any (T : Nat) (w : World) (h : Tape T w) : Calls Try.prog 29 #[.pointer (some ⟨T, 0, none⟩), .int .i64 6] w (PairsPost T w) := by
  have hT := h.lt
  have HT := Lib.hid h
  clear h
  go_enter Try.func29, Try.ntmps29
  go_wp2_with fail
  refine (next_any T 7 w HT.out (by omega) (by omega)).mono ?_
  rintro e w2 ⟨r, hr, rfl, hT2, hg⟩
  have T2 : Aside _ := hT2
  have G2 : Aside _ := hg
  clear hT2 hg
  go_wp2_with fail
  go_loopg [5, 6] r (fun kx s5 s6 wr => ∃ (n : Nat) (ys : List Pr), s6 = .int .i64 n ∧ n ≤ kx ∧ ys.length + n ≤ 6 ∧ Aside (∀ p ∈ ys, p.1.size ≤ 3) ∧ Aside (Own wr w.heap.size s5 ys) ∧ Aside (Tape T wr) ∧ Aside (w.grownBy wr (some T)))
  case atStart => exact ⟨r, [], rfl, Nat.le_refl _, by simp; omega, (List.forall_mem_nil _ : ∀ p ∈ ([] : List Pr), p.1.size ≤ 3), Own.nil_ _ _, T2.out, G2.out⟩
  case round =>
    clear T2 G2
    obtain ⟨n, ys, rfl, hk, hl, KZ, O, TP, G⟩ := hrel
    by_cases h0 : 0 < n
    · have hz : (n : Int) > 0 := by omega
      obtain ⟨m, rfl⟩ : ∃ m, n = m + 1 := ⟨n - 1, by omega⟩
      go_wp2_with fail
      refine (key_any T wr TP.out).mono ?_
      rintro e w3 ⟨ks, hks, rfl, hT3, hg3⟩
      have T3 := Lib.hid hT3
      have G3 := Lib.hid hg3
      clear hT3 hg3
      go_wp2_with fail
      refine (next_any T 5 w3 T3.out (by omega) (by omega)).mono ?_
      rintro e w4 ⟨q, hq, rfl, hT4, hg4⟩
      have T4 := Lib.hid hT4
      have O4 := Lib.hid ((O.out.grown hT G3.out).grown hT hg4)
      have G4 := Lib.hid (grown_trans_ (grown_trans_ G.out G3.out) hg4)
      clear hT4 hg4 T3 G3
      go_wp2_with (at_builtin; refine wpList_append_pair (w0 := w4) rfl (.tmp 15) (.tmp 22) rfl w.heap.size _ ys rfl (O4.out.alloc _) ⟨w4.heap.size, 0, none⟩ 1 (ks, (q : Int)) rfl (one_cells w4 (ks, (q : Int)) 54) (by omega) ((Below.refl _ w4).alloc G4.out.size _) (by have := G4.out.size; simp; omega) ?_; intro v' w5 HO5 hB5)
      go_roundg m
      case measure => omega
      case rel => exact ⟨m, ys ++ [(ks, (q : Int))], by go_num, Nat.le_refl _, by simp; omega, (fun p hp => (List.mem_append.1 hp).elim (KZ.out p) fun hp => by rw [List.mem_singleton.1 hp]; exact hks), HO5.out, T4.out.below hB5 hT, grown_below G4.out hB5⟩
    · obtain rfl : n = 0 := by omega
      obtain ⟨A, c, rfl, hR, _, _⟩ := O.out.open2
      have HR := Lib.hid O.out.cap
      clear hR
      go_wp2
      go_ret
      exact ⟨A, c, ys, rfl, by omega, KZ.out, O.out, HR.out, TP.out, G.out⟩


theorem Own.rd {w : World} {base : Nat} {A : Option Addr} {n c : Nat} {xs : List Pr} (h : Own w base (.slice A n c) xs) : Rd w w.heap.size A xs := by
  obtain ⟨A', c', e, hR, _, _⟩ := h.open2
  injection e with e1 e2 e3
  subst e1
  exact hR

end Go.Proofs.Ytpopoihggomfiaa
