/-
  The walk of refsExist.
-/
import Derived.Test.YtbknbjabkhhlfaaArC
set_option linter.unusedVariables false
set_option maxRecDepth 100000
namespace Go.Proofs.Ytbknbjabkhhlfaa
open Go.Shelf Go.RowKit Go.Lib Go.Sort
attribute [local go_sem ↓] exec_load28 exec_store44
attribute [local go_sem] run_storeNode_new

def nodeM (s : Sd) (n : Nd) : Bool := missR s n.old || (missR s n.exp || (missR s n.new || missB s n.bs))
def refsB (s : Sd) : Bool := s.ns.all (fun n => !nodeM s n) && !missB s s.cs

set_option maxHeartbeats 4000000 in
theorem refsExist_any (s : Sd) (B : Nat) (w : World) (h : SRd w B s) (hB : B ≤ w.heap.size) : Calls Try.prog 36 #[.agg s.vals] w fun e w' => e = .returned (.bool (refsB s)) ∧ Gr w w' := by
  have hl := h.nl
  have H := Lib.hid h
  have HB := Lib.hid hB
  obtain ⟨W, hW⟩ : ∃ W, W = w.alloc (.cells s.vals 38) := ⟨_, rfl⟩
  have GW := Lib.hid (show Gr w W by rw [hW]; exact (Gr.refl w).alloc _)
  have HSB := Lib.hid (show Box W w.heap.size s by rw [hW]; exact heap_alloc_new w _)
  have HW := Lib.hid hW.symm
  have v0 := HSB.out.at0
  clear h hB hW
  go_enter Try.func36, Try.ntmps36
  go_upto_region 1 with (fail)
  rw [HW.out]
  go_wp2_with fail
  clear v0
  go_loopg [10] s.ns.length (fun kx s8 wr => ∃ i : Nat, s8 = .int .i64 i ∧ i ≤ s.ns.length ∧ s.ns.length - i ≤ kx ∧ Aside (Gr W wr) ∧ Aside (∀ j n, j < i → s.ns[j]? = some n → nodeM s n = false))
  case atStart => exact ⟨0, rfl, Nat.zero_le _, by omega, Gr.refl W, (fun j n hj => absurd hj (Nat.not_lt_zero _))⟩
  case round =>
    obtain ⟨i, rfl, hi, hkx, G, I⟩ := hrel
    have BX := Lib.hid (HSB.out.gr G.out)
    have hr : SRd wr B s := H.out.gr HB.out (GW.out.trans G.out)
    by_cases hlt : i < s.ns.length
    · have hltz : (i : Int) < (s.ns.length : Int) := by omega
      have hx : s.ns[i]? = some s.ns[i] := List.getElem?_eq_getElem hlt
      generalize s.ns[i] = n at hx
      have X := Lib.hid hx
      obtain ⟨b, o, eA, hb, hc⟩ := hr.n.at_ hx
      have hn2 : RdN wr B (some ⟨b, o, none⟩) s.ns := by rw [← eA]; exact hr.n
      have EA := Lib.hid eA
      have ld := hn2.load hx
      have NR := Lib.hid (hr.l n (List.mem_of_getElem? hx)).1
      clear hx hr hc hn2
      rw [EA.out]
      clear eA
      go_upto_region 5 with (fail)
      obtain ⟨V, hV⟩ : ∃ V, V = wr.alloc (.cells n.cs 35) := ⟨_, rfl⟩
      have hbox : V.heap[wr.heap.size]? = some (.cells n.cs 35 (0, 0)) := by rw [hV]; exact heap_alloc_new wr _
      have GV := Lib.hid (show Gr W V by rw [hV]; exact G.out.alloc _)
      have GB := Lib.hid (show Gr wr V by rw [hV]; exact (Gr.refl wr).alloc _)
      rw [← hV]
      clear hV ld
      have e10 := node_cellA hbox (i := 10) (v := .int .i64 n.old) rfl
      have e11 := node_cellA hbox (i := 11) (v := .int .i64 n.exp) rfl
      have e12 := node_cellA hbox (i := 12) (v := .int .i64 n.new) rfl
      have e4 := node_cellA hbox (i := 4) (v := .slice n.bA n.bs.length n.bc) rfl
      clear hbox
      have BV := Lib.hid (BX.out.gr GB.out)
      have NV := Lib.hid (NR.out.gr (Nat.le_trans HB.out (GW.out.trans G.out).size) GB.out)
      have M1 := Lib.hid (miss_any s n.old w.heap.size V BV.out)
      have M2 := Lib.hid (miss_any s n.exp w.heap.size V BV.out)
      have M3 := Lib.hid (miss_any s n.new w.heap.size V BV.out)
      have M4 := Lib.hid (hasM_any s w.heap.size n.bA n.bc n.bs B V BV.out NV.out.r (Nat.le_trans NV.out.bl (by omega)))
      cases h1 : missR s n.old with
      | true =>
        have K := Lib.hid (show nodeM s n = true by simp [nodeM, h1])
        rw [h1] at M1
        clear h1
        go_wp2_with (first | (go_at_call 52; with_reducible refine M1.out.mono ?_; rintro e w' ⟨rfl, rfl⟩))
        go_ret
        exact ⟨ret_bool (by rw [refsB, all_false X.out (by simp [K.out])]; rfl), GW.out.trans GV.out⟩
      | false =>
      cases h2 : missR s n.exp with
      | true =>
        have K := Lib.hid (show nodeM s n = true by simp [nodeM, h2])
        rw [h1] at M1
        rw [h2] at M2
        clear h1 h2
        go_wp2_with (first | (go_at_call 52; with_reducible refine M1.out.mono ?_; rintro e w' ⟨rfl, rfl⟩) | (go_at_call 52; with_reducible refine M2.out.mono ?_; rintro e w' ⟨rfl, rfl⟩))
        go_ret
        exact ⟨ret_bool (by rw [refsB, all_false X.out (by simp [K.out])]; rfl), GW.out.trans GV.out⟩
      | false =>
      cases h3 : missR s n.new with
      | true =>
        have K := Lib.hid (show nodeM s n = true by simp [nodeM, h3])
        rw [h1] at M1
        rw [h2] at M2
        rw [h3] at M3
        clear h1 h2 h3
        go_wp2_with (first | (go_at_call 52; with_reducible refine M1.out.mono ?_; rintro e w' ⟨rfl, rfl⟩) | (go_at_call 52; with_reducible refine M2.out.mono ?_; rintro e w' ⟨rfl, rfl⟩) | (go_at_call 52; with_reducible refine M3.out.mono ?_; rintro e w' ⟨rfl, rfl⟩))
        go_ret
        exact ⟨ret_bool (by rw [refsB, all_false X.out (by simp [K.out])]; rfl), GW.out.trans GV.out⟩
      | false =>
      cases h4 : missB s n.bs with
      | true =>
        have K := Lib.hid (show nodeM s n = true by simp [nodeM, h4])
        rw [h1] at M1
        rw [h2] at M2
        rw [h3] at M3
        rw [h4] at M4
        clear h1 h2 h3 h4
        go_wp2_with (first | (go_at_call 52; with_reducible refine M1.out.mono ?_; rintro e w' ⟨rfl, rfl⟩) | (go_at_call 52; with_reducible refine M2.out.mono ?_; rintro e w' ⟨rfl, rfl⟩) | (go_at_call 52; with_reducible refine M3.out.mono ?_; rintro e w' ⟨rfl, rfl⟩) | (go_at_call 53; with_reducible refine M4.out.mono ?_; rintro e w' ⟨rfl, hg⟩; have HG := Lib.hid hg; clear hg))
        go_ret
        exact ⟨ret_bool (by rw [refsB, all_false X.out (by simp [K.out])]; rfl), GW.out.trans (GV.out.trans HG.out)⟩
      | false =>
        have K := Lib.hid (show nodeM s n = false by simp [nodeM, h1, h2, h3, h4])
        rw [h1] at M1
        rw [h2] at M2
        rw [h3] at M3
        rw [h4] at M4
        clear h1 h2 h3 h4
        go_wp2_with (first | (go_at_call 52; with_reducible refine M1.out.mono ?_; rintro e w' ⟨rfl, rfl⟩) | (go_at_call 52; with_reducible refine M2.out.mono ?_; rintro e w' ⟨rfl, rfl⟩) | (go_at_call 52; with_reducible refine M3.out.mono ?_; rintro e w' ⟨rfl, rfl⟩) | (go_at_call 53; with_reducible refine M4.out.mono ?_; rintro e w' ⟨rfl, hg⟩; have HG := Lib.hid hg; clear hg))
        rw [← EA.out]
        go_roundg (s.ns.length - (i + 1))
        case measure => omega
        case rel =>
          refine ⟨i + 1, by go_num, by omega, Nat.le_refl _, GV.out.trans HG.out, (show ∀ j z, _ from fun j z hj hx => ?_)⟩
          by_cases e : j = i
          · subst e
            rw [X.out] at hx
            injection hx with hx
            rw [← hx]
            exact K.out
          · exact I.out j z (by omega) hx
    · obtain rfl : i = s.ns.length := by omega
      have v1 := BX.out.at1
      have M4 := Lib.hid (hasM_any s w.heap.size s.cA s.cc s.cs B wr BX.out hr.c (Nat.le_trans hr.cl (by omega)))
      clear hr
      go_wp2_with (go_at_call 53; with_reducible refine M4.out.mono ?_; rintro e w' ⟨rfl, hg⟩; have HG := Lib.hid hg; clear hg)
      go_ret
      refine ⟨ret_bool ?_, GW.out.trans (G.out.trans HG.out)⟩
      rw [refsB, all_true_ fun j x _ hx => by rw [I.out j x (List.getElem?_eq_some_iff.1 hx).1 hx]; rfl]
      simp

end Go.Proofs.Ytbknbjabkhhlfaa
