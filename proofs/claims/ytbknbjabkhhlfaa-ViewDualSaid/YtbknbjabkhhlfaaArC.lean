/-
  The walks of nodesProper, refsExist.
-/
import Derived.Test.YtbknbjabkhhlfaaArB
import Derived.Deep.WholeRow
set_option linter.unusedVariables false
set_option maxRecDepth 100000
namespace Go.Proofs.Ytbknbjabkhhlfaa
open Go.Shelf Go.RowKit Go.Lib Go.Sort
attribute [local go_sem ↓] exec_load28 exec_store44
attribute [local go_sem] run_storeNode_new

theorem gr_to {a b : World} {n : Nat} (h : Below n a b) (hn : a.heap.size ≤ n) (hd : a.drawn ≤ b.drawn) : Gr a b := ⟨h.mono hn, hd⟩
/-- A node is valid, of a generation that has begun. -/
noncomputable def nodeP (gen : Int) (n : Nd) : Bool := validN n && decide (n.gen ≤ gen)
noncomputable def nodesB (s : Sd) : Bool := s.ns.all (nodeP s.gen)
theorem all_false {α : Type} {p : α → Bool} {xs : List α} {i : Nat} {x : α} (h : xs[i]? = some x) (hp : p x = false) : xs.all p = false := by
  rw [List.all_eq_false]
  exact ⟨x, List.mem_of_getElem? h, by simp [hp]⟩
theorem all_true_ {α : Type} {p : α → Bool} {xs : List α} (h : ∀ j x, j < xs.length → xs[j]? = some x → p x = true) : xs.all p = true := by
  rw [List.all_eq_true]
  intro x hx
  obtain ⟨j, hj, e⟩ := List.getElem_of_mem hx
  exact h j x hj (by rw [List.getElem?_eq_getElem hj, e])
set_option maxHeartbeats 4000000 in
theorem nodesProper_any (s : Sd) (B : Nat) (w : World) (h : SRd w B s) (hB : B ≤ w.heap.size) : Calls Try.prog 35 #[.agg s.vals] w fun e w' => e = .returned (.bool (nodesB s)) ∧ Gr w w' := by
  have hl := h.nl
  have H := Lib.hid h
  have HB := Lib.hid hB
  obtain ⟨W, hW⟩ : ∃ W, W = w.alloc (.cells s.vals 38) := ⟨_, rfl⟩
  have GW := Lib.hid (show Gr w W by rw [hW]; exact (Gr.refl w).alloc _)
  have hsb : W.heap[w.heap.size]? = some (.cells s.vals 38 (0, 0)) := by rw [hW]; exact heap_alloc_new w _
  have HSB := Lib.hid hsb
  have HW := Lib.hid hW.symm
  have v0 : W.cell? ⟨w.heap.size, 0, none⟩ = some (.slice s.nA s.ns.length s.nc) := by rw [cell_of_row W _ 0 s.vals 38 (0, 0) hsb]; rfl
  have hsl : w.heap.size < W.heap.size := (Array.getElem?_eq_some_iff.1 hsb).1
  have HSL := Lib.hid hsl
  clear h hB hW hsb hsl
  go_enter Try.func35, Try.ntmps35
  go_upto_region 1 with (fail)
  rw [HW.out]
  go_wp2_with fail
  clear v0
  go_loopg [8] s.ns.length (fun kx s8 wr => ∃ i : Nat, s8 = .int .i64 i ∧ i ≤ s.ns.length ∧ s.ns.length - i ≤ kx ∧ Aside (Gr W wr) ∧ Aside (∀ j n, j < i → s.ns[j]? = some n → nodeP s.gen n = true))
  case atStart => exact ⟨0, rfl, Nat.zero_le _, by omega, Gr.refl W, (fun j n hj => absurd hj (Nat.not_lt_zero _))⟩
  case round =>
    obtain ⟨i, rfl, hi, hkx, G, I⟩ := hrel
    by_cases hlt : i < s.ns.length
    · have hltz : (i : Int) < (s.ns.length : Int) := by omega
      have hx : s.ns[i]? = some s.ns[i] := List.getElem?_eq_getElem hlt
      generalize s.ns[i] = n at hx
      have X := Lib.hid hx
      have hr : SRd wr B s := H.out.gr HB.out (GW.out.trans G.out)
      obtain ⟨b, o, eA, hb, hc⟩ := hr.n.at_ hx
      have HR := Lib.hid hr
      have hn2 : RdN wr B (some ⟨b, o, none⟩) s.ns := by rw [← eA]; exact hr.n
      have EA := Lib.hid eA
      have ld := hn2.load hx
      have NR := Lib.hid (hr.l n (List.mem_of_getElem? hx)).1
      clear hx hr hc hn2
      rw [EA.out]
      clear eA
      go_upto_region 4 with (fail)
      obtain ⟨V, hV⟩ : ∃ V, V = wr.alloc (.cells n.cs 35) := ⟨_, rfl⟩
      have hbox : V.heap[wr.heap.size]? = some (.cells n.cs 35 (0, 0)) := by rw [hV]; exact heap_alloc_new wr _
      have GV := Lib.hid (show Gr W V by rw [hV]; exact G.out.alloc _)
      have GB := Lib.hid (show Gr wr V by rw [hV]; exact (Gr.refl wr).alloc _)
      rw [← hV]
      clear hV ld
      have lv := run_loadNode hbox
      have HBX := Lib.hid hbox
      clear hbox
      have NV := Lib.hid (NR.out.gr (Nat.le_trans HB.out (GW.out.trans G.out).size) GB.out)
      have VV := Lib.hid (valid_any n B V NV.out (Nat.le_trans HB.out (GW.out.trans GV.out).size))
      cases hv : validN n with
      | false =>
        rw [hv] at VV
        have HV := Lib.hid hv
        clear hv
        go_wp2_with (go_at_call 51; refine VV.out.mono ?_; rintro e w' ⟨rfl, hg⟩; have HG := Lib.hid hg; clear hg)
        go_ret
        exact ⟨ret_bool (by rw [nodesB, all_false X.out (by simp [nodeP, HV.out])]), GW.out.trans (GV.out.trans HG.out)⟩
      | true =>
        rw [hv] at VV
        have HV := Lib.hid hv
        clear hv
        have hlt2 : wr.heap.size < V.heap.size := (Array.getElem?_eq_some_iff.1 HBX.out).1
        have HL2 := Lib.hid hlt2
        clear hlt2
        have k1 := fun (w' : World) (hg : Gr V w') => (hg.b.cell (p := ⟨wr.heap.size, 1, none⟩) HL2.out).trans (node_cellA HBX.out (i := 1) (v := .int .i64 n.gen) rfl)
        have k2 := fun (w' : World) (hg : Gr W w') => (hg.b.cell (p := ⟨w.heap.size, 2, none⟩) HSL.out).trans ((cell_of_row W _ 2 s.vals 38 (0, 0) HSB.out).trans (show s.vals[2]? = some (.int .i64 s.gen) from rfl))
        have K := Lib.hid (fun (w' : World) (hg : Gr V w') => (⟨k1 w' hg, k2 w' (GV.out.trans hg)⟩ : _ ∧ _))
        clear k1 k2
        cases hgn : decide (n.gen > s.gen) with
        | true =>
          have HN := Lib.hid hgn
          go_wp2_with (go_at_call 51; refine VV.out.mono ?_; rintro e w' ⟨rfl, hg⟩; have HG := Lib.hid hg; have c1 := (K.out w' hg).1; have c2 := (K.out w' hg).2; clear hg)
          go_ret
          exact ⟨ret_bool (by rw [nodesB, all_false X.out (by simp [nodeP, HV.out]; have := of_decide_eq_true HN.out; omega)]), GW.out.trans (GV.out.trans HG.out)⟩
        | false =>
          have HN := Lib.hid hgn
          go_wp2_with (go_at_call 51; refine VV.out.mono ?_; rintro e w' ⟨rfl, hg⟩; have HG := Lib.hid hg; have c1 := (K.out w' hg).1; have c2 := (K.out w' hg).2; clear hg)
          rw [← EA.out]
          go_roundg (s.ns.length - (i + 1))
          case measure => omega
          case rel =>
            refine ⟨i + 1, by go_num, by omega, Nat.le_refl _, GV.out.trans HG.out, (show ∀ j z, _ from fun j z hj hx => ?_)⟩
            by_cases e : j = i
            · subst e
              rw [X.out] at hx
              injection hx with hx
              rw [← hx]
              have := of_decide_eq_false HN.out
              simp [nodeP, HV.out]
              omega
            · exact I.out j z (by omega) hx
    · obtain rfl : i = s.ns.length := by omega
      go_wp2
      go_ret
      exact ⟨ret_bool (by rw [nodesB, all_true_ fun j x _ hx => I.out j x (List.getElem?_eq_some_iff.1 hx).1 hx]), GW.out.trans G.out⟩


/-! ### refsExist -/
def missR (s : Sd) (z : Int) : Bool := decide (z < 0) || decide ((s.ns.length : Int) < z)
/-- The box of a state that a closure has. -/
def Box (w : World) (b : Nat) (s : Sd) : Prop := w.heap[b]? = some (.cells s.vals 38 (0, 0))
theorem Box.gr {w w' : World} {b : Nat} {s : Sd} (h : Box w b s) (g : Gr w w') : Box w' b s := (g.b.block b (Array.getElem?_eq_some_iff.1 h).1).trans h
theorem Box.at0 {w : World} {b : Nat} {s : Sd} (h : Box w b s) : w.cell? ⟨b, 0, none⟩ = some (.slice s.nA s.ns.length s.nc) := (cell_of_row w _ 0 s.vals 38 (0, 0) h).trans rfl
theorem Box.at1 {w : World} {b : Nat} {s : Sd} (h : Box w b s) : w.cell? ⟨b, 1, none⟩ = some (.slice s.cA s.cs.length s.cc) := (cell_of_row w _ 1 s.vals 38 (0, 0) h).trans rfl
theorem Box.at2 {w : World} {b : Nat} {s : Sd} (h : Box w b s) : w.cell? ⟨b, 2, none⟩ = some (.int .i64 s.gen) := (cell_of_row w _ 2 s.vals 38 (0, 0) h).trans rfl
theorem miss_any (s : Sd) (z : Int) (b : Nat) (w : World) (h : Box w b s) : Calls Try.prog 52 #[.int .i64 z, .pointer (some ⟨b, 0, none⟩)] w fun e w' => e = .returned (.bool (missR s z)) ∧ w = w' := by
  have c0 := h.at0
  clear h
  by_cases h0 : z < 0
  · rw [show missR s z = true by simp [missR, h0]]
    have d : decide (z < 0) = true := decide_eq_true h0
    clear h0
    go_enter Try.func52, Try.ntmps52
    go_wp2
    go_ret
    exact ⟨rfl, rfl⟩
  · have d : decide (z < 0) = false := decide_eq_false h0
    rw [show missR s z = decide ((s.ns.length : Int) < z) by simp [missR, d]]
    clear h0
    go_enter Try.func52, Try.ntmps52
    go_wp2
    go_ret
    exact ⟨rfl, rfl⟩
def missB (s : Sd) (xs : List Int) : Bool := xs.any (missR s)
theorem any_true_ {α : Type} {p : α → Bool} {xs : List α} {i : Nat} {x : α} (h : xs[i]? = some x) (hp : p x = true) : xs.any p = true := by
  rw [List.any_eq_true]
  exact ⟨x, List.mem_of_getElem? h, hp⟩
theorem any_false_ {α : Type} {p : α → Bool} {xs : List α} (h : ∀ j x, j < xs.length → xs[j]? = some x → p x = false) : xs.any p = false := by
  rw [List.any_eq_false]
  intro x hx
  obtain ⟨j, hj, e⟩ := List.getElem_of_mem hx
  simp [h j x hj (by rw [List.getElem?_eq_getElem hj, e])]
set_option maxHeartbeats 1000000 in
theorem idxM_any (s : Sd) (q : Nat) (A : Option Addr) (c : Nat) (xs : List Int) (b : Nat) (w : World) (hq : Box w q s) (h : RdR w b A xs) (hn : xs.length ≤ 1000000) :
    Calls Try.prog 65 #[.slice A xs.length c, .func (.func 52) #[] #[.pointer (some ⟨q, 0, none⟩)]] w (IdxPost (missB s xs) w) := by
  have H := Lib.hid h
  have Q := Lib.hid hq
  clear h hq
  go_enter Try.func65, Try.ntmps65
  go_wp2
  go_loopg [8] xs.length (fun kx s5 wr => ∃ i : Nat, s5 = .int .i64 i ∧ i ≤ xs.length ∧ xs.length - i ≤ kx ∧ w = wr ∧ Aside (∀ j z, j < i → xs[j]? = some z → missR s z = false))
  case atStart => exact ⟨0, rfl, Nat.zero_le _, by omega, rfl, (fun j z hj => absurd hj (Nat.not_lt_zero _))⟩
  case round =>
    obtain ⟨i, rfl, hi, hkx, rfl, I⟩ := hrel
    by_cases hlt : i < xs.length
    · have hltz : (i : Int) < (xs.length : Int) := by omega
      obtain ⟨ad, x, rfl, hb, hx, c0⟩ := H.out.at_ hlt
      have X := Lib.hid hx
      clear hx
      cases hz : missR s x with
      | true =>
        have HZ := Lib.hid hz
        go_wp2_with (go_at_call 52; refine (miss_any s _ q _ Q.out).mono ?_; rintro e w' ⟨rfl, rfl⟩)
        go_ret
        exact ⟨i, rfl, by rw [missB, any_true_ X.out HZ.out]; simp, Gr.refl _⟩
      | false =>
        have HZ := Lib.hid hz
        go_wp2_with (go_at_call 52; refine (miss_any s _ q _ Q.out).mono ?_; rintro e w' ⟨rfl, rfl⟩)
        go_roundg (xs.length - (i + 1))
        case measure => omega
        case rel =>
          refine ⟨i + 1, by go_num, by omega, Nat.le_refl _, rfl, (show ∀ j z, _ from fun j z hj hx => ?_)⟩
          by_cases e : j = i
          · subst e; rw [X.out] at hx; injection hx with hx; rw [← hx]; exact HZ.out
          · exact I.out j z (by omega) hx
    · obtain rfl : i = xs.length := by omega
      go_wp2
      go_ret
      exact ⟨-1, rfl, by rw [missB, any_false_ fun j x _ hx => I.out j x (List.getElem?_eq_some_iff.1 hx).1 hx]; simp, Gr.refl _⟩
theorem hasM_any (s : Sd) (q : Nat) (A : Option Addr) (c : Nat) (xs : List Int) (b : Nat) (w : World) (hq : Box w q s) (h : RdR w b A xs) (hn : xs.length ≤ 1000000) :
    Calls Try.prog 53 #[.slice A xs.length c, .func (.func 52) #[] #[.pointer (some ⟨q, 0, none⟩)]] w fun e w' => e = .returned (.bool (missB s xs)) ∧ Gr w w' := by
  have H := Lib.hid h
  have Q := Lib.hid hq
  clear h hq
  go_enter Try.func53, Try.ntmps53
  go_wp2_with (go_at_call 65; refine (idxM_any s q _ _ _ _ _ Q.out H.out hn).mono ?_; rintro e w' ⟨r, rfl, hr, hg⟩; have HR := Lib.hid hr; have HG := Lib.hid hg; clear hr hg)
  go_ret
  exact ⟨ret_bool HR.out, HG.out⟩

end Go.Proofs.Ytbknbjabkhhlfaa
