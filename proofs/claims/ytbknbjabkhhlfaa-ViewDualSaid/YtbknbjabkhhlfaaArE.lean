/-
  The walks of cellsOwned, proper.
-/
import Derived.Test.YtbknbjabkhhlfaaArD
set_option linter.unusedVariables false
set_option maxRecDepth 100000
namespace Go.Proofs.Ytbknbjabkhhlfaa
open Go.Shelf Go.RowKit Go.Lib Go.Sort
attribute [local go_sem ↓] exec_load28 exec_store44
attribute [local go_sem] run_storeNode_new

/-- The number of the cell that a node's kind has. -/
def cellOf (n : Nd) : Option Int := if n.kind = 2 then some n.main else if n.kind = 8 then some n.status else if mainB n then some n.prev else none
theorem cellOf_ix {n : Nd} {i : Nat} (h : ownIx n = some i) : ∃ c, cellOf n = some c ∧ n.cs[i]? = some (.int .i64 c) := by
  unfold ownIx at h
  unfold cellOf
  split
  · rename_i h2
    rw [if_pos h2] at h
    injection h with h
    subst h
    exact ⟨_, rfl, rfl⟩
  · rename_i h2
    rw [if_neg h2] at h
    split
    · rename_i h8
      rw [if_pos h8] at h
      injection h with h
      subst h
      exact ⟨_, rfl, rfl⟩
    · rename_i h8
      rw [if_neg h8] at h
      split
      · rename_i hm
        rw [if_pos hm] at h
        injection h with h
        subst h
        exact ⟨_, rfl, rfl⟩
      · rename_i hm
        rw [if_neg hm] at h
        cases h
theorem cellOf_none {n : Nd} (h : ownIx n = none) : cellOf n = none := by
  unfold ownIx at h
  unfold cellOf
  repeat (split at h <;> try cases h)
  simp_all
/-- Every node whose kind has a cell names one that there is and that none before it names. -/
def ownScan (s : Sd) : List Nd → List Nat → Bool
  | [], _ => true
  | n :: ns, used => match cellOf n with
    | none => ownScan s ns used
    | some c => hasC s c && (!decide (c.toNat - 1 ∈ used) && ownScan s ns ((c.toNat - 1) :: used))
def ownedB (s : Sd) : Bool := ownScan s s.ns []
theorem drop_cons {α : Type} {xs : List α} {i : Nat} {x : α} (h : xs[i]? = some x) : xs.drop i = x :: xs.drop (i + 1) := by
  obtain ⟨hi, e⟩ := List.getElem?_eq_some_iff.1 h
  rw [← e]
  exact List.drop_eq_getElem_cons hi

/-- The row of flags. -/
def Flags (w : World) (g m : Nat) (used : List Nat) : Prop := ∃ cs : Array Value, w.heap[g]? = some (.cells cs 4 (0, 0)) ∧ cs.size = m ∧ ∀ j, j < m → cs[j]? = some (.bool (decide (j ∈ used)))
theorem Flags.keep {w w' : World} {g m : Nat} {used : List Nat} (h : Flags w g m used) (hk : w'.heap[g]? = w.heap[g]?) : Flags w' g m used := by
  obtain ⟨cs, h1, h2⟩ := h
  exact ⟨cs, hk.trans h1, h2⟩
theorem Flags.lt {w : World} {g m : Nat} {used : List Nat} (h : Flags w g m used) : g < w.heap.size := by
  obtain ⟨cs, h1, _⟩ := h
  exact (Array.getElem?_eq_some_iff.1 h1).1
theorem Flags.cell {w : World} {g m : Nat} {used : List Nat} (h : Flags w g m used) {j : Nat} (hj : j < m) : w.cell? ⟨g, j, none⟩ = some (.bool (decide (j ∈ used))) := by
  obtain ⟨cs, h1, _, h3⟩ := h
  rw [cell_of_row w g j cs 4 (0, 0) h1]
  exact h3 j hj
theorem Flags.froz {w : World} {g m : Nat} {used : List Nat} (h : Flags w g m used) (j : Nat) : w.frozen? ⟨g, j, none⟩ = false := by
  obtain ⟨cs, h1, _⟩ := h
  simp [World.frozen?, h1]
theorem Flags.set {w : World} {g m : Nat} {used : List Nat} (h : Flags w g m used) {i : Nat} (hi : i < m) : Flags (w.setCell ⟨g, i, none⟩ (.bool true)) g m (i :: used) := by
  obtain ⟨cs, h1, h2, h3⟩ := h
  refine ⟨cs.setIfInBounds i (.bool true), by simp [World.setCell, Array.getElem?_modify, h1], by simpa using h2, fun j hj => ?_⟩
  rw [Array.getElem?_setIfInBounds]
  by_cases e : i = j
  · subst e
    rw [if_pos rfl, if_pos (by omega)]
    simp
  · rw [if_neg e, h3 j hj]
    congr 2
    simp [Ne.symm e]
theorem boolInfo : (Try.prog.info? 4).map (fun i => (i.zero, i.size, i.bytes)) = some (some (.bool false), 1, 1) := by kernel_rfl

theorem made_flag {m j : Nat} (hj : j < m) : (madeCells (Value.cells (.bool false)) (m * 1)).toList[j]? = some (.bool (decide (j ∈ ([] : List Nat)))) := by
  have e : Value.cells (.bool false) = #[.bool false] := rfl
  rw [e]
  simp [madeCells, hj, Nat.mod_one]
theorem flags_made {W1 : World} {base g m : Nat} (h : W1.ownsRow base 4 1 (.slice (some ⟨g, 0, none⟩) m m) m (madeCells (Value.cells (.bool false)) (m * 1)).toList) : Flags W1 g m [] := by
  rcases h.2 with ⟨hv, _⟩ | ⟨g', cap, cur, hv, _, hg, _, _, hcs, ht⟩
  · cases hv
  · injection hv with e1 e2 e3
    injection e1 with e1
    injection e1 with e1 _
    subst e1
    subst e3
    refine ⟨cur, hg, by simpa using hcs, fun j hj => ?_⟩
    have e : cur.toList.take (m * 1) = cur.toList := List.take_of_length_le (by simp; omega)
    rw [e] at ht
    rw [← Array.getElem?_toList, ht]
    exact made_flag hj
set_option maxHeartbeats 8000000 in
theorem cellsOwned_any (s : Sd) (B : Nat) (w : World) (h : SRd w B s) (hB : B ≤ w.heap.size) : Calls Try.prog 37 #[.agg s.vals] w fun e w' => e = .returned (.bool (ownedB s)) ∧ Below w.heap.size w w' := by
  have mixed := mixedOrders
  have hl := h.nl
  have hcl := h.cl
  have H := Lib.hid h
  have HB := Lib.hid hB
  obtain ⟨i0, hi0, hz0, hz1, hz2⟩ := info_parts boolInfo
  obtain ⟨W, hW⟩ : ∃ W, W = w.alloc (.cells s.vals 38) := ⟨_, rfl⟩
  have GW := Lib.hid (show Gr w W by rw [hW]; exact (Gr.refl w).alloc _)
  have HsW := Lib.hid (show W.heap.size = w.heap.size + 1 by rw [hW]; simp)
  have HSB := Lib.hid (show Box W w.heap.size s by rw [hW]; exact heap_alloc_new w _)
  have HW := Lib.hid hW.symm
  have v1 := HSB.out.at1
  have HI := Lib.hid (⟨hi0, hz0, hz1, hz2⟩ : _ ∧ _ ∧ _ ∧ _)
  clear h hB hW hi0 hz0 hz1 hz2
  go_enter Try.func37, Try.ntmps37
  go_upto_region 1 with (fail)
  rw [HW.out]
  go_wp2_with (at_make
               refine wpList_make_full W rfl (.tmp 9) (.tmp 9) 103 rfl W.heap.size 4 i0 _ 1 Try.underlying103 HI.out.1 HI.out.2.1 HI.out.2.2.1 _ _ _ _ s.cs.length rfl rfl rfl rfl (by rw [HI.out.2.2.2]; omega) (by simp only [maxLen]; omega) (Nat.le_refl _) ?_
               intro W1 HO1 HG1
               have FL := Lib.hid (flags_made HO1)
               have GW1 := Lib.hid (show Below w.heap.size w W1 from GW.out.b.trans ⟨HG1.os, HG1.tape, HG1.output, HG1.size, fun k hk => HG1.block k (Nat.lt_of_lt_of_le hk GW.out.size) (by simp)⟩)
               have BX1 := Lib.hid (show Box W1 w.heap.size s from (HG1.block w.heap.size (by rw [HsW.out]; omega) (by simp)).trans HSB.out)
               have v0 := BX1.out.at0
               clear HO1 HG1)
  clear v0
  have hg1 : Box W1 w.heap.size s ∧ Flags W1 W.heap.size s.cs.length [] ∧ Below w.heap.size w W1 := ⟨BX1.out, FL.out, GW1.out⟩
  have HG1 := Lib.hid hg1
  have hWl : w.heap.size < W.heap.size := by rw [HsW.out]; omega
  have HWL := Lib.hid hWl
  clear hg1 BX1 FL GW1 hWl v1
  generalize W.heap.size = g at HG1 HWL ⊢
  clear HSB HsW GW HW W
  go_loopg [14] s.ns.length (fun kx s8 wr => ∃ (i : Nat) (used : List Nat), s8 = .int .i64 i ∧ i ≤ s.ns.length ∧ s.ns.length - i ≤ kx ∧ Aside (Box wr w.heap.size s ∧ Flags wr g s.cs.length used ∧ Below w.heap.size w wr) ∧ Aside (ownedB s = ownScan s (s.ns.drop i) used))
  case atStart => exact ⟨0, [], rfl, Nat.zero_le _, by omega, HG1.out, (show ownedB s = _ by simp [ownedB])⟩
  case round =>
    clear HG1
    obtain ⟨i, used, rfl, hi, hkx, G, I⟩ := hrel
    by_cases hlt : i < s.ns.length
    · have hltz : (i : Int) < (s.ns.length : Int) := by omega
      have hx : s.ns[i]? = some s.ns[i] := List.getElem?_eq_getElem hlt
      generalize s.ns[i] = n at hx
      have D := Lib.hid (show ownedB s = ownScan s (n :: s.ns.drop (i + 1)) used by rw [← drop_cons hx]; exact I.out)
      clear I
      have hr : SRd wr B s := H.out.below (G.out.2.2.mono HB.out)
      obtain ⟨b, o, eA, hb, hc⟩ := hr.n.at_ hx
      have hn2 : RdN wr B (some ⟨b, o, none⟩) s.ns := by rw [← eA]; exact hr.n
      have EA := Lib.hid eA
      have ld := hn2.load hx
      clear hx hr hc hn2
      rw [EA.out]
      clear eA
      go_upto_region 5 with (fail)
      obtain ⟨V, hV⟩ : ∃ V, V = wr.alloc (.cells n.cs 35) := ⟨_, rfl⟩
      have hbox : V.heap[wr.heap.size]? = some (.cells n.cs 35 (0, 0)) := by rw [hV]; exact heap_alloc_new wr _
      have hgl := G.out.2.1.lt
      have GB := Lib.hid (show Box V w.heap.size s ∧ Flags V g s.cs.length used ∧ Below w.heap.size w V by
        rw [hV]
        exact ⟨(Below.heap_alloc wr _ _ (Array.getElem?_eq_some_iff.1 G.out.1).1).trans G.out.1, G.out.2.1.keep (Below.heap_alloc wr _ _ hgl), G.out.2.2.alloc G.out.2.2.size _⟩)
      rw [← hV]
      clear hV ld hgl
      have HBX := Lib.hid hbox
      have OC := Lib.hid (ownCell_any wr.heap.size n V hbox)
      clear hbox
      cases hix : ownIx n with
      | none =>
        have hcn := cellOf_none hix
        have eP : ownP wr.heap.size n = .pointer none := by simp [ownP, hix]
        rw [eP] at OC
        have D2 := Lib.hid (show ownedB s = ownScan s (s.ns.drop (i + 1)) used by rw [D.out, ownScan, hcn])
        clear hix hcn eP D
        go_wp2_with (go_at_call 27; refine OC.out.mono ?_; rintro e w' ⟨rfl, hg⟩; have HG := Lib.hid hg; clear hg)
        rw [← EA.out]
        go_roundg (s.ns.length - (i + 1))
        case measure => omega
        case rel =>
          exact ⟨i + 1, used, by go_num, by omega, Nat.le_refl _, (⟨GB.out.1.gr HG.out, GB.out.2.1.keep (HG.out.b.block _ GB.out.2.1.lt), GB.out.2.2.trans (HG.out.b.mono GB.out.2.2.size)⟩ : _ ∧ _ ∧ _), D2.out⟩
      | some ix =>
        obtain ⟨c, hcc, hcv⟩ := cellOf_ix hix
        have eP : ownP wr.heap.size n = .pointer (some ⟨wr.heap.size, ix, none⟩) := by simp [ownP, hix]
        rw [eP] at OC
        clear hix eP
        go_upto_region 7 with (go_at_call 27; refine OC.out.mono ?_; rintro e w' ⟨rfl, hg⟩; have HG := Lib.hid hg; clear hg)
        have KB := Lib.hid (⟨GB.out.1.gr HG.out, GB.out.2.1.keep (HG.out.b.block _ GB.out.2.1.lt), GB.out.2.2.trans (HG.out.b.mono GB.out.2.2.size)⟩ : Box w' w.heap.size s ∧ Flags w' g s.cs.length used ∧ Below w.heap.size w w')
        have hbx : w'.heap[wr.heap.size]? = some (.cells n.cs 35 (0, 0)) := (HG.out.b.block _ (Array.getElem?_eq_some_iff.1 HBX.out).1).trans HBX.out
        have q0 := fun m os => (Box.at0 (s := s) (b := w.heap.size) (w := grow (w'.drewN m) os) (heap_grown KB.out.1 m os))
        have q1 := fun m os => (Box.at1 (s := s) (b := w.heap.size) (w := grow (w'.drewN m) os) (heap_grown KB.out.1 m os))
        have q2 := fun m os => (Box.at2 (s := s) (b := w.heap.size) (w := grow (w'.drewN m) os) (heap_grown KB.out.1 m os))
        have q3 := fun m os => (node_cellA (heap_grown hbx m os) hcv)
        have HS := Lib.hid (fun V => hasCell_any s c V)
        have BX2 := Lib.hid hbx
        have hwl := KB.out.2.1.lt
        have HWG := Lib.hid hwl
        clear hbx hwl
        unfold Sd.vals at HS
        cases hh : hasC s c with
        | false =>
          rw [hh] at HS
          have D2 := Lib.hid (show ownedB s = false by rw [D.out, ownScan, hcc]; simp [hh])
          clear hh hcc hcv
          go_quiet_grown ((go_at_call 54; exact Gr.called (HS.out _)))
          go_wp2
          go_ret
          exact ⟨ret_bool D2.out.symm, KB.out.2.2.trans (((Gr.refl w').grow _ _).b.mono KB.out.2.2.size)⟩
        | true =>
          rw [hh] at HS
          have hc1 : 1 ≤ c ∧ c ≤ (s.cs.length : Int) := by simpa [hasC] using hh
          obtain ⟨k, rfl⟩ : ∃ k : Nat, c = (k : Int) + 1 := ⟨(c - 1).toNat, by omega⟩
          have hk : k < s.cs.length := by omega
          have hkz : (k : Int) < (s.cs.length : Int) := by omega
          have ek : ((k : Int) + 1).toNat - 1 = k := by omega
          have D2 := Lib.hid (show ownedB s = (!decide (k ∈ used) && ownScan s (s.ns.drop (i + 1)) (k :: used)) by rw [D.out, ownScan, hcc]; simp [hh])
          have KH := Lib.hid hk
          have j3 : IntKind.i64.wrap (k : Int) = (k : Int) := by rw [IntKind.wrap_i64]; omega
          have hk0 : (0 : Int) ≤ (k : Int) := by omega
          clear hh hcc hc1 hk ek D
          cases hu : decide (k ∈ used) with
          | true =>
            have q4 := fun m os => (Flags.cell (w := grow (w'.drewN m) os) (KB.out.2.1.keep (heap_grow_old (w'.drewN m) os HWG.out)) KH.out)
            simp only [hu] at q4
            have D3 := Lib.hid (show ownedB s = false by rw [D2.out, hu]; rfl)
            clear hu hcv D2
            go_quiet_grown ((go_at_call 54; exact Gr.called (HS.out _)))
            go_wp2
            go_ret
            exact ⟨ret_bool D3.out.symm, KB.out.2.2.trans (((Gr.refl w').grow _ _).b.mono KB.out.2.2.size)⟩
          | false =>
            have q4 := fun m os => (Flags.cell (w := grow (w'.drewN m) os) (KB.out.2.1.keep (heap_grow_old (w'.drewN m) os HWG.out)) KH.out)
            simp only [hu] at q4
            have D3 := Lib.hid (show ownedB s = ownScan s (s.ns.drop (i + 1)) (k :: used) by rw [D2.out, hu]; rfl)
            clear hu D2
            go_quiet_grown ((go_at_call 54; exact Gr.called (HS.out _)))
            clear q0 q1 q2 q3 q4
            obtain ⟨V3, hV3⟩ : ∃ V3, V3 = grow (w'.drewN nq) osq := ⟨_, rfl⟩
            rw [← hV3]
            have G3 := Lib.hid (show Gr w' V3 by rw [hV3]; exact (Gr.refl w').grow _ _)
            clear hV3
            have KB3 := Lib.hid (⟨KB.out.1.gr G3.out, KB.out.2.1.keep (G3.out.b.block _ HWG.out), KB.out.2.2.trans (G3.out.b.mono KB.out.2.2.size)⟩ : Box V3 w.heap.size s ∧ Flags V3 g s.cs.length used ∧ Below w.heap.size w V3)
            have p3 := node_cellA ((G3.out.b.block _ (Array.getElem?_eq_some_iff.1 BX2.out).1).trans BX2.out) hcv
            have p4 := KB3.out.2.1.cell KH.out
            have p5 := KB3.out.2.1.froz k
            clear hcv
            go_wp2_with fail
            rw [← EA.out]
            go_roundg (s.ns.length - (i + 1))
            case measure => omega
            case rel =>
              refine ⟨i + 1, k :: used, by go_num, by omega, Nat.le_refl _, (⟨?_, KB3.out.2.1.set KH.out, KB3.out.2.2.setCell (Nat.le_of_lt HWL.out) _⟩ : _ ∧ _ ∧ _), D3.out⟩
              exact (Below.heap_setCell V3 ⟨g, k, none⟩ _ _ (by have := HWL.out; simp; omega)).trans KB3.out.1
    · obtain rfl : i = s.ns.length := by omega
      go_wp2
      go_ret
      exact ⟨ret_bool (by rw [I.out]; simp [ownScan]), G.out.2.2⟩


/-! ### proper -/
noncomputable def properB (s : Sd) : Bool := markedB s && (nodesB s && (refsB s && ownedB s))
set_option maxHeartbeats 4000000 in
theorem proper_any (s : Sd) (B : Nat) (w : World) (h : SRd w B s) (hB : B ≤ w.heap.size) : Calls Try.prog 21 #[.agg s.vals] w fun e w' => e = .returned (.bool (properB s)) ∧ Below w.heap.size w w' := by
  obtain ⟨W, hW⟩ : ∃ W, W = w.alloc (.cells s.vals 38) := ⟨_, rfl⟩
  have GW := Lib.hid (show Below w.heap.size w W by rw [hW]; exact (Below.refl _ w).alloc (Nat.le_refl _) _)
  have HSB := Lib.hid (show Box W w.heap.size s by rw [hW]; exact heap_alloc_new w _)
  have HL := Lib.hid (show w.heap.size < W.heap.size by rw [hW]; simp)
  have HW := Lib.hid hW.symm
  have H := Lib.hid (h.below (GW.out.mono hB))
  have HB := Lib.hid (Nat.le_trans hB GW.out.size)
  -- what holds in every world behind
  have P := Lib.hid (fun (V : World) (hV : Below W.heap.size W V) => (⟨(H.out.below (hV.mono HB.out)), Nat.le_trans HB.out hV.size, GW.out.trans (hV.mono (Nat.le_of_lt HL.out)), (hV.block w.heap.size HL.out).trans HSB.out⟩ : SRd V B s ∧ B ≤ V.heap.size ∧ Below w.heap.size w V ∧ Box V w.heap.size s))
  clear h hB hW
  go_enter Try.func21, Try.ntmps21
  go_upto_region 1 with (fail)
  rw [HW.out]
  have q0 := HSB.out.at0
  have q1 := HSB.out.at1
  have q2 := HSB.out.at2
  have C1 := Lib.hid (marked_any s B W H.out HB.out)
  unfold Sd.vals at C1
  cases h1 : markedB s with
  | false =>
    have R := Lib.hid (show properB s = false by simp [properB, h1])
    rw [h1] at C1
    clear h1
    go_wp2_with (go_at_call 34; refine C1.out.mono ?_; rintro e V1 ⟨rfl, hg⟩; have X1 := Lib.hid (P.out V1 hg.b); clear hg)
    go_ret
    exact ⟨ret_bool R.out.symm, X1.out.2.2.1⟩
  | true =>
  cases h2 : nodesB s with
  | false =>
    have R := Lib.hid (show properB s = false by simp [properB, h1, h2])
    have C2 := Lib.hid (fun (V : World) (hV : Below W.heap.size W V) => nodesProper_any s B V (P.out V hV).1 (P.out V hV).2.1)
    unfold Sd.vals at C2
    rw [h1] at C1
    rw [h2] at C2
    clear h1 h2
    go_wp2_with (first
      | (go_at_call 34; refine C1.out.mono ?_; rintro e V1 ⟨rfl, hg⟩; have Y1 := Lib.hid hg.b; have p0 := (P.out V1 hg.b).2.2.2.at0; have p1 := (P.out V1 hg.b).2.2.2.at1; have p2 := (P.out V1 hg.b).2.2.2.at2; clear hg)
      | (go_at_call 35; refine (C2.out _ Y1.out).mono ?_; rintro e V2 ⟨rfl, hg⟩; have X2 := Lib.hid (P.out V2 (Y1.out.trans (hg.b.mono Y1.out.size))); clear hg))
    go_ret
    exact ⟨ret_bool R.out.symm, X2.out.2.2.1⟩
  | true =>
  cases h3 : refsB s with
  | false =>
    have R := Lib.hid (show properB s = false by simp [properB, h1, h2, h3])
    have C2 := Lib.hid (fun (V : World) (hV : Below W.heap.size W V) => nodesProper_any s B V (P.out V hV).1 (P.out V hV).2.1)
    have C3 := Lib.hid (fun (V : World) (hV : Below W.heap.size W V) => refsExist_any s B V (P.out V hV).1 (P.out V hV).2.1)
    unfold Sd.vals at C2 C3
    rw [h1] at C1
    rw [h2] at C2
    rw [h3] at C3
    clear h1 h2 h3
    go_wp2_with (first
      | (go_at_call 34; refine C1.out.mono ?_; rintro e V1 ⟨rfl, hg⟩; have Y1 := Lib.hid hg.b; have p0 := (P.out V1 hg.b).2.2.2.at0; have p1 := (P.out V1 hg.b).2.2.2.at1; have p2 := (P.out V1 hg.b).2.2.2.at2; clear hg)
      | (go_at_call 35; refine (C2.out _ Y1.out).mono ?_; rintro e V2 ⟨rfl, hg⟩; have Y2 := Lib.hid (Y1.out.trans (hg.b.mono Y1.out.size)); have r0 := (P.out V2 Y2.out).2.2.2.at0; have r1 := (P.out V2 Y2.out).2.2.2.at1; have r2 := (P.out V2 Y2.out).2.2.2.at2; clear hg)
      | (go_at_call 36; refine (C3.out _ Y2.out).mono ?_; rintro e V3 ⟨rfl, hg⟩; have X3 := Lib.hid (P.out V3 (Y2.out.trans (hg.b.mono Y2.out.size))); clear hg))
    go_ret
    exact ⟨ret_bool R.out.symm, X3.out.2.2.1⟩
  | true =>
    have R := Lib.hid (show properB s = ownedB s by simp [properB, h1, h2, h3])
    have C2 := Lib.hid (fun (V : World) (hV : Below W.heap.size W V) => nodesProper_any s B V (P.out V hV).1 (P.out V hV).2.1)
    have C3 := Lib.hid (fun (V : World) (hV : Below W.heap.size W V) => refsExist_any s B V (P.out V hV).1 (P.out V hV).2.1)
    have C4 := Lib.hid (fun (V : World) (hV : Below W.heap.size W V) => cellsOwned_any s B V (P.out V hV).1 (P.out V hV).2.1)
    unfold Sd.vals at C2 C3 C4
    rw [h1] at C1
    rw [h2] at C2
    rw [h3] at C3
    clear h1 h2 h3
    go_wp2_with (first
      | (go_at_call 34; refine C1.out.mono ?_; rintro e V1 ⟨rfl, hg⟩; have Y1 := Lib.hid hg.b; have p0 := (P.out V1 hg.b).2.2.2.at0; have p1 := (P.out V1 hg.b).2.2.2.at1; have p2 := (P.out V1 hg.b).2.2.2.at2; clear hg)
      | (go_at_call 35; refine (C2.out _ Y1.out).mono ?_; rintro e V2 ⟨rfl, hg⟩; have Y2 := Lib.hid (Y1.out.trans (hg.b.mono Y1.out.size)); have r0 := (P.out V2 Y2.out).2.2.2.at0; have r1 := (P.out V2 Y2.out).2.2.2.at1; have r2 := (P.out V2 Y2.out).2.2.2.at2; clear hg)
      | (go_at_call 36; refine (C3.out _ Y2.out).mono ?_; rintro e V3 ⟨rfl, hg⟩; have Y3 := Lib.hid (Y2.out.trans (hg.b.mono Y2.out.size)); have t0 := (P.out V3 Y3.out).2.2.2.at0; have t1 := (P.out V3 Y3.out).2.2.2.at1; have t2 := (P.out V3 Y3.out).2.2.2.at2; clear hg)
      | (go_at_call 37; refine (C4.out _ Y3.out).mono ?_; rintro e V4 ⟨rfl, hg⟩; have X4 := Lib.hid (P.out V4 (Y3.out.trans (hg.mono Y3.out.size))); clear hg))
    go_ret
    exact ⟨ret_bool R.out.symm, X4.out.2.2.1⟩

end Go.Proofs.Ytbknbjabkhhlfaa
