/-
  Proper of the reference: what it scans, and its walk.
-/
import Derived.Test.YtcmnmimkjkpimaaLArE
import Derived.Deep.DeepCutAuto
set_option linter.unusedVariables false
set_option maxRecDepth 100000
section
namespace Go.Proofs.Ytcmnmimkjkpimaa
open Go.Shelf Go.RowKit Go.Lib Go.Sort
attribute [local go_sem ↓] exec_load28 exec_store44
attribute [local go_sem] run_storeNode_new

noncomputable def nodeOk (s : Sd) (n : Nd) : Bool := nodeP s.gen n && !nodeM s n
noncomputable def rscan (s : Sd) : List Nd → List Nat → Bool
  | [], _ => true
  | n :: ns, used => nodeOk s n && (match cellOf n with
    | none => rscan s ns used
    | some c => hasC s c && (!decide (c.toNat - 1 ∈ used) && rscan s ns ((c.toNat - 1) :: used)))
theorem rscan_eq (s : Sd) : ∀ (ns : List Nd) (used : List Nat), rscan s ns used = (ns.all (nodeP s.gen) && (ns.all (fun n => !nodeM s n) && ownScan s ns used))
  | [], _ => rfl
  | n :: ns, used => by
    rw [rscan, ownScan, List.all_cons, List.all_cons, nodeOk]
    cases hc : cellOf n with
    | none =>
      simp only
      rw [rscan_eq s ns used]
      cases nodeP s.gen n <;> cases nodeM s n <;> cases ns.all (nodeP s.gen) <;> cases ns.all (fun n => !nodeM s n) <;> simp
    | some c =>
      simp only
      rw [rscan_eq s ns _]
      cases nodeP s.gen n <;> cases nodeM s n <;> cases ns.all (nodeP s.gen) <;> cases ns.all (fun n => !nodeM s n) <;> cases hasC s c <;> cases decide (c.toNat - 1 ∈ used) <;> simp
theorem proper_scan (s : Sd) : properB s = (markedB s && (!missB s s.cs && rscan s s.ns [])) := by
  rw [rscan_eq]
  unfold properB nodesB refsB ownedB
  cases markedB s <;> cases s.ns.all (nodeP s.gen) <;> cases s.ns.all (fun n => !nodeM s n) <;> cases missB s s.cs <;> simp
theorem mark_gen {n : Nd} (hk : n.kind = 1) (hv : validN n = true) : n.gen = 0 := by
  obtain ⟨kind, gen, main, bm, bA, bc, bs, hash, key, val, pA, pc, ps, prev, old, exp, new, status⟩ := n
  simp only at hk
  subst hk
  unfold validN at hv
  rw [Bool.and_eq_true] at hv
  have := hv.1
  simp [eqN, own, Nd.zero] at this
  exact this.1
theorem proper_neg {s : Sd} (hg : s.gen < 0) : properB s = false := by
  cases hp : properB s with
  | false => rfl
  | true =>
    exfalso
    unfold properB at hp
    rw [Bool.and_eq_true, Bool.and_eq_true] at hp
    obtain ⟨hm, hn, _⟩ := hp
    unfold markedB at hm
    rw [Bool.and_eq_true, Bool.and_eq_true] at hm
    have h2 : 2 ≤ s.ns.length := of_decide_eq_true hm.1
    have hk := hm.2.1
    obtain ⟨n, hx⟩ : ∃ n, s.ns[0]? = some n := ⟨_, List.getElem?_eq_getElem (by omega)⟩
    have hk1 : n.kind = 1 := by
      simp only [kindAt, hx] at hk
      simpa using hk
    have hh := List.all_eq_true.1 hn n (List.mem_of_getElem? hx)
    unfold nodeP at hh
    rw [Bool.and_eq_true] at hh
    have := mark_gen hk1 hh.1
    have h3 := of_decide_eq_true hh.2
    omega

set_option maxHeartbeats 2000000 in
theorem known_any (n : Nat) (A : Option Addr) (c : Nat) (xs : List Int) (b : Nat) (w : World) (h : RdR w b A xs) (hn : xs.length ≤ 2000000) :
    Calls Try.prog 44 #[.int .i64 n, .slice A xs.length c] w fun e w' => e = .returned (.bool (!xs.any fun z => decide (z < 0) || decide ((n : Int) < z))) ∧ w = w' := by
  have H := Lib.hid h
  clear h
  go_enter Try.func44, Try.ntmps44
  go_wp2
  go_loopg [5] xs.length (fun kx s5 wr => ∃ i : Nat, s5 = .int .i64 i ∧ i ≤ xs.length ∧ xs.length - i ≤ kx ∧ w = wr ∧ Aside (∀ j z, j < i → xs[j]? = some z → (decide (z < 0) || decide ((n : Int) < z)) = false))
  case atStart => exact ⟨0, rfl, Nat.zero_le _, by omega, rfl, (fun j z hj => by omega)⟩
  case round =>
    obtain ⟨i, rfl, hi, hkx, rfl, I⟩ := hrel
    by_cases hlt : i < xs.length
    · have hltz : (i : Int) < (xs.length : Int) := by omega
      obtain ⟨ad, z, rfl, hb, hz, hc⟩ := H.out.at_ hlt
      have Z := Lib.hid hz
      clear hz
      by_cases h1 : z < 0
      · go_wp2
        go_ret
        refine ⟨ret_bool ?_, rfl⟩
        rw [any_true_ Z.out (by simp [h1])]; rfl
      · by_cases h2 : z > (n : Int)
        · go_wp2
          go_ret
          refine ⟨ret_bool ?_, rfl⟩
          rw [any_true_ Z.out (by simp; omega)]; rfl
        · go_wp2
          go_roundg (xs.length - (i + 1))
          case measure => omega
          case rel =>
            refine ⟨i + 1, by go_num, by omega, Nat.le_refl _, rfl, fun j y hj hy => ?_⟩
            by_cases e : j = i
            · subst e
              rw [Z.out] at hy; injection hy with hy; subst hy
              simp; omega
            · exact I.out j y (by omega) hy
    · obtain rfl : i = xs.length := by omega
      have hltz : ¬ (xs.length : Int) < (xs.length : Int) := by omega
      go_wp2
      go_ret
      refine ⟨ret_bool ?_, rfl⟩
      rw [any_false_ fun j x hj hx => I.out j x hj hx]; rfl
def hasK (k : Int) : Bool := k == 2 || (k == 3 || (k == 5 || (k == 6 || k == 8)))
set_option maxHeartbeats 2000000 in
theorem has_any (k : Int) (w : World) : Calls Try.prog 46 #[.int .i64 k] w fun e w' => e = .returned (.bool (hasK k)) ∧ w = w' := by
  have E := Lib.hid (show hasK k = (k == 2 || (k == 3 || (k == 5 || (k == 6 || k == 8)))) from rfl)
  have F := Lib.hid (fun (a : Int) (h : k ≠ a) => (beq_eq_false_iff_ne.2 h : (k == a) = false))
  by_cases h2 : k = 2
  · subst h2; go_enter Try.func46, Try.ntmps46; go_wp2; go_ret; exact ⟨rfl, rfl⟩
  by_cases h3 : k = 3
  · subst h3; go_enter Try.func46, Try.ntmps46; go_wp2; go_ret; exact ⟨rfl, rfl⟩
  by_cases h5 : k = 5
  · subst h5; go_enter Try.func46, Try.ntmps46; go_wp2; go_ret; exact ⟨rfl, rfl⟩
  by_cases h6 : k = 6
  · subst h6; go_enter Try.func46, Try.ntmps46; go_wp2; go_ret; exact ⟨rfl, rfl⟩
  by_cases h8 : k = 8
  · subst h8; go_enter Try.func46, Try.ntmps46; go_wp2; go_ret; exact ⟨rfl, rfl⟩
  · go_enter Try.func46, Try.ntmps46
    go_wp2
    go_ret
    exact ⟨ret_bool (by rw [E.out, F.out 2 h2, F.out 3 h3, F.out 5 h5, F.out 6 h6, F.out 8 h8]; rfl), rfl⟩
/-- The sum of a node's cells. -/
def cellS (n : Nd) : Int := IntKind.i64.wrap (IntKind.i64.wrap (n.main + n.prev) + n.status)
set_option maxHeartbeats 2000000 in
theorem cellS_any (n : Nd) (w : World) : Calls Try.prog 47 #[.agg n.cs] w fun e w' => e = .returned (.int .i64 (cellS n)) ∧ Gr w w' := by
  obtain ⟨W, hW⟩ : ∃ W, W = w.alloc (.cells n.cs 44) := ⟨_, rfl⟩
  have GW := Lib.hid (show Gr w W by rw [hW]; exact (Gr.refl w).alloc _)
  have hg : W.heap[w.heap.size]? = some (.cells n.cs 44 (0, 0)) := by rw [hW]; exact heap_alloc_new w _
  have c2 := node_cellA hg (i := 2) (v := .int .i64 n.main) rfl
  have c9 := node_cellA hg (i := 9) (v := .int .i64 n.prev) rfl
  have c13 := node_cellA hg (i := 13) (v := .int .i64 n.status) rfl
  have HW := Lib.hid hW.symm
  have E := Lib.hid (show cellS n = IntKind.i64.wrap (IntKind.i64.wrap (n.main + n.prev) + n.status) from rfl)
  clear hg hW
  go_enter Try.func47, Try.ntmps47
  go_upto_region 1 with (fail)
  rw [HW.out]
  go_wp2
  go_ret
  exact ⟨ret_int (by rw [E.out, IntKind.wrap_i64, IntKind.wrap_i64]; unfold wrap64; first | rfl | omega), GW.out⟩
def I64 (z : Int) : Prop := -9223372036854775808 ≤ z ∧ z ≤ 9223372036854775807
theorem wrap_I64 {z : Int} (h : I64 z) : IntKind.i64.wrap z = z := by
  unfold I64 at h
  rw [IntKind.wrap_i64]; omega
/-- The cells' numbers are int64. -/
def Rg (n : Nd) : Prop := I64 n.main ∧ I64 n.prev ∧ I64 n.status
theorem cell_valid {n : Nd} (hv : validN n = true) (hr : Rg n) : (hasK n.kind = false ∧ cellOf n = none) ∨ (hasK n.kind = true ∧ ∃ c, cellOf n = some c ∧ cellS n = c) := by
  obtain ⟨kind, gen, main, bm, bA, bc, bs, hash, key, val, pA, pc, ps, prev, old, exp, new, status⟩ := n
  obtain ⟨h1, h2, h3⟩ := hr
  simp only at h1 h2 h3
  unfold validN at hv
  rw [Bool.and_eq_true] at hv
  have he := hv.1
  by_cases k2 : kind = 2
  · subst k2
    simp [eqN, own, Nd.zero] at he
    refine .inr ⟨rfl, main, rfl, ?_⟩
    simp only [cellS, he]
    rw [Int.add_zero, Int.add_zero, wrap_I64 h1, wrap_I64 h1]
  by_cases k8 : kind = 8
  · subst k8
    simp [eqN, own, Nd.zero] at he
    refine .inr ⟨rfl, status, rfl, ?_⟩
    simp only [cellS, he]
    rw [Int.add_zero, show IntKind.i64.wrap 0 = 0 by decide, Int.zero_add, wrap_I64 h3]
  by_cases k3 : kind = 3
  · subst k3
    simp [eqN, own, Nd.zero] at he
    refine .inr ⟨rfl, prev, rfl, ?_⟩
    simp only [cellS, he]
    rw [Int.zero_add, wrap_I64 h2, Int.add_zero, wrap_I64 h2]
  by_cases k5 : kind = 5
  · subst k5
    simp [eqN, own, Nd.zero] at he
    refine .inr ⟨rfl, prev, rfl, ?_⟩
    simp only [cellS, he]
    rw [Int.zero_add, wrap_I64 h2, Int.add_zero, wrap_I64 h2]
  by_cases k6 : kind = 6
  · subst k6
    simp [eqN, own, Nd.zero] at he
    refine .inr ⟨rfl, prev, rfl, ?_⟩
    simp only [cellS, he]
    rw [Int.zero_add, wrap_I64 h2, Int.add_zero, wrap_I64 h2]
  · refine .inl ⟨?_, ?_⟩
    · simp [hasK, k2, k3, k5, k6, k8]
    · simp [cellOf, mainB, k2, k3, k5, k6, k8]
end Go.Proofs.Ytcmnmimkjkpimaa
end
section
namespace Go.Proofs.Ytcmnmimkjkpimaa
open Go.Shelf Go.RowKit Go.Lib Go.Sort
attribute [local go_sem ↓] exec_load28 exec_store44
attribute [local go_sem] run_storeNode_new

def headB (s : Sd) : Bool := markedB s && (decide (0 ≤ s.gen) && !missB s s.cs)
theorem proper_head (s : Sd) : properB s = (headB s && rscan s s.ns []) := by
  by_cases hg : s.gen < 0
  · rw [proper_neg hg]
    have : decide (0 ≤ s.gen) = false := decide_eq_false (by omega)
    simp [headB, this]
  · rw [proper_scan]
    have : decide (0 ≤ s.gen) = true := decide_eq_true (by omega)
    simp only [headB, this, Bool.true_and]
    cases markedB s <;> cases missB s s.cs <;> simp
theorem known_c (s : Sd) (A : Option Addr) (c : Nat) (xs : List Int) (b : Nat) (w : World) (h : RdR w b A xs) (hn : xs.length ≤ 2000000) :
    Calls Try.prog 44 #[.int .i64 s.ns.length, .slice A xs.length c] w fun e w' => e = .returned (.bool (!missB s xs)) ∧ w = w' := known_any s.ns.length A c xs b w h hn
theorem row3_rdR (w : World) (x y z : Int) : RdR (w.alloc (.cells #[.int .i64 x, .int .i64 y, .int .i64 z] 42)) (w.heap.size + 1) (some ⟨w.heap.size, 0, none⟩) [x, y, z] := fun _ =>
  ⟨_, rfl, Nat.lt_succ_self _, fun j u hj => by
    have := cell_of_row (w.alloc (.cells #[.int .i64 x, .int .i64 y, .int .i64 z] 42)) w.heap.size j #[.int .i64 x, .int .i64 y, .int .i64 z] 42 (0, 0) (heap_alloc_new w _)
    rw [Addr.add_lit, Nat.zero_add]
    exact this.trans (by simpa [flatR] using hj)⟩
theorem known_3 (s : Sd) (x y z : Int) (w : World) :
    Calls Try.prog 44 #[.int .i64 s.ns.length, .slice (some ⟨w.heap.size, 0, none⟩) 3 3] (w.alloc (.cells #[.int .i64 x, .int .i64 y, .int .i64 z] 42)) fun e w' => e = .returned (.bool (!missB s [x, y, z])) ∧ w.alloc (.cells #[.int .i64 x, .int .i64 y, .int .i64 z] 42) = w' :=
  known_c s (some ⟨w.heap.size, 0, none⟩) 3 [x, y, z] _ _ (row3_rdR w x y z) (by simp)
theorem nodeM_eq (s : Sd) (n : Nd) : nodeM s n = (missB s n.bs || missB s [n.old, n.exp, n.new]) := by
  simp only [nodeM, missB, List.any_cons, List.any_nil, Bool.or_false]
  cases missR s n.old <;> cases missR s n.exp <;> cases missR s n.new <;> cases n.bs.any (missR s) <;> rfl
set_option maxHeartbeats 8000000 in
theorem rproper_any (s : Sd) (B : Nat) (w : World) (h : SRd w B s) (hB : B ≤ w.heap.size) (hr : ∀ n ∈ s.ns, Rg n) : Calls Try.prog 21 #[.agg s.vals] w fun e w' => e = .returned (.bool (properB s)) ∧ Below w.heap.size w w' := by
  have mixed := mixedOrders
  have hl := h.nl
  have hcl := h.cl
  have H := Lib.hid h
  have HB := Lib.hid hB
  have RG := Lib.hid hr
  obtain ⟨i0, hi0, hz0, hz1, hz2⟩ := info_parts boolInfo
  obtain ⟨W, hW⟩ : ∃ W, W = w.alloc (.cells s.vals 35) := ⟨_, rfl⟩
  have GW := Lib.hid (show Gr w W by rw [hW]; exact (Gr.refl w).alloc _)
  have HsW := Lib.hid (show W.heap.size = w.heap.size + 1 by rw [hW]; simp)
  have HSB := Lib.hid (show Box W w.heap.size s by rw [hW]; exact heap_alloc_new w _)
  have HW := Lib.hid hW.symm
  have HI := Lib.hid (⟨hi0, hz0, hz1, hz2⟩ : _ ∧ _ ∧ _ ∧ _)
  have q0 := HSB.out.at0
  clear h hB hW hr hi0 hz0 hz1 hz2
  go_enter Try.func21, Try.ntmps21
  go_upto_region 1 with (fail)
  rw [HW.out]
  go_upto_region 2 with (fail)
  go_cut [40] (fun s40 wx => s40 = .bool (!headB s) ∧ wx = W)
  case first =>
    have q1 := HSB.out.at1
    have q2 := HSB.out.at2
    have KN := Lib.hid (known_c s s.cA s.cc s.cs B W (H.out.gr HB.out GW.out).c (by omega))
    by_cases h2 : s.ns.length < 2
    · have d : decide ((s.ns.length : Int) < 2) = true := decide_eq_true (by omega)
      have E := Lib.hid (show headB s = false by simp [headB, markedB, Nat.not_le.2 h2])
      clear h2
      go_wp2_with fail
      go_meet
      exact ⟨by rw [E.out]; rfl, rfl⟩
    · have d : decide ((s.ns.length : Int) < 2) = false := decide_eq_false (by omega)
      obtain ⟨n0, e0⟩ : ∃ n0, s.ns[0]? = some n0 := ⟨_, List.getElem?_eq_getElem (by omega)⟩
      obtain ⟨n1, e1⟩ : ∃ n1, s.ns[1]? = some n1 := ⟨_, List.getElem?_eq_getElem (by omega)⟩
      have EM := Lib.hid (show markedB s = (n0.kind == 1 && n1.kind == 1) by simp [markedB, kindAt, e0, e1]; omega)
      obtain ⟨b, o, eA, hb, hc0⟩ := (H.out.gr HB.out GW.out).n.at_ e0
      obtain ⟨b', o', eA', hb', hc1⟩ := (H.out.gr HB.out GW.out).n.at_ e1
      have ee := eA.symm.trans eA'
      injection ee with ee
      injection ee with eb eo
      subst eb eo
      have c0 := (hc0 0 (by omega)).trans (show n0.cs[0]? = some (.int .i64 n0.kind) from rfl)
      have c1 := (hc1 0 (by omega)).trans (show n1.cs[0]? = some (.int .i64 n1.kind) from rfl)
      have l0 : (0 : Int) < (s.ns.length : Int) := by omega
      have l1 : (1 : Int) < (s.ns.length : Int) := by omega
      simp only [Nat.zero_mul, Nat.one_mul, Nat.add_zero] at c0 c1
      rw [eA] at q0
      clear e0 e1 hc0 hc1 eA' h2
      cases k0 : (n0.kind == 1) with
      | false =>
        have k0' : (n0.kind != 1) = true := by simp only [bne, k0]; rfl
        have E := Lib.hid (show headB s = false by simp [headB, EM.out, k0])
        clear k0
        rw [eA]
        go_wp2_with fail
        go_meet
        exact ⟨by rw [E.out]; rfl, rfl⟩
      | true =>
        cases k1 : (n1.kind == 1) with
        | false =>
          have k0' : (n0.kind != 1) = false := by simp only [bne, k0]; rfl
          have k1' : (n1.kind != 1) = true := by simp only [bne, k1]; rfl
          have E := Lib.hid (show headB s = false by simp [headB, EM.out, k0, k1])
          clear k0 k1
          rw [eA]
          go_wp2_with fail
          go_meet
          exact ⟨by rw [E.out]; rfl, rfl⟩
        | true =>
          have k0' : (n0.kind != 1) = false := by simp only [bne, k0]; rfl
          have k1' : (n1.kind != 1) = false := by simp only [bne, k1]; rfl
          by_cases hg : s.gen < 0
          · have E := Lib.hid (show headB s = false by simp [headB, show decide (0 ≤ s.gen) = false from decide_eq_false (by omega)])
            clear k0 k1
            rw [eA]
            go_wp2_with fail
            go_meet
            exact ⟨by rw [E.out]; rfl, rfl⟩
          · have E := Lib.hid (show headB s = !missB s s.cs by simp [headB, EM.out, k0, k1, show decide (0 ≤ s.gen) = true from decide_eq_true (by omega)])
            clear k0 k1
            rw [eA]
            go_wp2_with (go_at_call 44; refine KN.out.mono ?_; rintro e w' ⟨rfl, rfl⟩)
            go_meet
            exact ⟨by rw [E.out]; simp, rfl⟩
  case rest =>
    obtain ⟨rfl, rfl⟩ := hcut
    cases hh : headB s with
    | false =>
      have R := Lib.hid (show properB s = false by rw [proper_head, hh]; rfl)
      clear hh
      go_wp2_with fail
      go_ret
      exact ⟨ret_bool R.out.symm, GW.out.b⟩
    | true =>
      have R := Lib.hid (show properB s = rscan s s.ns [] by rw [proper_head, hh]; rfl)
      have v1 := HSB.out.at1
      clear hh q0
      have MKF := Lib.hid (fun (W1 : World) (HO1 : W1.ownsRow wc.heap.size 4 1 (.slice (some ⟨wc.heap.size, 0, none⟩) s.cs.length s.cs.length) s.cs.length (madeCells (Value.cells (.bool false)) (s.cs.length * 1)).toList) => flags_made HO1)
      have hm1 : (s.cs.length : Nat) * 1 ≤ maxLen := by simp only [maxLen]; omega
      go_upto_region 4 with (fail)
      go_upto_region 5 with (at_make; refine wpList_make_full wc rfl (.tmp 43) (.tmp 43) 87 rfl wc.heap.size 4 i0 (.bool false) 1 Try.underlying87 HI.out.1 HI.out.2.1 HI.out.2.2.1 _ _ _ _ s.cs.length rfl rfl rfl rfl (by rw [HI.out.2.2.2]; omega) (by simp only [maxLen]; omega) (Nat.le_refl _) ?_; intro W1 HO1 HG1; have FL := Lib.hid (MKF.out W1 HO1); have GW1 := Lib.hid (show Below w.heap.size w W1 from GW.out.b.trans ⟨HG1.os, HG1.tape, HG1.output, HG1.size, fun k hk => HG1.block k (Nat.lt_of_lt_of_le hk GW.out.size) (by simp)⟩); have BX1 := Lib.hid (show Box W1 w.heap.size s from (HG1.block w.heap.size (by rw [HsW.out]; omega) (by simp)).trans HSB.out); clear HO1 HG1)
      have hg1 : Box W1 w.heap.size s ∧ Flags W1 wc.heap.size s.cs.length [] ∧ Below w.heap.size w W1 := ⟨BX1.out, FL.out, GW1.out⟩
      have HG1 := Lib.hid hg1
      have HWL := Lib.hid (show w.heap.size < wc.heap.size by rw [HsW.out]; omega)
      clear hg1 BX1 FL GW1 v1
      generalize wc.heap.size = g at HG1 HWL ⊢
      clear HSB HsW GW HW MKF hm1
      go_wp2_with fail
      go_loopg [5] s.ns.length (fun kx s5 wr => ∃ (i : Nat) (used : List Nat), s5 = .int .i64 i ∧ i ≤ s.ns.length ∧ s.ns.length - i ≤ kx ∧ Aside (Box wr w.heap.size s ∧ Flags wr g s.cs.length used ∧ Below w.heap.size w wr) ∧ Aside (properB s = rscan s (s.ns.drop i) used))
      case atStart => exact ⟨0, [], rfl, Nat.zero_le _, by omega, HG1.out, (show properB s = _ by rw [R.out]; simp)⟩
      case round =>
        clear HG1 R
        obtain ⟨i, used, rfl, hi, hkx, G, I⟩ := hrel
        by_cases hlt : i < s.ns.length
        · have hltz : (i : Int) < (s.ns.length : Int) := by omega
          have hx : s.ns[i]? = some s.ns[i] := List.getElem?_eq_getElem hlt
          generalize s.ns[i] = n at hx
          have D := Lib.hid (show properB s = rscan s (n :: s.ns.drop (i + 1)) used by rw [← drop_cons hx]; exact I.out)
          have RN := Lib.hid (RG.out n (List.mem_of_getElem? hx))
          clear I
          have hr : SRd wr B s := H.out.below (G.out.2.2.mono HB.out)
          obtain ⟨b, o, eA, hb, hc⟩ := hr.n.at_ hx
          have hn2 : RdN wr B (some ⟨b, o, none⟩) s.ns := by rw [← eA]; exact hr.n
          have EA := Lib.hid eA
          have ld := hn2.load hx
          have NR := Lib.hid (hr.l n (List.mem_of_getElem? hx)).1
          have b0 := G.out.1.at0
          rw [eA] at b0
          clear hx hr hc hn2
          go_upto_region 9 with (fail)
          obtain ⟨V, hV⟩ : ∃ V, V = wr.alloc (.cells n.cs 44) := ⟨_, rfl⟩
          have HBX := Lib.hid (show V.heap[wr.heap.size]? = some (.cells n.cs 44 (0, 0)) by rw [hV]; exact heap_alloc_new wr _)
          have BWV := Lib.hid (show Below wr.heap.size wr V by rw [hV]; exact (Below.refl _ wr).alloc (Nat.le_refl _) _)
          have hgl := G.out.2.1.lt
          have GB := Lib.hid (show Box V w.heap.size s ∧ Flags V g s.cs.length used ∧ Below w.heap.size w V by
            rw [hV]
            exact ⟨(Below.heap_alloc wr _ _ (Array.getElem?_eq_some_iff.1 G.out.1).1).trans G.out.1, G.out.2.1.keep (Below.heap_alloc wr _ _ hgl), G.out.2.2.alloc G.out.2.2.size _⟩)
          rw [← hV]
          clear hV ld hgl b0
          have NV := Lib.hid (show NRd V B n from NR.out.below (BWV.out.mono (Nat.le_trans HB.out G.out.2.2.size)))
          have HBV := Lib.hid (show B ≤ V.heap.size from Nat.le_trans HB.out GB.out.2.2.size)
          obtain ⟨bx, hbx⟩ : ∃ bx, bx = wr.heap.size := ⟨_, rfl⟩
          rw [← hbx] at HBX ⊢
          have LT := Lib.hid (⟨(Array.getElem?_eq_some_iff.1 HBX.out).1, by rw [hbx]; exact Nat.lt_of_lt_of_le (Array.getElem?_eq_some_iff.1 G.out.1).1 (Nat.le_refl _)⟩ : bx < V.heap.size ∧ w.heap.size < bx)
          clear hbx
          have K := Lib.hid (fun (X : World) (hX : Below V.heap.size V X) => (⟨node_cellA (V := X) ((hX.block bx LT.out.1).trans HBX.out) (i := 1) (v := .int .i64 n.gen) rfl, node_cellA (V := X) ((hX.block bx LT.out.1).trans HBX.out) (i := 4) (v := .slice n.bA n.bs.length n.bc) rfl, node_cellA (V := X) ((hX.block bx LT.out.1).trans HBX.out) (i := 10) (v := .int .i64 n.old) rfl, node_cellA (V := X) ((hX.block bx LT.out.1).trans HBX.out) (i := 11) (v := .int .i64 n.exp) rfl, node_cellA (V := X) ((hX.block bx LT.out.1).trans HBX.out) (i := 12) (v := .int .i64 n.new) rfl, Box.at2 (s := s) (b := w.heap.size) (w := X) ((hX.block _ (Nat.lt_trans LT.out.2 LT.out.1)).trans GB.out.1)⟩ : _ ∧ _ ∧ _ ∧ _ ∧ _ ∧ _))
          go_cut [83] (fun s83 wx => s83 = .bool (!nodeOk s n) ∧ Aside (Below V.heap.size V wx))
          case first =>
            have lv := run_loadNode HBX.out
            have VV := Lib.hid (rvalid_any n B V NV.out HBV.out)
            cases hv : validN n with
            | false =>
              rw [hv] at VV
              have E := Lib.hid (show nodeOk s n = false by simp [nodeOk, nodeP, hv])
              clear hv
              go_wp2_with (go_at_call 45; refine VV.out.mono ?_; rintro e w' ⟨rfl, hg⟩; have HG := Lib.hid hg.b; clear hg)
              go_meet
              exact ⟨by rw [E.out]; rfl, HG.out⟩
            | true =>
              rw [hv] at VV
              cases hgn : decide (n.gen > s.gen) with
              | true =>
                have E := Lib.hid (show nodeOk s n = false by
                  have h1 : decide (n.gen ≤ s.gen) = false := decide_eq_false (by have := of_decide_eq_true hgn; omega)
                  simp [nodeOk, nodeP, h1])
                clear hv
                go_wp2_with (go_at_call 45; refine VV.out.mono ?_; rintro e w' ⟨rfl, hg⟩; have HG := Lib.hid hg.b; have c1 := (K.out w' hg.b).1; have c2 := (K.out w' hg.b).2.2.2.2.2; clear hg)
                go_meet
                exact ⟨by rw [E.out]; rfl, HG.out⟩
              | false =>
                have E0 := Lib.hid (show nodeOk s n = !nodeM s n by
                  have h1 : decide (n.gen ≤ s.gen) = true := decide_eq_true (by have := of_decide_eq_false hgn; omega)
                  simp [nodeOk, nodeP, h1, hv])
                clear hv
                have K1 := Lib.hid (fun (X : World) (hX : Below V.heap.size V X) => known_c s n.bA n.bc n.bs B X (NV.out.r.below (hX.mono HBV.out)) (by have := NV.out.bl; omega))
                cases hm : missB s n.bs with
                | true =>
                  have E := Lib.hid (show nodeOk s n = false by rw [E0.out, nodeM_eq, hm]; rfl)
                  rw [hm] at K1
                  clear hm E0
                  go_wp2_with (first
                    | (go_at_call 44; refine (K1.out w' HG.out).mono ?_; rintro e w9 ⟨rfl, rfl⟩)
                    | (go_at_call 45; refine VV.out.mono ?_; rintro e w' ⟨rfl, hg⟩; have HG := Lib.hid hg.b; have c1 := (K.out w' hg.b).1; have c4 := (K.out w' hg.b).2.1; have c2 := (K.out w' hg.b).2.2.2.2.2; clear hg))
                  go_meet
                  exact ⟨by rw [E.out]; rfl, HG.out⟩
                | false =>
                  have E := Lib.hid (show nodeOk s n = !missB s [n.old, n.exp, n.new] by rw [E0.out, nodeM_eq, hm]; rfl)
                  rw [hm] at K1
                  clear hm E0
                  go_wp2_with (first
                    | (go_at_call 44; (with_reducible refine (known_3 s n.old n.exp n.new w').mono ?_); rintro e w9 ⟨rfl, rfl⟩)
                    | (go_at_call 44; refine (K1.out w' HG.out).mono ?_; rintro e w9 ⟨rfl, rfl⟩)
                    | (go_at_call 45; refine VV.out.mono ?_; rintro e w' ⟨rfl, hg⟩; have HG := Lib.hid hg.b; have c1 := (K.out w' hg.b).1; have c4 := (K.out w' hg.b).2.1; have c10 := (K.out w' hg.b).2.2.1; have c11 := (K.out w' hg.b).2.2.2.1; have c12 := (K.out w' hg.b).2.2.2.2.1; have c2 := (K.out w' hg.b).2.2.2.2.2; clear hg))
                  go_meet
                  exact ⟨by rw [E.out]; simp, HG.out.alloc HG.out.size _⟩
          case rest =>
            obtain ⟨rfl, F⟩ := hcut
            obtain ⟨U, hU⟩ : ∃ U, U = wc := ⟨_, rfl⟩
            simp only [← hU] at F ⊢
            clear hU K
            have HBU := Lib.hid ((F.out.block bx LT.out.1).trans HBX.out)
            have GU := Lib.hid (⟨(F.out.block _ (Nat.lt_trans LT.out.2 LT.out.1)).trans GB.out.1, GB.out.2.1.keep (F.out.block _ GB.out.2.1.lt), GB.out.2.2.trans (F.out.mono GB.out.2.2.size)⟩ : Box U w.heap.size s ∧ Flags U g s.cs.length used ∧ Below w.heap.size w U)
            clear GB HBX
            cases ho : nodeOk s n with
            | false =>
              have R := Lib.hid (show properB s = false by rw [D.out, rscan, ho]; rfl)
              clear ho D
              go_wp2_with fail
              go_ret
              exact ⟨ret_bool R.out.symm, GU.out.2.2⟩
            | true =>
              have hv : validN n = true := by
                unfold nodeOk nodeP at ho
                rw [Bool.and_eq_true, Bool.and_eq_true] at ho
                exact ho.1.1
              have k0 := node_cellA HBU.out (i := 0) (v := .int .i64 n.kind) rfl
              have HK := Lib.hid (fun X => has_any n.kind X)
              rcases cell_valid hv RN.out with ⟨hk, hcn⟩ | ⟨hk, c, hcc, ecc⟩
              · rw [hk] at HK
                have D2 := Lib.hid (show properB s = rscan s (s.ns.drop (i + 1)) used by rw [D.out, rscan, ho, hcn]; rfl)
                clear hk hcn ho hv D
                go_wp2_with (go_at_call 46; refine (HK.out _).mono ?_; rintro e w' ⟨rfl, rfl⟩)
                try rw [← EA.out]
                go_roundg (s.ns.length - (i + 1))
                case measure => omega
                case rel => exact ⟨i + 1, used, by go_num, by omega, Nat.le_refl _, GU.out, D2.out⟩
              · rw [hk] at HK
                have lu := run_loadNode HBU.out
                have CS := Lib.hid (cellS_any n U)
                rw [ecc] at CS
                have D2 := Lib.hid (show properB s = (hasC s c && (!decide (c.toNat - 1 ∈ used) && rscan s (s.ns.drop (i + 1)) ((c.toNat - 1) :: used))) by rw [D.out, rscan, ho, hcc]; rfl)
                clear hk hcc ecc ho hv D
                go_upto_region 13 with (first
                  | (go_at_call 47; refine CS.out.mono ?_; rintro e u2 ⟨rfl, hg⟩; have HG := Lib.hid hg; clear hg)
                  | (go_at_call 46; refine (HK.out _).mono ?_; rintro e w' ⟨rfl, rfl⟩))
                have KB := Lib.hid (⟨GU.out.1.gr HG.out, GU.out.2.1.keep (HG.out.b.block _ GU.out.2.1.lt), GU.out.2.2.trans (HG.out.b.mono GU.out.2.2.size)⟩ : Box u2 w.heap.size s ∧ Flags u2 g s.cs.length used ∧ Below w.heap.size w u2)
                clear k0 lu CS HK HBU GU
                have q1 := KB.out.1.at1
                by_cases h1 : c < 1
                · have R := Lib.hid (show properB s = false by rw [D2.out]; simp [hasC, show ¬ (1 ≤ c) by omega])
                  go_wp2_with fail
                  go_ret
                  exact ⟨ret_bool R.out.symm, KB.out.2.2⟩
                · by_cases h2 : c > (s.cs.length : Int)
                  · have R := Lib.hid (show properB s = false by rw [D2.out]; simp [hasC, show ¬ (c ≤ (s.cs.length : Int)) by omega])
                    go_wp2_with fail
                    go_ret
                    exact ⟨ret_bool R.out.symm, KB.out.2.2⟩
                  · have hh : hasC s c = true := by simp [hasC]; omega
                    obtain ⟨k, rfl⟩ : ∃ k : Nat, c = (k : Int) + 1 := ⟨(c - 1).toNat, by omega⟩
                    have hk : k < s.cs.length := by omega
                    have hkz : (k : Int) < (s.cs.length : Int) := by omega
                    have ek : ((k : Int) + 1).toNat - 1 = k := by omega
                    have j3 : IntKind.i64.wrap (k : Int) = (k : Int) := by rw [IntKind.wrap_i64]; omega
                    have j4 : IntKind.i64.wrap ((k : Int) + 1 - 1) = (k : Int) := by rw [IntKind.wrap_i64]; omega
                    have hk0 : (0 : Int) ≤ (k : Int) := by omega
                    have p4 := KB.out.2.1.cell hk
                    have p5 := KB.out.2.1.froz k
                    rw [hh, ek] at D2
                    have KH := Lib.hid hk
                    clear hh ek hk
                    cases hu : decide (k ∈ used) with
                    | true =>
                      rw [hu] at p4
                      have R := Lib.hid (show properB s = false by rw [D2.out, hu]; rfl)
                      clear hu D2
                      go_wp2_with fail
                      go_ret
                      exact ⟨ret_bool R.out.symm, KB.out.2.2⟩
                    | false =>
                      rw [hu] at p4
                      have D3 := Lib.hid (show properB s = rscan s (s.ns.drop (i + 1)) (k :: used) by rw [D2.out, hu]; rfl)
                      clear hu D2
                      go_wp2_with fail
                      try rw [← EA.out]
                      go_roundg (s.ns.length - (i + 1))
                      case measure => omega
                      case rel =>
                        refine ⟨i + 1, k :: used, by go_num, by omega, Nat.le_refl _, (⟨?_, KB.out.2.1.set KH.out, KB.out.2.2.setCell (Nat.le_of_lt HWL.out) _⟩ : _ ∧ _ ∧ _), D3.out⟩
                        exact (Below.heap_setCell u2 ⟨g, k, none⟩ _ _ (by have := HWL.out; simp; omega)).trans KB.out.1
        · obtain rfl : i = s.ns.length := by omega
          go_wp2
          go_ret
          exact ⟨ret_bool (by rw [I.out]; simp [rscan]), G.out.2.2⟩
end Go.Proofs.Ytcmnmimkjkpimaa
end
