/-
  The walks of view's nodeAt, contents, pairsOf.
-/
import Derived.Test.YtbknbjabkhhlfaaArJ
import Derived.Test.YtbknbjabkhhlfaaBrE
import Derived.Test.YtbknbjabkhhlfaaPoA
import Derived.Maps.Own
import Derived.Maps.Views
import Derived.Test.YtbknbjabkhhlfaaArB1
set_option linter.unusedVariables false
set_option maxRecDepth 100000
namespace Go.Proofs.Ytbknbjabkhhlfaa
open Go.Shelf Go.RowKit Go.Lib Go.Sort
section
attribute [local go_sem ↓] exec_load28 exec_store44
attribute [local go_sem] run_storeNode_new run_storeNode_zero

set_option maxHeartbeats 4000000 in
theorem nodeAt_out (s : Sd) (r : Int) (w : World) (hr : ¬ (1 ≤ r ∧ r ≤ (s.ns.length : Int))) :
    Calls Try.prog 30 #[.agg s.vals, .int .i64 r] w fun e w' => e = .returned (.agg (nodeV s r).cs) ∧ Gr w w' := by
  have HZ := Lib.hid (show nodeV s r = Nd.zero by rw [nodeV, if_neg hr])
  unfold Sd.vals
  have ZS : Sem.run Try.prog (storeNode (.pointer (some ⟨w.heap.size + 1, 0, none⟩)) (.agg #[.int .i64 0, .int .i64 0, .int .i64 0, .int .u64 0, .slice none 0 0, .int .u64 0, .string ⟨#[]⟩, .int .u64 0, .slice none 0 0, .int .i64 0, .int .i64 0, .int .i64 0, .int .i64 0, .int .i64 0])) ((w.alloc (.cells #[.slice s.nA s.ns.length s.nc, .slice s.cA s.cs.length s.cc, .int .i64 s.gen] 38)).alloc (.cells #[.int .i64 0, .int .i64 0, .int .i64 0, .int .u64 0, .slice none 0 0, .int .u64 0, .string ⟨#[]⟩, .int .u64 0, .slice none 0 0, .int .i64 0, .int .i64 0, .int .i64 0, .int .i64 0, .int .i64 0] 35)) = .ok () ((w.alloc (.cells #[.slice s.nA s.ns.length s.nc, .slice s.cA s.cs.length s.cc, .int .i64 s.gen] 38)).alloc (.cells #[.int .i64 0, .int .i64 0, .int .i64 0, .int .u64 0, .slice none 0 0, .int .u64 0, .string ⟨#[]⟩, .int .u64 0, .slice none 0 0, .int .i64 0, .int .i64 0, .int .i64 0, .int .i64 0, .int .i64 0] 35)) := by
    have := run_storeNode_zero (w.alloc (.cells #[.slice s.nA s.ns.length s.nc, .slice s.cA s.cs.length s.cc, .int .i64 s.gen] 38))
    simpa using this
  by_cases h1 : r < 1
  · have d : decide (r < 1) = true := decide_eq_true h1
    clear hr h1
    go_enter Try.func30, Try.ntmps30
    go_wp2_with fail
    exact bodyPost_ret (v := .agg Nd.zero.cs) (by simp [results, Try.results30, go_sem, Nd.zero, Nd.cs]) rfl ⟨by rw [HZ.out], ((Gr.refl w).alloc _).alloc _⟩
  · have d : decide (r < 1) = false := decide_eq_false h1
    have d3 : decide (r > (s.ns.length : Int)) = true := decide_eq_true (by omega)
    have d2 : decide ((s.ns.length : Int) < r) = true := d3
    clear hr h1
    go_enter Try.func30, Try.ntmps30
    go_wp2_with fail
    exact bodyPost_ret (v := .agg Nd.zero.cs) (by simp [results, Try.results30, go_sem, Nd.zero, Nd.cs]) rfl ⟨by rw [HZ.out], ((Gr.refl w).alloc _).alloc _⟩

set_option maxHeartbeats 4000000 in
theorem nodeAt_in (s : Sd) (B : Nat) (r : Int) (w : World) (h : SRd w B s) (hB : B ≤ w.heap.size) (hr : 1 ≤ r ∧ r ≤ (s.ns.length : Int)) :
    Calls Try.prog 30 #[.agg s.vals, .int .i64 r] w fun e w' => e = .returned (.agg (nodeV s r).cs) ∧ Gr w w' := by
  obtain ⟨k, rfl⟩ : ∃ k : Nat, r = (k : Int) + 1 := ⟨(r - 1).toNat, by omega⟩
  have hk : k < s.ns.length := by omega
  have hx : s.ns[k]? = some s.ns[k] := List.getElem?_eq_getElem hk
  generalize s.ns[k] = n at hx
  have HZ := Lib.hid (show nodeV s ((k : Int) + 1) = n by rw [nodeV, if_pos hr, show ((k : Int) + 1 - 1).toNat = k by omega, hx]; rfl)
  unfold Sd.vals
  obtain ⟨U, hU⟩ : ∃ U, U = w.alloc (.cells #[.slice s.nA s.ns.length s.nc, .slice s.cA s.cs.length s.cc, .int .i64 s.gen] 38) := ⟨_, rfl⟩
  have GU : Gr w U := by rw [hU]; exact (Gr.refl w).alloc _
  have hsu : U.heap.size = w.heap.size + 1 := by rw [hU]; simp
  have hub : U.heap[w.heap.size]? = some (.cells #[.slice s.nA s.ns.length s.nc, .slice s.cA s.cs.length s.cc, .int .i64 s.gen] 38 (0, 0)) := by rw [hU]; exact heap_alloc_new w _
  obtain ⟨W, hW⟩ : ∃ W, W = U.alloc (.cells #[.int .i64 0, .int .i64 0, .int .i64 0, .int .u64 0, .slice none 0 0, .int .u64 0, .string ⟨#[]⟩, .int .u64 0, .slice none 0 0, .int .i64 0, .int .i64 0, .int .i64 0, .int .i64 0, .int .i64 0] 35) := ⟨_, rfl⟩
  have hbox : W.heap[w.heap.size + 1]? = some (.cells #[.int .i64 0, .int .i64 0, .int .i64 0, .int .u64 0, .slice none 0 0, .int .u64 0, .string ⟨#[]⟩, .int .u64 0, .slice none 0 0, .int .i64 0, .int .i64 0, .int .i64 0, .int .i64 0, .int .i64 0] 35 (0, 0)) := by rw [hW, ← hsu]; exact heap_alloc_new U _
  have hgw : Gr w W := by rw [hW]; exact GU.alloc _
  have GW := Lib.hid hgw
  have hub2 : W.heap[w.heap.size]? = some (.cells #[.slice s.nA s.ns.length s.nc, .slice s.cA s.cs.length s.cc, .int .i64 s.gen] 38 (0, 0)) := by rw [hW, Below.heap_alloc U _ _ (by omega)]; exact hub
  have c0 := block_cell hub2 (i := 0) (v := .slice s.nA s.ns.length s.nc) rfl
  have HBX := Lib.hid hbox
  have HW := Lib.hid hW.symm
  have HU := Lib.hid hU.symm
  have HS := Lib.hid hsu
  have hsr := (h.gr hB hgw)
  obtain ⟨b, o, eA, hb, hc⟩ := hsr.n.at_ hx
  have hn2 : RdN W B (some ⟨b, o, none⟩) s.ns := by rw [← eA]; exact hsr.n
  have ld := hn2.load hx
  have st := run_storeNode n HBX.out rfl
  rw [eA] at c0
  have d1 : decide (((k : Int) + 1) < 1) = false := decide_eq_false (by omega)
  have d2 : decide (((k : Int) + 1) > (s.ns.length : Int)) = false := decide_eq_false (by omega)
  have hnl := h.nl
  have j3 : IntKind.i64.wrap (k : Int) = (k : Int) := by rw [IntKind.wrap_i64]; omega
  have hk0 : (0 : Int) ≤ (k : Int) := by omega
  have hkz : (k : Int) < (s.ns.length : Int) := by omega
  have HA := Lib.hid eA
  clear h hbox hsr hc hn2 hx eA hW hU hub hub2 hsu GU hgw hr hk hb
  go_enter Try.func30, Try.ntmps30
  go_upto_region 1 with (fail)
  rw [HU.out]
  rw [HW.out]
  rw [HA.out]
  go_wp2_with fail
  have hg := setRow_heap W (w.heap.size + 1) _ n.cs 35 (0, 0) HBX.out
  obtain ⟨V, hV⟩ : ∃ V, V = W.setRow (w.heap.size + 1) n.cs := ⟨_, rfl⟩
  have BV := Lib.hid (show Gr w V by rw [hV]; exact ⟨below_setRow GW.out.b (Nat.le_succ _) _, GW.out.d⟩)
  rw [← hV] at hg ⊢
  clear hV ld st
  obtain ⟨e0, e1, e2, e3, e4, e5, e6, e7, e8, e9, e10, e11, e12, e13⟩ := node_vals hg
  clear hg
  exact bodyPost_ret (v := .agg n.cs) (by simp [results, Try.results30, go_sem, e0, e1, e2, e3, e4, e5, e6, e7, e8, e9, e10, e11, e12, e13, Nd.cs]) rfl ⟨by rw [HZ.out], BV.out⟩
theorem nodeAt_any (s : Sd) (B : Nat) (r : Int) (w : World) (h : SRd w B s) (hB : B ≤ w.heap.size) :
    Calls Try.prog 30 #[.agg s.vals, .int .i64 r] w fun e w' => e = .returned (.agg (nodeV s r).cs) ∧ Gr w w' := by
  by_cases hr : 1 ≤ r ∧ r ≤ (s.ns.length : Int)
  · exact nodeAt_in s B r w h hB hr
  · exact nodeAt_out s r w hr
end

set_option maxHeartbeats 4000000 in
theorem contents_any (s : Sd) (B : Nat) (c : Int) (w : World) (h : SRd w B s) (hB : B ≤ w.heap.size) :
    Calls Try.prog 58 #[.agg s.vals, .int .i64 c] w fun e w' => e = .returned (.int .i64 (cellV s c)) ∧ Gr w w' := by
  unfold Sd.vals
  by_cases hr : 1 ≤ c ∧ c ≤ (s.cs.length : Int)
  · obtain ⟨k, rfl⟩ : ∃ k : Nat, c = (k : Int) + 1 := ⟨(c - 1).toNat, by omega⟩
    have hk : k < s.cs.length := by omega
    obtain ⟨ad, z, eA, hb, hz, hc⟩ := h.c.at_ hk
    rw [show cellV s ((k : Int) + 1) = z by rw [cellV, if_pos (by simp [hasC]; omega), show ((k : Int) + 1 - 1).toNat = k by omega, hz]; rfl]
    have d1 : decide (((k : Int) + 1) < 1) = false := decide_eq_false (by omega)
    have d2 : decide (((k : Int) + 1) > (s.cs.length : Int)) = false := decide_eq_false (by omega)
    have hnl := h.cl
    have j3 : IntKind.i64.wrap (k : Int) = (k : Int) := by rw [IntKind.wrap_i64]; omega
    have hk0 : (0 : Int) ≤ (k : Int) := by omega
    have hkz : (k : Int) < (s.cs.length : Int) := by omega
    have hcell := fun o => (World.cell?_alloc_lt w o (ad.add k) (by rw [block_add]; omega)).trans hc
    rw [eA]
    clear h hr hk hb hz hc eA
    go_enter Try.func58, Try.ntmps58
    go_wp2_with fail
    go_ret
    exact ⟨rfl, (Gr.refl w).alloc _⟩
  · rw [show cellV s c = 0 by rw [cellV, if_neg (by simp [hasC]; omega)]]
    by_cases h1 : c < 1
    · have d : decide (c < 1) = true := decide_eq_true h1
      clear hr h1 h
      go_enter Try.func58, Try.ntmps58
      go_wp2_with fail
      go_ret
      exact ⟨rfl, (Gr.refl w).alloc _⟩
    · have d : decide (c < 1) = false := decide_eq_false h1
      have d3 : decide (c > (s.cs.length : Int)) = true := decide_eq_true (by omega)
      clear hr h1 h
      go_enter Try.func58, Try.ntmps58
      go_wp2_with fail
      go_ret
      exact ⟨rfl, (Gr.refl w).alloc _⟩

/-- The pairs that a node has itself. -/
def ownPs (n : Nd) : List Pr := if n.kind = 4 ∨ n.kind = 5 then [(n.key, n.val)] else if n.kind = 6 then n.ps else []
def PairsP (n : Nd) (w : World) (e : Ending) (w' : World) : Prop :=
  ∃ A c, e = .returned (.slice A (ownPs n).length c) ∧ (A = none → c = 0) ∧ Rd w' w'.heap.size A (ownPs n) ∧ Gr w w'
set_option maxHeartbeats 4000000 in
theorem pairsOf_any (n : Nd) (w : World) (h : NRd w w.heap.size n) (hpa : n.pA = none → n.pc = 0) :
    Calls Try.prog 29 #[.agg n.cs] w (PairsP n w) := by
  have hpl := h.pl
  have hp := Lib.hid h.p
  have HA := Lib.hid hpa
  clear h hpa
  unfold Nd.cs
  by_cases k4 : n.kind = 4
  · have t4 : (n.kind == 4) = true := beq_iff_eq.2 k4
    have HP := Lib.hid (show ownPs n = [(n.key, n.val)] by simp [ownPs, k4])
    clear k4
    go_enter Try.func29, Try.ntmps29
    go_wp2_with fail
    refine bodyPost_ret (v := .slice (some ⟨w.heap.size + 1, 0, none⟩) 1 1) (by simp [results, Try.results29, go_sem]) rfl ⟨_, _, by rw [HP.out]; rfl, (fun e => by cases e), ?_, ((Gr.refl w).alloc _).alloc _⟩
    rw [HP.out]
    have hr := lit_rd (w.alloc (.cells n.cs 35)) [(n.key, n.val)]
    have e : (w.alloc (.cells n.cs 35)).heap.size = w.heap.size + 1 := by simp
    simp only [Nd.cs] at hr e
    rw [e] at hr
    refine hr.more ?_
    simp
  by_cases k5 : n.kind = 5
  · have t4 : (n.kind == 4) = false := beq_eq_false_iff_ne.2 k4
    have t5 : (n.kind == 5) = true := beq_iff_eq.2 k5
    have HP := Lib.hid (show ownPs n = [(n.key, n.val)] by simp [ownPs, k5])
    clear k4 k5
    go_enter Try.func29, Try.ntmps29
    go_wp2_with fail
    refine bodyPost_ret (v := .slice (some ⟨w.heap.size + 1, 0, none⟩) 1 1) (by simp [results, Try.results29, go_sem]) rfl ⟨_, _, by rw [HP.out]; rfl, (fun e => by cases e), ?_, ((Gr.refl w).alloc _).alloc _⟩
    rw [HP.out]
    have hr := lit_rd (w.alloc (.cells n.cs 35)) [(n.key, n.val)]
    have e : (w.alloc (.cells n.cs 35)).heap.size = w.heap.size + 1 := by simp
    simp only [Nd.cs] at hr e
    rw [e] at hr
    refine hr.more ?_
    simp
  have t4 : (n.kind == 4) = false := beq_eq_false_iff_ne.2 k4
  have t5 : (n.kind == 5) = false := beq_eq_false_iff_ne.2 k5
  by_cases k6 : n.kind = 6
  · have t6 : (n.kind == 6) = true := beq_iff_eq.2 k6
    have HP := Lib.hid (show ownPs n = n.ps by simp [ownPs, k6])
    clear k4 k5 k6
    go_enter Try.func29, Try.ntmps29
    go_wp2_with fail
    refine bodyPost_ret (v := .slice n.pA n.ps.length n.pc) (by simp [results, Try.results29, go_sem]) rfl ⟨_, _, by rw [HP.out], HA.out, ?_, (Gr.refl w).alloc _⟩
    rw [HP.out]
    exact (hp.out.gr (Nat.le_refl _) ((Gr.refl w).alloc _)).more (by simp)
  · have t6 : (n.kind == 6) = false := beq_eq_false_iff_ne.2 k6
    have HP := Lib.hid (show ownPs n = [] by simp [ownPs, k4, k5, k6])
    clear k4 k5 k6
    go_enter Try.func29, Try.ntmps29
    go_wp2_with fail
    refine bodyPost_ret (v := .slice none 0 0) (by simp [results, Try.results29, go_sem]) rfl ⟨_, _, by rw [HP.out]; rfl, fun _ => rfl, ?_, (Gr.refl w).alloc _⟩
    rw [HP.out]
    exact Rd.nil

end Go.Proofs.Ytbknbjabkhhlfaa
/-
  A set of numbers as a map of bools; what view's functions say of a state.
-/
set_option linter.unusedVariables false
set_option maxRecDepth 100000
namespace Go.Proofs.Ytbknbjabkhhlfaa
open Go.Shelf Go.RowKit Go.Lib Go.Sort

/-! ### A map of bools that the call has made -/
theorem plainElem_bool_inv {H : Type} {P : Program} {e : TypeId} (he : P.underlying e = some .bool) {v : Value} {z : DataW H × List MemPlace} (h : plainElem P e v = some z) : ∃ x, v = .bool x ∧ z = (.lit (.bool x), []) := by
  unfold plainElem at h
  rw [he] at h
  cases v <;> simp at h
  exact ⟨_, rfl, h.symm⟩
theorem refKey : Maps.Keyed Try.prog 29 := Maps.int_keyed Try.underlying29
theorem zeroBool (w : World) : (zeroValue 4).run Try.prog w = .ok (.bool false) w := by kernel_rfl
/-- Block M is a map that is true at just the numbers of the list. -/
def SeenM (w : World) (M n : Nat) (l : List Int) : Prop :=
  ∃ D : DataW Unit, w.ownsMap Try.prog 29 (plainElem Try.prog 4) M n D ∧ Maps.IsMap D ∧ ∀ i : Int, (Lit.int .i64 i).wf = true → D.atKey (.int .i64 i) (.lit (.bool false)) = .lit (.bool (decide (i ∈ l)))
theorem seenM_made (w : World) : SeenM (w.alloc (.map #[] 0)) w.heap.size 0 [] :=
  ⟨.map [], World.ownsMap_made w _ _ _, Maps.isMap_empty, fun i _ => by simp [DataW.atKey]⟩
theorem SeenM.kept {w w' : World} {M n : Nat} {l : List Int} {row : Option Nat} (h : SeenM w M n l) (hg : w.grownBy w' row) (hne : some M ≠ row) : SeenM w' M n l := by
  obtain ⟨D, h1, h2⟩ := h
  exact ⟨D, h1.kept hg hne, h2⟩
theorem SeenM.at_ {w w' : World} {M n : Nat} {l : List Int} (h : SeenM w M n l) (hb : w'.heap[M]? = w.heap[M]?) : SeenM w' M n l := by
  obtain ⟨D, ⟨es, clock, h1, h3⟩, h2⟩ := h
  exact ⟨D, ⟨es, clock, hb.trans h1, h3⟩, h2⟩
theorem SeenM.lt {w : World} {M n : Nat} {l : List Int} (h : SeenM w M n l) : M < w.heap.size := by
  obtain ⟨D, h1, _⟩ := h
  exact h1.lt
theorem SeenM.obj {w : World} {M n : Nat} {l : List Int} (h : SeenM w M n l) : ∃ es c, w.heap[M]? = some (.map es c) := by
  obtain ⟨D, ⟨es, clock, h1, h3⟩, h2⟩ := h
  exact ⟨es, clock, h1⟩
theorem SeenM.look {w : World} {M n : Nat} {l : List Int} (h : SeenM w M n l) {i : Int} (hi : (Lit.int .i64 i).wf = true) :
    (Instr.lookup 97 (.map (some M)) (.int .i64 i) false).run Try.prog w = .ok (.bool (decide (i ∈ l))) w := by
  obtain ⟨D, h1, _, h2⟩ := h
  obtain ⟨v, ps, hrun, hv⟩ := h1.lookup refKey Try.underlying97 (zeroBool w) (plainElem_bool Try.underlying4 false) (Maps.keyOf_int_mk Try.underlying29 hi)
  obtain ⟨c, rfl, hc⟩ := plainElem_bool_inv Try.underlying4 hv
  rw [h2 i hi] at hc
  simp only [Prod.mk.injEq, DataW.lit.injEq, Lit.bool.injEq] at hc
  rw [hrun, hc.1]
theorem SeenM.put {w : World} {M n : Nat} {l : List Int} (h : SeenM w M n l) {i : Int} (hi : (Lit.int .i64 i).wf = true) (hn : n < maxLen) :
    ∃ w', (Instr.mapUpdate 97 (.map (some M)) (.int .i64 i) (.bool true)).run Try.prog w = .ok () w' ∧ SeenM w' M (n + 1) (i :: l) ∧ w.grownBy w' (some M) := by
  obtain ⟨D, h1, hm, h2⟩ := h
  obtain ⟨w', hrun, h3, hg⟩ := h1.update refKey Try.underlying97 hn (Maps.keyOf_int_mk Try.underlying29 hi) (plainElem_bool Try.underlying4 true)
  refine ⟨w', hrun, ⟨_, h3, hm.put _ _, fun j hj => ?_⟩, hg⟩
  by_cases e : j = i
  · subst e
    rw [Maps.atKey_put_same hm (by trivial)]
    simp
  · rw [Maps.atKey_put_other (by intro h; injection h with _ h; exact e h), h2 j hj]
    simp [e]

/-! ### The root, a main node, the traversal -/
def descV (s : Sd) (r : Int) : Int := if (nodeV s r).kind = 8 then (if cellV s (nodeV s r).status = 1 then (nodeV s r).new else (nodeV s r).old) else r
/-- The root of the trie whose cell is c. -/
def rootV (s : Sd) (c : Int) : Option Int := if (nodeV s (descV s (cellV s c))).kind = 2 then some (descV s (cellV s c)) else none
def replV (s : Sd) (p : Int) : Int := if (nodeV s p).kind = 7 then (nodeV s p).old else p
def pickV (s : Sd) (m : Int) : Int := if cellV s (nodeV s m).prev = 0 then m else replV s (cellV s (nodeV s m).prev)
noncomputable def mainV (s : Sd) (i : Int) : Option Int :=
  if (nodeV s i).kind = 2 then (if mainB (nodeV s (pickV s (cellV s (nodeV s i).main))) = true then some (pickV s (cellV s (nodeV s i).main)) else none) else none
/-- Two results: a number and whether there is one. -/
def optV : Option Int → Value
  | some r => .tuple #[.int .i64 r, .bool true]
  | none => .tuple #[.int .i64 0, .bool false]

abbrev Vis := Option (List Int × List Int)
def brV (s : Sd) (f : Int → List Int → Vis) : List Int → List Int → Vis
  | [], sn => some ([], sn)
  | b :: bs, sn => if (nodeV s b).kind = 4 then (brV s f bs sn).map fun x => (b :: x.1, x.2)
    else if (nodeV s b).kind = 2 then (f b sn).bind fun x => (brV s f bs x.2).map fun y => (x.1 ++ y.1, y.2)
    else none
noncomputable def belV (s : Sd) : Nat → Int → List Int → Vis
  | 0, _, _ => none
  | m + 1, i, sn => if i ∈ sn then none else (mainV s i).bind fun c =>
      if (nodeV s c).kind = 3 then (brV s (belV s m) (nodeV s c).bs (i :: sn)).map fun x => (i :: x.1, x.2) else some ([i, c], i :: sn)
theorem brV_snoc (s : Sd) (f : Int → List Int → Vis) (b : Int) : ∀ (xs : List Int) (sn : List Int), brV s f (xs ++ [b]) sn = (brV s f xs sn).bind fun x => (brV s f [b] x.2).map fun y => (x.1 ++ y.1, y.2)
  | [], sn => by
    have e : ∀ o : Vis, o = o.map fun y => (([] : List Int) ++ y.1, y.2) := fun o => by cases o <;> rfl
    exact e (brV s f [b] sn)
  | a :: xs, sn => by
    rw [List.cons_append, brV, brV]
    split
    · rw [brV_snoc s f b xs sn]
      cases brV s f xs sn with
      | none => rfl
      | some x => simp only [Option.bind_some, Option.map_some]; cases brV s f [b] x.2 <;> rfl
    · split
      · cases f a sn with
        | none => rfl
        | some x =>
          simp only [Option.bind_some]
          rw [brV_snoc s f b xs x.2]
          cases brV s f xs x.2 with
          | none => rfl
          | some y => simp only [Option.bind_some, Option.map_some]; cases brV s f [b] y.2 <;> simp
      · rfl
theorem brV_append_none (s : Sd) (f : Int → List Int → Vis) : ∀ (xs ys : List Int) (sn : List Int), brV s f xs sn = none → brV s f (xs ++ ys) sn = none
  | [], ys, sn, h => by simp [brV] at h
  | a :: xs, ys, sn, h => by
    rw [List.cons_append, brV]
    rw [brV] at h
    split
    · rename_i h4
      rw [if_pos h4] at h
      rw [brV_append_none s f xs ys sn (by simpa using h)]
      rfl
    · rename_i h4
      rw [if_neg h4] at h
      split
      · rename_i h2
        rw [if_pos h2] at h
        cases hf : f a sn with
        | none => rfl
        | some x =>
          rw [hf] at h
          simp only [Option.bind_some, Option.map_eq_none_iff] at h ⊢
          exact brV_append_none s f xs ys x.2 h
      · rfl
theorem brV_one (s : Sd) (f : Int → List Int → Vis) (b : Int) (sn : List Int) : brV s f [b] sn = if (nodeV s b).kind = 4 then some ([b], sn) else if (nodeV s b).kind = 2 then f b sn else none := by
  rw [brV]
  split
  · rfl
  · split
    · cases f b sn with
      | none => rfl
      | some x => simp [brV]
    · rfl
/-- What the traversal hands back, in all: none is an error. -/
noncomputable def visV (s : Sd) (c : Int) : Option (List Int) := (rootV s c).bind fun r => (belV s 12 r []).map (·.1)

end Go.Proofs.Ytbknbjabkhhlfaa
/-
  The walks of view's replaced, mainNode, root, proper.
-/
set_option linter.unusedVariables false
set_option maxRecDepth 100000
namespace Go.Proofs.Ytbknbjabkhhlfaa
open Go.Shelf Go.RowKit Go.Lib Go.Sort
theorem cs_at0 (n : Nd) (h : 0 < n.cs.size) : n.cs[0]'h = .int .i64 n.kind := rfl
theorem cs_at1 (n : Nd) (h : 1 < n.cs.size) : n.cs[1]'h = .int .i64 n.gen := rfl
theorem cs_at2 (n : Nd) (h : 2 < n.cs.size) : n.cs[2]'h = .int .i64 n.main := rfl
theorem cs_at3 (n : Nd) (h : 3 < n.cs.size) : n.cs[3]'h = .int .u64 n.bm := rfl
theorem cs_at4 (n : Nd) (h : 4 < n.cs.size) : n.cs[4]'h = .slice n.bA n.bs.length n.bc := rfl
theorem cs_at5 (n : Nd) (h : 5 < n.cs.size) : n.cs[5]'h = .int .u64 n.hash := rfl
theorem cs_at6 (n : Nd) (h : 6 < n.cs.size) : n.cs[6]'h = .string n.key := rfl
theorem cs_at7 (n : Nd) (h : 7 < n.cs.size) : n.cs[7]'h = .int .u64 n.val := rfl
theorem cs_at8 (n : Nd) (h : 8 < n.cs.size) : n.cs[8]'h = .slice n.pA n.ps.length n.pc := rfl
theorem cs_at9 (n : Nd) (h : 9 < n.cs.size) : n.cs[9]'h = .int .i64 n.prev := rfl
theorem cs_at10 (n : Nd) (h : 10 < n.cs.size) : n.cs[10]'h = .int .i64 n.old := rfl
theorem cs_at11 (n : Nd) (h : 11 < n.cs.size) : n.cs[11]'h = .int .i64 n.exp := rfl
theorem cs_at12 (n : Nd) (h : 12 < n.cs.size) : n.cs[12]'h = .int .i64 n.new := rfl
theorem cs_at13 (n : Nd) (h : 13 < n.cs.size) : n.cs[13]'h = .int .i64 n.status := rfl
theorem cs_field9 (n : Nd) (w : World) : (Instr.field 35 (.agg n.cs) 9).run Try.prog w = .ok (.int .i64 n.prev) w := by kernel_rfl
theorem cs_field0 (n : Nd) (w : World) : (Instr.field 35 (.agg n.cs) 0).run Try.prog w = .ok (.int .i64 n.kind) w := by kernel_rfl
section
attribute [local go_sem] cs_field9 cs_field0 cs_at0 cs_at1 cs_at2 cs_at3 cs_at4 cs_at5 cs_at6 cs_at7 cs_at8 cs_at9 cs_at10 cs_at11 cs_at12 cs_at13
attribute [local go_sem ↓] exec_load28 exec_store44
attribute [local go_sem] run_storeNode_new

theorem node_at (V : World) (n : Nd) (j : Nat) (v : Value) (hv : n.cs[j]? = some v) : (V.alloc (.cells n.cs 35)).cell? ⟨V.heap.size, j, none⟩ = some v := node_cellA (heap_alloc_new V _) hv

/-- The state's box, in every world behind. -/
structure Bx (w W : World) (B : Nat) (s : Sd) : Prop where
  h : SRd w B s
  hB : B ≤ w.heap.size
  g : Gr w W
  bx : Box W w.heap.size s
  lt : w.heap.size < W.heap.size
theorem Bx.new {w : World} {B : Nat} {s : Sd} (h : SRd w B s) (hB : B ≤ w.heap.size) : Bx w (w.alloc (.cells s.vals 38)) B s :=
  ⟨h, hB, (Gr.refl w).alloc _, heap_alloc_new w _, by simp⟩
theorem Bx.next {w W V : World} {B : Nat} {s : Sd} (h : Bx w W B s) (g : Gr W V) : Bx w V B s := ⟨h.h, h.hB, h.g.trans g, h.bx.gr g, Nat.lt_of_lt_of_le h.lt g.size⟩
theorem Bx.cells {w W : World} {B : Nat} {s : Sd} (h : Bx w W B s) : W.cell? ⟨w.heap.size, 0, none⟩ = some (.slice s.nA s.ns.length s.nc) ∧ W.cell? ⟨w.heap.size, 1, none⟩ = some (.slice s.cA s.cs.length s.cc) ∧ W.cell? ⟨w.heap.size, 2, none⟩ = some (.int .i64 s.gen) := ⟨h.bx.at0, h.bx.at1, h.bx.at2⟩
theorem Bx.node {w W : World} {B : Nat} {s : Sd} (h : Bx w W B s) (r : Int) : Calls Try.prog 30 #[.agg #[.slice s.nA s.ns.length s.nc, .slice s.cA s.cs.length s.cc, .int .i64 s.gen], .int .i64 r] W fun e w' => e = .returned (.agg (nodeV s r).cs) ∧ Gr W w' :=
  nodeAt_any s B r W (h.h.gr h.hB h.g) (Nat.le_trans h.hB h.g.size)
theorem Bx.cont {w W : World} {B : Nat} {s : Sd} (h : Bx w W B s) (c : Int) : Calls Try.prog 58 #[.agg #[.slice s.nA s.ns.length s.nc, .slice s.cA s.cs.length s.cc, .int .i64 s.gen], .int .i64 c] W fun e w' => e = .returned (.int .i64 (cellV s c)) ∧ Gr W w' :=
  contents_any s B c W (h.h.gr h.hB h.g) (Nat.le_trans h.hB h.g.size)

set_option maxHeartbeats 4000000 in
theorem replaced_any (s : Sd) (B : Nat) (p : Int) (w : World) (h : SRd w B s) (hB : B ≤ w.heap.size) :
    Calls Try.prog 75 #[.agg s.vals, .int .i64 p] w fun e w' => e = .returned (.int .i64 (replV s p)) ∧ Gr w w' := by
  obtain ⟨W, hW⟩ : ∃ W, W = w.alloc (.cells s.vals 38) := ⟨_, rfl⟩
  have X := Lib.hid (show Bx w W B s by rw [hW]; exact Bx.new h hB)
  have HW := Lib.hid hW.symm
  have R := Lib.hid (show replV s p = if (nodeV s p).kind = 7 then (nodeV s p).old else p from rfl)
  obtain ⟨q0, q1, q2⟩ := X.out.cells
  have CN := Lib.hid (X.out.node p)
  clear h hB hW
  generalize replV s p = rs at R ⊢
  generalize nodeV s p = n at R CN
  unfold Sd.vals at HW ⊢
  by_cases k : n.kind = 7
  · rw [if_pos k] at R
    have t7 : (n.kind == 7) = true := beq_iff_eq.2 k
    clear k
    go_enter Try.func75, Try.ntmps75
    go_upto_region 1 with (fail)
    rw [HW.out]
    go_wp2_with (go_at_call 30
                 refine CN.out.mono ?_
                 rintro e V ⟨rfl, hg⟩
                 have G := Lib.hid hg
                 have k0 := node_at V n 0 _ rfl
                 have k10 := node_at V n 10 _ rfl
                 clear hg)
    go_ret
    exact ⟨ret_int R.out.symm, (X.out.g.trans G.out).alloc _⟩
  · rw [if_neg k] at R
    have t7 : (n.kind == 7) = false := beq_eq_false_iff_ne.2 k
    clear k
    go_enter Try.func75, Try.ntmps75
    go_upto_region 1 with (fail)
    rw [HW.out]
    go_wp2_with (go_at_call 30
                 refine CN.out.mono ?_
                 rintro e V ⟨rfl, hg⟩
                 have G := Lib.hid hg
                 have k0 := node_at V n 0 _ rfl
                 clear hg)
    go_ret
    exact ⟨ret_int R.out.symm, (X.out.g.trans G.out).alloc _⟩

theorem Bx.main {w W : World} {B : Nat} {s : Sd} (h : Bx w W B s) (p : Int) : Calls Try.prog 75 #[.agg #[.slice s.nA s.ns.length s.nc, .slice s.cA s.cs.length s.cc, .int .i64 s.gen], .int .i64 p] W fun e w' => e = .returned (.int .i64 (replV s p)) ∧ Gr W w' :=
  replaced_any s B p W (h.h.gr h.hB h.g) (Nat.le_trans h.hB h.g.size)

set_option maxHeartbeats 8000000 in
theorem viewMain_any (s : Sd) (B : Nat) (i : Int) (w : World) (h : SRd w B s) (hB : B ≤ w.heap.size) :
    Calls Try.prog 59 #[.agg s.vals, .int .i64 i] w fun e w' => e = .returned (optV (mainV s i)) ∧ Gr w w' := by
  have mixed := mixedOrders
  obtain ⟨W, hW⟩ : ∃ W, W = w.alloc (.cells s.vals 38) := ⟨_, rfl⟩
  have X := Lib.hid (show Bx w W B s by rw [hW]; exact Bx.new h hB)
  have HW := Lib.hid hW.symm
  obtain ⟨q0, q1, q2⟩ := X.out.cells
  have CN := Lib.hid (X.out.node i)
  clear h hB hW
  obtain ⟨n, hn⟩ : ∃ n, n = nodeV s i := ⟨_, rfl⟩
  rw [← hn] at CN
  by_cases k : n.kind = 2
  · have R := Lib.hid (show mainV s i = if mainB (nodeV s (pickV s (cellV s n.main))) = true then some (pickV s (cellV s n.main)) else none by rw [mainV, ← hn, if_pos k])
    have t2 : (n.kind != 2) = false := by simp [k]
    generalize mainV s i = rs at R ⊢
    obtain ⟨m, hm⟩ : ∃ m, m = cellV s n.main := ⟨_, rfl⟩
    rw [← hm] at R
    have HM := Lib.hid hm.symm
    clear k hn hm
    unfold Sd.vals at HW ⊢
    go_enter Try.func59, Try.ntmps59
    go_upto_region 1 with (fail)
    rw [HW.out]
    go_upto_region 4 with (go_at_call 30; refine CN.out.mono ?_; rintro e V ⟨rfl, hg⟩; have G := Lib.hid hg; have k0 := node_at V n 0 _ rfl; have k2 := node_at V n 2 _ rfl; have XV := Lib.hid ((X.out.next hg).next ((Gr.refl V).alloc (.cells n.cs 35))); have p0 := XV.out.cells.1; have p1 := XV.out.cells.2.1; have p2 := XV.out.cells.2.2; have CC := Lib.hid (XV.out.cont n.main); clear hg)
    rw [HM.out] at CC
    go_upto_region 5 with (go_at_call 58; refine CC.out.mono ?_; rintro e V2 ⟨rfl, hg⟩; have X2 := Lib.hid (XV.out.next hg); clear hg)
    clear q0 q1 q2 p0 p1 p2 k0 k2
    obtain ⟨p, hp⟩ : ∃ p, p = cellV s (nodeV s m).prev := ⟨_, rfl⟩
    have XG := Lib.hid (fun (n : Nat) (os : Array Obj) => X2.out.next ((Gr.refl V2).grow n os))
    have q0 := fun n os => (XG.out n os).cells.1
    have q1 := fun n os => (XG.out n os).cells.2.1
    have q2 := fun n os => (XG.out n os).cells.2.2
    have CN3 := Lib.hid (fun n os => (XG.out n os).node m)
    have CC3 := Lib.hid (fun n os => (XG.out n os).cont (nodeV s m).prev)
    rw [← hp] at CC3
    have RP := Lib.hid (show pickV s m = if p = 0 then m else replV s p by rw [pickV, ← hp])
    clear hp
    generalize nodeV s m = n3 at CN3 CC3
    go_quiet_grown (first
      | (go_at_call 30; with_reducible exact Gr.called (CN3.out _ _))
      | (go_at_call 58; with_reducible exact Gr.called (CC3.out _ _)))
    clear q0 q1 q2 CN3 CC3
    have X3 := Lib.hid (XG.out nq osq)
    clear XG
    obtain ⟨V3, hV3⟩ : ∃ V3, V3 = grow (V2.drewN nq) osq := ⟨_, rfl⟩
    show Exit.then _ (Exit.then _ _) Exit.normal _ (grow (V2.drewN nq) osq)
    rw [← hV3] at X3 ⊢
    clear hV3
    obtain ⟨q0, q1, q2⟩ := X3.out.cells
    by_cases p0 : p = 0
    · subst p0
      rw [if_pos rfl] at RP
      rw [RP.out] at R
      have t0 : ((0 : Int) != 0) = false := rfl
      have CN4 := Lib.hid (X3.out.node m)
      have MM := Lib.hid (fun V => main_any (nodeV s m) V)
      generalize nodeV s m = n4 at R CN4 MM
      cases hm4 : mainB n4 with
      | false =>
        rw [hm4] at MM R
        clear hm4
        go_wp2_with (first
          | (go_at_call 47; refine (MM.out _).mono ?_; rintro e V5 ⟨rfl, hg⟩; have G5 := Lib.hid hg; clear hg)
          | (go_at_call 30; refine CN4.out.mono ?_; rintro e V4 ⟨rfl, hg⟩; have G4 := Lib.hid hg; clear hg))
        exact bodyPost_ret (v := .tuple #[.int .i64 0, .bool false]) (by simp [results, Try.results59, go_sem]) rfl ⟨by rw [R.out]; rfl, X3.out.g.trans (G4.out.trans G5.out)⟩
      | true =>
        rw [hm4] at MM R
        clear hm4
        go_wp2_with (first
          | (go_at_call 47; refine (MM.out _).mono ?_; rintro e V5 ⟨rfl, hg⟩; have G5 := Lib.hid hg; clear hg)
          | (go_at_call 30; refine CN4.out.mono ?_; rintro e V4 ⟨rfl, hg⟩; have G4 := Lib.hid hg; clear hg))
        exact bodyPost_ret (v := .tuple #[.int .i64 m, .bool true]) (by simp [results, Try.results59, go_sem]) rfl ⟨by rw [R.out]; rfl, X3.out.g.trans (G4.out.trans G5.out)⟩
    · rw [if_neg p0] at RP
      rw [RP.out] at R
      have t0 : (p != 0) = true := by simp [p0]
      have CR := Lib.hid (X3.out.main p)
      clear p0
      generalize replV s p = m2 at R CR
      have CNF := Lib.hid (fun V (g : Gr V3 V) => (X3.out.next g).node m2)
      have XF := Lib.hid (fun V (g : Gr V3 V) => (X3.out.next g).cells)
      have MM := Lib.hid (fun V => main_any (nodeV s m2) V)
      generalize nodeV s m2 = n4 at R CNF MM
      cases hm4 : mainB n4 with
      | false =>
        rw [hm4] at MM R
        clear hm4
        go_wp2_with (first
          | (go_at_call 47; refine (MM.out _).mono ?_; rintro e V6 ⟨rfl, hg⟩; have G6 := Lib.hid hg; clear hg)
          | (go_at_call 30; refine CN4.out.mono ?_; rintro e V5 ⟨rfl, hg⟩; have G5 := Lib.hid hg; clear hg)
          | (go_at_call 75; refine CR.out.mono ?_; rintro e V4 ⟨rfl, hg⟩; have G4 := Lib.hid hg; have r0 := (XF.out V4 hg).1; have r1 := (XF.out V4 hg).2.1; have r2 := (XF.out V4 hg).2.2; have CN4 := Lib.hid (CNF.out V4 hg); clear hg))
        exact bodyPost_ret (v := .tuple #[.int .i64 0, .bool false]) (by simp [results, Try.results59, go_sem]) rfl ⟨by rw [R.out]; rfl, X3.out.g.trans (G4.out.trans (G5.out.trans G6.out))⟩
      | true =>
        rw [hm4] at MM R
        clear hm4
        go_wp2_with (first
          | (go_at_call 47; refine (MM.out _).mono ?_; rintro e V6 ⟨rfl, hg⟩; have G6 := Lib.hid hg; clear hg)
          | (go_at_call 30; refine CN4.out.mono ?_; rintro e V5 ⟨rfl, hg⟩; have G5 := Lib.hid hg; clear hg)
          | (go_at_call 75; refine CR.out.mono ?_; rintro e V4 ⟨rfl, hg⟩; have G4 := Lib.hid hg; have r0 := (XF.out V4 hg).1; have r1 := (XF.out V4 hg).2.1; have r2 := (XF.out V4 hg).2.2; have CN4 := Lib.hid (CNF.out V4 hg); clear hg))
        exact bodyPost_ret (v := .tuple #[.int .i64 m2, .bool true]) (by simp [results, Try.results59, go_sem]) rfl ⟨by rw [R.out]; rfl, X3.out.g.trans (G4.out.trans (G5.out.trans G6.out))⟩
  · have R := Lib.hid (show mainV s i = none by rw [mainV, ← hn, if_neg k])
    have t2 : (n.kind != 2) = true := by simp [k]
    clear k hn
    unfold Sd.vals at HW ⊢
    go_enter Try.func59, Try.ntmps59
    go_upto_region 1 with (fail)
    rw [HW.out]
    go_wp2_with (go_at_call 30; refine CN.out.mono ?_; rintro e V ⟨rfl, hg⟩; have G := Lib.hid hg; have k0 := node_at V n 0 _ rfl; clear hg)
    exact bodyPost_ret (v := .tuple #[.int .i64 0, .bool false]) (by simp [results, Try.results59, go_sem]) rfl ⟨by rw [R.out]; rfl, (X.out.g.trans G.out).alloc _⟩

set_option maxHeartbeats 8000000 in
theorem root_any (s : Sd) (B : Nat) (c : Int) (ro : Bool) (w : World) (h : SRd w B s) (hB : B ≤ w.heap.size) :
    Calls Try.prog 49 #[.agg s.vals, .agg #[.int .i64 c, .bool ro]] w fun e w' => e = .returned (optV (rootV s c)) ∧ Gr w w' := by
  have mixed := mixedOrders
  obtain ⟨W, hW⟩ : ∃ W, W = (w.alloc (.cells s.vals 38)).alloc (.cells #[.int .i64 c, .bool ro] 49) := ⟨_, rfl⟩
  have X := Lib.hid (show Bx w W B s by rw [hW]; exact (Bx.new h hB).next ((Gr.refl _).alloc _))
  have c4 : W.cell? ⟨w.heap.size + 1, 0, none⟩ = some (.int .i64 c) := by
    rw [hW]
    have := cell_of_row ((w.alloc (.cells s.vals 38)).alloc (.cells #[.int .i64 c, .bool ro] 49)) (w.heap.size + 1) 0 #[.int .i64 c, .bool ro] 49 (0, 0) (by have := heap_alloc_new (w.alloc (.cells s.vals 38)) (.cells #[.int .i64 c, .bool ro] 49); simpa using this)
    exact this
  have HW := Lib.hid hW.symm
  obtain ⟨q0, q1, q2⟩ := X.out.cells
  have CC := Lib.hid (X.out.cont c)
  clear h hB hW
  have R := Lib.hid (show rootV s c = if (nodeV s (descV s (cellV s c))).kind = 2 then some (descV s (cellV s c)) else none from rfl)
  generalize rootV s c = rs at R ⊢
  generalize cellV s c = r at R CC
  have NF := Lib.hid (fun V (g : Gr W V) => (X.out.next g).node r)
  have XF := Lib.hid (fun V (g : Gr W V) => (X.out.next g))
  have DV := Lib.hid (show descV s r = if (nodeV s r).kind = 8 then (if cellV s (nodeV s r).status = 1 then (nodeV s r).new else (nodeV s r).old) else r from rfl)
  generalize nodeV s r = n at NF DV
  unfold Sd.vals at HW ⊢
  go_enter Try.func49, Try.ntmps49
  go_upto_region 1 with (fail)
  rw [HW.out]
  go_upto_region 2 with (go_at_call 58; refine CC.out.mono ?_; rintro e V ⟨rfl, hg⟩; have G1 := Lib.hid hg; have XV := Lib.hid (XF.out V hg); have p0 := XV.out.cells.1; have p1 := XV.out.cells.2.1; have p2 := XV.out.cells.2.2; have N1 := Lib.hid (NF.out V hg); clear hg)
  go_upto_region 3 with (go_at_call 30; refine N1.out.mono ?_; rintro e V2 ⟨rfl, hg⟩; have G2 := Lib.hid hg; have k0 := node_at V2 n 0 _ rfl; have k10 := node_at V2 n 10 _ rfl; have k12 := node_at V2 n 12 _ rfl; have k13 := node_at V2 n 13 _ rfl; have X3 := Lib.hid ((XV.out.next hg).next ((Gr.refl V2).alloc (.cells n.cs 35))); clear hg)
  clear q0 q1 q2 p0 p1 p2
  have q0 := X3.out.cells.1
  have q1 := X3.out.cells.2.1
  have q2 := X3.out.cells.2.2
  -- what is left: the kind of the node that r is in the end
  have LAST := Lib.hid (fun (V : World) (g : Gr (V2.alloc (.cells n.cs 35)) V) => (X3.out.next g))
  have FIN := Lib.hid (show ∀ d, descV s r = d → rs = if (nodeV s d).kind = 2 then some d else none by intro d hd; rw [R.out, hd])
  clear CC NF XF N1 R
  have NB := Lib.hid (fun (V : World) (g : Gr (V2.alloc (.cells n.cs 35)) V) (j : Nat) (v : Value) (hv : n.cs[j]? = some v) => (g.b.cell (p := ⟨V2.heap.size, j, none⟩) (by simp)).trans (node_at V2 n j v hv))
  by_cases k8 : n.kind = 8
  · rw [if_pos k8] at DV
    have t8 : (n.kind == 8) = true := beq_iff_eq.2 k8
    have CS := Lib.hid (X3.out.cont n.status)
    by_cases ks : cellV s n.status = 1
    · rw [if_pos ks] at DV
      rw [ks] at CS
      have F := Lib.hid (FIN.out _ DV.out)
      have NL := Lib.hid (fun V g => (LAST.out V g).node n.new)
      generalize nodeV s n.new = n5 at F NL
      have t1 : ((1 : Int) == 1) = true := rfl
      clear k8 ks FIN DV
      by_cases k2 : n5.kind = 2
      · rw [if_pos k2] at F
        have t2 : (n5.kind != 2) = false := by simp [k2]
        clear k2
        go_wp2_with (first
          | (go_at_call 30; refine NL5.out.mono ?_; rintro e V5 ⟨rfl, hg⟩; have G5 := Lib.hid hg; clear hg)
          | (go_at_call 58; refine CS.out.mono ?_; rintro e V4 ⟨rfl, hg⟩; have G4 := Lib.hid hg; have r0 := (LAST.out V4 hg).cells.1; have r1 := (LAST.out V4 hg).cells.2.1; have r2 := (LAST.out V4 hg).cells.2.2; have b12 := NB.out V4 hg 12 _ rfl; have NL5 := Lib.hid (NL.out V4 hg); clear hg))
        exact bodyPost_ret (v := .tuple #[.int .i64 n.new, .bool true]) (by simp [results, Try.results49, go_sem]) rfl ⟨by rw [F.out]; rfl, X3.out.g.trans (G4.out.trans G5.out)⟩
      · rw [if_neg k2] at F
        have t2 : (n5.kind != 2) = true := by simp [k2]
        clear k2
        go_wp2_with (first
          | (go_at_call 30; refine NL5.out.mono ?_; rintro e V5 ⟨rfl, hg⟩; have G5 := Lib.hid hg; clear hg)
          | (go_at_call 58; refine CS.out.mono ?_; rintro e V4 ⟨rfl, hg⟩; have G4 := Lib.hid hg; have r0 := (LAST.out V4 hg).cells.1; have r1 := (LAST.out V4 hg).cells.2.1; have r2 := (LAST.out V4 hg).cells.2.2; have b12 := NB.out V4 hg 12 _ rfl; have NL5 := Lib.hid (NL.out V4 hg); clear hg))
        exact bodyPost_ret (v := .tuple #[.int .i64 0, .bool false]) (by simp [results, Try.results49, go_sem]) rfl ⟨by rw [F.out]; rfl, X3.out.g.trans (G4.out.trans G5.out)⟩
    · rw [if_neg ks] at DV
      have F := Lib.hid (FIN.out _ DV.out)
      have NL := Lib.hid (fun V g => (LAST.out V g).node n.old)
      generalize nodeV s n.old = n5 at F NL
      have t1 : (cellV s n.status == 1) = false := beq_eq_false_iff_ne.2 ks
      generalize cellV s n.status = sv at CS t1
      clear k8 ks FIN DV
      by_cases k2 : n5.kind = 2
      · rw [if_pos k2] at F
        have t2 : (n5.kind != 2) = false := by simp [k2]
        clear k2
        go_wp2_with (first
          | (go_at_call 30; refine NL5.out.mono ?_; rintro e V5 ⟨rfl, hg⟩; have G5 := Lib.hid hg; clear hg)
          | (go_at_call 58; refine CS.out.mono ?_; rintro e V4 ⟨rfl, hg⟩; have G4 := Lib.hid hg; have r0 := (LAST.out V4 hg).cells.1; have r1 := (LAST.out V4 hg).cells.2.1; have r2 := (LAST.out V4 hg).cells.2.2; have NL5 := Lib.hid (NL.out V4 hg); clear hg))
        exact bodyPost_ret (v := .tuple #[.int .i64 n.old, .bool true]) (by simp [results, Try.results49, go_sem]) rfl ⟨by rw [F.out]; rfl, X3.out.g.trans (G4.out.trans G5.out)⟩
      · rw [if_neg k2] at F
        have t2 : (n5.kind != 2) = true := by simp [k2]
        clear k2
        go_wp2_with (first
          | (go_at_call 30; refine NL5.out.mono ?_; rintro e V5 ⟨rfl, hg⟩; have G5 := Lib.hid hg; clear hg)
          | (go_at_call 58; refine CS.out.mono ?_; rintro e V4 ⟨rfl, hg⟩; have G4 := Lib.hid hg; have r0 := (LAST.out V4 hg).cells.1; have r1 := (LAST.out V4 hg).cells.2.1; have r2 := (LAST.out V4 hg).cells.2.2; have NL5 := Lib.hid (NL.out V4 hg); clear hg))
        exact bodyPost_ret (v := .tuple #[.int .i64 0, .bool false]) (by simp [results, Try.results49, go_sem]) rfl ⟨by rw [F.out]; rfl, X3.out.g.trans (G4.out.trans G5.out)⟩
  · rw [if_neg k8] at DV
    have t8 : (n.kind == 8) = false := beq_eq_false_iff_ne.2 k8
    have F := Lib.hid (FIN.out _ DV.out)
    have NL := Lib.hid (X3.out.node r)
    generalize nodeV s r = n5 at F NL
    clear k8 FIN DV
    by_cases k2 : n5.kind = 2
    · rw [if_pos k2] at F
      have t2 : (n5.kind != 2) = false := by simp [k2]
      clear k2
      go_wp2_with (go_at_call 30; refine NL.out.mono ?_; rintro e V5 ⟨rfl, hg⟩; have G5 := Lib.hid hg; clear hg)
      exact bodyPost_ret (v := .tuple #[.int .i64 r, .bool true]) (by simp [results, Try.results49, go_sem]) rfl ⟨by rw [F.out]; rfl, X3.out.g.trans G5.out⟩
    · rw [if_neg k2] at F
      have t2 : (n5.kind != 2) = true := by simp [k2]
      clear k2
      go_wp2_with (go_at_call 30; refine NL.out.mono ?_; rintro e V5 ⟨rfl, hg⟩; have G5 := Lib.hid hg; clear hg)
      exact bodyPost_ret (v := .tuple #[.int .i64 0, .bool false]) (by simp [results, Try.results49, go_sem]) rfl ⟨by rw [F.out]; rfl, X3.out.g.trans G5.out⟩

set_option maxHeartbeats 4000000 in
theorem vproper_any (s : Sd) (B : Nat) (w : World) (h : SRd w B s) (hB : B ≤ w.heap.size) (hp : properB s = true) :
    Calls Try.prog 48 #[.agg s.vals] w fun e w' => e = .returned (.bool true) ∧ Below w.heap.size w w' := by
  obtain ⟨W, hW⟩ : ∃ W, W = w.alloc (.cells s.vals 38) := ⟨_, rfl⟩
  have X := Lib.hid (show Bx w W B s by rw [hW]; exact Bx.new h hB)
  have HW := Lib.hid hW.symm
  obtain ⟨q0, q1, q2⟩ := X.out.cells
  have CO := Lib.hid (of_ok s B W (h.gr hB X.out.g) (Nat.le_trans hB X.out.g.size) hp)
  clear h hB hW hp
  unfold Sd.vals at HW CO ⊢
  go_enter Try.func48, Try.ntmps48
  go_upto_region 1 with (fail)
  rw [HW.out]
  go_wp2_with (go_at_call 8; refine CO.out.mono ?_; rintro e V ⟨q, t, rfl, _, _, _, _, hb⟩; have BB := Lib.hid hb; clear hb)
  go_ret
  exact ⟨rfl, X.out.g.b.trans (BB.out.mono X.out.g.size)⟩
end
end Go.Proofs.Ytbknbjabkhhlfaa
/-
  A traversal in memory: what its steps leave.
-/
set_option linter.unusedVariables false
set_option maxRecDepth 100000
namespace Go.Proofs.Ytbknbjabkhhlfaa
open Go.Shelf Go.RowKit Go.Lib Go.Sort

/-! ### How much a traversal visits -/
structure Room (s : Sd) (sn : List Int) : Prop where
  nd : sn.Nodup
  rg : ∀ i ∈ sn, 1 ≤ i ∧ i ≤ (s.ns.length : Int)
theorem room_nil (s : Sd) : Room s [] := ⟨List.nodup_nil, fun i h => by cases h⟩
theorem nodup_len : ∀ (N : Nat) (sn : List Int), sn.Nodup → (∀ i ∈ sn, 1 ≤ i ∧ i ≤ (N : Int)) → sn.length ≤ N := by
  intro N
  induction N with
  | zero =>
    intro sn _ h
    cases sn with
    | nil => simp
    | cons a l => have := h a (by simp); omega
  | succ N ih =>
    intro sn hn h
    have h1 := ih (sn.filter fun i => decide (i ≠ (N : Int) + 1)) (hn.sublist List.filter_sublist) (fun i hi => by
      have := List.mem_filter.1 hi
      have h2 := h i this.1
      have h3 : i ≠ (N : Int) + 1 := by simpa using this.2
      omega)
    by_cases hm : ((N : Int) + 1) ∈ sn
    · have := hn.erase_eq_filter ((N : Int) + 1)
      have h4 := List.length_erase_of_mem hm
      rw [this] at h4
      have h5 : (sn.filter fun x => x != (N : Int) + 1).length = (sn.filter fun i => decide (i ≠ (N : Int) + 1)).length := by
        congr 1
        apply List.filter_congr
        intro x _
        by_cases e : x = (N : Int) + 1 <;> simp [e]
      have := List.length_pos_of_mem hm
      omega
    · have e : (sn.filter fun i => decide (i ≠ (N : Int) + 1)) = sn := List.filter_eq_self.2 fun a ha => by
        have : a ≠ (N : Int) + 1 := fun e => hm (e ▸ ha)
        simpa using this
      rw [e] at h1
      omega
theorem Room.len {s : Sd} {sn : List Int} (h : Room s sn) : sn.length ≤ s.ns.length := nodup_len _ _ h.nd h.rg
theorem mainV_range {s : Sd} {i c : Int} (h : mainV s i = some c) : 1 ≤ i ∧ i ≤ (s.ns.length : Int) := by
  unfold mainV at h
  split at h
  · rename_i hk
    by_cases hr : 1 ≤ i ∧ i ≤ (s.ns.length : Int)
    · exact hr
    · rw [nodeV, if_neg hr] at hk
      exact absurd hk (by decide)
  · cases h
theorem Room.cons {s : Sd} {sn : List Int} (h : Room s sn) {i c : Int} (hi : i ∉ sn) (hm : mainV s i = some c) : Room s (i :: sn) :=
  ⟨List.nodup_cons.2 ⟨hi, h.nd⟩, fun j hj => by
    rcases List.mem_cons.1 hj with rfl | hj
    · exact mainV_range hm
    · exact h.rg j hj⟩
theorem nodeV_bl {s : Sd} {w : World} {B : Nat} (h : SRd w B s) (c : Int) : (nodeV s c).bs.length ≤ 1000 := by
  unfold nodeV
  split
  · cases e : s.ns[(c - 1).toNat]? with
    | none => exact Nat.zero_le _
    | some n => exact (h.l n (List.mem_of_getElem? e)).1.bl
  · exact Nat.zero_le _
/-- What a step of the traversal may add. -/
structure Adds (s : Sd) (k : Nat) (sn : List Int) (x : List Int × List Int) : Prop where
  room : Room s x.2
  le : sn.length ≤ x.2.length
  vis : x.1.length + 1001 * sn.length ≤ 1001 * x.2.length + k
theorem brV_adds {s : Sd} {f : Int → List Int → Vis} (hf : ∀ b sn x, Room s sn → f b sn = some x → Adds s 0 sn x) : ∀ (bs sn : List Int) (x : List Int × List Int), Room s sn → brV s f bs sn = some x → Adds s bs.length sn x
  | [], sn, x, hr, h => by
    rw [brV] at h
    injection h with h
    subst h
    exact ⟨hr, Nat.le_refl _, by simp⟩
  | b :: bs, sn, x, hr, h => by
    rw [brV] at h
    split at h
    · cases hb : brV s f bs sn with
      | none => rw [hb] at h; cases h
      | some y =>
        rw [hb] at h
        injection h with h
        subst h
        have a := brV_adds hf bs sn y hr hb
        exact ⟨a.room, a.le, by have := a.vis; simp only [List.length_cons]; omega⟩
    · split at h
      · cases hb : f b sn with
        | none => rw [hb] at h; cases h
        | some y =>
          rw [hb] at h
          simp only [Option.bind_some] at h
          have a := hf b sn y hr hb
          cases hc : brV s f bs y.2 with
          | none => rw [hc] at h; cases h
          | some z =>
            rw [hc] at h
            injection h with h
            subst h
            have a2 := brV_adds hf bs y.2 z a.room hc
            exact ⟨a2.room, Nat.le_trans a.le a2.le, by have := a.vis; have := a2.vis; simp only [List.length_append, List.length_cons]; omega⟩
      · cases h
theorem belV_adds {s : Sd} {w : World} {B : Nat} (hs : SRd w B s) : ∀ (m : Nat) (i : Int) (sn : List Int) (x : List Int × List Int), Room s sn → belV s m i sn = some x → Adds s 0 sn x := by
  intro m
  induction m with
  | zero => intro i sn x _ h; cases h
  | succ m ih =>
    intro i sn x hr h
    rw [belV] at h
    split at h
    · cases h
    · rename_i hi
      cases hm : mainV s i with
      | none => rw [hm] at h; cases h
      | some c =>
        rw [hm] at h
        simp only [Option.bind_some] at h
        have r1 := hr.cons hi hm
        split at h
        · cases hb : brV s (belV s m) (nodeV s c).bs (i :: sn) with
          | none => rw [hb] at h; cases h
          | some y =>
            rw [hb] at h
            injection h with h
            subst h
            have a := brV_adds (fun b sn x hr h => ih b sn x hr h) _ _ y r1 hb
            have hl := nodeV_bl hs c
            exact ⟨a.room, by have := a.le; simp only [List.length_cons] at this; show sn.length ≤ y.2.length; omega, by have := a.vis; simp only [List.length_cons] at this; show (i :: y.1).length + 1001 * sn.length ≤ 1001 * y.2.length + 0; simp only [List.length_cons]; omega⟩
        · injection h with h
          subst h
          exact ⟨r1, by simp, by simp only [List.length_cons, List.length_nil]; omega⟩

/-! ### A traversal in memory -/
/-- The traversal at block q: a state, the map at block M, the row of what was visited. -/
structure Tv (w : World) (base q : Nat) (s : Sd) (M : Nat) (A : Option Addr) (c : Nat) (sn vis : List Int) : Prop where
  blk : w.heap[q]? = some (.cells #[.slice s.nA s.ns.length s.nc, .slice s.cA s.cs.length s.cc, .int .i64 s.gen, .map (some M), .slice A vis.length c] 99 (0, 0))
  own : OwnR w base (.slice A vis.length c) vis
  hq : base ≤ q
  hM : base ≤ M
  mp : SeenM w M sn.length sn
  srd : SRd w base s
section
variable {w w1 : World} {base q M c : Nat} {s : Sd} {A : Option Addr} {sn vis : List Int}
theorem Tv.lt (h : Tv w base q s M A c sn vis) : q < w.heap.size := (Array.getElem?_eq_some_iff.1 h.blk).1
theorem Tv.hb (h : Tv w base q s M A c sn vis) : base ≤ w.heap.size := Nat.le_trans h.hq (Nat.le_of_lt h.lt)
theorem Tv.cells (h : Tv w base q s M A c sn vis) : w.cell? ⟨q, 0, none⟩ = some (.slice s.nA s.ns.length s.nc) ∧ w.cell? ⟨q, 1, none⟩ = some (.slice s.cA s.cs.length s.cc) ∧ w.cell? ⟨q, 2, none⟩ = some (.int .i64 s.gen) ∧ w.cell? ⟨q, 3, none⟩ = some (.map (some M)) ∧ w.cell? ⟨q, 4, none⟩ = some (.slice A vis.length c) :=
  ⟨block_cell h.blk rfl, block_cell h.blk rfl, block_cell h.blk rfl, block_cell h.blk rfl, block_cell h.blk rfl⟩
theorem Tv.gr (h : Tv w base q s M A c sn vis) (g : Gr w w1) : Tv w1 base q s M A c sn vis :=
  ⟨(g.b.block q h.lt).trans h.blk, h.own.keepAt fun k _ hk => g.b.block k hk, h.hq, h.hM, h.mp.at_ (g.b.block M h.mp.lt), h.srd.gr h.hb g⟩
theorem Tv.row_ne (h : Tv w base q s M A c sn vis) {k : Nat} (hk : (Value.slice A vis.length c).ownBlock = some k) : k ≠ q ∧ k ≠ M := by
  obtain ⟨_, _, cs, hcs⟩ := h.own.lt_ hk
  refine ⟨fun e => ?_, fun e => ?_⟩
  · rw [e, h.blk] at hcs
    injection hcs with hcs
    injection hcs with _ hcs _
    exact absurd hcs (by decide)
  · obtain ⟨es, cl, hm⟩ := h.mp.obj
    rw [e, hm] at hcs
    injection hcs with hcs
    cases hcs
theorem Tv.M_ne (h : Tv w base q s M A c sn vis) : M ≠ q := fun e => by
  obtain ⟨es, cl, hm⟩ := h.mp.obj
  rw [e, h.blk] at hm
  injection hm with hm
  cases hm
/-- A number more among those that were visited. -/
theorem Tv.push (h : Tv w base q s M A c sn vis) {g cap : Nat} {b : Int} (o : Obj)
    (hown : w1.ownsRow base 29 1 (.slice (some ⟨g, 0, none⟩) (vis.length + 1) cap) (vis.length + 1) (flatR vis ++ [.int .i64 b]))
    (hg : (w.alloc o).grownBy w1 (Value.slice A vis.length c).ownBlock) (hat : (Value.slice A vis.length c).ownBlock = some g ∨ g = w.heap.size + 1) :
    Tv (w1.setCell ⟨q, 4, none⟩ (.slice (some ⟨g, 0, none⟩) (vis.length + 1) cap)) base q s M (some ⟨g, 0, none⟩) cap sn (vis ++ [b]) ∧ Below base w (w1.setCell ⟨q, 4, none⟩ (.slice (some ⟨g, 0, none⟩) (vis.length + 1) cap)) := by
  have hqlt := h.lt
  have hMlt := h.mp.lt
  have hgq : g ≠ q := by
    rcases hat with hat | hat
    · exact (h.row_ne hat).1
    · omega
  have hq1 : w1.heap[q]? = w.heap[q]? := (hg.block q (by simp; omega) (fun e => (h.row_ne e.symm).1 rfl)).trans (Below.heap_alloc w o q hqlt)
  have hM1 : w1.heap[M]? = w.heap[M]? := (hg.block M (by simp; omega) (fun e => (h.row_ne e.symm).2 rfl)).trans (Below.heap_alloc w o M hMlt)
  have hlen : (vis ++ [b]).length = vis.length + 1 := by simp
  have hbel : Below base w (w1.setCell ⟨q, 4, none⟩ (.slice (some ⟨g, 0, none⟩) (vis.length + 1) cap)) :=
    ⟨hg.os, hg.tape, hg.output, by have := hg.size; simp at this ⊢; omega, fun k hk => by
      have hb := h.hb
      have hq := h.hq
      refine ((Below.heap_setCell w1 ⟨q, 4, none⟩ _ k (by show k ≠ q; omega)).trans (hg.block k (by simp; omega) (fun e => ?_))).trans (Below.heap_alloc w o k (by omega))
      have := (h.own.lt_ e.symm).1
      omega⟩
  refine ⟨⟨?_, ?_, h.hq, h.hM, h.mp.at_ ((Below.heap_setCell w1 ⟨q, 4, none⟩ _ M h.M_ne).trans hM1), h.srd.below hbel⟩, hbel⟩
  · rw [hlen]
    exact set_block (t := 99) (hq1.trans h.blk) 4 _
  · have ho : OwnR w1 base (.slice (some ⟨g, 0, none⟩) (vis.length + 1) cap) (vis ++ [b]) := by
      show w1.ownsRow base 29 1 _ (vis ++ [b]).length (flatR (vis ++ [b]))
      rw [hlen, flatR_append]
      exact hown
    rw [hlen]
    exact ho.keepAt fun k hk _ => Below.heap_setCell w1 ⟨q, 4, none⟩ _ k (fun e => by
      injection hk with hk
      exact hgq (hk.trans e))
/-- A number more among those that were seen. -/
theorem Tv.seen (h : Tv w base q s M A c sn vis) {i : Int} (hm : SeenM w1 M (sn.length + 1) (i :: sn)) (hg : w.grownBy w1 (some M)) : Tv w1 base q s M A c (i :: sn) vis ∧ Below base w w1 := by
  have hbel : Below base w w1 := ⟨hg.os, hg.tape, hg.output, hg.size, fun k hk => hg.block k (Nat.lt_of_lt_of_le hk h.hb) (fun e => by injection e with e; have := h.hM; omega)⟩
  refine ⟨⟨(hg.block q h.lt (fun e => h.M_ne (by injection e with e; exact e.symm))).trans h.blk, h.own.keepAt fun k hk hk2 => hg.block k hk2 (fun e => (h.row_ne hk).2 (by injection e)), h.hq, h.hM, hm, h.srd.below hbel⟩, hbel⟩
end
/-- What a step of the traversal leaves. -/
def VisP (base q : Nat) (s : Sd) (M : Nat) (vis : List Int) (o : Vis) (w : World) (e : Ending) (w' : World) : Prop :=
  match o with
  | none => e = .returned (.bool false) ∧ Below base w w'
  | some x => e = .returned (.bool true) ∧ Below base w w' ∧ ∃ A c, Tv w' base q s M A c x.2 (vis ++ x.1)
theorem VisP.none_ {base q M : Nat} {s : Sd} {vis : List Int} {w w' : World} {e : Ending} (h : e = .returned (.bool false) ∧ Below base w w') : VisP base q s M vis none w e w' := h
theorem VisP.some_ {base q M : Nat} {s : Sd} {vis : List Int} {x : List Int × List Int} {w w' : World} {e : Ending} (h : e = .returned (.bool true) ∧ Below base w w' ∧ ∃ A c, Tv w' base q s M A c x.2 (vis ++ x.1)) : VisP base q s M vis (some x) w e w' := h

end Go.Proofs.Ytbknbjabkhhlfaa
/-
  The walks of view's branch, below.
-/
set_option linter.unusedVariables false
set_option maxRecDepth 100000
namespace Go.Proofs.Ytbknbjabkhhlfaa
open Go.Shelf Go.RowKit Go.Lib Go.Sort
section
attribute [local go_sem] cs_field9 cs_field0 cs_at0 cs_at4
attribute [local go_sem ↓] exec_load28 exec_store44
attribute [local go_sem] run_storeNode_new
theorem row1_news (V : World) (b : Int) : ∀ j u, ([Value.int .i64 b] : List Value)[j]? = some u → (V.alloc (.cells #[.int .i64 b] 29)).cell? ((⟨V.heap.size, 0, none⟩ : Addr).add j) = some u := fun j u hj => by
  rw [Addr.add_lit, Nat.zero_add]
  exact (cell_of_row (V.alloc (.cells #[.int .i64 b] 29)) V.heap.size j #[.int .i64 b] 29 (0, 0) (heap_alloc_new V _)).trans (by simpa using hj)

theorem kind_wf {s : Sd} (hl : s.ns.length ≤ 900) {b : Int} (hk : (nodeV s b).kind = 2) : (Lit.int .i64 b).wf = true := by
  by_cases hr : 1 ≤ b ∧ b ≤ (s.ns.length : Int)
  · exact WalkArith.wf_i64 (by omega)
  · rw [nodeV, if_neg hr] at hk
    exact absurd hk (by decide)
theorem nodeV_rd {s : Sd} {w : World} {B : Nat} (h : SRd w B s) (c : Int) : NRd w B (nodeV s c) ∧ ((nodeV s c).bA = none → (nodeV s c).bc = 0) ∧ ((nodeV s c).pA = none → (nodeV s c).pc = 0) := by
  have hz : NRd w B Nd.zero ∧ (Nd.zero.bA = none → Nd.zero.bc = 0) ∧ (Nd.zero.pA = none → Nd.zero.pc = 0) := ⟨⟨RdR.nil, Rd.nil, u64_zero, Nat.zero_le _, Nat.zero_le _⟩, fun _ => rfl, fun _ => rfl⟩
  unfold nodeV
  split
  · cases e : s.ns[(c - 1).toNat]? with
    | none => exact hz
    | some n => exact h.l n (List.mem_of_getElem? e)
  · exact hz

set_option maxHeartbeats 4000000 in
theorem branch_any (base q M : Nat) (s : Sd) (m level : Nat) (hlm : level + 1 + m = 12)
    (IH : ∀ (i : Int) (w : World) (A : Option Addr) (c : Nat) (sn vis : List Int), Tv w base q s M A c sn vis → Room s sn → vis.length ≤ 1001 * sn.length → (Lit.int .i64 i).wf = true →
      Calls Try.prog 50 #[.pointer (some ⟨q, 0, none⟩), .int .i64 i, .int .i64 ((level : Int) + 1)] w (VisP base q s M vis (belV s m i sn) w))
    (hnl : s.ns.length ≤ 900) (b : Int) (w : World) (A : Option Addr) (c : Nat) (sn vis : List Int) (h : Tv w base q s M A c sn vis) (hr : Room s sn) (hv : vis.length ≤ 1001 * sn.length) :
    Calls Try.prog 60 #[.pointer (some ⟨q, 0, none⟩), .int .i64 b, .int .i64 (level : Int)] w (VisP base q s M vis (brV s (belV s m) [b] sn) w) := by
  obtain ⟨c0, c1, c2, c3, c4⟩ := h.cells
  have H := Lib.hid h
  have N := Lib.hid (nodeAt_any s base b w h.srd h.hb)
  unfold Sd.vals at N
  have R := Lib.hid (brV_one s (belV s m) b sn)
  have HL := Lib.hid (show vis.length ≤ 900900 by have := hr.len; omega)
  have IH1 := Lib.hid (fun (hk : (nodeV s b).kind = 2) w' (g : Gr w w') => IH b w' A c sn vis (h.gr g) hr hv (kind_wf hnl hk))
  have j1 : IntKind.i64.wrap ((level : Int) + 1) = (level : Int) + 1 := by rw [IntKind.wrap_i64]; omega
  clear h hr hv hnl IH
  generalize brV s (belV s m) [b] sn = o at R ⊢
  generalize nodeV s b = n at R N IH1
  by_cases k4 : n.kind = 4
  · rw [if_pos k4] at R
    have t4 : (n.kind == 4) = true := beq_iff_eq.2 k4
    obtain ⟨i0, hi0, hz0, hz1, hz2⟩ := info_parts refInfo
    have HI := Lib.hid (⟨hi0, hz0, hz1, hz2⟩ : _ ∧ _ ∧ _ ∧ _)
    clear k4 IH1 hi0 hz0 hz1 hz2
    go_enter Try.func60, Try.ntmps60
    go_upto_region 2 with (go_at_call 30; refine N.out.mono ?_; rintro e V ⟨rfl, hg⟩; have G := Lib.hid hg; have TV := Lib.hid (H.out.gr hg); have d4 := TV.out.cells.2.2.2.2; have hqlt := TV.out.lt; have d4' := fun o => (World.cell?_alloc_lt V o ⟨q, 4, none⟩ hqlt).trans d4; clear hg)
    go_wp2_with (at_builtin
                 refine wpList_append_lies _ rfl (.tmp 20) (.tmp 22) 32 rfl base 29 i0 _ 1 8 Try.underlying32 HI.out.1 HI.out.2.1 HI.out.2.2.1 HI.out.2.2.2 rfl (by omega) (.slice A vis.length c) vis.length (flatR vis) rfl (OwnR.alloc TV.out.own _) ⟨V.heap.size, 0, none⟩ 1 1 [.int .i64 b] rfl rfl (row1_news V b) (fun u hu => by rw [List.mem_singleton.1 hu]; rfl) (by omega) (by have := HL.out; simp only [maxLen]; omega) (by have := HL.out; omega) (Nat.le_trans TV.out.hb (by simp)) (V.heap.size + 1) (by simp) ?_
                 intro g cap w1 hown hgrow hat hlt
                 have PU := Lib.hid (TV.out.push (b := b) _ hown hgrow hat)
                 have hb1 : w1.heap[q]? = V.heap[q]? := (hgrow.block q (by have := TV.out.lt; simp; omega) (fun e => (TV.out.row_ne e.symm).1 rfl)).trans (Below.heap_alloc V _ q TV.out.lt)
                 have e1 := block_cell (hb1.trans TV.out.blk) (i := 4) (v := .slice A vis.length c) rfl
                 have f1 := block_frozen (hb1.trans TV.out.blk) 4
                 clear hown hgrow hat hlt hb1)
    refine bodyPost_ret (v := .bool true) (by simp [results, Try.results60, go_sem]) rfl ?_
    rw [R.out]
    exact VisP.some_ ⟨rfl, (G.out.b.mono H.out.hb).trans PU.out.2, _, _, by simpa using PU.out.1⟩
  · rw [if_neg k4] at R
    have t4 : (n.kind == 4) = false := beq_eq_false_iff_ne.2 k4
    by_cases k2 : n.kind = 2
    · rw [if_pos k2] at R
      have t2 : (n.kind == 2) = true := beq_iff_eq.2 k2
      replace IH1 := Lib.hid (IH1.out k2)
      clear k2 k4
      generalize belV s m b sn = o2 at R IH1
      cases o2 with
      | none =>
        go_enter Try.func60, Try.ntmps60
        go_wp2_with (first
          | (go_at_call 50; refine IH2.out.mono ?_; rintro e V2 ⟨rfl, hg⟩; have B2 := Lib.hid hg; clear hg)
          | (go_at_call 30; refine N.out.mono ?_; rintro e V ⟨rfl, hg⟩; have G := Lib.hid hg; have IH2 := Lib.hid (IH1.out V hg); clear hg))
        refine bodyPost_ret (v := .bool false) (by simp [results, Try.results60, go_sem]) rfl ?_
        rw [R.out]
        exact VisP.none_ ⟨rfl, (G.out.b.mono H.out.hb).trans B2.out⟩
      | some x =>
        go_enter Try.func60, Try.ntmps60
        go_wp2_with (first
          | (go_at_call 50; refine IH2.out.mono ?_; rintro e V2 ⟨rfl, hg, ht⟩; have B2 := Lib.hid hg; have T2 := Lib.hid ht; clear hg ht)
          | (go_at_call 30; refine N.out.mono ?_; rintro e V ⟨rfl, hg⟩; have G := Lib.hid hg; have IH2 := Lib.hid (IH1.out V hg); clear hg))
        refine bodyPost_ret (v := .bool true) (by simp [results, Try.results60, go_sem]) rfl ?_
        rw [R.out]
        exact VisP.some_ ⟨rfl, (G.out.b.mono H.out.hb).trans B2.out, T2.out⟩
    · rw [if_neg k2] at R
      have t2 : (n.kind == 2) = false := beq_eq_false_iff_ne.2 k2
      clear k2 k4 IH1
      go_enter Try.func60, Try.ntmps60
      go_wp2_with (go_at_call 30; refine N.out.mono ?_; rintro e V ⟨rfl, hg⟩; have G := Lib.hid hg; clear hg)
      refine bodyPost_ret (v := .bool false) (by simp [results, Try.results60, go_sem]) rfl ?_
      rw [R.out]
      exact VisP.none_ ⟨rfl, G.out.b.mono H.out.hb⟩

set_option maxHeartbeats 16000000 in
theorem below_any (base q M : Nat) (s : Sd) (hnl : s.ns.length ≤ 900) : ∀ (m level : Nat), level + m = 12 → ∀ (i : Int) (w : World) (A : Option Addr) (c : Nat) (sn vis : List Int), Tv w base q s M A c sn vis → Room s sn → vis.length ≤ 1001 * sn.length → (Lit.int .i64 i).wf = true →
    Calls Try.prog 50 #[.pointer (some ⟨q, 0, none⟩), .int .i64 i, .int .i64 (level : Int)] w (VisP base q s M vis (belV s m i sn) w) := by
  intro m
  induction m with
  | zero =>
    intro level hlm i w A c sn vis h hr hv hi
    have d : decide ((level : Int) > 11) = true := decide_eq_true (by omega)
    have R := Lib.hid (show belV s 0 i sn = none from rfl)
    clear h hr hv hi hnl
    go_enter Try.func50, Try.ntmps50
    go_wp2_with fail
    refine bodyPost_ret (v := .bool false) (by simp [results, Try.results50, go_sem]) rfl ?_
    rw [R.out]
    exact VisP.none_ ⟨rfl, Below.refl _ _⟩
  | succ m ih =>
    intro level hlm i w A c sn vis h hr hv hi
    have d : decide ((level : Int) > 11) = false := decide_eq_false (by omega)
    have lk := h.mp.look hi
    obtain ⟨c0, c1, c2, c3, c4⟩ := h.cells
    have H := Lib.hid h
    have R := Lib.hid (show belV s (m + 1) i sn = if i ∈ sn then none else (mainV s i).bind fun c =>
      if (nodeV s c).kind = 3 then (brV s (belV s m) (nodeV s c).bs (i :: sn)).map fun x => (i :: x.1, x.2) else some ([i, c], i :: sn) from by rw [belV])
    generalize belV s (m + 1) i sn = o at R ⊢
    by_cases hm : i ∈ sn
    · rw [if_pos hm] at R
      rw [show decide (i ∈ sn) = true from decide_eq_true hm] at lk
      clear hm h hr hv hi ih
      go_enter Try.func50, Try.ntmps50
      go_wp2_with fail
      refine bodyPost_ret (v := .bool false) (by simp [results, Try.results50, go_sem]) rfl ?_
      rw [R.out]
      exact VisP.none_ ⟨rfl, Below.refl _ _⟩
    · rw [if_neg hm] at R
      rw [show decide (i ∈ sn) = false from decide_eq_false hm] at lk
      have hsl := hr.len
      obtain ⟨w1, hrun, hm1, hg1⟩ := h.mp.put hi (by simp only [maxLen]; omega)
      have hT1 := h.seen hm1 hg1
      have T1 := Lib.hid hT1.1
      have B1 := Lib.hid hT1.2
      obtain ⟨q0, q1, q2, q3, q4⟩ := hT1.1.cells
      have MN := Lib.hid (viewMain_any s base i w1 hT1.1.srd hT1.1.hb)
      unfold Sd.vals at MN
      have RM := Lib.hid (show ∀ cN, mainV s i = some cN → Room s (i :: sn) from fun cN e => hr.cons hm e)
      have HV := Lib.hid (show vis.length ≤ 1001 * sn.length ∧ sn.length ≤ 900 from ⟨hv, by omega⟩)
      clear hm h hr hv hi hT1 hm1 hg1 hsl
      cases hmv : mainV s i with
      | none =>
        rw [hmv] at MN R
        unfold optV at MN
        clear hmv RM ih
        go_enter Try.func50, Try.ntmps50
        go_wp2_with (go_at_call 59; refine MN.out.mono ?_; rintro e V ⟨rfl, hg⟩; have G := Lib.hid hg; clear hg)
        refine bodyPost_ret (v := .bool false) (by simp [results, Try.results50, go_sem]) rfl ?_
        rw [R.out]
        exact VisP.none_ ⟨rfl, B1.out.trans (G.out.b.mono T1.out.hb)⟩
      | some cN =>
        rw [hmv] at MN R
        have RO := Lib.hid (RM.out cN hmv)
        unfold optV at MN
        clear hmv RM
        simp only [Option.bind_some] at R
        obtain ⟨i0, hi0, hz0, hz1, hz2⟩ := info_parts refInfo
        have HI := Lib.hid (⟨hi0, hz0, hz1, hz2⟩ : _ ∧ _ ∧ _ ∧ _)
        clear hi0 hz0 hz1 hz2
        have IHH := Lib.hid ih
        clear ih
        go_enter Try.func50, Try.ntmps50
        go_upto_region 7 with (go_at_call 59; refine MN.out.mono ?_; rintro e V ⟨rfl, hg⟩; have G := Lib.hid hg; have TV := Lib.hid (T1.out.gr hg); have d4 := TV.out.cells.2.2.2.2; have hqlt := TV.out.lt; have d4' := fun o => (World.cell?_alloc_lt V o ⟨q, 4, none⟩ hqlt).trans d4; clear hg)
        go_upto_region 8 with (at_builtin; refine wpList_append_lies _ rfl (.tmp 42) (.tmp 44) 32 rfl base 29 i0 _ 1 8 Try.underlying32 HI.out.1 HI.out.2.1 HI.out.2.2.1 HI.out.2.2.2 rfl (by omega) (.slice A vis.length c) vis.length (flatR vis) rfl (OwnR.alloc TV.out.own _) ⟨V.heap.size, 0, none⟩ 1 1 [.int .i64 i] rfl rfl (row1_news V i) (fun u hu => by rw [List.mem_singleton.1 hu]; rfl) (by omega) (by have := HV.out; simp only [maxLen]; omega) (by have := HV.out; omega) (Nat.le_trans TV.out.hb (by simp)) (V.heap.size + 1) (by simp) ?_; intro g cap w2 hown hgrow hat hlt; have PU := Lib.hid (TV.out.push (b := i) _ hown hgrow hat); have hb1 : w2.heap[q]? = V.heap[q]? := (hgrow.block q (by have := TV.out.lt; simp; omega) (fun e => (TV.out.row_ne e.symm).1 rfl)).trans (Below.heap_alloc V _ q TV.out.lt); have e1 := block_cell (hb1.trans TV.out.blk) (i := 4) (v := .slice A vis.length c) rfl; have f1 := block_frozen (hb1.trans TV.out.blk) 4; clear hown hgrow hat hlt hb1)
        obtain ⟨X, hX⟩ : ∃ X, X = w2.setCell ⟨q, 4, none⟩ (.slice (some ⟨g, 0, none⟩) (vis.length + 1) cap) := ⟨_, rfl⟩
        have PX := PU.out
        rw [← hX] at PX ⊢
        have TX := Lib.hid PX.1
        have BX := Lib.hid (B1.out.trans ((G.out.b.mono T1.out.hb).trans PX.2))
        have hbl := nodeV_bl TX.out.srd cN
        have NRX := Lib.hid (fun (wr : World) (h : SRd wr base s) => (nodeV_rd h cN).1)
        obtain ⟨y0, y1, y2, y3, y4⟩ := TX.out.cells
        have N := Lib.hid (nodeAt_any s base cN X TX.out.srd TX.out.hb)
        unfold Sd.vals at N
        clear hX PX PU e1 f1 d4 d4' hqlt q0 q1 q2 q3 q4 c0 c1 c2 c3 c4 lk hrun MN G TV T1
        generalize nodeV s cN = n at R N hbl NRX
        go_upto_region 9 with (go_at_call 30; refine N.out.mono ?_; rintro e V2 ⟨rfl, hg⟩; have G2 := Lib.hid (hg.alloc (.cells n.cs 35)); have k0 := node_at V2 n 0 _ rfl; have k4 := node_at V2 n 4 _ rfl; clear hg)
        obtain ⟨V3, hV3⟩ : ∃ V3, V3 = V2.alloc (.cells n.cs 35) := ⟨_, rfl⟩
        rw [← hV3] at G2 k0 k4 ⊢
        have TV3 := Lib.hid (TX.out.gr G2.out)
        have BV3 := Lib.hid (BX.out.trans (G2.out.b.mono TX.out.hb))
        clear hV3
        obtain ⟨v1, hv1⟩ : ∃ v1, v1 = vis ++ [i] := ⟨_, rfl⟩
        have HV1 := Lib.hid (show v1.length ≤ 900901 ∧ v1.length + 1000 ≤ 1001 * (i :: sn).length by have := HV.out; rw [hv1]; simp only [List.length_append, List.length_cons, List.length_nil]; omega)
        have HE1 := Lib.hid hv1
        rw [← hv1] at TV3
        clear hv1 y0 y1 y2 y3 y4 HV
        obtain ⟨z0, z1, z2, z3, z4⟩ := TV3.out.cells
        by_cases k3 : n.kind = 3
        · rw [if_pos k3] at R
          have t3 : (n.kind != 3) = false := by simp [k3]
          clear k3
          have hb0 : (0 : Int) ≤ (n.bs.length : Int) := by omega
          have IH2 := Lib.hid (fun (b : Int) (wr : World) (A : Option Addr) (c : Nat) (sn vis : List Int) h hr hv => branch_any base q M s m level (by omega) (fun i w A c sn vis h hr hv hi => by have := IHH.out (level + 1) (by omega) i w A c sn vis h hr hv hi; simpa using this) hnl b wr A c sn vis h hr hv)
          have AD := Lib.hid (fun (bs sn : List Int) x (hr : Room s sn) h => brV_adds (s := s) (f := belV s m) (fun b sn x hr h => belV_adds TX.out.srd m b sn x hr h) bs sn x hr h)
          clear IHH N HI
          go_wp2_with fail
          go_loopg [70] n.bs.length (fun kx s70 wr => ∃ (k : Nat) (A : Option Addr) (c : Nat) (l sn2 : List Int), s70 = .int .i64 k ∧ k ≤ n.bs.length ∧ n.bs.length - k ≤ kx ∧ Aside (brV s (belV s m) (n.bs.take k) (i :: sn) = some (l, sn2)) ∧ Aside (Tv wr base q s M A c sn2 (v1 ++ l)) ∧ Aside (Below base w wr))
          case atStart => exact ⟨0, _, _, [], _, rfl, Nat.zero_le _, by omega, (show brV s (belV s m) (n.bs.take 0) (i :: sn) = some ([], i :: sn) from by rw [List.take_zero]; rfl), (show Tv _ _ _ _ _ _ _ _ _ from by rw [List.append_nil]; exact TV3.out), BV3.out⟩
          case round =>
            obtain ⟨k, A3, c3, l, sn2, rfl, hk, hkx, L, T, B⟩ := hrel
            clear z0 z1 z2 z3 z4 k0 k4
            by_cases hlt : k < n.bs.length
            · have hltz : (k : Int) < (n.bs.length : Int) := by omega
              have hk0 : (0 : Int) ≤ (k : Int) := by omega
              obtain ⟨ad, z, eA, hb, hz, hc⟩ := (NRX.out wr T.out.srd).r.at_ hlt
              have EA := Lib.hid eA
              have a1 := AD.out _ _ _ RO.out L.out
              have hva : (v1 ++ l).length ≤ 1001 * sn2.length := by
                have h1 := a1.vis
                have h2 := HV1.out.2
                have h3 : (n.bs.take k).length ≤ k := List.length_take_le k n.bs
                rw [List.length_append]
                have h4 : l.length + 1001 * (i :: sn).length ≤ 1001 * sn2.length + (n.bs.take k).length := h1
                omega
              have C := Lib.hid (IH2.out z wr A3 c3 sn2 (v1 ++ l) T.out a1.room hva)
              have TK := Lib.hid (show n.bs.take (k + 1) = n.bs.take k ++ [z] by rw [List.take_add_one, hz]; rfl)
              have SN := Lib.hid (show brV s (belV s m) (n.bs.take (k + 1)) (i :: sn) = (brV s (belV s m) [z] sn2).map fun y => (l ++ y.1, y.2) by rw [TK.out, brV_snoc, L.out]; rfl)
              clear a1 hva hz hb
              rw [EA.out]
              clear eA
              generalize brV s (belV s m) [z] sn2 = ov at C SN
              cases ov with
              | none =>
                have RN := Lib.hid (show o = none by
                  rw [R.out, ← List.take_append_drop (k + 1) n.bs, brV_append_none s _ _ _ _ SN.out]
                  rfl)
                go_wp2_with (go_at_call 60; refine C.out.mono ?_; rintro e V5 ⟨rfl, hg⟩; have B5 := Lib.hid hg; clear hg)
                refine bodyPost_ret (v := .bool false) (by simp [results, Try.results50, go_sem]) rfl ?_
                rw [RN.out]
                exact VisP.none_ ⟨rfl, B.out.trans B5.out⟩
              | some x =>
                have j1 : IntKind.i64.wrap ((k : Int) + 1) = (k : Int) + 1 := by rw [IntKind.wrap_i64]; omega
                go_wp2_with (go_at_call 60; refine C.out.mono ?_; rintro e V5 ⟨rfl, hg, A5, c5, ht⟩; have B5 := Lib.hid hg; have T5 := Lib.hid ht; clear hg ht)
                rw [← EA.out]
                go_roundg (n.bs.length - (k + 1))
                case measure => omega
                case rel =>
                  exact ⟨k + 1, A5, c5, l ++ x.1, x.2, by go_num, by omega, Nat.le_refl _, SN.out, (show Tv V5 base q s M A5 c5 x.2 (v1 ++ (l ++ x.1)) from by rw [← List.append_assoc]; exact T5.out), (show Below base w V5 from B.out.trans B5.out)⟩
            · obtain rfl : k = n.bs.length := by omega
              have RS := Lib.hid (show o = some (i :: l, sn2) by
                rw [R.out, ← List.take_length (l := n.bs), L.out]
                rfl)
              go_wp2
              refine bodyPost_ret (v := .bool true) (by simp [results, Try.results50, go_sem]) rfl ?_
              rw [RS.out]
              refine VisP.some_ ⟨rfl, B.out, A3, c3, ?_⟩
              have e : v1 ++ l = vis ++ i :: l := by rw [HE1.out]; simp
              show Tv _ _ _ _ _ _ _ sn2 (vis ++ i :: l)
              rw [← e]
              exact T.out
        · rw [if_neg k3] at R
          have t3 : (n.kind != 3) = true := by simp [k3]
          have hqlt := TV3.out.lt
          have d4' := fun o => (World.cell?_alloc_lt V3 o ⟨q, 4, none⟩ hqlt).trans z4
          clear k3 IHH
          go_wp2_with (at_builtin; refine wpList_append_lies _ rfl (.tmp 61) (.tmp 63) 32 rfl base 29 i0 _ 1 8 Try.underlying32 HI.out.1 HI.out.2.1 HI.out.2.2.1 HI.out.2.2.2 rfl (by omega) (.slice (some ⟨g, 0, none⟩) v1.length cap) v1.length (flatR v1) rfl (OwnR.alloc TV3.out.own _) ⟨V3.heap.size, 0, none⟩ 1 1 [.int .i64 cN] rfl rfl (row1_news V3 cN) (fun u hu => by rw [List.mem_singleton.1 hu]; rfl) (by omega) (by have := HV1.out; simp only [maxLen]; omega) (by have := HV1.out; omega) (Nat.le_trans TV3.out.hb (by simp)) (V3.heap.size + 1) (by simp) ?_; intro g2 cap2 w4 hown hgrow hat hlt; have PU := Lib.hid (TV3.out.push (b := cN) _ hown hgrow hat); have hb1 : w4.heap[q]? = V3.heap[q]? := (hgrow.block q (by have := TV3.out.lt; simp; omega) (fun e => (TV3.out.row_ne e.symm).1 rfl)).trans (Below.heap_alloc V3 _ q TV3.out.lt); have e1 := block_cell (hb1.trans TV3.out.blk) (i := 4) (v := .slice (some ⟨g, 0, none⟩) v1.length cap) rfl; have f1 := block_frozen (hb1.trans TV3.out.blk) 4; clear hown hgrow hat hlt hb1)
          refine bodyPost_ret (v := .bool true) (by simp [results, Try.results50, go_sem]) rfl ?_
          rw [R.out]
          refine VisP.some_ ⟨rfl, BV3.out.trans PU.out.2, some ⟨g2, 0, none⟩, cap2, ?_⟩
          have e : v1 ++ [cN] = vis ++ [i, cN] := by rw [HE1.out]; simp
          show Tv _ _ _ _ _ _ _ (i :: sn) (vis ++ [i, cN])
          rw [← e]
          have := PU.out.1
          simpa using this
end
end Go.Proofs.Ytbknbjabkhhlfaa
/-
  The walk of view's visit.
-/
set_option linter.unusedVariables false
set_option maxRecDepth 100000
namespace Go.Proofs.Ytbknbjabkhhlfaa
open Go.Shelf Go.RowKit Go.Lib Go.Sort
theorem kind_wf2 {s : Sd} (hl : s.ns.length ≤ 900) {c r : Int} (h : rootV s c = some r) : (Lit.int .i64 r).wf = true := by
  unfold rootV at h
  split at h
  · rename_i hk
    injection h with h
    rw [← h]
    exact kind_wf hl hk
  · cases h

/-- What visit hands back. -/
def VisitP (s : Sd) (c : Int) (w : World) (e : Ending) (w' : World) : Prop :=
  match visV s c with
  | none => e = .returned (.tuple #[.slice none 0 0, .int .i64 1]) ∧ Below w.heap.size w w'
  | some l => ∃ A cp, e = .returned (.tuple #[.slice A l.length cp, .int .i64 0]) ∧ Below w.heap.size w w' ∧ OwnR w' w.heap.size (.slice A l.length cp) l ∧ l.length ≤ 900900
theorem VisitP.none_ {s : Sd} {c : Int} {w w' : World} {e : Ending} (hv : visV s c = none) (h : e = .returned (.tuple #[.slice none 0 0, .int .i64 1]) ∧ Below w.heap.size w w') : VisitP s c w e w' := by
  unfold VisitP; rw [hv]; exact h
theorem VisitP.some_ {s : Sd} {c : Int} {l : List Int} {w w' : World} {e : Ending} (hv : visV s c = some l) (h : ∃ A cp, e = .returned (.tuple #[.slice A l.length cp, .int .i64 0]) ∧ Below w.heap.size w w' ∧ OwnR w' w.heap.size (.slice A l.length cp) l ∧ l.length ≤ 900900) : VisitP s c w e w' := by
  unfold VisitP; rw [hv]; exact h
section
attribute [local go_sem ↓] exec_load28 exec_store44
set_option maxHeartbeats 8000000 in
theorem visit_any (s : Sd) (B : Nat) (c : Int) (ro : Bool) (w : World) (h : SRd w B s) (hB : B ≤ w.heap.size) (hp : properB s = true) (hnl : s.ns.length ≤ 900) :
    Calls Try.prog 28 #[.agg s.vals, .agg #[.int .i64 c, .bool ro]] w (VisitP s c w) := by
  have hmm := @run_makeMap Try.prog
  obtain ⟨W, hW⟩ : ∃ W, W = (w.alloc (.cells s.vals 38)).alloc (.cells #[.int .i64 c, .bool ro] 49) := ⟨_, rfl⟩
  have X := Lib.hid (show Bx w W B s by rw [hW]; exact (Bx.new h hB).next ((Gr.refl _).alloc _))
  have hb2 : W.heap[w.heap.size + 1]? = some (.cells #[.int .i64 c, .bool ro] 49 (0, 0)) := by
    rw [hW]; have := heap_alloc_new (w.alloc (.cells s.vals 38)) (.cells #[.int .i64 c, .bool ro] 49); simpa using this
  have HB2 := Lib.hid hb2
  have HL2 := Lib.hid (show w.heap.size + 1 < W.heap.size from (Array.getElem?_eq_some_iff.1 hb2).1)
  have HW := Lib.hid hW.symm
  obtain ⟨q0, q1, q2⟩ := X.out.cells
  have PP := Lib.hid (vproper_any s B W (h.gr hB X.out.g) (Nat.le_trans hB X.out.g.size) hp)
  have SR := Lib.hid (fun V (hV : Below W.heap.size W V) => (⟨(h.gr hB X.out.g).below (hV.mono (Nat.le_trans hB X.out.g.size)), Nat.le_trans (Nat.le_trans hB X.out.g.size) hV.size⟩ : SRd V B s ∧ B ≤ V.heap.size))
  have CF := Lib.hid (fun V (hV : Below W.heap.size W V) => (⟨(hV.cell (p := ⟨w.heap.size, 0, none⟩) X.out.lt).trans X.out.cells.1, (hV.cell (p := ⟨w.heap.size, 1, none⟩) X.out.lt).trans X.out.cells.2.1, (hV.cell (p := ⟨w.heap.size, 2, none⟩) X.out.lt).trans X.out.cells.2.2, (hV.cell (p := ⟨w.heap.size + 1, 0, none⟩) HL2.out).trans (block_cell HB2.out rfl), (hV.cell (p := ⟨w.heap.size + 1, 1, none⟩) HL2.out).trans (block_cell HB2.out rfl)⟩ : V.cell? ⟨w.heap.size, 0, none⟩ = some (.slice s.nA s.ns.length s.nc) ∧ V.cell? ⟨w.heap.size, 1, none⟩ = some (.slice s.cA s.cs.length s.cc) ∧ V.cell? ⟨w.heap.size, 2, none⟩ = some (.int .i64 s.gen) ∧ V.cell? ⟨w.heap.size + 1, 0, none⟩ = some (.int .i64 c) ∧ V.cell? ⟨w.heap.size + 1, 1, none⟩ = some (.bool ro)))
  have RC := Lib.hid (fun V (hV : Below W.heap.size W V) => root_any s B c ro V (SR.out V hV).1 (SR.out V hV).2)
  have WF := Lib.hid (fun r (e : rootV s c = some r) => kind_wf2 hnl e)
  have RV := Lib.hid (show visV s c = (rootV s c).bind fun r => (belV s 12 r []).map (·.1) from rfl)
  unfold Sd.vals at HW PP RC ⊢
  clear h hB hW hb2 hp
  cases hr : rootV s c with
  | none =>
    rw [hr] at RC RV
    unfold optV at RC
    clear hr
    go_enter Try.func28, Try.ntmps28
    go_upto_region 1 with (fail)
    rw [HW.out]
    go_wp2_with (first
      | (go_at_call 49; refine RC2.out.mono ?_; rintro e V2 ⟨rfl, hg⟩; have G2 := Lib.hid hg; clear hg)
      | (go_at_call 48; refine PP.out.mono ?_; rintro e V ⟨rfl, hg⟩; have G1 := Lib.hid hg; obtain ⟨p0, p1, p2, p3, p4⟩ := CF.out V hg; have RC2 := Lib.hid (RC.out V hg); clear hg))
    exact bodyPost_ret (v := .tuple #[.slice none 0 0, .int .i64 1]) (by simp [results, Try.results28, go_sem]) rfl (VisitP.none_ RV.out ⟨rfl, X.out.g.b.trans ((G1.out.mono X.out.g.size).trans (G2.out.b.mono (Nat.le_trans X.out.g.size G1.out.size)))⟩)
  | some r =>
    have WFR := Lib.hid (WF.out r hr)
    rw [hr] at RC RV
    unfold optV at RC
    clear hr WF
    go_enter Try.func28, Try.ntmps28
    go_upto_region 1 with (fail)
    rw [HW.out]
    go_upto_region 6 with (first
      | (go_at_call 49; refine RC2.out.mono ?_; rintro e V2 ⟨rfl, hg⟩; have G2 := Lib.hid hg; have GG := Lib.hid (G1.out.trans (hg.b.mono G1.out.size)); obtain ⟨r0, r1, r2, r3, r4⟩ := CF.out V2 GG.out; clear hg)
      | (go_at_call 48; refine PP.out.mono ?_; rintro e V ⟨rfl, hg⟩; have G1 := Lib.hid hg; obtain ⟨p0, p1, p2, p3, p4⟩ := CF.out V hg; have RC2 := Lib.hid (RC.out V hg); clear hg))
    have S2 := Lib.hid (SR.out V2 GG.out)
    clear p0 p1 p2 p3 p4 q0 q1 q2 RC RC2 PP
    have r0' := fun o => (World.cell?_alloc_lt V2 o ⟨w.heap.size, 0, none⟩ (Nat.lt_of_lt_of_le X.out.lt GG.out.size)).trans r0
    go_upto_region 7 with (fail)
    obtain ⟨Y, hY⟩ : ∃ Y, Y = (V2.alloc (.map #[] 0)).alloc (.cells #[.slice s.nA s.ns.length s.nc, .slice s.cA s.cs.length s.cc, .int .i64 s.gen, .map (some V2.heap.size), .slice none 0 0] 99) := ⟨_, rfl⟩
    have TY := Lib.hid (show Tv Y V2.heap.size (V2.heap.size + 1) s V2.heap.size none 0 [] [] by
      rw [hY]
      refine ⟨?_, OwnR.nil_ _ _, Nat.le_succ _, Nat.le_refl _, ?_, ?_⟩
      · have := heap_alloc_new (V2.alloc (.map #[] 0)) (.cells #[.slice s.nA s.ns.length s.nc, .slice s.cA s.cs.length s.cc, .int .i64 s.gen, .map (some V2.heap.size), .slice none 0 0] 99)
        simpa using this
      · exact (seenM_made V2).at_ (Below.heap_alloc _ _ _ (by simp))
      · exact (S2.out.1.gr S2.out.2 (((Gr.refl V2).alloc _).alloc _)).more S2.out.2)
    have GY := Lib.hid (show Below V2.heap.size V2 Y by rw [hY]; exact (((Gr.refl V2).alloc _).alloc _).b)
    rw [← hY]
    clear hY r0 r1 r2 r3 r4 r0'
    have C := Lib.hid (show Calls Try.prog 50 #[.pointer (some ⟨V2.heap.size + 1, 0, none⟩), .int .i64 r, .int .i64 0] Y (VisP V2.heap.size (V2.heap.size + 1) s V2.heap.size [] (belV s 12 r []) Y) by
      have := below_any V2.heap.size (V2.heap.size + 1) V2.heap.size s hnl 12 0 rfl r Y none 0 [] [] TY.out (room_nil s) (Nat.zero_le _) WFR.out
      simpa using this)
    have AD := Lib.hid (fun x => belV_adds TY.out.srd 12 r [] x (room_nil s))
    have WL := Lib.hid (show w.heap.size ≤ V2.heap.size from Nat.le_trans X.out.g.size GG.out.size)
    have BW := Lib.hid (show Below w.heap.size w Y from X.out.g.b.trans ((GG.out.mono X.out.g.size).trans (GY.out.mono WL.out)))
    simp only [Option.bind_some] at RV
    cases hv : belV s 12 r [] with
    | none =>
      rw [hv] at C RV
      clear hv AD
      go_wp2_with (go_at_call 50; refine C.out.mono ?_; rintro e V5 ⟨rfl, hg⟩; have B5 := Lib.hid hg; clear hg)
      exact bodyPost_ret (v := .tuple #[.slice none 0 0, .int .i64 1]) (by simp [results, Try.results28, go_sem]) rfl (VisitP.none_ RV.out ⟨rfl, BW.out.trans (B5.out.mono WL.out)⟩)
    | some x =>
      have A1 := Lib.hid (AD.out x hv)
      rw [hv] at C RV
      clear hv AD
      go_wp2_with (go_at_call 50; refine C.out.mono ?_; rintro e V5 ⟨rfl, hg, A5, c5, ht⟩; have B5 := Lib.hid hg; have T5 := Lib.hid ht; obtain ⟨g0, g1, g2, g3, g4⟩ := ht.cells; clear hg ht)
      have T6 := T5.out
      rw [List.nil_append] at T6
      exact bodyPost_ret (v := .tuple #[.slice A5 x.1.length c5, .int .i64 0]) (by simp [results, Try.results28, go_sem]) rfl (VisitP.some_ RV.out ⟨A5, c5, rfl, BW.out.trans (B5.out.mono WL.out), T6.own.mono WL.out, by show x.1.length ≤ 900900; have := A1.out.vis; have h2 := A1.out.room.len; simp only [List.length_nil] at this; omega⟩)
end
end Go.Proofs.Ytbknbjabkhhlfaa
/-
  The walks of view's Contents, Inner.
-/
set_option linter.unusedVariables false
set_option maxRecDepth 100000
namespace Go.Proofs.Ytbknbjabkhhlfaa
open Go.Shelf Go.RowKit Go.Lib Go.Sort
theorem run_append_pairB {w : World} (ty : TypeId) (base : Nat) (v : Value) (ys : List Pr) (hown : Own w base v ys) (ad : Addr) (c : Nat) (ns : List Pr) (hnews : ∀ j u, (flat ns)[j]? = some u → w.cell? (ad.add j) = some u)
    (hn : ys.length + ns.length ≤ 1000000000000) (hbase : base ≤ w.heap.size) :
    ∃ v' w', (Builtin.append_ #[33, 33] ty #[v, .slice (some ad) ns.length c]).run Try.prog w = .ok v' w' ∧ Own w' base v' (ys ++ ns) ∧ Below base w w' := by
  obtain ⟨i0, hi0, hz0, hz1, hz2⟩ := info_parts pairInfo
  obtain ⟨v', w', hr, h2, h3, _, _⟩ := run_append_own_at (P := Try.prog) w base 33 ty 56 i0 _ 2 24 Try.underlying33 hi0 hz0 hz1 hz2 rfl (by omega) v ys.length (flat ys) hown ad ns.length c (flat ns) (flat_length ns) hnews (flat_one ns)
    (by simp only [maxLen]; omega) (by omega) hbase
  refine ⟨v', w', hr, ?_, (Below.refl base w).grown h3 hbase (fun k hk => (hown.lt k hk).1)⟩
  show w'.ownsRow base 56 2 v' (ys ++ ns).length (flat (ys ++ ns))
  rw [List.length_append, flat_append]
  exact h2
theorem run_append_anyB {w : World} (ty : TypeId) (base : Nat) (v : Value) (ys : List Pr) (hown : Own w base v ys) (A : Option Addr) (m c B : Nat) (ns : List Pr) (hm : m = ns.length) (hR : Rd w B A ns) (hA : A = none → c = 0)
    (hn : ys.length + ns.length ≤ 1000000000000) (hbase : base ≤ w.heap.size) :
    ∃ v' w', (Builtin.append_ #[33, 33] ty #[v, .slice A m c]).run Try.prog w = .ok v' w' ∧ Own w' base v' (ys ++ ns) ∧ Below base w w' := by
  subst hm
  obtain ⟨i0, hi0, hz0, hz1, hz2⟩ := info_parts pairInfo
  cases A with
  | none =>
    obtain rfl : c = 0 := hA rfl
    have hns : ns = [] := by
      rcases Nat.eq_zero_or_pos ns.length with h | h
      · exact List.eq_nil_of_length_eq_zero h
      · obtain ⟨ad, e, _⟩ := hR h
        cases e
    subst hns
    exact ⟨v, w, run_append_owned_none (P := Try.prog) (w := w) base 33 ty 56 i0 2 Try.underlying33 hi0 v ys.length (flat ys) hown, by simpa using hown, Below.refl _ _⟩
  | some ad =>
    refine run_append_pairB ty base v ys hown ad c ns (fun j u hj => ?_) hn hbase
    rcases Nat.eq_zero_or_pos ns.length with h | h
    · have : ns = [] := List.eq_nil_of_length_eq_zero h
      subst this
      simp [flat_nil] at hj
    · obtain ⟨ad', e, _, hc⟩ := hR h
      injection e with e
      subst e
      exact hc j u hj
theorem wpList_append_listB {w w0 : World} {ops : Array Oper} {rest : List Oper} {o : Oper} {a : Act} {Q : Exit → Act → World → Prop} (hgd : o.guard = none) (s x : Operand)
    (ho : o.op = .call { callee := .builtin .append, args := #[s, x], argTypes := #[33, 33] }) (base : Nat) (v : Value) (ys : List Pr) (hs : a.eval s = v) (hown : Own w base v ys)
    (A : Option Addr) (m c B : Nat) (ns : List Pr) (hx : a.eval x = .slice A m c) (hm : m = ns.length) (hR : Rd w B A ns) (hA : A = none → c = 0)
    (hn : ys.length + ns.length ≤ 1000000000000) (hb : Below base w0 w) (hbase : base ≤ w.heap.size)
    (h : ∀ v' w', Hid (Own w' base v' (ys ++ ns)) → Below base w0 w' → wpList Try.prog ops Q rest (a.put o.dst v') w') :
    wpList Try.prog ops Q (o :: rest) a w := by
  refine wpList_plain hgd fun K hK => ?_
  obtain ⟨v', w', hr, h2, h3⟩ := run_append_anyB o.type base v ys hown A m c B ns hm hR hA hn hbase
  unfold Oper.wp execOp
  simp only [ho, resolve, invoke, builtin, Sem.run_bind, Sem.run_pure, Result.andThen_ok, List.map_toArray, List.map_cons, List.map_nil, hs, hx]
  simp only [hr, Result.andThen_ok]
  exact hK _ _ (h v' w' h2 (hb.trans h3))

/-- The pairs of a row of nodes. -/
def contV (s : Sd) (l : List Int) : List Pr := l.flatMap fun r => ownPs (nodeV s r)
theorem contV_snoc (s : Sd) (l : List Int) (r : Int) : contV s (l ++ [r]) = contV s l ++ ownPs (nodeV s r) := by simp [contV]
theorem ownPs_le {s : Sd} {w : World} {B : Nat} (h : SRd w B s) (r : Int) : (ownPs (nodeV s r)).length ≤ 1000 := by
  have hp := (nodeV_rd h r).1.pl
  unfold ownPs
  split
  · simp
  · split
    · exact hp
    · simp
theorem contV_le {s : Sd} {w : World} {B : Nat} (h : SRd w B s) (l : List Int) : (contV s l).length ≤ 1000 * l.length := by
  induction l with
  | nil => simp [contV]
  | cons a l ih =>
    have e : contV s (a :: l) = ownPs (nodeV s a) ++ contV s l := by simp [contV]
    have := ownPs_le h a
    rw [e, List.length_append, List.length_cons]
    omega
/-- What Contents hands back. -/
def ContP (s : Sd) (c : Int) (w : World) (e : Ending) (w' : World) : Prop :=
  match visV s c with
  | none => e = .returned (.tuple #[.slice none 0 0, .int .i64 1]) ∧ Below w.heap.size w w'
  | some l => ∃ A cp, e = .returned (.tuple #[.slice A (contV s l).length cp, .int .i64 0]) ∧ Below w.heap.size w w' ∧ Own w' w.heap.size (.slice A (contV s l).length cp) (contV s l)
theorem ContP.none_ {s : Sd} {c : Int} {w w' : World} {e : Ending} (hv : visV s c = none) (h : e = .returned (.tuple #[.slice none 0 0, .int .i64 1]) ∧ Below w.heap.size w w') : ContP s c w e w' := by
  unfold ContP; rw [hv]; exact h
theorem ContP.some_ {s : Sd} {c : Int} {l : List Int} {w w' : World} {e : Ending} (hv : visV s c = some l) (h : ∃ A cp, e = .returned (.tuple #[.slice A (contV s l).length cp, .int .i64 0]) ∧ Below w.heap.size w w' ∧ Own w' w.heap.size (.slice A (contV s l).length cp) (contV s l)) : ContP s c w e w' := by
  unfold ContP; rw [hv]; exact h
section
attribute [local go_sem ↓] exec_load28 exec_store44
attribute [local go_sem] cs_field0
set_option maxHeartbeats 8000000 in
theorem vcontents_any (s : Sd) (B : Nat) (c : Int) (ro : Bool) (w : World) (h : SRd w B s) (hB : B ≤ w.heap.size) (hp : properB s = true) (hnl : s.ns.length ≤ 900) :
    Calls Try.prog 12 #[.agg s.vals, .agg #[.int .i64 c, .bool ro]] w (ContP s c w) := by
  obtain ⟨W, hW⟩ : ∃ W, W = (w.alloc (.cells s.vals 38)).alloc (.cells #[.int .i64 c, .bool ro] 49) := ⟨_, rfl⟩
  have X := Lib.hid (show Bx w W B s by rw [hW]; exact (Bx.new h hB).next ((Gr.refl _).alloc _))
  have hb2 : W.heap[w.heap.size + 1]? = some (.cells #[.int .i64 c, .bool ro] 49 (0, 0)) := by
    rw [hW]; have := heap_alloc_new (w.alloc (.cells s.vals 38)) (.cells #[.int .i64 c, .bool ro] 49); simpa using this
  have HB2 := Lib.hid hb2
  have HL2 := Lib.hid (show w.heap.size + 1 < W.heap.size from (Array.getElem?_eq_some_iff.1 hb2).1)
  have HW := Lib.hid hW.symm
  obtain ⟨q0, q1, q2⟩ := X.out.cells
  have q3 : W.cell? ⟨w.heap.size + 1, 0, none⟩ = some (.int .i64 c) := block_cell HB2.out rfl
  have q4 : W.cell? ⟨w.heap.size + 1, 1, none⟩ = some (.bool ro) := block_cell HB2.out rfl
  have VP := Lib.hid (visit_any s B c ro W (h.gr hB X.out.g) (Nat.le_trans hB X.out.g.size) hp hnl)
  have SR := Lib.hid (fun V (hV : Below W.heap.size W V) => (⟨(h.gr hB X.out.g).below (hV.mono (Nat.le_trans hB X.out.g.size)), Nat.le_trans (Nat.le_trans hB X.out.g.size) hV.size⟩ : SRd V B s ∧ B ≤ V.heap.size))
  have CF := Lib.hid (fun V (hV : Below W.heap.size W V) => (⟨(hV.cell (p := ⟨w.heap.size, 0, none⟩) X.out.lt).trans X.out.cells.1, (hV.cell (p := ⟨w.heap.size, 1, none⟩) X.out.lt).trans X.out.cells.2.1, (hV.cell (p := ⟨w.heap.size, 2, none⟩) X.out.lt).trans X.out.cells.2.2⟩ : V.cell? ⟨w.heap.size, 0, none⟩ = some (.slice s.nA s.ns.length s.nc) ∧ V.cell? ⟨w.heap.size, 1, none⟩ = some (.slice s.cA s.cs.length s.cc) ∧ V.cell? ⟨w.heap.size, 2, none⟩ = some (.int .i64 s.gen)))
  have CN := Lib.hid (fun V (hV : Below W.heap.size W V) r => nodeAt_any s B r V (SR.out V hV).1 (SR.out V hV).2)
  unfold Sd.vals at HW VP CN ⊢
  clear h hB hW hb2 hp
  unfold VisitP at VP
  cases hv : visV s c with
  | none =>
    have HV := Lib.hid hv
    rw [hv] at VP
    clear hv
    go_enter Try.func12, Try.ntmps12
    go_upto_region 1 with (fail)
    rw [HW.out]
    go_wp2_with (go_at_call 28; refine VP.out.mono ?_; rintro e V ⟨rfl, hg⟩; have G1 := Lib.hid hg; clear hg)
    exact bodyPost_ret (v := .tuple #[.slice none 0 0, .int .i64 1]) (by simp [results, Try.results12, go_sem]) rfl (ContP.none_ HV.out ⟨rfl, X.out.g.b.trans (G1.out.mono X.out.g.size)⟩)
  | some l =>
    have HV := Lib.hid hv
    rw [hv] at VP
    clear hv
    have hl0 : (0 : Int) ≤ (l.length : Int) := by omega
    go_enter Try.func12, Try.ntmps12
    go_upto_region 1 with (fail)
    rw [HW.out]
    go_upto_region 6 with (go_at_call 28; refine VP.out.mono ?_; rintro e V ⟨A, cp, rfl, hg, ho, hll⟩; have G1 := Lib.hid hg; have O1 := Lib.hid ho; have LL := Lib.hid hll; clear hg ho hll)
    have WV := Lib.hid (show w.heap.size ≤ V.heap.size from Nat.le_trans X.out.g.size G1.out.size)
    have BW := Lib.hid (show Below w.heap.size w V from X.out.g.b.trans (G1.out.mono X.out.g.size))
    have RD := Lib.hid (show RdR V V.heap.size A l by
      obtain ⟨A', c', e, hr, _⟩ := O1.out.open2
      injection e with e1 e2 e3
      rw [e1]; exact hr)
    have BD := Lib.hid (fun k => (contV_le (SR.out V G1.out).1 (l.take k)))
    have BP := Lib.hid (fun r => (ownPs_le (SR.out V G1.out).1 r))
    have PA := Lib.hid (fun (V4 : World) (g : Below W.heap.size W V4) z => (nodeV_rd (SR.out V4 g).1 z))
    go_loopg [8, 22] l.length (fun kx s8 s22 wr => ∃ (k : Nat) (A8 : Option Addr) (c8 : Nat), s22 = .int .i64 k ∧ s8 = .slice A8 (contV s (l.take k)).length c8 ∧ k ≤ l.length ∧ l.length - k ≤ kx ∧ Aside (Own wr V.heap.size (.slice A8 (contV s (l.take k)).length c8) (contV s (l.take k))) ∧ Aside (Below V.heap.size V wr))
    case atStart => exact ⟨0, none, 0, rfl, rfl, Nat.zero_le _, by omega, (show Own V V.heap.size _ _ from Own.nil_ _ _), (show Below V.heap.size V V from Below.refl _ _)⟩
    case round =>
      obtain ⟨k, A8, c8, rfl, rfl, hk, hkx, O, B⟩ := hrel
      have BWr := Lib.hid (G1.out.trans (B.out.mono G1.out.size))
      obtain ⟨r0, r1, r2⟩ := CF.out wr BWr.out
      by_cases hlt : k < l.length
      · have hltz : (k : Int) < (l.length : Int) := by omega
        have hk0 : (0 : Int) ≤ (k : Int) := by omega
        have j1 : IntKind.i64.wrap ((k : Int) + 1) = (k : Int) + 1 := by have := LL.out; rw [IntKind.wrap_i64]; omega
        obtain ⟨ad, z, eA, hb, hz, hc0⟩ := RD.out.at_ hlt
        have hc := (B.out.cell (p := ad.add k) (by rw [block_add]; exact hb)).trans hc0
        have EA := Lib.hid eA
        have C1 := Lib.hid (CN.out wr BWr.out z)
        have TK := Lib.hid (show contV s (l.take (k + 1)) = contV s (l.take k) ++ ownPs (nodeV s z) by rw [List.take_add_one, hz]; exact contV_snoc _ _ _)
        have BO := Lib.hid (show (contV s (l.take k)).length ≤ 900900000 by have h1 := BD.out k; have h2 := List.length_take_le k l; have := LL.out; have h3 : 1000 * (l.take k).length ≤ 1000 * 900900 := Nat.mul_le_mul_left _ (by omega); omega)
        have BZ := Lib.hid (BP.out z)
        have PZ := Lib.hid (fun (V4 : World) (g : Gr wr V4) => pairsOf_any (nodeV s z) V4 ((PA.out V4 (BWr.out.trans (g.b.mono BWr.out.size)) z).1.more (SR.out V4 (BWr.out.trans (g.b.mono BWr.out.size))).2) (PA.out V4 (BWr.out.trans (g.b.mono BWr.out.size)) z).2.2)
        generalize nodeV s z = n at C1 TK BZ PZ
        obtain ⟨ps, hps⟩ : ∃ ps, ps = ownPs n := ⟨_, rfl⟩
        have PQ := Lib.hid (show ∀ V4, Gr wr V4 → Calls Try.prog 29 #[.agg n.cs] V4 fun e w' => ∃ A c, e = .returned (.slice A ps.length c) ∧ (A = none → c = 0) ∧ Rd w' w'.heap.size A ps ∧ Gr V4 w' from fun V4 g => by rw [hps]; exact PZ.out V4 g)
        rw [← hps] at TK BZ
        clear hps hz hc0 hb PZ
        generalize contV s (l.take k) = ys at O TK BO
        rw [EA.out]
        clear eA
        go_wp2_with (first
          | (at_builtin; refine wpList_append_listB rfl (.tmp 26) (.tmp 30) rfl V.heap.size _ ys rfl O4.out A6 ps.length c6 V4.heap.size ps rfl rfl Q4.out.2 Q4.out.1 (by have := BO.out; have := BZ.out; omega) B4.out B4.out.size ?_; intro v5 V5 O5 B5; obtain ⟨A9, c9, rfl, _⟩ := O5.out.open2; have B5' := Lib.hid B5; clear B5)
          | (go_at_call 29; refine (PQ.out _ G3.out).mono ?_; rintro e V4 ⟨A6, c6, rfl, ha, hrd, hg⟩; have G4 := Lib.hid (G3.out.trans hg); have Q4 := Lib.hid (⟨ha, hrd⟩ : _ ∧ _); have B4 := Lib.hid (show Below V.heap.size V V4 from B.out.trans (G4.out.b.mono B.out.size)); have O4 := Lib.hid (show Own V4 V.heap.size (.slice A8 ys.length c8) ys from O.out.keepFrom (fun k _ hk => G4.out.b.block k hk)); clear ha hrd hg)
          | (go_at_call 30; refine C1.out.mono ?_; rintro e V3 ⟨rfl, hg⟩; have G3 := Lib.hid hg; clear hg))
        rw [← EA.out]
        go_roundg (l.length - (k + 1))
        case measure => omega
        case rel =>
          refine ⟨k + 1, A9, c9, by go_num, by rw [TK.out, List.length_append], by omega, Nat.le_refl _, (show Own V5 V.heap.size _ (contV s (l.take (k + 1))) from by rw [TK.out]; exact O5.out), (show Below V.heap.size V V5 from B5'.out)⟩
      · obtain rfl : k = l.length := by omega
        have ET := Lib.hid (show l.take l.length = l from List.take_length)
        rw [ET.out] at O ⊢
        go_wp2
        exact bodyPost_ret (v := .tuple #[.slice A8 (contV s l).length c8, .int .i64 0]) (by simp [results, Try.results12, go_sem]) rfl (ContP.some_ HV.out ⟨A8, c8, rfl, BW.out.trans (B.out.mono WV.out), O.out.mono WV.out⟩)
end

/-- The I-nodes of a row of nodes. -/
def innV (s : Sd) (l : List Int) : List Int := l.filter fun r => decide ((nodeV s r).kind = 2)
theorem innV_snoc (s : Sd) (l : List Int) (r : Int) : innV s (l ++ [r]) = innV s l ++ (if (nodeV s r).kind = 2 then [r] else []) := by
  simp only [innV, List.filter_append]
  congr 1
  by_cases h : (nodeV s r).kind = 2 <;> simp [h]
/-- What Inner hands back. -/
def InnP (s : Sd) (c : Int) (w : World) (e : Ending) (w' : World) : Prop :=
  match visV s c with
  | none => e = .returned (.tuple #[.slice none 0 0, .int .i64 1]) ∧ Below w.heap.size w w'
  | some l => ∃ A cp, e = .returned (.tuple #[.slice A (innV s l).length cp, .int .i64 0]) ∧ Below w.heap.size w w' ∧ OwnR w' w.heap.size (.slice A (innV s l).length cp) (innV s l)
theorem InnP.none_ {s : Sd} {c : Int} {w w' : World} {e : Ending} (hv : visV s c = none) (h : e = .returned (.tuple #[.slice none 0 0, .int .i64 1]) ∧ Below w.heap.size w w') : InnP s c w e w' := by
  unfold InnP; rw [hv]; exact h
theorem InnP.some_ {s : Sd} {c : Int} {l : List Int} {w w' : World} {e : Ending} (hv : visV s c = some l) (h : ∃ A cp, e = .returned (.tuple #[.slice A (innV s l).length cp, .int .i64 0]) ∧ Below w.heap.size w w' ∧ OwnR w' w.heap.size (.slice A (innV s l).length cp) (innV s l)) : InnP s c w e w' := by
  unfold InnP; rw [hv]; exact h
theorem rdR_row1 (V : World) (b : Int) : RdR (V.alloc (.cells #[.int .i64 b] 29)) (V.heap.size + 1) (some ⟨V.heap.size, 0, none⟩) [b] := fun _ => ⟨_, rfl, Nat.lt_succ_self _, fun j u hj => by
  rw [Addr.add_lit, Nat.zero_add]
  exact (cell_of_row (V.alloc (.cells #[.int .i64 b] 29)) V.heap.size j #[.int .i64 b] 29 (0, 0) (heap_alloc_new V _)).trans (by simpa [flatR] using hj)⟩
section
attribute [local go_sem ↓] exec_load28 exec_store44
attribute [local go_sem] cs_field0
set_option maxHeartbeats 8000000 in
theorem vinner_any (s : Sd) (B : Nat) (c : Int) (ro : Bool) (w : World) (h : SRd w B s) (hB : B ≤ w.heap.size) (hp : properB s = true) (hnl : s.ns.length ≤ 900) :
    Calls Try.prog 14 #[.agg s.vals, .agg #[.int .i64 c, .bool ro]] w (InnP s c w) := by
  obtain ⟨W, hW⟩ : ∃ W, W = (w.alloc (.cells s.vals 38)).alloc (.cells #[.int .i64 c, .bool ro] 49) := ⟨_, rfl⟩
  have X := Lib.hid (show Bx w W B s by rw [hW]; exact (Bx.new h hB).next ((Gr.refl _).alloc _))
  have hb2 : W.heap[w.heap.size + 1]? = some (.cells #[.int .i64 c, .bool ro] 49 (0, 0)) := by
    rw [hW]; have := heap_alloc_new (w.alloc (.cells s.vals 38)) (.cells #[.int .i64 c, .bool ro] 49); simpa using this
  have HB2 := Lib.hid hb2
  have HL2 := Lib.hid (show w.heap.size + 1 < W.heap.size from (Array.getElem?_eq_some_iff.1 hb2).1)
  have HW := Lib.hid hW.symm
  obtain ⟨q0, q1, q2⟩ := X.out.cells
  have q3 : W.cell? ⟨w.heap.size + 1, 0, none⟩ = some (.int .i64 c) := block_cell HB2.out rfl
  have q4 : W.cell? ⟨w.heap.size + 1, 1, none⟩ = some (.bool ro) := block_cell HB2.out rfl
  have VP := Lib.hid (visit_any s B c ro W (h.gr hB X.out.g) (Nat.le_trans hB X.out.g.size) hp hnl)
  have SR := Lib.hid (fun V (hV : Below W.heap.size W V) => (⟨(h.gr hB X.out.g).below (hV.mono (Nat.le_trans hB X.out.g.size)), Nat.le_trans (Nat.le_trans hB X.out.g.size) hV.size⟩ : SRd V B s ∧ B ≤ V.heap.size))
  have CF := Lib.hid (fun V (hV : Below W.heap.size W V) => (⟨(hV.cell (p := ⟨w.heap.size, 0, none⟩) X.out.lt).trans X.out.cells.1, (hV.cell (p := ⟨w.heap.size, 1, none⟩) X.out.lt).trans X.out.cells.2.1, (hV.cell (p := ⟨w.heap.size, 2, none⟩) X.out.lt).trans X.out.cells.2.2⟩ : V.cell? ⟨w.heap.size, 0, none⟩ = some (.slice s.nA s.ns.length s.nc) ∧ V.cell? ⟨w.heap.size, 1, none⟩ = some (.slice s.cA s.cs.length s.cc) ∧ V.cell? ⟨w.heap.size, 2, none⟩ = some (.int .i64 s.gen)))
  have CN := Lib.hid (fun V (hV : Below W.heap.size W V) r => nodeAt_any s B r V (SR.out V hV).1 (SR.out V hV).2)
  unfold Sd.vals at HW VP CN ⊢
  clear h hB hW hb2 hp
  unfold VisitP at VP
  cases hv : visV s c with
  | none =>
    have HV := Lib.hid hv
    rw [hv] at VP
    clear hv
    go_enter Try.func14, Try.ntmps14
    go_upto_region 1 with (fail)
    rw [HW.out]
    go_wp2_with (go_at_call 28; refine VP.out.mono ?_; rintro e V ⟨rfl, hg⟩; have G1 := Lib.hid hg; clear hg)
    exact bodyPost_ret (v := .tuple #[.slice none 0 0, .int .i64 1]) (by simp [results, Try.results14, go_sem]) rfl (InnP.none_ HV.out ⟨rfl, X.out.g.b.trans (G1.out.mono X.out.g.size)⟩)
  | some l =>
    have HV := Lib.hid hv
    rw [hv] at VP
    clear hv
    have hl0 : (0 : Int) ≤ (l.length : Int) := by omega
    go_enter Try.func14, Try.ntmps14
    go_upto_region 1 with (fail)
    rw [HW.out]
    go_upto_region 6 with (go_at_call 28; refine VP.out.mono ?_; rintro e V ⟨A, cp, rfl, hg, ho, hll⟩; have G1 := Lib.hid hg; have O1 := Lib.hid ho; have LL := Lib.hid hll; clear hg ho hll)
    have WV := Lib.hid (show w.heap.size ≤ V.heap.size from Nat.le_trans X.out.g.size G1.out.size)
    have BW := Lib.hid (show Below w.heap.size w V from X.out.g.b.trans (G1.out.mono X.out.g.size))
    have RD := Lib.hid (show RdR V V.heap.size A l by
      obtain ⟨A', c', e, hr, _⟩ := O1.out.open2
      injection e with e1 e2 e3
      rw [e1]; exact hr)
    go_loopg [8, 22] l.length (fun kx s8 s22 wr => ∃ (k : Nat) (A8 : Option Addr) (c8 : Nat), s22 = .int .i64 k ∧ s8 = .slice A8 (innV s (l.take k)).length c8 ∧ k ≤ l.length ∧ l.length - k ≤ kx ∧ Aside (OwnR wr V.heap.size (.slice A8 (innV s (l.take k)).length c8) (innV s (l.take k))) ∧ Aside (Below V.heap.size V wr))
    case atStart => exact ⟨0, none, 0, rfl, rfl, Nat.zero_le _, by omega, (show OwnR V V.heap.size _ _ from OwnR.nil_ _ _), (show Below V.heap.size V V from Below.refl _ _)⟩
    case round =>
      obtain ⟨k, A8, c8, rfl, rfl, hk, hkx, O, B⟩ := hrel
      have BWr := Lib.hid (G1.out.trans (B.out.mono G1.out.size))
      obtain ⟨r0, r1, r2⟩ := CF.out wr BWr.out
      by_cases hlt : k < l.length
      · have hltz : (k : Int) < (l.length : Int) := by omega
        have hk0 : (0 : Int) ≤ (k : Int) := by omega
        have j1 : IntKind.i64.wrap ((k : Int) + 1) = (k : Int) + 1 := by have := LL.out; rw [IntKind.wrap_i64]; omega
        obtain ⟨ad, z, eA, hb, hz, hc0⟩ := RD.out.at_ hlt
        have hc := (B.out.cell (p := ad.add k) (by rw [block_add]; exact hb)).trans hc0
        have EA := Lib.hid eA
        have C1 := Lib.hid (CN.out wr BWr.out z)
        have TK := Lib.hid (show innV s (l.take (k + 1)) = innV s (l.take k) ++ (if (nodeV s z).kind = 2 then [z] else []) by rw [List.take_add_one, hz]; exact innV_snoc _ _ _)
        have BO := Lib.hid (show (innV s (l.take k)).length ≤ 900900 by have h1 := List.length_filter_le (fun r => decide ((nodeV s r).kind = 2)) (l.take k); have h2 := List.length_take_le k l; have := LL.out; unfold innV; omega)
        generalize nodeV s z = n at C1 TK
        clear hz hc0 hb
        generalize innV s (l.take k) = ys at O TK BO
        rw [EA.out]
        clear eA
        by_cases k2 : n.kind = 2
        · rw [if_pos k2] at TK
          have t2 : (n.kind == 2) = true := beq_iff_eq.2 k2
          clear k2
          go_wp2_with (first
            | (at_builtin; refine wpList_append_refs rfl (.tmp 31) (.tmp 33) rfl V.heap.size _ ys rfl (OwnR.alloc O3.out _) (some ⟨V3.heap.size, 0, none⟩) 1 1 (V3.heap.size + 1) [z] rfl rfl (rdR_row1 V3 z) (fun e => by cases e) (by have := BO.out; simp only [List.length_cons, List.length_nil]; omega) (B3.out.alloc B3.out.size _) (Nat.le_trans B3.out.size (by simp)) ?_; intro v5 V5 O5 B5; obtain ⟨A9, c9, rfl, _⟩ := O5.out.open2; have B5' := Lib.hid B5; clear B5)
            | (go_at_call 30; refine C1.out.mono ?_; rintro e V3 ⟨rfl, hg⟩; have B3 := Lib.hid (show Below V.heap.size V V3 from B.out.trans (hg.b.mono B.out.size)); have O3 := Lib.hid (show OwnR V3 V.heap.size (.slice A8 ys.length c8) ys from OwnR.keepAt O.out fun k _ hk => hg.b.block k hk); clear hg))
          rw [← EA.out]
          go_roundg (l.length - (k + 1))
          case measure => omega
          case rel =>
            refine ⟨k + 1, A9, c9, by go_num, by rw [TK.out]; simp, by omega, Nat.le_refl _, (show OwnR V5 V.heap.size _ (innV s (l.take (k + 1))) from by rw [TK.out]; exact O5.out), (show Below V.heap.size V V5 from B5'.out)⟩
        · rw [if_neg k2, List.append_nil] at TK
          have t2 : (n.kind == 2) = false := beq_eq_false_iff_ne.2 k2
          clear k2
          go_wp2_with (go_at_call 30; refine C1.out.mono ?_; rintro e V3 ⟨rfl, hg⟩; have B3 := Lib.hid (show Below V.heap.size V V3 from B.out.trans (hg.b.mono B.out.size)); have O3 := Lib.hid (show OwnR V3 V.heap.size (.slice A8 ys.length c8) ys from OwnR.keepAt O.out fun k _ hk => hg.b.block k hk); clear hg)
          rw [← EA.out]
          go_roundg (l.length - (k + 1))
          case measure => omega
          case rel =>
            refine ⟨k + 1, A8, c8, by go_num, by rw [TK.out], by omega, Nat.le_refl _, (show OwnR V3 V.heap.size _ (innV s (l.take (k + 1))) from by rw [TK.out]; exact O3.out), (show Below V.heap.size V V3 from B3.out)⟩
      · obtain rfl : k = l.length := by omega
        have ET := Lib.hid (show l.take l.length = l from List.take_length)
        rw [ET.out] at O ⊢
        go_wp2
        exact bodyPost_ret (v := .tuple #[.slice A8 (innV s l).length c8, .int .i64 0]) (by simp [results, Try.results14, go_sem]) rfl (InnP.some_ HV.out ⟨A8, c8, rfl, BW.out.trans (B.out.mono WV.out), O.out.mono WV.out⟩)
end
end Go.Proofs.Ytbknbjabkhhlfaa
