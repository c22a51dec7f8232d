/-
  mainNode; the walk of Build.
-/
import Derived.Test.YtbknbjabkhhlfaaDuF
import Derived.Handy
set_option linter.unusedVariables false
set_option maxRecDepth 100000
namespace Go.Proofs.Ytbknbjabkhhlfaa
open Go.Shelf Go.RowKit Go.Lib Go.Sort

theorem mainNode_any (base q : Nat) (s : Sd) (acc : Int) (D : Du) (o b : Nd) (gen : Int) (hl : s.ns.length < 900) (hc : s.cs.length < 900) (hC : IsCom D.H D.K D.c) (hb : singN D.K D.key D.val = b) (hH : D.H = o.hash) (hG : D.gen = gen)
    (hps : D.ps = ofL [(o.key, o.val), (D.key, D.val)]) (hU : U64 o.hash) (hK : U64 D.K) (hx : 1 ≤ D.x) : ∀ (m level : Nat) (w : World), D.c = level + m → Ob w base 69 q s acc →
    Calls Try.prog 25 #[.iface 41 (.pointer (some ⟨q, 0, none⟩)), .agg (cpV D.x o b), .int .i64 level, .int .i64 gen] w (RunP 69 base q s acc (dualL D ((s.ns.length : Int) + 1) m) w)
  | 0, level, w, hD, h => by
    by_cases h11 : level = 11
    · subst h11
      exact main_last base q s acc D o b gen w h hl hc (by omega) (by rw [← hb]; rfl) (by rw [hps, ← hb]; rfl) (by rw [← hb]; exact hK)
    · have hlt : level < 11 := by have := hC.1; omega
      exact main_diff base q s acc D o b gen level w h hl hc (by omega) hlt hb hH hU hK (by have h2 := hC.2.2 (by omega); rw [show D.c = level by omega] at h2; exact h2) hx
  | m + 1, level, w, hD, h =>
    main_same base q s acc D o b gen level m w h hl hc hD (by have := hC.1; omega) hb hH hG hU hK (hC.2.1 level (by omega)) fun V hV => by
      have := mainNode_any base q s acc D o b gen hl hc hC hb hH hG hps hU hK hx m (level + 1) V (by omega) hV
      exact this
def storeCp (p v : Value) : Sem Unit := Instr.storeAt 75 p v
theorem exec_store65 (ρ : Operand → Value) (dst : Option Tmp) (x y : Operand) (ty : TypeId) (pos : String) (after : Array Edge) (guard : Option (Nat × Bool)) :
    execOp ρ { dst, op := .store 75 x y, type := ty, pos, after, guard } = (do storeCp (ρ x) (ρ y); pure .skip) := rfl
theorem cpSize : (Try.prog.info? 75).map (·.size) = some 29 := by kernel_rfl
theorem run_storeCp {V : World} {q : Nat} {old : Array Value} {t : TypeId} (x : Int) (o b : Nd) (hg : V.heap[q]? = some (.cells old t (0, 0))) (ho : old.size = 29) :
    Sem.run Try.prog (storeCp (.pointer (some ⟨q, 0, none⟩)) (.agg (cpV x o b))) V = .ok () (V.setRow q (cpV x o b)) := by
  have hi : (Try.prog.info? 75).map (·.size) = some (cpV x o b).size := cpSize
  simp only [storeCp, Instr.storeAt, Instr.sureAddr, Sem.run_bind, Sem.run_pure, Result.andThen]
  exact run_storeVar_row V q t 75 old (cpV x o b) hg hi ho (by simp [cpV, Value.oneCell'])
theorem run_storeCp_new (X : World) (x : Int) (o b : Nd) :
    Sem.run Try.prog (storeCp (.pointer (some ⟨X.heap.size, 0, none⟩)) (.agg (cpV x o b))) (X.alloc (.cells (cpV 0 Nd.zero Nd.zero) 75)) = .ok () (X.alloc (.cells (cpV x o b) 75)) := by
  rw [run_storeCp x o b (heap_alloc_new X _) rfl, World.setRow_alloc_new]
section
attribute [local go_sem] nil_alloc m_alloc m_node
attribute [local go_sem ↓] exec_load28 exec_store44 exec_load65 exec_store65
/-- What Build returns where it does not refuse. -/
def BuildP (base q : Nat) (s : Sd) (acc : Int) (l : List (Nd × Int)) (w : World) (e : Ending) (w' : World) : Prop :=
  ∃ t : Sd, e = .returned (.tuple #[.int .i64 ((s.ns.length : Int) + (l.length : Int)), .int .i64 0]) ∧ Rn 69 base q s acc l w w' t
set_option maxHeartbeats 8000000 in
theorem build_range (q : Nat) (x K : Int) (key : ByteArray) (val level gen : Int) (w : World) (hr : level < 0 ∨ 11 < level ∨ gen < 1) :
    Calls Try.prog 9 #[.iface 41 (.pointer (some ⟨q, 0, none⟩)), .int .i64 x, .int .u64 K, .string key, .int .u64 val, .int .i64 level, .int .i64 gen] w fun e w' => e = .returned (.tuple #[.int .i64 0, .int .i64 2]) ∧ w = w' := by
  by_cases h1 : level < 0
  · go_enter Try.func9, Try.ntmps9
    go_wp2
    exact bodyPost_ret (v := .tuple #[.int .i64 0, .int .i64 2]) (by simp [results, Try.results9]) rfl ⟨rfl, rfl⟩
  · by_cases h2 : 11 < level
    · have h3 : level > 11 := h2
      go_enter Try.func9, Try.ntmps9
      go_wp2
      exact bodyPost_ret (v := .tuple #[.int .i64 0, .int .i64 2]) (by simp [results, Try.results9]) rfl ⟨rfl, rfl⟩
    · have h3 : gen < 1 := by omega
      go_enter Try.func9, Try.ntmps9
      go_wp2
      exact bodyPost_ret (v := .tuple #[.int .i64 0, .int .i64 2]) (by simp [results, Try.results9]) rfl ⟨rfl, rfl⟩
theorem node_lit {base q : Nat} {s : Sd} {acc : Int} (x : Int) {w : World} (h : Ob w base 69 q s acc) : Calls Try.prog 114 #[.pointer (some ⟨q, 0, none⟩), .int .i64 x] w fun e w' => ∃ y : Nd, e = .returned (.agg #[.int .i64 y.kind, .int .i64 y.gen, .int .i64 y.main, .int .u64 y.bm, .slice y.bA y.bs.length y.bc, .int .u64 y.hash, .string y.key, .int .u64 y.val, .slice y.pA y.ps.length y.pc, .int .i64 y.prev, .int .i64 y.old, .int .i64 y.exp, .int .i64 y.new, .int .i64 y.status]) ∧ sameN (nodeV s x) y ∧ Below w.heap.size w w' := (node_get base q s acc x w h).mono fun e w' ⟨y, he, hs, _, hb⟩ => ⟨y, he, hs, hb⟩
theorem single_lit (K : Int) (key : ByteArray) (val : Int) (w : World) : Calls Try.prog 23 #[.int .u64 K, .string key, .int .u64 val] w fun e w' => e = .returned (.agg #[.int .i64 4, .int .i64 0, .int .i64 0, .int .u64 0, .slice none 0 0, .int .u64 K, .string key, .int .u64 val, .slice none 0 0, .int .i64 0, .int .i64 0, .int .i64 0, .int .i64 0, .int .i64 0]) ∧ Below w.heap.size w w' := (single_any K key val w).mono fun e w' ⟨he, hg⟩ => ⟨he, hg.b⟩
theorem store_lit (X : World) (x : Int) (y : Nd) (K : Int) (key : ByteArray) (val : Int) :
    Sem.run Try.prog (storeCp (.pointer (some ⟨X.heap.size, 0, none⟩)) (.agg #[.int .i64 x, .int .i64 y.kind, .int .i64 y.gen, .int .i64 y.main, .int .u64 y.bm, .slice y.bA y.bs.length y.bc, .int .u64 y.hash, .string y.key, .int .u64 y.val, .slice y.pA y.ps.length y.pc, .int .i64 y.prev, .int .i64 y.old, .int .i64 y.exp, .int .i64 y.new, .int .i64 y.status, .int .i64 4, .int .i64 0, .int .i64 0, .int .u64 0, .slice none 0 0, .int .u64 K, .string key, .int .u64 val, .slice none 0 0, .int .i64 0, .int .i64 0, .int .i64 0, .int .i64 0, .int .i64 0])) (X.alloc (.cells #[.int .i64 0, .int .i64 0, .int .i64 0, .int .i64 0, .int .u64 0, .slice none 0 0, .int .u64 0, .string ⟨#[]⟩, .int .u64 0, .slice none 0 0, .int .i64 0, .int .i64 0, .int .i64 0, .int .i64 0, .int .i64 0, .int .i64 0, .int .i64 0, .int .i64 0, .int .u64 0, .slice none 0 0, .int .u64 0, .string ⟨#[]⟩, .int .u64 0, .slice none 0 0, .int .i64 0, .int .i64 0, .int .i64 0, .int .i64 0, .int .i64 0] 75)) = .ok () (X.alloc (.cells (cpV x y (singN K key val)) 75)) := run_storeCp_new X x y (singN K key val)
theorem same_f {a y : Nd} (h : sameN a y) : y.kind = a.kind ∧ y.hash = a.hash ∧ y.key = a.key ∧ y.val = a.val := by
  obtain ⟨A, c, P, d, rfl⟩ := h
  exact ⟨rfl, rfl, rfl, rfl⟩
theorem meet_same {a y b : Nd} (h : sameN a y) {c level : Int} : Meet y b c level ↔ Meet a b c level := by
  obtain ⟨h1, h2, h3, h4⟩ := same_f h
  unfold Meet
  rw [h1, h3]
set_option maxHeartbeats 8000000 in
theorem build_bad (base q : Nat) (s : Sd) (acc x K : Int) (key : ByteArray) (val gen : Int) (level c : Nat) (w : World) (h : Ob w base 69 q s acc) (h1 : level ≤ 11) (h2 : 1 ≤ gen) (hK : U64 K)
    (hU : (nodeV s x).kind = 4 → U64 (nodeV s x).hash ∧ IsCom (nodeV s x).hash K c) (hM : ¬ Meet (nodeV s x) (singN K key val) c level) :
    Calls Try.prog 9 #[.iface 41 (.pointer (some ⟨q, 0, none⟩)), .int .i64 x, .int .u64 K, .string key, .int .u64 val, .int .i64 level, .int .i64 gen] w fun e w' => e = .returned (.tuple #[.int .i64 0, .int .i64 1]) ∧ Below w.heap.size w w' := by
  have mixed := mixedOrders
  have NG := Lib.hid (node_lit x h)
  have SG := Lib.hid (fun V => single_lit K key val V)
  have st := fun X y => store_lit X x y K key val
  have l1 : decide ((level : Int) < 0) = false := decide_eq_false (by omega)
  have l2 : decide ((11 : Int) < (level : Int)) = false := decide_eq_false (by omega)
  have l3 : decide (gen < 1) = false := decide_eq_false (by omega)
  have HM := Lib.hid hM
  have HU := Lib.hid hU
  have HK := Lib.hid hK
  clear hM hU hK h h1 h2
  go_enter Try.func9, Try.ntmps9
  go_upto_region 6 with (first
    | (go_at_call 114; refine NG.out.mono ?_; rintro e w2 ⟨y, rfl, hs, hb⟩; have S2 := Lib.hid hs; have B2 := Lib.hid hb; clear hs hb)
    | (go_at_call 23; refine (SG.out _).mono ?_; rintro e w3 ⟨rfl, hb⟩; have B3 := Lib.hid (below_of B2.out hb); clear hb))
  obtain ⟨V, hV⟩ : ∃ V, V = w3.alloc (.cells (cpV x y (singN K key val)) 75) := ⟨_, rfl⟩
  rw [← hV]
  have BV := Lib.hid (show Below w.heap.size w V by rw [hV]; exact below_of B3.out ((Below.refl _ w3).alloc (Nat.le_refl _) _))
  have lc : Sem.run Try.prog (loadCp (.pointer (some ⟨w3.heap.size, 0, none⟩))) V = .ok (.agg (cpV x y (singN K key val))) V := run_loadCp (by rw [hV]; exact heap_alloc_new w3 _)
  have ME := Lib.hid (meets_any x y (singN K key val) c level V HK.out (fun hk => by have hf := same_f S2.out; rw [hf.2.1]; exact HU.out (by rw [← hf.1]; exact hk)))
  clear hV st
  go_wp2_with (go_at_call 24; refine ME.out.mono ?_; rintro e w4 ⟨_, hn, hb⟩; obtain rfl := hn (fun hm => HM.out ((meet_same S2.out).1 hm)); have B4 := Lib.hid (below_of BV.out hb); clear hn hb)
  exact bodyPost_ret (v := .tuple #[.int .i64 0, .int .i64 1]) (by simp [results, Try.results9]) rfl ⟨rfl, B4.out⟩
theorem nodeV_pos {s : Sd} {x : Int} (h : (nodeV s x).kind = 4) : 1 ≤ x := by
  unfold nodeV at h
  split at h
  · omega
  · exact absurd h (by decide)
/-- What the procedure is about, at a call of Build. -/
noncomputable def duOf (n : Nd) (x K : Int) (key : ByteArray) (val gen : Int) (c : Nat) : Du := ⟨n.hash, x, K, key, val, gen, c, ofL [(n.key, n.val), (key, val)]⟩
set_option maxHeartbeats 8000000 in
theorem build_ok (base q : Nat) (s : Sd) (acc x K : Int) (key : ByteArray) (val gen : Int) (level c : Nat) (w : World) (h : Ob w base 69 q s acc) (h1 : level ≤ 11) (h2 : 1 ≤ gen) (hK : U64 K) (hl : s.ns.length < 900) (hcl : s.cs.length < 900)
    (hU : (nodeV s x).kind = 4 → U64 (nodeV s x).hash ∧ IsCom (nodeV s x).hash K c) (hM : Meet (nodeV s x) (singN K key val) c level) :
    Calls Try.prog 9 #[.iface 41 (.pointer (some ⟨q, 0, none⟩)), .int .i64 x, .int .u64 K, .string key, .int .u64 val, .int .i64 level, .int .i64 gen] w (BuildP base q s acc (dualL (duOf (nodeV s x) x K key val gen c) ((s.ns.length : Int) + 1) (c - level)) w) := by
  have mixed := mixedOrders
  have NG := Lib.hid (node_lit x h)
  have SG := Lib.hid (fun V => single_lit K key val V)
  have st := fun X y => store_lit X x y K key val
  have l1 : decide ((level : Int) < 0) = false := decide_eq_false (by omega)
  have l2 : decide ((11 : Int) < (level : Int)) = false := decide_eq_false (by omega)
  have l3 : decide (gen < 1) = false := decide_eq_false (by omega)
  have HM := Lib.hid hM
  have HU := Lib.hid (hU hM.1)
  have HK := Lib.hid hK
  have HX := Lib.hid (nodeV_pos hM.1)
  have HLV := Lib.hid (show c = level + (c - level) by have := hM.2.2.2; omega)
  have H := Lib.hid h
  have HLC := Lib.hid (⟨hl, hcl⟩ : _ ∧ _)
  clear hM hU hK h h1 h2 hl hcl
  go_enter Try.func9, Try.ntmps9
  go_upto_region 6 with (first
    | (go_at_call 114; refine NG.out.mono ?_; rintro e w2 ⟨y, rfl, hs, hb⟩; have S2 := Lib.hid hs; have B2 := Lib.hid hb; clear hs hb)
    | (go_at_call 23; refine (SG.out _).mono ?_; rintro e w3 ⟨rfl, hb⟩; have B3 := Lib.hid (below_of B2.out hb); clear hb))
  obtain ⟨V, hV⟩ : ∃ V, V = w3.alloc (.cells (cpV x y (singN K key val)) 75) := ⟨_, rfl⟩
  rw [← hV]
  have BV := Lib.hid (show Below w.heap.size w V by rw [hV]; exact below_of B3.out ((Below.refl _ w3).alloc (Nat.le_refl _) _))
  have HV := Lib.hid (show V.heap[w3.heap.size]? = some (.cells (cpV x y (singN K key val)) 75 (0, 0)) by rw [hV]; exact heap_alloc_new w3 _)
  have lc := run_loadCp HV.out
  have SF := Lib.hid (same_f S2.out)
  have ME := Lib.hid (meets_any x y (singN K key val) c level V HK.out (fun hk => by rw [SF.out.2.1]; exact HU.out))
  have MN := Lib.hid (fun (U : World) (hU : Below V.heap.size V U) => mainNode_any base q s acc (duOf (nodeV s x) x K key val gen c) y (singN K key val) gen HLC.out.1 HLC.out.2 HU.out.2 rfl SF.out.2.1.symm rfl (by rw [SF.out.2.2.1, SF.out.2.2.2]; rfl) (by rw [SF.out.2.1]; exact HU.out.1) HK.out HX.out (c - level) level U HLV.out (H.out.up (below_of BV.out hU)))
  clear hV st
  go_wp2_with (first
    | (go_at_call 24; refine ME.out.mono ?_; rintro e w4 ⟨hy, _, hb⟩; obtain rfl := hy ((meet_same S2.out).2 HM.out); have B4 := Lib.hid hb; have lc4 := run_loadCp ((hb.block _ (Array.getElem?_eq_some_iff.1 HV.out).1).trans HV.out); have M4 := Lib.hid (MN.out w4 hb); clear hy hb)
    | (go_at_call 25; refine M4.out.mono ?_; rintro e w5 ⟨t, rfl, hR⟩; have R5 := Lib.hid (hR.lift (w := w) (below_of BV.out B4.out)); clear hR))
  exact bodyPost_ret (v := .tuple #[.int .i64 _, .int .i64 0]) (by simp [results, Try.results9]) rfl ⟨t, rfl, R5.out⟩
end
end Go.Proofs.Ytbknbjabkhhlfaa
