/-
  The walk of mainNode.
-/
import Derived.Test.YtbknbjabkhhlfaaDuC
import Derived.Test.YtbknbjabkhhlfaaDuN
import Derived.Handy
set_option linter.unusedVariables false
set_option maxRecDepth 100000
namespace Go.Proofs.Ytbknbjabkhhlfaa
open Go.Shelf Go.RowKit Go.Lib Go.Sort

/-- What allocations leave of an arena. -/
structure Rn (T : TypeId) (base q : Nat) (s : Sd) (acc : Int) (l : List (Nd × Int)) (w wr : World) (t : Sd) : Prop where
  rans : Rans w.heap.size s t l
  ob : Ob wr base T q t acc
  fr : Fr (Mu q s) w wr
  mu : ∀ k, Mu q t k → Mu q s k ∨ w.heap.size ≤ k
section
variable {T : TypeId} {base q : Nat} {s t u : Sd} {acc : Int} {l : List (Nd × Int)} {w wr w2 : World} {n n0 : Nd} {v : Int}
theorem Rn.start (h : Ob w base T q s acc) : Rn T base q s acc [] w w s := ⟨Rans.refl _ _, h, Fr.refl _ _, fun k hk => .inl hk⟩
theorem Rn.below (h : Rn T base q s acc l w wr t) (hb : Below wr.heap.size wr w2) : Rn T base q s acc l w w2 t :=
  ⟨h.rans, h.ob.up hb, h.fr.trans (Fr.of_below (M := fun _ => False) hb) (fun _ hm => hm.elim), h.mu⟩
theorem Rn.alloc (h : Rn T base q s acc l w wr t) (A : Alloced wr.heap.size t u n v) (ho : Ob w2 base T q u acc) (hf : Fr (Mu q t) wr w2) (hm : ∀ k, Mu q u k → Mu q t k ∨ wr.heap.size ≤ k) (hn : sameN n0 n) : Rn T base q s acc (l ++ [(n0, v)]) w w2 u :=
  ⟨h.rans.snoc A h.fr.size hn, ho, h.fr.trans hf h.mu, fun k hk => (hm k hk).elim (fun hk => h.mu k hk) fun hk => .inr (Nat.le_trans h.fr.size hk)⟩
theorem Rn.len (h : Rn T base q s acc l w wr t) : t.ns.length = s.ns.length + l.length := h.rans.len
theorem Rn.clen (h : Rn T base q s acc l w wr t) : t.cs.length ≤ s.cs.length + l.length := h.rans.clen
end
def RunP (T : TypeId) (base q : Nat) (s : Sd) (acc : Int) (l : List (Nd × Int)) (w : World) (e : Ending) (w' : World) : Prop :=
  ∃ t : Sd, e = .returned (.int .i64 ((s.ns.length : Int) + (l.length : Int))) ∧ Rn T base q s acc l w w' t
/-- A node that a call has made. -/
def NewN (n0 : Nd) (w : World) (e : Ending) (w' : World) : Prop := ∃ n : Nd, e = .returned (.agg n.cs) ∧ sameN n0 n ∧ GN w' n ∧ FRs w.heap.size n ∧ Below w.heap.size w w'
theorem gn_fixed {w : World} {n : Nd} (hb : U64 n.bm) (h1 : n.bs = []) (h2 : n.ps = []) (h3 : n.bc = 0) (h4 : n.pc = 0) : GN w n :=
  ⟨⟨by rw [h1]; exact RdR.nil, by rw [h2]; exact Rd.nil, hb, by rw [h1]; exact Nat.zero_le _, by rw [h2]; exact Nat.zero_le _⟩, fun _ => h3, fun _ => h4, by rw [h1]; exact Nat.zero_le _, by rw [h2]; exact Nat.zero_le _⟩
theorem inner_n (g : Int) (w : World) : Calls Try.prog 45 #[.int .i64 g] w (NewN (innN g) w) :=
  (inner_any g w).mono fun e w' ⟨he, hg⟩ => ⟨innN g, he, sameN.refl _, gn_fixed u0 rfl rfl rfl rfl, frs_none rfl rfl, hg.b⟩
theorem single_n (h : Int) (k : ByteArray) (v : Int) (w : World) : Calls Try.prog 23 #[.int .u64 h, .string k, .int .u64 v] w (NewN (singN h k v) w) :=
  (single_any h k v w).mono fun e w' ⟨he, hg⟩ => ⟨singN h k v, he, sameN.refl _, gn_fixed u0 rfl rfl rfl rfl, frs_none rfl rfl, hg.b⟩
theorem empty_n (w : World) : Calls Try.prog 44 #[] w (NewN (cndN 0 []) w) :=
  (empty_any w).mono fun e w' ⟨he, hg⟩ => ⟨cndN 0 [], he, sameN.refl _, gn_fixed u0 rfl rfl rfl rfl, frs_none rfl rfl, hg.b⟩
theorem coll_n (x : Int) (o b : Nd) (w : World) : Calls Try.prog 41 #[.agg (cpV x o b)] w (NewN (listN b.hash (ofL [(o.key, o.val), (b.key, b.val)])) w) :=
  (coll_any x o b w).mono fun e w' ⟨A, c, he, ho, hl, hb⟩ => by
    obtain ⟨A', c', ex, hr, ha, hc⟩ := ho.open2
    injection ex with e1 e2 e3
    subst e1 e3
    refine ⟨_, he, ⟨none, 0, A, c, rfl⟩, ⟨⟨RdR.nil, hr, u0, Nat.zero_le _, Nat.le_trans hl (by omega)⟩, fun _ => rfl, ha, Nat.zero_le _, hc⟩, ⟨(fun ad e => by cases e), fun ad e => ?_⟩, hb⟩
    rcases ho.2 with ⟨hv, _⟩ | ⟨g, cap, cur, hv, hbb, _⟩
    · injection hv with e1; rw [show A = some ad from e] at e1; cases e1
    · injection hv with e1; rw [show A = some ad from e] at e1; injection e1 with e1; subst e1; exact hbb
theorem with_n (n : Nd) (i r : Int) (w : World) (h : GN w n) (hok : insOk n i r = true) : Calls Try.prog 43 #[.agg n.cs, .int .i64 i, .int .i64 r] w (NewN (cndN (withI n.bm i) (insL n.bm n.bs i r)) w) :=
  (with_c n i r w h hok).mono fun e w' ⟨A, c, he, hg, hf, hb⟩ => ⟨_, he, ⟨A, c, none, 0, rfl⟩, hg, ⟨hf, fun ad e => by cases e⟩, hb⟩
/-- Alloc of an arena, of a node that was made. -/
theorem alloc_n {base q : Nat} {s : Sd} {acc : Int} {w : World} (h : Ob w base 69 q s acc) {n : Nd} (hn : GN w n) (v : Int) (hl : s.ns.length < 1000) (hc : s.cs.length < 1000) :
    Calls Try.prog 11 #[.pointer (some ⟨q, 0, none⟩), .agg n.cs, .int .i64 v] w (AllocP 69 base q s acc n v w) :=
  aalloc_any base q s acc n v w h hn.rd hn.ba hn.pa hl hc
theorem nil_alloc (a : Addr) (w : World) : Sem.run Try.prog (nilAhead 253 41 (.pointer (some a)) "Alloc") w = .ok (some false) w := by kernel_rfl
theorem m_alloc (a : Addr) (w : World) : Sem.run Try.prog (method 253 41 (.pointer (some a)) "Alloc") w = .ok (11, .pointer (some a)) w := by kernel_rfl
theorem m_node (a : Addr) (w : World) : Sem.run Try.prog (method 253 41 (.pointer (some a)) "Node") w = .ok (114, .pointer (some a)) w := by kernel_rfl
section
attribute [local go_sem] nil_alloc m_alloc m_node
attribute [local go_sem ↓] exec_load28 exec_store44 exec_load65
set_option maxHeartbeats 4000000 in
/-- At the last level: a collision list. -/
theorem main_last (base q : Nat) (s : Sd) (acc : Int) (D : Du) (o b : Nd) (gen : Int) (w : World) (h : Ob w base 69 q s acc) (hl : s.ns.length < 900) (hc : s.cs.length < 900)
    (h11 : D.c = 11) (hK : D.K = b.hash) (hps : D.ps = ofL [(o.key, o.val), (b.key, b.val)]) (hb : U64 b.hash) :
    Calls Try.prog 25 #[.iface 41 (.pointer (some ⟨q, 0, none⟩)), .agg (cpV D.x o b), .int .i64 11, .int .i64 gen] w (RunP 69 base q s acc (dualL D ((s.ns.length : Int) + 1) 0) w) := by
  have mixed := mixedOrders
  obtain ⟨W, hW⟩ : ∃ W, W = w.alloc (.cells (cpV D.x o b) 75) := ⟨_, rfl⟩
  have BW := Lib.hid (show Below w.heap.size w W by rw [hW]; exact (Below.refl _ w).alloc (Nat.le_refl _) _)
  have HC := Lib.hid (show W.heap[w.heap.size]? = some (.cells (cpV D.x o b) 75 (0, 0)) by rw [hW]; exact heap_alloc_new w _)
  have HL := Lib.hid (show w.heap.size < W.heap.size by rw [hW]; simp)
  have HW := Lib.hid (show (w.alloc (.cells (cpV D.x o b) 75)) = W from hW.symm)
  have HO := Lib.hid (h.up BW.out)
  unfold cpV at HW
  clear hW
  unfold cpV
  go_enter Try.func25, Try.ntmps25
  go_upto_region 1 with (fail)
  rw [HW.out]
  clear HW
  go_upto_region 2 with (fail)
  have KL := Lib.hid (show ∀ V, Below W.heap.size W V → Sem.run Try.prog (loadCp (.pointer (some ⟨w.heap.size, 0, none⟩))) V = .ok (.agg (cpV D.x o b)) V from fun V hV => run_loadCp ((hV.block _ HL.out).trans HC.out))
  have BD := Lib.hid (show Below W.heap.size W W.drew from ⟨rfl, rfl, rfl, Nat.le_refl _, fun _ _ => rfl⟩)
  have HD := Lib.hid (show dualL D ((s.ns.length : Int) + 1) 0 = [(listN b.hash (ofL [(o.key, o.val), (b.key, b.val)]), 0)] by rw [dualL, baseL, if_pos h11, hK, hps])
  have NM := Lib.hid (show ∀ k, Mu q s k → k ≠ w.heap.size from fun k hk e => by have := (h.mu_lt hk).2; omega)
  have R0 := Lib.hid (Rn.start h)
  have CC := Lib.hid (coll_n D.x o b W.drew)
  go_region_held3 (fun w' => Sem.run Try.prog (loadCp (.pointer (some ⟨w.heap.size, 0, none⟩))) w' = .ok (.agg (cpV D.x o b)) w')
    (first | exact L3.out | exact KL.out _ (by first | exact B2.out | exact BD.out))
    (first
      | (go_at_call 41; refine CC.out.mono ?_; rintro e w2 ⟨n2, rfl, hs2, hg2, hf2, hb2⟩; have G2 := Lib.hid hg2; have B2 := Lib.hid (BD.out.trans hb2); have S2 := Lib.hid hs2; have AL := Lib.hid (alloc_n (HO.out.up B2.out) hg2 0 (by omega) (by omega)); clear hs2 hg2 hf2 hb2)
      | (go_at_call 11; refine AL.out.mono ?_; rintro e w3 ⟨t, rfl, hA, ho, hf, hm⟩; have L3 := Lib.hid (run_loadCp ((hf.block w.heap.size (Nat.lt_of_lt_of_le HL.out B2.out.size) (fun hm => NM.out _ hm rfl)).trans ((B2.out.block _ HL.out).trans HC.out))); have R3 := Lib.hid (((R0.out.below (BW.out.trans (B2.out.mono (Nat.le_of_lt HL.out)))).alloc hA ho hf hm S2.out)); clear hA ho hf hm))
  all_goals
    go_wp2
    go_ret
    exact ⟨t, by rw [HD.out]; rfl, by rw [HD.out]; exact R3.out⟩
end
end Go.Proofs.Ytbknbjabkhhlfaa
