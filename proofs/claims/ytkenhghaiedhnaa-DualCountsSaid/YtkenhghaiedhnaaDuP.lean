/-
  Both arenas behind start; behind both Builds.
-/
import Derived.Test.YtkenhghaiedhnaaDuK
import Derived.Test.YtkenhghaiedhnaaArB1
import Derived.Handy
set_option linter.unusedVariables false
set_option maxRecDepth 100000
namespace Go.Proofs.Ytkenhghaiedhnaa
open Go.Shelf Go.RowKit Go.Lib Go.Sort

theorem Ob.zero {w : World} {base : Nat} {T : TypeId} {q : Nat} {s : Sd} {acc : Int} (h : Ob w base T q s acc) : Ob w 0 T q s acc :=
  ⟨h.blk, Nat.zero_le _, h.nod.mono (Nat.zero_le _), OwnR.mono h.cel (Nat.zero_le _), h.l, h.nl, h.cl⟩
section
variable {w w1 : World} {B qa qm : Nat} {s t : Sd} {x y : Int}
/-- One of the reference's, and an arena that was made later. -/
theorem two_of (hm : Ob w B 40 qm t y) (hb : RowKit.Below w.heap.size w w1) (ha : Ob w1 w.heap.size 74 qa s x) (hf : ∀ n ∈ s.ns, FRs w.heap.size n) (hl : SameL t.ns s.ns) (hc : s.cs = t.cs) (hg : s.gen = t.gen) : Two w1 qa qm s t x y :=
  ⟨ha.zero, (hm.up hb).zero, fun k hk hk2 => by have := (hm.mu_lt hk2).2; have := (ha.mu_lt hk).1; omega,
    fun n hn => ⟨fun ad e hk => by have := (hf n hn).1 ad e; have := (hm.mu_lt hk).2; omega, fun ad e hk => by have := (hf n hn).2 ad e; have := (hm.mu_lt hk).2; omega⟩,
    fun n hn => ⟨fun ad e hk => by have := (hm.l n hn).lb ad e; have := (ha.mu_lt hk).1; omega, fun ad e hk => by have := (hm.l n hn).lp ad e; have := (ha.mu_lt hk).1; omega⟩,
    hl, hc, hg⟩
end
theorem ownScan_gen (s : Sd) (a b : Int) : ∀ (ns : List Nd) (used : List Nat), ownScan { s with gen := a } ns used = ownScan { s with gen := b } ns used
  | [], _ => rfl
  | n :: ns, used => by
    unfold ownScan
    cases cellOf n with
    | none => exact ownScan_gen s a b ns used
    | some c =>
      show (hasC _ c && (_ && _)) = (hasC _ c && (_ && _))
      rw [ownScan_gen s a b ns ((c.toNat - 1) :: used)]
      rfl
theorem GS.proper5 {lo : Nat} {s : Sd} (h : GS lo { s with gen := 3 }) : properB { s with gen := 5 } = true := by
  have hp := h.proper
  have h2 : nodesB { s with gen := 5 } = true := by
    rw [nodesB, List.all_eq_true]
    intro n hn
    have := (h.ok n hn).1
    simp only [nodeP, Bool.and_eq_true, decide_eq_true_eq] at this ⊢
    exact ⟨this.1, by omega⟩
  unfold properB at hp ⊢
  simp only [Bool.and_eq_true] at hp ⊢
  exact ⟨hp.1, h2, hp.2.2.1, (ownScan_gen s 5 3 s.ns []).trans hp.2.2.2⟩
theorem vn_sing (rf : Nat) (h : Int) (key : ByteArray) (v : Int) (hk : key.size ≤ 64) : VN rf (singN h key v) := by
  refine ⟨?_, by show (0 : Int) ≤ 3; omega, rfl, rfl, rfl, (fun z hz => by cases hz), ⟨Int.le_refl 0, Int.natCast_nonneg rf⟩, ⟨Int.le_refl 0, Int.natCast_nonneg rf⟩, ⟨Int.le_refl 0, Int.natCast_nonneg rf⟩⟩
  have : longK key = false := by unfold longK; exact decide_eq_false (by omega)
  simp [validN, eqN, own, cellsB, fieldsB, singN, Nd.zero, this]
/-- Both arenas as start leaves them. -/
structure St8 (w0 w : World) (qa qm : Nat) (sa sm : Sd) (h : Int) (key : ByteArray) (v : Int) : Prop where
  two : Two w qa qm sa sm 0 0
  ma : ∀ k, Mu qa sa k → w0.heap.size ≤ k
  mm : ∀ k, Mu qm sm k → w0.heap.size ≤ k
  len : sa.ns.length = 3 ∧ sm.ns.length = 3
  cs : sa.cs = [] ∧ sm.cs = []
  xa : sameN (singN h key v) (nodeV sa 3)
  xm : sameN (singN h key v) (nodeV sm 3)
  bel : Below w0.heap.size w0 w
def StartP (h : Int) (key : ByteArray) (v : Int) (w : World) (e : Ending) (w' : World) : Prop :=
  ∃ qa qm sa sm, e = .returned (.tuple #[.pointer (some ⟨qa, 0, none⟩), .pointer (some ⟨qm, 0, none⟩), .int .i64 3]) ∧ St8 w w' qa qm sa sm h key v
section
attribute [local go_sem ↓] exec_load28 exec_store44
set_option maxHeartbeats 4000000 in
theorem start_any (h : Int) (key : ByteArray) (v : Int) (w : World) (hk : key.size ≤ 64) : Calls Try.prog 7 #[.int .u64 h, .string key, .int .u64 v] w (StartP h key v w) := by
  have mixed := mixedOrders
  have RN := Lib.hid (rnew_any w)
  have HK := Lib.hid hk
  clear hk
  go_enter Try.func7, Try.ntmps7
  go_upto_region 3 with (first
    | (go_at_call 21; refine RN.out.mono ?_; rintro e w1 ⟨g, q, rfl, hob, hb⟩; have O1 := Lib.hid hob; have B1 := Lib.hid hb; have AL := Lib.hid (show Calls Try.prog 22 #[.pointer (some ⟨q, 0, none⟩), .agg #[.int .i64 4, .int .i64 0, .int .i64 0, .int .u64 0, .slice none 0 0, .int .u64 h, .string key, .int .u64 v, .slice none 0 0, .int .i64 0, .int .i64 0, .int .i64 0, .int .i64 0, .int .i64 0], .int .i64 0] w1 (AllocP 40 w.heap.size q (newS g) 0 (singN h key v) 0 w1) from ralloc_any w.heap.size q (newS g) 0 (singN h key v) 0 w1 hob ⟨RdR.nil, Rd.nil, u0, Nat.zero_le _, Nat.zero_le _⟩ (fun _ => rfl) (fun _ => rfl) (fun ad e => by cases e) (fun ad e => by cases e) (by show 2 < 1000; omega) (by show 0 < 1000; omega)); clear hob hb)
    | (go_at_call 22; refine AL.out.mono ?_; rintro e w2 ⟨t, rfl, hA, hob, hf, hm⟩; have A2 := Lib.hid hA; have O2 := Lib.hid hob; have B2 := Lib.hid (B1.out.trans (ob_below O1.out hf)); clear hA hf hm hob))
  have c2 := block_cell O2.out.blk (i := 2) (v := .int .i64 t.gen) rfl
  have f2 := block_frozen O2.out.blk 2
  go_upto_region 4 with (fail)
  obtain ⟨V, hV⟩ : ∃ V, V = w2.setCell ⟨q, 2, none⟩ (.int .i64 5) := ⟨_, rfl⟩
  have OV := Lib.hid (show Ob V w.heap.size 40 q { t with gen := 5 } 0 by rw [hV]; exact O2.out.setGen (by decide) (by decide) 5)
  have BV := Lib.hid (show Below w.heap.size w V by rw [hV]; exact B2.out.setCell O2.out.hq _)
  rw [← hV]
  clear hV c2 f2 RN AL
  have GT := Lib.hid (show GS w.heap.size { t with gen := 3 } from (gs_new w.heap.size g).alloc (s := { newS g with gen := 3 }) (t := { t with gen := 3 }) (n := singN h key v) (v := 0) ⟨A2.out.ns, A2.out.cs, rfl⟩ B1.out.size (vn_sing _ h key v HK.out) ⟨Int.le_refl 0, by show (0 : Int) ≤ 2; omega⟩)
  have OF := Lib.hid (of_f { t with gen := 5 } V.heap.size V OV.out.srd (Nat.le_refl _) GT.out.proper5)
  unfold Sd.vals at OF
  have q0 := block_cell OV.out.blk (i := 0) (v := .slice t.nA t.ns.length t.nc) rfl
  have q1 := block_cell OV.out.blk (i := 1) (v := .slice t.cA t.cs.length t.cc) rfl
  have q2 := block_cell OV.out.blk (i := 2) (v := .int .i64 5) rfl
  go_wp2_with (go_at_call 14; refine OF.out.mono ?_; rintro e w3 ⟨qa, sa, rfl, hsl, hcs, hgn, hob, hfr, hb⟩; have TW := Lib.hid (two_of OV.out hb hob hfr hsl hcs hgn); have K3 := Lib.hid (⟨hsl, hcs⟩ : _ ∧ _); have B3 := Lib.hid (below_of BV.out hb); have MA := Lib.hid (show ∀ k, Mu qa sa k → w.heap.size ≤ k from fun k hk => Nat.le_trans BV.out.size (hob.mu_lt hk).1); clear hsl hcs hgn hob hfr hb)
  obtain ⟨y, hy, hs, _⟩ := A2.out.ns
  have hy' : t.ns = [markN, markN, y] := hy
  have e1 : nodeV { t with gen := 5 } 3 = y := by
    show (if _ then _ else _) = _
    rw [show ({ t with gen := 5 } : Sd).ns = [markN, markN, y] from hy']
    rfl
  have hl : sa.ns.length = 3 := by rw [← K3.out.1.1]; show t.ns.length = 3; rw [hy']; rfl
  refine bodyPost_ret (v := .tuple #[.pointer (some ⟨qa, 0, none⟩), .pointer (some ⟨q, 0, none⟩), .int .i64 3]) (by simp [results, Try.results7, newS]) rfl ⟨qa, q, sa, { t with gen := 5 }, rfl, TW.out, MA.out, fun k hk => (OV.out.mu_lt hk).1, ⟨hl, by show t.ns.length = 3; rw [hy']; rfl⟩, ⟨by rw [K3.out.2]; exact A2.out.cs, A2.out.cs⟩, ?_, by rw [e1]; exact hs, B3.out⟩
  obtain ⟨z, hz⟩ : ∃ z, sa.ns[2]? = some z := ⟨_, List.getElem?_eq_getElem (by omega)⟩
  have e2 : nodeV sa 3 = z := by
    unfold nodeV
    rw [if_pos ⟨by omega, by rw [hl]; omega⟩]
    show (sa.ns[2]?).getD Nd.zero = z
    rw [hz]
    rfl
  rw [e2]
  have hs' : sameN (singN h key v) y := hs
  exact hs'.trans (K3.out.1.2 2 y z (by show t.ns[2]? = some y; rw [hy']; rfl) hz)
end
end Go.Proofs.Ytkenhghaiedhnaa
/-
  Build behind start; awake.
-/
set_option linter.unusedVariables false
set_option maxRecDepth 100000
namespace Go.Proofs.Ytkenhghaiedhnaa
open Go.Shelf Go.RowKit Go.Lib Go.Sort
theorem SameL.trans {a b c : List Nd} (h : SameL a b) (k : SameL b c) : SameL a c := by
  refine ⟨h.1.trans k.1, fun i x z hx hz => ?_⟩
  have hi : i < b.length := by rw [← h.1]; exact (List.getElem?_eq_some_iff.1 hx).1
  have hy := List.getElem?_eq_getElem hi
  exact (h.2 i x _ hx hy).trans (k.2 i _ z hy hz)
theorem SameL.append {a b c d : List Nd} (h : SameL a b) (k : SameL c d) : SameL (a ++ c) (b ++ d) := by
  refine ⟨by simp [h.1, k.1], fun i x y hx hy => ?_⟩
  by_cases hi : i < a.length
  · rw [List.getElem?_append_left hi] at hx
    rw [List.getElem?_append_left (h.1 ▸ hi)] at hy
    exact h.2 i x y hx hy
  · rw [List.getElem?_append_right (by omega)] at hx
    rw [List.getElem?_append_right (by rw [← h.1]; omega), ← h.1] at hy
    exact k.2 _ x y hx hy
theorem Rans.same {lo lo' : Nat} {s s' t t' : Sd} {l : List (Nd × Int)} (a : Rans lo s s' l) (b : Rans lo' t t' l) (hl : SameL t.ns s.ns) (hc : s.cs = t.cs) (hg : s.gen = t.gen) : SameL t'.ns s'.ns ∧ s'.cs = t'.cs ∧ s'.gen = t'.gen := by
  obtain ⟨ys, a1, a2, _⟩ := a.ns
  obtain ⟨zs, b1, b2, _⟩ := b.ns
  refine ⟨?_, by rw [a.cs, b.cs, hc], by rw [a.gen, b.gen, hg]⟩
  rw [a1, b1]
  rw [← hc] at b2
  exact hl.append (b2.symm.trans a2)
theorem Rn.did {T : TypeId} {base q : Nat} {s t : Sd} {acc : Int} {l : List (Nd × Int)} {w wr : World} (h : Rn T base q s acc l w wr t) : Did w wr q s t := by
  obtain ⟨ys, h1, _, h3⟩ := h.rans.ns
  refine ⟨h.fr, h.mu, fun n hn => ?_⟩
  rw [h1] at hn
  exact (List.mem_append.1 hn).elim .inl fun hn => .inr (h3 n hn)
theorem Rn.bel {T : TypeId} {base q : Nat} {s t : Sd} {acc : Int} {l : List (Nd × Int)} {w wr : World} (h : Rn T base q s acc l w wr t) {B : Nat} (hB : B ≤ w.heap.size) (hM : ∀ k, Mu q s k → B ≤ k) : Below B w wr := h.fr.below hB hM
/-- What the two Builds are about is the same. -/
theorem duOf_same {a b : Nd} (h : sameN a b) (x K : Int) (key : ByteArray) (val gen : Int) (c : Nat) : duOf b x K key val gen c = duOf a x K key val gen c := by
  obtain ⟨h1, h2, h3, h4⟩ := same_f h
  unfold duOf
  rw [h2, h3, h4]
theorem two_builds {w w1 w2 : World} {qa qm : Nat} {s s' t t' : Sd} {l : List (Nd × Int)} (h : Two w qa qm s t 0 0) (a : Rn 74 0 qa s 0 l w w1 s') (b : Rn 40 0 qm t 0 l w1 w2 t') : Two w2 qa qm s' t' 0 0 := by
  obtain ⟨h1, h2, h3⟩ := a.rans.same b.rans h.ns h.cs h.gen
  exact h.step a.ob a.did b.ob b.did h1 h2 h3
/-- Node number k of a state with three nodes behind allocations. -/
theorem nodeV_new {lo : Nat} {s t : Sd} {l : List (Nd × Int)} (h : Rans lo s t l) {i : Nat} {n : Nd} (hn : (opsN l s.cs.length)[i]? = some n) : sameN n (nodeV t ((s.ns.length : Int) + (i : Int) + 1)) := by
  obtain ⟨ys, h1, h2, _⟩ := h.ns
  have hi := (List.getElem?_eq_some_iff.1 hn).1
  have hy := List.getElem?_eq_getElem (by rw [← h2.1]; exact hi : i < ys.length)
  have e : nodeV t ((s.ns.length : Int) + (i : Int) + 1) = ys[i]'(by rw [← h2.1]; exact hi) := by
    unfold nodeV
    rw [if_pos ⟨by omega, by rw [h1, List.length_append]; have := h2.1; omega⟩, show ((s.ns.length : Int) + (i : Int) + 1 - 1).toNat = s.ns.length + i by omega, h1, List.getElem?_append_right (by omega), show s.ns.length + i - s.ns.length = i by omega, hy]
    rfl
  rw [e]
  exact h2.2 i n _ hn hy
theorem isCom_self (h : Int) : IsCom h h 11 := ⟨Nat.le_refl _, fun _ _ => rfl, fun h => absurd h (by omega)⟩
theorem u64_7 : U64 7 := by unfold U64; omega
/-- Build in the example. -/
theorem aw_build {w0 w : World} {qa qm : Nat} {sa sm : Sd} (h : St8 w0 w qa qm sa sm 7 ⟨#[97]⟩ 1) :
    Calls Try.prog 8 #[.iface 24 (.pointer (some ⟨qa, 0, none⟩)), .int .i64 3, .int .u64 7, .string ⟨#[98]⟩, .int .u64 2, .int .i64 10, .int .i64 1] w fun e w' => ∃ t : Sd, e = .returned (.tuple #[.int .i64 6, .int .i64 0]) ∧ Ob w' 0 74 qa t 0 ∧ (nodeV t 4).kind = 6 ∧ (nodeV t 5).kind = 2 ∧ (nodeV t 6).kind = 3 ∧ Below w0.heap.size w0 w' := by
  obtain ⟨f1, f2, f3, f4⟩ := same_f h.xa
  have hl := h.len.1
  have hM : Meet (nodeV sa 3) (singN 7 ⟨#[98]⟩ 2) (11 : Nat) (10 : Nat) := ⟨f1, by decide, by rw [f3]; decide, by omega⟩
  have hb := build_ok 0 qa sa 0 3 7 ⟨#[98]⟩ 2 1 10 11 w h.two.a (by omega) (by omega) u64_7 (by omega) (by rw [h.cs.1]; show 0 < 900; omega) (fun _ => by rw [f2]; exact ⟨u64_7, isCom_self 7⟩) hM
  refine hb.mono fun e w' ⟨t, he, hR⟩ => ?_
  have hlen := dual_len (duOf (nodeV sa 3) 3 7 ⟨#[98]⟩ 2 1 11) ((sa.ns.length : Int) + 1) (11 - 10)
  rw [show (11 - 10 : Nat) = 1 from rfl] at hlen hR he
  have e1 := dual_up (n := nodeV sa 3) (x := 3) (K := 7) (key := ⟨#[98]⟩) (val := 2) (gen := 1) (f := (sa.ns.length : Int) + 1) (c := 11) 0
  rw [dual_last rfl] at e1
  have hr := hR.rans
  rw [e1] at hr
  have k4 := nodeV_new hr (i := 0) (n := alN (listN 7 (ofL [((nodeV sa 3).key, (nodeV sa 3).val), (⟨#[98]⟩, 2)])) _) rfl
  have k5 := nodeV_new hr (i := 1) (n := alN (innN 1) _) rfl
  have k6 := nodeV_new hr (i := 2) (n := alN (cndN (withI 0 (sl 7 (11 - (0 + 1)))) _) _) rfl
  rw [hl] at k4 k5 k6
  refine ⟨t, by rw [he, hlen, hl]; rfl, hR.ob, (same_f k4).1, (same_f k5).1, (same_f k6).1, h.bel.trans (hR.bel h.bel.size h.ma)⟩
theorem aw_node {qa : Nat} {t : Sd} {k kd : Int} {w : World} (h : Ob w 0 74 qa t 0) (hk : (nodeV t k).kind = kd) : Calls Try.prog 20 #[.pointer (some ⟨qa, 0, none⟩), .int .i64 k] w fun e w' => ∃ y : Nd, e = .returned (.agg #[.int .i64 kd, .int .i64 y.gen, .int .i64 y.main, .int .u64 y.bm, .slice y.bA y.bs.length y.bc, .int .u64 y.hash, .string y.key, .int .u64 y.val, .slice y.pA y.ps.length y.pc, .int .i64 y.prev, .int .i64 y.old, .int .i64 y.exp, .int .i64 y.new, .int .i64 y.status]) ∧ Ob w' 0 74 qa t 0 ∧ Below w.heap.size w w' :=
  (node_lit k h).mono fun e w' ⟨y, he, hs, hb⟩ => ⟨y, by rw [he, (same_f hs).1, hk], h.up hb, hb⟩
theorem run_field0 (a b c d e f g h i j k l m n : Value) (w : World) : (Instr.field 52 (.agg #[a, b, c, d, e, f, g, h, i, j, k, l, m, n]) 0).run Try.prog w = .ok a w := by kernel_rfl
section
attribute [local go_sem] run_field0
set_option maxHeartbeats 4000000 in
theorem awake_any (w : World) : Calls Try.prog 6 #[] w fun e w' => e = .returned (.bool true) ∧ Below w.heap.size w w' := by
  have mixed := mixedOrders
  have ST := Lib.hid (start_any 7 ⟨#[97]⟩ 1 w (by decide))
  go_enter Try.func6, Try.ntmps6
  go_wp2_with (first
    | (go_at_call 7; refine ST.out.mono ?_; rintro e w1 ⟨qa, qm, sa, sm, rfl, hst⟩; have BU := Lib.hid (aw_build hst); clear hst)
    | (go_at_call 8; refine BU.out.mono ?_; rintro e w2 ⟨t, rfl, hob, h4, h5, h6, hb⟩; have B2 := Lib.hid hb; have K5 := Lib.hid h5; have K6 := Lib.hid h6; have N4 := Lib.hid (aw_node hob h4); clear hob h4 h5 h6 hb)
    | (go_at_call 20; (with_reducible refine N6.out.mono ?_); rintro e w5 ⟨y6, rfl, hob, hb⟩; have B5 := Lib.hid (below_of B4.out hb); clear hob hb)
    | (go_at_call 20; (with_reducible refine N5.out.mono ?_); rintro e w4 ⟨y5, rfl, hob, hb⟩; have B4 := Lib.hid (below_of B3.out hb); have N6 := Lib.hid (aw_node hob K6.out); clear hob hb)
    | (go_at_call 20; (with_reducible refine N4.out.mono ?_); rintro e w3 ⟨y4, rfl, hob, hb⟩; have B3 := Lib.hid (below_of B2.out hb); have N5 := Lib.hid (aw_node hob K5.out); clear hob hb))
  go_ret
  exact ⟨rfl, B5.out⟩
end
end Go.Proofs.Ytkenhghaiedhnaa
