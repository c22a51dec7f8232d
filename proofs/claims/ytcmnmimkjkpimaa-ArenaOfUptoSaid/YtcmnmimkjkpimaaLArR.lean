/-
  The walks of New and of awake.
-/
import Derived.Test.YtcmnmimkjkpimaaLArN
import Derived.Test.YtcmnmimkjkpimaaLArO
import Derived.Test.YtcmnmimkjkpimaaLArJ
set_option linter.unusedVariables false
set_option maxRecDepth 100000
namespace Go.Proofs.Ytcmnmimkjkpimaa
open Go.Shelf Go.RowKit Go.Lib Go.Sort
attribute [local go_sem ↓] exec_load28 exec_store44 exec_build2'

theorem run_storeNode_mark (X : World) :
    Sem.run Try.prog (storeNode (.pointer (some ⟨X.heap.size, 0, none⟩)) (.agg #[.int .i64 1, .int .i64 0, .int .i64 0, .int .u64 0, .slice none 0 0, .int .u64 0, .string ⟨#[]⟩, .int .u64 0, .slice none 0 0, .int .i64 0, .int .i64 0, .int .i64 0, .int .i64 0, .int .i64 0])) (X.alloc (.cells #[.int .i64 0, .int .i64 0, .int .i64 0, .int .u64 0, .slice none 0 0, .int .u64 0, .string ⟨#[]⟩, .int .u64 0, .slice none 0 0, .int .i64 0, .int .i64 0, .int .i64 0, .int .i64 0, .int .i64 0] 44)) = .ok () (X.alloc (.cells markN.cs 44)) := run_storeNode_new X markN
theorem run_loadNode_new (X : World) (n : Nd) : Sem.run Try.prog (loadNode (.pointer (some ⟨X.heap.size, 0, none⟩))) (X.alloc (.cells n.cs 44)) = .ok (.agg n.cs) (X.alloc (.cells n.cs 44)) := run_loadNode (heap_alloc_new X _)
theorem run_build2mm (w : World) : Sem.run Try.prog (buildVals [.agg markN.cs, .agg markN.cs]) w = .ok (.slice (some ⟨w.heap.size, 0, none⟩) 2 2) (w.alloc (.cells (rowOf [markN.cs, markN.cs]) 44)) := run_build2 markN.cs markN.cs (by simp [cs_size14]) w
theorem run_field2 (a b c d e f g h i j k l m n : Value) (w : World) : (Instr.field 44 (.agg #[a, b, c, d, e, f, g, h, i, j, k, l, m, n]) 2).run Try.prog w = .ok c w := by kernel_rfl
attribute [local go_sem] run_field2 run_storeNode_mark run_loadNode_new run_build2mm
set_option maxHeartbeats 4000000 in
theorem anew_any (w : World) : Calls Try.prog 24 #[] w (NewPost 77 w) := by
  go_enter Try.func24, Try.ntmps24
  go_wp2
  go_ret
  have h := newOb (w.alloc (.cells markN.cs 44)) 77 (by decide)
  have hs : (w.alloc (.cells markN.cs 44)).heap.size = w.heap.size + 1 := by simp
  rw [hs] at h
  exact ⟨w.heap.size + 1, w.heap.size + 1 + 1, rfl, ⟨h.blk, by omega, h.nod.mono (by omega), OwnR.mono h.cel (by omega), h.l, h.nl, h.cl⟩, (((Below.refl _ w).alloc (Nat.le_refl _) _).alloc (by simp) _).alloc (by simp; omega) _⟩

/-! ### awake -/
def iN : Nd := { Nd.zero with kind := 2, gen := 1 }
theorem ob_below {w w' : World} {base : Nat} {T : TypeId} {q : Nat} {s : Sd} {acc : Int} (h : Ob w base T q s acc) (hf : Fr (Mu q s) w w') : Below base w w' := hf.below (Nat.le_trans h.hq (Nat.le_of_lt h.lt)) fun k hk => (h.mu_lt hk).1
/-- The state behind the example's Alloc. -/
def AwS (t : Sd) : Prop := (∃ y, t.ns = [markN, markN, y] ∧ y.main = 1) ∧ t.cs = [0]
def Aw1 (base q g : Nat) (w : World) (e : Ending) (w' : World) : Prop := ∃ t, e = .returned (.int .i64 3) ∧ AwS t ∧ Ob w' base 77 q t 0 ∧ Below base w w'
theorem aw1 {base q g : Nat} {w : World} (h : Ob w base 77 q (newS g) 0) : Calls Try.prog 16 #[.pointer (some ⟨q, 0, none⟩), .agg iN.cs, .int .i64 0] w (Aw1 base q g w) :=
  (aalloc_any base q (newS g) 0 iN 0 w h ⟨RdR.nil, Rd.nil, u64_zero, Nat.zero_le _, Nat.zero_le _⟩ (fun _ => rfl) (fun _ => rfl) (by show 2 < 1100000; omega) (by show 0 < 1100000; omega)).mono fun e w' ⟨t, he, hal, hob, hf, _⟩ => by
    obtain ⟨y, hy, ⟨A, c, P, d, hs⟩, _⟩ := hal.ns
    exact ⟨t, he, ⟨⟨y, hy, by rw [hs]; rfl⟩, hal.cs⟩, hob, ob_below h hf⟩
def AwP (w : World) (e : Ending) (w' : World) : Prop := ∃ y : Nd, e = .returned (.agg #[.int .i64 y.kind, .int .i64 y.gen, .int .i64 1, .int .u64 y.bm, .slice y.bA y.bs.length y.bc, .int .u64 y.hash, .string y.key, .int .u64 y.val, .slice y.pA y.ps.length y.pc, .int .i64 y.prev, .int .i64 y.old, .int .i64 y.exp, .int .i64 y.new, .int .i64 y.status]) ∧ Below w.heap.size w w'
theorem aw2 {base q : Nat} {t : Sd} {w : World} (h : Ob w base 77 q t 0) (hs : AwS t) : Calls Try.prog 27 #[.pointer (some ⟨q, 0, none⟩), .int .i64 3] w (AwP w) :=
  (node_get base q t 0 3 w h).mono fun e w' ⟨y, he, hy, _, hb⟩ => by
    obtain ⟨⟨z, hz, hm⟩, _⟩ := hs
    have hv : nodeV t 3 = z := by rw [nodeV, hz]; rfl
    rw [hv] at hy
    obtain ⟨A, c, P, d, rfl⟩ := hy
    refine ⟨{ z with bA := A, bc := c, pA := P, pc := d }, ?_, hb⟩
    rw [he]
    show Ending.returned (.agg (Nd.cs _)) = _
    simp only [Nd.cs, hm]
theorem aw3 {base q : Nat} {t : Sd} {w : World} (h : Ob w base 77 q t 0) (hs : AwS t) : Calls Try.prog 14 #[.pointer (some ⟨q, 0, none⟩), .int .i64 1, .int .i64 0, .int .i64 2] w fun e w' => e = .returned (.bool true) ∧ Ob w' base 77 q (t.setC 0 2) 1 ∧ Below base w w' :=
  (cas_any base q t 0 1 0 2 w h ⟨Int.le_refl 0, by omega⟩).mono fun e w' ⟨he, hob, hf⟩ => by
    have hb : casB t 1 0 = true := by simp [casB, hasC, cellV, hs.2]
    refine ⟨by rw [he, hb], ?_, ob_below h hf⟩
    rw [casS, hb] at hob
    exact hob
theorem aw4 {base q : Nat} {t : Sd} {w : World} (h : Ob w base 77 q (t.setC 0 2) 1) (hs : AwS t) : Calls Try.prog 14 #[.pointer (some ⟨q, 0, none⟩), .int .i64 1, .int .i64 0, .int .i64 2] w fun e w' => e = .returned (.bool false) ∧ Ob w' base 77 q (t.setC 0 2) 2 ∧ Below base w w' :=
  (cas_any base q (t.setC 0 2) 1 1 0 2 w h ⟨by omega, by omega⟩).mono fun e w' ⟨he, hob, hf⟩ => by
    have hb : casB (t.setC 0 2) 1 0 = false := by simp [casB, hasC, cellV, Sd.setC, hs.2]
    refine ⟨by rw [he, hb], ?_, ob_below h hf⟩
    rw [casS, hb] at hob
    exact hob
theorem aw5 {base q : Nat} {t : Sd} {w : World} (h : Ob w base 77 q (t.setC 0 2) 2) (hs : AwS t) : Calls Try.prog 15 #[.pointer (some ⟨q, 0, none⟩), .int .i64 1] w fun e w' => e = .returned (.int .i64 2) ∧ Below base w w' :=
  (load_any base q (t.setC 0 2) 2 1 w h ⟨by omega, by omega⟩).mono fun e w' ⟨he, hob, hf⟩ => by
    have hb : cellV (t.setC 0 2) 1 = 2 := by simp [hasC, cellV, Sd.setC, hs.2]
    exact ⟨by rw [he, hb], ob_below h (hf.mono fun k _ e => .inl e)⟩
set_option maxHeartbeats 4000000 in
theorem awake_any (w : World) : Calls Try.prog 19 #[] w fun e w' => e = .returned (.bool true) ∧ Below w.heap.size w w' := by
  have NW := Lib.hid (anew_any w)
  go_enter Try.func19, Try.ntmps19
  go_wp2_with (first
    | (go_at_call 24; refine NW.out.mono ?_; rintro e w1 ⟨g, q, rfl, hob, hb⟩; have O1 := Lib.hid hob; have B1 := Lib.hid hb; have AL := Lib.hid (show Calls Try.prog 16 #[.pointer (some ⟨q, 0, none⟩), .agg #[.int .i64 2, .int .i64 1, .int .i64 0, .int .u64 0, .slice none 0 0, .int .u64 0, .string ⟨#[]⟩, .int .u64 0, .slice none 0 0, .int .i64 0, .int .i64 0, .int .i64 0, .int .i64 0, .int .i64 0], .int .i64 0] w1 (Aw1 w.heap.size q g w1) from aw1 hob); clear hob hb)
    | (go_at_call 16; refine AL.out.mono ?_; rintro e w2 ⟨t, rfl, hst, hob, hb⟩; have O2 := Lib.hid hob; have X2 := Lib.hid hst; have B2 := Lib.hid (B1.out.trans hb); have AN := Lib.hid (aw2 hob hst); clear hob hst hb)
    | (go_at_call 27; refine AN.out.mono ?_; rintro e w3 ⟨y, rfl, hb⟩; have B3 := Lib.hid (B2.out.trans (hb.mono B2.out.size)); have C1 := Lib.hid (aw3 (O2.out.up hb) X2.out); clear hb)
    | (go_at_call 14; refine C2.out.mono ?_; rintro e w5 ⟨rfl, hob, hb⟩; have B5 := Lib.hid (B4.out.trans hb); have L5 := Lib.hid (aw5 hob X2.out); clear hob hb)
    | (go_at_call 14; refine C1.out.mono ?_; rintro e w4 ⟨rfl, hob, hb⟩; have B4 := Lib.hid (B3.out.trans hb); have C2 := Lib.hid (aw4 hob X2.out); clear hob hb)
    | (go_at_call 15; refine L5.out.mono ?_; rintro e w6 ⟨rfl, hb⟩; have B6 := Lib.hid (B5.out.trans hb); clear hb))
  go_ret
  exact ⟨rfl, B6.out⟩

end Go.Proofs.Ytcmnmimkjkpimaa
