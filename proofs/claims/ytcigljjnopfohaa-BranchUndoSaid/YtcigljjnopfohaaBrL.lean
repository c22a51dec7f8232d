/-
  Layer 6: the walk of the law's node.
-/
import Derived.Test.YtcigljjnopfohaaBrK
set_option linter.unusedVariables false
set_option maxRecDepth 100000
namespace Go.Proofs.Ytcigljjnopfohaa
open Go.Shelf Go.RowKit Go.Lib Go.Sort
attribute [local go_sem ↓] exec_load28 exec_storeN

def cN (pv bm : Int) (A : Option Addr) (c : Nat) (L : List Int) : Nd := { Nd.zero with kind := 3, bm := bm, bA := A, bc := c, bs := L, prev := pv }
theorem isC_cN {pv bm : Int} {A : Option Addr} {c : Nat} {L : List Int} (hp : 0 ≤ pv) (hl : (L.length : Int) = cntI bm) (hy : ∀ z ∈ L, 1 ≤ z) : isC (cN pv bm A c L) = true := by
  have h : lowB L = false := lowB_false fun j z hj hz => decide_eq_false (by have := hy z (List.mem_of_getElem? hz); omega)
  have h2 : ((L.length : Int) == cntI bm) = true := beq_iff_eq.2 hl
  simp [isC, cN, validN, eqN, own, cellsB, fieldsB, Nd.zero, h, h2, hp]
theorem isC_mkC {bm : Int} {A : Option Addr} {c : Nat} {L : List Int} (hl : (L.length : Int) = cntI bm) (hy : ∀ z ∈ L, 1 ≤ z) : isC (mkC bm A c L) = true := isC_cN (pv := 0) (Int.le_refl 0) hl hy
theorem or_wrap_u64 {b : Int} (hb : U64 b) (y : Int) : U64 (withI b y) := with_u64 _ hb
structure CJ (w : World) (b : Nat) (pv bm : Int) (A : Option Addr) (c : Nat) (ys : List Int) (wr : World) : Prop where
  tape : Tape (w.heap.size + 1) wr
  bel : Below w.heap.size w wr
  sblk : wr.heap[w.heap.size]? = some (.cells zV 28 (0, 0))
  bblk : wr.heap[b]? = some (.cells (cN pv bm A c ys).cs 28 (0, 0))
  own : OwnR wr (b + 1) (.slice A ys.length c) ys
  u : U64 bm
  tb : w.heap.size + 1 < b
section
variable {w : World} {b : Nat} {pv bm : Int} {A : Option Addr} {c : Nat} {ys : List Int} {wr : World}
theorem CJ.lt (h : CJ w b pv bm A c ys wr) : b < wr.heap.size := (Array.getElem?_eq_some_iff.1 h.bblk).1
theorem CJ.call (h : CJ w b pv bm A c ys wr) {w5 : World} (hT : Tape (w.heap.size + 1) w5) (hg : wr.grownBy w5 (some (w.heap.size + 1))) : CJ w b pv bm A c ys w5 := by
  have tb := h.tb
  have hl := h.lt
  exact ⟨hT, h.bel.trans (below_of_grown hg (by omega) (by omega)), (hg.block _ (by omega) (fun e => by injection e; omega)).trans h.sblk, (hg.block b (by omega) (fun e => by injection e; omega)).trans h.bblk,
    h.own.keepFrom fun k hk hk2 => hg.block k hk2 (fun e => by injection e; omega), h.u, tb⟩
theorem CJ.setBm (h : CJ w b pv bm A c ys wr) {x : Int} (hx : U64 x) : CJ w b pv x A c ys (wr.setCell ⟨b, 3, none⟩ (.int .u64 x)) := by
  have tb := h.tb
  exact ⟨h.tape.kept (fun k hk => Below.heap_setCell wr ⟨b, 3, none⟩ _ k (by simp; omega)) (by simp), h.bel.setCell (p := ⟨b, 3, none⟩) (by simp; omega) _, (Below.heap_setCell wr ⟨b, 3, none⟩ _ _ (by simp; omega)).trans h.sblk, set_field h.bblk 3 _, h.own.keepFrom fun k hk _ => Below.heap_setCell wr ⟨b, 3, none⟩ _ k (by simp; omega), hx, tb⟩
theorem CJ.setBr (h : CJ w b pv bm A c ys wr) {A' : Option Addr} {c' : Nat} {zs : List Int} {wa : World} (ho : OwnR wa (b + 1) (.slice A' zs.length c') zs) (hb : Below (b + 1) wr wa) : CJ w b pv bm A' c' zs (wa.setCell ⟨b, 4, none⟩ (.slice A' zs.length c')) := by
  have tb := h.tb
  exact ⟨h.tape.kept (fun k hk => (Below.heap_setCell wa ⟨b, 4, none⟩ _ k (by simp; omega)).trans (hb.block k (by omega))) (by simpa using hb.size), (h.bel.trans (hb.mono (by omega))).setCell (p := ⟨b, 4, none⟩) (by simp; omega) _, ((Below.heap_setCell wa ⟨b, 4, none⟩ _ _ (by simp; omega)).trans (hb.block _ (by omega))).trans h.sblk,
    set_field ((hb.block b (by omega)).trans h.bblk) 4 _, ho.keepFrom fun k hk _ => Below.heap_setCell wa ⟨b, 4, none⟩ _ k (by simp; omega), h.u, tb⟩
end
/-- The node that the law makes: a valid C-node. -/
def LNPost (w : World) (e : Ending) (w' : World) : Prop := ∃ pv bm A c L, e = .returned (.agg (cN pv bm A c L).cs) ∧ GN w' (cN pv bm A c L) ∧ isC (cN pv bm A c L) = true ∧ L.length ≤ 64 ∧ Below w.heap.size w w'
set_option maxHeartbeats 16000000 in
theorem lnode_any (a : Option Addr) (len cap : Nat) (w : World) (hl : len ≤ maxLen) (hz : ∀ j, j < len → ∃ ad z, a = some ad ∧ w.cell? (ad.add j) = some (.int .i64 z)) :
    Calls Try.prog 8 #[.slice a len cap] w (LNPost w) := by
  have mixed := mixedOrders
  obtain ⟨W, hW⟩ : ∃ W, W = w.alloc (.cells zV 28) := ⟨_, rfl⟩
  have hs : W.heap.size = w.heap.size + 1 := by rw [hW]; simp
  have HS := Lib.hid (show W.heap[w.heap.size]? = some (.cells zV 28 (0, 0)) by rw [hW]; exact heap_alloc_new w _)
  have NW := Lib.hid (new_any a len cap W hl (fun j hj => by
    obtain ⟨ad, z, e, hc⟩ := hz j hj
    refine ⟨ad, z, e, ?_⟩
    rw [hW, World.cell?_alloc_lt _ _ _ (block_of_cell' hc)]; exact hc))
  rw [hs] at NW
  have BW := Lib.hid (show Below w.heap.size w W by rw [hW]; exact (Below.refl _ w).alloc (Nat.le_refl _) _)
  have HSZ := Lib.hid hs
  have HW := Lib.hid (show w.alloc (.cells #[.int .i64 0, .int .i64 0, .int .i64 0, .int .u64 0, .slice none 0 0, .int .u64 0, .string ⟨#[]⟩, .int .u64 0, .slice none 0 0, .int .i64 0, .int .i64 0, .int .i64 0, .int .i64 0, .int .i64 0] 28) = W from hW.symm)
  clear hl hz hW hs
  go_enter Try.func8, Try.ntmps8
  go_upto_region 1 with (fail)
  rw [HW.out]
  go_upto_region 2 with (go_at_call 20; refine NW.out.mono ?_; rintro e w1 ⟨rfl, hT, hb⟩; have T1 := Lib.hid hT; have B1 := Lib.hid hb; clear hT hb)
  have sz1 := Lib.hid (show w.heap.size + 1 < w1.heap.size from T1.out.lt)
  have st0 := fun (q : Nat) (X : World) => run_storeNode_new X (cN (q : Int) 0 none 0 [])
  have ES := Lib.hid (fun q : Nat => (show (cN (q : Int) 0 none 0 []).cs = #[.int .i64 3, .int .i64 0, .int .i64 0, .int .u64 0, .slice none 0 0, .int .u64 0, .string ⟨#[]⟩, .int .u64 0, .slice none 0 0, .int .i64 q, .int .i64 0, .int .i64 0, .int .i64 0, .int .i64 0] from rfl))
  go_wp2_with fail
  refine (next_any (w.heap.size + 1) 3 w1 T1.out (by omega) (by omega)).mono ?_
  rintro e w2 ⟨q, hq, rfl, hT1, hg1⟩
  have T2 := Lib.hid hT1
  have B2 := Lib.hid ((BW.out.trans (B1.out.mono (by omega))).trans (below_of_grown (B := w.heap.size) hg1 (by omega) (by have := sz1.out; omega)))
  have S2 := Lib.hid ((hg1.block w.heap.size (by have := sz1.out; omega) (fun e => by injection e; omega)).trans ((B1.out.block w.heap.size (by omega)).trans HS.out))
  have sz2 := Lib.hid (show w.heap.size + 1 < w2.heap.size from T2.out.lt)
  clear hT1 hg1
  have st := st0 q w2
  rw [ES.out] at st
  obtain ⟨W2, hW2⟩ : ∃ W2, W2 = w2.alloc (.cells (cN (q : Int) 0 none 0 []).cs 28) := ⟨_, rfl⟩
  have I0 := Lib.hid (show CJ w w2.heap.size q 0 none 0 [] W2 by
    rw [hW2]
    exact ⟨T2.out.below ((Below.refl w2.heap.size w2).alloc (Nat.le_refl _) _) T2.out.lt, B2.out.alloc (by have := sz2.out; omega) _, (Below.heap_alloc w2 _ _ (by have := sz2.out; omega)).trans S2.out, heap_alloc_new w2 _, OwnR.nil_ _ _, u64_zero, sz2.out⟩)
  have HW2 := Lib.hid (show w2.alloc (.cells #[.int .i64 3, .int .i64 0, .int .i64 0, .int .u64 0, .slice none 0 0, .int .u64 0, .string ⟨#[]⟩, .int .u64 0, .slice none 0 0, .int .i64 q, .int .i64 0, .int .i64 0, .int .i64 0, .int .i64 0] 28) = W2 from hW2.symm)
  clear hW2 st0
  go_upto_region 3 with (fail)
  rw [HW2.out]
  clear T2 B2 S2 st ES HW2 T1 B1 HS NW BW HSZ HW
  have hbz := sz2.out
  generalize w2.heap.size = b at I0 hbz ⊢
  clear sz2 sz1
  go_wp2_with fail
  refine (next_any (w.heap.size + 1) 9 W2 I0.out.tape (by omega) (by omega)).mono ?_
  rintro e w3 ⟨kk, hkk, rfl, hT1, hg1⟩
  have I1 := Lib.hid (I0.out.call hT1 hg1)
  clear hT1 hg1 I0
  have hq0 : (0 : Int) ≤ (q : Int) := by omega
  generalize (q : Int) = pv at I1 hq0 ⊢
  go_wp2_with fail
  go_loopg [5] kk (fun kx s5 wr => ∃ (k : Nat) (bm : Int), s5 = .int .i64 k ∧ k ≤ kx ∧ k ≤ 9 ∧ Aside (CJ w b pv bm none 0 [] wr))
  case atStart => exact ⟨kk, 0, rfl, Nat.le_refl _, by omega, I1.out⟩
  case round =>
    clear I1
    obtain ⟨k, bm, rfl, hk, hk5, I⟩ := hrel
    by_cases h0 : 0 < k
    · have hz : (k : Int) > 0 := by omega
      obtain ⟨m, rfl⟩ : ∃ m, k = m + 1 := ⟨k - 1, by omega⟩
      have c3 := node_cellA I.out.bblk (i := 3) (v := .int .u64 bm) rfl
      have f3 := node_frozen I.out.bblk 3
      go_upto_region 6 with (fail)
      go_region_with (first
        | (go_at_call 21
           refine (next_any (w.heap.size + 1) 64 wr.drew (I.out.tape.kept (fun _ _ => rfl) (Nat.le_refl _)) (by omega) (by omega)).mono ?_
           rintro e w5 ⟨q, hq, rfl, hT1, hg1⟩
           have I5 := Lib.hid (I.out.call hT1 ⟨hg1.os, hg1.tape, hg1.output, hg1.size, hg1.block⟩)
           have c3' := node_cellA I5.out.bblk (i := 3) (v := .int .u64 bm) rfl
           have f3' := node_frozen I5.out.bblk 3
           clear hT1 hg1)
        | (go_at_call 22; refine (rwith_any bm q I5.out.u _).mono ?_; rintro e w6 ⟨rfl, rfl⟩))
      all_goals
        go_wp2
        go_roundg m
        case measure => omega
        case rel => exact ⟨m, _, by go_num, Nat.le_refl _, by omega, I5.out.setBm (with_u64 _ I5.out.u)⟩
    · obtain rfl : k = 0 := by omega
      have c3 := node_cellA I.out.bblk (i := 3) (v := .int .u64 bm) rfl
      have CN := Lib.hid (rcount_any bm I.out.u wr)
      obtain ⟨m, hm⟩ : ∃ m : Nat, cntI bm = (m : Int) := ⟨(cntI bm).toNat, by have := (cnt_range bm).1; omega⟩
      have hm64 : m ≤ 64 := by have := (cnt_range bm).2; omega
      have HM := Lib.hid hm
      rw [hm] at CN
      clear hm
      go_wp2_with (go_at_call 23; refine CN.out.mono ?_; rintro e w4 ⟨rfl, rfl⟩)
      clear CN c3
      go_loopg [6] m (fun kx s6 wq => ∃ (k : Nat) (A : Option Addr) (c : Nat) (ys : List Int), s6 = .int .i64 k ∧ k ≤ kx ∧ Aside (ys.length + k = m) ∧ Aside (∀ z ∈ ys, 1 ≤ z) ∧ Aside (ys.length ≤ c ∧ (A = none → c = 0)) ∧ Aside (CJ w b pv bm A c ys wq))
      case atStart => exact ⟨m, none, 0, [], rfl, Nat.le_refl _, (by simp : ([] : List Int).length + m = m), (fun z hz => by cases hz), (⟨Nat.le_refl _, fun _ => rfl⟩ : _ ∧ _), I.out⟩
      case round =>
        clear I
        obtain ⟨k, A, c, ys, rfl, hkx, NN, YB, AC, I⟩ := hrel
        have hyl : ys.length ≤ 64 := by have := NN.out; omega
        by_cases h0 : 0 < k
        · have hz : (k : Int) > 0 := by omega
          obtain ⟨m', rfl⟩ : ∃ m', k = m' + 1 := ⟨k - 1, by omega⟩
          have hm9 : m' ≤ 64 := by have := NN.out; omega
          have c4 := node_cellA I.out.bblk (i := 4) (v := .slice A ys.length c) rfl
          have f4 := node_frozen I.out.bblk 4
          go_upto_region 10 with (fail)
          go_region_law (first
            | (refine step_append_anyR (w0 := w5) rfl (.tmp 32) (.tmp 36) rfl (b + 1) _ ys rfl (I5.out.own.alloc _) _ 1 1 _ [(1 : Int) + (q : Int)] rfl rfl (one_rdR w5 ((1 : Int) + (q : Int))) (fun e => by cases e) (by simp; omega) ((Below.refl _ w5).alloc I5.out.lt _) (by have := I5.out.lt; simp; omega) ?_
               intro va wa HOa HBa
               obtain ⟨A', c', rfl, _, hA', hc'⟩ := HOa.out.open2
               have c4b := (HBa.cell (p := ⟨b, 4, none⟩) (Nat.lt_succ_self b)).trans c4'
               have f4b := (HBa.frozen (p := ⟨b, 4, none⟩) (Nat.lt_succ_self b)).trans f4'
               have AC' := Lib.hid (⟨hc', hA'⟩ : _ ∧ _)
               clear hA' hc')
            | (go_simp
               go_at_call 21
               refine (next_any (w.heap.size + 1) 50 wr.drew (I.out.tape.kept (fun _ _ => rfl) (Nat.le_refl _)) (by omega) (by omega)).mono ?_
               rintro e w5 ⟨q, hq2, rfl, hT1, hg1⟩
               have I5 := Lib.hid (I.out.call hT1 ⟨hg1.os, hg1.tape, hg1.output, hg1.size, hg1.block⟩)
               have c4' := node_cellA I5.out.bblk (i := 4) (v := .slice A ys.length c) rfl
               have f4' := node_frozen I5.out.bblk 4
               have hb5 : ¬ b = w5.heap.size := by have := I5.out.lt; omega
               have hb5' : b < w5.heap.size := I5.out.lt
               have wq : IntKind.i64.wrap ((1 : Int) + (q : Int)) = (1 : Int) + (q : Int) := by rw [IntKind.wrap_i64]; omega
               clear hT1 hg1))
          all_goals
            have J := I5.out.setBr HOa.out HBa
            rw [List.length_append, List.length_singleton] at J
            have J' := Lib.hid J
            clear J c4 f4 c4' f4' c4b f4b
            go_wp2
            go_roundg m'
            case measure => omega
            case rel =>
              refine ⟨m', A', c', ys ++ [(1 : Int) + (q : Int)], by go_num, Nat.le_refl _, ?_, ?_, AC'.out, J'.out⟩
              · have := NN.out
                show (ys ++ [(1 : Int) + (q : Int)]).length + m' = m
                rw [List.length_append, List.length_singleton]; omega
              · exact fun z hz => (List.mem_append.1 hz).elim (YB.out z) fun hz => by (have := List.mem_singleton.1 hz; subst this; omega)
        · obtain rfl : k = 0 := by omega
          have ld := run_loadNode I.out.bblk
          have st := run_storeNode (cN pv bm A c ys) I.out.sblk rfl
          go_wp2_with fail
          obtain ⟨X, hX⟩ : ∃ X, X = wr.setRow w.heap.size (cN pv bm A c ys).cs := ⟨_, rfl⟩
          have hg : X.heap[w.heap.size]? = some (.cells (cN pv bm A c ys).cs 28 (0, 0)) := by rw [hX]; exact setRow_heap wr _ _ _ 28 (0, 0) I.out.sblk
          have BX := Lib.hid (show Below w.heap.size w X by rw [hX]; exact below_setRow I.out.bel (Nat.le_refl _) _)
          have OX := Lib.hid (show OwnR X (b + 1) (.slice A ys.length c) ys by rw [hX]; exact I.out.own.keepFrom fun k hk _ => setRow_other _ _ _ _ (by omega))
          rw [← hX]
          clear hX ld st
          obtain ⟨d0, d1, d2, d3, d4, d5, d6, d7, d8, d9, d10, d11, d12, d13⟩ := node_vals hg
          clear hg
          refine bodyPost_ret (v := .agg (cN pv bm A c ys).cs) (by simp [results, Try.results8, go_sem, d0, d1, d2, d3, d4, d5, d6, d7, d8, d9, d10, d11, d12, d13, Nd.cs]) rfl ⟨pv, bm, A, c, ys, rfl, ?_, ?_, hyl, BX.out⟩
          · obtain ⟨A2, c2, ex, hr2, ha2, hc2⟩ := OX.out.open2
            injection ex with e1 e2 e3
            subst e1 e3
            exact ⟨⟨hr2, Rd.nil, I.out.u, Nat.le_trans hyl (by omega), Nat.zero_le _⟩, ha2, fun _ => rfl, hc2, Nat.le_refl _⟩
          · exact isC_cN hq0 (by have := NN.out; have := HM.out; omega) YB.out
end Go.Proofs.Ytcigljjnopfohaa
