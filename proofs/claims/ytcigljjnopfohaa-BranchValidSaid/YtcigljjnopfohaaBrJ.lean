/-
  Layer 6: the walk of the reference's build.
-/
import Derived.Test.YtcigljjnopfohaaBrG
set_option linter.unusedVariables false
set_option maxRecDepth 100000
namespace Go.Proofs.Ytcigljjnopfohaa
open Go.Shelf Go.RowKit Go.Lib Go.Sort
attribute [local go_sem ↓] exec_load28 exec_storeN

theorem one_rdR (w : World) (x : Int) : RdR (w.alloc (.cells #[.int .i64 x] 26)) (w.heap.size + 1) (some ⟨w.heap.size, 0, none⟩) [x] := fun _ =>
  ⟨_, rfl, Nat.lt_succ_self _, fun j u hj => by
    have := cell_of_row (w.alloc (.cells #[.int .i64 x] 26)) w.heap.size j #[.int .i64 x] 26 (0, 0) (heap_alloc_new w _)
    rw [Addr.add_lit, Nat.zero_add]
    exact this.trans (by simpa [flatR] using hj)⟩
theorem step_append_anyR {w w0 : World} {ops : Array Oper} {o : Oper} {a : Act} {K : Act → World → Prop} {Q : Exit → Act → World → Prop} {E : Prop} (hgd : o.guard = none) (s x : Operand)
    (ho : o.op = .call { callee := .builtin .append, args := #[s, x], argTypes := #[24, 24] }) (base : Nat) (v : Value) (ys : List Int) (hs : a.eval s = v) (hown : OwnR w base v ys)
    (A : Option Addr) (m c B : Nat) (ns : List Int) (hx : a.eval x = .slice A m c) (hm : m = ns.length) (hR : RdR w B A ns) (hA : A = none → c = 0)
    (hn : ys.length + ns.length ≤ 1000000) (hb : Below base w0 w) (hbase : base ≤ w.heap.size)
    (h : ∀ v' w', Hid (OwnR w' base v' (ys ++ ns)) → Below base w0 w' → K (a.put o.dst v') w') :
    if Region.wanted o (yielded ops a.tmps) = true then Oper.wp Try.prog o a w K Q else E := by
  have hw : Region.wanted o (yielded ops a.tmps) = true := by simp [Region.wanted, hgd]
  rw [if_pos hw]
  obtain ⟨v', w', hr, h2, h3⟩ := run_append_anyR o.type base v ys hown A m c B ns hm hR hA hn hbase
  unfold Oper.wp execOp
  simp only [ho, resolve, invoke, builtin, Sem.run_bind, Sem.run_pure, Result.andThen_ok, List.map_toArray, List.map_cons, List.map_nil, hs, hx, hr]
  exact h v' w' h2 (hb.trans h3)
/-- The local node while it is built. -/
structure BI (w : World) (n : Nd) (bm : Int) (A : Option Addr) (c : Nat) (ys : List Int) (wr : World) : Prop where
  bel : Below w.heap.size w wr
  box : wr.heap[w.heap.size]? = some (.cells n.cs 28 (0, 0))
  sblk : wr.heap[w.heap.size + 1]? = some (.cells zV 28 (0, 0))
  bblk : wr.heap[w.heap.size + 2]? = some (.cells (mkC bm A c ys).cs 28 (0, 0))
  own : OwnR wr (w.heap.size + 3) (.slice A ys.length c) ys
  u : U64 bm
section
variable {w : World} {n : Nd} {bm : Int} {A : Option Addr} {c : Nat} {ys : List Int} {wr : World}
theorem BI.lt (h : BI w n bm A c ys wr) : w.heap.size + 2 < wr.heap.size := (Array.getElem?_eq_some_iff.1 h.bblk).1
theorem OwnR.keep_ {w w' : World} {base : Nat} {v : Value} {xs : List Int} (h : OwnR w base v xs) (hk : ∀ k, base ≤ k → k < w.heap.size → w'.heap[k]? = w.heap[k]?) : OwnR w' base v xs := h.keepFrom hk
theorem BI.up (h : BI w n bm A c ys wr) {w5 : World} (hg : Below wr.heap.size wr w5) : BI w n bm A c ys w5 := by
  have hl := h.lt
  exact ⟨h.bel.trans (hg.mono (by omega)), heap_up h.box hg, heap_up h.sblk hg, heap_up h.bblk hg, h.own.below hg (Nat.le_refl _), h.u⟩
theorem BI.set (h : BI w n bm A c ys wr) {A' : Option Addr} {c' : Nat} {zs : List Int} {bm' : Int} {wa : World} (hu : U64 bm') (ho : OwnR wa (w.heap.size + 3) (.slice A' zs.length c') zs) (hb : Below (w.heap.size + 3) wr wa) :
    BI w n bm' A' c' zs ((wa.setCell ⟨w.heap.size + 2, 3, none⟩ (.int .u64 bm')).setCell ⟨w.heap.size + 2, 4, none⟩ (.slice A' zs.length c')) := by
  have hs : ∀ k, k ≠ w.heap.size + 2 → ((wa.setCell ⟨w.heap.size + 2, 3, none⟩ (.int .u64 bm')).setCell ⟨w.heap.size + 2, 4, none⟩ (.slice A' zs.length c')).heap[k]? = wa.heap[k]? := fun k hk =>
    (Below.heap_setCell _ ⟨w.heap.size + 2, 4, none⟩ _ k hk).trans (Below.heap_setCell _ ⟨w.heap.size + 2, 3, none⟩ _ k hk)
  refine ⟨?_, (hs _ (by omega)).trans ((hb.block _ (by omega)).trans h.box), (hs _ (by omega)).trans ((hb.block _ (by omega)).trans h.sblk), ?_, ho.keepFrom fun k hk _ => hs k (by omega), hu⟩
  · exact ((h.bel.trans (hb.mono (by omega))).setCell (p := ⟨w.heap.size + 2, 3, none⟩) (by simp) _).setCell (p := ⟨w.heap.size + 2, 4, none⟩) (by simp) _
  · exact set_field (set_field ((hb.block (w.heap.size + 2) (by omega)).trans h.bblk) 3 _) 4 _
end
/-- What the result's map is: that of n, but at i. -/
def BV (n : Nd) (i r : Int) (T : Int) (L : List Int) : Prop := ∀ j : Nat, j < 64 → lk T L j = if (j : Int) = i then (if 0 < r then some r else none) else lk n.bm n.bs j
theorem hasB_lk {T : Int} {L : List Int} (h : Ok T L) (j : Int) : hasB T j = (lk T L j).isSome := by
  cases e : hasB T j with
  | false => rw [lk_none e]; rfl
  | true => obtain ⟨z, hz, _⟩ := lk_some h e; rw [hz]; rfl
theorem lookV_lk {n : Nd} {j z : Int} (hc : isC n = true) (h : lk n.bm n.bs j = some z) : hasB n.bm j = true ∧ lookB n j = true ∧ lookV n j = z := by
  have hh : hasB n.bm j = true := by
    cases e : hasB n.bm j
    · rw [lk_none e] at h; cases h
    · rfl
  have hb : lookB n j = true := by unfold lookB; rw [hc, hh]; rfl
  refine ⟨hh, hb, ?_⟩
  unfold lk at h
  rw [hh, if_pos rfl] at h
  unfold lookV
  rw [hb, if_pos rfl]
  have h' : n.bs[pN n.bm j]? = some z := h
  simp [List.getD, h']
theorem lookB_lk {n : Nd} {j : Int} {w : World} {B : Nat} (hc : isC n = true) (hR : NRd w B n) (h : lk n.bm n.bs j = none) : lookB n j = false := by
  have := hasB_lk (isC_Ok hc hR) j
  rw [h] at this
  unfold lookB
  rw [this]; simp
def BuildPost (T : Int) (L : List Int) (w : World) (e : Ending) (w' : World) : Prop := ∃ A c, e = .returned (.agg (mkC T A c L).cs) ∧ RdR w' w'.heap.size A L ∧ (A = none → c = 0) ∧ L.length ≤ c ∧ (∀ ad, A = some ad → w.heap.size ≤ ad.block) ∧ Below w.heap.size w w'
set_option maxHeartbeats 8000000 in
theorem build_any (n : Nd) (i r : Int) (T : Int) (L : List Int) (w : World) (h : GN w n) (hc : isC n = true) (hT : Ok T L) (hv : BV n i r T L) :
    Calls Try.prog 46 #[.agg n.cs, .int .i64 i, .int .i64 r] w (BuildPost T L w) := by
  have mixed := mixedOrders
  obtain ⟨W, hW⟩ : ∃ W, W = ((w.alloc (.cells n.cs 28)).alloc (.cells zV 28)).alloc (.cells (mkC 0 none 0 []).cs 28) := ⟨_, rfl⟩
  have HN := Lib.hid h.rd
  have I0 := Lib.hid (show BI w n 0 none 0 [] W by
    rw [hW]
    refine ⟨(((Below.refl _ w).alloc (Nat.le_refl _) _).alloc (by simp) _).alloc (by simp; omega) _, ?_, ?_, ?_, OwnR.nil_ _ _, u64_zero⟩
    · exact (Below.heap_alloc _ _ _ (by simp; omega)).trans ((Below.heap_alloc _ _ _ (by simp)).trans (heap_alloc_new w _))
    · refine (Below.heap_alloc _ _ _ (by simp)).trans ?_
      have := heap_alloc_new (w.alloc (.cells n.cs 28)) (.cells zV 28); simpa using this
    · have := heap_alloc_new ((w.alloc (.cells n.cs 28)).alloc (.cells zV 28)) (.cells (mkC 0 none 0 []).cs 28); simpa using this)
  have st : Sem.run Try.prog (storeNode (.pointer (some ⟨w.heap.size + 2, 0, none⟩)) (.agg #[.int .i64 3, .int .i64 0, .int .i64 0, .int .u64 0, .slice none 0 0, .int .u64 0, .string ⟨#[]⟩, .int .u64 0, .slice none 0 0, .int .i64 0, .int .i64 0, .int .i64 0, .int .i64 0, .int .i64 0])) (((w.alloc (.cells n.cs 28)).alloc (.cells #[.int .i64 0, .int .i64 0, .int .i64 0, .int .u64 0, .slice none 0 0, .int .u64 0, .string ⟨#[]⟩, .int .u64 0, .slice none 0 0, .int .i64 0, .int .i64 0, .int .i64 0, .int .i64 0, .int .i64 0] 28)).alloc (.cells #[.int .i64 0, .int .i64 0, .int .i64 0, .int .u64 0, .slice none 0 0, .int .u64 0, .string ⟨#[]⟩, .int .u64 0, .slice none 0 0, .int .i64 0, .int .i64 0, .int .i64 0, .int .i64 0, .int .i64 0] 28)) = .ok () W := by
    have := run_storeNode_new ((w.alloc (.cells n.cs 28)).alloc (.cells zV 28)) (mkC 0 none 0 [])
    rw [show ((w.alloc (.cells n.cs 28)).alloc (.cells zV 28)).heap.size = w.heap.size + 2 by simp, ← hW] at this
    exact this
  have HC := Lib.hid hc
  have HT := Lib.hid hT
  have HV := Lib.hid hv
  clear hW h hc hT hv
  go_enter Try.func46, Try.ntmps46
  go_upto_region 2 with (fail)
  clear st
  go_wp2_with fail
  go_loopg [8] 64 (fun kx s8 wr => ∃ (k : Nat) (bm : Int) (A : Option Addr) (c : Nat) (ys : List Int), s8 = .int .i64 k ∧ k ≤ 64 ∧ 64 - k ≤ kx ∧ Aside (bm = low T k ∧ ys = L.take (pN T k)) ∧ Aside (BI w n bm A c ys wr))
  case atStart => exact ⟨0, 0, none, 0, [], rfl, by omega, by omega, ⟨(low_zero T).symm, by
    have e : pN T ((0 : Nat) : Int) = 0 := by unfold pN; rw [pos_lo (by omega)]; rfl
    rw [e]; rfl⟩, I0.out⟩
  case round =>
    clear I0
    obtain ⟨k, bm, A, c, ys, rfl, hk, hkx, E, I⟩ := hrel
    have hyl : ys.length ≤ 64 := by rw [E.out.2]; exact take_len T L k
    by_cases hk64 : k < 64
    · have hlt : (k : Int) < 64 := by omega
      have lv := run_loadNode I.out.box
      have LK := Lib.hid (rlookup_any n k w.heap.size wr (HN.out.below I.out.bel) (by have := I.out.lt; omega))
      have V := Lib.hid (HV.out k hk64)
      have CW := Lib.hid (fun X => rwith_any bm k I.out.u X)
      have hwz : IntKind.i64.wrap ((k : Int) + 1) = (k : Int) + 1 := by rw [IntKind.wrap_i64]; omega
      by_cases hki : (k : Int) = i
      · by_cases hr : 0 < r
        · have VS := Lib.hid (show lk T L k = some r by rw [V.out, if_pos hki, if_pos hr])
          have HH := Lib.hid (show hasB T k = true by rw [hasB_lk HT.out, VS.out]; rfl)
          have hr' : decide (r > 0) = true := decide_eq_true hr
          subst hki
          go_upto_region 9 with (go_at_call 24; refine LK.out.mono ?_; rintro e w4 ⟨rfl, hg⟩; have I4 := Lib.hid (I.out.up hg.b); have c3 := node_cellA I4.out.bblk (i := 3) (v := .int .u64 bm) rfl; have c4 := node_cellA I4.out.bblk (i := 4) (v := .slice A ys.length c) rfl; have f3 := node_frozen I4.out.bblk 3; have f4 := node_frozen I4.out.bblk 4; clear hg)
          have hb5' : w.heap.size + 2 < w4.heap.size := I4.out.lt
          go_region_law (first
            | (refine step_append_anyR (w0 := w4) rfl (.tmp 34) (.tmp 36) rfl (w.heap.size + 3) _ ys rfl (OwnR.drewN (I4.out.own.alloc _) 1) _ 1 1 _ [r] rfl rfl (RdR.drewN (one_rdR w4 r) 1) (fun e => by cases e) (by simp; omega) (below_drew ((Below.refl _ w4).alloc hb5' _) 1) (by simp; omega) ?_
               intro va wa HOa HBa
               obtain ⟨A', c', rfl, _, hA', hc'⟩ := HOa.out.open2
               have c3b := (HBa.cell (p := ⟨w.heap.size + 2, 3, none⟩) (Nat.lt_succ_self _)).trans c3
               have f3b := (HBa.frozen (p := ⟨w.heap.size + 2, 3, none⟩) (Nat.lt_succ_self _)).trans f3
               have c4b := (HBa.cell (p := ⟨w.heap.size + 2, 4, none⟩) (Nat.lt_succ_self _)).trans c4
               have f4b := (HBa.frozen (p := ⟨w.heap.size + 2, 4, none⟩) (Nat.lt_succ_self _)).trans f4)
            | (go_simp; go_at_call 22; refine (CW.out _).mono ?_; rintro e w5 ⟨rfl, rfl⟩))
          all_goals
            have J0 := (show BI w n (withI bm k) A' c' (ys ++ [r]) ((wa.setCell ⟨w.heap.size + 2, 3, none⟩ (.int .u64 (withI bm k))).setCell ⟨w.heap.size + 2, 4, none⟩ (.slice A' (ys ++ [r]).length c')) from I4.out.set (with_u64 _ I4.out.u) HOa.out HBa)
            rw [List.length_append, List.length_singleton] at J0
            have J := Lib.hid J0
            clear J0 c3 c4 f3 f4 c3b f3b c4b f4b HOa HBa hA' hc'
            go_wp2
            go_roundg (64 - (k + 1))
            case measure => omega
            case rel => exact ⟨k + 1, withI bm k, A', c', ys ++ [r], by go_num, by omega, by omega, ⟨by rw [E.out.1]; exact low_yes HT.out.1 HH.out, by rw [E.out.2]; exact take_yes HH.out VS.out⟩, J.out⟩
        · have VS := Lib.hid (show lk T L k = none by rw [V.out, if_pos hki, if_neg hr])
          have HH := Lib.hid (show hasB T k = false by rw [hasB_lk HT.out, VS.out]; rfl)
          have hr' : decide (r > 0) = false := decide_eq_false hr
          subst hki
          go_wp2_with (go_at_call 24; refine LK.out.mono ?_; rintro e w4 ⟨rfl, hg⟩; have I4 := Lib.hid (I.out.up hg.b); clear hg)
          go_roundg (64 - (k + 1))
          case measure => omega
          case rel => exact ⟨k + 1, bm, A, c, ys, by go_num, by omega, by omega, ⟨by rw [E.out.1]; exact low_no HT.out.1 HH.out, by rw [E.out.2]; exact take_no HH.out⟩, I4.out⟩
      · cases e : lk n.bm n.bs k with
        | some z =>
          have VS := Lib.hid (show lk T L k = some z by rw [V.out, if_neg hki, e])
          have HH := Lib.hid (show hasB T k = true by rw [hasB_lk HT.out, VS.out]; rfl)
          have e1 := (lookV_lk HC.out e).2
          rw [e1.1, e1.2] at LK
          clear e e1
          go_upto_region 9 with (go_at_call 24; refine LK.out.mono ?_; rintro e w4 ⟨rfl, hg⟩; have I4 := Lib.hid (I.out.up hg.b); have c3 := node_cellA I4.out.bblk (i := 3) (v := .int .u64 bm) rfl; have c4 := node_cellA I4.out.bblk (i := 4) (v := .slice A ys.length c) rfl; have f3 := node_frozen I4.out.bblk 3; have f4 := node_frozen I4.out.bblk 4; clear hg)
          have hb5' : w.heap.size + 2 < w4.heap.size := I4.out.lt
          go_region_law (first
            | (refine step_append_anyR (w0 := w4) rfl (.tmp 34) (.tmp 36) rfl (w.heap.size + 3) _ ys rfl (OwnR.drewN (I4.out.own.alloc _) 1) _ 1 1 _ [z] rfl rfl (RdR.drewN (one_rdR w4 z) 1) (fun e => by cases e) (by simp; omega) (below_drew ((Below.refl _ w4).alloc hb5' _) 1) (by simp; omega) ?_
               intro va wa HOa HBa
               obtain ⟨A', c', rfl, _, hA', hc'⟩ := HOa.out.open2
               have c3b := (HBa.cell (p := ⟨w.heap.size + 2, 3, none⟩) (Nat.lt_succ_self _)).trans c3
               have f3b := (HBa.frozen (p := ⟨w.heap.size + 2, 3, none⟩) (Nat.lt_succ_self _)).trans f3
               have c4b := (HBa.cell (p := ⟨w.heap.size + 2, 4, none⟩) (Nat.lt_succ_self _)).trans c4
               have f4b := (HBa.frozen (p := ⟨w.heap.size + 2, 4, none⟩) (Nat.lt_succ_self _)).trans f4)
            | (go_simp; go_at_call 22; refine (CW.out _).mono ?_; rintro e w5 ⟨rfl, rfl⟩))
          all_goals
            have J0 := (show BI w n (withI bm k) A' c' (ys ++ [z]) ((wa.setCell ⟨w.heap.size + 2, 3, none⟩ (.int .u64 (withI bm k))).setCell ⟨w.heap.size + 2, 4, none⟩ (.slice A' (ys ++ [z]).length c')) from I4.out.set (with_u64 _ I4.out.u) HOa.out HBa)
            rw [List.length_append, List.length_singleton] at J0
            have J := Lib.hid J0
            clear J0 c3 c4 f3 f4 c3b f3b c4b f4b HOa HBa hA' hc'
            go_wp2
            go_roundg (64 - (k + 1))
            case measure => omega
            case rel => exact ⟨k + 1, withI bm k, A', c', ys ++ [z], by go_num, by omega, by omega, ⟨by rw [E.out.1]; exact low_yes HT.out.1 HH.out, by rw [E.out.2]; exact take_yes HH.out VS.out⟩, J.out⟩
        | none =>
          have VS := Lib.hid (show lk T L k = none by rw [V.out, if_neg hki, e])
          have HH := Lib.hid (show hasB T k = false by rw [hasB_lk HT.out, VS.out]; rfl)
          have e1 := lookB_lk HC.out HN.out e
          rw [e1] at LK
          clear e e1
          go_wp2_with (go_at_call 24; refine LK.out.mono ?_; rintro e w4 ⟨rfl, hg⟩; have I4 := Lib.hid (I.out.up hg.b); clear hg)
          go_roundg (64 - (k + 1))
          case measure => omega
          case rel => exact ⟨k + 1, bm, A, c, ys, by go_num, by omega, by omega, ⟨by rw [E.out.1]; exact low_no HT.out.1 HH.out, by rw [E.out.2]; exact take_no HH.out⟩, I4.out⟩
    · obtain rfl : k = 64 := by omega
      have EB := Lib.hid (E.out.1.trans (low_all HT.out.1))
      have EL := Lib.hid (E.out.2.trans (take_all HT.out))
      have I6 : Hid (BI w n T A c L wr) := by have := I.out; rw [EB.out, EL.out] at this; exact this
      have ld := run_loadNode I6.out.bblk
      have st := run_storeNode (mkC T A c L) I6.out.sblk rfl
      go_wp2_with fail
      obtain ⟨X, hX⟩ : ∃ X, X = wr.setRow (w.heap.size + 1) (mkC T A c L).cs := ⟨_, rfl⟩
      have hg : X.heap[w.heap.size + 1]? = some (.cells (mkC T A c L).cs 28 (0, 0)) := by rw [hX]; exact setRow_heap wr _ _ _ 28 (0, 0) I6.out.sblk
      have BX := Lib.hid (show Below w.heap.size w X by rw [hX]; exact below_setRow I6.out.bel (by omega) _)
      have OX := Lib.hid (show OwnR X (w.heap.size + 3) (.slice A L.length c) L by rw [hX]; exact I6.out.own.keepFrom fun k hk _ => setRow_other _ _ _ _ (by omega))
      rw [← hX]
      clear hX ld st
      obtain ⟨d0, d1, d2, d3, d4, d5, d6, d7, d8, d9, d10, d11, d12, d13⟩ := node_vals hg
      clear hg
      refine bodyPost_ret (v := .agg (mkC T A c L).cs) (by simp [results, Try.results46, go_sem, d0, d1, d2, d3, d4, d5, d6, d7, d8, d9, d10, d11, d12, d13, Nd.cs]) rfl ⟨A, c, rfl, ?_, ?_, ?_, fun ad e => by have := OX.out.fresh_ ad e; omega, BX.out⟩
      all_goals
        obtain ⟨A2, c2, ex, hr2, ha2, hc2⟩ := OX.out.open2
        injection ex with e1 e2 e3
        subst e1 e3
        first | exact hr2 | exact ha2 | exact hc2
end Go.Proofs.Ytcigljjnopfohaa
