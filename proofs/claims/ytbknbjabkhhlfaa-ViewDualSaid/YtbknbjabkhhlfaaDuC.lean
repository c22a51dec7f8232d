/-
  The walks of with, of meets.
-/
import Derived.Test.YtbknbjabkhhlfaaDuB
import Derived.Test.YtbknbjabkhhlfaaBrG
import Derived.Test.YtbknbjabkhhlfaaKhA
set_option linter.unusedVariables false
set_option maxRecDepth 100000
namespace Go.Proofs.Ytbknbjabkhhlfaa
open Go.Shelf Go.RowKit Go.Lib Go.Sort
section
attribute [local go_sem ↓] exec_load28 exec_store44
def WithP (bm : Int) (L : List Int) (w : World) (e : Ending) (w' : World) : Prop :=
  ∃ A c, e = .returned (.agg (mkC bm A c L).cs) ∧ GN w' (mkC bm A c L) ∧ (∀ ad, A = some ad → w.heap.size ≤ ad.block) ∧ Below w.heap.size w w'
set_option maxHeartbeats 4000000 in
theorem with_c (n : Nd) (i r : Int) (w : World) (h : GN w n) (hok : insOk n i r = true) : Calls Try.prog 43 #[.agg n.cs, .int .i64 i, .int .i64 r] w (WithP (withI n.bm i) (insL n.bm n.bs i r) w) := by
  have mixed := mixedOrders
  obtain ⟨W, hW⟩ : ∃ W, W = (w.alloc (.cells n.cs 35)).alloc (.cells zV 35) := ⟨_, rfl⟩
  have BW := Lib.hid (show Below w.heap.size w W by rw [hW]; exact ((Below.refl _ w).alloc (Nat.le_refl _) _).alloc (by simp) _)
  have HC := Lib.hid (show W.heap[w.heap.size]? = some (.cells n.cs 35 (0, 0)) by rw [hW]; exact (Below.heap_alloc _ _ _ (by simp)).trans (heap_alloc_new w _))
  have HZ := Lib.hid (show W.heap[w.heap.size + 1]? = some (.cells zV 35 (0, 0)) by rw [hW]; have := heap_alloc_new (w.alloc (.cells n.cs 35)) (.cells zV 35); simpa using this)
  have WS := Lib.hid (show W.heap.size = w.heap.size + 2 by rw [hW]; simp)
  have HW := Lib.hid (show (w.alloc (.cells n.cs 35)).alloc (.cells #[.int .i64 0, .int .i64 0, .int .i64 0, .int .u64 0, .slice none 0 0, .int .u64 0, .string ⟨#[]⟩, .int .u64 0, .slice none 0 0, .int .i64 0, .int .i64 0, .int .i64 0, .int .i64 0, .int .i64 0] 35) = W from hW.symm)
  have IN := Lib.hid (inserted_any n i r W (h.up BW.out))
  rw [hok] at IN
  have lv := run_loadNode HC.out
  clear h hok hW
  go_enter Try.func43, Try.ntmps43
  go_upto_region 1 with (fail)
  rw [HW.out]
  clear HW
  go_wp2_with (go_at_call 57; refine IN.out.mono ?_; rintro e w2 ⟨m, rfl, _, hm, hg, hf, hb⟩; obtain ⟨A, c, rfl⟩ := hm rfl; have B2 := Lib.hid hb; have G2 := Lib.hid hg; have F2 := Lib.hid hf; have HC2 := Lib.hid ((hb.block w.heap.size (by rw [WS.out]; omega)).trans HC.out); have HZ2 := Lib.hid ((hb.block (w.heap.size + 1) (by rw [WS.out]; omega)).trans HZ.out); have st := run_storeNode (mkC (withI n.bm i) A c (insL n.bm n.bs i r)) HC2.out rfl; have HC3 := Lib.hid (setRow_heap w2 w.heap.size _ (mkC (withI n.bm i) A c (insL n.bm n.bs i r)).cs 35 (0, 0) HC2.out); have HZ3 := Lib.hid ((setRow_other w2 w.heap.size (w.heap.size + 1) (mkC (withI n.bm i) A c (insL n.bm n.bs i r)).cs (by omega)).trans HZ2.out); have lv3 := run_loadNode HC3.out; have st3 := run_storeNode (mkC (withI n.bm i) A c (insL n.bm n.bs i r)) HZ3.out rfl; clear hm hg hf hb)
  obtain ⟨X, hX⟩ : ∃ X, X = (w2.setRow w.heap.size (mkC (withI n.bm i) A c (insL n.bm n.bs i r)).cs).setRow (w.heap.size + 1) (mkC (withI n.bm i) A c (insL n.bm n.bs i r)).cs := ⟨_, rfl⟩
  have hg : X.heap[w.heap.size + 1]? = some (.cells (mkC (withI n.bm i) A c (insL n.bm n.bs i r)).cs 35 (0, 0)) := by rw [hX]; exact setRow_heap _ _ _ _ 35 (0, 0) HZ3.out
  have GX := Lib.hid (show GN X (mkC (withI n.bm i) A c (insL n.bm n.bs i r)) by
    have hf : ∀ ad, A = some ad → w.heap.size + 2 ≤ ad.block := fun ad e => by have := F2.out.2 ad e; rw [WS.out] at this; exact this
    rw [hX]
    exact gn_C G2.out.rd.bm (rdR_setRow (rdR_setRow G2.out.rd.r (fun ad e => by have := hf ad e; omega) _) (fun ad e => by have := hf ad e; omega) _) G2.out.ba G2.out.bc G2.out.rd.bl)
  have BX := Lib.hid (show Below w.heap.size w X by rw [hX]; exact below_setRow (below_setRow (BW.out.trans (B2.out.mono (by rw [WS.out]; omega))) (Nat.le_refl _) _) (Nat.le_succ _) _)
  rw [← hX]
  clear hX st st3 lv3
  obtain ⟨d0, d1, d2, d3, d4, d5, d6, d7, d8, d9, d10, d11, d12, d13⟩ := node_vals hg
  clear hg
  refine bodyPost_ret (v := .agg (mkC (withI n.bm i) A c (insL n.bm n.bs i r)).cs) (by simp [results, Try.results43, go_sem, d0, d1, d2, d3, d4, d5, d6, d7, d8, d9, d10, d11, d12, d13, Nd.cs]) rfl ⟨A, c, rfl, GX.out, fun ad e => by have := F2.out.2 ad e; rw [WS.out] at this; omega, BX.out⟩
/-- What meets asks. -/
def Meet (o b : Nd) (c level : Int) : Prop := o.kind = 4 ∧ (b.key.size : Int) ≤ 64 ∧ b.key ≠ o.key ∧ level ≤ c
theorem tl_ne {a b : ByteArray} : (a.toList == b.toList) = decide (a = b) := by
  by_cases h : a = b
  · subst h; simp
  · rw [decide_eq_false h, beq_eq_false_iff_ne, Lib.toList_data, Lib.toList_data]
    exact fun e => h (key_ext e)
set_option maxHeartbeats 4000000 in
theorem meets_any (x : Int) (o b : Nd) (c : Nat) (level : Int) (w : World) (hb : U64 b.hash) (ho : o.kind = 4 → U64 o.hash ∧ IsCom o.hash b.hash c) :
    Calls Try.prog 24 #[.agg (cpV x o b), .int .i64 level] w fun e w' => (Meet o b c level → e = .returned (.bool true)) ∧ (¬ Meet o b c level → e = .returned (.bool false)) ∧ Below w.heap.size w w' := by
  have mixed := mixedOrders
  obtain ⟨W, hW⟩ : ∃ W, W = w.alloc (.cells (cpV x o b) 75) := ⟨_, rfl⟩
  have BW := Lib.hid (show Below w.heap.size w W by rw [hW]; exact (Below.refl _ w).alloc (Nat.le_refl _) _)
  have HC := Lib.hid (show W.heap[w.heap.size]? = some (.cells (cpV x o b) 75 (0, 0)) by rw [hW]; exact heap_alloc_new w _)
  have HW := Lib.hid (show (w.alloc (.cells (cpV x o b) 75)) = W from hW.symm)
  have KV := Lib.hid (fun V => kvalid_any b.key V)
  have KC := Lib.hid (fun (hk : o.kind = 4) V => common_any o.hash b.hash c (ho hk).1 hb (ho hk).2 V)
  have c1 := cp_cell HC.out (i := 1) (v := .int .i64 o.kind) rfl
  have c6 := cp_cell HC.out (i := 6) (v := .int .u64 o.hash) rfl
  have c7 := cp_cell HC.out (i := 7) (v := .string o.key) rfl
  have c20 := cp_cell HC.out (i := 20) (v := .int .u64 b.hash) rfl
  have c21 := cp_cell HC.out (i := 21) (v := .string b.key) rfl
  unfold cpV at HW
  clear hW hb ho
  unfold cpV
  by_cases h1 : o.kind = 4
  · have q1 : (o.kind == 4) = true := beq_iff_eq.2 h1
    have HK := Lib.hid h1
    by_cases h2 : (b.key.size : Int) ≤ 64
    · have q2 : decide ((b.key.size : Int) ≤ 64) = true := decide_eq_true h2
      rw [q2] at KV
      by_cases h3 : b.key = o.key
      · have q3 : (b.key.toList == o.key.toList) = true := by rw [tl_ne]; exact decide_eq_true h3
        have HM := Lib.hid (show ¬ Meet o b c level from fun h => h.2.2.1 h3)
        clear h1 h3
        go_enter Try.func24, Try.ntmps24
        go_upto_region 1 with (fail)
        rw [HW.out]
        clear HW
        go_wp2_with (first
          | (go_at_call 39; refine (KV.out _).mono ?_; rintro e w2 ⟨rfl, rfl⟩)
          | (go_at_call 40; refine (KC.out HK.out _).mono ?_; rintro e w2 ⟨rfl, rfl⟩))
        go_ret
        exact ⟨fun h => absurd h HM.out, fun _ => rfl, BW.out⟩
      · have q3 : (b.key.toList == o.key.toList) = false := by rw [tl_ne]; exact decide_eq_false h3
        by_cases h4 : level ≤ c
        · have HM := Lib.hid (show Meet o b c level from ⟨h1, h2, h3, h4⟩)
          clear h1 h3
          go_enter Try.func24, Try.ntmps24
          go_upto_region 1 with (fail)
          rw [HW.out]
          clear HW
          go_wp2_with (first
            | (go_at_call 39; refine (KV.out _).mono ?_; rintro e w2 ⟨rfl, rfl⟩)
            | (go_at_call 40; refine (KC.out HK.out _).mono ?_; rintro e w2 ⟨rfl, rfl⟩))
          go_ret
          exact ⟨fun _ => rfl, fun h => absurd HM.out h, BW.out⟩
        · have HM := Lib.hid (show ¬ Meet o b c level from fun h => h4 h.2.2.2)
          have q4 : decide (level ≤ (c : Int)) = false := decide_eq_false h4
          clear h1 h3
          go_enter Try.func24, Try.ntmps24
          go_upto_region 1 with (fail)
          rw [HW.out]
          clear HW
          go_wp2_with (first
            | (go_at_call 39; refine (KV.out _).mono ?_; rintro e w2 ⟨rfl, rfl⟩)
            | (go_at_call 40; refine (KC.out HK.out _).mono ?_; rintro e w2 ⟨rfl, rfl⟩))
          go_ret
          exact ⟨fun h => absurd h HM.out, fun _ => rfl, BW.out⟩
    · have q2 : decide ((b.key.size : Int) ≤ 64) = false := decide_eq_false h2
      rw [q2] at KV
      have HM := Lib.hid (show ¬ Meet o b c level from fun h => h2 h.2.1)
      clear h1
      go_enter Try.func24, Try.ntmps24
      go_upto_region 1 with (fail)
      rw [HW.out]
      clear HW
      go_wp2_with (first
        | (go_at_call 39; refine (KV.out _).mono ?_; rintro e w2 ⟨rfl, rfl⟩)
        | (go_at_call 40; refine (KC.out HK.out _).mono ?_; rintro e w2 ⟨rfl, rfl⟩))
      go_ret
      exact ⟨fun h => absurd h HM.out, fun _ => rfl, BW.out⟩
  · have q1 : (o.kind == 4) = false := beq_eq_false_iff_ne.2 h1
    have HM := Lib.hid (show ¬ Meet o b c level from fun h => h1 h.1)
    clear h1
    go_enter Try.func24, Try.ntmps24
    go_upto_region 1 with (fail)
    rw [HW.out]
    clear HW
    go_wp2_with (first
      | (go_at_call 39; refine (KV.out _).mono ?_; rintro e w2 ⟨rfl, rfl⟩)
      | (go_at_call 40; refine (KC.out HK.out _).mono ?_; rintro e w2 ⟨rfl, rfl⟩))
    go_ret
    exact ⟨fun h => absurd h HM.out, fun _ => rfl, BW.out⟩
end
end Go.Proofs.Ytbknbjabkhhlfaa
