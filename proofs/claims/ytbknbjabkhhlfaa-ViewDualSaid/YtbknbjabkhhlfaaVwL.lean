/-
  The trie over what the procedure of layer 8 allocates: its traversal.
-/
import Derived.Test.YtbknbjabkhhlfaaVwG
import Derived.Test.YtbknbjabkhhlfaaDuR
import Derived.Test.YtbknbjabkhhlfaaArM2
import Derived.Deep.RegionHeld3
import Derived.Deep.DeepCutAuto
set_option linter.unusedVariables false
set_option maxRecDepth 100000
namespace Go.Proofs.Ytbknbjabkhhlfaa
open Go.Shelf Go.RowKit Go.Lib Go.Sort

theorem opsN_append : ∀ (a b : List (Nd × Int)) (k : Nat), opsN (a ++ b) k = opsN a k ++ opsN b (k + (opsC a).length)
  | [], b, k => rfl
  | (n, v) :: r, b, k => by
    rw [List.cons_append, opsN, opsN, opsN_append r b, List.cons_append, opsC]
    congr 3
    cases hasO n <;> simp
    omega
/-- In Z the allocations l lie, from node f and cell 1 on. -/
structure Lay (Z : Sd) (f : Int) (l : List (Nd × Int)) : Prop where
  n : ∀ (i : Nat) (n : Nd), (opsN l 0)[i]? = some n → sameN n (nodeV Z (f + (i : Int)))
  c : ∀ (j : Nat) (v : Int), (opsC l)[j]? = some v → cellV Z ((j : Int) + 1) = v
theorem Lay.left {Z : Sd} {f : Int} {a b : List (Nd × Int)} (h : Lay Z f (a ++ b)) : Lay Z f a := by
  refine ⟨fun i n hi => h.n i n ?_, fun j v hj => h.c j v ?_⟩
  · rw [opsN_append, List.getElem?_append_left (List.getElem?_eq_some_iff.1 hi).1]; exact hi
  · rw [opsC_append, List.getElem?_append_left (List.getElem?_eq_some_iff.1 hj).1]; exact hj
theorem Lay.rightN {Z : Sd} {f : Int} {a b : List (Nd × Int)} (h : Lay Z f (a ++ b)) {i : Nat} {n : Nd} (hi : (opsN b (opsC a).length)[i]? = some n) : sameN n (nodeV Z (f + (a.length : Int) + (i : Int))) := by
  have := h.n (a.length + i) n (by
    rw [opsN_append, List.getElem?_append_right (by rw [opsN_length]; omega), opsN_length, Nat.add_sub_cancel_left, Nat.zero_add]
    exact hi)
  rw [show f + (a.length : Int) + (i : Int) = f + ((a.length + i : Nat) : Int) by push_cast; omega]
  exact this
theorem Lay.rightC {Z : Sd} {f : Int} {a b : List (Nd × Int)} (h : Lay Z f (a ++ b)) {j : Nat} {v : Int} (hj : (opsC b)[j]? = some v) : cellV Z (((opsC a).length : Int) + (j : Int) + 1) = v := by
  have := h.c ((opsC a).length + j) v (by
    rw [opsC_append, List.getElem?_append_right (by omega), Nat.add_sub_cancel_left]
    exact hj)
  rw [show ((opsC a).length : Int) + (j : Int) + 1 = (((opsC a).length + j : Nat) : Int) + 1 by push_cast; omega]
  exact this
theorem sameN.kind {a b : Nd} (h : sameN a b) : b.kind = a.kind := by obtain ⟨A, c, P, d, rfl⟩ := h; rfl
theorem sameN.main {a b : Nd} (h : sameN a b) : b.main = a.main := by obtain ⟨A, c, P, d, rfl⟩ := h; rfl
theorem sameN.prev {a b : Nd} (h : sameN a b) : b.prev = a.prev := by obtain ⟨A, c, P, d, rfl⟩ := h; rfl
theorem sameN.bs_ {a b : Nd} (h : sameN a b) : b.bs = a.bs := by obtain ⟨A, c, P, d, rfl⟩ := h; rfl
theorem sameN.ps_ {a b : Nd} (h : sameN a b) : b.ps = a.ps := by obtain ⟨A, c, P, d, rfl⟩ := h; rfl
theorem sameN.key_ {a b : Nd} (h : sameN a b) : b.key = a.key := by obtain ⟨A, c, P, d, rfl⟩ := h; rfl
theorem sameN.val_ {a b : Nd} (h : sameN a b) : b.val = a.val := by obtain ⟨A, c, P, d, rfl⟩ := h; rfl
theorem mainB_kind {n : Nd} (h : n.kind = 3 ∨ n.kind = 5 ∨ n.kind = 6) : mainB n = true := by
  unfold mainB
  rcases h with h | h | h <;> simp [h]
/-- The I-node i whose cell contains M, a main node whose Prev contains 0. -/
theorem mainV_of {Z : Sd} {i M : Int} (hk : (nodeV Z i).kind = 2) (hc : cellV Z (nodeV Z i).main = M) (hm : mainB (nodeV Z M) = true) (hp : cellV Z (nodeV Z M).prev = 0) : mainV Z i = some M := by
  have e : pickV Z M = M := by rw [pickV, if_pos hp]
  rw [mainV, if_pos hk, hc, e, if_pos hm]
theorem mainV_kind {Z : Sd} {i M : Int} (h : mainV Z i = some M) : (nodeV Z i).kind = 2 := by
  unfold mainV at h
  split at h
  · assumption
  · cases h
theorem ownPs_inner {n : Nd} (h : n.kind = 2) : ownPs n = [] := by simp [ownPs, h]
theorem ownPs_single {n : Nd} (h : n.kind = 4) : ownPs n = [(n.key, n.val)] := by simp [ownPs, h]
theorem ownPs_list {n : Nd} (h : n.kind = 6) : ownPs n = n.ps := by simp [ownPs, h]

noncomputable def basePs (D : Du) (a : Pr) : List Pr := if D.c = 11 then D.ps else if sl D.K D.c < sl D.H D.c then [(D.key, D.val), a] else [a, (D.key, D.val)]
section
variable {Z : Sd} {D : Du} {f : Int} {a : Pr}
/-- The last node of m levels is a main node, and is not pending. -/
theorem dual_main : ∀ m : Nat, Lay Z f (dualL D f m) → mainB (nodeV Z (f - 1 + ((dualL D f m).length : Int))) = true ∧ cellV Z (nodeV Z (f - 1 + ((dualL D f m).length : Int))).prev = 0
  | 0, h => by
    rw [dualL, baseL] at h ⊢
    by_cases hc : D.c = 11
    · rw [if_pos hc] at h ⊢
      have h1 := h.n 0 _ rfl
      have h2 := h.c 0 0 rfl
      rw [show f - 1 + (([(listN D.K D.ps, (0 : Int))] : List (Nd × Int)).length : Int) = f + ((0 : Nat) : Int) by simp]
      exact ⟨mainB_kind (.inr (.inr (by rw [h1.kind]; rfl))), by rw [h1.prev]; exact h2⟩
    · rw [if_neg hc] at h ⊢
      have h1 := h.n 1 _ rfl
      have h2 := h.c 0 0 rfl
      rw [show ∀ x y : Nd × Int, f - 1 + ((([x, y] : List (Nd × Int)).length : Nat) : Int) = f + ((1 : Nat) : Int) from fun x y => by simp; omega]
      exact ⟨mainB_kind (.inl (by rw [h1.kind]; rfl)), by rw [h1.prev]; exact h2⟩
  | m + 1, h => by
    rw [dualL] at h ⊢
    have h1 := h.rightN (i := 1) rfl
    have h2 := h.rightC (j := 1) (v := 0) rfl
    rw [show f - 1 + (((dualL D f m ++ [(innN D.gen, f - 1 + ((dualL D f m).length : Int)), (cndN (withI 0 (sl D.K (D.c - (m + 1)))) [f + ((dualL D f m).length : Int)], 0)]).length : Nat) : Int) = f + ((dualL D f m).length : Int) + ((1 : Nat) : Int) by rw [List.length_append]; simp; omega]
    refine ⟨mainB_kind (.inl (by rw [h1.kind]; rfl)), ?_⟩
    rw [h1.prev, ← h2]
    congr 1

theorem dual_bel (hx : sameN (singN D.H a.1 a.2) (nodeV Z D.x)) : ∀ m : Nat, Lay Z f (dualL D f m) → ∀ (i : Int) (sn : List Int) (F : Nat), m + 1 ≤ F → mainV Z i = some (f - 1 + ((dualL D f m).length : Int)) → i ∉ sn → (∀ j ∈ i :: sn, f + ((dualL D f m).length : Int) ≤ j) →
    ∃ x : List Int × List Int, belV Z F i sn = some x ∧ contV Z x.1 = basePs D a ∧ (innV Z x.1).length = m + 1
  | 0, h, i, sn, F, hF, hm, hi, hj => by
    obtain ⟨F, rfl⟩ : ∃ G, F = G + 1 := ⟨F - 1, by omega⟩
    have hki := mainV_kind hm
    rw [belV, if_neg hi, hm, Option.bind_some]
    rw [dualL, baseL] at h ⊢
    by_cases hc : D.c = 11
    · rw [if_pos hc] at h ⊢
      have h1 := h.n 0 _ rfl
      rw [show f + ((0 : Nat) : Int) = f by simp] at h1
      rw [show f - 1 + (([(listN D.K D.ps, (0 : Int))] : List (Nd × Int)).length : Int) = f by simp]
      have k6 : (nodeV Z f).kind = 6 := by rw [h1.kind]; rfl
      have kp : (nodeV Z f).ps = D.ps := by rw [h1.ps_]; rfl
      rw [if_neg (by rw [k6]; decide)]
      refine ⟨_, rfl, ?_, ?_⟩
      · simp [contV, ownPs_inner hki, ownPs_list k6, kp, basePs, hc]
      · simp [innV, hki, k6]
    · rw [if_neg hc] at h ⊢
      have h0 := h.n 0 _ rfl
      have h1 := h.n 1 _ rfl
      rw [show ∀ x y : Nd × Int, f - 1 + ((([x, y] : List (Nd × Int)).length : Nat) : Int) = f + ((1 : Nat) : Int) from fun x y => by simp; omega]
      have k3 : (nodeV Z (f + ((1 : Nat) : Int))).kind = 3 := by rw [h1.kind]; rfl
      have kb : (nodeV Z (f + ((1 : Nat) : Int))).bs = if sl D.K D.c < sl D.H D.c then [f, D.x] else [D.x, f] := by rw [h1.bs_]; rfl
      have e0 : f + ((0 : Nat) : Int) = f := by simp
      rw [e0] at h0
      have kf : (nodeV Z f).kind = 4 := by rw [h0.kind]; rfl
      have kx : (nodeV Z D.x).kind = 4 := by rw [hx.kind]; rfl
      have pf : ownPs (nodeV Z f) = [(D.key, D.val)] := by rw [ownPs_single kf, h0.key_, h0.val_]; rfl
      have px : ownPs (nodeV Z D.x) = [a] := by rw [ownPs_single kx, hx.key_, hx.val_]; rfl
      rw [if_pos k3, kb]
      by_cases hs : sl D.K D.c < sl D.H D.c
      · rw [if_pos hs]
        refine ⟨(i :: [f, D.x], i :: sn), by simp [brV, kf, kx], ?_, ?_⟩
        · simp [contV, ownPs_inner hki, pf, px, basePs, hc, hs]
        · simp [innV, hki, kf, kx]
      · rw [if_neg hs]
        refine ⟨(i :: [D.x, f], i :: sn), by simp [brV, kf, kx], ?_, ?_⟩
        · simp [contV, ownPs_inner hki, pf, px, basePs, hc, hs]
        · simp [innV, hki, kf, kx]
  | m + 1, h, i, sn, F, hF, hm, hi, hj => by
    obtain ⟨F, rfl⟩ : ∃ G, F = G + 1 := ⟨F - 1, by omega⟩
    have hki := mainV_kind hm
    rw [belV, if_neg hi, hm, Option.bind_some]
    rw [dualL] at h hj ⊢
    have e1 : f - 1 + (((dualL D f m ++ [(innN D.gen, f - 1 + ((dualL D f m).length : Int)), (cndN (withI 0 (sl D.K (D.c - (m + 1)))) [f + ((dualL D f m).length : Int)], 0)]).length : Nat) : Int) = f + ((dualL D f m).length : Int) + ((1 : Nat) : Int) := by rw [List.length_append]; simp; omega
    have e2 : f + (((dualL D f m ++ [(innN D.gen, f - 1 + ((dualL D f m).length : Int)), (cndN (withI 0 (sl D.K (D.c - (m + 1)))) [f + ((dualL D f m).length : Int)], 0)]).length : Nat) : Int) = f + ((dualL D f m).length : Int) + 2 := by rw [List.length_append]; simp; omega
    rw [e1]
    rw [e2] at hj
    have h0 := h.rightN (i := 0) rfl
    have h1 := h.rightN (i := 1) rfl
    have c0 := h.rightC (j := 0) (v := f - 1 + ((dualL D f m).length : Int)) rfl
    have k3 : (nodeV Z (f + ((dualL D f m).length : Int) + ((1 : Nat) : Int))).kind = 3 := by rw [h1.kind]; rfl
    have kb : (nodeV Z (f + ((dualL D f m).length : Int) + ((1 : Nat) : Int))).bs = [f + ((dualL D f m).length : Int)] := by rw [h1.bs_]; rfl
    rw [show f + ((dualL D f m).length : Int) + ((0 : Nat) : Int) = f + ((dualL D f m).length : Int) by simp] at h0
    have k2 : (nodeV Z (f + ((dualL D f m).length : Int))).kind = 2 := by rw [h0.kind]; rfl
    have mm := dual_main m h.left
    have hmv : mainV Z (f + ((dualL D f m).length : Int)) = some (f - 1 + ((dualL D f m).length : Int)) := by
      refine mainV_of k2 ?_ mm.1 mm.2
      rw [h0.main, ← c0]
      congr 1
    obtain ⟨x, hx1, hx2, hx3⟩ := dual_bel hx m h.left (f + ((dualL D f m).length : Int)) (i :: sn) F (by omega) hmv (fun hmem => by have := hj _ hmem; omega) (fun j hmem => by
      rcases List.mem_cons.1 hmem with rfl | hmem
      · exact Int.le_refl _
      · have := hj _ hmem; omega)
    rw [if_pos k3, kb, brV_one, if_neg (by rw [k2]; decide), if_pos k2, hx1]
    refine ⟨(i :: x.1, x.2), rfl, ?_, ?_⟩
    · show contV Z (i :: x.1) = _
      rw [show contV Z (i :: x.1) = ownPs (nodeV Z i) ++ contV Z x.1 by simp [contV], ownPs_inner hki, List.nil_append, hx2]
    · show (innV Z (i :: x.1)).length = _
      rw [show innV Z (i :: x.1) = i :: innV Z x.1 by simp [innV, hki], List.length_cons, hx3]
/-- The trie whose root has the procedure's last node as its main node. -/
theorem dual_vis (hx : sameN (singN D.H a.1 a.2) (nodeV Z D.x)) (c : Nat) (hc : c ≤ 11) {g : Int} (h : Lay Z f (dualL D f c ++ [(innN g, f - 1 + ((dualL D f c).length : Int))])) {rc : Int} (hr : cellV Z rc = f + ((dualL D f c).length : Int)) :
    ∃ l : List Int, visV Z rc = some l ∧ contV Z l = basePs D a ∧ (innV Z l).length = c + 1 := by
  have h0 := h.rightN (i := 0) rfl
  have c0 := h.rightC (j := 0) (v := f - 1 + ((dualL D f c).length : Int)) rfl
  rw [show f + ((dualL D f c).length : Int) + ((0 : Nat) : Int) = f + ((dualL D f c).length : Int) by simp] at h0
  have k2 : (nodeV Z (f + ((dualL D f c).length : Int))).kind = 2 := by rw [h0.kind]; rfl
  have mm := dual_main c h.left
  have hmv : mainV Z (f + ((dualL D f c).length : Int)) = some (f - 1 + ((dualL D f c).length : Int)) := by
    refine mainV_of k2 ?_ mm.1 mm.2
    rw [h0.main, ← c0]
    congr 1
  have hroot : rootV Z rc = some (f + ((dualL D f c).length : Int)) := by
    have hd : descV Z (cellV Z rc) = f + ((dualL D f c).length : Int) := by rw [hr, descV, if_neg (by rw [k2]; decide)]
    rw [rootV, hd, if_pos k2]
  obtain ⟨x, hx1, hx2, hx3⟩ := dual_bel hx c h.left (f + ((dualL D f c).length : Int)) [] 12 (by omega) hmv (by simp) (fun j hj => by
    rcases List.mem_cons.1 hj with rfl | hj
    · exact Int.le_refl _
    · cases hj)
  exact ⟨x.1, by rw [visV, hroot, Option.bind_some, hx1]; rfl, hx2, hx3⟩
end

end Go.Proofs.Ytbknbjabkhhlfaa
/-
  The reference's order of keys; states that are proper.
-/
set_option linter.unusedVariables false
set_option maxRecDepth 100000
namespace Go.Proofs.Ytbknbjabkhhlfaa
open Go.Shelf Go.RowKit Go.Lib Go.Sort

/-! ### Less of the reference -/
theorem rless_eq (h k : Int) (a b : ByteArray) (hh : U64 h) (hk : U64 k) (hc : IsCom h k 11) (w : World) :
    Calls Try.prog 15 #[.int .u64 h, .string a, .int .u64 k, .string b] w fun e w' => e = .returned (.bool (Op.bytesLess a.toList b.toList)) ∧ w = w' := by
  have H := Lib.hid hh; clear hh
  have K := Lib.hid hk; clear hk
  have C := Lib.hid hc; clear hc
  go_enter Try.func15, Try.ntmps15
  go_wp2
  go_loop [9] (fun i => ∃ j : Nat, j ≤ 11 ∧ i = .int .i64 j) (fun i => 11 - (intOf i).toNat)
  case atStart => exact ⟨0, Nat.zero_le _, rfl⟩
  case round =>
    obtain ⟨j, hj, rfl⟩ := hrel
    by_cases hjc : j < 11
    · have E := C.out.2.1 j hjc
      have hb : (sl h j != sl k j) = false := by simp [E]
      clear E
      go_wp2_with (go_at_call 31; refine (rslice_in _ _ (by first | exact H.out | exact K.out) (by omega) _).mono ?_; rintro e w' ⟨rfl, rfl⟩)
      go_round
      case rel => exact ⟨j + 1, by omega, by go_num⟩
      case measure => simp [intOf]; omega
    · go_wp2
      go_ret
      exact ⟨rfl, rfl⟩
theorem rless_ne (h k : Int) (a b : ByteArray) (c : Nat) (hh : U64 h) (hk : U64 k) (hc : IsCom h k c) (h11 : c < 11) (w : World) :
    Calls Try.prog 15 #[.int .u64 h, .string a, .int .u64 k, .string b] w fun e w' => e = .returned (.bool (decide (sl h c < sl k c))) ∧ w = w' := by
  have H := Lib.hid hh; clear hh
  have K := Lib.hid hk; clear hk
  have C := Lib.hid hc; clear hc
  go_enter Try.func15, Try.ntmps15
  go_wp2
  go_loop [9] (fun i => ∃ j : Nat, j ≤ c ∧ i = .int .i64 j) (fun i => 11 - (intOf i).toNat)
  case atStart => exact ⟨0, Nat.zero_le _, rfl⟩
  case round =>
    obtain ⟨j, hj, rfl⟩ := hrel
    by_cases hjc : j < c
    · have E := C.out.2.1 j hjc
      have hb : (sl h j != sl k j) = false := by simp [E]
      clear E
      go_wp2_with (go_at_call 31; refine (rslice_in _ _ (by first | exact H.out | exact K.out) (by omega) _).mono ?_; rintro e w' ⟨rfl, rfl⟩)
      go_round
      case rel => exact ⟨j + 1, by omega, by go_num⟩
      case measure => simp [intOf]; omega
    · obtain rfl : j = c := by omega
      have E := C.out.2.2 h11
      have hb : (sl h j != sl k j) = true := by simpa using E
      clear E
      go_wp2_with (go_at_call 31; refine (rslice_in _ _ (by first | exact H.out | exact K.out) (by omega) _).mono ?_; rintro e w' ⟨rfl, rfl⟩)
      go_ret
      exact ⟨rfl, rfl⟩
theorem bytesLess_irr : ∀ l : List UInt8, Op.bytesLess l l = false
  | [] => rfl
  | a :: l => by simp [Op.bytesLess, bytesLess_irr l]
theorem bytesLess_more : ∀ (l x : List UInt8), Op.bytesLess (l ++ x) l = false
  | [], x => by cases x <;> rfl
  | a :: l, x => by simp [Op.bytesLess, bytesLess_more l x]
/-- A key with letters behind it. -/
theorem key_more {O key : ByteArray} {x : List UInt8} (h : O.data.toList = key.data.toList ++ x) (hx : x ≠ []) : O ≠ key ∧ kl O key = false ∧ O.size = key.size + x.length := by
  refine ⟨fun e => ?_, ?_, ?_⟩
  · rw [e] at h
    exact hx (by simpa using h)
  · rw [← bl_kl, Lib.toList_data, Lib.toList_data, h]
    exact bytesLess_more _ _
  · have := congrArg List.length h
    simpa using this
/-- The order of the reference, where the first slices that differ are those of level c. -/
noncomputable def lessV (h k : Int) (a b : ByteArray) (c : Nat) : Bool := if c = 11 then kl a b else decide (sl h c < sl k c)
theorem rless_any (h k : Int) (a b : ByteArray) (c : Nat) (hh : U64 h) (hk : U64 k) (hc : IsCom h k c) (w : World) :
    Calls Try.prog 15 #[.int .u64 h, .string a, .int .u64 k, .string b] w fun e w' => e = .returned (.bool (lessV h k a b c)) ∧ w = w' := by
  unfold lessV
  split
  · rename_i h11
    subst h11
    rw [← bl_kl]
    exact rless_eq h k a b hh hk hc w
  · rename_i h11
    exact rless_ne h k a b c hh hk hc (by have := hc.1; omega) w
theorem com_symm {h k : Int} {c : Nat} (a : IsCom h k c) : IsCom k h c := ⟨a.1, fun j hj => (a.2.1 j hj).symm, fun hc e => a.2.2 hc e.symm⟩

/-! ### Proper states -/
theorem SameL.map_ {α : Type} {f : Nd → α} (hf : ∀ a b, sameN a b → f b = f a) {xs ys : List Nd} (h : SameL xs ys) : ys.map f = xs.map f := by
  apply List.ext_getElem?
  intro i
  rw [List.getElem?_map, List.getElem?_map]
  by_cases hi : i < xs.length
  · rw [List.getElem?_eq_getElem hi, List.getElem?_eq_getElem (by rw [← h.1]; exact hi)]
    show some _ = some _
    rw [hf _ _ (h.2 i _ _ (List.getElem?_eq_getElem hi) (List.getElem?_eq_getElem (by rw [← h.1]; exact hi)))]
  · have h1 := h.1
    rw [List.getElem?_eq_none (l := xs) (by omega), List.getElem?_eq_none (l := ys) (by omega)]
theorem all_map {α : Type} (p : α → Bool) (xs : List α) : xs.all p = (xs.map p).all id := by simp [List.all_map]
theorem ownScan_same {s t : Sd} (hc : t.cs = s.cs) : ∀ (xs ys : List Nd) (used : List Nat), ys.map cellOf = xs.map cellOf → ownScan t ys used = ownScan s xs used
  | [], [], used, _ => rfl
  | [], y :: ys, used, h => by simp at h
  | x :: xs, [], used, h => by simp at h
  | x :: xs, y :: ys, used, h => by
    simp only [List.map_cons, List.cons.injEq] at h
    rw [ownScan, ownScan, h.1]
    cases cellOf x with
    | none => exact ownScan_same hc xs ys used h.2
    | some c =>
      show (hasC t c && (_ && _)) = (hasC s c && (_ && _))
      rw [ownScan_same hc xs ys _ h.2]
      simp [hasC, hc]
theorem properB_same {s t : Sd} (h : SameL s.ns t.ns) (hc : t.cs = s.cs) (hg : t.gen = s.gen) : properB t = properB s := by
  have hl := h.1
  have hm : ∀ r, missR t r = missR s r := fun r => by simp [missR, hl]
  have hmb : ∀ xs, missB t xs = missB s xs := fun xs => by simp only [missB]; congr 1; funext r; exact hm r
  have h1 : markedB t = markedB s := by
    have hk : ∀ i, kindAt t i = kindAt s i := fun i => by
      unfold kindAt
      by_cases hi : i < s.ns.length
      · rw [List.getElem?_eq_getElem hi, List.getElem?_eq_getElem (by rw [← hl]; exact hi)]
        exact (h.2 i _ _ (List.getElem?_eq_getElem hi) (List.getElem?_eq_getElem (by rw [← hl]; exact hi))).kind
      · rw [List.getElem?_eq_none (l := s.ns) (by omega), List.getElem?_eq_none (l := t.ns) (by omega)]
    simp [markedB, hk, hl]
  have h2 : nodesB t = nodesB s := by
    rw [nodesB, nodesB, hg, all_map, all_map (xs := s.ns), h.map_ (f := nodeP s.gen) fun a b hab => by
      unfold nodeP
      rw [validN_same hab]
      obtain ⟨A, c, P, d, rfl⟩ := hab
      rfl]
  have h3 : refsB t = refsB s := by
    have e : (fun n => !nodeM t n) = fun n => !nodeM s n := by funext n; simp only [nodeM, hm, hmb]
    rw [refsB, refsB, hc, hmb, e, all_map, all_map (xs := s.ns), h.map_ (f := fun n => !nodeM s n) fun a b hab => by
      obtain ⟨A, c, P, d, rfl⟩ := hab
      rfl]
  have h4 : ownedB t = ownedB s := ownScan_same hc _ _ _ (h.map_ fun a b hab => cellOf_same hab)
  rw [properB, properB, h1, h2, h3, h4]
theorem ownScan_more (s : Sd) (z : Int) : ∀ (ns : List Nd) (used : List Nat), ownScan s ns used = true → ownScan { s with cs := s.cs ++ [z] } ns used = true
  | [], _, _ => rfl
  | n :: ns, used, h => by
    rw [ownScan] at h ⊢
    cases hn : cellOf n with
    | none => rw [hn] at h; exact ownScan_more s z ns used h
    | some c =>
      rw [hn] at h
      simp only [Bool.and_eq_true] at h ⊢
      refine ⟨?_, h.2.1, ownScan_more s z ns _ h.2.2⟩
      have := h.1
      simp [hasC] at this ⊢
      omega
/-- A cell more. -/
theorem properB_more {s : Sd} (h : properB s = true) {z : Int} (hz : 0 ≤ z ∧ z ≤ (s.ns.length : Int)) : properB { s with cs := s.cs ++ [z] } = true := by
  unfold properB at h ⊢
  simp only [Bool.and_eq_true] at h ⊢
  refine ⟨h.1, h.2.1, ?_, ownScan_more s z s.ns [] h.2.2.2⟩
  have h3 := h.2.2.1
  unfold refsB at h3 ⊢
  simp only [Bool.and_eq_true] at h3 ⊢
  refine ⟨h3.1, ?_⟩
  have h4 := h3.2
  simp only [Bool.not_eq_true'] at h4 ⊢
  show List.any _ _ = false
  rw [List.any_append]
  have e : s.cs.any (missR { s with cs := s.cs ++ [z] }) = false := h4
  rw [e]
  have e2 : missR { s with cs := s.cs ++ [z] } z = false := by
    show (decide _ || decide _) = false
    rw [decide_eq_false (by omega), decide_eq_false (by show ¬ (s.ns.length : Int) < z; omega)]
    rfl
  simp [e2]
/-- A state of a tape, with another generation. -/
theorem GS.properG {lo : Nat} {s : Sd} (h : GS lo { s with gen := 3 }) {g : Int} (hg : ∀ n ∈ s.ns, n.gen ≤ g) : properB { s with gen := g } = true := by
  have hp := h.proper
  have h2 : nodesB { s with gen := g } = true := by
    rw [nodesB, List.all_eq_true]
    intro n hn
    have := (h.ok n hn).1
    simp only [nodeP, Bool.and_eq_true, decide_eq_true_eq] at this ⊢
    exact ⟨this.1, hg n hn⟩
  unfold properB at hp ⊢
  simp only [Bool.and_eq_true] at hp ⊢
  exact ⟨hp.1, h2, hp.2.2.1, (ownScan_gen s g 3 s.ns []).trans hp.2.2.2⟩
theorem GS.same {lo lo' : Nat} {s t : Sd} (h : GS lo s) (hl : SameL s.ns t.ns) (hc : t.cs = s.cs) (hg : t.gen = 3) (hf : ∀ n ∈ t.ns, FRs lo' n) : GS lo' t := by
  have at_ : ∀ i n, s.ns[i]? = some n → ∃ m, t.ns[i]? = some m ∧ sameN n m := fun i n hn => by
    have hi := (List.getElem?_eq_some_iff.1 hn).1
    have hm := List.getElem?_eq_getElem (by rw [← hl.1]; exact hi : i < t.ns.length)
    exact ⟨_, hm, hl.2 i _ _ hn hm⟩
  refine ⟨?_, ?_, fun m hm => ?_, ?_, fun z hz => ?_, hg⟩
  · obtain ⟨n, hn, hk⟩ := h.m0
    obtain ⟨m, hm, hs⟩ := at_ 0 n hn
    exact ⟨m, hm, by rw [hs.kind, hk]⟩
  · obtain ⟨n, hn, hk⟩ := h.m1
    obtain ⟨m, hm, hs⟩ := at_ 1 n hn
    exact ⟨m, hm, by rw [hs.kind, hk]⟩
  · obtain ⟨i, hi, rfl⟩ := List.getElem_of_mem hm
    have hi' : i < s.ns.length := by rw [hl.1]; exact hi
    have hs := hl.2 i _ _ (List.getElem?_eq_getElem hi') (List.getElem?_eq_getElem hi)
    have hok := h.ok _ (List.getElem_mem hi')
    refine ⟨?_, ?_, hf _ hm⟩
    · have := hok.1
      unfold nodeP at this ⊢
      rw [validN_same hs]
      have e : t.ns[i].gen = s.ns[i].gen := by
        obtain ⟨A, c, P, d, e⟩ := hs
        rw [e]
      rw [e]
      exact this
    · have := hok.2.1
      rw [← hl.1]
      obtain ⟨A, c, P, d, e⟩ := hs
      rw [e]
      exact this
  · have e : t.ns.filterMap cellOf = s.ns.filterMap cellOf := by
      have := hl.map_ (f := cellOf) fun a b hab => cellOf_same hab
      have e2 : ∀ xs : List Nd, xs.filterMap cellOf = (xs.map cellOf).filterMap id := fun xs => by simp [List.filterMap_map]
      rw [e2, e2, this]
    rw [e, hc]
    exact h.own
  · rw [hc] at hz
    rw [← hl.1]
    exact h.cs z hz

end Go.Proofs.Ytbknbjabkhhlfaa
/-
  Small facts of the laws of layer 9; awake.
-/
set_option linter.unusedVariables false
set_option maxRecDepth 100000
namespace Go.Proofs.Ytbknbjabkhhlfaa
open Go.Shelf Go.RowKit Go.Lib Go.Sort

theorem nodeV_same {s t : Sd} (h : SameL s.ns t.ns) (r : Int) : sameN (nodeV s r) (nodeV t r) := by
  unfold nodeV
  rw [← h.1]
  split
  · rename_i hr
    have hi : (r - 1).toNat < s.ns.length := by omega
    rw [List.getElem?_eq_getElem hi, List.getElem?_eq_getElem (by rw [← h.1]; exact hi)]
    exact h.2 _ _ _ (List.getElem?_eq_getElem hi) (List.getElem?_eq_getElem (by rw [← h.1]; exact hi))
  · exact sameN.refl _
theorem lay_of {lo : Nat} {s t Z : Sd} {l : List (Nd × Int)} (h : Rans lo s t l) (hcs : s.cs = []) (hZ : SameL t.ns Z.ns) {ex : List Int} (hc : Z.cs = t.cs ++ ex) : Lay Z ((s.ns.length : Int) + 1) l := by
  refine ⟨fun i n hi => ?_, fun j v hj => ?_⟩
  · have := nodeV_new h (i := i) (n := n) (by rw [hcs]; exact hi)
    rw [show (s.ns.length : Int) + 1 + (i : Int) = (s.ns.length : Int) + (i : Int) + 1 by omega]
    exact this.trans (nodeV_same hZ _)
  · have e : t.cs = opsC l := by rw [h.cs, hcs]; rfl
    have hjl := (List.getElem?_eq_some_iff.1 hj).1
    unfold cellV
    rw [if_pos (by simp [hasC, hc, e]; omega), show ((j : Int) + 1 - 1).toNat = j by omega, hc, e, List.getElem?_append_left hjl, hj]
    rfl
theorem cell_last {Z : Sd} {cs : List Int} {v : Int} (h : Z.cs = cs ++ [v]) : cellV Z ((cs.length : Int) + 1) = v := by
  unfold cellV
  rw [if_pos (by simp [hasC, h]; omega), show ((cs.length : Int) + 1 - 1).toNat = cs.length by omega, h, List.getElem?_append_right (Nat.le_refl _)]
  simp
theorem Alloced.same {lo : Nat} {s t : Sd} {n n0 : Nd} {v : Int} (h : Alloced lo s t n v) (hs : sameN n0 n) : Alloced lo s t n0 v := by
  obtain ⟨y, h1, h2, h3⟩ := h.ns
  exact ⟨⟨y, h1, (alN_same hs _).trans h2, h3⟩, by rw [h.cs, hasO_same hs], h.gen⟩
theorem Alloced.len {lo : Nat} {s t : Sd} {n : Nd} {v : Int} (h : Alloced lo s t n v) : t.ns.length = s.ns.length + 1 := by
  obtain ⟨y, h1, _⟩ := h.ns
  rw [h1]; simp
theorem SameL.refl_ (xs : List Nd) : SameL xs xs := ⟨rfl, fun i a b ha hb => by rw [ha] at hb; injection hb with hb; rw [hb]; exact sameN.refl _⟩
theorem Alloced.gens {lo : Nat} {s t : Sd} {n : Nd} {v g : Int} (h : Alloced lo s t n v) (hs : ∀ m ∈ s.ns, m.gen ≤ g) (hn : n.gen ≤ g) : ∀ m ∈ t.ns, m.gen ≤ g := by
  obtain ⟨y, h1, h2, _⟩ := h.ns
  intro m hm
  rw [h1] at hm
  rcases List.mem_append.1 hm with hm | hm
  · exact hs m hm
  · rw [List.mem_singleton.1 hm]
    obtain ⟨A, c, P, d, e⟩ := h2
    rw [e]
    exact hn
/-- A state's cells and a trie's, in every world behind. -/
structure Tr (w : World) (s : Sd) (q r : Nat) (c : Int) : Prop where
  q : w.cell? ⟨q, 0, none⟩ = some (.slice s.nA s.ns.length s.nc) ∧ w.cell? ⟨q, 1, none⟩ = some (.slice s.cA s.cs.length s.cc) ∧ w.cell? ⟨q, 2, none⟩ = some (.int .i64 s.gen)
  r : w.cell? ⟨r, 0, none⟩ = some (.int .i64 c) ∧ w.cell? ⟨r, 1, none⟩ = some (.bool false)
/-- Alloc of the reference, with the number that it returns. -/
theorem ralloc_k {base q : Nat} {s : Sd} {w : World} (h : Ob w base 40 q s 0) (n : Nd) (v : Int) (hn : NRd w w.heap.size n) (hnb : n.bA = none → n.bc = 0) (hnp : n.pA = none → n.pc = 0) (hab : 0 < n.bs.length → Av (Mu q s) n.bA) (hap : 0 < n.ps.length → Av (Mu q s) n.pA) {m : Nat} (hm : s.ns.length = m) (hm9 : m < 1000) (hc : s.cs.length < 1000) :
    Calls Try.prog 7 #[.pointer (some ⟨q, 0, none⟩), .agg n.cs, .int .i64 v] w fun e w' => ∃ t, e = .returned (.int .i64 ((m : Int) + 1)) ∧ Alloced w.heap.size s t n v ∧ Ob w' base 40 q t 0 ∧ RowKit.Below base w w' :=
  (ralloc2_any base q s 0 n v w h hn hnb hnp hab hap (by omega) hc).mono fun e w' ⟨t, he, ha, ho, hf, _⟩ => ⟨t, by rw [he, hm], ha, ho, hf.below (Nat.le_trans h.hq (Nat.le_of_lt h.lt)) fun k hk => (h.mu_lt hk).1⟩
/-- NewCell of the reference, with the number that it returns. -/
theorem newc_k {base q : Nat} {s : Sd} {w : World} (h : Ob w base 40 q s 0) (v : Int) {m : Nat} (hm : s.cs.length = m) (hm9 : m < 1000) :
    Calls Try.prog 20 #[.pointer (some ⟨q, 0, none⟩), .int .i64 v] w fun e w' => ∃ g cap, e = .returned (.int .i64 ((m : Int) + 1)) ∧ Ob w' base 40 q (s.addC g cap v) 0 ∧ RowKit.Below base w w' :=
  (newCell_m base q s 0 v w h (by omega)).mono fun e w' ⟨g, cap, he, ho, hf, _⟩ => ⟨g, cap, by rw [he, hm], ho, hf.below (Nat.le_trans h.hq (Nat.le_of_lt h.lt)) fun k hk => (h.mu_lt hk).1⟩
/-- .. of the arena. -/
theorem newc_a {base q : Nat} {s : Sd} {w : World} (h : Ob w base 69 q s 0) (v : Int) (hm9 : s.cs.length < 1000) :
    Calls Try.prog 10 #[.pointer (some ⟨q, 0, none⟩), .int .i64 v] w fun e w' => ∃ g cap, e = .returned (.int .i64 ((s.cs.length : Int) + 1)) ∧ Ob w' base 69 q (s.addC g cap v) 0 ∧ RowKit.Below base w w' :=
  (newCell_a base q s 0 v w h hm9).mono fun e w' ⟨g, cap, he, ho, hf, _⟩ => ⟨g, cap, he, ho, hf.below (Nat.le_trans h.hq (Nat.le_of_lt h.lt)) fun k hk => (h.mu_lt hk).1⟩
/-- Contents and Inner of a trie. -/
theorem cont_call {w : World} {s : Sd} (h : SRd w w.heap.size s) (hp : properB s = true) (hnl : s.ns.length ≤ 900) {c : Int} (ro : Bool) {l : List Int} (hv : visV s c = some l) {ps : List Pr} (hps : contV s l = ps) :
    Calls Try.prog 12 #[.agg #[.slice s.nA s.ns.length s.nc, .slice s.cA s.cs.length s.cc, .int .i64 s.gen], .agg #[.int .i64 c, .bool ro]] w fun e w' => ∃ A cp, e = .returned (.tuple #[.slice A ps.length cp, .int .i64 0]) ∧ Rd w' w'.heap.size A ps ∧ RowKit.Below w.heap.size w w' :=
  (vcontents_any s w.heap.size c ro w h (Nat.le_refl _) hp hnl).mono fun e w' hh => by
    unfold ContP at hh
    rw [hv] at hh
    obtain ⟨A, cp, he, hb, ho⟩ := hh
    rw [hps] at he ho
    obtain ⟨A', c', e', hr, _⟩ := ho.open2
    injection e' with e1 e2 e3
    exact ⟨A, cp, he, by rw [e1]; exact hr, hb⟩
theorem inn_call {w : World} {s : Sd} (h : SRd w w.heap.size s) (hp : properB s = true) (hnl : s.ns.length ≤ 900) {c : Int} (ro : Bool) {l : List Int} (hv : visV s c = some l) {zs : List Int} (hzs : innV s l = zs) :
    Calls Try.prog 14 #[.agg #[.slice s.nA s.ns.length s.nc, .slice s.cA s.cs.length s.cc, .int .i64 s.gen], .agg #[.int .i64 c, .bool ro]] w fun e w' => ∃ A cp, e = .returned (.tuple #[.slice A zs.length cp, .int .i64 0]) ∧ RdR w' w'.heap.size A zs ∧ RowKit.Below w.heap.size w w' :=
  (vinner_any s w.heap.size c ro w h (Nat.le_refl _) hp hnl).mono fun e w' hh => by
    unfold InnP at hh
    rw [hv] at hh
    obtain ⟨A, cp, he, hb, ho⟩ := hh
    rw [hzs] at he ho
    obtain ⟨A', c', e', hr, _⟩ := ho.open2
    injection e' with e1 e2 e3
    exact ⟨A, cp, he, by rw [e1]; exact hr, hb⟩
theorem rd_block {V : World} {g : Nat} {xs : List Pr} (h : V.heap[g]? = some (.cells (flat xs).toArray 56 (0, 0))) : Rd V V.heap.size (some ⟨g, 0, none⟩) xs := fun _ =>
  ⟨_, rfl, (Array.getElem?_eq_some_iff.1 h).1, fun j u hu => by
    rw [Addr.add_lit, Nat.zero_add, cell_of_row V g j _ 56 (0, 0) h]
    simpa using hu⟩
/-- Equal of the reference, of a list and a literal of it. -/
theorem eqP_lit {V : World} {A : Option Addr} {c : Nat} {x : Pr} (h : Rd V V.heap.size A [x]) : Calls Try.prog 18 #[.slice A 1 c, .slice (some ⟨V.heap.size, 0, none⟩) 1 1] (V.alloc (.cells #[.string x.1, .int .u64 x.2] 56)) fun e w' => e = .returned (.bool true) ∧ RowKit.Below V.heap.size V w' :=
  (requalP_any A c [x] (some ⟨V.heap.size, 0, none⟩) 1 [x] (V.heap.size + 1) (V.alloc (.cells #[.string x.1, .int .u64 x.2] 56)) ((h.gr (Nat.le_refl _) ((Gr.refl V).alloc _)).more (by simp)) (one_rd' V x) (by show 1 ≤ 1000000; omega) (by show 1 ≤ 1000000; omega)).mono
    fun e w' ⟨he, q, hq⟩ => ⟨by rw [he, decide_eq_true rfl], by rw [hq]; exact (((Gr.refl V).alloc _).drewN q).b⟩
theorem eqR_lit {V : World} {A : Option Addr} {c : Nat} {x : Int} (h : RdR V V.heap.size A [x]) : Calls Try.prog 32 #[.slice A 1 c, .slice (some ⟨V.heap.size, 0, none⟩) 1 1] (V.alloc (.cells #[.int .i64 x] 29)) fun e w' => e = .returned (.bool true) ∧ RowKit.Below V.heap.size V w' :=
  (requalR_any A c [x] (some ⟨V.heap.size, 0, none⟩) 1 [x] (V.heap.size + 1) (V.alloc (.cells #[.int .i64 x] 29)) ((h.gr (Nat.le_refl _) ((Gr.refl V).alloc _)).more (by simp)) (rdR_row1 V x) (by show 1 ≤ 1000000; omega) (by show 1 ≤ 1000000; omega)).mono
    fun e w' ⟨he, q, hq⟩ => ⟨by rw [he, decide_eq_true rfl], by rw [hq]; exact (((Gr.refl V).alloc _).drewN q).b⟩

/-! ### awake -/
def keyA : ByteArray := ⟨#[97]⟩
def awL : List (Nd × Int) := [(singN 3 keyA 9, 0), (cndN 8 [3], 0), (innN 1, 4)]
theorem aw_vis {Z : Sd} (h : Lay Z 3 awL) (hr : cellV Z 3 = 5) : visV Z 3 = some [5, 3] ∧ contV Z [5, 3] = [(keyA, 9)] ∧ innV Z [5, 3] = [5] := by
  have n0 := h.n 0 _ rfl
  have n1 := h.n 1 _ rfl
  have n2 := h.n 2 _ rfl
  have c0 := h.c 0 0 rfl
  have c1 := h.c 1 4 rfl
  rw [show (3 : Int) + ((0 : Nat) : Int) = 3 by rfl] at n0
  rw [show (3 : Int) + ((1 : Nat) : Int) = 4 by rfl] at n1
  rw [show (3 : Int) + ((2 : Nat) : Int) = 5 by rfl] at n2
  have k3 : (nodeV Z 3).kind = 4 := by rw [n0.kind]; rfl
  have k4 : (nodeV Z 4).kind = 3 := by rw [n1.kind]; rfl
  have k5 : (nodeV Z 5).kind = 2 := by rw [n2.kind]; rfl
  have b4 : (nodeV Z 4).bs = [3] := by rw [n1.bs_]; rfl
  have p3 : ownPs (nodeV Z 3) = [(keyA, 9)] := by rw [ownPs_single k3, n0.key_, n0.val_]; rfl
  have hmv : mainV Z 5 = some 4 := mainV_of k5 (by rw [n2.main, ← c1]; rfl) (mainB_kind (.inl k4)) (by rw [n1.prev]; exact c0)
  have hroot : rootV Z 3 = some 5 := by
    have hd : descV Z (cellV Z 3) = 5 := by rw [hr, descV, if_neg (by rw [k5]; decide)]
    rw [rootV, hd, if_pos k5]
  refine ⟨?_, ?_, ?_⟩
  · rw [visV, hroot, Option.bind_some, belV, if_neg (by simp), hmv, Option.bind_some, if_pos k4, b4]
    simp [brV, k3]
  · simp [contV, ownPs_inner k5, p3]
  · simp [innV, k5, k3]

end Go.Proofs.Ytbknbjabkhhlfaa
/-
  The walk of awake.
-/
set_option linter.unusedVariables false
set_option maxRecDepth 100000
namespace Go.Proofs.Ytbknbjabkhhlfaa
open Go.Shelf Go.RowKit Go.Lib Go.Sort
section
attribute [local go_sem ↓] exec_load28 exec_store44
theorem vn_c8 {rf : Nat} (h : 3 ≤ rf) : VN rf (cndN 8 [3]) := by
  have e : cndN 8 [3] = cndN (withI 0 3) [3] := by
    rw [show withI 0 3 = 8 by decide +kernel]
  rw [e]
  exact vn_one (by decide) ⟨by omega, by omega⟩
set_option maxHeartbeats 8000000 in
theorem vawake_any (w : World) : Calls Try.prog 16 #[] w fun e w' => e = .returned (.bool true) ∧ RowKit.Below w.heap.size w w' := by
  have mixed := mixedOrders
  have RN := Lib.hid (rnew_any w)
  go_enter Try.func16, Try.ntmps16
  go_upto_region 3 with (first
    | (go_at_call 6; refine RN.out.mono ?_; rintro e w1 ⟨g, q, rfl, hob, hb⟩; have O1 := Lib.hid hob; have B1 := Lib.hid hb; have AL := Lib.hid (show Calls Try.prog 7 #[.pointer (some ⟨q, 0, none⟩), .agg #[.int .i64 4, .int .i64 0, .int .i64 0, .int .u64 0, .slice none 0 0, .int .u64 3, .string ⟨#[97]⟩, .int .u64 9, .slice none 0 0, .int .i64 0, .int .i64 0, .int .i64 0, .int .i64 0, .int .i64 0], .int .i64 0] w1 (fun e w' => ∃ t, e = .returned (.int .i64 3) ∧ Alloced w1.heap.size (newS g) t (singN 3 keyA 9) 0 ∧ Ob w' w.heap.size 40 q t 0 ∧ RowKit.Below w.heap.size w1 w') from ralloc_k hob (singN 3 keyA 9) 0 ⟨RdR.nil, Rd.nil, u0, Nat.zero_le _, Nat.zero_le _⟩ (fun _ => rfl) (fun _ => rfl) (fun hh => absurd hh (by decide)) (fun hh => absurd hh (by decide)) (m := 2) rfl (by omega) (by show 0 < 1000; omega)); clear hob hb)
    | (go_at_call 7; refine AL.out.mono ?_; rintro e w2 ⟨t, rfl, hA, hob, hb⟩; have A2 := Lib.hid hA; have O2 := Lib.hid hob; have B2 := Lib.hid (B1.out.trans hb); clear hA hb hob))
  have B3 := Lib.hid (show RowKit.Below w.heap.size w (w2.alloc (.cells #[.int .i64 3] 29)) from B2.out.alloc B2.out.size _)
  have O3 := Lib.hid (O2.out.up (show RowKit.Below w2.heap.size w2 (w2.alloc (.cells #[.int .i64 3] 29)) from (RowKit.Below.refl _ w2).alloc (Nat.le_refl _) _))
  obtain ⟨n3, hn3⟩ : ∃ n3 : Nd, n3 = { Nd.zero with kind := 3, bm := 8, bA := some ⟨w2.heap.size, 0, none⟩, bc := 1, bs := [3] } := ⟨_, rfl⟩
  have HN3 := Lib.hid (show sameN (cndN 8 [3]) n3 by rw [hn3]; exact ⟨_, _, _, _, rfl⟩)
  have HT := Lib.hid (show t.ns.length = 3 by rw [A2.out.len]; rfl)
  have HTC := Lib.hid (show t.cs = [] by rw [A2.out.cs]; rfl)
  have AL3 := Lib.hid (show Calls Try.prog 7 #[.pointer (some ⟨q, 0, none⟩), .agg #[.int .i64 3, .int .i64 0, .int .i64 0, .int .u64 8, .slice (some ⟨w2.heap.size, 0, none⟩) 1 1, .int .u64 0, .string ⟨#[]⟩, .int .u64 0, .slice none 0 0, .int .i64 0, .int .i64 0, .int .i64 0, .int .i64 0, .int .i64 0], .int .i64 0] (w2.alloc (.cells #[.int .i64 3] 29)) (fun e w' => ∃ t2, e = .returned (.int .i64 4) ∧ Alloced (w2.alloc (.cells #[.int .i64 3] 29)).heap.size t t2 (cndN 8 [3]) 0 ∧ Ob w' w.heap.size 40 q t2 0 ∧ RowKit.Below w.heap.size (w2.alloc (.cells #[.int .i64 3] 29)) w') from by
    have hr : RdR (w2.alloc (.cells #[.int .i64 3] 29)) (w2.alloc (.cells #[.int .i64 3] 29)).heap.size (some ⟨w2.heap.size, 0, none⟩) [3] := (rdR_row1 w2 3).more (by simp)
    have := ralloc_k O3.out n3 0 (by rw [hn3]; exact ⟨hr, Rd.nil, by show U64 8; unfold U64; omega, by show 1 ≤ 1000; omega, Nat.zero_le _⟩) (by rw [hn3]; intro h; cases h) (by rw [hn3]; intro _; rfl) (by
      rw [hn3]
      intro _ ad e hmu
      injection e with e
      have := (O2.out.mu_lt hmu).2
      rw [← e] at this
      exact Nat.lt_irrefl _ this) (by rw [hn3]; intro h; exact absurd h (Nat.lt_irrefl 0)) HT.out (by omega) (by rw [HTC.out]; show 0 < 1000; omega)
    rw [hn3] at this
    exact this.mono fun e w' ⟨t2, he, ha, ho, hb⟩ => ⟨t2, he, ha.same (by rw [← hn3]; exact HN3.out), ho, hb⟩)
  clear hn3 HN3 AL RN
  go_upto_region 4 with (go_at_call 7; refine AL3.out.mono ?_; rintro e w4 ⟨t2, rfl, hA, hob, hb⟩; have A4 := Lib.hid hA; have O4 := Lib.hid hob; have B4 := Lib.hid (B3.out.trans hb); clear hA hb hob)
  have c2 := block_cell O4.out.blk (i := 2) (v := .int .i64 t2.gen) rfl
  have f2 := block_frozen O4.out.blk 2
  go_upto_region 5 with (fail)
  obtain ⟨V, hV⟩ : ∃ V, V = w4.setCell ⟨q, 2, none⟩ (.int .i64 1) := ⟨_, rfl⟩
  have OV := Lib.hid (show Ob V w.heap.size 40 q { t2 with gen := 1 } 0 by rw [hV]; exact O4.out.setGen (by decide) (by decide) 1)
  have BV := Lib.hid (show RowKit.Below w.heap.size w V by rw [hV]; exact B4.out.setCell O4.out.hq _)
  rw [← hV]
  clear hV c2 f2 AL3 O4 B4 O3 O2 O1
  have HT2 := Lib.hid (show t2.ns.length = 4 by rw [A4.out.len, HT.out])
  have HTC2 := Lib.hid (show t2.cs = [0] by rw [A4.out.cs, HTC.out]; rfl)
  have AL5 := Lib.hid (show Calls Try.prog 7 #[.pointer (some ⟨q, 0, none⟩), .agg #[.int .i64 2, .int .i64 1, .int .i64 0, .int .u64 0, .slice none 0 0, .int .u64 0, .string ⟨#[]⟩, .int .u64 0, .slice none 0 0, .int .i64 0, .int .i64 0, .int .i64 0, .int .i64 0, .int .i64 0], .int .i64 4] V (fun e w' => ∃ t3, e = .returned (.int .i64 5) ∧ Alloced V.heap.size { t2 with gen := 1 } t3 (innN 1) 4 ∧ Ob w' w.heap.size 40 q t3 0 ∧ RowKit.Below w.heap.size V w') from
    ralloc_k OV.out (innN 1) 4 ⟨RdR.nil, Rd.nil, u0, Nat.zero_le _, Nat.zero_le _⟩ (fun _ => rfl) (fun _ => rfl) (fun hh => absurd hh (by decide)) (fun hh => absurd hh (by decide)) (m := 4) HT2.out (by omega) (by show t2.cs.length < 1000; rw [HTC2.out]; show 1 < 1000; omega))
  go_upto_region 6 with (first
    | (go_at_call 20; refine NC.out.mono ?_; rintro e w7 ⟨g7, cap7, rfl, hob, hb⟩; have O7 := Lib.hid hob; have B7 := Lib.hid (B6.out.trans hb); clear hb hob)
    | (go_at_call 7; refine AL5.out.mono ?_; rintro e w6 ⟨t3, rfl, hA, hob, hb⟩; have A6 := Lib.hid hA; have O6 := Lib.hid hob; have B6 := Lib.hid (BV.out.trans hb); have NC := Lib.hid (show Calls Try.prog 20 #[.pointer (some ⟨q, 0, none⟩), .int .i64 5] w6 (fun e w' => ∃ g cap, e = .returned (.int .i64 3) ∧ Ob w' w.heap.size 40 q (t3.addC g cap 5) 0 ∧ RowKit.Below w.heap.size w6 w') from newc_k hob 5 (m := 2) (by rw [hA.cs]; show ((({ t2 with gen := 1 } : Sd).cs) ++ [4]).length = 2; rw [show ({ t2 with gen := 1 } : Sd).cs = [0] from HTC2.out]; rfl) (by omega)); clear hA hb hob))
  obtain ⟨Z, hZ⟩ : ∃ Z, Z = t3.addC g7 cap7 5 := ⟨_, rfl⟩
  have ZC := Lib.hid (show t3.cs = [0, 4] by rw [A6.out.cs]; show (({ t2 with gen := 1 } : Sd).cs) ++ [4] = _; rw [show ({ t2 with gen := 1 } : Sd).cs = [0] from HTC2.out]; rfl)
  have G3 := Lib.hid (show GS w.heap.size { t3 with gen := 3 } from by
    have g1 := (gs_new w.heap.size g).alloc (s := { newS g with gen := 3 }) (t := { t with gen := 3 }) (n := singN 3 keyA 9) (v := 0) ⟨A2.out.ns, A2.out.cs, rfl⟩ B1.out.size (vn_sing _ 3 keyA 9 (by decide)) ⟨Int.le_refl 0, by show (0 : Int) ≤ 2; omega⟩
    have g2 := g1.alloc (t := { t2 with gen := 3 }) (n := cndN 8 [3]) (v := 0) ⟨A4.out.ns, A4.out.cs, rfl⟩ B3.out.size (vn_c8 (by show 3 ≤ t.ns.length; rw [HT.out]; omega)) ⟨Int.le_refl 0, by show (0 : Int) ≤ (t.ns.length : Int); omega⟩
    exact g2.alloc (t := { t3 with gen := 3 }) (n := innN 1) (v := 4) ⟨A6.out.ns, A6.out.cs, rfl⟩ BV.out.size (vn_inn ⟨Int.le_refl 1, by omega⟩) ⟨by omega, by show (4 : Int) ≤ (t2.ns.length : Int); rw [HT2.out]; omega⟩)
  have PZ := Lib.hid (show properB Z = true from by
    have gens := A6.out.gens (g := 1) (A4.out.gens (g := 1) (A2.out.gens (g := 1) (fun m hm => by
      rcases List.mem_cons.1 hm with rfl | hm
      · decide
      · rcases List.mem_cons.1 hm with rfl | hm
        · decide
        · cases hm) (by decide)) (by decide)) (by decide)
    have p1 := G3.out.properG (g := 1) gens
    have p2 : properB t3 = true := (properB_same (s := { t3 with gen := 1 }) (t := t3) (SameL.refl_ _) rfl A6.out.gen).trans p1
    have p3 := properB_more p2 (z := 5) ⟨by omega, by rw [A6.out.len]; show (5 : Int) ≤ ((t2.ns.length + 1 : Nat) : Int); rw [HT2.out]; omega⟩
    rw [hZ]
    exact (properB_same (s := { t3 with cs := t3.cs ++ [5] }) (t := t3.addC g7 cap7 5) (SameL.refl_ _) rfl rfl).trans p3)
  have LZ := Lib.hid (show Lay Z 3 awL ∧ cellV Z 3 = 5 from by
    have r1 := (Rans.refl 0 (newS g)).snoc A2.out (Nat.zero_le _) (sameN.refl _)
    have r2 := r1.snoc A4.out (Nat.zero_le _) (sameN.refl _)
    have r3 : Rans 0 (newS g) { t3 with gen := t2.gen } awL := r2.snoc (u := { t3 with gen := t2.gen }) ⟨A6.out.ns, A6.out.cs, rfl⟩ (Nat.zero_le V.heap.size) (sameN.refl _)
    have hc : Z.cs = t3.cs ++ [5] := by rw [hZ]; rfl
    refine ⟨lay_of (Z := Z) r3 rfl (by rw [hZ]; exact SameL.refl_ _) (ex := [5]) hc, ?_⟩
    have := cell_last hc
    rw [ZC.out] at this
    exact this)
  have NZ := Lib.hid (show Z.ns.length ≤ 900 by rw [hZ]; show t3.ns.length ≤ 900; rw [A6.out.len]; show t2.ns.length + 1 ≤ 900; rw [HT2.out]; omega)
  rw [← hZ] at O7
  clear hZ ZC G3 A2 A4 A6 HT HTC HT2 HTC2 AL5 NC
  have VZ := Lib.hid (aw_vis LZ.out.1 LZ.out.2)
  clear LZ
  obtain ⟨Y, hY⟩ : ∃ Y, Y = w7.alloc (.cells #[.int .i64 3, .bool false] 49) := ⟨_, rfl⟩
  have BY := Lib.hid (show RowKit.Below w.heap.size w Y by rw [hY]; exact B7.out.alloc B7.out.size _)
  have OY := Lib.hid (show Ob Y w.heap.size 40 q Z 0 by rw [hY]; exact O7.out.up ((RowKit.Below.refl _ w7).alloc (Nat.le_refl _) _))
  have hty : Y.heap[w7.heap.size]? = some (.cells #[.int .i64 3, .bool false] 49 (0, 0)) := by rw [hY]; exact heap_alloc_new w7 _
  have TR := Lib.hid (fun (V : World) (hV : RowKit.Below Y.heap.size Y V) => (⟨by have hb := (OY.out.up hV).blk; exact ⟨block_cell hb rfl, block_cell hb rfl, block_cell hb rfl⟩, by
    have hb := (hV.block w7.heap.size (Array.getElem?_eq_some_iff.1 hty).1).trans hty
    exact ⟨block_cell hb rfl, block_cell hb rfl⟩⟩ : Tr V Z q w7.heap.size 3))
  rw [← hY]
  clear hY hty O7 B7 B6 BV B3 B2 B1 O6
  have BD := Lib.hid (show RowKit.Below Y.heap.size Y Y.drew from ⟨rfl, rfl, rfl, Nat.le_refl _, fun _ _ => rfl⟩)
  have CC := Lib.hid (fun (V : World) (hV : RowKit.Below Y.heap.size Y V) => cont_call ((OY.out.up hV).srd) PZ.out NZ.out false VZ.out.1 VZ.out.2.1)
  have CI := Lib.hid (fun (V : World) (hV : RowKit.Below Y.heap.size Y V) => inn_call ((OY.out.up hV).srd) PZ.out NZ.out false VZ.out.1 VZ.out.2.2)
  have e0 := (TR.out Y (RowKit.Below.refl _ _)).q
  have e3 := (TR.out Y (RowKit.Below.refl _ _)).r
  have CC1 := Lib.hid (CC.out _ BD.out)
  go_region_held3 (fun w' => (w'.cell? ⟨q, 0, none⟩ = some (.slice Z.nA Z.ns.length Z.nc) ∧ w'.cell? ⟨q, 1, none⟩ = some (.slice Z.cA Z.cs.length Z.cc) ∧ w'.cell? ⟨q, 2, none⟩ = some (.int .i64 Z.gen)) ∧ w'.cell? ⟨w7.heap.size, 0, none⟩ = some (.int .i64 3) ∧ w'.cell? ⟨w7.heap.size, 1, none⟩ = some (.bool false))
    (first | exact ⟨(TR.out _ B8.out).q, (TR.out _ B8.out).r⟩ | exact ⟨(TR.out _ BD.out).q, (TR.out _ BD.out).r⟩)
    (first
      | (go_at_call 12; (with_reducible refine CC1.out.mono ?_); rintro e w8 ⟨A8, c8, rfl, hr8, hb⟩; have B8 := Lib.hid (below_of BD.out hb); have R8 := Lib.hid hr8; clear hr8 hb))
  go_upto_region 7 with (fail)
  have f0 := (TR.out _ B8.out).q
  have f3 := (TR.out _ B8.out).r
  have BD8 := Lib.hid (show RowKit.Below w8.heap.size w8 w8.drew from ⟨rfl, rfl, rfl, Nat.le_refl _, fun _ _ => rfl⟩)
  have CI1 := Lib.hid (CI.out w8.drew (below_of B8.out BD8.out))
  go_region_held3 (fun w' => (w'.cell? ⟨q, 0, none⟩ = some (.slice Z.nA Z.ns.length Z.nc) ∧ w'.cell? ⟨q, 1, none⟩ = some (.slice Z.cA Z.cs.length Z.cc) ∧ w'.cell? ⟨q, 2, none⟩ = some (.int .i64 Z.gen)) ∧ w'.cell? ⟨w7.heap.size, 0, none⟩ = some (.int .i64 3) ∧ w'.cell? ⟨w7.heap.size, 1, none⟩ = some (.bool false))
    (first | exact ⟨(TR.out _ (below_of B8.out B9.out)).q, (TR.out _ (below_of B8.out B9.out)).r⟩ | exact ⟨(TR.out _ (below_of B8.out BD8.out)).q, (TR.out _ (below_of B8.out BD8.out)).r⟩)
    (first
      | (go_at_call 14; (with_reducible refine CI1.out.mono ?_); rintro e w9 ⟨A9, c9, rfl, hr9, hb⟩; have B9 := Lib.hid (below_of BD8.out hb); have R9 := Lib.hid hr9; clear hr9 hb))
  have EP := Lib.hid (eqP_lit (c := c8) (R8.out.up B9.out))
  unfold keyA at EP
  go_wp2_with (first
    | (go_at_call 32; (with_reducible refine ER.out.mono ?_); rintro e w11 ⟨rfl, hb⟩; have B11 := Lib.hid hb; clear hb)
    | (go_at_call 18; (with_reducible refine EP.out.mono ?_); rintro e w10 ⟨rfl, hb⟩; have B10 := Lib.hid hb; have ER := Lib.hid (eqR_lit (c := c9) (R9.out.up hb)); clear hb))
  go_ret
  exact ⟨rfl, BY.out.trans ((B8.out.mono BY.out.size).trans ((B9.out.mono (Nat.le_trans BY.out.size B8.out.size)).trans ((B10.out.mono (Nat.le_trans (Nat.le_trans BY.out.size B8.out.size) B9.out.size)).trans (B11.out.mono (Nat.le_trans (Nat.le_trans (Nat.le_trans BY.out.size B8.out.size) B9.out.size) B10.out.size)))))⟩
end
end Go.Proofs.Ytbknbjabkhhlfaa
/-
  What the law ViewDual is about: the trie's state is proper, and what its traversal gives.
-/
set_option linter.unusedVariables false
set_option maxRecDepth 100000
namespace Go.Proofs.Ytbknbjabkhhlfaa
open Go.Shelf Go.RowKit Go.Lib Go.Sort

theorem nodeV_prefix {s u : Sd} {ys : List Nd} (h : u.ns = s.ns ++ ys) {r : Int} (hr : 1 ≤ r ∧ r ≤ (s.ns.length : Int)) : nodeV u r = nodeV s r := by
  unfold nodeV
  rw [if_pos hr, if_pos (by rw [h, List.length_append]; omega), h, List.getElem?_append_left (by omega)]
theorem fRs_zero (n : Nd) : FRs 0 n := ⟨fun _ _ => Nat.zero_le _, fun _ _ => Nat.zero_le _⟩
theorem Rans.gen_ {lo : Nat} {s t : Sd} {l : List (Nd × Int)} (h : Rans lo s t l) (g : Int) : Rans lo { s with gen := g } { t with gen := g } l := ⟨h.ns, h.cs, rfl⟩
/-- The pairs that the law wants. -/
noncomputable def wantV (h K : Int) (key other : ByteArray) (v w : Int) (c : Nat) : List Pr := if lessV K h other key c = true then [(other, w), (key, v)] else [(key, v), (other, w)]
theorem base_want {n : Nd} {h K : Int} {key other : ByteArray} {v w x gen : Int} {c : Nat} (hn : sameN (singN h key v) n) (hne : other ≠ key) (hc : IsCom h K c) :
    basePs (duOf n x K other w gen c) (key, v) = wantV h K key other v w c := by
  rw [duOf_same hn]
  unfold basePs wantV lessV duOf
  by_cases h11 : c = 11
  · simp only [h11, if_true]
    rw [ofL_two (by exact fun e => hne e.symm)]
    rfl
  · simp only [h11, if_false, decide_eq_true_eq]
    rfl

structure VdF (Z : Sd) (rc : Int) (want : List Pr) (c : Nat) : Prop where
  p : properB Z = true
  n : Z.ns.length ≤ 900
  v : ∃ l, visV Z rc = some l ∧ contV Z l = want ∧ (innV Z l).length = c + 1
theorem vd_facts {lo lo' : Nat} {t sa u Z : Sd} {h K v w : Int} {key other : ByteArray} {c : Nat} (GT : GS lo { t with gen := 3 }) (hsl : SameL t.ns sa.ns) (hcs : sa.cs = t.cs) (htc : t.cs = []) (hlen : sa.ns.length = 3) (hgen : sa.gen = 5)
    (hx : sameN (singN h key v) (nodeV sa 3)) (hC : IsCom h K c) (hne : other ≠ key) (hk : key.size ≤ 64) (ho : other.size ≤ 64)
    (R : Rans lo' sa u (dualL (duOf (nodeV sa 3) 3 K other w 1 c) ((sa.ns.length : Int) + 1) c ++ [(innN 2, (sa.ns.length : Int) + ((dualL (duOf (nodeV sa 3) 3 K other w 1 c) ((sa.ns.length : Int) + 1) c).length : Int))]))
    (hZ : SameL u.ns Z.ns) (hZc : Z.cs = u.cs ++ [(sa.ns.length : Int) + 1 + ((dualL (duOf (nodeV sa 3) 3 K other w 1 c) ((sa.ns.length : Int) + 1) c).length : Int)]) (hZg : Z.gen = u.gen) :
    VdF Z ((u.cs.length : Int) + 1) (wantV h K key other v w c) c := by
  obtain ⟨D, hD⟩ : ∃ D, D = duOf (nodeV sa 3) 3 K other w 1 c := ⟨_, rfl⟩
  rw [← hD] at R hZc
  have hf := same_f hx
  have hDx : D.x = 3 := by rw [hD]; rfl
  have hDg : D.gen = 1 := by rw [hD]; rfl
  have hDk : D.key = other := by rw [hD]; rfl
  have hDc : D.c = c := by rw [hD]; rfl
  have hDK : D.K = K := by rw [hD]; rfl
  have hDH : D.H = h := by rw [hD]; exact hf.2.1
  have hDp : D.ps = ofL [(key, v), (other, w)] := by
    rw [hD]
    show ofL [((nodeV sa 3).key, (nodeV sa 3).val), (other, w)] = _
    rw [hf.2.2.1, hf.2.2.2]
    rfl
  have hlp := dual_pos D ((sa.ns.length : Int) + 1) c
  have hc11 := hC.1
  have G1 : GS 0 { sa with gen := 3 } := GT.same hsl hcs rfl fun n _ => fRs_zero n
  have hok : OpsOk 3 (dualL D ((3 : Nat) + 1 : Int) c ++ [(innN 2, 3 + ((dualL D ((3 : Nat) + 1 : Int) c).length : Int))]) := by
    refine (dual_opsOk ⟨by rw [hDx]; omega, by rw [hDg]; omega, by rw [hDk]; exact ho, fun _ => ?_, fun h11 => ?_⟩ c).snoc (vn_inn ⟨by omega, by omega⟩) ⟨by omega, by push_cast; omega⟩
    · rw [hDp]; exact ofL_ok (fun e => hne e.symm) hk ho
    · rw [hDH, hDK, hDc] at *
      exact hC.2.2 (by omega)
  have hl3 : ((sa.ns.length : Nat) : Int) = 3 := by rw [hlen]; rfl
  rw [hl3] at R hZc hlp
  have G2 : GS 0 { u with gen := 3 } := G1.rans (Nat.zero_le lo') _ _ _ rfl (by show OpsOk sa.ns.length _; rw [hlen]; exact hok) (R.gen_ 3)
  have hug : u.gen = 5 := by rw [R.gen, hgen]
  have hul := R.len
  rw [hlen] at hul
  simp only [List.length_append, List.length_singleton] at hul
  have P1 : properB u = true := (properB_same (s := { u with gen := 5 }) (t := u) (SameL.refl_ _) rfl hug).trans G2.proper5
  have P2 := properB_more P1 (z := 3 + 1 + ((dualL D (3 + 1) c).length : Int)) ⟨by omega, by rw [hul]; push_cast; omega⟩
  refine ⟨(properB_same (s := { u with cs := u.cs ++ [3 + 1 + ((dualL D (3 + 1) c).length : Int)] }) (t := Z) hZ hZc hZg).trans P2, by rw [← hZ.1]; omega, ?_⟩
  have hLay := lay_of (Z := Z) R (by rw [hcs, htc]) hZ hZc
  rw [hl3] at hLay
  obtain ⟨ys, hys, _, _⟩ := R.ns
  have hxZ : sameN (singN D.H (key, v).1 (key, v).2) (nodeV Z D.x) := by
    rw [hDH, hDx]
    have e : nodeV u 3 = nodeV sa 3 := nodeV_prefix hys (by rw [hlen]; omega)
    exact hx.trans (e ▸ nodeV_same hZ 3)
  have hr : cellV Z ((u.cs.length : Int) + 1) = 3 + 1 + ((dualL D (3 + 1) c).length : Int) := cell_last hZc
  have hL2 : Lay Z (3 + 1) (dualL D (3 + 1) c ++ [(innN 2, (3 : Int) + 1 - 1 + ((dualL D (3 + 1) c).length : Int))]) := by
    rw [show (3 : Int) + 1 - 1 = 3 by omega]
    exact hLay
  obtain ⟨l, h1, h2, h3⟩ := dual_vis hxZ c hc11 hL2 hr
  refine ⟨l, h1, h2.trans ?_, h3⟩
  rw [hD]
  exact base_want hx hne hC

/-- Contents and Inner of a copy of the state. -/
theorem cont_callV {V : World} {Z : Sd} {rc : Int} {want : List Pr} {c : Nat} (h : SRd V V.heap.size Z) (F : VdF Z rc want c) :
    Calls Try.prog 12 #[.agg Z.vals, .agg #[.int .i64 rc, .bool false]] V fun e w' => ∃ A cp, e = .returned (.tuple #[.slice A want.length cp, .int .i64 0]) ∧ Rd w' w'.heap.size A want ∧ RowKit.Below V.heap.size V w' := by
  obtain ⟨l, h1, h2, _⟩ := F.v
  exact cont_call h F.p F.n false h1 h2
theorem inn_callV {V : World} {Z : Sd} {rc : Int} {want : List Pr} {c : Nat} (h : SRd V V.heap.size Z) (F : VdF Z rc want c) :
    Calls Try.prog 14 #[.agg Z.vals, .agg #[.int .i64 rc, .bool false]] V fun e w' => ∃ A cp, e = .returned (.tuple #[.slice A (c + 1) cp, .int .i64 0]) ∧ RowKit.Below V.heap.size V w' := by
  obtain ⟨l, h1, _, h3⟩ := F.v
  exact (inn_call h F.p F.n false h1 rfl).mono fun e w' ⟨A, cp, he, _, hb⟩ => ⟨A, cp, by rw [he, h3], hb⟩

end Go.Proofs.Ytbknbjabkhhlfaa
