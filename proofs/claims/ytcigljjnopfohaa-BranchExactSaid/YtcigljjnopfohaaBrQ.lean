/-
  Layer 6: more small facts of the laws.
-/
import Derived.Test.YtcigljjnopfohaaBrP
set_option linter.unusedVariables false
set_option maxRecDepth 100000
namespace Go.Proofs.Ytcigljjnopfohaa
open Go.Shelf Go.RowKit Go.Lib Go.Sort

theorem map_at {m : Nd} {f : Int → Option Int} (h : IsMap m f) {x : Int} (hi : inr x = true) : fN m x = f x := by
  have hx := (inr_iff x).1 hi
  have := h.fN x.toNat (by omega)
  rwa [show ((x.toNat : Nat) : Int) = x by omega] at this
/-- The node with n's bitmap and branches alone. -/
theorem plain_any (n : Nd) (V : World) (hG : GN V n) (hc : isC n = true) (hl : n.bs.length ≤ 64) : Calls Try.prog 16 #[.int .u64 n.bm, .slice n.bA n.bs.length n.bc] V fun e w' => ∃ p : Nd, e = .returned (.agg p.cs) ∧ GN w' p ∧ IsMap p (fN n) ∧ Below V.heap.size V w' :=
  (cnode_any n.bm n.bA n.bc n.bs V).mono fun e w' ⟨he, hg⟩ => ⟨_, he, (gn_C hG.rd.bm hG.rd.r hG.ba hG.bc (by omega)).up hg.b, map_plain hc hG.rd _ _, hg.b⟩
theorem look_none {n : Nd} {V : World} {x : Int} (hG : GN V n) (hc : isC n = true) (e : fN n x = none) : Calls Try.prog 12 #[.agg n.cs, .int .i64 x] V fun e w' => e = .returned (.tuple #[.int .i64 0, .bool false]) ∧ Gr V w' := by
  have := lookup_any n x V.heap.size V hG.rd (Nat.le_refl _)
  rw [(look_fN hc hG.rd x).1, (look_fN hc hG.rd x).2, e] at this
  exact this
theorem look_some {n : Nd} {V : World} {x z : Int} (hG : GN V n) (hc : isC n = true) (e : fN n x = some z) : Calls Try.prog 12 #[.agg n.cs, .int .i64 x] V fun e w' => e = .returned (.tuple #[.int .i64 z, .bool true]) ∧ Gr V w' := by
  have := lookup_any n x V.heap.size V hG.rd (Nat.le_refl _)
  rw [(look_fN hc hG.rd x).1, (look_fN hc hG.rd x).2, e] at this
  exact this
theorem equal2 {V : World} {x y : Nd} (hx : GN V x) (hy : GN V y) (e : eqN x y = true) : Calls Try.prog 17 #[.agg x.cs, .agg y.cs] V fun e w' => e = .returned (.bool true) ∧ Gr V w' := by
  have := requal_any x y V.heap.size V hx.rd hy.rd (Nat.le_refl _)
  rwa [e] at this
/-- A result whose ok is known. -/
def CY (m : Nd) (f : Int → Option Int) (V : World) (e : Ending) (w' : World) : Prop := ∃ y : Nd, e = .returned (.tuple #[.agg y.cs, .bool true]) ∧ IsMap y f ∧ GN w' y ∧ Below V.heap.size V w'
theorem ins_y {n : Nd} {V : World} {x r : Int} (hG : GN V n) (hc : isC n = true) (hi : inr x = true) (e : fN n x = none) (hr : 1 ≤ r) : Calls Try.prog 13 #[.agg n.cs, .int .i64 x, .int .i64 r] V (CY n (fun j => if j = x then some r else fN n j) V) :=
  (inserted_any n x r V hG).mono fun e' w' ⟨y, he, _, y1, gy, _, hb⟩ => by
    have h := map_ins (ok := true) hc hG.rd hi e hr y1
    exact ⟨y, by rw [he, h.1], h.2, gy, hb⟩
theorem upd_y {n : Nd} {V : World} {x r z : Int} (hG : GN V n) (hc : isC n = true) (e : fN n x = some z) (hr : 1 ≤ r) : Calls Try.prog 14 #[.agg n.cs, .int .i64 x, .int .i64 r] V (CY n (fun j => if j = x then some r else fN n j) V) :=
  (updated_any n x r V hG).mono fun e' w' ⟨y, he, _, y1, gy, _, hb⟩ => by
    have h := map_upd hc hG.rd (by rw [e]; rfl) hr y1
    exact ⟨y, by rw [he, h.1], h.2, gy, hb⟩
theorem rem_y {n : Nd} {V : World} {x z : Int} (hG : GN V n) (hc : isC n = true) (e : fN n x = some z) : Calls Try.prog 15 #[.agg n.cs, .int .i64 x] V (CY n (fun j => if j = x then none else fN n j) V) :=
  (removed_any n x V hG).mono fun e' w' ⟨y, he, _, y1, gy, _, hb⟩ => by
    have h := map_rem hc hG.rd (by rw [e]; rfl) y1
    exact ⟨y, by rw [he, h.1], h.2, gy, hb⟩
/-- A result that is none. -/
def C0 (V : World) (e : Ending) (w' : World) : Prop := e = .returned (.tuple #[.agg Nd.zero.cs, .bool false]) ∧ Below V.heap.size V w'
theorem ins_0 {n : Nd} {V : World} {x r z : Int} (hG : GN V n) (hc : isC n = true) (e : fN n x = some z) (hr : 1 ≤ r) : Calls Try.prog 13 #[.agg n.cs, .int .i64 x, .int .i64 r] V (C0 V) :=
  (inserted_any n x r V hG).mono fun e' w' ⟨y, he, y0, _, gy, _, hb⟩ => by
    have h := (oks_some hc hG.rd e hr).1
    exact ⟨by rw [he, h, y0 h], hb⟩
theorem upd_0 {n : Nd} {V : World} {x r : Int} (hG : GN V n) (hc : isC n = true) (hi : inr x = true) (e : fN n x = none) (hr : 1 ≤ r) : Calls Try.prog 14 #[.agg n.cs, .int .i64 x, .int .i64 r] V (C0 V) :=
  (updated_any n x r V hG).mono fun e' w' ⟨y, he, y0, _, gy, _, hb⟩ => by
    have h := (oks_none hc hG.rd hi e hr).2.1
    exact ⟨by rw [he, h, y0 h], hb⟩
theorem rem_0 {n : Nd} {V : World} {x : Int} (hG : GN V n) (hc : isC n = true) (hi : inr x = true) (e : fN n x = none) : Calls Try.prog 15 #[.agg n.cs, .int .i64 x] V (C0 V) :=
  (removed_any n x V hG).mono fun e' w' ⟨y, he, y0, _, gy, _, hb⟩ => by
    have h := (oks_none (r := 1) hc hG.rd hi e (by omega)).2.2
    exact ⟨by rw [he, h, y0 h], hb⟩
end Go.Proofs.Ytcigljjnopfohaa
