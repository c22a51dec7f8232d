/- The plain mathematics of layer 2, third part: the table of math/bits, and the cells that hold it. -/
import Derived.Test.YtadmglkpjpfehaaDoorMath2
import Derived.Below
namespace Go.Proofs.YtadmglkpjpfehaaDoor
open Go.RowKit

def dbIx (t : Nat) : Nat := 2 ^ t * 285870213051353865 % 18446744073709551616 / 288230376151711744
def tabL : List Nat := [0, 1, 56, 2, 57, 49, 28, 3, 61, 58, 42, 50, 38, 29, 17, 4, 62, 47, 59, 36, 45, 43, 51, 22, 53, 39, 33, 30, 24, 18, 12, 5, 63, 55, 48, 27, 60, 41, 37, 16, 46, 35, 44, 21, 52, 32, 23, 11, 54, 26, 40, 15, 34, 20, 31, 10, 25, 14, 19, 9, 13, 8, 7, 6]
theorem db_lt (t : Nat) : dbIx t < 64 := by unfold dbIx; omega
theorem db_tab : ∀ t, t < 64 → tabL[dbIx t]? = some t := by decide +kernel
theorem db_eq {b : Int} (hb : U64 b) (h0 : 0 < b) : IntKind.u64.wrap (bits .and .u64 b (IntKind.u64.wrap (-b)) * 285870213051353865) / 288230376151711744 = ((dbIx (lo b.toNat) : Nat) : Int) := by
  have e : IntKind.u64.wrap (-b) = ((2 ^ 64 - b.toNat : Nat) : Int) := by
    rw [IntKind.wrap_u64]; unfold U64 at hb; simp only [Nat.reducePow]; omega
  rw [e, and_u64 hb (by unfold U64 at *; simp only [Nat.reducePow]; omega), Int.toNat_natCast, lo_neg (nat_lt hb) (by omega), IntKind.wrap_u64]
  unfold dbIx
  generalize 2 ^ lo b.toNat = q
  omega

/-- The table of math/bits lies where the program's text lays it. -/
def Tab (w : World) : Prop := ∀ t, t < 64 → w.cell? ⟨0, dbIx t, none⟩ = some (.int .u8 (t : Int))
theorem Tab.pos {w : World} (h : Tab w) : 0 < w.heap.size := by
  have := World.block_lt_of_cell? w _ (h 0 (by omega))
  simpa using this
theorem Tab.below {w w' : World} (h : Tab w) (hb : Below w.heap.size w w') : Tab w' := fun t ht => (hb.cell (p := ⟨0, dbIx t, none⟩) h.pos).trans (h t ht)
theorem Tab.grown {w w' : World} (h : Tab w) (hg : w.grownBy w' none) : Tab w' := fun t ht => hg.cell (h t ht) (by simp)
theorem tab_cell {w : World} (h : Tab w) {b : Int} (hb : U64 b) (h0 : 0 < b) :
    w.cell? ⟨0, (IntKind.u64.wrap (bits .and .u64 b (IntKind.u64.wrap (-b)) * 285870213051353865) / 288230376151711744).toNat, none⟩ = some (.int .u8 (loI b)) := by
  rw [db_eq hb h0, Int.toNat_natCast]
  exact h _ (lo_lt (nat_lt hb) (by omega))
theorem db_range {b : Int} (hb : U64 b) (h0 : 0 < b) : 0 ≤ IntKind.u64.wrap (bits .and .u64 b (IntKind.u64.wrap (-b)) * 285870213051353865) / 288230376151711744
    ∧ IntKind.u64.wrap (bits .and .u64 b (IntKind.u64.wrap (-b)) * 285870213051353865) / 288230376151711744 < 64 := by
  rw [db_eq hb h0]; have := db_lt (lo b.toNat); omega
theorem lo_range {b : Int} (hb : U64 b) (h0 : 0 < b) : 0 ≤ loI b ∧ loI b < 64 := by
  have := lo_lt (nat_lt hb) (by omega); unfold loI; omega

/-! ### Loops over the elements -/
theorem cnt_zero : cntI 0 = 0 := by unfold cntI; simp [els_zero]
theorem cnt_step {b : Int} (hb : U64 b) (h0 : 0 < b) : cntI b = cntI (wlI b) + 1 := by
  unfold cntI wlI
  rw [els_wl (nat_lt hb) (by omega), Int.toNat_natCast]
  simp
theorem wl_lt' {b : Int} (h0 : 0 < b) : 0 ≤ wlI b ∧ wlI b < b := by
  unfold wlI wl
  have h1 : b.toNat &&& (b.toNat - 1) ≤ b.toNat - 1 := Nat.and_le_right
  omega
end Go.Proofs.YtadmglkpjpfehaaDoor
