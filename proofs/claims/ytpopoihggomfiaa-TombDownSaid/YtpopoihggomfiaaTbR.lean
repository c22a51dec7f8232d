/-
  Layer 7: small facts of TombUndo.
-/
import Derived.Test.YtpopoihggomfiaaTbQ
set_option linter.unusedVariables false
set_option maxRecDepth 100000
namespace Go.Proofs.Ytpopoihggomfiaa
open Go.Shelf Go.RowKit Go.Lib Go.Sort
def snN (h : Int) (k : ByteArray) (v : Int) : Nd := { Nd.zero with kind := 4, hash := h, key := k, val := v }
theorem snN_lit (h : Int) (k : ByteArray) (v : Int) : (snN h k v).cs = #[.int .i64 4, .int .i64 0, .int .i64 0, .int .u64 0, .slice none 0 0, .int .u64 h, .string k, .int .u64 v, .slice none 0 0, .int .i64 0, .int .i64 0, .int .i64 0, .int .i64 0, .int .i64 0] := rfl
def iN : Nd := { Nd.zero with kind := 2, gen := 1, main := 1 }
theorem iN_lit : iN.cs = #[.int .i64 2, .int .i64 1, .int .i64 1, .int .u64 0, .slice none 0 0, .int .u64 0, .string ⟨#[]⟩, .int .u64 0, .slice none 0 0, .int .i64 0, .int .i64 0, .int .i64 0, .int .i64 0, .int .i64 0] := rfl
theorem gn_sn (w : World) (h : Int) (k : ByteArray) (v : Int) : GN w (snN h k v) := ⟨⟨RdR.nil, Rd.nil, u64_zero, Nat.zero_le _, Nat.zero_le _⟩, fun _ => rfl, fun _ => rfl, Nat.le_refl _, Nat.le_refl _⟩
theorem u16_of_wf {h : Int} (w : (Lit.int .u16 h).wf = true) : 0 ≤ h ∧ h ≤ 65535 := by
  have a : IntKind.u16.min = 0 := by decide
  have b : IntKind.u16.max = 65535 := by decide
  simp [Lit.wf, a, b] at w
  omega
theorem ref_ok {a : Int} (w : (Lit.int .u16 a).wf = true) : 1 ≤ wrap64 (1 + wrap64 a) := by
  have h := u16_of_wf w
  unfold wrap64; omega
theorem lev_ok {a : Int} (w : (Lit.int .u8 a).wf = true) : 1 ≤ wrap64 (1 + wrap64 (a.tmod 11)) := by
  have h := u8_of_wf w
  rw [Int.tmod_eq_emod_of_nonneg h.1]
  unfold wrap64; omega
theorem cnt_sng {i : Int} (h : inr i = true) : cntI (sngI i) = 1 := by
  have hu := sng_u64 i
  have e : sngI i = ((2 ^ i.toNat : Nat) : Int) := by unfold sngI; rw [h]; rfl
  have hp : 0 < sngI i := by rw [e]; have := Nat.two_pow_pos i.toNat; omega
  rw [cnt_step hu hp]
  have h0 : wlI (sngI i) = 0 := by
    unfold wlI wl
    rw [e, Int.toNat_natCast]
    have := wl_eq i.toNat 0
    simp only [Nat.mul_zero, Nat.zero_add, Nat.mul_one] at this
    rw [this]; rfl
  rw [h0, cnt_zero]; rfl
theorem bit_ok {a : Int} (w : (Lit.int .u8 a).wf = true) : cntI (IntKind.u64.wrap (2 ^ min (IntKind.u64.wrap (a.tmod 64)).toNat 64)) = 1 ∧ U64 (IntKind.u64.wrap (2 ^ min (IntKind.u64.wrap (a.tmod 64)).toNat 64)) := by
  have h := u8_of_wf w
  have e : IntKind.u64.wrap (a.tmod 64) = a.tmod 64 := by
    rw [Int.tmod_eq_emod_of_nonneg h.1, IntKind.wrap_u64]; omega
  have hi : inr (a.tmod 64) = true := by rw [inr_iff, Int.tmod_eq_emod_of_nonneg h.1]; omega
  have hm : min (a.tmod 64).toNat 64 = (a.tmod 64).toNat := by have := (inr_iff _).1 hi; omega
  rw [e, hm, sng_walk hi]
  exact ⟨cnt_sng hi, sng_u64 _⟩
theorem ctr_yes {bm r l h v : Int} {A : Option Addr} {k : ByteArray} (hb : cntI bm = 1) (hr : 1 ≤ r) (hl : 1 ≤ l) : ctrV (cN bm A 1 [r]) l (snN h k v) = tombN (snN h k v) := by
  have hc := isC_cN (bm := bm) (A := A) (c := 1) (L := [r]) (by rw [hb]; rfl) (by intro z hz; simp at hz; omega)
  have hs : soleB (cN bm A 1 [r]) = true := by simp only [soleB, hc, Bool.true_and]; rfl
  have hl' : decide (0 < l) = true := decide_eq_true (by omega)
  simp [ctrV, ctrB, hs, hl', snN]
theorem ctr_two (bm l : Int) (A : Option Addr) (c : Nat) (x y : Int) (s : Nd) : ctrV (cN bm A c [x, y]) l s = cN bm A c [x, y] := by
  have hs : soleB (cN bm A c [x, y]) = false := by simp [soleB, cN]
  simp [ctrV, ctrB, hs]
theorem ctr_iN (n : Nd) (l : Int) : ctrV n l iN = n := by simp [ctrV, ctrB, iN]
theorem unt_of {y : Nd} {h v : Int} {k : ByteArray} (hv : Vw y (tombN (snN h k v))) : untB y = true ∧ untV y = snN h k v := by
  obtain ⟨A, c, P, d, rfl⟩ := hv
  exact ⟨rfl, rfl⟩
theorem or_U {a b : Int} (ha : U64 a) (hb : U64 b) : U64 (bits .or .u64 a b) := by
  rw [or_u64 ha hb]
  exact u64_nat _ (Nat.or_lt_two_pow (nat_lt ha) (nat_lt hb))
end Go.Proofs.Ytpopoihggomfiaa
