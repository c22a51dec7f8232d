/-
  The contracts of the functions of layer 2 that layer 6 calls.
-/
import Derived.Test.YtcigljjnopfohaaWalksA
import Derived.Test.YtcigljjnopfohaaBrA
set_option linter.unusedVariables false
set_option maxRecDepth 100000
namespace Go.Proofs.Ytcigljjnopfohaa
open Go.RowKit
theorem sng_any (i : Int) (w : World) :
    Calls Try.prog 48 #[.int .i64 i] w fun e w' => e = .returned (.int .u64 (sngI i)) ∧ w = w' := by
  by_cases h0 : i < 0
  · have hf : inr i = false := (inr_not i).2 (by omega)
    have S := Lib.hid (sng_out hf); clear hf
    go_enter Try.func48, Try.ntmps48
    go_wp2
    go_ret
    exact ⟨ret_int S.out.symm, rfl⟩
  · by_cases h1 : 64 ≤ i
    · have hf : inr i = false := (inr_not i).2 (by omega)
      have S := Lib.hid (sng_out hf); clear hf
      go_enter Try.func48, Try.ntmps48
      go_wp2
      go_ret
      exact ⟨ret_int S.out.symm, rfl⟩
    · have hf : inr i = true := (inr_iff i).2 (by omega)
      have S := Lib.hid (sng_walk hf); clear hf
      go_enter Try.func48, Try.ntmps48
      go_wp2
      go_ret
      exact ⟨ret_int S.out, rfl⟩
theorem has_any (b i : Int) (hb : U64 b) (w : World) :
    Calls Try.prog 31 #[.int .u64 b, .int .i64 i] w fun e w' => e = .returned (.bool (hasB b i)) ∧ w = w' := by
  have H := Lib.hid hb; clear hb
  go_enter Try.func31, Try.ntmps31
  go_wp2_with (go_at_call 48; refine (sng_any _ _).mono ?_; rintro e w' ⟨rfl, rfl⟩)
  go_ret
  exact ⟨ret_bool (has_walk H.out), rfl⟩
theorem with_any (b i : Int) (hb : U64 b) (w : World) :
    Calls Try.prog 35 #[.int .u64 b, .int .i64 i] w fun e w' => e = .returned (.int .u64 (withI b i)) ∧ w = w' := by
  have H := Lib.hid hb; clear hb
  go_enter Try.func35, Try.ntmps35
  go_wp2_with (go_at_call 48; refine (sng_any _ _).mono ?_; rintro e w' ⟨rfl, rfl⟩)
  go_ret
  exact ⟨ret_int (with_walk H.out), rfl⟩
theorem without_any (b i : Int) (hb : U64 b) (w : World) :
    Calls Try.prog 37 #[.int .u64 b, .int .i64 i] w fun e w' => e = .returned (.int .u64 (wtoI b i)) ∧ w = w' := by
  have H := Lib.hid hb; clear hb
  go_enter Try.func37, Try.ntmps37
  go_wp2_with (go_at_call 48; refine (sng_any _ _).mono ?_; rintro e w' ⟨rfl, rfl⟩)
  go_ret
  exact ⟨ret_int (wto_walk H.out), rfl⟩
theorem position_any (b i : Int) (hb : U64 b) (w : World) :
    Calls Try.prog 32 #[.int .u64 b, .int .i64 i] w fun e w' => e = .returned (.int .i64 (posI b i)) ∧ w = w' := by
  by_cases h0 : i < 0
  · have S := Lib.hid (pos_lo (b := b) (i := i) (by omega))
    clear hb
    go_enter Try.func32, Try.ntmps32
    go_wp2
    go_ret
    exact ⟨ret_int S.out.symm, rfl⟩
  · by_cases h1 : 64 ≤ i
    · have S := Lib.hid (pos_hi (b := b) (i := i) h1)
      have H := Lib.hid hb; clear hb
      go_enter Try.func32, Try.ntmps32
      go_wp2_with (go_at_call 49; refine (count_any _ H.out _).mono ?_; rintro e w' ⟨rfl, rfl⟩)
      go_ret
      exact ⟨ret_int S.out.symm, rfl⟩
    · have hf : inr i = true := (inr_iff i).2 (by omega)
      have S := Lib.hid (pos_mid hb hf)
      have L := Lib.hid (low_u64 hb hf)
      have U := (sng_u64 i).2
      have P := pow_le hf
      have P1 : 1 ≤ sngI i := by unfold sngI; rw [if_pos hf]; have := Nat.two_pow_pos i.toNat; omega
      clear hb hf P
      go_enter Try.func32, Try.ntmps32
      go_wp2_with (first | (go_at_call 48; refine (sng_any _ _).mono ?_; rintro e w' ⟨rfl, rfl⟩) | (go_at_call 49; refine (count_any _ L.out _).mono ?_; rintro e w' ⟨rfl, rfl⟩))
      go_ret
      exact ⟨ret_int S.out, rfl⟩
theorem rwith_any (b i : Int) (hb : U64 b) (w : World) :
    Calls Try.prog 22 #[.int .u64 b, .int .i64 i] w fun e w' => e = .returned (.int .u64 (withI b i)) ∧ w = w' := by
  by_cases h : 0 ≤ i ∧ i < 64
  · obtain ⟨h0, h1⟩ := h
    have S := Lib.hid (refwith_walk hb ((inr_iff i).2 ⟨h0, h1⟩)); clear hb
    go_enter Try.func22, Try.ntmps22
    go_wp2
    go_ret
    exact ⟨ret_int S.out, rfl⟩
  · have S := Lib.hid (with_out (b := b) ((inr_not i).2 h)); clear hb
    by_cases h0 : i < 0
    · clear h
      go_enter Try.func22, Try.ntmps22
      go_wp2
      go_ret
      exact ⟨ret_int S.out.symm, rfl⟩
    · have h1 : 64 ≤ i := by omega
      clear h
      go_enter Try.func22, Try.ntmps22
      go_wp2
      go_ret
      exact ⟨ret_int S.out.symm, rfl⟩
end Go.Proofs.Ytcigljjnopfohaa
