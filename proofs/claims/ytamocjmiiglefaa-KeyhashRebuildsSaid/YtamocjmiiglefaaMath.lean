/- The plain mathematics of layer 1: slices of a 64-bit number, their first difference, FNV-1a over a list of bytes. Nothing of the dump is imported. -/
import Derived.WalkKit
import Derived.Laws.BitsAllLaws
namespace Go.Proofs.Ytamocjmiiglefaa
open Go.RowKit

/-- A number of 64 bits. -/
def U64 (h : Int) : Prop := 0 ≤ h ∧ h < 18446744073709551616

theorem u64_of_wf {h : Int} (w : (Lit.int .u64 h).wf = true) : U64 h := by
  have a : IntKind.u64.min = 0 := by decide
  have b : IntKind.u64.max = 18446744073709551615 := by decide
  simp [Lit.wf, a, b] at w
  unfold U64; omega

theorem u8_of_wf {h : Int} (w : (Lit.int .u8 h).wf = true) : 0 ≤ h ∧ h ≤ 255 := by
  have a : IntKind.u8.min = 0 := by decide
  have b : IntKind.u8.max = 255 := by decide
  simp [Lit.wf, a, b] at w
  omega

/-- The slice of a level. -/
def sl (h : Int) (l : Nat) : Int := ((h.toNat / 64 ^ l % 64 : Nat) : Int)
theorem sl_range (h : Int) (l : Nat) : 0 ≤ sl h l ∧ sl h l < 64 := by unfold sl; omega

theorem shr_sl (h : Int) (l : Nat) (hh : U64 h) :
    wrap64 (bits BinOp.and IntKind.u64 (h / 2 ^ (6 * (l : Int)).toNat) 63) = sl h l := by
  obtain ⟨h0, h1⟩ := hh
  obtain ⟨n, rfl⟩ := Int.eq_ofNat_of_zero_le h0
  have e : (6 * (l : Int)).toNat = 6 * l := by omega
  have e2 : ((n : Int) / 2 ^ (6 * l)) = ((n / 2 ^ (6 * l) : Nat) : Int) := by simp
  have hlt : n / 2 ^ (6 * l) < 18446744073709551616 := Nat.lt_of_le_of_lt (Nat.div_le_self _ _) (by omega)
  rw [e, e2, show (63 : Int) = ((63 : Nat) : Int) from rfl, u64_and_nat _ 63 hlt (by decide), nat_mask6]
  have p : (2 : Nat) ^ (6 * l) = 64 ^ l := by rw [Nat.pow_mul]
  rw [p]; unfold sl
  have q : ((n : Int)).toNat = n := rfl
  rw [q]
  exact IntWalk.wrap64_in _ (by omega)

/-- What is left behind n divisions by 64. -/
def dv (h : Int) (n : Nat) : Int := ((h.toNat / 64 ^ n : Nat) : Int)
theorem dv_range (h : Int) (n : Nat) (hh : U64 h) : 0 ≤ dv h n ∧ dv h n ≤ 18446744073709551615 := by
  have := Nat.div_le_self h.toNat (64 ^ n)
  unfold dv U64 at *
  generalize h.toNat / 64 ^ n = q at *
  omega
theorem dv_zero (h : Int) (h0 : 0 ≤ h) : dv h 0 = h := by unfold dv; simp; omega
theorem dv_succ (h : Int) (n : Nat) (hh : U64 h) : IntKind.u64.wrap ((dv h n).tdiv 64) = dv h (n + 1) := by
  have r := dv_range h n hh
  rw [IntWalk.u64_quo _ _ ⟨r.1, r.2, by omega⟩]
  unfold dv; rw [Nat.pow_succ, ← Nat.div_div_eq_div_mul]; omega
theorem dv_mod (h : Int) (n : Nat) : wrap64 ((dv h n).tmod 64) = sl h n := by
  have r : 0 ≤ dv h n := Int.natCast_nonneg _
  rw [IntWalk.rem_in _ _ r]
  have e : dv h n % 64 = sl h n := by unfold dv sl; rw [Int.natCast_emod]; rfl
  have := sl_range h n
  rw [e, IntWalk.wrap64_in _ (by omega)]

/-- 'c' is the number of levels whose slices are equal. -/
def IsCom (h k : Int) (c : Nat) : Prop := c ≤ 11 ∧ (∀ j, j < c → sl h j = sl k j) ∧ (c < 11 → sl h c ≠ sl k c)

theorem com_from (h k : Int) : ∀ n c : Nat, n + c = 11 → (∀ j, j < c → sl h j = sl k j) → ∃ c, IsCom h k c
  | 0, c, e, hc => ⟨c, by omega, hc, fun h => by omega⟩
  | n + 1, c, e, hc => by
    by_cases d : sl h c = sl k c
    · exact com_from h k n (c + 1) (by omega) fun j hj => by
        by_cases hjc : j = c
        · subst hjc; exact d
        · exact hc j (by omega)
    · exact ⟨c, by omega, hc, fun _ => d⟩
theorem com_ex (h k : Int) : ∃ c, IsCom h k c := com_from h k 11 0 rfl fun j hj => by omega
theorem com_un {h k : Int} {c d : Nat} (a : IsCom h k c) (b : IsCom h k d) : c = d := by
  obtain ⟨a1, a2, a3⟩ := a
  obtain ⟨b1, b2, b3⟩ := b
  rcases Nat.lt_trichotomy c d with h | h | h
  · exact absurd (b2 c h) (a3 (by omega))
  · exact h
  · exact absurd (a2 d h) (b3 (by omega))

/-- Numbers whose eleven slices are equal are equal. -/
theorem nat_slices_n : ∀ (n h k : Nat), h < 64 ^ n → k < 64 ^ n → (∀ j, j < n → h / 64 ^ j % 64 = k / 64 ^ j % 64) → h = k
  | 0, h, k, h1, k1, _ => by simp at h1 k1; omega
  | n + 1, h, k, h1, k1, e => by
    have e0 := e 0 (by omega)
    have r := nat_slices_n n (h / 64) (k / 64) (by rw [Nat.pow_succ] at h1; omega) (by rw [Nat.pow_succ] at k1; omega) fun j hj => by
      have := e (j + 1) (by omega)
      rwa [Nat.pow_succ, Nat.mul_comm, ← Nat.div_div_eq_div_mul, ← Nat.div_div_eq_div_mul] at this
    simp at e0
    omega
theorem nat_slices {h k : Nat} (h1 : h < 18446744073709551616) (k1 : k < 18446744073709551616) (e : ∀ j, j < 11 → h / 64 ^ j % 64 = k / 64 ^ j % 64) : h = k :=
  nat_slices_n 11 h k (by simp only [Nat.reducePow]; omega) (by simp only [Nat.reducePow]; omega) e
theorem com_eq {h k : Int} (hh : U64 h) (hk : U64 k) (a : IsCom h k 11) : h = k := by
  obtain ⟨h0, h1⟩ := hh
  obtain ⟨k0, k1⟩ := hk
  have := nat_slices (h := h.toNat) (k := k.toNat) (by omega) (by omega) fun j hj => by
    have := a.2.1 j hj
    unfold sl at this; omega
  omega

/-- One byte more. -/
def fstep (x : Int) (c : UInt8) : Int := IntKind.u64.wrap (bits BinOp.xor IntKind.u64 x (c.toNat : Int) * 1099511628211)
theorem byte_u64 (c : UInt8) : IntKind.u64.wrap (c.toNat : Int) = (c.toNat : Int) := by
  have := c.toNat_lt; exact IntWalk.u64_in _ (by omega)
theorem fstep_walk (x : Int) (c : UInt8) : IntKind.u64.wrap (bits BinOp.xor IntKind.u64 x (IntKind.u64.wrap (c.toNat : Int)) * 1099511628211) = fstep x c := by
  rw [byte_u64, fstep]
def fnv (l : List UInt8) : Int := l.foldl fstep 14695981039346656037
theorem fnv_snoc (l : List UInt8) (c : UInt8) : fnv (l ++ [c]) = fstep (fnv l) c := by simp [fnv]
theorem fnv_nil : fnv [] = 14695981039346656037 := rfl
theorem fstep_u64 (x : Int) (c : UInt8) : U64 (fstep x c) := by unfold fstep U64; rw [IntKind.wrap_u64]; omega
theorem fold_u64 : ∀ (l : List UInt8) (x : Int), U64 x → U64 (l.foldl fstep x)
  | [], _, h => h
  | c :: l, x, _ => fold_u64 l _ (fstep_u64 x c)
theorem fnv_u64 (l : List UInt8) : U64 (fnv l) := fold_u64 l _ (by unfold U64; omega)
theorem take_snoc (s : ByteArray) (k : Nat) (h : k < s.size) : s.data.toList.take (k + 1) = s.data.toList.take k ++ [s[k]] := by
  rw [List.take_succ_eq_append_getElem (by simpa using h)]; rfl
theorem fnv_take (s : ByteArray) (k : Nat) (h : k < s.size) : fnv (s.data.toList.take (k + 1)) = fstep (fnv (s.data.toList.take k)) s[k] := by
  rw [take_snoc s k h, fnv_snoc]

/-- The hash value of a key for a mask. -/
def hsh (s : ByteArray) (m : Int) : Int := bits BinOp.and IntKind.u64 (fnv s.data.toList) m
theorem and_u64 (a b : Int) (ha : U64 a) (hb : U64 b) : bits BinOp.and IntKind.u64 a b = ((a.toNat &&& b.toNat : Nat) : Int) := u64_and a b ha.1 ha.2 hb.1 hb.2
theorem hsh_u64 (s : ByteArray) (m : Int) (hm : U64 m) : U64 (hsh s m) := by
  unfold hsh; rw [and_u64 _ _ (fnv_u64 _) hm]
  have := fnv_u64 s.data.toList
  have := Nat.and_le_left (n := (fnv s.data.toList).toNat) (m := m.toNat)
  unfold U64 at *; omega
end Go.Proofs.Ytamocjmiiglefaa
