/- The plain mathematics of layer 1, second part: the order of hash values and keys. -/
import Derived.Test.YtamocjmiiglefaaMath
namespace Go.Proofs.Ytamocjmiiglefaa
open Go.RowKit

/-! ### Strings -/
theorem bl_irr : ∀ x : List UInt8, Op.bytesLess x x = false
  | [] => rfl
  | a :: x => by simp [Op.bytesLess, bl_irr x]
theorem bl_asymm : ∀ x y : List UInt8, Op.bytesLess x y = true → Op.bytesLess y x = false
  | x, [], h => by cases x <;> simp [Op.bytesLess] at h
  | [], _ :: _, _ => rfl
  | a :: x, b :: y, h => by
    simp only [Op.bytesLess, Bool.or_eq_true, Bool.and_eq_true, decide_eq_true_eq, beq_iff_eq, Bool.or_eq_false_iff, Bool.and_eq_false_iff, decide_eq_false_iff_not] at h ⊢
    rcases h with h | ⟨rfl, h⟩
    · simp only [UInt8.lt_iff_toNat_lt] at *
      exact ⟨by omega, Or.inl (by simp only [beq_eq_false_iff_ne, ne_eq, ← UInt8.toNat_inj]; omega)⟩
    · exact ⟨by simp, Or.inr (bl_asymm x y h)⟩
theorem bl_total : ∀ x y : List UInt8, Op.bytesLess x y = false → Op.bytesLess y x = false → x = y
  | [], [], _, _ => rfl
  | [], _ :: _, h, _ => by simp [Op.bytesLess] at h
  | _ :: _, [], _, h => by simp [Op.bytesLess] at h
  | a :: x, b :: y, h, g => by
    simp only [Op.bytesLess, Bool.or_eq_false_iff, Bool.and_eq_false_iff, decide_eq_false_iff_not, beq_eq_false_iff_ne, UInt8.lt_iff_toNat_lt] at h g
    have e : a = b := by rw [← UInt8.toNat_inj]; omega
    subst e
    rw [bl_total x y (by simpa using h.2) (by simpa using g.2)]
theorem bl_trans : ∀ x y z : List UInt8, Op.bytesLess x y = true → Op.bytesLess y z = true → Op.bytesLess x z = true
  | x, y, [], _, h => by cases y <;> simp [Op.bytesLess] at h
  | x, [], _ :: _, h, _ => by cases x <;> simp [Op.bytesLess] at h
  | [], _ :: _, _ :: _, _, _ => rfl
  | a :: x, b :: y, c :: z, h, g => by
    simp only [Op.bytesLess, Bool.or_eq_true, Bool.and_eq_true, decide_eq_true_eq, beq_iff_eq, UInt8.lt_iff_toNat_lt, ← UInt8.toNat_inj] at h g ⊢
    rcases h with h | ⟨h, h'⟩ <;> rcases g with g | ⟨g, g'⟩
    · left; omega
    · left; omega
    · left; omega
    · right; exact ⟨by omega, bl_trans x y z h' g'⟩

/-! ### The order -/
def lessF : Nat → Nat → Int → List UInt8 → Int → List UInt8 → Bool
  | 0, _, _, a, _, b => Op.bytesLess a b
  | n + 1, l, h, a, k, b => if sl h l = sl k l then lessF n (l + 1) h a k b else decide (sl h l < sl k l)
def lessB (h : Int) (a : ByteArray) (k : Int) (b : ByteArray) : Bool := lessF 11 0 h a.toList k b.toList

theorem lessF_irr : ∀ n l h a, lessF n l h a h a = false
  | 0, _, _, a => bl_irr a
  | n + 1, l, h, a => by simp [lessF, lessF_irr n]
theorem lessF_asymm : ∀ n l h a k b, lessF n l h a k b = true → lessF n l k b h a = false
  | 0, _, _, a, _, b, h => bl_asymm a b h
  | n + 1, l, h, a, k, b, e => by
    unfold lessF at *
    by_cases d : sl h l = sl k l
    · rw [if_pos d] at e; rw [if_pos d.symm]; exact lessF_asymm n (l + 1) h a k b e
    · rw [if_neg d] at e; rw [if_neg (Ne.symm d)]; simp at *; omega
theorem lessF_trans : ∀ n l h a k b m c, lessF n l h a k b = true → lessF n l k b m c = true → lessF n l h a m c = true
  | 0, _, _, a, _, b, _, c, e, f => bl_trans a b c e f
  | n + 1, l, h, a, k, b, m, c, e, f => by
    unfold lessF at *
    by_cases d : sl h l = sl k l
    · rw [if_pos d] at e
      by_cases g : sl k l = sl m l
      · rw [if_pos g] at f; rw [if_pos (d.trans g)]; exact lessF_trans n (l + 1) h a k b m c e f
      · rw [if_neg g] at f; rw [if_neg (by omega)]; simp at *; omega
    · rw [if_neg d] at e
      by_cases g : sl k l = sl m l
      · rw [if_neg (by omega)]; simp at *; omega
      · rw [if_neg g] at f; rw [if_neg (by simp at *; omega)]; simp at *; omega
theorem lessF_total : ∀ n l h a k b, lessF n l h a k b = false → lessF n l k b h a = false → (∀ j, l ≤ j → j < l + n → sl h j = sl k j) ∧ a = b
  | 0, _, _, a, _, b, e, f => ⟨fun j _ _ => by omega, bl_total a b e f⟩
  | n + 1, l, h, a, k, b, e, f => by
    unfold lessF at e f
    by_cases d : sl h l = sl k l
    · rw [if_pos d] at e; rw [if_pos d.symm] at f
      have r := lessF_total n (l + 1) h a k b e f
      exact ⟨fun j hj hj' => by
        by_cases e : j = l
        · subst e; exact d
        · exact r.1 j (by omega) (by omega), r.2⟩
    · rw [if_neg d] at e; rw [if_neg (Ne.symm d)] at f; simp at *; omega
theorem lessF_com (h k : Int) (a b : List UInt8) (c : Nat) (hc : IsCom h k c) : ∀ n l, n + l = 11 → l ≤ c → lessF n l h a k b = if c = 11 then Op.bytesLess a b else decide (sl h c < sl k c)
  | 0, l, e, hl => by have := hc.1; rw [if_pos (by omega)]; rfl
  | n + 1, l, e, hl => by
    unfold lessF
    by_cases d : l < c
    · rw [if_pos (hc.2.1 l d)]; exact lessF_com h k a b c hc n (l + 1) (by omega) (by omega)
    · obtain rfl : l = c := by omega
      rw [if_neg (hc.2.2 (by omega)), if_neg (by omega)]
theorem lessB_eq {h k : Int} (a b : ByteArray) (hc : IsCom h k 11) : lessB h a k b = Op.bytesLess a.toList b.toList := by
  unfold lessB; rw [lessF_com h k _ _ 11 hc 11 0 rfl (by omega), if_pos rfl]
theorem lessB_ne {h k : Int} (a b : ByteArray) {c : Nat} (hc : IsCom h k c) (h11 : c < 11) : lessB h a k b = decide (sl h c < sl k c) := by
  unfold lessB; rw [lessF_com h k _ _ c hc 11 0 rfl (by omega), if_neg (by omega)]
theorem lessB_irr (h : Int) (a : ByteArray) : lessB h a h a = false := lessF_irr _ _ _ _
theorem lessB_same (h : Int) (a b : ByteArray) : lessB h a h b = Op.bytesLess a.toList b.toList :=
  lessB_eq a b ⟨by omega, fun _ _ => rfl, fun h => by omega⟩
theorem lessB_asymm {h k : Int} {a b : ByteArray} (e : lessB h a k b = true) : lessB k b h a = false := lessF_asymm _ _ _ _ _ _ e
theorem lessB_trans {h k m : Int} {a b c : ByteArray} (e : lessB h a k b = true) (f : lessB k b m c = true) : lessB h a m c = true := lessF_trans _ _ _ _ _ _ _ _ e f
theorem lessB_total {h k : Int} {a b : ByteArray} (hh : U64 h) (hk : U64 k) (e : lessB h a k b = false) (f : lessB k b h a = false) : h = k ∧ a.toList = b.toList := by
  have r := lessF_total _ _ _ _ _ _ e f
  exact ⟨com_eq hh hk ⟨by omega, fun j hj => r.1 j (by omega) (by omega), fun h => by omega⟩, r.2⟩

/-! ### The slice of any level -/
def slA (h l : Int) : Int := if 0 ≤ l ∧ l < 11 then sl h l.toNat else 0
theorem slA_in (h : Int) (l : Nat) (hl : l < 11) : slA h l = sl h l := by unfold slA; rw [if_pos (by omega)]; rfl
theorem slA_lo (h l : Int) (hl : l < 0) : slA h l = 0 := by unfold slA; rw [if_neg (by omega)]
theorem slA_hi (h l : Int) (hl : 11 ≤ l) : slA h l = 0 := by unfold slA; rw [if_neg (by omega)]
theorem slA_range (h l : Int) : 0 ≤ slA h l ∧ slA h l < 64 := by
  unfold slA; split
  · exact sl_range _ _
  · omega
end Go.Proofs.Ytamocjmiiglefaa
