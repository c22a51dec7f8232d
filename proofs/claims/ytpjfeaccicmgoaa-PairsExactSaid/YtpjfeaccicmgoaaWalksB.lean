/-
  The walk of the library's rotation of two neighbouring blocks.
-/
import Derived.Test.YtpjfeaccicmgoaaWalksA
set_option linter.unusedVariables false
namespace Go.Proofs.Ytpjfeaccicmgoaa
open Go.Shelf Go.RowKit Go.Lib Go.Sort

theorem SwpR.left {a b n : Nat} {d d' : Array Pr} (h : SwpR a b n d d') {t : Nat} (h1 : a ≤ t) (h2 : t < a + n) : d'[t]! = d[t - a + b]! := by rw [h, if_pos ⟨h1, h2⟩]
theorem SwpR.right {a b n : Nat} {d d' : Array Pr} (h : SwpR a b n d d') {t : Nat} (hab : a + n ≤ b) (h1 : b ≤ t) (h2 : t < b + n) : d'[t]! = d[t - b + a]! := by rw [h, if_neg (by omega), if_pos ⟨h1, h2⟩]
theorem SwpR.other {a b n : Nat} {d d' : Array Pr} (h : SwpR a b n d d') {t : Nat} (h1 : t < a ∨ a + n ≤ t) (h2 : t < b ∨ b + n ≤ t) : d'[t]! = d[t]! := by rw [h, if_neg (by omega), if_neg (by omega)]

theorem get_congr (d : Array Pr) {i j : Nat} (h : i = j) : d[i]! = d[j]! := by rw [h]

/-- The last exchange: two blocks of one length. -/
theorem rotd_end {m i : Nat} {d d' : Array Pr} (h : SwpR (m - i) m i d d') (hs : d'.size = d.size) (him : i ≤ m) : Rotd (m - i) m (m + i) d d' :=
  ⟨hs, fun t ht => h.other (by omega) (by omega), fun t h1 h2 => h.left h1 (by omega), fun t h1 h2 => (h.right (by omega) (by omega) h2).trans (get_congr d (by omega)), fun t ht => h.other (by omega) (by omega)⟩
theorem rotd_gt {m i j : Nat} {d d' T : Array Pr} (h : SwpR (m - i) m j d d') (hs : d'.size = d.size) (him : i ≤ m) (hji : j < i) (hT : Rotd (m - (i - j)) m (m + j) d' T) : Rotd (m - i) m (m + j) d T := by
  refine ⟨hT.size.trans hs, fun t ht => ?_, fun t h1 h2 => ?_, fun t h1 h2 => ?_, fun t ht => ?_⟩
  · rw [hT.lo t (by omega)]; exact h.other (by omega) (by omega)
  · rw [hT.lo t (by omega)]; exact h.left h1 (by omega)
  · by_cases c : t < m - (i - j) + j
    · rw [hT.fst t (by omega) (by omega)]; exact (h.right (by omega) (by omega) (by omega)).trans (get_congr d (by omega))
    · rw [hT.snd t (by omega) h2]; exact (h.other (by omega) (by omega)).trans (get_congr d (by omega))
  · rw [hT.hi t ht]; exact h.other (by omega) (by omega)
theorem rotd_lt {m i j : Nat} {d d' T : Array Pr} (h : SwpR (m - i) (m + j - i) i d d') (hs : d'.size = d.size) (him : i ≤ m) (hij : i < j) (hT : Rotd (m - i) m (m + (j - i)) d' T) : Rotd (m - i) m (m + j) d T := by
  refine ⟨hT.size.trans hs, fun t ht => ?_, fun t h1 h2 => ?_, fun t h1 h2 => ?_, fun t ht => ?_⟩
  · rw [hT.lo t (by omega)]; exact h.other (by omega) (by omega)
  · by_cases c : t < m - i + (j - i)
    · rw [hT.fst t (by omega) (by omega)]; exact (h.other (by omega) (by omega)).trans (get_congr d (by omega))
    · rw [hT.snd t (by omega) (by omega)]; exact (h.left (by omega) (by omega)).trans (get_congr d (by omega))
  · rw [hT.hi t (by omega)]; exact (h.right (by omega) (by omega) (by omega)).trans (get_congr d (by omega))
  · rw [hT.hi t (by omega)]; exact h.other (by omega) (by omega)

/-- swapRange's contract, its numbers as the caller has them. -/
theorem swapRange_at (blk off cap a b n : Nat) (za zb zn : Int) (ha : za = a) (hzb : zb = b) (hn : zn = n) (sz : Nat) (d0 d : Array Pr) (hsz' : sz = d.size) (w0 w : World) (R : RowK enc 2 w0 blk off d0) (hs : d0.size = d.size) (S : SWK enc 2 w0 blk off d w)
    (hab : a + n ≤ b) (hb : b + n ≤ d.size) (hsz : d.size < 4611686018427387904) :
    Calls Try.prog 45 #[.slice (some ⟨blk, off, none⟩) sz cap, .int .i64 za, .int .i64 zb, .int .i64 zn, .func (.func 32) #[] #[]] w fun e w' =>
      e = .returned (.tuple #[]) ∧ ∃ d', d'.size = d.size ∧ SwpR a b n d d' ∧ SWK enc 2 w0 blk off d' w' := by
  subst ha hzb hn hsz'
  exact swapRange_any blk off cap a b n d0 d w0 w R hs S hab hb hsz

set_option maxHeartbeats 4000000 in
set_option maxRecDepth 100000 in
theorem rotate_any (blk off cap a m b : Nat) (d0 d : Array Pr) (w0 w : World) (R : RowK enc 2 w0 blk off d0) (hs : d0.size = d.size) (S : SWK enc 2 w0 blk off d w)
    (ham : a < m) (hmb : m < b) (hb : b ≤ d.size) (hsz : d.size < 4611686018427387904) :
    Calls Try.prog 43 #[.slice (some ⟨blk, off, none⟩) d.size cap, .int .i64 a, .int .i64 m, .int .i64 b, .func (.func 32) #[] #[]] w fun e w' =>
      e = .returned (.tuple #[]) ∧ ∃ d', d'.size = d.size ∧ Rotd a m b d d' ∧ SWK enc 2 w0 blk off d' w' := by
  have S0 : Aside _ := S
  have HS : Aside _ := hs
  clear S hs
  go_enter Try.func43, Try.ntmps43
  go_wp2
  go_loopg [10, 11] (m - a + (b - m)) (fun kx s10 s11 wr => ∃ (i j : Nat) (dk : Array Pr), s10 = .int .i64 i ∧ s11 = .int .i64 j ∧ 1 ≤ i ∧ 1 ≤ j ∧ i ≤ m - a ∧ j ≤ b - m ∧ i + j ≤ kx ∧ Aside (dk.size = d.size) ∧ Aside (SWK enc 2 w0 blk off dk wr) ∧ Aside (∀ T, Rotd (m - i) m (m + j) dk T → Rotd a m b d T))
  case atStart =>
    exact ⟨m - a, b - m, d, by congr 1; omega, by congr 1; omega, by omega, by omega, Nat.le_refl _, Nat.le_refl _, Nat.le_refl _, rfl, S0, (fun T h => by rw [show m - (m - a) = a by omega, show m + (b - m) = b by omega] at h; exact h)⟩
  case round =>
    clear S0
    obtain ⟨i, j, dk, rfl, rfl, hi1, hj1, hia, hjb, hkx, DS, S1, I⟩ := hrel
    have hds := DS.out
    by_cases heq : i = j
    · subst heq
      clear hds
      go_wp2_with (go_at_call 45; refine (swapRange_at blk off cap (m - i) m i _ _ _ (by omega) rfl rfl _ d0 dk DS.out.symm w0 _ R (HS.out.trans DS.out.symm) S1.out (by omega) (by rw [DS.out]; omega) (by rw [DS.out]; exact hsz)).mono ?_; rintro e w' ⟨rfl, d', hs', hsw, S2⟩)
      go_end0
      exact ⟨rfl, d', hs'.trans DS.out, I.out d' (rotd_end hsw hs' (by omega)), S2⟩
    · have hne : ((i : Int) == (j : Int)) = false := by simp; omega
      have hne' : ((i : Int) != (j : Int)) = true := by simp; omega
      clear hds heq
      by_cases hgt : j < i
      · have hd : decide ((i : Int) > (j : Int)) = true := decide_eq_true (by omega)
        go_wp2_with (go_at_call 45; refine (swapRange_at blk off cap (m - i) m j _ _ _ (by omega) rfl rfl _ d0 dk DS.out.symm w0 _ R (HS.out.trans DS.out.symm) S1.out (by omega) (by rw [DS.out]; omega) (by rw [DS.out]; exact hsz)).mono ?_; rintro e w' ⟨rfl, d', hs', hsw, S2⟩; have S2 : Aside _ := S2; have HS' : Aside _ := hs'; have HSW : Aside _ := hsw; clear hs' hsw)
        go_roundg (i - j + j)
        case measure => omega
        case rel =>
          exact ⟨i - j, j, d', by congr 1; omega, rfl, by omega, hj1, by omega, hjb, Nat.le_refl _, HS'.out.trans DS.out, S2, (fun T h => I.out T (rotd_gt HSW.out HS'.out (by omega) hgt h))⟩
      · have hd : decide ((i : Int) > (j : Int)) = false := decide_eq_false (by omega)
        have hlt : i < j := by simp at hne; omega
        go_wp2_with (go_at_call 45; refine (swapRange_at blk off cap (m - i) (m + j - i) i _ _ _ (by omega) (by omega) rfl _ d0 dk DS.out.symm w0 _ R (HS.out.trans DS.out.symm) S1.out (by omega) (by rw [DS.out]; omega) (by rw [DS.out]; exact hsz)).mono ?_; rintro e w' ⟨rfl, d', hs', hsw, S2⟩; have S2 : Aside _ := S2; have HS' : Aside _ := hs'; have HSW : Aside _ := hsw; clear hs' hsw)
        go_roundg (i + (j - i))
        case measure => omega
        case rel =>
          exact ⟨i, j - i, d', rfl, by congr 1; omega, hi1, by omega, hia, by omega, Nat.le_refl _, HS'.out.trans DS.out, S2, (fun T h => I.out T (rotd_lt HSW.out HS'.out (by omega) hlt h))⟩

end Go.Proofs.Ytpjfeaccicmgoaa
