/-
  The walk of the library's merge of two neighbouring sorted blocks (symMerge).
-/
import Derived.Test.YtpjfeaccicmgoaaWalksB
import Derived.Deep.DeepCutAuto
set_option linter.unusedVariables false
namespace Go.Proofs.Ytpjfeaccicmgoaa
open Go.Shelf Go.RowKit Go.Lib Go.Sort

abbrev lt' : Pr → Pr → Bool := ltOf cfK

section
variable {w0 W : World} {blk off : Nat} {dk d0 : Array Pr}
/-- Element i's two cells, in every world of the class. -/
theorem _root_.Go.Proofs.SWK.at2g (h : SWK enc 2 w0 blk off dk W) (R : RowK enc 2 w0 blk off d0) (hs : dk.size = d0.size) (i : Nat) (hi : i < dk.size) (n : Nat) (os : Array Obj) :
    (grow (W.drewN n) os).cell? ⟨blk, off + i * 2, none⟩ = some (.string dk[i]!.1) ∧ (grow (W.drewN n) os).cell? ⟨blk, off + i * 2 + 1, none⟩ = some (.int .u64 dk[i]!.2) :=
  ⟨((h.grown n os).at2 R hs i hi).1.1, ((h.grown n os).at2 R hs i hi).2.1⟩
theorem _root_.Go.Proofs.SWK.cmp2 (h : SWK enc 2 w0 blk off dk W) (x y : Pr) (n : Nat) (os : Array Obj) :
    Calls Try.prog 32 #[.agg #[.string x.1, .int .u64 x.2], .agg #[.string y.1, .int .u64 y.2]] (grow (W.drewN n) os) fun e w' => e = .returned (.int .i64 (cfK x y)) ∧ ∃ q os', w' = grow ((grow (W.drewN n) os).drewN q) os' := byKey_any x y _
end

/-- The first element has come to place k. -/
theorem rotd_up {a k : Nat} {d dk : Array Pr} (h : Rotd a (a + 1) (k + 1) d dk) (hs : dk.size = d.size) (hak : a ≤ k) (hk : k + 1 < d.size) : Rotd a (a + 1) (k + 2) d (swp dk k (k + 1)) := by
  have g := swp_get dk (show k < dk.size by omega) (show k + 1 < dk.size by omega)
  refine ⟨by rw [swp_size, hs], fun t ht => ?_, fun t h1 h2 => ?_, fun t h1 h2 => ?_, fun t ht => ?_⟩
  · rw [g, if_neg (by omega), if_neg (by omega)]; exact h.lo t ht
  · by_cases c : t = k
    · rw [g, if_neg (by omega), if_pos c, h.hi (k + 1) (by omega)]; exact get_congr d (by omega)
    · rw [g, if_neg (by omega), if_neg c]; exact h.fst t h1 (by omega)
  · obtain rfl : t = k + 1 := by omega
    rw [g, if_pos rfl, h.snd k (by omega) (by omega)]; exact get_congr d (by omega)
  · rw [g, if_neg (by omega), if_neg (by omega)]; exact h.hi t (by omega)
/-- The last element has come to place k. -/
theorem rotd_down {m k : Nat} {d dk : Array Pr} (h : Rotd k m (m + 1) d dk) (hs : dk.size = d.size) (hk : 1 ≤ k) (hkm : k ≤ m) (hm : m < d.size) : Rotd (k - 1) m (m + 1) d (swp dk k (k - 1)) := by
  have g := swp_get dk (show k < dk.size by omega) (show k - 1 < dk.size by omega)
  refine ⟨by rw [swp_size, hs], fun t ht => ?_, fun t h1 h2 => ?_, fun t h1 h2 => ?_, fun t ht => ?_⟩
  · rw [g, if_neg (by omega), if_neg (by omega)]; exact h.lo t (by omega)
  · obtain rfl : t = k - 1 := by omega
    rw [g, if_pos rfl, h.fst k (by omega) (by omega)]; exact get_congr d (by omega)
  · by_cases c : t = k
    · rw [g, if_neg (by omega), if_pos c]; exact (h.lo (k - 1) (by omega)).trans (get_congr d (by omega))
    · rw [g, if_neg (by omega), if_neg c]; exact h.snd t (by omega) h2
  · rw [g, if_neg (by omega), if_neg (by omega)]; exact h.hi t ht

theorem lt_of (x y : Pr) (h : cfK x y < 0) : lt' x y = true := decide_eq_true h
theorem nlt_of (x y : Pr) (h : ¬ cfK x y < 0) : lt' x y = false := decide_eq_false h


set_option maxHeartbeats 4000000 in
set_option maxRecDepth 100000 in
/-- A left block of one element. -/
theorem symMerge_one (blk off cap a m b : Nat) (d0 d : Array Pr) (w0 w : World) (R : RowK enc 2 w0 blk off d0) (hs : d0.size = d.size) (S : SWK enc 2 w0 blk off d w)
    (hS : SWO lt') (ham : m = a + 1) (hmb : m < b) (hb : b ≤ d.size) (hsz : d.size < 4611686018427387904) (hr : SortedIn lt' m b d) :
    Calls Try.prog 41 #[.slice (some ⟨blk, off, none⟩) d.size cap, .int .i64 a, .int .i64 m, .int .i64 b, .func (.func 32) #[] #[]] w fun e w' =>
      e = .returned (.tuple #[]) ∧ ∃ d', Merged lt' a b d d' ∧ SWK enc 2 w0 blk off d' w' := by
  have S0 : Aside _ := S
  have HS : Aside _ := hs
  have HR : Aside _ := hr
  have AM : Aside _ := ham
  have SO : Aside _ := hS
  have hma : ((m : Int) - (a : Int) == 1) = true := by rw [beq_iff_eq]; omega
  have hma1 : a < m := by omega
  clear S hs hr hS ham
  have mixed := mixedOrders
  go_enter Try.func41, Try.ntmps41
  go_wp2
  go_loopg [10, 11] (b - m) (fun kx s10 s11 wr => ∃ (lo hi : Nat), s10 = .int .i64 lo ∧ s11 = .int .i64 hi ∧ m ≤ lo ∧ lo ≤ hi ∧ hi ≤ b ∧ hi - lo ≤ kx ∧ Aside (SWK enc 2 w0 blk off d wr) ∧ Aside ((∀ t, m ≤ t → t < lo → lt' d[t]! d[a]! = true) ∧ (∀ t, hi ≤ t → t < b → lt' d[t]! d[a]! = false)))
  case atStart => exact ⟨m, b, rfl, rfl, Nat.le_refl _, by omega, Nat.le_refl _, Nat.le_refl _, S0, (⟨fun t h1 h2 => by omega, fun t h1 h2 => by omega⟩ : _ ∧ _)⟩
  case round =>
    clear S0
    obtain ⟨lo, hi, rfl, rfl, hml, hlh, hhb, hkx, S1, I⟩ := hrel
    by_cases hlt : lo < hi
    · have hltz : (lo : Int) < (hi : Int) := by omega
      have e1 : (((lo : Int) + (hi : Int)) / 2).toNat = (lo + hi) / 2 := by omega
      have p1 : (0 : Int) ≤ ((lo : Int) + (hi : Int)) / 2 := by omega
      have b1 : ((lo : Int) + (hi : Int)) / 2 < (d.size : Int) := by omega
      have ba : (a : Int) < (d.size : Int) := by omega
      obtain ⟨x, hx⟩ : ∃ x, x = d[(lo + hi) / 2]! := ⟨_, rfl⟩
      obtain ⟨y, hy⟩ : ∃ x, x = d[a]! := ⟨_, rfl⟩
      have lx := fun n os => (S1.out.at2g R HS.out.symm ((lo + hi) / 2) (by omega) n os).1
      have lx' := fun n os => (S1.out.at2g R HS.out.symm ((lo + hi) / 2) (by omega) n os).2
      have ly := fun n os => (S1.out.at2g R HS.out.symm a (by omega) n os).1
      have ly' := fun n os => (S1.out.at2g R HS.out.symm a (by omega) n os).2
      rw [← hx] at lx lx'
      rw [← hy] at ly ly'
      have hc := S1.out.cmp2 x y
      have X : Aside _ := hx
      have Y : Aside _ := hy
      clear hx hy
      by_cases hv : cfK x y < 0
      · have hd : decide (cfK x y < 0) = true := decide_eq_true hv
        go_wp2_with fail
        go_quiet_grown (first | (go_at_call 32; refine Calls.grown_of (hc _ _)))
        have S2 : Aside (SWK enc 2 w0 blk off d (grow (wr.drewN nq) osq)) := S1.out.grown nq osq
        clear lx lx' ly ly' hc S1
        generalize grow (wr.drewN nq) osq = w2 at S2 ⊢
        clear nq osq
        go_wp2
        go_roundg (hi - ((lo + hi) / 2 + 1))
        case measure => omega
        case rel =>
          have I1 : ∀ t, m ≤ t → t < (lo + hi) / 2 + 1 → lt' d[t]! d[a]! = true := fun t h1 h2 => by
            have h3 := sorted_le SO.out HR.out h1 (show t ≤ (lo + hi) / 2 by omega) (by omega)
            have h4 := lt_of x y (by omega)
            rw [X.out, Y.out] at h4
            cases h5 : lt' d[t]! d[a]! with
            | true => rfl
            | false =>
              rw [SO.out.ntrans _ _ _ h3 h5] at h4
              cases h4
          exact ⟨(lo + hi) / 2 + 1, hi, by go_num, rfl, by omega, by omega, hhb, Nat.le_refl _, S2, (⟨I1, I.out.2⟩ : _ ∧ _)⟩
      · have hd : decide (cfK x y < 0) = false := decide_eq_false hv
        go_wp2_with fail
        go_quiet_grown (first | (go_at_call 32; refine Calls.grown_of (hc _ _)))
        have S2 : Aside (SWK enc 2 w0 blk off d (grow (wr.drewN nq) osq)) := S1.out.grown nq osq
        clear lx lx' ly ly' hc S1
        generalize grow (wr.drewN nq) osq = w2 at S2 ⊢
        clear nq osq
        go_wp2
        go_roundg ((lo + hi) / 2 - lo)
        case measure => omega
        case rel =>
          have I2 : ∀ t, (lo + hi) / 2 ≤ t → t < b → lt' d[t]! d[a]! = false := fun t h1 h2 => by
            have h3 := sorted_le SO.out HR.out (show m ≤ (lo + hi) / 2 by omega) h1 h2
            have h4 := nlt_of x y (by omega)
            rw [X.out, Y.out] at h4
            exact SO.out.ntrans _ _ _ h3 h4
          exact ⟨lo, (lo + hi) / 2, rfl, by go_num, hml, by omega, by omega, Nat.le_refl _, S2, (⟨I.out.1, I2⟩ : _ ∧ _)⟩
    · obtain rfl : lo = hi := by omega
      have I1 : Aside _ := I.out.1
      have I2 : Aside _ := I.out.2
      clear I
      go_wp2
      go_loopg [13] (lo - a) (fun kx s13 wr2 => ∃ (k : Nat) (dk : Array Pr), s13 = .int .i64 k ∧ a ≤ k ∧ k + 1 ≤ lo ∧ lo - k ≤ kx ∧ Aside (dk.size = d.size) ∧ Aside (SWK enc 2 w0 blk off dk wr2) ∧ Aside (Rotd a (a + 1) (k + 1) d dk))
      case atStart => exact ⟨a, d, rfl, Nat.le_refl _, by omega, Nat.le_refl _, rfl, S1, (Rotd.refl_right a (a + 1) d)⟩
      case round =>
        clear S1
        obtain ⟨k, dk, rfl, hak, hkl, hkx2, DS, S2, RO⟩ := hrel
        by_cases hlt2 : k + 1 < lo
        · have hltz : (k : Int) < (lo : Int) - 1 := by omega
          have e0 : ((k : Int) + 1).toNat = k + 1 := by omega
          have b0 : (k : Int) + 1 < (d.size : Int) := by omega
          have b1 : (k : Int) < (d.size : Int) := by omega
          have p0 : (0 : Int) ≤ (k : Int) + 1 := by omega
          have S3 := S2.out.swapped R k (k + 1) (by rw [DS.out]; omega) (by rw [DS.out]; omega)
          have RO2 : Aside _ := rotd_up RO.out DS.out hak (by omega)
          have DS2 : Aside ((swp dk k (k + 1)).size = d.size) := by show _ = _; rw [swp_size, DS.out]
          obtain ⟨⟨ca0, fa0⟩, ⟨ca1, fa1⟩⟩ := S2.out.at2 R (DS.out.trans HS.out.symm) k (by rw [DS.out]; omega)
          obtain ⟨⟨cb0, fb0⟩, ⟨cb1, fb1⟩⟩ := S2.out.at2 R (DS.out.trans HS.out.symm) (k + 1) (by rw [DS.out]; omega)
          generalize dk[k]! = xa at S3 ca0 ca1
          generalize dk[k + 1]! = xb at S3 cb0 cb1
          obtain ⟨ka, va⟩ := xa
          obtain ⟨kb, vb⟩ := xb
          have S3 : Aside _ := S3
          clear S2 RO
          go_wp2_with fail
          go_big_region
          clear ca0 ca1 cb0 cb1 fa0 fa1 fb0 fb1
          go_wp2
          go_roundg (lo - (k + 1))
          case measure => omega
          case rel => exact ⟨k + 1, swp dk k (k + 1), by go_num, by omega, by omega, Nat.le_refl _, DS2, S3, RO2⟩
        · have hltz : ¬ (k : Int) < (lo : Int) - 1 := by omega
          go_wp2
          (try simp only [Exit.inBlock, Exit.then])
          refine bodyPost_ret (results_none rfl _ _ _) rfl ?_
          obtain rfl : lo = k + 1 := by omega
          obtain rfl : m = a + 1 := AM.out
          exact ⟨rfl, dk, merged_left SO.out RO.out (by omega) hhb hb HR.out I1.out I2.out, S2.out⟩

set_option maxHeartbeats 4000000 in
set_option maxRecDepth 100000 in
/-- A right block of one element. -/
theorem symMerge_last (blk off cap a m b : Nat) (d0 d : Array Pr) (w0 w : World) (R : RowK enc 2 w0 blk off d0) (hs : d0.size = d.size) (S : SWK enc 2 w0 blk off d w)
    (hS : SWO lt') (ham : a + 1 < m) (hmb : b = m + 1) (hb : b ≤ d.size) (hsz : d.size < 4611686018427387904) (hl : SortedIn lt' a m d) :
    Calls Try.prog 41 #[.slice (some ⟨blk, off, none⟩) d.size cap, .int .i64 a, .int .i64 m, .int .i64 b, .func (.func 32) #[] #[]] w fun e w' =>
      e = .returned (.tuple #[]) ∧ ∃ d', Merged lt' a b d d' ∧ SWK enc 2 w0 blk off d' w' := by
  have S0 : Aside _ := S
  have HS : Aside _ := hs
  have HL : Aside _ := hl
  have MB : Aside _ := hmb
  have SO : Aside _ := hS
  have hma : ((m : Int) - (a : Int) == 1) = false := by rw [beq_eq_false_iff_ne]; omega
  have hmb' : ((b : Int) - (m : Int) == 1) = true := by rw [beq_iff_eq]; omega
  have hmb1 : m < b := by omega
  clear S hs hl hS hmb
  have mixed := mixedOrders
  go_enter Try.func41, Try.ntmps41
  go_wp2
  go_loopg [14, 15] (m - a) (fun kx s10 s11 wr => ∃ (lo hi : Nat), s10 = .int .i64 lo ∧ s11 = .int .i64 hi ∧ a ≤ lo ∧ lo ≤ hi ∧ hi ≤ m ∧ hi - lo ≤ kx ∧ Aside (SWK enc 2 w0 blk off d wr) ∧ Aside ((∀ t, a ≤ t → t < lo → lt' d[m]! d[t]! = false) ∧ (∀ t, hi ≤ t → t < m → lt' d[m]! d[t]! = true)))
  case atStart => exact ⟨a, m, rfl, rfl, Nat.le_refl _, by omega, Nat.le_refl _, Nat.le_refl _, S0, (⟨fun t h1 h2 => by omega, fun t h1 h2 => by omega⟩ : _ ∧ _)⟩
  case round =>
    clear S0
    obtain ⟨lo, hi, rfl, rfl, hml, hlh, hhb, hkx, S1, I⟩ := hrel
    by_cases hlt : lo < hi
    · have hltz : (lo : Int) < (hi : Int) := by omega
      have e1 : (((lo : Int) + (hi : Int)) / 2).toNat = (lo + hi) / 2 := by omega
      have p1 : (0 : Int) ≤ ((lo : Int) + (hi : Int)) / 2 := by omega
      have b1 : ((lo : Int) + (hi : Int)) / 2 < (d.size : Int) := by omega
      have ba : (m : Int) < (d.size : Int) := by omega
      obtain ⟨x, hx⟩ : ∃ x, x = d[m]! := ⟨_, rfl⟩
      obtain ⟨y, hy⟩ : ∃ x, x = d[(lo + hi) / 2]! := ⟨_, rfl⟩
      have lx := fun n os => (S1.out.at2g R HS.out.symm m (by omega) n os).1
      have lx' := fun n os => (S1.out.at2g R HS.out.symm m (by omega) n os).2
      have ly := fun n os => (S1.out.at2g R HS.out.symm ((lo + hi) / 2) (by omega) n os).1
      have ly' := fun n os => (S1.out.at2g R HS.out.symm ((lo + hi) / 2) (by omega) n os).2
      rw [← hx] at lx lx'
      rw [← hy] at ly ly'
      have hc := S1.out.cmp2 x y
      have X : Aside _ := hx
      have Y : Aside _ := hy
      clear hx hy
      by_cases hv : cfK x y < 0
      · have hd : decide (cfK x y < 0) = true := decide_eq_true hv
        go_wp2_with fail
        go_quiet_grown (first | (go_at_call 32; refine Calls.grown_of (hc _ _)))
        have S2 : Aside (SWK enc 2 w0 blk off d (grow (wr.drewN nq) osq)) := S1.out.grown nq osq
        clear lx lx' ly ly' hc S1
        generalize grow (wr.drewN nq) osq = w2 at S2 ⊢
        clear nq osq
        go_wp2
        go_roundg ((lo + hi) / 2 - lo)
        case measure => omega
        case rel =>
          have I2 : ∀ t, (lo + hi) / 2 ≤ t → t < m → lt' d[m]! d[t]! = true := fun t h1 h2 => by
            have h3 := sorted_le SO.out HL.out (show a ≤ (lo + hi) / 2 by omega) h1 h2
            have h4 := lt_of x y (by omega)
            rw [X.out, Y.out] at h4
            cases h5 : lt' d[m]! d[t]! with
            | true => rfl
            | false =>
              rw [SO.out.ntrans _ _ _ h5 h3] at h4
              cases h4
          exact ⟨lo, (lo + hi) / 2, rfl, by go_num, hml, by omega, by omega, Nat.le_refl _, S2, (⟨I.out.1, I2⟩ : _ ∧ _)⟩
      · have hd : decide (cfK x y < 0) = false := decide_eq_false hv
        go_wp2_with fail
        go_quiet_grown (first | (go_at_call 32; refine Calls.grown_of (hc _ _)))
        have S2 : Aside (SWK enc 2 w0 blk off d (grow (wr.drewN nq) osq)) := S1.out.grown nq osq
        clear lx lx' ly ly' hc S1
        generalize grow (wr.drewN nq) osq = w2 at S2 ⊢
        clear nq osq
        go_wp2
        go_roundg (hi - ((lo + hi) / 2 + 1))
        case measure => omega
        case rel =>
          have I1 : ∀ t, a ≤ t → t < (lo + hi) / 2 + 1 → lt' d[m]! d[t]! = false := fun t h1 h2 => by
            have h3 := sorted_le SO.out HL.out h1 (show t ≤ (lo + hi) / 2 by omega) (by omega)
            have h4 := nlt_of x y (by omega)
            rw [X.out, Y.out] at h4
            exact SO.out.ntrans _ _ _ h4 h3
          exact ⟨(lo + hi) / 2 + 1, hi, by go_num, rfl, by omega, by omega, hhb, Nat.le_refl _, S2, (⟨I1, I.out.2⟩ : _ ∧ _)⟩
    · obtain rfl : lo = hi := by omega
      have I1 : Aside _ := I.out.1
      have I2 : Aside _ := I.out.2
      clear I
      go_wp2
      go_loopg [17] (m - lo) (fun kx s13 wr2 => ∃ (k : Nat) (dk : Array Pr), s13 = .int .i64 k ∧ lo ≤ k ∧ k ≤ m ∧ k - lo ≤ kx ∧ Aside (dk.size = d.size) ∧ Aside (SWK enc 2 w0 blk off dk wr2) ∧ Aside (Rotd k m (m + 1) d dk))
      case atStart => exact ⟨m, d, rfl, by omega, Nat.le_refl _, Nat.le_refl _, rfl, S1, (Rotd.refl_left m (m + 1) d (by omega))⟩
      case round =>
        clear S1
        obtain ⟨k, dk, rfl, hak, hkl, hkx2, DS, S2, RO⟩ := hrel
        by_cases hlt2 : lo < k
        · have hltz : (k : Int) > (lo : Int) := by omega
          have e0 : ((k : Int) - 1).toNat = k - 1 := by omega
          have b0 : (k : Int) - 1 < (d.size : Int) := by omega
          have b1 : (k : Int) < (d.size : Int) := by omega
          have p0 : (0 : Int) ≤ (k : Int) - 1 := by omega
          have p1 : (1 : Int) ≤ (k : Int) := by omega
          have S3 := S2.out.swapped R k (k - 1) (by rw [DS.out]; omega) (by rw [DS.out]; omega)
          have RO2 : Aside _ := rotd_down RO.out DS.out (by omega) hkl (by omega)
          have DS2 : Aside ((swp dk k (k - 1)).size = d.size) := by show _ = _; rw [swp_size, DS.out]
          obtain ⟨⟨ca0, fa0⟩, ⟨ca1, fa1⟩⟩ := S2.out.at2 R (DS.out.trans HS.out.symm) k (by rw [DS.out]; omega)
          obtain ⟨⟨cb0, fb0⟩, ⟨cb1, fb1⟩⟩ := S2.out.at2 R (DS.out.trans HS.out.symm) (k - 1) (by rw [DS.out]; omega)
          generalize dk[k]! = xa at S3 ca0 ca1
          generalize dk[k - 1]! = xb at S3 cb0 cb1
          obtain ⟨ka, va⟩ := xa
          obtain ⟨kb, vb⟩ := xb
          have S3 : Aside _ := S3
          clear S2 RO
          go_wp2_with fail
          go_big_region
          clear ca0 ca1 cb0 cb1 fa0 fa1 fb0 fb1
          go_wp2
          go_roundg (k - 1 - lo)
          case measure => omega
          case rel => exact ⟨k - 1, swp dk k (k - 1), by congr 1; omega, by omega, by omega, Nat.le_refl _, DS2, S3, RO2⟩
        · have hltz : ¬ (k : Int) > (lo : Int) := by omega
          go_wp2
          (try simp only [Exit.inBlock, Exit.then])
          refine bodyPost_ret (results_none rfl _ _ _) rfl ?_
          obtain rfl : lo = k := by omega
          obtain rfl : b = m + 1 := MB.out
          exact ⟨rfl, dk, merged_right SO.out RO.out (by omega) (by omega) hb HL.out I1.out I2.out, S2.out⟩

end Go.Proofs.Ytpjfeaccicmgoaa
