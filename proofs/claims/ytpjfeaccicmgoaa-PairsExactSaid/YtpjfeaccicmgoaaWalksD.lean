/-
  The walk of the library's merge: its middle step and its recursion.
-/
import Derived.Test.YtpjfeaccicmgoaaWalksC
import Derived.Outline
set_option linter.unusedVariables false
namespace Go.Proofs.Ytpjfeaccicmgoaa
open Go.Shelf Go.RowKit Go.Lib Go.Sort

/-- rotate's contract, its numbers as the caller has them. -/
theorem rotate_at (blk off cap a m b : Nat) (za zm zb : Int) (ha : za = a) (hm : zm = m) (hzb : zb = b) (sz : Nat) (d0 d : Array Pr) (hsz' : sz = d.size) (w0 w : World) (R : RowK enc 2 w0 blk off d0) (hs : d0.size = d.size) (S : SWK enc 2 w0 blk off d w)
    (ham : a < m) (hmb : m < b) (hb : b ≤ d.size) (hsz : d.size < 4611686018427387904) :
    Calls Try.prog 43 #[.slice (some ⟨blk, off, none⟩) sz cap, .int .i64 za, .int .i64 zm, .int .i64 zb, .func (.func 32) #[] #[]] w fun e w' =>
      e = .returned (.tuple #[]) ∧ ∃ d', d'.size = d.size ∧ Rotd a m b d d' ∧ SWK enc 2 w0 blk off d' w' := by
  subst ha hm hzb hsz'
  exact rotate_any blk off cap a m b d0 d w0 w R hs S ham hmb hb hsz

/-- What symMerge promises at parts of at most N elements. -/
def Sym (blk off cap : Nat) (d0 : Array Pr) (w0 : World) (N : Nat) : Prop :=
  ∀ (a m b : Nat) (za zm zb : Int), za = a → zm = m → zb = b → ∀ (d : Array Pr) (w : World), b - a ≤ N → d.size = d0.size → SWK enc 2 w0 blk off d w → a < m → m < b → b ≤ d.size → SortedIn lt' a m d → SortedIn lt' m b d →
    Calls Try.prog 41 #[.slice (some ⟨blk, off, none⟩) d0.size cap, .int .i64 za, .int .i64 zm, .int .i64 zb, .func (.func 32) #[] #[]] w fun e w' =>
      e = .returned (.tuple #[]) ∧ ∃ d', Merged lt' a b d d' ∧ SWK enc 2 w0 blk off d' w'


set_option maxHeartbeats 4000000 in
set_option maxRecDepth 100000 in
theorem symMerge_step (blk off cap : Nat) (d0 : Array Pr) (w0 : World) (N : Nat) (IH : Sym blk off cap d0 w0 N) (R : RowK enc 2 w0 blk off d0) (hS : SWO lt')
    (a m b : Nat) (d : Array Pr) (w : World) (hs : d.size = d0.size) (S : SWK enc 2 w0 blk off d w) (hN : b - a ≤ N + 1)
    (ham : a + 1 < m) (hmb : m + 1 < b) (hb : b ≤ d.size) (hsz : d0.size < 4611686018427387904) (hl : SortedIn lt' a m d) (hr : SortedIn lt' m b d) :
    Calls Try.prog 41 #[.slice (some ⟨blk, off, none⟩) d0.size cap, .int .i64 a, .int .i64 m, .int .i64 b, .func (.func 32) #[] #[]] w fun e w' =>
      e = .returned (.tuple #[]) ∧ ∃ d', Merged lt' a b d d' ∧ SWK enc 2 w0 blk off d' w' := by
  have hb0 : b ≤ d0.size := by omega
  have S0 : Aside _ := S
  have HS : Aside _ := hs
  have HL : Aside _ := hl
  have HR : Aside _ := hr
  have SO : Aside _ := hS
  have IH' := Lib.hid IH
  have hma : ((m : Int) - (a : Int) == 1) = false := by rw [beq_eq_false_iff_ne]; omega
  have hmb' : ((b : Int) - (m : Int) == 1) = false := by rw [beq_eq_false_iff_ne]; omega
  have q0 : (0 : Int) ≤ ((a : Int) + (b : Int)) / 2 := by omega
  have q1 : ((a : Int) + (b : Int)) / 2 < (b : Int) := by omega
  have q2 : (a : Int) < ((a : Int) + (b : Int)) / 2 := by omega
  obtain ⟨mid, MID⟩ : ∃ mid : Nat, Aside (mid = (a + b) / 2) := ⟨_, (rfl : (a + b) / 2 = _)⟩
  have hmid1 : a < mid ∧ mid < b := by have := MID.out; omega
  obtain ⟨hmid1, hmid2⟩ := hmid1
  clear S hs hl hr hS IH
  have mixed := mixedOrders
  go_enter Try.func41, Try.ntmps41
  go_upto_if 140 with fail
  go_cut [20, 21] (fun s20 s21 wx => ∃ s0 r0 : Nat, s20 = .int .i64 s0 ∧ s21 = .int .i64 r0 ∧ a ≤ s0 ∧ s0 ≤ r0 ∧ r0 ≤ mid ∧ r0 ≤ m ∧ mid + m ≤ s0 + b ∧ Aside (s0 = a ∨ s0 + b = mid + m) ∧ Aside (r0 = m ∨ r0 = mid) ∧ wx = w)
  case first =>
    as_aux_lemma =>
      have hm := MID.out
      by_cases c : mid < m
      · have hd : decide ((m : Int) > ((a : Int) + (b : Int)) / 2) = true := decide_eq_true (by omega)
        have hd' : decide (((a : Int) + (b : Int)) / 2 < (m : Int)) = true := decide_eq_true (by omega)
        have hd2 : ((a : Int) + (b : Int)) / 2 < (m : Int) := by omega
        clear hm
        go_wp2_with fail
        go_meet
        have hm := MID.out
        exact ⟨mid + m - b, mid, by congr 1; omega, by congr 1; omega, by omega, by omega, by omega, by omega, by omega, (Or.inr (by omega) : _ ∨ _), (Or.inr rfl : _ ∨ _), rfl⟩
      · have hd : decide ((m : Int) > ((a : Int) + (b : Int)) / 2) = false := decide_eq_false (by omega)
        have hd' : decide (((a : Int) + (b : Int)) / 2 < (m : Int)) = false := decide_eq_false (by omega)
        have hd2 : (m : Int) ≤ ((a : Int) + (b : Int)) / 2 := by omega
        clear hm
        go_wp2_with fail
        go_meet
        have hm := MID.out
        exact ⟨a, m, rfl, rfl, by omega, by omega, by omega, by omega, by omega, (Or.inl rfl : _ ∨ _), (Or.inl rfl : _ ∨ _), rfl⟩
  case rest =>
    obtain ⟨s0, r0, rfl, rfl, k1, k2, k3, k4, k5, K6, K7, rfl⟩ := hcut
    go_wp2_with fail
    go_loopg [20, 21] (r0 - s0) (fun kx s10 s11 wr => ∃ (lo hi : Nat), s10 = .int .i64 lo ∧ s11 = .int .i64 hi ∧ s0 ≤ lo ∧ lo ≤ hi ∧ hi ≤ r0 ∧ hi - lo ≤ kx ∧ Aside (SWK enc 2 w0 blk off d wr) ∧ Aside ((s0 < lo → lt' d[mid + m - lo]! d[lo - 1]! = false) ∧ (hi < r0 → lt' d[mid + m - 1 - hi]! d[hi]! = true)))
    case atStart => exact ⟨s0, r0, rfl, rfl, Nat.le_refl _, k2, Nat.le_refl _, Nat.le_refl _, S0, (⟨fun h => by omega, fun h => by omega⟩ : _ ∧ _)⟩
    case round =>
      clear S0
      obtain ⟨lo, hi, rfl, rfl, hml, hlh, hhb, hkx, S1, I⟩ := hrel
      by_cases hlt : lo < hi
      · have hltz : (lo : Int) < (hi : Int) := by omega
        have e1 : (((lo : Int) + (hi : Int)) / 2).toNat = (lo + hi) / 2 := by omega
        have p1 : (0 : Int) ≤ ((lo : Int) + (hi : Int)) / 2 := by omega
        have b1 : ((lo : Int) + (hi : Int)) / 2 < (d0.size : Int) := by omega
        obtain ⟨pc, hpc⟩ : ∃ pc : Nat, pc = mid + m - 1 - (lo + hi) / 2 := ⟨_, rfl⟩
        have e2 : (((a : Int) + (b : Int)) / 2 + (m : Int) - 1) - ((lo : Int) + (hi : Int)) / 2 = (pc : Int) := by have := MID.out; omega
        have r2 : IntKind.i64.wrap (pc : Int) = (pc : Int) := by rw [IntKind.wrap_i64]; omega
        have p2 : (0 : Int) ≤ (pc : Int) := by omega
        have b2 : (pc : Int) < (d0.size : Int) := by omega
        have b2' : pc < d0.size := by omega
        have PC : Aside _ := hpc
        clear hpc
        obtain ⟨x, hx⟩ : ∃ x, x = d[pc]! := ⟨_, rfl⟩
        obtain ⟨y, hy⟩ : ∃ x, x = d[(lo + hi) / 2]! := ⟨_, rfl⟩
        have lx := fun n os => (S1.out.at2g R HS.out pc (by have := HS.out; omega) n os).1
        have lx' := fun n os => (S1.out.at2g R HS.out pc (by have := HS.out; omega) n os).2
        have ly := fun n os => (S1.out.at2g R HS.out ((lo + hi) / 2) (by have := HS.out; omega) n os).1
        have ly' := fun n os => (S1.out.at2g R HS.out ((lo + hi) / 2) (by have := HS.out; omega) n os).2
        rw [← hx] at lx lx'
        rw [← hy] at ly ly'
        have hc := S1.out.cmp2 x y
        have X : Aside _ := hx
        have Y : Aside _ := hy
        clear hx hy
        by_cases hv : cfK x y < 0
        · have hd : decide (cfK x y < 0) = true := decide_eq_true hv
          go_wp2_with fail
          go_quiet_grown (first | (go_at_call 32; refine Calls.grown_of (hc _ _)))
          have S2 : Aside (SWK enc 2 w0 blk off d (grow (wr.drewN nq) osq)) := S1.out.grown nq osq
          clear lx lx' ly ly' hc S1 e2 p2 b2 r2 b2'
          generalize grow (wr.drewN nq) osq = w2 at S2 ⊢
          clear nq osq
          go_wp2
          go_roundg ((lo + hi) / 2 - lo)
          case measure => omega
          case rel =>
            have I2 : (lo + hi) / 2 < r0 → lt' d[mid + m - 1 - (lo + hi) / 2]! d[(lo + hi) / 2]! = true := fun _ => by
              have h4 := lt_of x y (by omega)
              rw [X.out, Y.out, PC.out] at h4
              exact h4
            exact ⟨lo, (lo + hi) / 2, rfl, by go_num, hml, by omega, by omega, Nat.le_refl _, S2, (⟨I.out.1, I2⟩ : _ ∧ _)⟩
        · have hd : decide (cfK x y < 0) = false := decide_eq_false hv
          go_wp2_with fail
          go_quiet_grown (first | (go_at_call 32; refine Calls.grown_of (hc _ _)))
          have S2 : Aside (SWK enc 2 w0 blk off d (grow (wr.drewN nq) osq)) := S1.out.grown nq osq
          clear lx lx' ly ly' hc S1 e2 p2 b2 r2 b2'
          generalize grow (wr.drewN nq) osq = w2 at S2 ⊢
          clear nq osq
          go_wp2
          go_roundg (hi - ((lo + hi) / 2 + 1))
          case measure => omega
          case rel =>
            have I1 : s0 < (lo + hi) / 2 + 1 → lt' d[mid + m - ((lo + hi) / 2 + 1)]! d[(lo + hi) / 2 + 1 - 1]! = false := fun _ => by
              have h4 := nlt_of x y (by omega)
              rw [X.out, Y.out, PC.out] at h4
              rw [show mid + m - ((lo + hi) / 2 + 1) = mid + m - 1 - (lo + hi) / 2 by omega, show (lo + hi) / 2 + 1 - 1 = (lo + hi) / 2 by omega]
              exact h4
            exact ⟨(lo + hi) / 2 + 1, hi, by go_num, rfl, by omega, by omega, hhb, Nat.le_refl _, S2, (⟨I1, I.out.2⟩ : _ ∧ _)⟩
      · obtain rfl : lo = hi := by omega
        obtain ⟨e, hE⟩ : ∃ e : Nat, e + lo = mid + m := ⟨mid + m - lo, by omega⟩
        have hme : m ≤ e := by omega
        have heb : e ≤ b := by omega
        have hlm : lo ≤ m := by omega
        have hlmid : lo ≤ mid := by omega
        have hal : a ≤ lo := by omega
        have HB : Aside (lo < m → m < e → lt' d[e - 1]! d[lo]! = true) := fun h1 h2 => by
          have h3 := I.out.2 (by have := K7.out; omega)
          rw [show mid + m - 1 - lo = e - 1 by omega] at h3
          exact h3
        have HC : Aside (a < lo → e < b → lt' d[e]! d[lo - 1]! = false) := fun h1 h2 => by
          have h3 := I.out.1 (by have := K6.out; omega)
          rw [show mid + m - lo = e by omega] at h3
          exact h3
        have HE : Aside _ := hE
        have he0 : ((a : Int) + (b : Int)) / 2 + (m : Int) - (lo : Int) = (e : Int) := by have := MID.out; omega
        have HE0 : Aside _ := he0
        have e0 : (0 : Int) ≤ ((a : Int) + (b : Int)) / 2 + (m : Int) - (lo : Int) := by omega
        clear I hE he0
        go_upto_region 39 with fail
        go_cut [185] (fun s wx => s = .bool (decide (lo < m ∧ m < e)) ∧ wx = wr)
        case first =>
          as_aux_lemma =>
            by_cases c1 : lo < m
            · have d1 : decide ((lo : Int) < (m : Int)) = true := decide_eq_true (by have := HE0.out; have := MID.out; omega)
              by_cases c2 : m < e
              · have d2 : decide ((m : Int) < ((a : Int) + (b : Int)) / 2 + (m : Int) - (lo : Int)) = true := decide_eq_true (by have := HE0.out; have := MID.out; omega)
                go_wp2_with fail
                go_meet
                exact ⟨by simp [c1, c2], rfl⟩
              · have d2 : decide ((m : Int) < ((a : Int) + (b : Int)) / 2 + (m : Int) - (lo : Int)) = false := decide_eq_false (by have := HE0.out; have := MID.out; omega)
                go_wp2_with fail
                go_meet
                exact ⟨by simp [c2], rfl⟩
            · have d1 : decide ((lo : Int) < (m : Int)) = false := decide_eq_false (by have := HE0.out; have := MID.out; omega)
              go_wp2_with fail
              go_meet
              exact ⟨by simp [c1], rfl⟩
        case rest =>
        obtain ⟨rfl, rfl⟩ := hcut
        go_upto_if 185 with fail
        go_cut [] (fun wx => ∃ d1, Halves lt' a lo mid e b d d1 ∧ SWK enc 2 w0 blk off d1 wx)
        case first =>
          as_aux_lemma =>
            by_cases c : lo < m ∧ m < e
            · have d1 : decide (lo < m ∧ m < e) = true := decide_eq_true c
              go_wp2_with (go_at_call 43; refine (rotate_at blk off cap lo m e _ _ _ rfl rfl HE0.out _ d0 d HS.out.symm w0 _ R HS.out.symm S1.out c.1 c.2 (by omega) (by have := HS.out; omega)).mono ?_; rintro e1 w' ⟨rfl, d', hs', hro, S2⟩)
              go_meet
              exact ⟨d', halves SO.out hro hal hlm hme heb hb (by have := HE.out; omega) hlmid HL.out HR.out HB.out HC.out, S2⟩
            · have d1 : decide (lo < m ∧ m < e) = false := decide_eq_false c
              go_wp2_with fail
              go_meet
              have hro : Rotd lo m e d d := by
                rcases Nat.eq_or_lt_of_le hlm with h | h
                · rw [← h]; exact Rotd.refl_left lo e d (by omega)
                · rw [show e = m by omega]; exact Rotd.refl_right lo m d
              exact ⟨d, halves SO.out hro hal hlm hme heb hb (by have := HE.out; omega) hlmid HL.out HR.out HB.out HC.out, S1.out⟩
        case rest =>
        obtain ⟨d1, H1', S2'⟩ := hcut
        have H1 := Lib.hid H1'
        have S2 : Aside _ := S2'
        have HZ1 : Aside (d1.size = d.size) := H1'.chg.size
        clear S1 H1' S2' HB HC
        generalize wc = wa at S2
        go_upto_region 41 with fail
        go_cut [199] (fun s wx => s = .bool (decide (a < lo ∧ lo < mid)) ∧ wx = wa)
        case first =>
          as_aux_lemma =>
            by_cases c1 : a < lo
            · have d1 : decide ((a : Int) < (lo : Int)) = true := decide_eq_true (by have := HE0.out; have := MID.out; omega)
              by_cases c2 : lo < mid
              · have d2 : decide ((lo : Int) < ((a : Int) + (b : Int)) / 2) = true := decide_eq_true (by have := HE0.out; have := MID.out; omega)
                go_wp2_with fail
                go_meet
                exact ⟨by simp [c1, c2], rfl⟩
              · have d2 : decide ((lo : Int) < ((a : Int) + (b : Int)) / 2) = false := decide_eq_false (by have := HE0.out; have := MID.out; omega)
                go_wp2_with fail
                go_meet
                exact ⟨by simp [c2], rfl⟩
            · have d1 : decide ((a : Int) < (lo : Int)) = false := decide_eq_false (by have := HE0.out; have := MID.out; omega)
              go_wp2_with fail
              go_meet
              exact ⟨by simp [c1], rfl⟩
        case rest =>
        obtain ⟨rfl, rfl⟩ := hcut
        go_upto_if 199 with fail
        go_cut [] (fun wx => ∃ d2, Merged lt' a mid d1 d2 ∧ SWK enc 2 w0 blk off d2 wx)
        case first =>
          as_aux_lemma =>
            by_cases c : a < lo ∧ lo < mid
            · have dd1 : decide (a < lo ∧ lo < mid) = true := decide_eq_true c
              go_wp2_with (go_at_call 41; refine (IH'.out a lo mid _ _ _ rfl rfl (by have := MID.out; omega) d1 _ (by omega) (HZ1.out.trans HS.out) S2.out c.1 c.2 (by rw [HZ1.out]; omega) H1.out.s1 H1.out.s2).mono ?_; rintro e1 w' ⟨rfl, d', hme', S3⟩)
              go_meet
              exact ⟨d', hme', S3⟩
            · have dd1 : decide (a < lo ∧ lo < mid) = false := decide_eq_false c
              go_wp2_with fail
              go_meet
              exact ⟨d1, H1.out.left_trivial hal hlmid c, S2.out⟩
        case rest =>
        obtain ⟨d2, H2', S3'⟩ := hcut
        have H2 := Lib.hid H2'
        have S3 : Aside _ := S3'
        have HZ2 : Aside (d2.size = d1.size) := H2'.chg.size
        clear S2 H2' S3'
        generalize wc = wb at S3
        go_upto_region 43 with fail
        go_cut [213] (fun s wx => s = .bool (decide (mid < e ∧ e < b)) ∧ wx = wb)
        case first =>
          as_aux_lemma =>
            by_cases c1 : mid < e
            · have d1 : decide (((a : Int) + (b : Int)) / 2 < ((a : Int) + (b : Int)) / 2 + (m : Int) - (lo : Int)) = true := decide_eq_true (by have := HE0.out; have := MID.out; omega)
              by_cases c2 : e < b
              · have d2 : decide (((a : Int) + (b : Int)) / 2 + (m : Int) - (lo : Int) < (b : Int)) = true := decide_eq_true (by have := HE0.out; have := MID.out; omega)
                go_wp2_with fail
                go_meet
                exact ⟨by simp [c1, c2], rfl⟩
              · have d2 : decide (((a : Int) + (b : Int)) / 2 + (m : Int) - (lo : Int) < (b : Int)) = false := decide_eq_false (by have := HE0.out; have := MID.out; omega)
                go_wp2_with fail
                go_meet
                exact ⟨by simp [c2], rfl⟩
            · have d1 : decide (((a : Int) + (b : Int)) / 2 < ((a : Int) + (b : Int)) / 2 + (m : Int) - (lo : Int)) = false := decide_eq_false (by have := HE0.out; have := MID.out; omega)
              go_wp2_with fail
              go_meet
              exact ⟨by simp [c1], rfl⟩
        case rest =>
        obtain ⟨rfl, rfl⟩ := hcut
        have hmide : mid ≤ e := by have := HE.out; omega
        by_cases c : mid < e ∧ e < b
        · have dd1 : decide (mid < e ∧ e < b) = true := decide_eq_true c
          go_wp2_with (go_at_call 41; refine (IH'.out mid e b _ _ _ (by have := MID.out; omega) HE0.out rfl d2 _ (by omega) (HZ2.out.trans (HZ1.out.trans HS.out)) S3.out c.1 c.2 (by rw [HZ2.out, HZ1.out]; omega) (H1.out.s3' H2.out) (H1.out.s4' H2.out hmide)).mono ?_; rintro e1 w' ⟨rfl, d', hme', S4⟩)
          go_end0
          exact ⟨rfl, d', H1.out.merged SO.out (by omega) (by omega) hb H2.out hme', S4⟩
        · have dd1 : decide (mid < e ∧ e < b) = false := decide_eq_false c
          go_wp2_with fail
          go_end0
          exact ⟨rfl, d2, H1.out.merged SO.out (by omega) (by omega) hb H2.out (H1.out.right_trivial H2.out hmide heb c), S3.out⟩


theorem sym_all (blk off cap : Nat) (d0 : Array Pr) (w0 : World) (R : RowK enc 2 w0 blk off d0) (hS : SWO lt') (hsz : d0.size < 4611686018427387904) : ∀ N, Sym blk off cap d0 w0 N := by
  intro N
  induction N with
  | zero => intro a m b za zm zb _ _ _ d w hN hs S ham hmb; omega
  | succ N ih =>
    intro a m b za zm zb ha hm hzb d w hN hs S ham hmb hb hl hr
    subst ha hm hzb
    by_cases c1 : m = a + 1
    · have := symMerge_one blk off cap a m b d0 d w0 w R hs.symm S hS c1 hmb hb (by omega) hr
      rw [hs] at this
      exact this
    · by_cases c2 : b = m + 1
      · have := symMerge_last blk off cap a m b d0 d w0 w R hs.symm S hS (by omega) c2 hb (by omega) hl
        rw [hs] at this
        exact this
      · exact symMerge_step blk off cap d0 w0 N ih R hS a m b d w hs S (by omega) (by omega) (by omega) hb hsz hl hr

end Go.Proofs.Ytpjfeaccicmgoaa
