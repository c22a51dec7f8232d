/- For every input the Go function ArenaAtomic of package ctrielaw05 returns true, and each argument reads afterwards as it read before. Conditions: none but those that every row of the form bears by itself. The frame follows the guide's proof-skeleton; the walk is ours. -/
import Derived.Test.YtcmnmimkjkpimaaRows
import Derived.WalkKit
import Derived.ProofKit
import Derived.OpenShut
import Derived.ShutString
import Derived.ChangeOld
import Derived.Below
import Derived.Test.YtcmnmimkjkpimaaFrame
import Derived.Test.YtcmnmimkjkpimaaArS
import Derived.Lib.Hide
import Derived.Deep.RegionHeld3
namespace Go.Proofs.Ytcmnmimkjkpimaa.arenaAtomic
open Go.Lib Go.Sort
open Go.ChangeShapes Go.WideShapes Go.ChangeAt Go.RowKit
open Go.ChangeMaps (open_string shut_string)
set_option linter.unusedVariables false

theorem own : ownKnob Try.prog.godebug = none := by kernel_rfl
theorem laidOut : laidOutB Try.prog = true := by kernel_rfl

attribute [local go_sem ↓] exec_load28 exec_store44
theorem u8_of_wf {h : Int} (w : (Lit.int .u8 h).wf = true) : 0 ≤ h ∧ h ≤ 255 := by
  have a : IntKind.u8.min = 0 := by decide
  have b : IntKind.u8.max = 255 := by decide
  simp [Lit.wf, a, b] at w
  omega

/-- Cell c is there, at place k, and contains v. -/
structure CellAt (T : Sd) (c : Int) (k : Nat) (v : Int) : Prop where
  hh : hasC T c = true
  hk : (c - 1).toNat = k
  hl : k < T.cs.length
  hv : cellV T c = v
theorem cellAt_of {T : Sd} {c : Int} {k : Nat} {v : Int} (hc : c = (k : Int) + 1) (hx : T.cs[k]? = some v) : CellAt T c k v := by
  have hl := (List.getElem?_eq_some_iff.1 hx).1
  have hh : hasC T c = true := by simp [hasC]; omega
  have hk : (c - 1).toNat = k := by omega
  exact ⟨hh, hk, hl, by simp [cellV, hh, hk, hx]⟩
theorem CellAt.set {T : Sd} {c : Int} {k : Nat} {v : Int} (h : CellAt T c k v) (u : Int) : CellAt (T.setC k u) c k u := by
  have hh : hasC (T.setC k u) c = true := by have := h.hh; simpa [hasC, Sd.setC] using this
  exact ⟨hh, h.hk, by have := h.hl; simpa [Sd.setC] using this, by rw [cellV, hh, if_pos rfl, h.hk]; simp [Sd.setC, h.hl]⟩
section
variable {B q : Nat} {T : Sd} {w : World} {c : Int} {k : Nat} {v : Int} {a : Nat}
theorem awake_at (h : Ob w B 77 q T a) (hB : B ≤ w.heap.size) : Calls Try.prog 19 #[] w fun e w' => e = .returned (.bool true) ∧ Ob w' B 77 q T a ∧ Below B w w' :=
  (awake_any w).mono fun e w' ⟨he, hb⟩ => ⟨he, h.up hb, hb.mono hB⟩
theorem load_at (h : Ob w B 77 q T a) (ha : a ≤ 1000) (hc : CellAt T c k v) : Calls Try.prog 15 #[.pointer (some ⟨q, 0, none⟩), .int .i64 c] w fun e w' => e = .returned (.int .i64 v) ∧ Ob w' B 77 q T ((a + 1 : Nat) : Int) ∧ Below B w w' :=
  (load_any B q T a c w h ⟨by omega, by omega⟩).mono fun e w' ⟨he, hob, hf⟩ => ⟨by rw [he, hc.hv], hob, ob_below h (hf.mono fun k _ e => .inl e)⟩
theorem cas_hit (h : Ob w B 77 q T a) (ha : a ≤ 1000) (hc : CellAt T c k v) (u : Int) : Calls Try.prog 14 #[.pointer (some ⟨q, 0, none⟩), .int .i64 c, .int .i64 v, .int .i64 u] w fun e w' => e = .returned (.bool true) ∧ Ob w' B 77 q (T.setC k u) ((a + 1 : Nat) : Int) ∧ Below B w w' :=
  (cas_any B q T a c v u w h ⟨by omega, by omega⟩).mono fun e w' ⟨he, hob, hf⟩ => by
    have hb : casB T c v = true := by simp [casB, hc.hh, hc.hv]
    rw [casS, hb] at hob
    refine ⟨by rw [he, hb], ?_, ob_below h hf⟩
    have := hc.hk
    rw [if_pos rfl, this] at hob
    exact hob
theorem cas_miss (h : Ob w B 77 q T a) (ha : a ≤ 1000) (hc : CellAt T c k v) (old u : Int) (hn : v ≠ old) : Calls Try.prog 14 #[.pointer (some ⟨q, 0, none⟩), .int .i64 c, .int .i64 old, .int .i64 u] w fun e w' => e = .returned (.bool false) ∧ Ob w' B 77 q T ((a + 1 : Nat) : Int) ∧ Below B w w' :=
  (cas_any B q T a c old u w h ⟨by omega, by omega⟩).mono fun e w' ⟨he, hob, hf⟩ => by
    have hb : casB T c old = false := by simp [casB, hc.hv, hn]
    rw [casS, hb] at hob
    exact ⟨by rw [he, hb], hob, ob_below h hf⟩
end

def MemC2 (B0 : Nat) (w : World) (e : Ending) (w' : World) : Prop := ∃ q s, e = .returned (.pointer (some ⟨q, 0, none⟩)) ∧ MB q s w' ∧ q < w'.heap.size ∧ SRd w' w'.heap.size s ∧ properB s = true ∧ s.cs.length ≤ 9 ∧ (∀ z ∈ s.cs, z ≠ 500) ∧ Below B0 w w'
theorem mem_c2 (T : Nat) (w : World) (h : Tape T w) : Calls Try.prog 9 #[.pointer (some ⟨T, 0, none⟩)] w (MemC2 T w) :=
  (mem_any T w h).mono fun e w' ⟨q, s, he, hob, hgs, h1, h2, hg⟩ => ⟨q, s, he, hob.blk, hob.lt, hob.srd, hgs.proper, h2, fun z hz => by have := hgs.cs z hz; omega, below_of_grown hg (Nat.le_refl _) (Nat.le_of_lt h.lt)⟩

/-! ### STEP 1: THE WALK -/
set_option maxRecDepth 100000 in
set_option maxHeartbeats 16000000 in
theorem walk (a0 : Option Addr) (len0 cap0 : Nat) (a1 : Int) (a2 : Int) (w : World) (w0 : IsInts w a0 len0) (w1 : (Lit.int .u8 a1).wf = true) (w2 : (Lit.int .u8 a2).wf = true) :
    Calls Try.prog 6 #[.slice a0 len0 cap0, .int .u8 a1, .int .u8 a2] w fun e w' => e = .returned (.bool true) ∧ Below w.heap.size w w' := by
  have mixed := mixedOrders
  have NW := Lib.hid (new_c a0 len0 cap0 w w0.1 w0.2)
  obtain ⟨lo1, hi1⟩ := u8_of_wf w1
  obtain ⟨lo2, hi2⟩ := u8_of_wf w2
  clear w0 w1 w2
  go_enter Try.func6, Try.ntmps6
  go_upto_region 6 with (first
    | (go_at_call 8; refine NW.out.mono ?_; rintro e u1 ⟨rfl, hT, hb⟩; have B1 := Lib.hid hb; have MM := Lib.hid (mem_c2 w.heap.size u1 hT); clear hT hb)
    | (go_at_call 9; refine MM.out.mono ?_; rintro e u2 ⟨q, s, rfl, hmb, hql, hsr, hpr, hc9, h500, hb⟩; have M2 := Lib.hid hmb; have Q2 := Lib.hid hql; have L2 := Lib.hid (⟨h500, hc9⟩ : _ ∧ _); have B2 := Lib.hid (B1.out.trans hb); have OF := Lib.hid (of_c s u2 hsr hpr); have d0 := hmb.at0; have d1 := hmb.at1; have d2 := hmb.at2; clear hmb hql hsr hpr h500 hc9 hb)
    | (go_at_call 10; refine OF.out.mono ?_; rintro e u3 ⟨q2, t, rfl, hob, hsl, hcs, hgn, hb⟩; have K3 := Lib.hid hcs; have B3 := Lib.hid hb; have M3 := Lib.hid (M2.out.up Q2.out hb); have NC := Lib.hid (newCell_a u2.heap.size q2 t 0 1 u3 hob (by rw [hcs]; have := L2.out.2; omega)); have O3 := Lib.hid hob; clear hob hsl hcs hgn hb)
    | (go_at_call 30; refine NC.out.mono ?_; rintro e u4 ⟨g, cap, rfl, hob, hf, _⟩; have B4 := Lib.hid (B3.out.trans (ob_below O3.out hf)); have O4 := Lib.hid hob; have M4 := Lib.hid (M2.out.up Q2.out B4.out); have m1 := M4.out.at1; clear hob hf))
  clear d0 d1 d2
  have hc9 := L2.out.2
  have hlt' : t.cs.length ≤ 9 := by rw [K3.out]; exact hc9
  by_cases hp : 0 < s.cs.length
  · have g1 : decide ((s.cs.length : Int) > 0) = true := decide_eq_true (by omega)
    cases g2 : (a1 % 2 == 0) with
    | true =>
      obtain ⟨r, hr, hmod⟩ := mod_any a1 s.cs.length hp (by omega)
      have hz : s.cs[r]? = some s.cs[r] := List.getElem?_eq_getElem hr
      generalize s.cs[r] = z at hz
      have HX := Lib.hid hz
      have H5 : (500 : Int) ≠ z := fun e => L2.out.1 z (List.mem_of_getElem? hz) e.symm
      clear hz
      go_upto_region 8 with (go_at_call 11; refine (hmod _).mono ?_; rintro e w' ⟨rfl, rfl⟩)
      have CA := Lib.hid (show CellAt (t.addC g cap 1) (1 + (r : Int)) r (z) from cellAt_of (by omega) (by show (t.cs ++ [1])[r]? = some z; rw [List.getElem?_append_left (by rw [K3.out]; exact hr)]; rw [K3.out]; exact HX.out))
      have N5 := Lib.hid (show (500 : Int) ≠ z from H5)
      clear H5 HX
      generalize t.addC g cap 1 = T1 at O4 CA
      generalize (1 + (r : Int) : Int) = c at CA ⊢
      generalize (z : Int) = v at CA N5
      have LD := Lib.hid (load_at (a := 0) O4.out (by omega) CA.out)
      clear m1
      clear g1 g2 hp hr hmod
      go_upto_region 10 with (go_at_call 15; refine LD.out.mono ?_; rintro e u5 ⟨rfl, hob, hb⟩; have O5 := Lib.hid hob; have B5 := Lib.hid (B4.out.trans hb); clear hob hb)
      have O5' := Lib.hid (show Ob u5 u2.heap.size 77 q2 T1 ((1 : Nat) : Int) from O5.out)
      clear O5
      obtain ⟨m5, hm5, hm5l⟩ : ∃ m : Nat, a2 % 5 = (m : Int) ∧ m < 5 := ⟨(a2 % 5).toNat, by omega, by omega⟩
      go_wp2_with fail
      go_loopg [12, 13] (2 + m5) (fun kx s12 s13 wr => ∃ (i a wn : Nat) (S : Sd), s13 = .int .i64 i ∧ s12 = .int .i64 wn ∧ i ≤ 2 + m5 ∧ 2 + m5 - i ≤ kx ∧ Aside (a ≤ 10 + 10 * i) ∧ Aside (Ob wr u2.heap.size 77 q2 S a ∧ Below u2.heap.size u2 wr) ∧ Aside ((i = 0 ∧ wn = 0 ∧ S = T1) ∨ (0 < i ∧ wn = 1 ∧ S = T1.setC r 500)))
      case atStart => exact ⟨0, 1, 0, T1, rfl, rfl, Nat.zero_le _, by omega, (by omega : 1 ≤ 10 + 10 * 0), (⟨O5'.out, B5.out⟩ : _ ∧ _), (.inl ⟨rfl, rfl, rfl⟩ : _ ∨ _)⟩
      case round =>
        obtain ⟨i, a, wn, S, rfl, rfl, hi, hkx, AC, OB, CS⟩ := hrel
        have hsz := OB.out.2.size
        have HSZ := Lib.hid hsz
        clear hsz
        by_cases hlt : i < 2 + m5
        · have hltz : (i : Int) < 2 + (m5 : Int) := by omega
          have HA := Lib.hid (show a ≤ 900 by have := AC.out; omega)
          rcases CS.out with ⟨hi0, hw, hS⟩ | ⟨hi0, hw, hS⟩
          · subst hi0 hw hS
            have CH := Lib.hid (cas_hit OB.out.1 (by have := HA.out; omega) CA.out 500)
            go_wp2_with (first
              | (go_at_call 14; refine CH.out.mono ?_; rintro e v1 ⟨rfl, hob, hb⟩; have D1 := Lib.hid (OB.out.2.trans hb); have LC := Lib.hid (load_at hob (by have := HA.out; omega) (CA.out.set 500)); clear hob hb)
              | (go_at_call 15; refine LC.out.mono ?_; rintro e v2 ⟨rfl, hob, hb⟩; have D2 := Lib.hid (D1.out.trans hb); have O2 := Lib.hid hob; clear hob hb))
            go_roundg (2 + m5 - 1)
            case measure => omega
            case rel => exact ⟨1, a + 1 + 1, 1, S.setC r 500, by go_num, by go_num, by omega, Nat.le_refl _, (by have := AC.out; omega : a + 1 + 1 ≤ 10 + 10 * 1), (⟨O2.out, D2.out⟩ : _ ∧ _), (.inr ⟨by omega, rfl, rfl⟩ : _ ∨ _)⟩
          · subst hw hS
            have CH := Lib.hid (cas_miss OB.out.1 (by have := HA.out; omega) (CA.out.set 500) v (500 + (i : Int)) N5.out)
            have HI0 := Lib.hid hi0
            clear hi0
            go_wp2_with (go_at_call 14; refine CH.out.mono ?_; rintro e v1 ⟨rfl, hob, hb⟩; have D1 := Lib.hid (OB.out.2.trans hb); have O2 := Lib.hid hob; clear hob hb)
            go_roundg (2 + m5 - (i + 1))
            case measure => omega
            case rel => exact ⟨i + 1, a + 1, 1, T1.setC r 500, by go_num, by go_num, by omega, Nat.le_refl _, (by have := AC.out; omega : a + 1 ≤ 10 + 10 * (i + 1)), (⟨O2.out, D1.out⟩ : _ ∧ _), (.inr ⟨by omega, rfl, rfl⟩ : _ ∨ _)⟩
        · obtain rfl : i = 2 + m5 := by omega
          rcases CS.out with ⟨hi0, hw, hS⟩ | ⟨hi0, hw, hS⟩
          · omega
          · subst hw hS
            have HA := Lib.hid (show a ≤ 900 by have := AC.out; omega)
            have AW := Lib.hid (awake_at OB.out.1 HSZ.out)
            go_wp2_with (first
              | (go_at_call 19; refine AW.out.mono ?_; rintro e v1 ⟨rfl, hob, hb⟩; have D1 := Lib.hid (OB.out.2.trans hb); have LC := Lib.hid (load_at hob (by have := HA.out; omega) (CA.out.set 500)); clear hob hb)
              | (go_at_call 15; refine LC.out.mono ?_; rintro e v2 ⟨rfl, hob, hb⟩; have D2 := Lib.hid (D1.out.trans hb); clear hob hb))
            go_ret
            exact ⟨rfl, B2.out.trans (D2.out.mono B2.out.size)⟩
    | false =>
      have H5 : (500 : Int) ≠ 1 := by decide
      have HX := trivial
      go_upto_region 8 with (fail)
      have CA := Lib.hid (show CellAt (t.addC g cap 1) ((t.cs.length : Int) + 1) t.cs.length (1) from cellAt_of (by omega) (by simp [Sd.addC]))
      have N5 := Lib.hid (show (500 : Int) ≠ 1 from H5)
      clear H5 HX
      generalize t.addC g cap 1 = T1 at O4 CA
      generalize ((t.cs.length : Int) + 1 : Int) = c at CA ⊢
      generalize (1 : Int) = v at CA N5
      have LD := Lib.hid (load_at (a := 0) O4.out (by omega) CA.out)
      clear m1
      clear g1 g2 hp
      go_upto_region 10 with (go_at_call 15; refine LD.out.mono ?_; rintro e u5 ⟨rfl, hob, hb⟩; have O5 := Lib.hid hob; have B5 := Lib.hid (B4.out.trans hb); clear hob hb)
      have O5' := Lib.hid (show Ob u5 u2.heap.size 77 q2 T1 ((1 : Nat) : Int) from O5.out)
      clear O5
      obtain ⟨m5, hm5, hm5l⟩ : ∃ m : Nat, a2 % 5 = (m : Int) ∧ m < 5 := ⟨(a2 % 5).toNat, by omega, by omega⟩
      go_wp2_with fail
      go_loopg [12, 13] (2 + m5) (fun kx s12 s13 wr => ∃ (i a wn : Nat) (S : Sd), s13 = .int .i64 i ∧ s12 = .int .i64 wn ∧ i ≤ 2 + m5 ∧ 2 + m5 - i ≤ kx ∧ Aside (a ≤ 10 + 10 * i) ∧ Aside (Ob wr u2.heap.size 77 q2 S a ∧ Below u2.heap.size u2 wr) ∧ Aside ((i = 0 ∧ wn = 0 ∧ S = T1) ∨ (0 < i ∧ wn = 1 ∧ S = T1.setC t.cs.length 500)))
      case atStart => exact ⟨0, 1, 0, T1, rfl, rfl, Nat.zero_le _, by omega, (by omega : 1 ≤ 10 + 10 * 0), (⟨O5'.out, B5.out⟩ : _ ∧ _), (.inl ⟨rfl, rfl, rfl⟩ : _ ∨ _)⟩
      case round =>
        obtain ⟨i, a, wn, S, rfl, rfl, hi, hkx, AC, OB, CS⟩ := hrel
        have hsz := OB.out.2.size
        have HSZ := Lib.hid hsz
        clear hsz
        by_cases hlt : i < 2 + m5
        · have hltz : (i : Int) < 2 + (m5 : Int) := by omega
          have HA := Lib.hid (show a ≤ 900 by have := AC.out; omega)
          rcases CS.out with ⟨hi0, hw, hS⟩ | ⟨hi0, hw, hS⟩
          · subst hi0 hw hS
            have CH := Lib.hid (cas_hit OB.out.1 (by have := HA.out; omega) CA.out 500)
            go_wp2_with (first
              | (go_at_call 14; refine CH.out.mono ?_; rintro e v1 ⟨rfl, hob, hb⟩; have D1 := Lib.hid (OB.out.2.trans hb); have LC := Lib.hid (load_at hob (by have := HA.out; omega) (CA.out.set 500)); clear hob hb)
              | (go_at_call 15; refine LC.out.mono ?_; rintro e v2 ⟨rfl, hob, hb⟩; have D2 := Lib.hid (D1.out.trans hb); have O2 := Lib.hid hob; clear hob hb))
            go_roundg (2 + m5 - 1)
            case measure => omega
            case rel => exact ⟨1, a + 1 + 1, 1, S.setC t.cs.length 500, by go_num, by go_num, by omega, Nat.le_refl _, (by have := AC.out; omega : a + 1 + 1 ≤ 10 + 10 * 1), (⟨O2.out, D2.out⟩ : _ ∧ _), (.inr ⟨by omega, rfl, rfl⟩ : _ ∨ _)⟩
          · subst hw hS
            have CH := Lib.hid (cas_miss OB.out.1 (by have := HA.out; omega) (CA.out.set 500) v (500 + (i : Int)) N5.out)
            have HI0 := Lib.hid hi0
            clear hi0
            go_wp2_with (go_at_call 14; refine CH.out.mono ?_; rintro e v1 ⟨rfl, hob, hb⟩; have D1 := Lib.hid (OB.out.2.trans hb); have O2 := Lib.hid hob; clear hob hb)
            go_roundg (2 + m5 - (i + 1))
            case measure => omega
            case rel => exact ⟨i + 1, a + 1, 1, T1.setC t.cs.length 500, by go_num, by go_num, by omega, Nat.le_refl _, (by have := AC.out; omega : a + 1 ≤ 10 + 10 * (i + 1)), (⟨O2.out, D1.out⟩ : _ ∧ _), (.inr ⟨by omega, rfl, rfl⟩ : _ ∨ _)⟩
        · obtain rfl : i = 2 + m5 := by omega
          rcases CS.out with ⟨hi0, hw, hS⟩ | ⟨hi0, hw, hS⟩
          · omega
          · subst hw hS
            have HA := Lib.hid (show a ≤ 900 by have := AC.out; omega)
            have AW := Lib.hid (awake_at OB.out.1 HSZ.out)
            go_wp2_with (first
              | (go_at_call 19; refine AW.out.mono ?_; rintro e v1 ⟨rfl, hob, hb⟩; have D1 := Lib.hid (OB.out.2.trans hb); have LC := Lib.hid (load_at hob (by have := HA.out; omega) (CA.out.set 500)); clear hob hb)
              | (go_at_call 15; refine LC.out.mono ?_; rintro e v2 ⟨rfl, hob, hb⟩; have D2 := Lib.hid (D1.out.trans hb); clear hob hb))
            go_ret
            exact ⟨rfl, B2.out.trans (D2.out.mono B2.out.size)⟩
  · have g1 : decide ((s.cs.length : Int) > 0) = false := decide_eq_false (by omega)
    have H5 : (500 : Int) ≠ 1 := by decide
    have HX := trivial
    go_upto_region 8 with (fail)
    have CA := Lib.hid (show CellAt (t.addC g cap 1) ((t.cs.length : Int) + 1) t.cs.length (1) from cellAt_of (by omega) (by simp [Sd.addC]))
    have N5 := Lib.hid (show (500 : Int) ≠ 1 from H5)
    clear H5 HX
    generalize t.addC g cap 1 = T1 at O4 CA
    generalize ((t.cs.length : Int) + 1 : Int) = c at CA ⊢
    generalize (1 : Int) = v at CA N5
    have LD := Lib.hid (load_at (a := 0) O4.out (by omega) CA.out)
    clear m1
    clear g1 hp
    go_upto_region 10 with (go_at_call 15; refine LD.out.mono ?_; rintro e u5 ⟨rfl, hob, hb⟩; have O5 := Lib.hid hob; have B5 := Lib.hid (B4.out.trans hb); clear hob hb)
    have O5' := Lib.hid (show Ob u5 u2.heap.size 77 q2 T1 ((1 : Nat) : Int) from O5.out)
    clear O5
    obtain ⟨m5, hm5, hm5l⟩ : ∃ m : Nat, a2 % 5 = (m : Int) ∧ m < 5 := ⟨(a2 % 5).toNat, by omega, by omega⟩
    go_wp2_with fail
    go_loopg [12, 13] (2 + m5) (fun kx s12 s13 wr => ∃ (i a wn : Nat) (S : Sd), s13 = .int .i64 i ∧ s12 = .int .i64 wn ∧ i ≤ 2 + m5 ∧ 2 + m5 - i ≤ kx ∧ Aside (a ≤ 10 + 10 * i) ∧ Aside (Ob wr u2.heap.size 77 q2 S a ∧ Below u2.heap.size u2 wr) ∧ Aside ((i = 0 ∧ wn = 0 ∧ S = T1) ∨ (0 < i ∧ wn = 1 ∧ S = T1.setC t.cs.length 500)))
    case atStart => exact ⟨0, 1, 0, T1, rfl, rfl, Nat.zero_le _, by omega, (by omega : 1 ≤ 10 + 10 * 0), (⟨O5'.out, B5.out⟩ : _ ∧ _), (.inl ⟨rfl, rfl, rfl⟩ : _ ∨ _)⟩
    case round =>
      obtain ⟨i, a, wn, S, rfl, rfl, hi, hkx, AC, OB, CS⟩ := hrel
      have hsz := OB.out.2.size
      have HSZ := Lib.hid hsz
      clear hsz
      by_cases hlt : i < 2 + m5
      · have hltz : (i : Int) < 2 + (m5 : Int) := by omega
        have HA := Lib.hid (show a ≤ 900 by have := AC.out; omega)
        rcases CS.out with ⟨hi0, hw, hS⟩ | ⟨hi0, hw, hS⟩
        · subst hi0 hw hS
          have CH := Lib.hid (cas_hit OB.out.1 (by have := HA.out; omega) CA.out 500)
          go_wp2_with (first
            | (go_at_call 14; refine CH.out.mono ?_; rintro e v1 ⟨rfl, hob, hb⟩; have D1 := Lib.hid (OB.out.2.trans hb); have LC := Lib.hid (load_at hob (by have := HA.out; omega) (CA.out.set 500)); clear hob hb)
            | (go_at_call 15; refine LC.out.mono ?_; rintro e v2 ⟨rfl, hob, hb⟩; have D2 := Lib.hid (D1.out.trans hb); have O2 := Lib.hid hob; clear hob hb))
          go_roundg (2 + m5 - 1)
          case measure => omega
          case rel => exact ⟨1, a + 1 + 1, 1, S.setC t.cs.length 500, by go_num, by go_num, by omega, Nat.le_refl _, (by have := AC.out; omega : a + 1 + 1 ≤ 10 + 10 * 1), (⟨O2.out, D2.out⟩ : _ ∧ _), (.inr ⟨by omega, rfl, rfl⟩ : _ ∨ _)⟩
        · subst hw hS
          have CH := Lib.hid (cas_miss OB.out.1 (by have := HA.out; omega) (CA.out.set 500) v (500 + (i : Int)) N5.out)
          have HI0 := Lib.hid hi0
          clear hi0
          go_wp2_with (go_at_call 14; refine CH.out.mono ?_; rintro e v1 ⟨rfl, hob, hb⟩; have D1 := Lib.hid (OB.out.2.trans hb); have O2 := Lib.hid hob; clear hob hb)
          go_roundg (2 + m5 - (i + 1))
          case measure => omega
          case rel => exact ⟨i + 1, a + 1, 1, T1.setC t.cs.length 500, by go_num, by go_num, by omega, Nat.le_refl _, (by have := AC.out; omega : a + 1 ≤ 10 + 10 * (i + 1)), (⟨O2.out, D1.out⟩ : _ ∧ _), (.inr ⟨by omega, rfl, rfl⟩ : _ ∨ _)⟩
      · obtain rfl : i = 2 + m5 := by omega
        rcases CS.out with ⟨hi0, hw, hS⟩ | ⟨hi0, hw, hS⟩
        · omega
        · subst hw hS
          have HA := Lib.hid (show a ≤ 900 by have := AC.out; omega)
          have AW := Lib.hid (awake_at OB.out.1 HSZ.out)
          go_wp2_with (first
            | (go_at_call 19; refine AW.out.mono ?_; rintro e v1 ⟨rfl, hob, hb⟩; have D1 := Lib.hid (OB.out.2.trans hb); have LC := Lib.hid (load_at hob (by have := HA.out; omega) (CA.out.set 500)); clear hob hb)
            | (go_at_call 15; refine LC.out.mono ?_; rintro e v2 ⟨rfl, hob, hb⟩; have D2 := Lib.hid (D1.out.trans hb); clear hob hb))
          go_ret
          exact ⟨rfl, B2.out.trans (D2.out.mono B2.out.size)⟩

/-! ### THE ROW's STEP -/
set_option maxRecDepth 100000 in
theorem lifted (os : Os) (started : os.Started) (H : Type) (enc : TypeId × Value → H) :
    ReturnsInHanded {} Try.checked os 6 .any (Rows.arenaAtomicSpec.pre6 enc Try.prog Try.f6 Rows.arenaAtomicRow.domain false) (Rows.arenaAtomicSpec.post enc Try.prog Try.f6 false true false false) := by
  refine returnsInHanded_of_change (C := Try.checked) own started (by kernel_rfl) Try.func6
    (ChangeSpec.witness6 (enc := enc) (C := Try.checked) false ⟨#[], #[.slice none 0 0, .int .u8 0, .int .u8 0], []⟩ 8 (by kernel_rfl) (by kernel_rfl) (by kernel_rfl) (by kernel_rfl)) ?_
  intro W base args ds gs before hval0 hW hcnd _
  have hval : ∀ (j : Nat) t v, Try.f6.params[j]? = some t → args[j]? = some v → Value.okWide Try.prog W .any base t v := hval0
  have hW' := hW
  obtain ⟨p, q, hA0, hV, rfl, hfz, hnd⟩ := hW
  have hA : DataW.TrodAll enc Try.prog W 0 (fun _ => true) true Try.f6.params.toList args.toList ds p := hA0
  rw [Try.params6] at hA hval
  obtain ⟨v0, vs0, d0, ds0, p0, q0, hargs, rfl, rfl, h0, r0⟩ := trodAll_cons hA
  obtain ⟨v1, vs1, d1, ds1, p1, q1, rfl, rfl, rfl, h1, r1⟩ := trodAll_cons r0
  obtain ⟨v2, vs2, d2, ds2, p2, q2, rfl, rfl, rfl, h2, r2⟩ := trodAll_cons r1
  obtain ⟨rfl, rfl, rfl⟩ := trodAll_nil r2
  obtain rfl : args = #[v0, v1, v2] := by cases args; simp_all
  obtain ⟨rfl, rfl⟩ := trodVars_none hV
  obtain ⟨a0, len0, cap0, rfl⟩ := okWide_slice Try.underlying22 (hval 0 22 v0 rfl rfl)
  have k0 := h0
  have lt0 : ∀ x ∈ p0, x.block < W.heap.size := by obtain ⟨m, hm⟩ := k0; exact DataW.trod_lt m _ _ _ hm
  have w0 := open_intsT h0
  obtain ⟨a1, rfl, rfl, rfl, w1⟩ := open_int Try.underlying5 (hval 1 5 v1 rfl rfl) h1
  obtain ⟨a2, rfl, rfl, rfl, w2⟩ := open_int Try.underlying5 (hval 2 5 v2 rfl rfl) h2
  clear hA0 hval0
  refine (walk a0 len0 cap0 a1 a2 W w0 w1 w2).mono fun e W' ⟨he, bel⟩ => ?_
  subst he
  exact ⟨_, rfl, _, _, _, [], _, [], hW', trodAll_mk1 (shut_bool Try.underlying4 _), (trodAll_cons_mk (Below.trod laidOut (by kernel_rfl) (of_decide_eq_true (by kernel_rfl)) k0 bel lt0) (trodAll_cons_mk (shut_int Try.underlying5 w1) (trodAll_cons_mk (shut_int Try.underlying5 w2) trodAll_mk0))), rfl, bel.frame _, fun h => by cases h⟩

theorem over : Rows.arenaAtomicRow.holds Try.pinned (OpenSpec.ofChange Rows.arenaAtomicSpec) :=
  OpenClaim.holds_of_wide 6 Try.f6 rfl rfl rfl rfl rfl rfl rfl ⟨rfl, rfl, rfl, rfl, rfl⟩ rfl rfl rfl rfl rfl (by kernel_rfl) Try.func6 (by kernel_rfl)
    (of_decide_eq_true (by kernel_rfl)) (by unfold Func.isWrapper; first | (rw [if_pos (by decide +kernel)]; kernel_rfl) | (rw [if_neg (by decide +kernel)]; exact ⟨rfl, rfl⟩))
    (fun os started H enc _ => lifted os started H enc)

/-- ████ THE STATEMENT ████ -/
theorem proved : Rows.ArenaAtomicSaid := over
#print axioms proved
end Go.Proofs.Ytcmnmimkjkpimaa.arenaAtomic
