/-
  The walks of NewGen of both, of the reference's Load and CAS, of Copy.
-/
import Derived.Test.YtcmnmimkjkpimaaLArS
set_option linter.unusedVariables false
set_option maxRecDepth 100000
namespace Go.Proofs.Ytcmnmimkjkpimaa
open Go.Shelf Go.RowKit Go.Lib Go.Sort

def Sd.withGen (s : Sd) (g : Int) : Sd := { s with gen := g }
def GenPost (T : TypeId) (base q : Nat) (s : Sd) (acc : Int) (w : World) (e : Ending) (w' : World) : Prop :=
  e = .returned (.int .i64 (s.gen + 1)) ∧ Ob w' base T q (s.withGen (s.gen + 1)) acc ∧ Fr (fun k => k = q) w w'
theorem fr_set (w : World) (q i : Nat) (v : Value) : Fr (fun k => k = q) w (w.setCell ⟨q, i, none⟩ v) := (Fr.refl (fun k => k = q) w).setCell (p := ⟨q, i, none⟩) (.inl rfl) _
set_option maxHeartbeats 4000000 in
theorem newgen_any (base q : Nat) (s : Sd) (acc : Int) (w : World) (h : Ob w base 77 q s acc) (hg : 0 ≤ s.gen ∧ s.gen ≤ 2000000) :
    Calls Try.prog 13 #[.pointer (some ⟨q, 0, none⟩)] w (GenPost 77 base q s acc w) := by
  have H := Lib.hid h
  have wr : IntKind.i64.wrap (s.gen + 1) = s.gen + 1 := by rw [IntKind.wrap_i64]; omega
  have c2 := block_cell h.blk (i := 2) (v := .int .i64 s.gen) rfl
  have f2 := block_frozen h.blk 2
  obtain ⟨W, hW⟩ : ∃ W, W = w.setCell ⟨q, 2, none⟩ (.int .i64 (s.gen + 1)) := ⟨_, rfl⟩
  have H1 := Lib.hid (show Ob W base 77 q (s.withGen (s.gen + 1)) acc by rw [hW]; exact h.setGen (by decide) (by decide) _)
  have FW := Lib.hid (show Fr (fun k => k = q) w W by rw [hW]; exact fr_set w q 2 _)
  have HW := Lib.hid hW.symm
  clear h hW
  go_enter Try.func13, Try.ntmps13
  go_upto_region 2 with (fail)
  rw [HW.out]
  clear c2 f2 wr
  have d2 := block_cell H1.out.blk (i := 2) (v := .int .i64 (s.gen + 1)) rfl
  go_wp2_with (fail)
  go_ret
  exact ⟨rfl, H1.out, FW.out⟩
set_option maxHeartbeats 4000000 in
theorem rnewgen_any (base q : Nat) (s : Sd) (acc : Int) (w : World) (h : Ob w base 37 q s acc) (hg : 0 ≤ s.gen ∧ s.gen ≤ 2000000) :
    Calls Try.prog 39 #[.pointer (some ⟨q, 0, none⟩)] w (GenPost 37 base q s acc w) := by
  have H := Lib.hid h
  have wr : IntKind.i64.wrap (s.gen + 1) = s.gen + 1 := by rw [IntKind.wrap_i64]; omega
  have c2 := block_cell h.blk (i := 2) (v := .int .i64 s.gen) rfl
  have f2 := block_frozen h.blk 2
  obtain ⟨W, hW⟩ : ∃ W, W = w.setCell ⟨q, 2, none⟩ (.int .i64 (s.gen + 1)) := ⟨_, rfl⟩
  have H1 := Lib.hid (show Ob W base 37 q (s.withGen (s.gen + 1)) acc by rw [hW]; exact h.setGen (by decide) (by decide) _)
  have FW := Lib.hid (show Fr (fun k => k = q) w W by rw [hW]; exact fr_set w q 2 _)
  have HW := Lib.hid hW.symm
  clear h hW
  go_enter Try.func39, Try.ntmps39
  go_upto_region 2 with (fail)
  rw [HW.out]
  clear c2 f2 wr
  have d2 := block_cell H1.out.blk (i := 2) (v := .int .i64 (s.gen + 1)) rfl
  go_wp2_with (fail)
  go_ret
  exact ⟨rfl, H1.out, FW.out⟩

/-! ### The reference's Load, CAS -/
def RLoadPost (base q : Nat) (s : Sd) (acc c : Int) (w : World) (e : Ending) (w' : World) : Prop :=
  e = .returned (.int .i64 (cellV s c)) ∧ Ob w' base 37 q s (acc + 1) ∧ Fr (fun k => k = q) w w'
set_option maxHeartbeats 4000000 in
theorem rload_any (base q : Nat) (s : Sd) (acc c : Int) (w : World) (h : Ob w base 37 q s acc) (ha : 0 ≤ acc ∧ acc ≤ 2000000) :
    Calls Try.prog 40 #[.pointer (some ⟨q, 0, none⟩), .int .i64 c] w (RLoadPost base q s acc c w) := by
  have H := Lib.hid h
  have wr : IntKind.i64.wrap (acc + 1) = acc + 1 := by rw [IntKind.wrap_i64]; omega
  have c3 := block_cell h.blk (i := 3) (v := .int .i64 acc) rfl
  have f3 := block_frozen h.blk 3
  obtain ⟨W, hW⟩ : ∃ W, W = w.setCell ⟨q, 3, none⟩ (.int .i64 (acc + 1)) := ⟨_, rfl⟩
  have H1 := Lib.hid (show Ob W base 37 q s (acc + 1) by rw [hW]; exact h.setAcc (by decide) (by decide) _)
  have FW := Lib.hid (show Fr (fun k => k = q) w W by rw [hW]; exact fr_set w q 3 _)
  have HW := Lib.hid hW.symm
  clear h hW
  go_enter Try.func40, Try.ntmps40
  go_upto_region 2 with (fail)
  rw [HW.out]
  clear c3 f3 wr
  have d1 := block_cell H1.out.blk (i := 1) (v := .slice s.cA s.cs.length s.cc) rfl
  have hcl := H.out.cl
  by_cases h1 : c < 1
  · have EV := Lib.hid (show cellV s c = 0 by simp [cellV, hasC, show ¬ (1 ≤ c) by omega])
    go_wp2_with (fail)
    go_ret
    exact ⟨by rw [EV.out]; rfl, H1.out, FW.out⟩
  · by_cases h2 : c > (s.cs.length : Int)
    · have EV := Lib.hid (show cellV s c = 0 by simp [cellV, hasC, show ¬ (c ≤ (s.cs.length : Int)) by omega])
      go_wp2_with (fail)
      go_ret
      exact ⟨by rw [EV.out]; rfl, H1.out, FW.out⟩
    · have hh : hasC s c = true := by simp [hasC]; omega
      obtain ⟨g, hg⟩ := H.out.cel_at (by omega)
      obtain ⟨k, v, rfl, hk, hv, hE, hEV⟩ := accP_some hg hh
      have EV := Lib.hid hEV
      have e1 := (H1.out.cell_ hg hv).1
      have hkn : (k : Int) < (s.cs.length : Int) := by omega
      have hk0 : (0 : Int) ≤ (k : Int) := by omega
      have j3 : IntKind.i64.wrap (k : Int) = (k : Int) := by rw [IntKind.wrap_i64]; omega
      have j4 : IntKind.i64.wrap ((k : Int) + 1 - 1) = (k : Int) := by rw [IntKind.wrap_i64]; omega
      rw [hg] at d1
      clear hE hEV hh hv
      go_wp2_with (fail)
      go_ret
      exact ⟨by rw [EV.out]; rfl, H1.out, FW.out⟩

def RCasPost (base q : Nat) (s : Sd) (acc c old new : Int) (w : World) (e : Ending) (w' : World) : Prop :=
  e = .returned (.bool (casB s c old)) ∧ Ob w' base 37 q (casS s c old new) (acc + 1) ∧ Fr (Mu q s) w w'
set_option maxHeartbeats 4000000 in
theorem rcas_any (base q : Nat) (s : Sd) (acc c old new : Int) (w : World) (h : Ob w base 37 q s acc) (ha : 0 ≤ acc ∧ acc ≤ 2000000) :
    Calls Try.prog 41 #[.pointer (some ⟨q, 0, none⟩), .int .i64 c, .int .i64 old, .int .i64 new] w (RCasPost base q s acc c old new w) := by
  have H := Lib.hid h
  have wr : IntKind.i64.wrap (acc + 1) = acc + 1 := by rw [IntKind.wrap_i64]; omega
  have c3 := block_cell h.blk (i := 3) (v := .int .i64 acc) rfl
  have f3 := block_frozen h.blk 3
  obtain ⟨W, hW⟩ : ∃ W, W = w.setCell ⟨q, 3, none⟩ (.int .i64 (acc + 1)) := ⟨_, rfl⟩
  have H1 := Lib.hid (show Ob W base 37 q s (acc + 1) by rw [hW]; exact h.setAcc (by decide) (by decide) _)
  have FW := Lib.hid (show Fr (Mu q s) w W by rw [hW]; exact (fr_set w q 3 _).mono fun k _ e => .inl e)
  have HW := Lib.hid hW.symm
  clear h hW
  go_enter Try.func41, Try.ntmps41
  go_upto_region 2 with (fail)
  rw [HW.out]
  clear c3 f3 wr
  have d1 := block_cell H1.out.blk (i := 1) (v := .slice s.cA s.cs.length s.cc) rfl
  have hcl := H.out.cl
  by_cases h1 : c < 1
  · have EV := Lib.hid (show casB s c old = false by simp [casB, hasC, show ¬ (1 ≤ c) by omega])
    go_wp2_with (fail)
    go_ret
    exact ⟨by rw [EV.out]; rfl, by rw [casS, EV.out]; exact H1.out, FW.out⟩
  · by_cases h2 : c > (s.cs.length : Int)
    · have EV := Lib.hid (show casB s c old = false by simp [casB, hasC, show ¬ (c ≤ (s.cs.length : Int)) by omega])
      go_wp2_with (fail)
      go_ret
      exact ⟨by rw [EV.out]; rfl, by rw [casS, EV.out]; exact H1.out, FW.out⟩
    · have hh : hasC s c = true := by simp [hasC]; omega
      obtain ⟨g, hg⟩ := H.out.cel_at (by omega)
      obtain ⟨k, v, rfl, hk, hv, hE, hEV⟩ := accP_some hg hh
      have e1 := (H1.out.cell_ hg hv).1
      have e2 := (H1.out.cell_ hg hv).2
      have hkn : (k : Int) < (s.cs.length : Int) := by omega
      have hk0 : (0 : Int) ≤ (k : Int) := by omega
      have j3 : IntKind.i64.wrap (k : Int) = (k : Int) := by rw [IntKind.wrap_i64]; omega
      have j4 : IntKind.i64.wrap ((k : Int) + 1 - 1) = (k : Int) := by rw [IntKind.wrap_i64]; omega
      have HK := Lib.hid hk
      have HG := Lib.hid hg
      rw [hg] at d1
      cases ho : (v == old) with
      | false =>
        have EV := Lib.hid (show casB s ((k : Int) + 1) old = false by simp only [casB, hEV, ho, Bool.and_false])
        clear hE hEV hh hv hg
        go_wp2_with (fail)
        go_ret
        exact ⟨by rw [EV.out]; rfl, by rw [casS, EV.out]; exact H1.out, FW.out⟩
      | true =>
        have EV := Lib.hid (show casB s ((k : Int) + 1) old = true by simp only [casB, hEV, ho, hh, Bool.and_true])
        clear hE hEV hh hv hg
        go_wp2_with (fail)
        go_ret
        refine ⟨by rw [EV.out]; rfl, ?_, FW.out.setCell (p := ⟨g, k, none⟩) (.inl (.inr (.inr ⟨_, HG.out, rfl⟩))) _⟩
        rw [casS, EV.out, show ((k : Int) + 1 - 1).toNat = k by omega]
        exact H1.out.setC (by decide) HG.out HK.out new

/-! ### Copy -/
def CpPost (s : Sd) (w : World) (e : Ending) (w' : World) : Prop :=
  ∃ (q : Nat) (t : Sd), e = .returned (.pointer (some ⟨q, 0, none⟩)) ∧ SameL s.ns t.ns ∧ t.cs = s.cs ∧ t.gen = s.gen ∧ Ob w' w.heap.size 77 q t 0 ∧ Below w.heap.size w w'
set_option maxHeartbeats 4000000 in
theorem copy_any (base q : Nat) (s : Sd) (acc : Int) (w : World) (h : Ob w base 77 q s acc) : Calls Try.prog 12 #[.pointer (some ⟨q, 0, none⟩)] w (CpPost s w) := by
  have C := Lib.hid (copied_any s w.heap.size w h.srd (Nat.le_refl _))
  unfold Sd.vals at C
  have q0 := block_cell h.blk (i := 0) (v := .slice s.nA s.ns.length s.nc) rfl
  have q1 := block_cell h.blk (i := 1) (v := .slice s.cA s.cs.length s.cc) rfl
  have q2 := block_cell h.blk (i := 2) (v := .int .i64 s.gen) rfl
  clear h
  go_enter Try.func12, Try.ntmps12
  go_wp2_with (go_at_call 34; refine C.out.mono ?_; rintro e V2 ⟨t, rfl, hs, hc, hgn, hcp, hb⟩; have K2 := Lib.hid (⟨hs, hc, hgn, hcp, hb⟩ : _ ∧ _ ∧ _ ∧ _ ∧ _); unfold Sd.vals; clear hs hc hgn hcp hb)
  go_ret
  exact ⟨V2.heap.size, t, rfl, K2.out.1, K2.out.2.1, K2.out.2.2.1, (K2.out.2.2.2.1).ob K2.out.2.2.2.2.size 0, K2.out.2.2.2.2.alloc K2.out.2.2.2.2.size _⟩

/-! ### Counts -/
set_option maxHeartbeats 4000000 in
theorem counts_any (base q : Nat) (s : Sd) (acc : Int) (w : World) (h : Ob w base 77 q s acc) : Calls Try.prog 42 #[.pointer (some ⟨q, 0, none⟩)] w fun e w' => e = .returned (.tuple #[.int .i64 s.ns.length, .int .i64 s.cs.length, .int .i64 acc]) ∧ Gr w w' := by
  have q0 := block_cell h.blk (i := 0) (v := .slice s.nA s.ns.length s.nc) rfl
  have q1 := block_cell h.blk (i := 1) (v := .slice s.cA s.cs.length s.cc) rfl
  have q3 := block_cell h.blk (i := 3) (v := .int .i64 acc) rfl
  clear h
  go_enter Try.func42, Try.ntmps42
  go_upto_region 1 with (fail)
  go_quiet (fail)
  go_wp2
  exact bodyPost_ret (v := .tuple #[.int .i64 s.ns.length, .int .i64 s.cs.length, .int .i64 acc]) (by simp [results, Try.results42]) rfl ⟨rfl, (Gr.refl w).drewN _⟩

end Go.Proofs.Ytcmnmimkjkpimaa
