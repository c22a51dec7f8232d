/- For every input the Go function BitmapExact of package ctrielaw02 returns true, and each argument reads afterwards as it read before; the one package-level variable that it reads (the table of math/bits) is tied to the program's text. Conditions: none but those that every row of the form bears by itself. The frame follows the guide's proof-skeleton and its worked tied card; the walk is ours. -/
import Derived.Test.YtadmglkpjpfehaaDoorTie
import Derived.Test.YtadmglkpjpfehaaDoorCards
import Derived.Test.YtadmglkpjpfehaaDoorFrame
import Derived.Test.YtadmglkpjpfehaaDoorWalksB
import Derived.SevenTiedAt
import Derived.ShutString
namespace Go.Proofs.YtadmglkpjpfehaaDoor.bitmapExact
open Go.ChangeShapes Go.WideShapes Go.ChangeAt Go.RowKit
open Go.ChangeMaps (open_string shut_string)
set_option linter.unusedVariables false      -- a walk need not use every 'w<i>' (that an integer argument fits its kind)

theorem own : ownKnob Tryd.prog.godebug = none := by kernel_rfl

/-! ### STEP 1: THE WALK: the Go text returns true. 'Grown w w'': the world has at most new blocks (Derived/RowKit3.lean). Part the cases AHEAD of 'go_enter' where a test parts the walk; take each callee by a contract of your own. -/
/- BELOW -/
set_option maxRecDepth 100000 in
set_option maxHeartbeats 2000000 in
theorem walk (a0 : Int) (a1 : Int) (a2 : Int) (w0 : (Lit.int .u64 a0).wf = true) (w1 : (Lit.int .i64 a1).wf = true) (w2 : (Lit.int .u8 a2).wf = true) (w : World) (T : Hid (Tab w)) :
    Calls Tryd.prog 3 #[.int .u64 a0, .int .i64 a1, .int .u8 a2] w fun e w' => e = .returned (.bool true) ∧ Below w.heap.size w w' := by
  have H := Lib.hid (u64_of_wf w0); clear w0
  have r1 := i64_of_wf w1
  have r2 := u8_of_wf w2
  obtain ⟨r10, r11⟩ := r1
  obtain ⟨r20, r21⟩ := r2
  clear w1 w2
  have hc64 := cntN_le a0
  go_enter Tryd.func3, Tryd.ntmps3
  go_wp2_with fail
  have hb0 : Below w.heap.size w (w.alloc (Obj.cells #[Value.int IntKind.i64 a1, Value.int IntKind.i64 (a2 % 70 - 3)] 3)) := (Below.refl _ _).alloc (Nat.le_refl _) _
  have hs0 : w.heap.size < (w.alloc (Obj.cells #[Value.int IntKind.i64 a1, Value.int IntKind.i64 (a2 % 70 - 3)] 3)).heap.size := by simp
  have hc0 : (w.alloc (Obj.cells #[Value.int IntKind.i64 a1, Value.int IntKind.i64 (a2 % 70 - 3)] 3)).cell? ⟨w.heap.size, 0, none⟩ = some (.int .i64 a1) := by simp
  have hc1 : (w.alloc (Obj.cells #[Value.int IntKind.i64 a1, Value.int IntKind.i64 (a2 % 70 - 3)] 3)).cell? ⟨w.heap.size, 1, none⟩ = some (.int .i64 (a2 % 70 - 3)) := by simp
  generalize w.alloc (Obj.cells #[Value.int IntKind.i64 a1, Value.int IntKind.i64 (a2 % 70 - 3)] 3) = W0 at *
  have T0 := Lib.hid (T.out.below hb0)
  have C0 := Lib.hid hc0
  have C1 := Lib.hid hc1
  clear hc0 hc1
  go_loopw [16] (fun x wr => ∃ j : Nat, j ≤ 2 ∧ x = .int .i64 j ∧ Below W0.heap.size W0 wr) (fun x _ => 2 - (intOf x).toNat)
  case atStart => exact ⟨0, by omega, rfl, Below.refl _ _⟩
  case round =>
    obtain ⟨j, hj, rfl, hbl⟩ := hrel
    have Tr := Lib.hid (T0.out.below hbl)
    have hsz := hbl.size
    rcases (show j = 0 ∨ j = 1 ∨ j = 2 by omega) with h | h | h
    · subst h
      have c : wr.cell? ⟨w.heap.size, 0, none⟩ = some (.int .i64 a1) := (hbl.cell (p := ⟨w.heap.size, 0, none⟩) hs0).trans C0.out
      go_wp2_with (first
        | (go_at_call 8; refine (has_any _ _ H.out _).mono ?_; rintro e w' ⟨rfl, rfl⟩)
        | (go_at_call 9; refine (rhas_any _ _ H.out _).mono ?_; rintro e w' ⟨rfl, rfl⟩)
        | (go_at_call 10; refine (position_any _ _ H.out _).mono ?_; rintro e w' ⟨rfl, rfl⟩)
        | (go_at_call 11; refine (rposition_any _ _ H.out _).mono ?_; rintro e w' ⟨rfl, rfl⟩)
        | (go_at_call 12; refine (with_any _ _ H.out _).mono ?_; rintro e w' ⟨rfl, rfl⟩)
        | (go_at_call 13; refine (rwith_any _ _ H.out _).mono ?_; rintro e w' ⟨rfl, rfl⟩)
        | (go_at_call 14; refine (without_any _ _ H.out _).mono ?_; rintro e w' ⟨rfl, rfl⟩)
        | (go_at_call 15; refine (rwithout_any _ _ H.out _).mono ?_; rintro e w' ⟨rfl, rfl⟩)
        | (go_at_call 16; refine (at_any _ _ H.out _ Tr).mono ?_; rintro e w' ⟨rfl, rfl⟩)
        | (go_at_call 17; refine (rat_any _ _ H.out _).mono ?_; rintro e w2 ⟨rfl, hb2⟩))
      exact ⟨⟨1, by omega, rfl, hbl.trans (hb2.mono hsz)⟩, by simp [intOf]⟩
    · subst h
      have c : wr.cell? ⟨w.heap.size, 1, none⟩ = some (.int .i64 (a2 % 70 - 3)) := (hbl.cell (p := ⟨w.heap.size, 1, none⟩) hs0).trans C1.out
      go_wp2_with (first
        | (go_at_call 8; refine (has_any _ _ H.out _).mono ?_; rintro e w' ⟨rfl, rfl⟩)
        | (go_at_call 9; refine (rhas_any _ _ H.out _).mono ?_; rintro e w' ⟨rfl, rfl⟩)
        | (go_at_call 10; refine (position_any _ _ H.out _).mono ?_; rintro e w' ⟨rfl, rfl⟩)
        | (go_at_call 11; refine (rposition_any _ _ H.out _).mono ?_; rintro e w' ⟨rfl, rfl⟩)
        | (go_at_call 12; refine (with_any _ _ H.out _).mono ?_; rintro e w' ⟨rfl, rfl⟩)
        | (go_at_call 13; refine (rwith_any _ _ H.out _).mono ?_; rintro e w' ⟨rfl, rfl⟩)
        | (go_at_call 14; refine (without_any _ _ H.out _).mono ?_; rintro e w' ⟨rfl, rfl⟩)
        | (go_at_call 15; refine (rwithout_any _ _ H.out _).mono ?_; rintro e w' ⟨rfl, rfl⟩)
        | (go_at_call 16; refine (at_any _ _ H.out _ Tr).mono ?_; rintro e w' ⟨rfl, rfl⟩)
        | (go_at_call 17; refine (rat_any _ _ H.out _).mono ?_; rintro e w2 ⟨rfl, hb2⟩))
      exact ⟨⟨2, by omega, rfl, hbl.trans (hb2.mono hsz)⟩, by simp [intOf]⟩
    · subst h
      go_wp2_with (first
        | (go_at_call 18; refine (awake_any _ Tr).mono ?_; rintro e w' ⟨rfl, rfl⟩)
        | (go_at_call 19; refine (count_any _ H.out _).mono ?_; rintro e w' ⟨rfl, rfl⟩)
        | (go_at_call 20; refine (rcount_any _ H.out _).mono ?_; rintro e w' ⟨rfl, rfl⟩)
        | (go_at_call 22; fail))
      refine (indices_any _ H.out _ Tr).mono ?_
      rintro e w2 ⟨rfl, hown2, hb2⟩
      go_wp2_with fail
      refine (rindices_any _ H.out _).mono ?_
      rintro e w3 ⟨A, c, rfl, hown3, hb3⟩
      have g2 := holds_of (lst_len a0).symm hown2
      have g3 := Lib.hid (holds_of (lst_len a0).symm hown3)
      have G2 : Hid (Holds w3 (some ⟨wr.heap.size, 0, none⟩) (lstI a0)) := by
        intro h0
        obtain ⟨g, e, hc⟩ := g2 h0
        injection e with e
        injection e with e
        subst e
        exact ⟨_, rfl, fun k hk => (hb3.cell (p := ⟨wr.heap.size, k, none⟩) (World.block_lt_of_cell? w2 _ (hc k hk))).trans (hc k hk)⟩
      clear g2 hown2 hown3
      have hs2 := hb2.size
      have hs3 := hb3.size
      go_wp2_with fail
      refine (equal_any _ _ _ _ _ (lstI a0) _ (lst_len a0).symm hc64 G2.out g3.out).mono ?_
      rintro e w4 ⟨rfl, hb4⟩
      go_wp2
      go_ret
      exact ⟨rfl, hb0.trans ((hbl.trans ((hb2.mono hsz).trans ((hb3.mono (by omega)).trans (hb4.mono (by omega))))).mono (by omega))⟩

/-! ### THE ROW's STEP: WRITTEN OUT: LEAVE IT -/
set_option maxRecDepth 100000 in
theorem lifted (os : Os) (started : os.Started) (H : Type) (enc : TypeId × Value → H) :
    ReturnsInHanded {} Tryd.checked os 3 .any (fun w args => (Rows.bitmapExactSpec.pre enc Tryd.prog Tryd.f3 [] false w args ∧ laidMetH Tryd.prog laidL w) ∧ sizedMet enc Tryd.prog Tryd.f3 (OpenSpec.ofChange Rows.bitmapExactSpec) false w args) (Rows.bitmapExactSpec.post enc Tryd.prog Tryd.f3 false true false false) := by
  refine returnsInHanded_of_change_and (C := Tryd.checked) (X := fun w _ => laidMetH Tryd.prog laidL w) (fun _ _ _ hh h => h.of_heap hh) own started (by kernel_rfl) Tryd.func3
    (ChangeSpec.witness_shaped (enc := enc) (C := Tryd.checked) (os := os) (X := fun w _ => laidMetH Tryd.prog laidL w) false (startW os) #[.int .u64 0, .int .i64 0, .int .u8 0] 8 rfl (World.shaped_of_RefB (by kernel_rfl) (by kernel_rfl)) (by kernel_rfl) (by kernel_rfl) (by kernel_rfl) (start_met os _)) ?_
  intro W base args ds gs before hval0 hW _ _ hL _
  have hval : ∀ (j : Nat) t v, Tryd.f3.params[j]? = some t → args[j]? = some v → Value.okWide Tryd.prog W .any base t v := hval0
  have hW' := hW
  obtain ⟨p, q, hA0, hV, rfl, hfz, hnd⟩ := hW
  have hA : DataW.TrodAll enc Tryd.prog W 0 (fun _ => true) true Tryd.f3.params.toList args.toList ds p := hA0
  rw [Tryd.params3] at hA hval
  obtain ⟨v0, vs0, d0, ds0, p0, q0, hargs, rfl, rfl, h0, r0⟩ := trodAll_cons hA
  obtain ⟨v1, vs1, d1, ds1, p1, q1, rfl, rfl, rfl, h1, r1⟩ := trodAll_cons r0
  obtain ⟨v2, vs2, d2, ds2, p2, q2, rfl, rfl, rfl, h2, r2⟩ := trodAll_cons r1
  obtain ⟨rfl, rfl, rfl⟩ := trodAll_nil r2
  obtain rfl : args = #[v0, v1, v2] := by cases args; simp_all
  obtain ⟨rfl, rfl⟩ := trodVars_none hV
  obtain ⟨a0, rfl, rfl, rfl, w0⟩ := open_int Tryd.underlying22 (hval 0 22 v0 rfl rfl) h0
  obtain ⟨a1, rfl, rfl, rfl, w1⟩ := open_int Tryd.underlying3 (hval 1 3 v1 rfl rfl) h1
  obtain ⟨a2, rfl, rfl, rfl, w2⟩ := open_int Tryd.underlying5 (hval 2 5 v2 rfl rfl) h2
  clear hA0 hval0
  simp only [List.append_nil] at hW'
  refine (walk a0 a1 a2 w0 w1 w2 W (Lib.hid (of_laid hL))).mono fun e W' ⟨he, hg⟩ => ?_
  subst he
  exact ⟨_, rfl, post_below (pa := []) (pv := []) hW' (fun _ _ _ => (trodAll_cons_mk (shut_bool Tryd.underlying4 _) trodAll_mk0)) (fun sp _ => (trodAll_cons_mk (shut_int Tryd.underlying22 w0) (trodAll_cons_mk (shut_int Tryd.underlying3 w1) (trodAll_cons_mk (shut_int Tryd.underlying5 w2) trodAll_mk0)))) (fun _ _ => rfl) rfl
    hg (ok_one (by kernel_rfl) rfl (okWide_bool_mk Tryd.underlying4 _))⟩

theorem over : Rows.bitmapExactRow.holds Tryd.pinned (OpenSpec.ofChange Rows.bitmapExactSpec) :=
  OpenClaim.holds_of_wide 3 Tryd.f3 rfl rfl rfl rfl rfl rfl rfl ⟨rfl, rfl, rfl, rfl, rfl⟩ rfl rfl rfl rfl rfl (by kernel_rfl) Tryd.func3 (by kernel_rfl)
    (of_decide_eq_true (by kernel_rfl)) (by unfold Func.isWrapper; first | (rw [if_pos (by decide +kernel)]; kernel_rfl) | (rw [if_neg (by decide +kernel)]; exact ⟨rfl, rfl⟩))
    (fun os started H enc _ => lifted os started H enc)

/-- THE TIED CARD. -/
theorem proved : Rows.BitmapExactCardSaid :=
  Claim7.holds_tied_plain_at .later [] [.data] true (true, "d6c18442722b9e0bcac6a5c710f6658e12f3f878727569e51022cab100d678c2") false
    over (fun _ h => by cases h) (by kernel_rfl) (fun _ h => by cases h) bitmapExact_row_tie rfl ⟨rfl, rfl⟩ (by kernel_rfl) rfl
    (fun f fn hf hfn => by
      obtain rfl : f = 3 := Option.some.inj ((show Tryd.prog.funcNamed "ctrie/ctrielaw02.BitmapExact" = some 3 by kernel_rfl).symm.trans hf) |>.symm
      obtain rfl : fn = Tryd.f3 := (Option.some.inj (Tryd.func3.symm.trans hfn)).symm
      exact ⟨by kernel_rfl, fun j t ht => by
        rw [Tryd.params3] at ht
        have hm : t ∈ [22, 3, 5] := by simpa using Array.mem_of_getElem? ht
        have hall : ([22, 3, 5].all fun u => !Tryd.prog.wantsStandIn u) = true := by kernel_rfl
        exact (show Tryd.prog.wantsStandIn t = false by simpa using List.all_eq_true.1 hall t hm)⟩)
    (by kernel_rfl)
#print axioms proved
end Go.Proofs.YtadmglkpjpfehaaDoor.bitmapExact
