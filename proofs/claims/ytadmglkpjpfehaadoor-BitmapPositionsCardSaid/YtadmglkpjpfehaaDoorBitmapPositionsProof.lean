/- For every input the Go function BitmapPositions of package ctrielaw02 returns true, and each argument reads afterwards as it read before; the one package-level variable that it reads (the table of math/bits) is tied to the program's text. Conditions: none but those that every row of the form bears by itself. The frame follows the guide's proof-skeleton and its worked tied card; the walk is ours. -/
import Derived.Test.YtadmglkpjpfehaaDoorTie
import Derived.Test.YtadmglkpjpfehaaDoorCards
import Derived.Test.YtadmglkpjpfehaaDoorFrame
import Derived.Test.YtadmglkpjpfehaaDoorWalksB
import Derived.SevenTiedAt
import Derived.ShutString
namespace Go.Proofs.YtadmglkpjpfehaaDoor.bitmapPositions
open Go.ChangeShapes Go.WideShapes Go.ChangeAt Go.RowKit
open Go.ChangeMaps (open_string shut_string)
set_option linter.unusedVariables false      -- a walk need not use every 'w<i>' (that an integer argument fits its kind)

theorem own : ownKnob Tryd.prog.godebug = none := by kernel_rfl

/-! ### STEP 1: THE WALK: the Go text returns true. 'Grown w w'': the world has at most new blocks (Derived/RowKit3.lean). Part the cases AHEAD of 'go_enter' where a test parts the walk; take each callee by a contract of your own. -/
/- BELOW -/
theorem hold_at {w1 : World} {g : Nat} {xs : List Int} (h : Holds w1 (some ⟨g, 0, none⟩) xs) {k : Nat} (hk : k < xs.length) : w1.cell? ⟨g, k, none⟩ = some (.int .i64 (xs.getD k 0)) := by
  obtain ⟨g', e, hc⟩ := h (by omega)
  injection e with e
  injection e with e
  subst e
  exact hc k hk
theorem lst_at {w1 : World} {g : Nat} {b : Int} (h : Holds w1 (some ⟨g, 0, none⟩) (lstI b)) {k : Nat} (hk : k < cntN b) : w1.cell? ⟨g, k, none⟩ = some (.int .i64 (elI b k)) := by
  rw [hold_at h (by rw [lst_len]; exact hk), lst_getD hk]
set_option maxRecDepth 100000 in
set_option maxHeartbeats 2000000 in
theorem walk (a0 : Int) (w0 : (Lit.int .u64 a0).wf = true) (w : World) (T : Hid (Tab w)) :
    Calls Tryd.prog 4 #[.int .u64 a0] w fun e w' => e = .returned (.bool true) ∧ Below w.heap.size w w' := by
  have H := Lib.hid (u64_of_wf w0); clear w0
  have hc64 := cntN_le a0
  have hcn : (cntI a0 : Int) = (cntN a0 : Int) := rfl
  have CN := Lib.hid hcn; clear hcn
  go_enter Tryd.func4, Tryd.ntmps4
  go_wp2_with fail
  refine (indices_any _ H.out _ T).mono ?_
  rintro e w1 ⟨rfl, hown, hbl⟩
  have T1 := Lib.hid (T.out.below hbl)
  have HO := Lib.hid (holds_of (lst_len a0).symm hown); clear hown
  have hcc : ((cntN a0 : Int) != cntI a0) = false := by rw [CN.out]; simp
  have SA := Lib.hid (sum_all H.out)
  go_wp2_with (first
    | (go_at_call 19; refine (count_any _ H.out _).mono ?_; rintro e w' ⟨rfl, rfl⟩)
    | (go_at_call 18; refine (awake_any _ T1).mono ?_; rintro e w' ⟨rfl, rfl⟩))
  clear hcc
  go_loop [4, 20] (fun s x => ∃ (p : Nat), p ≤ cntN a0 ∧ x = .int .i64 p ∧ s = .int .u64 (sumI a0 p)) (fun _ x => cntN a0 - (intOf x).toNat)
  case atStart => exact ⟨0, Nat.zero_le _, rfl, by rw [sum_zero]⟩
  case round =>
    obtain ⟨p, hp, rfl, rfl⟩ := hrel
    have su := (sum_u64 a0 p).2
    have su0 := (sum_u64 a0 p).1
    by_cases hlt : p < cntN a0
    · have er := el_range a0 p
      obtain ⟨er0, er1⟩ := er
      have c1 := lst_at HO.out hlt
      have d1 : decide (elI a0 p < 0) = false := by simp; omega
      have d2 : decide (63 < elI a0 p) = false := by simp; omega
      have f1 : (posI a0 (elI a0 p) != (p : Int)) = false := by rw [el_pos hlt]; simp
      have f2 : (atI a0 (p : Int) != elI a0 p) = false := by rw [el_at hlt]; simp
      have f3 := el_has hlt
      have SS := Lib.hid (sum_step hlt)
      rcases Nat.eq_zero_or_pos p with h0 | h0
      · subst h0
        have g1 : (posI a0 (elI a0 0) != 0) = false := f1
        have g2 : (atI a0 0 != elI a0 0) = false := f2
        have b0 : (0 : Int) < (cntN a0 : Int) := by omega
        clear f1 f2
        go_wp2_with (first
          | (go_at_call 10; refine (position_any _ _ H.out _).mono ?_; rintro e w' ⟨rfl, rfl⟩)
          | (go_at_call 16; refine (at_any _ _ H.out _ T1).mono ?_; rintro e w' ⟨rfl, rfl⟩)
          | (go_at_call 8; refine (has_any _ _ H.out _).mono ?_; rintro e w' ⟨rfl, rfl⟩))
        go_round
        case rel => exact ⟨1, hlt, rfl, by first | rw [← SS.out] | exact congrArg _ SS.out⟩
        case measure => simp [intOf]; omega
      · obtain ⟨q, rfl⟩ : ∃ q, p = q + 1 := ⟨p - 1, by omega⟩
        have c2 := lst_at HO.out (show q < cntN a0 by omega)
        have lt := el_mono hlt
        have d3 : decide (elI a0 (q + 1) ≤ elI a0 q) = false := by simp; omega
        have d4 : decide ((0 : Int) < (q : Int) + 1) = true := decide_eq_true (by omega)
        have b0 : (0 : Int) ≤ (q : Int) := by omega
        have b1 : (q : Int) < (cntN a0 : Int) := by omega
        have b2 : (q : Int) + 1 < (cntN a0 : Int) := by omega
        have g1 : (posI a0 (elI a0 (q + 1)) != (q : Int) + 1) = false := f1
        have g2 : (atI a0 ((q : Int) + 1) != elI a0 (q + 1)) = false := f2
        clear f1 f2
        go_wp2_with (first
          | (go_at_call 10; refine (position_any _ _ H.out _).mono ?_; rintro e w' ⟨rfl, rfl⟩)
          | (go_at_call 16; refine (at_any _ _ H.out _ T1).mono ?_; rintro e w' ⟨rfl, rfl⟩)
          | (go_at_call 8; refine (has_any _ _ H.out _).mono ?_; rintro e w' ⟨rfl, rfl⟩))
        go_round
        case rel => exact ⟨q + 2, hlt, by go_num, by first | rw [← SS.out] | exact congrArg _ SS.out⟩
        case measure => simp [intOf]; omega
    · obtain rfl : p = cntN a0 := by omega
      have e : (sumI a0 (cntN a0) == a0) = true := by have := SA.out; unfold cntN; rw [this]; simp
      go_wp2
      go_ret
      exact ⟨rfl, hbl⟩

/-! ### THE ROW's STEP: WRITTEN OUT: LEAVE IT -/
set_option maxRecDepth 100000 in
theorem lifted (os : Os) (started : os.Started) (H : Type) (enc : TypeId × Value → H) :
    ReturnsInHanded {} Tryd.checked os 4 .any (fun w args => (Rows.bitmapPositionsSpec.pre enc Tryd.prog Tryd.f4 [] false w args ∧ laidMetH Tryd.prog laidL w) ∧ sizedMet enc Tryd.prog Tryd.f4 (OpenSpec.ofChange Rows.bitmapPositionsSpec) false w args) (Rows.bitmapPositionsSpec.post enc Tryd.prog Tryd.f4 false true false false) := by
  refine returnsInHanded_of_change_and (C := Tryd.checked) (X := fun w _ => laidMetH Tryd.prog laidL w) (fun _ _ _ hh h => h.of_heap hh) own started (by kernel_rfl) Tryd.func4
    (ChangeSpec.witness_shaped (enc := enc) (C := Tryd.checked) (os := os) (X := fun w _ => laidMetH Tryd.prog laidL w) false (startW os) #[.int .u64 0] 8 rfl (World.shaped_of_RefB (by kernel_rfl) (by kernel_rfl)) (by kernel_rfl) (by kernel_rfl) (by kernel_rfl) (start_met os _)) ?_
  intro W base args ds gs before hval0 hW _ _ hL _
  have hval : ∀ (j : Nat) t v, Tryd.f4.params[j]? = some t → args[j]? = some v → Value.okWide Tryd.prog W .any base t v := hval0
  have hW' := hW
  obtain ⟨p, q, hA0, hV, rfl, hfz, hnd⟩ := hW
  have hA : DataW.TrodAll enc Tryd.prog W 0 (fun _ => true) true Tryd.f4.params.toList args.toList ds p := hA0
  rw [Tryd.params4] at hA hval
  obtain ⟨v0, vs0, d0, ds0, p0, q0, hargs, rfl, rfl, h0, r0⟩ := trodAll_cons hA
  obtain ⟨rfl, rfl, rfl⟩ := trodAll_nil r0
  obtain rfl : args = #[v0] := by cases args; simp_all
  obtain ⟨rfl, rfl⟩ := trodVars_none hV
  obtain ⟨a0, rfl, rfl, rfl, w0⟩ := open_int Tryd.underlying22 (hval 0 22 v0 rfl rfl) h0
  clear hA0 hval0
  simp only [List.append_nil] at hW'
  refine (walk a0 w0 W (Lib.hid (of_laid hL))).mono fun e W' ⟨he, hg⟩ => ?_
  subst he
  exact ⟨_, rfl, post_below (pa := []) (pv := []) hW' (fun _ _ _ => (trodAll_cons_mk (shut_bool Tryd.underlying4 _) trodAll_mk0)) (fun sp _ => (trodAll_cons_mk (shut_int Tryd.underlying22 w0) trodAll_mk0)) (fun _ _ => rfl) rfl
    hg (ok_one (by kernel_rfl) rfl (okWide_bool_mk Tryd.underlying4 _))⟩

theorem over : Rows.bitmapPositionsRow.holds Tryd.pinned (OpenSpec.ofChange Rows.bitmapPositionsSpec) :=
  OpenClaim.holds_of_wide 4 Tryd.f4 rfl rfl rfl rfl rfl rfl rfl ⟨rfl, rfl, rfl, rfl, rfl⟩ rfl rfl rfl rfl rfl (by kernel_rfl) Tryd.func4 (by kernel_rfl)
    (of_decide_eq_true (by kernel_rfl)) (by unfold Func.isWrapper; first | (rw [if_pos (by decide +kernel)]; kernel_rfl) | (rw [if_neg (by decide +kernel)]; exact ⟨rfl, rfl⟩))
    (fun os started H enc _ => lifted os started H enc)

/-- THE TIED CARD. -/
theorem proved : Rows.BitmapPositionsCardSaid :=
  Claim7.holds_tied_plain_at .later [] [.data] true (true, "d6c18442722b9e0bcac6a5c710f6658e12f3f878727569e51022cab100d678c2") false
    over (fun _ h => by cases h) (by kernel_rfl) (fun _ h => by cases h) bitmapPositions_row_tie rfl ⟨rfl, rfl⟩ (by kernel_rfl) rfl
    (fun f fn hf hfn => by
      obtain rfl : f = 4 := Option.some.inj ((show Tryd.prog.funcNamed "ctrie/ctrielaw02.BitmapPositions" = some 4 by kernel_rfl).symm.trans hf) |>.symm
      obtain rfl : fn = Tryd.f4 := (Option.some.inj (Tryd.func4.symm.trans hfn)).symm
      exact ⟨by kernel_rfl, fun j t ht => by
        rw [Tryd.params4] at ht
        have hm : t ∈ [22] := by simpa using Array.mem_of_getElem? ht
        have hall : ([22].all fun u => !Tryd.prog.wantsStandIn u) = true := by kernel_rfl
        exact (show Tryd.prog.wantsStandIn t = false by simpa using List.all_eq_true.1 hall t hm)⟩)
    (by kernel_rfl)
#print axioms proved
end Go.Proofs.YtadmglkpjpfehaaDoor.bitmapPositions
