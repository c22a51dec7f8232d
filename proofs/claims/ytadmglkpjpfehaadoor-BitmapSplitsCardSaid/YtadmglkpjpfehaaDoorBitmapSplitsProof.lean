/- For every input the Go function BitmapSplits of package ctrielaw02 returns true, and each argument reads afterwards as it read before; the one package-level variable that it reads (the table of math/bits) is tied to the program's text. Conditions: none but those that every row of the form bears by itself. The frame follows the guide's proof-skeleton and its worked tied card; the walk is ours. -/
import Derived.Test.YtadmglkpjpfehaaDoorTie
import Derived.Test.YtadmglkpjpfehaaDoorCards
import Derived.Test.YtadmglkpjpfehaaDoorFrame
import Derived.Test.YtadmglkpjpfehaaDoorWalksA
import Derived.SevenTiedAt
import Derived.ShutString
namespace Go.Proofs.YtadmglkpjpfehaaDoor.bitmapSplits
open Go.ChangeShapes Go.WideShapes Go.ChangeAt Go.RowKit
open Go.ChangeMaps (open_string shut_string)
set_option linter.unusedVariables false      -- a walk need not use every 'w<i>' (that an integer argument fits its kind)

theorem own : ownKnob Tryd.prog.godebug = none := by kernel_rfl

/-! ### STEP 1: THE WALK: the Go text returns true. 'Grown w w'': the world has at most new blocks (Derived/RowKit3.lean). Part the cases AHEAD of 'go_enter' where a test parts the walk; take each callee by a contract of your own. -/
theorem mask_walk {x : Int} (h : inr x = true) : IntKind.u64.wrap (IntKind.u64.wrap (2 ^ x.toNat) - 1) = sngI x - 1 := by
  rw [sng_walk h]
  have u := (sng_u64 x).2
  have p : 1 ≤ sngI x := by unfold sngI; rw [if_pos h]; have := Nat.two_pow_pos x.toNat; omega
  exact IntWalk.u64_in _ (by omega)
set_option maxHeartbeats 1000000 in
theorem walk (a0 : Int) (a1 : Int) (w0 : (Lit.int .u64 a0).wf = true) (w1 : (Lit.int .u8 a1).wf = true) (w : World) (T : Hid (Tab w)) :
    Calls Tryd.prog 7 #[.int .u64 a0, .int .u8 a1] w fun e w' => e = .returned (.bool true) ∧ Grown w w' := by
  have H := Lib.hid (u64_of_wf w0)
  have r1 := u8_of_wf w1
  obtain ⟨r10, r11⟩ := r1
  clear w0 w1
  have hx : inr (a1 % 64) = true := (inr_iff _).2 (by omega)
  have L : Hid (U64 (bits BinOp.and IntKind.u64 a0 (IntKind.u64.wrap (IntKind.u64.wrap (2 ^ (a1 % 64).toNat) - 1)))) := by rw [mask_walk hx]; exact low_u64 H.out hx
  have G : Hid (U64 (bits BinOp.andNot IntKind.u64 a0 (IntKind.u64.wrap (IntKind.u64.wrap (2 ^ (a1 % 64).toNat) - 1)))) := by rw [mask_walk hx]; exact high_u64 H.out hx
  have P : (cntI (bits BinOp.and IntKind.u64 a0 (IntKind.u64.wrap (IntKind.u64.wrap (2 ^ (a1 % 64).toNat) - 1))) == posI a0 (a1 % 64)) = true := by rw [mask_walk hx, pos_mid H.out hx]; simp
  have C : (cntI a0 == cntI (bits BinOp.and IntKind.u64 a0 (IntKind.u64.wrap (IntKind.u64.wrap (2 ^ (a1 % 64).toNat) - 1))) + cntI (bits BinOp.andNot IntKind.u64 a0 (IntKind.u64.wrap (IntKind.u64.wrap (2 ^ (a1 % 64).toNat) - 1)))) = true := by
    rw [mask_walk hx, ← cnt_split H.out hx]; simp
  obtain ⟨q10, q11⟩ := cnt_range (bits BinOp.and IntKind.u64 a0 (IntKind.u64.wrap (IntKind.u64.wrap (2 ^ (a1 % 64).toNat) - 1)))
  obtain ⟨q20, q21⟩ := cnt_range (bits BinOp.andNot IntKind.u64 a0 (IntKind.u64.wrap (IntKind.u64.wrap (2 ^ (a1 % 64).toNat) - 1)))
  clear hx
  go_enter Tryd.func7, Tryd.ntmps7
  go_wp2_with (first
    | (go_at_call 19; refine (count_any _ (by first | exact H.out | exact L.out | exact G.out) _).mono ?_; rintro e w' ⟨rfl, rfl⟩)
    | (go_at_call 10; refine (position_any _ _ H.out _).mono ?_; rintro e w' ⟨rfl, rfl⟩)
    | (go_at_call 18; refine (awake_any _ T).mono ?_; rintro e w' ⟨rfl, rfl⟩))
  go_ret
  exact ⟨rfl, Grown.refl _⟩

/-! ### THE ROW's STEP: WRITTEN OUT: LEAVE IT -/
set_option maxRecDepth 100000 in
theorem lifted (os : Os) (started : os.Started) (H : Type) (enc : TypeId × Value → H) :
    ReturnsInHanded {} Tryd.checked os 7 .any (fun w args => (Rows.bitmapSplitsSpec.pre enc Tryd.prog Tryd.f7 [] false w args ∧ laidMetH Tryd.prog laidL w) ∧ sizedMet enc Tryd.prog Tryd.f7 (OpenSpec.ofChange Rows.bitmapSplitsSpec) false w args) (Rows.bitmapSplitsSpec.post enc Tryd.prog Tryd.f7 false true false false) := by
  refine returnsInHanded_of_change_and (C := Tryd.checked) (X := fun w _ => laidMetH Tryd.prog laidL w) (fun _ _ _ hh h => h.of_heap hh) own started (by kernel_rfl) Tryd.func7
    (ChangeSpec.witness_shaped (enc := enc) (C := Tryd.checked) (os := os) (X := fun w _ => laidMetH Tryd.prog laidL w) false (startW os) #[.int .u64 0, .int .u8 0] 8 rfl (World.shaped_of_RefB (by kernel_rfl) (by kernel_rfl)) (by kernel_rfl) (by kernel_rfl) (by kernel_rfl) (start_met os _)) ?_
  intro W base args ds gs before hval0 hW _ _ hL _
  have hval : ∀ (j : Nat) t v, Tryd.f7.params[j]? = some t → args[j]? = some v → Value.okWide Tryd.prog W .any base t v := hval0
  have hW' := hW
  obtain ⟨p, q, hA0, hV, rfl, hfz, hnd⟩ := hW
  have hA : DataW.TrodAll enc Tryd.prog W 0 (fun _ => true) true Tryd.f7.params.toList args.toList ds p := hA0
  rw [Tryd.params7] at hA hval
  obtain ⟨v0, vs0, d0, ds0, p0, q0, hargs, rfl, rfl, h0, r0⟩ := trodAll_cons hA
  obtain ⟨v1, vs1, d1, ds1, p1, q1, rfl, rfl, rfl, h1, r1⟩ := trodAll_cons r0
  obtain ⟨rfl, rfl, rfl⟩ := trodAll_nil r1
  obtain rfl : args = #[v0, v1] := by cases args; simp_all
  obtain ⟨rfl, rfl⟩ := trodVars_none hV
  obtain ⟨a0, rfl, rfl, rfl, w0⟩ := open_int Tryd.underlying22 (hval 0 22 v0 rfl rfl) h0
  obtain ⟨a1, rfl, rfl, rfl, w1⟩ := open_int Tryd.underlying5 (hval 1 5 v1 rfl rfl) h1
  clear hA0 hval0
  simp only [List.append_nil] at hW'
  refine (walk a0 a1 w0 w1 W (Lib.hid (of_laid hL))).mono fun e W' ⟨he, hg⟩ => ?_
  subst he
  exact ⟨_, rfl, post_of_same (pa := []) (pv := []) hW' (fun _ _ _ => (trodAll_cons_mk (shut_bool Tryd.underlying4 _) trodAll_mk0)) (fun sp _ => (trodAll_cons_mk (shut_int Tryd.underlying22 w0) (trodAll_cons_mk (shut_int Tryd.underlying5 w1) trodAll_mk0))) (fun _ _ => rfl) rfl
    (hg.frame _) hg.2.1 (ok_one (by kernel_rfl) rfl (okWide_bool_mk Tryd.underlying4 _))⟩

theorem over : Rows.bitmapSplitsRow.holds Tryd.pinned (OpenSpec.ofChange Rows.bitmapSplitsSpec) :=
  OpenClaim.holds_of_wide 7 Tryd.f7 rfl rfl rfl rfl rfl rfl rfl ⟨rfl, rfl, rfl, rfl, rfl⟩ rfl rfl rfl rfl rfl (by kernel_rfl) Tryd.func7 (by kernel_rfl)
    (of_decide_eq_true (by kernel_rfl)) (by unfold Func.isWrapper; first | (rw [if_pos (by decide +kernel)]; kernel_rfl) | (rw [if_neg (by decide +kernel)]; exact ⟨rfl, rfl⟩))
    (fun os started H enc _ => lifted os started H enc)

/-- THE TIED CARD. -/
theorem proved : Rows.BitmapSplitsCardSaid :=
  Claim7.holds_tied_plain_at .later [] [.data] true (true, "d6c18442722b9e0bcac6a5c710f6658e12f3f878727569e51022cab100d678c2") false
    over (fun _ h => by cases h) (by kernel_rfl) (fun _ h => by cases h) bitmapSplits_row_tie rfl ⟨rfl, rfl⟩ (by kernel_rfl) rfl
    (fun f fn hf hfn => by
      obtain rfl : f = 7 := Option.some.inj ((show Tryd.prog.funcNamed "ctrie/ctrielaw02.BitmapSplits" = some 7 by kernel_rfl).symm.trans hf) |>.symm
      obtain rfl : fn = Tryd.f7 := (Option.some.inj (Tryd.func7.symm.trans hfn)).symm
      exact ⟨by kernel_rfl, fun j t ht => by
        rw [Tryd.params7] at ht
        have hm : t ∈ [22, 5] := by simpa using Array.mem_of_getElem? ht
        have hall : ([22, 5].all fun u => !Tryd.prog.wantsStandIn u) = true := by kernel_rfl
        exact (show Tryd.prog.wantsStandIn t = false by simpa using List.all_eq_true.1 hall t hm)⟩)
    (by kernel_rfl)
#print axioms proved
end Go.Proofs.YtadmglkpjpfehaaDoor.bitmapSplits
