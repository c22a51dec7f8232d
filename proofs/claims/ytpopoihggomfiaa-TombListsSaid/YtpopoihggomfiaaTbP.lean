/-
  Layer 7: the examples of the chapter.
-/
import Derived.Test.YtpopoihggomfiaaTbO
import Derived.Deep.RegionHeld3
set_option linter.unusedVariables false
set_option maxRecDepth 100000
namespace Go.Proofs.Ytpopoihggomfiaa
open Go.Shelf Go.RowKit Go.Lib Go.Sort
attribute [local go_sem ↓] exec_load28 exec_storeN
attribute [local go_sem] run_storeNode_new

def ka : ByteArray := ⟨#[97]⟩
def kb : ByteArray := ⟨#[98]⟩
def sN : Nd := { Nd.zero with kind := 4, hash := 5, key := ⟨#[97]⟩, val := 1 }
def cN (bm : Int) (A : Option Addr) (c : Nat) (L : List Int) : Nd := { Nd.zero with kind := 3, bm := bm, bA := A, bc := c, bs := L }
theorem cN_lit (bm : Int) (A : Option Addr) (c : Nat) (L : List Int) : (cN bm A c L).cs = #[.int .i64 3, .int .i64 0, .int .i64 0, .int .u64 bm, .slice A L.length c, .int .u64 0, .string ⟨#[]⟩, .int .u64 0, .slice none 0 0, .int .i64 0, .int .i64 0, .int .i64 0, .int .i64 0, .int .i64 0] := rfl
theorem sN_lit : sN.cs = #[.int .i64 4, .int .i64 0, .int .i64 0, .int .u64 0, .slice none 0 0, .int .u64 5, .string ⟨#[97]⟩, .int .u64 1, .slice none 0 0, .int .i64 0, .int .i64 0, .int .i64 0, .int .i64 0, .int .i64 0] := rfl
theorem isC_cN {bm : Int} {A : Option Addr} {c : Nat} {L : List Int} (hl : (L.length : Int) = cntI bm) (hp : ∀ z ∈ L, 1 ≤ z) : isC (cN bm A c L) = true := by
  have h2 : lowB L = false := by
    unfold lowB
    rw [List.any_eq_false]
    intro z hz
    have := hp z hz
    simp [lowK]; omega
  simp [isC, validN, eqN, own, cellsB, fieldsB, cN, Nd.zero, hl, h2]
theorem row_rdR (w : World) (L : List Int) : RdR (w.alloc (.cells (flatR L).toArray 26)) (w.heap.size + 1) (some ⟨w.heap.size, 0, none⟩) L := fun _ =>
  ⟨_, rfl, Nat.lt_succ_self _, fun j u hj => by
    have := cell_of_row (w.alloc (.cells (flatR L).toArray 26)) w.heap.size j (flatR L).toArray 26 (0, 0) (heap_alloc_new w _)
    rw [Addr.add_lit, Nat.zero_add]
    exact this.trans (by simpa using hj)⟩
theorem gn_cN (w : World) {bm : Int} (hb : U64 bm) (L : List Int) (hl : L.length ≤ 1000) : GN (w.alloc (.cells (flatR L).toArray 26)) (cN bm (some ⟨w.heap.size, 0, none⟩) L.length L) :=
  ⟨⟨(row_rdR w L).more (by simp), Rd.nil, hb, hl, Nat.zero_le _⟩, (fun e => by cases e), fun _ => rfl, Nat.le_refl _, Nat.le_refl _⟩
theorem gn_mkL (w : World) (h : Int) (L : List Pr) (hl : L.length ≤ 1000) : GN (w.alloc (.cells (flat L).toArray 54)) (mkL h (some ⟨w.heap.size, 0, none⟩) L.length L) :=
  ⟨⟨RdR.nil, lit_rd w L, u64_zero, Nat.zero_le _, hl⟩, fun _ => rfl, (fun e => by cases e), Nat.le_refl _, Nat.le_refl _⟩
theorem gn_sN (w : World) : GN w sN := ⟨⟨RdR.nil, Rd.nil, u64_zero, Nat.zero_le _, Nat.zero_le _⟩, fun _ => rfl, fun _ => rfl, Nat.le_refl _, Nat.le_refl _⟩
theorem aw_asc : Asc [(ka, 1), (kb, 2)] := by
  refine List.pairwise_cons.2 ⟨fun z hz => ?_, List.pairwise_singleton _ _⟩
  rw [List.mem_singleton.1 hz]
  decide
theorem aw_isL (A : Option Addr) (c : Nat) : isL (mkL 5 A c [(ka, 1), (kb, 2)]) = true :=
  isL_mk rfl rfl rfl rfl rfl rfl rfl rfl rfl rfl rfl (Int.le_refl 0) aw_asc (by show 2 ≤ 2; omega) (fun p hp => by
    have hp' : p ∈ [(ka, (1 : Int)), (kb, 2)] := hp
    simp at hp'
    rcases hp' with rfl | rfl <;> decide)
theorem aw_shrB (A : Option Addr) (c : Nat) : shrB (mkL 5 A c [(ka, 1), (kb, 2)]) ka = true := by
  simp only [shrB, aw_isL, Bool.true_and]
  show (lk [(ka, 1), (kb, 2)] ka).isSome = true
  rw [show lk [(ka, 1), (kb, 2)] ka = some 1 from (lk_mem aw_asc ka 1).1 (by simp)]
  rfl
theorem aw_shrV (A : Option Addr) (c : Nat) : shrV (mkL 5 A c [(ka, 1), (kb, 2)]) ka = tombX 5 (kb, 2) := by
  simp only [shrV, aw_shrB, if_true]
  show restV 5 (wo [(ka, 1), (kb, 2)] ka) = _
  rw [show wo [(ka, 1), (kb, 2)] ka = [(kb, 2)] from by unfold wo; simp [List.filter, Lib.toList_data, ka, kb]]
  rfl
theorem u64_4 : U64 4 := by unfold U64; omega
theorem aw_sole (A : Option Addr) (c : Nat) : soleB (cN 4 A c [9]) = true := by
  have h := isC_cN (bm := 4) (A := A) (c := c) (L := [9]) (by decide +kernel) (by intro z hz; simp at hz; omega)
  simp only [soleB, h, Bool.true_and]
  rfl
theorem aw_ctr (A : Option Addr) (c : Nat) : ctrV (cN 4 A c [9]) 3 sN = tombN sN := by
  simp [ctrV, ctrB, aw_sole, sN]
theorem ctr_zero (c s : Nd) : ctrV c 0 s = c := by simp [ctrV, ctrB]
theorem eq_lit5 {X : World} {y : Nd} (gy : GN X y) (x : Pr) (vy : Vw y (tombX 5 x)) : Calls Try.prog 16 #[.agg y.cs, .agg #[.int .i64 5, .int .i64 0, .int .i64 0, .int .u64 0, .slice none 0 0, .int .u64 5, .string x.1, .int .u64 x.2, .slice none 0 0, .int .i64 0, .int .i64 0, .int .i64 0, .int .i64 0, .int .i64 0]] X fun e w' => e = .returned (.bool true) ∧ Gr X w' := by
  have h := equal_v gy (gn_tombX X 5 x) vy (Vw.refl _)
  rw [tombX_lit] at h
  exact h
theorem eq_litA {X : World} {y : Nd} (gy : GN X y) (vy : Vw y (tombX 5 (ka, 1))) : Calls Try.prog 16 #[.agg y.cs, .agg #[.int .i64 5, .int .i64 0, .int .i64 0, .int .u64 0, .slice none 0 0, .int .u64 5, .string ⟨#[97]⟩, .int .u64 1, .slice none 0 0, .int .i64 0, .int .i64 0, .int .i64 0, .int .i64 0, .int .i64 0]] X fun e w' => e = .returned (.bool true) ∧ Gr X w' := eq_lit5 gy (ka, 1) vy
theorem eq_litB {X : World} {y : Nd} (gy : GN X y) (vy : Vw y (tombX 5 (kb, 2))) : Calls Try.prog 16 #[.agg y.cs, .agg #[.int .i64 5, .int .i64 0, .int .i64 0, .int .u64 0, .slice none 0 0, .int .u64 5, .string ⟨#[98]⟩, .int .u64 2, .slice none 0 0, .int .i64 0, .int .i64 0, .int .i64 0, .int .i64 0, .int .i64 0]] X fun e w' => e = .returned (.bool true) ∧ Gr X w' := eq_lit5 gy (kb, 2) vy
set_option maxHeartbeats 8000000 in
theorem awake_any (w : World) : Calls Try.prog 12 #[] w fun e w' => e = .returned (.bool true) ∧ Below w.heap.size w w' := by
  have st1 := fun X => run_storeNode_new X sN
  rw [sN_lit] at st1
  have st2 := fun (Y : World) (o : Obj) (A : Option Addr) => run_storeNode_new (Y.alloc o) (cN 4 A 1 [9])
  simp only [show ∀ (Y : World) (o : Obj), (Y.alloc o).heap.size = Y.heap.size + 1 from fun Y o => by simp] at st2
  simp only [cN_lit, List.length_cons, List.length_nil, Nat.zero_add] at st2
  go_enter Try.func12, Try.ntmps12
  go_upto_region 2 with (fail)
  rw [← sN_lit]
  obtain ⟨V1, hV1⟩ : ∃ X, X = w.alloc (.cells sN.cs 28) := ⟨_, rfl⟩
  have B1 := Lib.hid (show RowKit.Below w.heap.size w V1 by rw [hV1]; exact alloc_below w _)
  have N1 := Lib.hid (show NB V1 w.heap.size sN by rw [hV1]; exact nb_new (gn_sN w))
  rw [← hV1]; clear hV1
  obtain ⟨s, hs⟩ : ∃ s, s = w.heap.size := ⟨_, rfl⟩
  rw [← hs] at N1 ⊢
  have HS := Lib.hid hs
  clear hs
  go_upto_region 3 with (fail)
  have rw2 := cN_lit 4 (some ⟨V1.heap.size, 0, none⟩) 1 [9]
  simp only [List.length_cons, List.length_nil, Nat.zero_add] at rw2
  rw [← rw2]
  obtain ⟨V3, hV3⟩ : ∃ X, X = (V1.alloc (.cells #[.int .i64 9] 26)).alloc (.cells (cN 4 (some ⟨V1.heap.size, 0, none⟩) 1 [9]).cs 28) := ⟨_, rfl⟩
  have GC := gn_cN V1 u64_4 [9] (by simp)
  have B3 := Lib.hid (show RowKit.Below V1.heap.size V1 V3 by rw [hV3]; exact (alloc_below V1 _).alloc (by simp) _)
  have N3 := Lib.hid (show NB V3 (V1.heap.size + 1) (cN 4 (some ⟨V1.heap.size, 0, none⟩) 1 [9]) by
    have := nb_new GC
    rw [hV3]
    simpa [flatR] using this)
  rw [← hV3]; clear hV3 GC rw2 st2 st1
  have NA := Lib.hid (N1.out.up B3.out)
  have HV1 := Lib.hid (show RowKit.Below V1.heap.size V1 V3 from B3.out)
  have BW := Lib.hid (show RowKit.Below s w V3 by rw [HS.out]; exact B1.out.trans (B3.out.mono B1.out.size))
  clear N1
  obtain ⟨A9, hA9⟩ : ∃ A9, A9 = some (⟨V1.heap.size, 0, none⟩ : Addr) := ⟨_, rfl⟩
  rw [← hA9] at N3 ⊢
  generalize V1.heap.size + 1 = b at N3 ⊢
  clear hA9
  obtain ⟨V4, hV4⟩ : ∃ X, X = V3.alloc (.cells (flat [(ka, 1), (kb, 2)]).toArray 54) := ⟨_, rfl⟩
  have SH := Lib.hid (show Calls Try.prog 20 #[.agg #[.int .i64 6, .int .i64 0, .int .i64 0, .int .u64 0, .slice none 0 0, .int .u64 5, .string ⟨#[]⟩, .int .u64 0, .slice (some ⟨V3.heap.size, 0, none⟩) 2 2, .int .i64 0, .int .i64 0, .int .i64 0, .int .i64 0, .int .i64 0], .string ⟨#[97]⟩] V4 (TPost true (tombX 5 (kb, 2)) V4) by
    have := shrunk_any (mkL 5 (some ⟨V3.heap.size, 0, none⟩) 2 [(ka, 1), (kb, 2)]) ka V4 (by rw [hV4]; exact gn_mkL V3 5 [(ka, 1), (kb, 2)] (by simp))
    rw [aw_shrB, aw_shrV] at this
    exact this)
  have B4 := Lib.hid (show RowKit.Below V3.heap.size V3 V4 by rw [hV4]; exact alloc_below V3 _)
  have HV4 := Lib.hid (show V3.alloc (.cells #[.string ⟨#[97]⟩, .int .u64 1, .string ⟨#[98]⟩, .int .u64 2] 54) = V4 from hV4.symm)
  clear hV4
  go_upto_region 4 with (go_at_call 20; rw [HV4.out]; refine SH.out.mono ?_; rintro e w5 ⟨y, rfl, vy, gy, hb⟩; have Y := Lib.hid (⟨vy, gy⟩ : _ ∧ _); have B5 := Lib.hid (B4.out.trans (hb.mono B4.out.size)); clear vy gy hb)
  obtain ⟨V, hV⟩ : ∃ X, X = w5.alloc (.cells y.cs 28) := ⟨_, rfl⟩
  have NY := Lib.hid (show NB V w5.heap.size y by rw [hV]; exact nb_new Y.out.2)
  have B6 := Lib.hid (show RowKit.Below V3.heap.size V3 V by rw [hV]; exact B5.out.alloc B5.out.size _)
  rw [← hV]; clear hV
  generalize w5.heap.size = b5 at NY ⊢
  have NA6 := Lib.hid (NA.out.up B6.out)
  have N36 := Lib.hid (N3.out.up B6.out)
  have BF := Lib.hid (show RowKit.Below s w V from BW.out.trans (B6.out.mono (by rw [HS.out]; exact BW.out.size)))
  clear NA N3 SH HV4 BW
  have KS := Lib.hid (show ∀ X, RowKit.Below V.heap.size V X → Sem.run Try.prog (loadNode (.pointer (some ⟨s, 0, none⟩))) X = .ok (.agg sN.cs) X ∧ Sem.run Try.prog (loadNode (.pointer (some ⟨b, 0, none⟩))) X = .ok (.agg (cN 4 A9 1 [9]).cs) X ∧ Sem.run Try.prog (loadNode (.pointer (some ⟨b5, 0, none⟩))) X = .ok (.agg y.cs) X from fun X hX =>
    ⟨(NA6.out.up hX).ld, (N36.out.up hX).ld, (NY.out.up hX).ld⟩)
  have BD := Lib.hid (show RowKit.Below V.heap.size V V.drew from ⟨rfl, rfl, rfl, Nat.le_refl _, fun _ _ => rfl⟩)
  have C1 := Lib.hid (fun X (hX : RowKit.Below V.heap.size V X) => (by
    have := contracted_any (cN 4 A9 1 [9]) sN 3 X (N36.out.up hX).2; rw [aw_ctr] at this; exact this : Calls Try.prog 15 #[.agg (cN 4 A9 1 [9]).cs, .int .i64 3, .agg sN.cs] X (VPost (tombN sN) X)))
  have C0 := Lib.hid (fun X (hX : RowKit.Below V.heap.size V X) => (by have := contracted_any (cN 4 A9 1 [9]) sN 0 X (N36.out.up hX).2; rw [ctr_zero] at this; exact this : Calls Try.prog 15 #[.agg (cN 4 A9 1 [9]).cs, .int .i64 0, .agg sN.cs] X (VPost (cN 4 A9 1 [9]) X)))
  have E3 := Lib.hid (fun X (hX : RowKit.Below V.heap.size V X) => eq_litB (NY.out.up hX).2 Y.out.1)
  go_region_held3 (fun w' => Sem.run Try.prog (loadNode (.pointer (some ⟨s, 0, none⟩))) w' = .ok (.agg sN.cs) w' ∧ Sem.run Try.prog (loadNode (.pointer (some ⟨b, 0, none⟩))) w' = .ok (.agg (cN 4 A9 1 [9]).cs) w' ∧ Sem.run Try.prog (loadNode (.pointer (some ⟨b5, 0, none⟩))) w' = .ok (.agg y.cs) w')
    (exact KS.out _ (by first | exact Q5.out | exact Q4.out | exact Q3.out | exact Q2.out | exact Q1.out | exact BD.out))
    (first
      | (go_at_call 16; (with_reducible refine (E3.out _ Q4.out).mono ?_); rintro e t5 ⟨rfl, hg⟩; have Q5 := Lib.hid (Q4.out.trans (hg.b.mono Q4.out.size)); clear hg)
      | (go_at_call 16; (with_reducible refine EB.out.mono ?_); rintro e t4 ⟨rfl, hg⟩; have Q4 := Lib.hid (Q3.out.trans (hg.b.mono Q3.out.size)); clear hg)
      | (go_at_call 15; (with_reducible refine (C0.out _ Q2.out).mono ?_); rintro e t3 ⟨z2, rfl, vz, gz, hb⟩; have Q3 := Lib.hid (Q2.out.trans (hb.mono Q2.out.size)); have EB := Lib.hid (equal_v gz (N36.out.up Q3.out).2 vz (Vw.refl _)); clear vz gz hb)
      | (go_at_call 16; (with_reducible refine EA.out.mono ?_); rintro e t2 ⟨rfl, hg⟩; have Q2 := Lib.hid (Q1.out.trans (hg.b.mono Q1.out.size)); clear hg)
      | (go_at_call 15; (with_reducible refine (C1.out _ BD.out).mono ?_); rintro e t1 ⟨z1, rfl, vz, gz, hb⟩; have Q1 := Lib.hid (BD.out.trans (hb.mono BD.out.size)); have EA := Lib.hid (eq_litA gz vz); clear vz gz hb))
  all_goals
    go_wp2
    go_ret
    have hb := BF.out
    rw [HS.out] at hb
    exact ⟨rfl, hb.trans (Q5.out.mono hb.size)⟩
end Go.Proofs.Ytpopoihggomfiaa
