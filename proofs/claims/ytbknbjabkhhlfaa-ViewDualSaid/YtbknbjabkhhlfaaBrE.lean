/-
  Layer 6: the walks of the functions that make nodes and lists: made, cnode, joined.
-/
import Derived.Test.YtbknbjabkhhlfaaBrC
import Derived.Test.YtbknbjabkhhlfaaArJ
import Derived.Deep.WholeRow
set_option linter.unusedVariables false
set_option maxRecDepth 100000
namespace Go.Proofs.Ytbknbjabkhhlfaa
open Go.Shelf Go.RowKit Go.Lib Go.Sort

attribute [local go_sem ↓] exec_load28 exec_store44
attribute [local go_sem] run_storeNode_new run_storeNode_zero

/-! ### C-nodes -/
def mkC (bm : Int) (A : Option Addr) (c : Nat) (L : List Int) : Nd := { Nd.zero with kind := 3, bm := bm, bA := A, bc := c, bs := L }
set_option maxHeartbeats 2000000 in
theorem empty_any (w : World) : Calls Try.prog 44 #[] w fun e w' => e = .returned (.agg (mkC 0 none 0 []).cs) ∧ Gr w w' := by
  have st := fun X => run_storeNode_new X (mkC 0 none 0 [])
  have E := Lib.hid (show (mkC 0 none 0 []).cs = #[.int .i64 3, .int .i64 0, .int .i64 0, .int .u64 0, .slice none 0 0, .int .u64 0, .string ⟨#[]⟩, .int .u64 0, .slice none 0 0, .int .i64 0, .int .i64 0, .int .i64 0, .int .i64 0, .int .i64 0] from rfl)
  rw [E.out] at st ⊢
  go_enter Try.func44, Try.ntmps44
  go_wp2
  refine bodyPost_ret (v := .agg #[.int .i64 3, .int .i64 0, .int .i64 0, .int .u64 0, .slice none 0 0, .int .u64 0, .string ⟨#[]⟩, .int .u64 0, .slice none 0 0, .int .i64 0, .int .i64 0, .int .i64 0, .int .i64 0, .int .i64 0]) (by simp [results, Try.results44, go_sem]) rfl ⟨rfl, (Gr.refl w).alloc _⟩
/-- The value of a block that holds a node. -/
theorem node_vals {V : World} {b : Nat} {n : Nd} (h : V.heap[b]? = some (.cells n.cs 35 (0, 0))) :
    V.cell? ⟨b, 0, none⟩ = some (.int .i64 n.kind) ∧ V.cell? ⟨b, 1, none⟩ = some (.int .i64 n.gen) ∧ V.cell? ⟨b, 2, none⟩ = some (.int .i64 n.main) ∧ V.cell? ⟨b, 3, none⟩ = some (.int .u64 n.bm) ∧
    V.cell? ⟨b, 4, none⟩ = some (.slice n.bA n.bs.length n.bc) ∧ V.cell? ⟨b, 5, none⟩ = some (.int .u64 n.hash) ∧ V.cell? ⟨b, 6, none⟩ = some (.string n.key) ∧ V.cell? ⟨b, 7, none⟩ = some (.int .u64 n.val) ∧
    V.cell? ⟨b, 8, none⟩ = some (.slice n.pA n.ps.length n.pc) ∧ V.cell? ⟨b, 9, none⟩ = some (.int .i64 n.prev) ∧ V.cell? ⟨b, 10, none⟩ = some (.int .i64 n.old) ∧ V.cell? ⟨b, 11, none⟩ = some (.int .i64 n.exp) ∧
    V.cell? ⟨b, 12, none⟩ = some (.int .i64 n.new) ∧ V.cell? ⟨b, 13, none⟩ = some (.int .i64 n.status) :=
  ⟨node_cellA h rfl, node_cellA h rfl, node_cellA h rfl, node_cellA h rfl, node_cellA h rfl, node_cellA h rfl, node_cellA h rfl, node_cellA h rfl, node_cellA h rfl, node_cellA h rfl, node_cellA h rfl, node_cellA h rfl, node_cellA h rfl, node_cellA h rfl⟩
theorem node_frozen' {V : World} {b : Nat} {cs : Array Value} (h : V.heap[b]? = some (.cells cs 35 (0, 0))) (i : Nat) : V.frozen? ⟨b, i, none⟩ = false := node_frozen h i
set_option maxHeartbeats 4000000 in
theorem made_any (bm : Int) (A : Option Addr) (c : Nat) (L : List Int) (w : World) : Calls Try.prog 72 #[.int .u64 bm, .slice A L.length c] w fun e w' => e = .returned (.agg (mkC bm A c L).cs) ∧ Gr w w' := by
  obtain ⟨W, hW⟩ : ∃ W, W = w.alloc (.cells #[.int .i64 0, .int .i64 0, .int .i64 0, .int .u64 0, .slice none 0 0, .int .u64 0, .string ⟨#[]⟩, .int .u64 0, .slice none 0 0, .int .i64 0, .int .i64 0, .int .i64 0, .int .i64 0, .int .i64 0] 35) := ⟨_, rfl⟩
  have GW := Lib.hid (show Gr w W by rw [hW]; exact (Gr.refl w).alloc _)
  have HS := Lib.hid (show W.heap[w.heap.size]? = some (.cells #[.int .i64 0, .int .i64 0, .int .i64 0, .int .u64 0, .slice none 0 0, .int .u64 0, .string ⟨#[]⟩, .int .u64 0, .slice none 0 0, .int .i64 0, .int .i64 0, .int .i64 0, .int .i64 0, .int .i64 0] 35 (0, 0)) by rw [hW]; exact heap_alloc_new w _)
  have CE := Lib.hid (empty_any W)
  have HW := Lib.hid hW.symm
  clear hW
  go_enter Try.func72, Try.ntmps72
  go_upto_region 1 with (fail)
  rw [HW.out]
  go_upto_region 2 with (go_at_call 44; refine CE.out.mono ?_; rintro e w1 ⟨rfl, hg⟩; have G1 := Lib.hid hg; clear hg)
  obtain ⟨V, hV⟩ : ∃ V, V = w1.alloc (.cells (mkC 0 none 0 []).cs 35) := ⟨_, rfl⟩
  have hl : w.heap.size < w1.heap.size := Nat.lt_of_lt_of_le (Array.getElem?_eq_some_iff.1 HS.out).1 G1.out.size
  have HB := Lib.hid (show V.heap[w1.heap.size]? = some (.cells (mkC 0 none 0 []).cs 35 (0, 0)) by rw [hV]; exact heap_alloc_new w1 _)
  have HSV := Lib.hid (show V.heap[w.heap.size]? = some (.cells #[.int .i64 0, .int .i64 0, .int .i64 0, .int .u64 0, .slice none 0 0, .int .u64 0, .string ⟨#[]⟩, .int .u64 0, .slice none 0 0, .int .i64 0, .int .i64 0, .int .i64 0, .int .i64 0, .int .i64 0] 35 (0, 0)) by
    rw [hV]; exact (Below.heap_alloc w1 _ _ hl).trans ((G1.out.b.block _ (Array.getElem?_eq_some_iff.1 HS.out).1).trans HS.out))
  have GV := Lib.hid (show Gr w V by rw [hV]; exact (GW.out.trans G1.out).alloc _)
  rw [← hV]
  clear hV HS CE HW
  generalize w1.heap.size = b at hl HB
  have c3 := node_cellA HB.out (i := 3) (v := .int .u64 0) rfl
  have c4 := node_cellA HB.out (i := 4) (v := .slice none 0 0) rfl
  have f3 := node_frozen HB.out 3
  have f4 := node_frozen HB.out 4
  go_upto_region 3 with (fail)
  obtain ⟨U, hU⟩ : ∃ U, U = (V.setCell ⟨b, 3, none⟩ (.int .u64 bm)).setCell ⟨b, 4, none⟩ (.slice A L.length c) := ⟨_, rfl⟩
  have HU := Lib.hid (show U.heap[b]? = some (.cells (mkC bm A c L).cs 35 (0, 0)) by
    rw [hU]
    exact set_field (set_field HB.out 3 _) 4 _)
  have HSU := Lib.hid (show U.heap[w.heap.size]? = some (.cells #[.int .i64 0, .int .i64 0, .int .i64 0, .int .u64 0, .slice none 0 0, .int .u64 0, .string ⟨#[]⟩, .int .u64 0, .slice none 0 0, .int .i64 0, .int .i64 0, .int .i64 0, .int .i64 0, .int .i64 0] 35 (0, 0)) by
    rw [hU]
    exact (Below.heap_setCell _ ⟨b, 4, none⟩ _ _ (show w.heap.size ≠ b by omega)).trans ((Below.heap_setCell _ ⟨b, 3, none⟩ _ _ (show w.heap.size ≠ b by omega)).trans HSV.out))
  have GU := Lib.hid (show Gr w U by
    rw [hU]
    exact (GV.out.setCell (p := ⟨b, 3, none⟩) (by show w.heap.size ≤ b; omega) _).setCell (p := ⟨b, 4, none⟩) (by show w.heap.size ≤ b; omega) _)
  rw [← hU]
  clear hU HB HSV GV c3 c4 f3 f4
  have ld := run_loadNode HU.out
  have st := run_storeNode (mkC bm A c L) HSU.out rfl
  go_wp2_with fail
  obtain ⟨X, hX⟩ : ∃ X, X = U.setRow w.heap.size (mkC bm A c L).cs := ⟨_, rfl⟩
  have hg : X.heap[w.heap.size]? = some (.cells (mkC bm A c L).cs 35 (0, 0)) := by rw [hX]; exact setRow_heap U w.heap.size _ _ 35 (0, 0) HSU.out
  have GX := Lib.hid (show Gr w X by
    rw [hX]
    exact ⟨GU.out.b.trans ⟨rfl, rfl, rfl, by simp, fun k hk => setRow_other _ _ _ _ (by omega)⟩, GU.out.d⟩)
  rw [← hX]
  clear hX ld st
  obtain ⟨d0, d1, d2, d3, d4, d5, d6, d7, d8, d9, d10, d11, d12, d13⟩ := node_vals hg
  clear hg
  exact bodyPost_ret (v := .agg (mkC bm A c L).cs) (by simp [results, Try.results72, go_sem, d0, d1, d2, d3, d4, d5, d6, d7, d8, d9, d10, d11, d12, d13, Nd.cs]) rfl ⟨rfl, GX.out⟩

/-! ### joined -/
structure Sl where
  A : Option Addr
  c : Nat
  L : List Int
def catL (ls : List Sl) : List Int := (ls.map (·.L)).flatten
theorem cat_step {ls : List Sl} {i : Nat} {s : Sl} (h : ls[i]? = some s) : catL (ls.take (i + 1)) = catL (ls.take i) ++ s.L := by
  unfold catL
  rw [List.take_add_one, h]; simp
theorem cat_mono {ls : List Sl} {i : Nat} {s : Sl} (h : ls[i]? = some s) : (catL (ls.take i)).length + s.L.length ≤ (catL ls).length := by
  have := List.take_append_drop (i + 1) ls
  have e : catL ls = catL (ls.take (i + 1)) ++ catL (ls.drop (i + 1)) := by
    unfold catL; rw [List.map_take, List.map_drop, ← List.flatten_append, List.take_append_drop]
  rw [e, cat_step h]
  simp only [List.length_append]; omega
/-- A row of lists at block g. -/
def SlP (w : World) (B : Nat) (g : Nat) (ls : List Sl) : Prop :=
  ∀ i s, ls[i]? = some s → w.cell? ⟨g, i, none⟩ = some (.slice s.A s.L.length s.c) ∧ RdR w B s.A s.L ∧ (s.A = none → s.c = 0)
theorem SlP.below {w w' : World} {B g : Nat} {ls : List Sl} (h : SlP w B g ls) (hb : Below B w w') (hg : g < B) : SlP w' B g ls := fun i s hs =>
  ⟨(hb.cell (p := ⟨g, i, none⟩) hg).trans (h i s hs).1, (h i s hs).2.1.below hb, (h i s hs).2.2⟩
def JoinPost (L : List Int) (w : World) (e : Ending) (w' : World) : Prop := ∃ A c, e = .returned (.slice A L.length c) ∧ RdR w' w'.heap.size A L ∧ (A = none → c = 0) ∧ L.length ≤ c ∧ (∀ ad, A = some ad → w.heap.size ≤ ad.block) ∧ Below w.heap.size w w'
theorem OwnR.fresh_ {w : World} {base : Nat} {A : Option Addr} {n c : Nat} {L : List Int} (h : OwnR w base (.slice A n c) L) : ∀ ad, A = some ad → base ≤ ad.block := fun ad e => by
  rcases h.2 with ⟨hv, _⟩ | ⟨g, cap, cur, hv, hb, _⟩
  · injection hv with e1; rw [e1] at e; cases e
  · injection hv with e1; rw [e1] at e; injection e with e; subst e; exact hb
set_option maxHeartbeats 4000000 in
theorem joined_any (g : Nat) (ls : List Sl) (k : Nat) (w : World) (h : SlP w w.heap.size g ls) (hg : g < w.heap.size) (hk : k = ls.length) (hk3 : k ≤ 3) (hn : (catL ls).length ≤ 1001) :
    Calls Try.prog 74 #[.slice (some ⟨g, 0, none⟩) k k] w (JoinPost (catL ls) w) := by
  have H := Lib.hid h
  obtain ⟨i0, hi0, hz0, hz1, hz2⟩ := info_parts refInfo
  have HK := Lib.hid hk
  have HN := Lib.hid hn
  clear h hk hn
  go_enter Try.func74, Try.ntmps74
  go_wp2
  go_loopg [3, 11] k (fun kx s3 s11 wr => ∃ i : Nat, s11 = .int .i64 i ∧ s3 = .int .i64 ((catL (ls.take i)).length : Nat) ∧ i ≤ k ∧ k - i ≤ kx ∧ w = wr)
  case atStart => exact ⟨0, rfl, rfl, by omega, by omega, rfl⟩
  case round =>
    obtain ⟨i, rfl, rfl, hi, hkx, rfl⟩ := hrel
    by_cases hlt : i < k
    · obtain ⟨s, hs⟩ : ∃ s, ls[i]? = some s := ⟨ls[i]'(by rw [← HK.out]; exact hlt), List.getElem?_eq_getElem _⟩
      have c1 := (H.out i s hs).1
      have e := Lib.hid (congrArg List.length (cat_step hs))
      have m := Lib.hid (cat_mono hs)
      have hli : (i : Int) < (k : Int) := by omega
      have wz : IntKind.i64.wrap (((catL (ls.take i)).length : Int) + (s.L.length : Int)) = ((catL (ls.take i)).length : Int) + (s.L.length : Int) := by
        have := m.out; have := HN.out; rw [IntKind.wrap_i64]; omega
      go_wp2
      go_roundg (k - (i + 1))
      case measure => omega
      case rel =>
        refine ⟨i + 1, by go_num, ?_, by omega, by omega, rfl⟩
        rw [e.out, List.length_append]
        have m2 := m.out
        have n2 := HN.out
        clear wz
        generalize (catL (ls.take i)).length = a at m2 ⊢
        generalize (catL ls).length = b at m2 n2
        generalize s.L.length = l at m2 ⊢
        first | go_num | (congr 1; omega)
    · obtain rfl : i = k := by omega
      have e := Lib.hid (show catL (ls.take i) = catL ls by rw [HK.out, List.take_length])
      rw [e.out]
      obtain ⟨N, hN⟩ : ∃ N, N = (catL ls).length := ⟨_, rfl⟩
      have hN1 : N ≤ 1001 := by rw [hN]; exact HN.out
      rw [← hN]
      have HNN := Lib.hid hN
      clear hN e
      go_wp2_with (at_make
                   refine wpList_make_own _ rfl _ _ 32 rfl w.heap.size 29 i0 (.int .i64 0) 1 Try.underlying32 hi0 hz0 hz1 _ _ _ N rfl rfl rfl (by rw [hz2]; omega) (by unfold maxLen; omega) (Nat.le_refl _) ?_
                   intro w1 HO1 HG1
                   have B1 := Lib.hid ((Below.refl w.heap.size w).grown HG1 (Nat.le_refl _) (fun k h => by cases h))
                   have O1 := Lib.hid HO1
                   clear HO1 HG1)
      go_loopg [6, 24] i (fun kx s6 s24 wr => ∃ (j : Nat) (A : Option Addr) (c : Nat), s24 = .int .i64 j ∧ s6 = .slice A (catL (ls.take j)).length c ∧ j ≤ i ∧ i - j ≤ kx ∧ Aside (OwnR wr w.heap.size (.slice A (catL (ls.take j)).length c) (catL (ls.take j)) ∧ Below w.heap.size w wr))
      case atStart => exact ⟨0, _, _, rfl, rfl, by omega, by omega, ⟨O1.out, B1.out⟩⟩
      case round =>
        clear O1 B1
        obtain ⟨j, A, c, rfl, rfl, hj, hjx, I⟩ := hrel
        by_cases hlt : j < i
        · obtain ⟨s, hs⟩ : ∃ s, ls[j]? = some s := ⟨ls[j]'(by rw [← HK.out]; exact hlt), List.getElem?_eq_getElem _⟩
          have HP := Lib.hid (H.out.below I.out.2 hg)
          have c1 := (HP.out j s hs).1
          have e := Lib.hid (cat_step hs)
          have m := Lib.hid (cat_mono hs)
          have hli : (j : Int) < (i : Int) := by omega
          have hsz := I.out.2.size
          go_wp2_with (refine wpList_append_refs (w0 := w) rfl (.tmp 28) (.tmp 29) rfl w.heap.size _ _ rfl I.out.1 s.A s.L.length s.c w.heap.size s.L rfl rfl (HP.out j s hs).2.1 (HP.out j s hs).2.2 (by have := m.out; have := HN.out; omega) I.out.2 hsz ?_
                       intro v' w' HO HBb
                       have O2 := Lib.hid HO.out
                       have B2 := Lib.hid HBb
                       clear HO HBb)
          obtain ⟨A2, c2, rfl, _⟩ := O2.out.open2
          rw [← e.out] at O2 ⊢
          go_wp2
          go_roundg (i - (j + 1))
          case measure => omega
          case rel => exact ⟨j + 1, A2, c2, by go_num, rfl, by omega, by omega, ⟨O2.out, B2.out⟩⟩
        · obtain rfl : j = i := by omega
          have e := Lib.hid (show catL (ls.take j) = catL ls by rw [HK.out, List.take_length])
          rw [e.out] at I ⊢
          obtain ⟨A', c', ex, hr, ha, hc⟩ := I.out.1.open2
          injection ex with e1 e2 e3
          subst e1 e3
          have R := Lib.hid (⟨hr, ha, hc⟩ : _ ∧ _ ∧ _)
          clear hr ha hc e2
          go_wp2
          go_ret
          exact ⟨A, c, rfl, R.out.1, R.out.2.1, R.out.2.2, I.out.1.fresh_, I.out.2⟩
end Go.Proofs.Ytbknbjabkhhlfaa
