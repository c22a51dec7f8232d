/-
  Layer 6: the walk of the law's agrees.
-/
import Derived.Test.YtcigljjnopfohaaBrM
set_option linter.unusedVariables false
set_option maxRecDepth 100000
namespace Go.Proofs.Ytcigljjnopfohaa
open Go.Shelf Go.RowKit Go.Lib Go.Sort
attribute [local go_sem ↓] exec_load28 exec_storeN
attribute [local go_sem] run_storeNode_new

/-- A node's block, the node as Go passes it. -/
def NB (V : World) (b : Nat) (n : Nd) : Prop := V.heap[b]? = some (.cells n.cs 28 (0, 0)) ∧ GN V n
theorem NB.up {V V' : World} {b : Nat} {n : Nd} (h : NB V b n) (hb : Below V.heap.size V V') : NB V' b n := ⟨heap_up h.1 hb, h.2.up hb⟩
theorem NB.ld {V : World} {b : Nat} {n : Nd} (h : NB V b n) : Sem.run Try.prog (loadNode (.pointer (some ⟨b, 0, none⟩))) V = .ok (.agg n.cs) V := run_loadNode h.1
theorem nb_new {V : World} {n : Nd} (h : GN V n) : NB (V.alloc (.cells n.cs 28)) V.heap.size n := ⟨heap_alloc_new V _, h.up ((Below.refl _ V).alloc (Nat.le_refl _) _)⟩
theorem alloc_below (V : World) (o : Obj) : Below V.heap.size V (V.alloc o) := (Below.refl _ V).alloc (Nat.le_refl _) o
set_option maxHeartbeats 8000000 in
theorem agrees_any (n : Nd) (i r : Int) (w : World) (h : GN w n) : Calls Try.prog 9 #[.agg n.cs, .int .i64 i, .int .i64 r] w fun e w' => e = .returned (.bool true) ∧ Below w.heap.size w w' := by
  obtain ⟨W, hW⟩ : ∃ W, W = w.alloc (.cells n.cs 28) := ⟨_, rfl⟩
  have BW := Lib.hid (show Below w.heap.size w W by rw [hW]; exact alloc_below w _)
  have N0 := Lib.hid (show NB W w.heap.size n by rw [hW]; exact nb_new h)
  have HW := Lib.hid hW.symm
  clear hW h
  have l0 := N0.out.ld
  go_enter Try.func9, Try.ntmps9
  go_upto_region 1 with (fail)
  rw [HW.out]
  have CC1 := Lib.hid (lookup_any n i W.heap.size W N0.out.2.rd (Nat.le_refl _))
  go_upto_region 2 with (go_at_call 12; refine CC1.out.mono ?_; rintro e u1 ⟨rfl, hg⟩; have BB1 := Lib.hid (Gr.b hg); clear hg)
  have Nn2 := Lib.hid (N0.out.up BB1.out)
  have lNn2 := Nn2.out.ld
  have B3 := Lib.hid (BW.out.trans (BB1.out.mono BW.out.size))
  clear N0
  clear BW
  have CC4 := Lib.hid (rlookup_any n i u1.heap.size u1 Nn2.out.2.rd (Nat.le_refl _))
  go_upto_region 3 with (go_at_call 24; refine CC4.out.mono ?_; rintro e u4 ⟨rfl, hg⟩; have BB4 := Lib.hid (Gr.b hg); clear hg)
  have Nn5 := Lib.hid (Nn2.out.up BB4.out)
  have lNn5 := Nn5.out.ld
  have B6 := Lib.hid (B3.out.trans (BB4.out.mono B3.out.size))
  clear Nn2
  clear B3
  have CC7 := Lib.hid (sole_any n u4.heap.size u4 Nn5.out.2.rd (Nat.le_refl _))
  go_upto_region 4 with (go_at_call 25; refine CC7.out.mono ?_; rintro e u7 ⟨rfl, hg⟩; have BB7 := Lib.hid (Gr.b hg); clear hg)
  have Nn8 := Lib.hid (Nn5.out.up BB7.out)
  have lNn8 := Nn8.out.ld
  have B9 := Lib.hid (B6.out.trans (BB7.out.mono B6.out.size))
  clear Nn5
  clear B6
  have CC10 := Lib.hid (rsole_any n u7.heap.size u7 Nn8.out.2.rd (Nat.le_refl _))
  go_upto_region 7 with (go_at_call 26; refine CC10.out.mono ?_; rintro e u10 ⟨rfl, hg⟩; have BB10 := Lib.hid (Gr.b hg); clear hg)
  have Nn11 := Lib.hid (Nn8.out.up BB10.out)
  have lNn11 := Nn11.out.ld
  have B12 := Lib.hid (B9.out.trans (BB10.out.mono B9.out.size))
  clear Nn8
  clear B9
  have CC13 := Lib.hid (inserted_any n i r u10 Nn11.out.2)
  go_upto_region 8 with (go_at_call 13; refine CC13.out.mono ?_; rintro e u13 ⟨xa, rfl, y0, y1, gy, fy, hb⟩; have Y13 := Lib.hid (⟨y0, y1, gy, hb⟩ : _ ∧ _ ∧ _ ∧ _); clear y0 y1 gy fy hb)
  obtain ⟨V13, hV13⟩ : ∃ X, X = u13.alloc (.cells xa.cs 28) := ⟨_, rfl⟩
  have BB13 := Lib.hid (show Below u10.heap.size u10 V13 by rw [hV13]; exact (Y13.out.2.2.2).alloc (Y13.out.2.2.2).size _)
  have NN13 := Lib.hid (show NB V13 u13.heap.size xa by rw [hV13]; exact nb_new Y13.out.2.2.1)
  rw [← hV13]; clear hV13
  have Nn14 := Lib.hid (Nn11.out.up BB13.out)
  have lNn14 := Nn14.out.ld
  have B15 := Lib.hid (B12.out.trans (BB13.out.mono B12.out.size))
  clear Nn11
  clear B12
  generalize u13.heap.size = b13 at NN13 ⊢
  have lN13 := NN13.out.ld
  have CC16 := Lib.hid (rinserted_any n i r V13 Nn14.out.2)
  go_upto_region 9 with (go_at_call 27; refine CC16.out.mono ?_; rintro e u16 ⟨xb, rfl, y0, y1, gy, fy, hb⟩; have Y16 := Lib.hid (⟨y0, y1, gy, hb⟩ : _ ∧ _ ∧ _ ∧ _); clear y0 y1 gy fy hb)
  obtain ⟨V16, hV16⟩ : ∃ X, X = u16.alloc (.cells xb.cs 28) := ⟨_, rfl⟩
  have BB16 := Lib.hid (show Below V13.heap.size V13 V16 by rw [hV16]; exact (Y16.out.2.2.2).alloc (Y16.out.2.2.2).size _)
  have NN16 := Lib.hid (show NB V16 u16.heap.size xb by rw [hV16]; exact nb_new Y16.out.2.2.1)
  rw [← hV16]; clear hV16
  have Nn17 := Lib.hid (Nn14.out.up BB16.out)
  have lNn17 := Nn17.out.ld
  have Nxa18 := Lib.hid (NN13.out.up BB16.out)
  have lNxa18 := Nxa18.out.ld
  have B19 := Lib.hid (B15.out.trans (BB16.out.mono B15.out.size))
  clear Nn14
  clear NN13
  clear B15
  generalize u16.heap.size = b16 at NN16 ⊢
  have lN16 := NN16.out.ld
  have CC20 := Lib.hid (updated_any n i r V16 Nn17.out.2)
  go_upto_region 10 with (go_at_call 14; refine CC20.out.mono ?_; rintro e u20 ⟨xc, rfl, y0, y1, gy, fy, hb⟩; have Y20 := Lib.hid (⟨y0, y1, gy, hb⟩ : _ ∧ _ ∧ _ ∧ _); clear y0 y1 gy fy hb)
  obtain ⟨V20, hV20⟩ : ∃ X, X = u20.alloc (.cells xc.cs 28) := ⟨_, rfl⟩
  have BB20 := Lib.hid (show Below V16.heap.size V16 V20 by rw [hV20]; exact (Y20.out.2.2.2).alloc (Y20.out.2.2.2).size _)
  have NN20 := Lib.hid (show NB V20 u20.heap.size xc by rw [hV20]; exact nb_new Y20.out.2.2.1)
  rw [← hV20]; clear hV20
  have Nn21 := Lib.hid (Nn17.out.up BB20.out)
  have lNn21 := Nn21.out.ld
  have Nxa22 := Lib.hid (Nxa18.out.up BB20.out)
  have lNxa22 := Nxa22.out.ld
  have Nxb23 := Lib.hid (NN16.out.up BB20.out)
  have lNxb23 := Nxb23.out.ld
  have B24 := Lib.hid (B19.out.trans (BB20.out.mono B19.out.size))
  clear Nn17
  clear Nxa18
  clear NN16
  clear B19
  generalize u20.heap.size = b20 at NN20 ⊢
  have lN20 := NN20.out.ld
  have CC25 := Lib.hid (rupdated_any n i r V20 Nn21.out.2)
  go_upto_region 11 with (go_at_call 28; refine CC25.out.mono ?_; rintro e u25 ⟨xd, rfl, y0, y1, gy, fy, hb⟩; have Y25 := Lib.hid (⟨y0, y1, gy, hb⟩ : _ ∧ _ ∧ _ ∧ _); clear y0 y1 gy fy hb)
  obtain ⟨V25, hV25⟩ : ∃ X, X = u25.alloc (.cells xd.cs 28) := ⟨_, rfl⟩
  have BB25 := Lib.hid (show Below V20.heap.size V20 V25 by rw [hV25]; exact (Y25.out.2.2.2).alloc (Y25.out.2.2.2).size _)
  have NN25 := Lib.hid (show NB V25 u25.heap.size xd by rw [hV25]; exact nb_new Y25.out.2.2.1)
  rw [← hV25]; clear hV25
  have Nn26 := Lib.hid (Nn21.out.up BB25.out)
  have lNn26 := Nn26.out.ld
  have Nxa27 := Lib.hid (Nxa22.out.up BB25.out)
  have lNxa27 := Nxa27.out.ld
  have Nxb28 := Lib.hid (Nxb23.out.up BB25.out)
  have lNxb28 := Nxb28.out.ld
  have Nxc29 := Lib.hid (NN20.out.up BB25.out)
  have lNxc29 := Nxc29.out.ld
  have B30 := Lib.hid (B24.out.trans (BB25.out.mono B24.out.size))
  clear Nn21
  clear Nxa22
  clear Nxb23
  clear NN20
  clear B24
  generalize u25.heap.size = b25 at NN25 ⊢
  have lN25 := NN25.out.ld
  have CC31 := Lib.hid (removed_any n i V25 Nn26.out.2)
  go_upto_region 12 with (go_at_call 15; refine CC31.out.mono ?_; rintro e u31 ⟨xe, rfl, y0, y1, gy, fy, hb⟩; have Y31 := Lib.hid (⟨y0, y1, gy, hb⟩ : _ ∧ _ ∧ _ ∧ _); clear y0 y1 gy fy hb)
  obtain ⟨V31, hV31⟩ : ∃ X, X = u31.alloc (.cells xe.cs 28) := ⟨_, rfl⟩
  have BB31 := Lib.hid (show Below V25.heap.size V25 V31 by rw [hV31]; exact (Y31.out.2.2.2).alloc (Y31.out.2.2.2).size _)
  have NN31 := Lib.hid (show NB V31 u31.heap.size xe by rw [hV31]; exact nb_new Y31.out.2.2.1)
  rw [← hV31]; clear hV31
  have Nn32 := Lib.hid (Nn26.out.up BB31.out)
  have lNn32 := Nn32.out.ld
  have Nxa33 := Lib.hid (Nxa27.out.up BB31.out)
  have lNxa33 := Nxa33.out.ld
  have Nxb34 := Lib.hid (Nxb28.out.up BB31.out)
  have lNxb34 := Nxb34.out.ld
  have Nxc35 := Lib.hid (Nxc29.out.up BB31.out)
  have lNxc35 := Nxc35.out.ld
  have Nxd36 := Lib.hid (NN25.out.up BB31.out)
  have lNxd36 := Nxd36.out.ld
  have B37 := Lib.hid (B30.out.trans (BB31.out.mono B30.out.size))
  clear Nn26
  clear Nxa27
  clear Nxb28
  clear Nxc29
  clear NN25
  clear B30
  generalize u31.heap.size = b31 at NN31 ⊢
  have lN31 := NN31.out.ld
  have CC38 := Lib.hid (rremoved_any n i V31 Nn32.out.2)
  go_upto_region 13 with (go_at_call 29; refine CC38.out.mono ?_; rintro e u38 ⟨xf, rfl, y0, y1, gy, fy, hb⟩; have Y38 := Lib.hid (⟨y0, y1, gy, hb⟩ : _ ∧ _ ∧ _ ∧ _); clear y0 y1 gy fy hb)
  obtain ⟨V38, hV38⟩ : ∃ X, X = u38.alloc (.cells xf.cs 28) := ⟨_, rfl⟩
  have BB38 := Lib.hid (show Below V31.heap.size V31 V38 by rw [hV38]; exact (Y38.out.2.2.2).alloc (Y38.out.2.2.2).size _)
  have NN38 := Lib.hid (show NB V38 u38.heap.size xf by rw [hV38]; exact nb_new Y38.out.2.2.1)
  rw [← hV38]; clear hV38
  have Nn39 := Lib.hid (Nn32.out.up BB38.out)
  have lNn39 := Nn39.out.ld
  have Nxa40 := Lib.hid (Nxa33.out.up BB38.out)
  have lNxa40 := Nxa40.out.ld
  have Nxb41 := Lib.hid (Nxb34.out.up BB38.out)
  have lNxb41 := Nxb41.out.ld
  have Nxc42 := Lib.hid (Nxc35.out.up BB38.out)
  have lNxc42 := Nxc42.out.ld
  have Nxd43 := Lib.hid (Nxd36.out.up BB38.out)
  have lNxd43 := Nxd43.out.ld
  have Nxe44 := Lib.hid (NN31.out.up BB38.out)
  have lNxe44 := Nxe44.out.ld
  have B45 := Lib.hid (B37.out.trans (BB38.out.mono B37.out.size))
  clear Nn32
  clear Nxa33
  clear Nxb34
  clear Nxc35
  clear Nxd36
  clear NN31
  clear B37
  generalize u38.heap.size = b38 at NN38 ⊢
  have lN38 := NN38.out.ld
  have E1 := Lib.hid (fun X (hX : Gr V38 X) => requal_any xa xb X.heap.size X (Nxa40.out.up hX.b).2.rd (Nxb41.out.up hX.b).2.rd (Nat.le_refl _))
  rw [show eqN xa xb = true from eq_of_posts Y13.out.1 Y13.out.2.1 Y16.out.1 Y16.out.2.1] at E1
  have E2 := Lib.hid (fun X (hX : Gr V38 X) => requal_any xc xd X.heap.size X (Nxc42.out.up hX.b).2.rd (Nxd43.out.up hX.b).2.rd (Nat.le_refl _))
  rw [show eqN xc xd = true from eq_of_posts Y20.out.1 Y20.out.2.1 Y25.out.1 Y25.out.2.1] at E2
  have E3 := Lib.hid (fun X (hX : Gr V38 X) => requal_any xe xf X.heap.size X (Nxe44.out.up hX.b).2.rd (NN38.out.up hX.b).2.rd (Nat.le_refl _))
  rw [show eqN xe xf = true from eq_of_posts Y31.out.1 Y31.out.2.1 Y38.out.1 Y38.out.2.1] at E3
  go_wp2_with (first
    | (go_at_call 17; with_reducible refine (E3.out _ G2.out).mono ?_; rintro e t3 ⟨rfl, hg⟩; have G3 := Lib.hid (G2.out.trans hg); clear hg)
    | (go_at_call 17; with_reducible refine (E2.out _ G1.out).mono ?_; rintro e t2 ⟨rfl, hg⟩; have G2 := Lib.hid (G1.out.trans hg); clear hg; have qxe2 := (Nxe44.out.up G2.out.b).ld; have qxf2 := (NN38.out.up G2.out.b).ld)
    | (go_at_call 17; with_reducible refine (E1.out _ (Gr.refl V38)).mono ?_; rintro e t1 ⟨rfl, hg⟩; have G1 := Lib.hid hg; clear hg; have qxc1 := (Nxc42.out.up G1.out.b).ld; have qxd1 := (Nxd43.out.up G1.out.b).ld))
  go_ret
  exact ⟨rfl, B45.out.trans (G3.out.b.mono B45.out.size)⟩
end Go.Proofs.Ytcigljjnopfohaa
