/-
  Layer 7: the walk of the law's agrees.
-/
import Derived.Test.YtpopoihggomfiaaTbN
import Derived.Deep.RegionHeld3
set_option linter.unusedVariables false
set_option maxRecDepth 100000
namespace Go.Proofs.Ytpopoihggomfiaa
open Go.Shelf Go.RowKit Go.Lib Go.Sort
attribute [local go_sem ↓] exec_load28 exec_storeN
attribute [local go_sem] run_storeNode_new

theorem equal_v {X : World} {y z V : Nd} (gy : GN X y) (gz : GN X z) (vy : Vw y V) (vz : Vw z V) : Calls Try.prog 16 #[.agg y.cs, .agg z.cs] X fun e w' => e = .returned (.bool true) ∧ Gr X w' := by
  have h := requal_any y z X.heap.size X gy.rd gz.rd (Nat.le_refl _)
  rw [vy.eqN vz] at h
  exact h
set_option maxHeartbeats 16000000 in
theorem agrees_any (n s : Nd) (l : Int) (k : ByteArray) (v : Int) (w : World) (h : GN w n) (hs : GN w s) (hn : n.ps.length ≤ 900) (hk : k.size ≤ maxLen) :
    Calls Try.prog 11 #[.agg n.cs, .agg s.cs, .int .i64 l, .string k, .int .u64 v] w fun e w' => e = .returned (.bool true) ∧ Below w.heap.size w w' := by
  obtain ⟨W, hW⟩ : ∃ W, W = (w.alloc (.cells n.cs 28)).alloc (.cells s.cs 28) := ⟨_, rfl⟩
  have BW := Lib.hid (show Below w.heap.size w W by rw [hW]; exact (alloc_below w _).alloc (by simp) _)
  have N0 := Lib.hid (show NB W w.heap.size n from ⟨by rw [hW]; exact (Below.heap_alloc _ _ _ (by simp)).trans (heap_alloc_new w _), h.up BW.out⟩)
  have N1 := Lib.hid (show NB W (w.heap.size + 1) s from ⟨by rw [hW]; have := heap_alloc_new (w.alloc (.cells n.cs 28)) (.cells s.cs 28); simpa using this, hs.up BW.out⟩)
  have HW := Lib.hid hW.symm
  have HN := Lib.hid hn
  have HK := Lib.hid hk
  clear hW h hs hn hk
  have l0 := N0.out.ld
  have l1 := N1.out.ld
  go_enter Try.func11, Try.ntmps11
  go_upto_region 1 with (fail)
  rw [HW.out]
  clear HW
  have CC1 := Lib.hid (untombed_any n W)
  go_upto_region 2 with (go_at_call 14; refine CC1.out.mono ?_; rintro e u1 ⟨ya, rfl, vy, gy, hb⟩; have Y1 := Lib.hid (⟨vy, gy, hb⟩ : _ ∧ _ ∧ _); clear vy gy hb)
  obtain ⟨V1, hV1⟩ : ∃ X, X = u1.alloc (.cells ya.cs 28) := ⟨_, rfl⟩
  have BB1 := Lib.hid (show Below W.heap.size W V1 by rw [hV1]; exact (Y1.out.2.2).alloc (Y1.out.2.2).size _)
  have NN1 := Lib.hid (show NB V1 u1.heap.size ya by rw [hV1]; exact nb_new Y1.out.2.1)
  rw [← hV1]; clear hV1
  have Nn2 := Lib.hid (N0.out.up BB1.out)
  have lNn2 := Nn2.out.ld
  have Ns3 := Lib.hid (N1.out.up BB1.out)
  have lNs3 := Ns3.out.ld
  have B4 := Lib.hid (BW.out.trans (BB1.out.mono BW.out.size))
  clear N0
  clear N1
  clear BW
  generalize u1.heap.size = b1 at NN1 ⊢
  have lN1 := NN1.out.ld
  have vya := Lib.hid (Y1.out.1)
  have CC5 := Lib.hid (runtombed_any n V1)
  go_upto_region 3 with (go_at_call 24; refine CC5.out.mono ?_; rintro e u5 ⟨yb, rfl, vy, gy, hb⟩; have Y5 := Lib.hid (⟨vy, gy, hb⟩ : _ ∧ _ ∧ _); clear vy gy hb)
  obtain ⟨V5, hV5⟩ : ∃ X, X = u5.alloc (.cells yb.cs 28) := ⟨_, rfl⟩
  have BB5 := Lib.hid (show Below V1.heap.size V1 V5 by rw [hV5]; exact (Y5.out.2.2).alloc (Y5.out.2.2).size _)
  have NN5 := Lib.hid (show NB V5 u5.heap.size yb by rw [hV5]; exact nb_new Y5.out.2.1)
  rw [← hV5]; clear hV5
  have Nn6 := Lib.hid (Nn2.out.up BB5.out)
  have lNn6 := Nn6.out.ld
  have Ns7 := Lib.hid (Ns3.out.up BB5.out)
  have lNs7 := Ns7.out.ld
  have Nya8 := Lib.hid (NN1.out.up BB5.out)
  have lNya8 := Nya8.out.ld
  have B9 := Lib.hid (B4.out.trans (BB5.out.mono B4.out.size))
  clear Nn2
  clear Ns3
  clear NN1
  clear B4
  generalize u5.heap.size = b5 at NN5 ⊢
  have lN5 := NN5.out.ld
  have vyb := Lib.hid (Y5.out.1)
  have CC10 := Lib.hid (grown_any n k v V5 Nn6.out.2 HN.out HK.out)
  go_upto_region 4 with (go_at_call 17; refine CC10.out.mono ?_; rintro e u10 ⟨yc, rfl, vy, gy, hb⟩; have Y10 := Lib.hid (⟨vy, gy, hb⟩ : _ ∧ _ ∧ _); clear vy gy hb)
  obtain ⟨V10, hV10⟩ : ∃ X, X = u10.alloc (.cells yc.cs 28) := ⟨_, rfl⟩
  have BB10 := Lib.hid (show Below V5.heap.size V5 V10 by rw [hV10]; exact (Y10.out.2.2).alloc (Y10.out.2.2).size _)
  have NN10 := Lib.hid (show NB V10 u10.heap.size yc by rw [hV10]; exact nb_new Y10.out.2.1)
  rw [← hV10]; clear hV10
  have Nn11 := Lib.hid (Nn6.out.up BB10.out)
  have lNn11 := Nn11.out.ld
  have Ns12 := Lib.hid (Ns7.out.up BB10.out)
  have lNs12 := Ns12.out.ld
  have Nya13 := Lib.hid (Nya8.out.up BB10.out)
  have lNya13 := Nya13.out.ld
  have Nyb14 := Lib.hid (NN5.out.up BB10.out)
  have lNyb14 := Nyb14.out.ld
  have B15 := Lib.hid (B9.out.trans (BB10.out.mono B9.out.size))
  clear Nn6
  clear Ns7
  clear Nya8
  clear NN5
  clear B9
  generalize u10.heap.size = b10 at NN10 ⊢
  have lN10 := NN10.out.ld
  have vyc := Lib.hid (Y10.out.1)
  have CC16 := Lib.hid (rgrown_any n k v V10 Nn11.out.2 HN.out HK.out)
  go_upto_region 5 with (go_at_call 25; refine CC16.out.mono ?_; rintro e u16 ⟨yd, rfl, vy, gy, hb⟩; have Y16 := Lib.hid (⟨vy, gy, hb⟩ : _ ∧ _ ∧ _); clear vy gy hb)
  obtain ⟨V16, hV16⟩ : ∃ X, X = u16.alloc (.cells yd.cs 28) := ⟨_, rfl⟩
  have BB16 := Lib.hid (show Below V10.heap.size V10 V16 by rw [hV16]; exact (Y16.out.2.2).alloc (Y16.out.2.2).size _)
  have NN16 := Lib.hid (show NB V16 u16.heap.size yd by rw [hV16]; exact nb_new Y16.out.2.1)
  rw [← hV16]; clear hV16
  have Nn17 := Lib.hid (Nn11.out.up BB16.out)
  have lNn17 := Nn17.out.ld
  have Ns18 := Lib.hid (Ns12.out.up BB16.out)
  have lNs18 := Ns18.out.ld
  have Nya19 := Lib.hid (Nya13.out.up BB16.out)
  have lNya19 := Nya19.out.ld
  have Nyb20 := Lib.hid (Nyb14.out.up BB16.out)
  have lNyb20 := Nyb20.out.ld
  have Nyc21 := Lib.hid (NN10.out.up BB16.out)
  have lNyc21 := Nyc21.out.ld
  have B22 := Lib.hid (B15.out.trans (BB16.out.mono B15.out.size))
  clear Nn11
  clear Ns12
  clear Nya13
  clear Nyb14
  clear NN10
  clear B15
  generalize u16.heap.size = b16 at NN16 ⊢
  have lN16 := NN16.out.ld
  have vyd := Lib.hid (Y16.out.1)
  have CC23 := Lib.hid (shrunk_any n k V16 Nn17.out.2)
  go_upto_region 6 with (go_at_call 20; refine CC23.out.mono ?_; rintro e u23 ⟨ye, rfl, vy, gy, hb⟩; have Y23 := Lib.hid (⟨vy, gy, hb⟩ : _ ∧ _ ∧ _); clear vy gy hb)
  obtain ⟨V23, hV23⟩ : ∃ X, X = u23.alloc (.cells ye.cs 28) := ⟨_, rfl⟩
  have BB23 := Lib.hid (show Below V16.heap.size V16 V23 by rw [hV23]; exact (Y23.out.2.2).alloc (Y23.out.2.2).size _)
  have NN23 := Lib.hid (show NB V23 u23.heap.size ye by rw [hV23]; exact nb_new Y23.out.2.1)
  rw [← hV23]; clear hV23
  have Nn24 := Lib.hid (Nn17.out.up BB23.out)
  have lNn24 := Nn24.out.ld
  have Ns25 := Lib.hid (Ns18.out.up BB23.out)
  have lNs25 := Ns25.out.ld
  have Nya26 := Lib.hid (Nya19.out.up BB23.out)
  have lNya26 := Nya26.out.ld
  have Nyb27 := Lib.hid (Nyb20.out.up BB23.out)
  have lNyb27 := Nyb27.out.ld
  have Nyc28 := Lib.hid (Nyc21.out.up BB23.out)
  have lNyc28 := Nyc28.out.ld
  have Nyd29 := Lib.hid (NN16.out.up BB23.out)
  have lNyd29 := Nyd29.out.ld
  have B30 := Lib.hid (B22.out.trans (BB23.out.mono B22.out.size))
  clear Nn17
  clear Ns18
  clear Nya19
  clear Nyb20
  clear Nyc21
  clear NN16
  clear B22
  generalize u23.heap.size = b23 at NN23 ⊢
  have lN23 := NN23.out.ld
  have vye := Lib.hid (Y23.out.1)
  have CC31 := Lib.hid (rshrunk_any n k V23 Nn24.out.2)
  go_upto_region 7 with (go_at_call 26; refine CC31.out.mono ?_; rintro e u31 ⟨yf, rfl, vy, gy, hb⟩; have Y31 := Lib.hid (⟨vy, gy, hb⟩ : _ ∧ _ ∧ _); clear vy gy hb)
  obtain ⟨V31, hV31⟩ : ∃ X, X = u31.alloc (.cells yf.cs 28) := ⟨_, rfl⟩
  have BB31 := Lib.hid (show Below V23.heap.size V23 V31 by rw [hV31]; exact (Y31.out.2.2).alloc (Y31.out.2.2).size _)
  have NN31 := Lib.hid (show NB V31 u31.heap.size yf by rw [hV31]; exact nb_new Y31.out.2.1)
  rw [← hV31]; clear hV31
  have Nn32 := Lib.hid (Nn24.out.up BB31.out)
  have lNn32 := Nn32.out.ld
  have Ns33 := Lib.hid (Ns25.out.up BB31.out)
  have lNs33 := Ns33.out.ld
  have Nya34 := Lib.hid (Nya26.out.up BB31.out)
  have lNya34 := Nya34.out.ld
  have Nyb35 := Lib.hid (Nyb27.out.up BB31.out)
  have lNyb35 := Nyb35.out.ld
  have Nyc36 := Lib.hid (Nyc28.out.up BB31.out)
  have lNyc36 := Nyc36.out.ld
  have Nyd37 := Lib.hid (Nyd29.out.up BB31.out)
  have lNyd37 := Nyd37.out.ld
  have Nye38 := Lib.hid (NN23.out.up BB31.out)
  have lNye38 := Nye38.out.ld
  have B39 := Lib.hid (B30.out.trans (BB31.out.mono B30.out.size))
  clear Nn24
  clear Ns25
  clear Nya26
  clear Nyb27
  clear Nyc28
  clear Nyd29
  clear NN23
  clear B30
  generalize u31.heap.size = b31 at NN31 ⊢
  have lN31 := NN31.out.ld
  have vyf := Lib.hid (Y31.out.1)
  generalize untB n = p1
  generalize groB n k = p2
  generalize shrB n k = p3
  generalize ctrV n l s = cv
  have KS := Lib.hid (show ∀ X, RowKit.Below V31.heap.size V31 X → Sem.run Try.prog (loadNode (.pointer (some ⟨w.heap.size, 0, none⟩))) X = .ok (.agg n.cs) X ∧ Sem.run Try.prog (loadNode (.pointer (some ⟨w.heap.size + 1, 0, none⟩))) X = .ok (.agg s.cs) X ∧ Sem.run Try.prog (loadNode (.pointer (some ⟨b1, 0, none⟩))) X = .ok (.agg ya.cs) X ∧ Sem.run Try.prog (loadNode (.pointer (some ⟨b5, 0, none⟩))) X = .ok (.agg yb.cs) X ∧ Sem.run Try.prog (loadNode (.pointer (some ⟨b10, 0, none⟩))) X = .ok (.agg yc.cs) X ∧ Sem.run Try.prog (loadNode (.pointer (some ⟨b16, 0, none⟩))) X = .ok (.agg yd.cs) X ∧ Sem.run Try.prog (loadNode (.pointer (some ⟨b23, 0, none⟩))) X = .ok (.agg ye.cs) X ∧ Sem.run Try.prog (loadNode (.pointer (some ⟨b31, 0, none⟩))) X = .ok (.agg yf.cs) X from fun X hX =>
    ⟨(Nn32.out.up hX).ld, (Ns33.out.up hX).ld, (Nya34.out.up hX).ld, (Nyb35.out.up hX).ld, (Nyc36.out.up hX).ld, (Nyd37.out.up hX).ld, (Nye38.out.up hX).ld, (NN31.out.up hX).ld⟩)
  have BD := Lib.hid (show RowKit.Below V31.heap.size V31 V31.drew from ⟨rfl, rfl, rfl, Nat.le_refl _, fun _ _ => rfl⟩)
  have C1 := Lib.hid (fun X (hX : RowKit.Below V31.heap.size V31 X) => contracted_any n s l X (Nn32.out.up hX).2)
  have C2 := Lib.hid (fun X (hX : RowKit.Below V31.heap.size V31 X) => rcontracted_any n s l X (Nn32.out.up hX).2)
  have E2 := Lib.hid (fun X (hX : RowKit.Below V31.heap.size V31 X) => equal_v (Nya34.out.up hX).2 (Nyb35.out.up hX).2 vya.out vyb.out)
  have E3 := Lib.hid (fun X (hX : RowKit.Below V31.heap.size V31 X) => equal_v (Nyc36.out.up hX).2 (Nyd37.out.up hX).2 vyc.out vyd.out)
  have E4 := Lib.hid (fun X (hX : RowKit.Below V31.heap.size V31 X) => equal_v (Nye38.out.up hX).2 (NN31.out.up hX).2 vye.out vyf.out)
  go_region_held3 (fun w' => Sem.run Try.prog (loadNode (.pointer (some ⟨w.heap.size, 0, none⟩))) w' = .ok (.agg n.cs) w' ∧ Sem.run Try.prog (loadNode (.pointer (some ⟨w.heap.size + 1, 0, none⟩))) w' = .ok (.agg s.cs) w' ∧ Sem.run Try.prog (loadNode (.pointer (some ⟨b1, 0, none⟩))) w' = .ok (.agg ya.cs) w' ∧ Sem.run Try.prog (loadNode (.pointer (some ⟨b5, 0, none⟩))) w' = .ok (.agg yb.cs) w' ∧ Sem.run Try.prog (loadNode (.pointer (some ⟨b10, 0, none⟩))) w' = .ok (.agg yc.cs) w' ∧ Sem.run Try.prog (loadNode (.pointer (some ⟨b16, 0, none⟩))) w' = .ok (.agg yd.cs) w' ∧ Sem.run Try.prog (loadNode (.pointer (some ⟨b23, 0, none⟩))) w' = .ok (.agg ye.cs) w' ∧ Sem.run Try.prog (loadNode (.pointer (some ⟨b31, 0, none⟩))) w' = .ok (.agg yf.cs) w')
    (exact KS.out _ (by first | exact Q4.out | exact Q3.out | exact Q2.out | exact Q1.out | exact A2.out | exact B2.out | exact A1.out | exact B1.out | exact BD.out))
    (first
      | (go_at_call 16; (with_reducible refine (E4.out _ Q3.out).mono ?_); rintro e t4 ⟨rfl, hg⟩; have Q4 := Lib.hid (Q3.out.trans (hg.b.mono Q3.out.size)); clear hg)
      | (go_at_call 16; (with_reducible refine (E3.out _ Q2.out).mono ?_); rintro e t3 ⟨rfl, hg⟩; have Q3 := Lib.hid (Q2.out.trans (hg.b.mono Q2.out.size)); clear hg)
      | (go_at_call 16; (with_reducible refine (E2.out _ Q1.out).mono ?_); rintro e t2 ⟨rfl, hg⟩; have Q2 := Lib.hid (Q1.out.trans (hg.b.mono Q1.out.size)); clear hg)
      | (go_at_call 16; (with_reducible refine (EA.out).mono ?_); rintro e t1 ⟨rfl, hg⟩; have Q1 := Lib.hid (A2.out.trans (hg.b.mono A2.out.size)); clear hg)
      | (go_at_call 16; (with_reducible refine (EB.out).mono ?_); rintro e t1 ⟨rfl, hg⟩; have Q1 := Lib.hid (B2.out.trans (hg.b.mono B2.out.size)); clear hg)
      | (go_at_call 27; (with_reducible refine (C2.out _ A1.out).mono ?_); rintro e a2 ⟨z2, rfl, vz, gz, hb⟩; have A2 := Lib.hid (A1.out.trans (hb.mono A1.out.size)); have EA := Lib.hid (equal_v (G1.out.up hb) gz V1.out vz); clear vz gz hb)
      | (go_at_call 15; (with_reducible refine (C1.out _ B1.out).mono ?_); rintro e b2 ⟨z1, rfl, vz, gz, hb⟩; have B2 := Lib.hid (B1.out.trans (hb.mono B1.out.size)); have EB := Lib.hid (equal_v gz (G2.out.up hb) vz V2.out); clear vz gz hb)
      | (go_at_call 15; (with_reducible refine (C1.out _ BD.out).mono ?_); rintro e a1 ⟨z1, rfl, vz, gz, hb⟩; have A1 := Lib.hid (BD.out.trans (hb.mono BD.out.size)); have V1 := Lib.hid vz; have G1 := Lib.hid gz; clear vz gz hb)
      | (go_at_call 27; (with_reducible refine (C2.out _ BD.out).mono ?_); rintro e b1 ⟨z2, rfl, vz, gz, hb⟩; have B1 := Lib.hid (BD.out.trans (hb.mono BD.out.size)); have V2 := Lib.hid vz; have G2 := Lib.hid gz; clear vz gz hb))
  all_goals
    go_wp2
    go_ret
    exact ⟨rfl, B39.out.trans (Q4.out.mono B39.out.size)⟩
end Go.Proofs.Ytpopoihggomfiaa
