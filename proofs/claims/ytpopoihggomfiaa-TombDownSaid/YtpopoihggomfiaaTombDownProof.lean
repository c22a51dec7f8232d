/- For every input the Go function TombDown of package ctrielaw07 returns true, and each argument reads afterwards as it read before. Conditions: none but those that every row of the form bears by itself. The frame follows the guide's proof-skeleton; the walk is ours. -/
import Derived.Test.YtpopoihggomfiaaRows
import Derived.WalkKit
import Derived.ProofKit
import Derived.OpenShut
import Derived.ShutString
import Derived.ChangeOld
import Derived.Below
import Derived.Test.YtpopoihggomfiaaFrame
import Derived.Test.YtpopoihggomfiaaTbX
import Derived.Lib.Hide
import Derived.Deep.RegionHeld3
import Derived.Deep.DeepCutAuto
import Derived.Deep.RegionLaw
import Derived.RegionTactic
namespace Go.Proofs.Ytpopoihggomfiaa.tombDown
open Go.Lib
open Go.ChangeShapes Go.WideShapes Go.ChangeAt Go.RowKit
open Go.ChangeMaps (open_string shut_string)
set_option linter.unusedVariables false

theorem own : ownKnob Try.prog.godebug = none := by kernel_rfl
theorem laidOut : laidOutB Try.prog = true := by kernel_rfl
open Go.Sort
set_option maxRecDepth 100000
attribute [local go_sem ↓] exec_load28 exec_storeN
attribute [local go_sem] run_storeNode_new
abbrev Z28 : Obj := .cells #[.int .i64 0, .int .i64 0, .int .i64 0, .int .u64 0, .slice none 0 0, .int .u64 0, .string ⟨#[]⟩, .int .u64 0, .slice none 0 0, .int .i64 0, .int .i64 0, .int .i64 0, .int .i64 0, .int .i64 0] 28
theorem isL_bsD {h : Int} {m : Nd} {L : List Pr} (d : Dn h m L) : m.bs = [] := d.bs
theorem rdx_own {w : World} {base : Nat} {A : Option Addr} {n c : Nat} {xs : List Pr} (h : Own w base (.slice A n c) xs) {ad : Addr} (e : A = some ad) : base ≤ ad.block := h.fresh_ ad e
/-- What the loop knows. -/
structure DI (a1 : Option Addr) (len1 cap1 : Nat) (w : World) (T b base : Nat) (h : Int) (wr : World) (s7 : Value) (m : Nd) (L : List Pr) : Prop where
  tape : Tape T wr
  t0 : wr.cell? ⟨T, 0, none⟩ = some (.slice a1 len1 cap1)
  blk : wr.heap[b]? = some (.cells m.cs 28 (0, 0))
  gn : GN wr m
  pa : ∀ ad, m.pA = some ad → 0 < m.ps.length → ad.block ≠ T ∧ ad.block ≠ b
  own : Own wr base s7 L
  dn : Dn h m L
  len : L.length ≤ 8
  bel : RowKit.Below w.heap.size w wr
  pos : w.heap.size ≤ b ∧ b < T ∧ T < base ∧ base ≤ wr.heap.size

/-! ### STEP 1: THE WALK -/
set_option maxRecDepth 100000 in
set_option maxHeartbeats 16000000 in
theorem walk (a0 : Option Addr) (len0 cap0 : Nat) (a1 : Option Addr) (len1 cap1 : Nat) (w : World) (w0 : IsInts w a0 len0) (w1 : IsInts w a1 len1) :
    Calls Try.prog 6 #[.slice a0 len0 cap0, .slice a1 len1 cap1] w fun e w' => e = .returned (.bool true) ∧ Below w.heap.size w w' := by
  have ML := Lib.hid (mklist_any a0 len0 cap0 w w0.1 w0.2)
  have I1 := Lib.hid w1
  have AW := Lib.hid (fun X => awake_any X)
  have mixed := mixedOrders
  clear w0 w1
  go_enter Try.func6, Try.ntmps6
  go_upto_region 2 with (go_at_call 13; refine ML.out.mono ?_; rintro e u1 ⟨n, rfl, ln, gn, hb⟩; have HL := Lib.hid ln; have GN1 := Lib.hid gn; have B1 := Lib.hid hb; clear ln gn hb)
  obtain ⟨V, hV⟩ : ∃ X, X = u1.alloc (.cells n.cs 28) := ⟨_, rfl⟩
  have NV := Lib.hid (show NB V u1.heap.size n by rw [hV]; exact nb_new GN1.out)
  have BV := Lib.hid (show RowKit.Below w.heap.size w V by rw [hV]; exact B1.out.alloc B1.out.size _)
  have PB := Lib.hid (show ∀ ad, n.pA = some ad → 0 < n.ps.length → ad.block < u1.heap.size from fun ad e hn => GN1.out.blk.2 ad hn e)
  have SV := Lib.hid (show w.heap.size ≤ u1.heap.size ∧ V.heap.size = u1.heap.size + 1 from ⟨B1.out.size, by rw [hV]; simp⟩)
  rw [← hV]; clear hV
  generalize u1.heap.size = b at NV PB SV ⊢
  clear ML GN1 B1
  have NT := Lib.hid (new2_any a1 len1 cap1 V I1.out.1 (ints_up I1.out BV.out))
  go_upto_region 3 with (go_at_call 7; refine NT.out.mono ?_; rintro e u2 ⟨rfl, ht, hb, ht0⟩; have T2 := Lib.hid ht; have C20 := Lib.hid ht0; have B2 := Lib.hid hb; clear ht hb ht0)
  have NU := Lib.hid (NV.out.up B2.out)
  have BU := Lib.hid (BV.out.trans (B2.out.mono BV.out.size))
  have PT := Lib.hid (show b < V.heap.size ∧ V.heap.size < u2.heap.size from ⟨by have := SV.out.2; omega, T2.out.lt⟩)
  clear NV BV NT B2
  generalize V.heap.size = T at T2 C20 PT SV ⊢
  have d8 := fun o => node_cellA (V := u2.alloc o) ((Below.heap_alloc u2 o b (Array.getElem?_eq_some_iff.1 NU.out.1).1).trans NU.out.1) (i := 8) (v := .slice n.pA n.ps.length n.pc) rfl
  have HN := Lib.hid (show n.ps.length ≤ 1000 by have := HL.out.len; omega)
  go_upto_region 4 with (at_builtin; refine wpList_append_list (w0 := u2) rfl (.tmp 15) (.tmp 17) rfl u2.heap.size (.slice (some ⟨u2.heap.size, 0, none⟩) 0 0) [] rfl (own_empty u2) n.pA n.ps.length n.pc u2.heap.size n.ps rfl rfl (NU.out.2.rd.p.alloc (Nat.le_refl _) _) NU.out.2.pa (by have := HN.out; simp; omega) ((Below.refl _ u2).alloc (Nat.le_refl _) _) (by simp) ?_; intro v3 w3 HO3 hB3; have O3 := Lib.hid (show Own w3 u2.heap.size v3 n.ps by simpa using HO3.out); have B3 := Lib.hid hB3; clear HO3 hB3)
  have J := Lib.hid (show DI a1 len1 cap1 w T b u2.heap.size n.hash w3 v3 n n.ps from ⟨T2.out.below B3.out PT.out.2, (B3.out.cell (p := ⟨T, 0, none⟩) PT.out.2).trans C20.out, heap_up NU.out.1 B3.out, NU.out.2.up B3.out, fun ad e hn => by have := PB.out ad e hn; have := PT.out; omega, O3.out, Dn.first HL.out (isL_bs HL.out.isL), HL.out.len, BU.out.trans (B3.out.mono BU.out.size), ⟨SV.out.1, PT.out.1, PT.out.2, B3.out.size⟩⟩)
  clear d8 NU BU O3 B3 T2 C20 PB SV PT HN
  generalize n.hash = h at J ⊢
  generalize u2.heap.size = base at J ⊢
  generalize n.ps = L0 at J ⊢
  go_loopg [7] L0.length (fun kx s7 wr => ∃ (m : Nd) (L : List Pr), L.length ≤ kx ∧ Aside (DI a1 len1 cap1 w T b base h wr s7 m L))
  case atStart => exact ⟨n, L0, Nat.le_refl _, J.out⟩
  case round =>
    clear J
    obtain ⟨m, L, hkx, I⟩ := hrel
    obtain ⟨A, c, rfl, hR, hA, hc⟩ := I.out.own.open2
    have RL := Lib.hid hR
    have AC := Lib.hid (⟨hA, hc⟩ : _ ∧ _)
    clear hR hA hc
    obtain ⟨wo, hwo⟩ : ∃ X, X = wr := ⟨_, rfl⟩
    simp only [← hwo] at I RL ⊢
    clear hwo
    by_cases hlt : 1 < L.length
    · have hltz : (L.length : Int) > 1 := by omega
      have hl8 := I.out.len
      go_upto_region 6 with (go_at_call 22; refine (next2_any T L.length wo I.out.tape (by omega) (by omega)).mono ?_; rintro e w5 ⟨i, hi, rfl, ht, hg, ht0⟩; have T5 := Lib.hid ht; have C5 := Lib.hid (ht0.trans I.out.t0); have G5 := Lib.hid hg; clear ht hg ht0)
      obtain ⟨x, hx⟩ : ∃ x, L[i]? = some x := ⟨_, List.getElem?_eq_getElem hi⟩
      have ST := Lib.hid (I.out.dn.step (by omega) hx)
      have R5 := Lib.hid (show Rd w5 w5.heap.size A L from fun hn => by
        obtain ⟨ad, e, hb, hcell⟩ := RL.out hn
        have hbase := rdx_own I.out.own e
        exact ⟨ad, e, Nat.lt_of_lt_of_le hb G5.out.size, fun j u hu => (World.cell?_of_block (G5.out.block _ (by rw [block_add]; exact hb) (fun e' => by injection e' with e'; rw [block_add] at e'; have := I.out.pos; omega))).trans (hcell j u hu)⟩)
      have O5 := Lib.hid (I.out.own.grown (by have := I.out.pos; omega) G5.out)
      have N5 := Lib.hid (show NB w5 b m from ⟨(G5.out.block b (Array.getElem?_eq_some_iff.1 I.out.blk).1 (fun e => by injection e with e; have := I.out.pos; omega)).trans I.out.blk, gn_same I.out.gn G5.out.size (isL_bsD I.out.dn) (fun ad e hn hlt => G5.out.block _ hlt (fun e' => by injection e' with e'; exact (I.out.pa ad e hn).1 e'))⟩)
      have B5 := Lib.hid (I.out.bel.trans (below_of_grown G5.out (by have := I.out.pos; omega) I.out.bel.size))
      have P5 := Lib.hid (⟨I.out.pos.1, I.out.pos.2.1, I.out.pos.2.2.1, Nat.le_trans I.out.pos.2.2.2 G5.out.size⟩ : w.heap.size ≤ b ∧ b < T ∧ T < base ∧ base ≤ w5.heap.size)
      have DM := Lib.hid I.out.dn
      have PA := Lib.hid I.out.pa
      clear RL G5 I
      obtain ⟨ad, p, x', hA, hp, hpb, hx', c0, c1⟩ := R5.out.at2 hi
      rw [hx] at hx'
      injection hx' with hx'
      subst hx'
      have HX := Lib.hid hx
      subst hA
      clear c1 hx
      have hi0 : (0 : Int) ≤ (i : Int) := by omega
      have hiz : (i : Int) < (L.length : Int) := by omega
      have KS := Lib.hid (show ∀ X, RowKit.Below w5.heap.size w5 X → Sem.run Try.prog (loadNode (.pointer (some ⟨b, 0, none⟩))) X = .ok (.agg m.cs) X ∧ X.cell? p = some (.string x.1) from fun X hX => ⟨(N5.out.up hX).ld, (hX.cell (p := p) hpb).trans c0⟩)
      have BD := Lib.hid (show RowKit.Below w5.heap.size w5 w5.drew from ⟨rfl, rfl, rfl, Nat.le_refl _, fun _ _ => rfl⟩)
      have BDA := Lib.hid (show ∀ o, RowKit.Below w5.heap.size w5 (w5.alloc o).drew from fun o => by have h := alloc_below w5 o; exact ⟨h.os, h.tape, h.output, h.size, h.block⟩)
      have HZ := Lib.hid (show (w5.alloc Z28).drew.heap.size = w5.heap.size + 1 by simp [World.drew])
      have SH := Lib.hid (fun X (hX : RowKit.Below w5.heap.size w5 X) => (by have := shrunkF_any m x.1 X (N5.out.up hX).2; rw [ST.out.1] at this; exact this : Calls Try.prog 20 #[.agg m.cs, .string x.1] X (FPost true (shrV m x.1) X)))
      clear c0
      go_cut [9, 10] (fun s9 s10 wx => ∃ (b9 : Nat) (y : Nd), s9 = .pointer (some ⟨b9, 0, none⟩) ∧ s10 = .bool true ∧ Aside (NB wx b9 y ∧ Vw y (shrV m x.1) ∧ FRs w5.heap.size y ∧ RowKit.Below w5.heap.size w5 wx ∧ w5.heap.size ≤ b9))
      case first =>
        go_region_held3 (fun w' => Sem.run Try.prog (loadNode (.pointer (some ⟨b, 0, none⟩))) w' = .ok (.agg m.cs) w' ∧ w'.cell? p = some (.string x.1))
          (exact KS.out _ (by first | exact B6S.out | exact B6A.out _ | exact B6.out | exact BDA.out _ | exact BD.out))
          (first
            | (go_at_call 20; (with_reducible refine (SH.out _ (BDA.out Z28)).mono ?_); rintro e w6 ⟨y, rfl, vy, gy, hb, fy⟩; have B6 := Lib.hid ((BDA.out Z28).trans (hb.mono (BDA.out Z28).size)); have Z6 := Lib.hid (heap_up (show (w5.alloc Z28).drew.heap[w5.heap.size]? = some Z28 from heap_alloc_new w5 Z28) hb); have st := run_storeNode y Z6.out rfl; have B6S := Lib.hid (below_setRow B6.out (Nat.le_refl _) y.cs); have Y := Lib.hid (⟨vy, gy, fy⟩ : _ ∧ _ ∧ _); clear vy gy hb fy)
            | (go_at_call 20; (with_reducible refine (SH.out _ BD.out).mono ?_); rintro e w6 ⟨y, rfl, vy, gy, hb, fy⟩; have B6 := Lib.hid (BD.out.trans (hb.mono BD.out.size)); have B6A := Lib.hid (fun o => B6.out.alloc B6.out.size o); have Y := Lib.hid (⟨vy, gy, fy⟩ : _ ∧ _ ∧ _); clear vy gy hb fy))
        all_goals
          go_wp2_with fail
          go_meet
          first
            | exact ⟨w6.heap.size, y, rfl, rfl, (⟨nb_new Y.out.2.1, Y.out.1, Y.out.2.2, B6A.out _, B6.out.size⟩ : _ ∧ _ ∧ _ ∧ _ ∧ _)⟩
            | exact ⟨w5.heap.size, y, rfl, rfl, (⟨⟨setRow_heap w6 _ _ _ 28 (0, 0) Z6.out, gn_setRow Y.out.2.1 (fun ad e => by have := Y.out.2.2.1 ad e; have h9 := HZ.out; omega) (fun ad e => by have := Y.out.2.2.2 ad e; have h9 := HZ.out; omega) _⟩, Y.out.1, ⟨fun ad e => by have := Y.out.2.2.1 ad e; have h9 := (BDA.out Z28).size; omega, fun ad e => by have := Y.out.2.2.2 ad e; have h9 := (BDA.out Z28).size; omega⟩, B6S.out, Nat.le_refl _⟩ : _ ∧ _ ∧ _ ∧ _ ∧ _)⟩
      case rest =>
        obtain ⟨b9, y, rfl, rfl, F⟩ := hcut
        obtain ⟨w7, hw7⟩ : ∃ w7, w7 = wc := ⟨_, rfl⟩
        simp only [← hw7] at F ⊢
        clear hw7 SH BDA BD KS HZ
        have R7 := Lib.hid (R5.out.up F.out.2.2.2.1)
        have O7 := Lib.hid (O5.out.below F.out.2.2.2.1 (Nat.le_refl _))
        have N7 := Lib.hid (N5.out.up F.out.2.2.2.1)
        have T7 := Lib.hid (T5.out.below F.out.2.2.2.1 T5.out.lt)
        have C7 := Lib.hid ((F.out.2.2.2.1.cell (p := ⟨T, 0, none⟩) T5.out.lt).trans C5.out)
        have B7 := Lib.hid (B5.out.trans (F.out.2.2.2.1.mono B5.out.size))
        have P7 := Lib.hid (⟨P5.out.1, P5.out.2.1, P5.out.2.2.1, P5.out.2.2.2, F.out.2.2.2.1.size⟩ : w.heap.size ≤ b ∧ b < T ∧ T < base ∧ base ≤ w5.heap.size ∧ w5.heap.size ≤ w7.heap.size)
        have TL := Lib.hid T5.out.lt
        have DY := Lib.hid (ST.out.2 y F.out.2.1)
        have FY := Lib.hid (⟨F.out.1, F.out.2.2.1, F.out.2.2.2.2⟩ : _ ∧ _ ∧ _)
        clear R5 O5 N5 T5 C5 B5 P5 ST F
        obtain ⟨R, hR⟩ : ∃ R, R = L.take i ++ L.drop (i + 1) := ⟨_, rfl⟩
        rw [← hR] at DY
        have HR := Lib.hid hR
        have hRl : R.length + 1 = L.length := by rw [hR]; simp; omega
        clear hR
        have hw1 : IntKind.i64.wrap ((i : Int) + 1) = (i : Int) + 1 := by rw [IntKind.wrap_i64]; omega
        have hcc := AC.out.2
        go_upto_region 7 with (fail)
        go_cut [7] (fun s7 wx => ∃ v : Value, s7 = v ∧ Aside (Own wx base v R ∧ RowKit.Below w7.heap.size w7 wx))
        case first =>
          have RT := Lib.hid (R7.out.take i)
          have OE := Lib.hid (show Own (w7.alloc (.cells #[] 54)).drew w7.heap.size (.slice (some ⟨w7.heap.size, 0, none⟩) 0 0) [] from own_empty w7)
          have BE := Lib.hid (show RowKit.Below w7.heap.size w7 (w7.alloc (.cells #[] 54)).drew from by have h := alloc_below w7 (.cells #[] 54); exact ⟨h.os, h.tape, h.output, h.size, h.block⟩)
          have hic : i ≤ c := by omega
          have hic2 : i + 1 ≤ c := by omega
          have hiL : i + 1 ≤ L.length := by omega
          have hi1 : (0 : Int) ≤ (i : Int) + 1 := by omega
          have hiLz : (i : Int) + 1 ≤ (L.length : Int) := by omega
          by_cases hci : c = i + 1
          · have RD : Hid (Rd w7 w7.heap.size (some ad) (L.drop (i + 1))) := by have := R7.out.cut (k := i + 1) (cap := c) (by omega) hcc; rwa [if_pos hci] at this
            subst hci
            have hii : (i : Int) ≤ (i : Int) + 1 := by omega
            go_region_law (first
              | (refine step_append_any (w0 := w7) rfl (.tmp 36) (.tmp 39) rfl w7.heap.size _ [] rfl OE.out _ _ _ w7.heap.size (L.take i) rfl (by simp; omega) (RT.out.keep fun p hp => BE.out.cell (p := p) hp) (fun e => by cases e) (by simp; omega) BE.out BE.out.size ?_
                 intro va wa HOa HBa)
              | (refine step_append_any (w0 := w7) rfl (.tmp 40) (.tmp 44) rfl w7.heap.size _ ([] ++ L.take i) rfl HOa.out _ _ _ w7.heap.size (L.drop (i + 1)) rfl (by first | (simp; done) | (simp; omega)) (RD.out.keep fun p hp => HBa.cell (p := p) hp) (fun e => by cases e) (by simp; omega) HBa (by have := HBa.size; exact this) ?_
                 intro vb wb HOb HBb))
            go_wp2_with fail
            go_meet
            exact ⟨vb, rfl, (⟨by rw [HR.out]; exact (show Own wb w7.heap.size vb (L.take i ++ L.drop (i + 1)) by simpa using HOb.out).mono (by have := P7.out; omega), HBb⟩ : _ ∧ _)⟩
          · have hci' : ¬ i + 1 = c := fun e => hci e.symm
            have RD : Hid (Rd w7 w7.heap.size (some (ad.add ((i + 1) * 2))) (L.drop (i + 1))) := by have := R7.out.cut (k := i + 1) (cap := c) (by omega) hcc; rwa [if_neg hci] at this
            go_region_law (first
              | (refine step_append_any (w0 := w7) rfl (.tmp 36) (.tmp 39) rfl w7.heap.size _ [] rfl OE.out _ _ _ w7.heap.size (L.take i) rfl (by simp; omega) (RT.out.keep fun p hp => BE.out.cell (p := p) hp) (fun e => by cases e) (by simp; omega) BE.out BE.out.size ?_
                 intro va wa HOa HBa)
              | (refine step_append_any (w0 := w7) rfl (.tmp 40) (.tmp 44) rfl w7.heap.size _ ([] ++ L.take i) rfl HOa.out _ _ _ w7.heap.size (L.drop (i + 1)) rfl (by first | (simp; done) | (simp; omega)) (RD.out.keep fun p hp => HBa.cell (p := p) hp) (fun e => by cases e) (by simp; omega) HBa (by have := HBa.size; exact this) ?_
                 intro vb wb HOb HBb))
            go_wp2_with fail
            go_meet
            exact ⟨vb, rfl, (⟨by rw [HR.out]; exact (show Own wb w7.heap.size vb (L.take i ++ L.drop (i + 1)) by simpa using HOb.out).mono (by have := P7.out; omega), HBb⟩ : _ ∧ _)⟩
        case rest =>
          obtain ⟨v7, rfl, F7⟩ := hcut
          obtain ⟨w8, hw8⟩ : ∃ w8, w8 = wc := ⟨_, rfl⟩
          simp only [← hw8] at F7 ⊢
          clear hw8
          obtain ⟨A8, c8, rfl, hR8, hA8, hc8⟩ := F7.out.1.open2
          have R8 := Lib.hid hR8
          have O8 := Lib.hid F7.out.1
          have F8 := Lib.hid F7.out.2
          clear hR8 hA8 hc8 F7
          have N8 := Lib.hid (N7.out.up F8.out)
          have Y8 := Lib.hid (FY.out.1.up F8.out)
          have T8 := Lib.hid (T7.out.below F8.out T7.out.lt)
          have C8 := Lib.hid ((F8.out.cell (p := ⟨T, 0, none⟩) T7.out.lt).trans C7.out)
          have B8 := Lib.hid (B7.out.trans (F8.out.mono B7.out.size))
          have P8 := Lib.hid (⟨P7.out.1, P7.out.2.1, P7.out.2.2.1, P7.out.2.2.2.1, Nat.le_trans P7.out.2.2.2.2 F8.out.size⟩ : w.heap.size ≤ b ∧ b < T ∧ T < base ∧ base ≤ w5.heap.size ∧ w5.heap.size ≤ w8.heap.size)
          clear R7 O7 N7 T7 C7 B7 P7 F8 hw1 hcc
          have y5 := node_cellA Y8.out.1 (i := 5) (v := .int .u64 y.hash) rfl
          have m5 := node_cellA N8.out.1 (i := 5) (v := .int .u64 m.hash) rfl
          have y8 := node_cellA Y8.out.1 (i := 8) (v := .slice y.pA y.ps.length y.pc) rfl
          rw [DY.out.1.hash] at y5
          rw [DM.out.hash] at m5
          go_upto_region 8 with (fail)
          go_cut [66] (fun s66 wx => s66 = .bool false ∧ ∃ q, wx = w8.drewN q)
          case first =>
            by_cases h1 : 1 < R.length
            · have h1z : (R.length : Int) > 1 := by omega
              have EP := Lib.hid (requalP_any y.pA y.pc y.ps A8 c8 R w8.heap.size w8 Y8.out.2.rd.p R8.out (by have := Y8.out.2.rd.pl; omega) (by omega))
              rw [show decide (y.ps = R) = true from decide_eq_true (DY.out.2 h1)] at EP
              go_wp2_with (go_at_call 21; refine EP.out.mono ?_; rintro e x2 ⟨rfl, q, rfl⟩)
              go_meet
              exact ⟨rfl, q, rfl⟩
            · have h1z : ¬ (R.length : Int) > 1 := by omega
              go_wp2_with fail
              go_meet
              exact ⟨rfl, 0, rfl⟩
          case rest =>
            obtain ⟨rfl, q, rfl⟩ := hcut
            clear y5 m5 y8
            have ly := run_loadNode (show (w8.drewN q).heap[b9]? = _ from Y8.out.1)
            have HB9 := Lib.hid (show (w8.drewN q).heap[b]? = some (.cells m.cs 28 (0, 0)) from N8.out.1)
            have st := run_storeNode y HB9.out rfl
            have TO := Lib.hid (show Tape T (w8.drewN q) from T8.out.kept (fun _ _ => rfl) (Nat.le_refl _))
            go_wp2_with fail
            obtain ⟨X, hX⟩ : ∃ X, X = (w8.drewN q).setRow b y.cs := ⟨_, rfl⟩
            have oth := fun (k : Nat) (hk : k ≠ b) => (show X.heap[k]? = w8.heap[k]? by rw [hX]; exact setRow_other (w8.drewN q) _ _ _ hk)
            have hXs : X.heap.size = w8.heap.size := by rw [hX]; simp
            have hp8 := P8.out
            have JX := Lib.hid (show DI a1 len1 cap1 w T b base h X (.slice A8 R.length c8) y R from
              ⟨TO.out.off (w' := X) C8.out (ints_lt I1.out) (oth T (by omega)) (fun k hk => oth k (by omega)) (by rw [hXs]; exact Nat.le_refl _),
               (World.cell?_of_block (oth T (by omega))).trans C8.out,
               by rw [hX]; exact setRow_heap (w8.drewN q) _ _ _ 28 (0, 0) HB9.out,
               gn_same Y8.out.2 (by rw [hXs]; exact Nat.le_refl _) DY.out.1.bs (fun ad e hn hlt => oth _ (by have := FY.out.2.1.2 ad e; omega)),
               fun ad e hn => by have := FY.out.2.1.2 ad e; omega,
               O8.out.keepFrom (fun k hk _ => oth k (by omega)), DY.out.1, by omega,
               by rw [hX]; exact below_setRow (below_drew B8.out q) hp8.1 _,
               ⟨hp8.1, hp8.2.1, hp8.2.2.1, by rw [hXs]; omega⟩⟩)
            rw [← hX]
            clear hX st ly oth hXs
            go_roundg R.length
            case measure => omega
            case rel => exact ⟨y, R, Nat.le_refl _, JX.out⟩
    · obtain ⟨x, hL, hk5, hkey, hval⟩ := I.out.dn.last hlt
      subst hL
      obtain ⟨ad, p, x', hA, hp, hpb, hx', c0, c1⟩ := RL.out.at2 (i := 0) (by simp)
      simp at hx'
      subst hx' hA
      rw [Nat.zero_mul, add_zero_] at hp
      subst hp
      simp only [List.length_cons, List.length_nil, Nat.zero_add] at *
      have KS := Lib.hid (show ∀ X, RowKit.Below wo.heap.size wo X → X.cell? ⟨b, 0, none⟩ = some (.int .i64 5) ∧ X.cell? ⟨b, 6, none⟩ = some (.string x.1) ∧ X.cell? ⟨b, 7, none⟩ = some (.int .u64 x.2) ∧ X.cell? ad = some (.string x.1) ∧ X.cell? ⟨ad.block, ad.off + 1, none⟩ = some (.int .u64 x.2) from fun X hX =>
        ⟨by rw [← hk5]; exact node_cellA (heap_up I.out.blk hX) (i := 0) rfl, by rw [← hkey]; exact node_cellA (heap_up I.out.blk hX) (i := 6) rfl, by rw [← hval]; exact node_cellA (heap_up I.out.blk hX) (i := 7) rfl, (hX.cell (p := ad) hpb).trans c0, (hX.cell (p := ⟨ad.block, ad.off + 1, none⟩) hpb).trans c1⟩)
      have BD := Lib.hid (show RowKit.Below wo.heap.size wo wo.drew from ⟨rfl, rfl, rfl, Nat.le_refl _, fun _ _ => rfl⟩)
      clear c0 c1 hk5 hkey hval
      go_upto_region 11 with (fail)
      go_region_held3 (fun w' => w'.cell? ⟨b, 0, none⟩ = some (.int .i64 5) ∧ w'.cell? ⟨b, 6, none⟩ = some (.string x.1) ∧ w'.cell? ⟨b, 7, none⟩ = some (.int .u64 x.2) ∧ w'.cell? ad = some (.string x.1) ∧ w'.cell? ⟨ad.block, ad.off + 1, none⟩ = some (.int .u64 x.2))
        (exact KS.out _ (by first | exact Q1.out | exact BD.out))
        (first
          | (go_at_call 12; (with_reducible refine (AW.out _).mono ?_); rintro e t1 ⟨rfl, hb⟩; have Q1 := Lib.hid (BD.out.trans (hb.mono BD.out.size)); clear hb))
      all_goals
        go_wp2
        go_ret
        exact ⟨rfl, I.out.bel.trans (Q1.out.mono I.out.bel.size)⟩

/-! ### THE ROW's STEP -/
set_option maxRecDepth 100000 in
theorem lifted (os : Os) (started : os.Started) (H : Type) (enc : TypeId × Value → H) :
    ReturnsInHanded {} Try.checked os 6 .any (Rows.tombDownSpec.pre6 enc Try.prog Try.f6 Rows.tombDownRow.domain false) (Rows.tombDownSpec.post enc Try.prog Try.f6 false true false false) := by
  refine returnsInHanded_of_change (C := Try.checked) own started (by kernel_rfl) Try.func6
    (ChangeSpec.witness6 (enc := enc) (C := Try.checked) false ⟨#[], #[.slice none 0 0, .slice none 0 0], []⟩ 8 (by kernel_rfl) (by kernel_rfl) (by kernel_rfl) (by kernel_rfl)) ?_
  intro W base args ds gs before hval0 hW hcnd _
  have hval : ∀ (j : Nat) t v, Try.f6.params[j]? = some t → args[j]? = some v → Value.okWide Try.prog W .any base t v := hval0
  have hW' := hW
  obtain ⟨p, q, hA0, hV, rfl, hfz, hnd⟩ := hW
  have hA : DataW.TrodAll enc Try.prog W 0 (fun _ => true) true Try.f6.params.toList args.toList ds p := hA0
  rw [Try.params6] at hA hval
  obtain ⟨v0, vs0, d0, ds0, p0, q0, hargs, rfl, rfl, h0, r0⟩ := trodAll_cons hA
  obtain ⟨v1, vs1, d1, ds1, p1, q1, rfl, rfl, rfl, h1, r1⟩ := trodAll_cons r0
  obtain ⟨rfl, rfl, rfl⟩ := trodAll_nil r1
  obtain rfl : args = #[v0, v1] := by cases args; simp_all
  obtain ⟨rfl, rfl⟩ := trodVars_none hV
  obtain ⟨a0, len0, cap0, rfl⟩ := okWide_slice Try.underlying29 (hval 0 29 v0 rfl rfl)
  have k0 := h0
  have lt0 : ∀ x ∈ p0, x.block < W.heap.size := by obtain ⟨m, hm⟩ := k0; exact DataW.trod_lt m _ _ _ hm
  have w0 := open_intsT h0
  obtain ⟨a1, len1, cap1, rfl⟩ := okWide_slice Try.underlying29 (hval 1 29 v1 rfl rfl)
  have k1 := h1
  have lt1 : ∀ x ∈ p1, x.block < W.heap.size := by obtain ⟨m, hm⟩ := k1; exact DataW.trod_lt m _ _ _ hm
  have w1 := open_intsT h1
  clear hA0 hval0
  refine (walk a0 len0 cap0 a1 len1 cap1 W w0 w1).mono fun e W' ⟨he, bel⟩ => ?_
  subst he
  exact ⟨_, rfl, _, _, _, [], _, [], hW', trodAll_mk1 (shut_bool Try.underlying4 _), (trodAll_cons_mk (Below.trod laidOut (by kernel_rfl) (of_decide_eq_true (by kernel_rfl)) k0 bel lt0) (trodAll_cons_mk (Below.trod laidOut (by kernel_rfl) (of_decide_eq_true (by kernel_rfl)) k1 bel lt1) trodAll_mk0)), rfl, bel.frame _, fun h => by cases h⟩

theorem over : Rows.tombDownRow.holds Try.pinned (OpenSpec.ofChange Rows.tombDownSpec) :=
  OpenClaim.holds_of_wide 6 Try.f6 rfl rfl rfl rfl rfl rfl rfl ⟨rfl, rfl, rfl, rfl, rfl⟩ rfl rfl rfl rfl rfl (by kernel_rfl) Try.func6 (by kernel_rfl)
    (of_decide_eq_true (by kernel_rfl)) (by unfold Func.isWrapper; first | (rw [if_pos (by decide +kernel)]; kernel_rfl) | (rw [if_neg (by decide +kernel)]; exact ⟨rfl, rfl⟩))
    (fun os started H enc _ => lifted os started H enc)

/-- ████ THE STATEMENT ████ -/
theorem proved : Rows.TombDownSaid := over
#print axioms proved
end Go.Proofs.Ytpopoihggomfiaa.tombDown
