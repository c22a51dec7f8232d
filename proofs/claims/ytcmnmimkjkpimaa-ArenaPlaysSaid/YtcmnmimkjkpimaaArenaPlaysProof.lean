/- For every input the Go function ArenaPlays of package ctrielaw05 returns true, and each argument reads afterwards as it read before. Conditions: none but those that every row of the form bears by itself. The frame follows the guide's proof-skeleton; the walk is ours. -/
import Derived.Test.YtcmnmimkjkpimaaRows
import Derived.WalkKit
import Derived.ProofKit
import Derived.OpenShut
import Derived.ShutString
import Derived.ChangeOld
import Derived.Below
import Derived.Test.YtcmnmimkjkpimaaFrame
import Derived.Test.YtcmnmimkjkpimaaArX2
import Derived.Lib.Hide
import Derived.Deep.RegionHeld3
import Derived.Deep.DeepCutAuto
namespace Go.Proofs.Ytcmnmimkjkpimaa.arenaPlays
open Go.Lib
open Go.ChangeShapes Go.WideShapes Go.ChangeAt Go.RowKit
open Go.ChangeMaps (open_string shut_string)
set_option linter.unusedVariables false

theorem own : ownKnob Try.prog.godebug = none := by kernel_rfl
theorem laidOut : laidOutB Try.prog = true := by kernel_rfl
open Go.Sort
set_option maxRecDepth 100000
attribute [local go_sem ↓] exec_load28 exec_store44 exec_load46
attribute [local go_sem] run_storeNode_new
/-- A raw node of an argument. -/
theorem fit_raw {w V : World} {qa qm : Nat} {s t : Sd} {n : Nd} (h : IsNode w n) (hb : RowKit.Below w.heap.size w V) (ha : ∀ k, Mu qa s k → w.heap.size ≤ k) (hm : ∀ k, Mu qm t k → w.heap.size ≤ k) (h1 : n.bs.length < 70) (h2 : n.ps.length < 20) : Fit V qa qm s t n := by
  have b1 : ∀ ad, 0 < n.bs.length → n.bA = some ad → ad.block < w.heap.size := fun ad hn e => by
    obtain ⟨a, e', hl, _⟩ := h.r hn
    rw [e] at e'; injection e' with e'; subst e'; exact hl
  have b2 : ∀ ad, 0 < n.ps.length → n.pA = some ad → ad.block < w.heap.size := fun ad hn e => by
    obtain ⟨a, e', hl, _⟩ := h.p hn
    rw [e] at e'; injection e' with e'; subst e'; exact hl
  exact ⟨⟨(h.r.below hb).more hb.size, (h.p.below hb).more hb.size, h.bm, by omega, by omega⟩, h.ba, h.pa,
    ⟨fun hn ad e k => by have := b1 ad hn e; have := ha _ k; omega, fun hn ad e k => by have := b2 ad hn e; have := ha _ k; omega⟩,
    ⟨fun hn ad e k => by have := b1 ad hn e; have := hm _ k; omega, fun hn ad e k => by have := b2 ad hn e; have := hm _ k; omega⟩⟩
theorem al_sK {qa : Nat} {s : Sd} {x : Int} {w : World} (ho : Ob w 0 77 qa s x) (h1 : s.ns.length < 1000) (h2 : s.cs.length < 1000) : Calls Try.prog 16 #[.pointer (some ⟨qa, 0, none⟩), .agg #[.int .i64 4, .int .i64 0, .int .i64 0, .int .u64 0, .slice none 0 0, .int .u64 0, .string ⟨#[]⟩, .int .u64 0, .slice none 0 0, .int .i64 0, .int .i64 0, .int .i64 0, .int .i64 0, .int .i64 0], .int .i64 0] w (AllocP 77 0 qa s x sK 0 w) :=
  aalloc_any 0 qa s x sK 0 w ho (nrd_sK w) (fun _ => rfl) (fun _ => rfl) h1 h2

/-! ### STEP 1: THE WALK -/
set_option maxRecDepth 100000 in
set_option maxHeartbeats 16000000 in
theorem walk (a0 : Option Addr) (len0 cap0 : Nat) (a1 : Option Addr) (len1 cap1 : Nat) (a2 : Bool) (w : World) (w0 : IsInts w a0 len0) (w1 : IsSteps w a1 len1) (w2 : True) :
    Calls Try.prog 3 #[.slice a0 len0 cap0, .slice a1 len1 cap1, .bool a2] w fun e w' => e = .returned (.bool true) ∧ Below w.heap.size w w' := by
  have mixed := mixedOrders
  have NW := Lib.hid (new_c a0 len0 cap0 w w0.1 w0.2)
  have W1 := Lib.hid w1
  clear w0 w1 w2
  go_enter Try.func3, Try.ntmps3
  go_upto_region 5 with (first
    | (go_at_call 8; refine NW.out.mono ?_; rintro e u1 ⟨rfl, hT, hb⟩; have B1 := Lib.hid hb; have MM := Lib.hid (mem_t w.heap.size u1 hT); have TL := Lib.hid hT.lt; clear hT hb)
    | (go_at_call 9; refine MM.out.mono ?_; rintro e u2 ⟨qm, sm, rfl, hob, hgs, hn9, hc9, hg, hT⟩; have B2 := Lib.hid (B1.out.trans (below_of_grown (B := w.heap.size) hg (Nat.le_refl _) B1.out.size)); have OM := Lib.hid hob; have GS2 := Lib.hid hgs; have L2 := Lib.hid (⟨hn9, hc9⟩ : _ ∧ _); have BS1 := Lib.hid B1.out.size; have OF := Lib.hid (show Calls Try.prog 10 #[.agg #[.slice sm.nA sm.ns.length sm.nc, .slice sm.cA sm.cs.length sm.cc, .int .i64 sm.gen]] u2 _ from of_f sm u2.heap.size u2 hob.srd (Nat.le_refl _) hgs.proper); have d0 := block_cell hob.blk (i := 0) (v := .slice sm.nA sm.ns.length sm.nc) rfl; have d1 := block_cell hob.blk (i := 1) (v := .slice sm.cA sm.cs.length sm.cc) rfl; have d2 := block_cell hob.blk (i := 2) (v := .int .i64 sm.gen) rfl; clear hob hgs hn9 hc9 hg hT)
    | (go_at_call 10; refine OF.out.mono ?_; rintro e u3 ⟨qa0, sa, rfl, hsl, hcs, hgn, hob, hfr, hb⟩; have B3 := Lib.hid (B2.out.trans (hb.mono B2.out.size)); have TW0 := Lib.hid (two_of OM.out hb hob hfr hsl hcs hgn); have K3 := Lib.hid (⟨hsl.1, hcs, hgn⟩ : _ ∧ _ ∧ _); have MA := Lib.hid (fun k (hk : Mu qa0 sa k) => (hob.mu_lt hk).1); clear hob hfr hsl hcs hgn hb))
  have L1 := Lib.hid (show 2 ≤ sm.ns.length by
    obtain ⟨y, hy, _⟩ := GS2.out.m1
    have := (List.getElem?_eq_some_iff.1 hy).1
    omega)
  have NUM := Lib.hid (⟨by rw [← K3.out.1]; exact L1.out, by rw [← K3.out.1]; have := L2.out.1; omega, by rw [K3.out.2.1]; have := L2.out.2; omega, by rw [K3.out.2.2, GS2.out.gen]; omega, by rw [K3.out.2.2, GS2.out.gen]; omega⟩ : 2 ≤ sa.ns.length ∧ sa.ns.length ≤ 9 + 0 ∧ sa.cs.length ≤ 9 + 0 ∧ 0 ≤ sa.gen ∧ sa.gen ≤ 3 + ((0 : Nat) : Int))
  have MUS := Lib.hid (⟨fun k hk => by have := MA.out k hk; have := B2.out.size; omega, fun k hk => by have := (OM.out.mu_lt hk).1; have := BS1.out; omega⟩ : (∀ k, Mu qa0 sa k → w.heap.size ≤ k) ∧ (∀ k, Mu qm sm k → w.heap.size ≤ k))
  clear NW MM OF d0 d1 d2 B1 B2 OM GS2 L2 L1 K3 MA TL BS1
  go_wp2_with fail
  go_loopg [8, 10] 25 (fun kx s8 s10 wr => ∃ (i qa : Nat) (s t : Sd) (x : Int), s8 = .pointer (some ⟨qa, 0, none⟩) ∧ s10 = .int .i64 i ∧ i ≤ 25 ∧ 25 - i ≤ kx ∧ Aside (Two wr qa qm s t x x) ∧ Aside (2 ≤ s.ns.length ∧ s.ns.length ≤ 9 + i ∧ s.cs.length ≤ 9 + i ∧ 0 ≤ s.gen ∧ s.gen ≤ 3 + (i : Int) ∧ 0 ≤ x ∧ x ≤ (i : Int)) ∧ Aside ((∀ k, Mu qa s k → w.heap.size ≤ k) ∧ (∀ k, Mu qm t k → w.heap.size ≤ k) ∧ RowKit.Below w.heap.size w wr))
  case atStart => exact ⟨0, qa0, sa, sm, 0, rfl, rfl, by omega, by omega, TW0.out, (⟨NUM.out.1, NUM.out.2.1, NUM.out.2.2.1, NUM.out.2.2.2.1, NUM.out.2.2.2.2, Int.le_refl 0, Int.le_refl 0⟩ : _ ∧ _ ∧ _ ∧ _ ∧ _ ∧ _ ∧ _), (⟨MUS.out.1, MUS.out.2, B3.out⟩ : _ ∧ _ ∧ _)⟩
  case round =>
    obtain ⟨i, qa, s, t, x, rfl, rfl, hi, hkx, T0, NB, MB⟩ := hrel
    clear TW0 NUM MUS B3
    obtain ⟨wo, hwo⟩ : ∃ X, X = wr := ⟨_, rfl⟩
    simp only [← hwo] at T0 MB ⊢
    clear hwo
    by_cases hcond : i < len1 ∧ i < 25
    · obtain ⟨h1, h2⟩ := hcond
      have h1z : (i : Int) < (len1 : Int) := by omega
      have h2z : (i : Int) < 25 := by omega
      have hi0 : (0 : Int) ≤ (i : Int) := by omega
      obtain ⟨ad, st, ea, hcell, hints, hnode⟩ := W1.out.2 i h1
      subst ea
      have LDS := Lib.hid (show ∀ X, RowKit.Below w.heap.size w X → Sem.run Try.prog (loadStep (.pointer (some (ad.add (i * 19))))) X = .ok (.agg st.cs) X from fun X hX => run_loadStep fun jj hjj => by
        have hc := hcell jj hjj
        have hb : ((ad.add (i * 19)).add jj).block < w.heap.size := by
          cases hv : st.cs[jj]? with
          | none =>
            have hsz : st.cs.size = 19 := rfl
            rw [Array.getElem?_eq_getElem (by rw [hsz]; exact hjj)] at hv; cases hv
          | some v => rw [hv] at hc; exact block_of_cell' hc
        exact (hX.cell hb).trans hc)
      have C0 := Lib.hid (show ∀ X, RowKit.Below w.heap.size w X → X.cell? (ad.add (i * 19)) = some (.int .i64 st.kd) from fun X hX => by
        have hc := hcell 0 (by omega)
        rw [add_zero_] at hc
        have hc' : w.cell? (ad.add (i * 19)) = some (.int .i64 st.kd) := hc
        exact (hX.cell (block_of_cell' hc')).trans hc')
      have HCH := Lib.hid (show ∀ X, RowKit.Below w.heap.size w X → ∀ jj, jj < st.cl → ∃ ad z, st.cA = some ad ∧ ad.block < X.heap.size ∧ X.cell? (ad.add jj) = some (.int .i64 z) from fun X hX jj hjj => by
        obtain ⟨ad2, zz, e2, hc2⟩ := hints.2 jj hjj
        have hb := block_of_cell' hc2
        have hb' := hb
        rw [block_add] at hb'
        exact ⟨ad2, zz, e2, Nat.lt_of_lt_of_le hb' hX.size, (hX.cell hb).trans hc2⟩)
      have HCL := Lib.hid hints.1
      have RAW := Lib.hid hnode
      clear hcell hints hnode
      obtain ⟨z, hz8, mz⟩ := mod_any st.kd 8 (by omega) (by omega)
      have MZ := Lib.hid mz
      clear mz
      have c0 := C0.out wo MB.out.2.2
      go_upto_if 45 with (go_at_call 11; refine (MZ.out _).mono ?_; rintro e w' ⟨rfl, rfl⟩)
      clear c0
      go_cut [8] (fun s8 wx => ∃ (q' : Nat) (s' : Sd) (x' : Int), s8 = .pointer (some ⟨q', 0, none⟩) ∧ Aside (Two wx q' qm s' t x' x') ∧ Aside (s'.ns.length = s.ns.length ∧ s'.cs.length = s.cs.length ∧ s'.gen = s.gen ∧ 0 ≤ x' ∧ x' ≤ (i : Int)) ∧ Aside ((∀ k, Mu q' s' k → w.heap.size ≤ k) ∧ RowKit.Below w.heap.size w wx))
      case first =>
        by_cases h7 : z = 7
        · subst h7
          have CP := Lib.hid (copy_f 0 qa s x wo T0.out.a)
          have nb := NB.out
          go_wp2_with (first
            | (go_at_call 16; refine AL.out.mono ?_; rintro e w7 ⟨s7, rfl, hA, ho, hf, hm⟩; have F7 := Lib.hid (F6.out.trans hf (fun i h => Or.inl (mu_gen (mu_cas h)))); clear hA ho hf hm)
            | (go_at_call 14; refine CS.out.mono ?_; rintro e w6 ⟨rfl, ho, hf⟩; have F6 := Lib.hid (F5.out.trans hf (fun i h => Or.inl (mu_gen h))); have AL := Lib.hid (al_sK ho (by rw [(casS_ns _ _ _ _).1]; show s.ns.length < 1000; omega) (by have h9 := (went_cas (s := s.withGen (s.gen + 1)) (x := 0) (y := 0) (c := 1) (old := cellV (s.withGen (s.gen + 1)) 1) (new := 2)).cs; have h8 : (s.withGen (s.gen + 1)).cs.length = s.cs.length := rfl; omega)); clear ho hf)
            | (go_at_call 15; refine LD.out.mono ?_; rintro e w5 ⟨rfl, ho, hf⟩; have F5 := Lib.hid (F4.out.trans hf (fun i e => Or.inl (Or.inl e))); have CS := Lib.hid (cas_any 0 qa (s.withGen (s.gen + 1)) (x + 1) 1 (cellV (s.withGen (s.gen + 1)) 1) 2 w5 ho (by omega)); clear ho hf)
            | (go_at_call 13; refine NG.out.mono ?_; rintro e w4 ⟨rfl, ho, hf⟩; have F4 := Lib.hid (hf.mono (fun k _ e => Or.inl e) : Fr (Mu qa s) _ w4); have LD := Lib.hid (load_any 0 qa (s.withGen (s.gen + 1)) x 1 w4 ho (by omega)); clear ho hf)
            | (go_at_call 12; refine CP.out.mono ?_; rintro e w2 ⟨q', s', rfl, hl, hc, hg, hn, hf, hb⟩; have K := Lib.hid (kind7 T0.out hb hn hf hl hc hg); have D := Lib.hid (⟨hl.1, hc, hg, hb⟩ : _ ∧ _ ∧ _ ∧ _); have c3 := block_cell (T0.out.m.up hb).blk (i := 3) (v := .int .i64 x) rfl; have f3 := block_frozen (T0.out.m.up hb).blk 3; have NG := Lib.hid (newgen_any 0 qa s x _ K.out.1.a (by omega)); clear hl hc hg hn hf hb))
          go_meet
          have B7 := (MB.out.2.2.trans (D.out.2.2.2.mono MB.out.2.2.size)).setCell (p := ⟨qm, 3, none⟩) (MB.out.2.1 qm (Or.inl rfl)) (.int .i64 0)
          exact ⟨q', s', 0, rfl, K.out.2.2 w7 F7.out, (⟨D.out.1.symm, by rw [D.out.2.1], D.out.2.2.1, Int.le_refl 0, by omega⟩ : _ ∧ _ ∧ _ ∧ _ ∧ _), (⟨fun k hk => by have := K.out.2.1 k hk; have := MB.out.2.2.size; omega, B7.trans (F7.out.below (by have := B7.size; exact this) MB.out.1)⟩ : _ ∧ _)⟩
        · have h7z : ¬ (z : Int) = 7 := by omega
          go_wp2_with fail
          go_meet
          exact ⟨qa, s, x, rfl, T0.out, (⟨rfl, rfl, rfl, NB.out.2.2.2.2.2.1, NB.out.2.2.2.2.2.2⟩ : _ ∧ _ ∧ _ ∧ _ ∧ _), (⟨MB.out.1, MB.out.2.2⟩ : _ ∧ _)⟩
      case rest =>
        obtain ⟨q', s', x', rfl, T1, N1, M1⟩ := hcut
        obtain ⟨w1, hw1⟩ : ∃ X, X = wc := ⟨_, rfl⟩
        simp only [← hw1] at T1 M1 ⊢
        clear hw1 T0 MZ
        have lds := LDS.out w1 M1.out.2
        have nb := NB.out
        have n1 := N1.out
        have APC := Lib.hid (apply_any2 a2 q' qm s' t x' x' st w1 T1.out ⟨n1.2.2.2.1, by omega⟩ ⟨n1.2.2.2.1, by omega⟩ (by rw [← T1.out.gen]; omega) (by rw [T1.out.ns.1]; omega) (by rw [T1.out.ns.1]; omega) (by rw [← T1.out.cs]; omega) (fun _ g1 g2 => fit_raw RAW.out M1.out.2 M1.out.1 MB.out.2.1 g1 g2) HCL.out (HCH.out w1 M1.out.2))
        clear nb n1
        go_upto_region 17 with (fail)
        go_cut [77] (fun s77 wx => s77 = .bool false ∧ ∃ (s2 t2 : Sd) (x2 : Int), Aside (Two wx q' qm s2 t2 x2 x2) ∧ Aside (s'.ns.length ≤ s2.ns.length ∧ s2.ns.length ≤ s'.ns.length + 1 ∧ s2.cs.length ≤ s'.cs.length + 1 ∧ s'.gen ≤ s2.gen ∧ s2.gen ≤ s'.gen + 1 ∧ x' ≤ x2 ∧ x2 ≤ x' + 1) ∧ Aside ((∀ k, Mu q' s2 k → w.heap.size ≤ k) ∧ (∀ k, Mu qm t2 k → w.heap.size ≤ k) ∧ RowKit.Below w.heap.size w wx))
        case first =>
          go_wp2_with (first
            | (go_at_call 18; refine SM.out.mono ?_; rintro e v3 ⟨rfl, hb⟩; have S3 := Lib.hid hb; clear hb)
            | (go_at_call 17; refine APC.out.mono ?_; rintro e v2 ⟨rfl, s2, t2, x2, y2, hApp⟩; have EY := Lib.hid (show y2 = x2 by have := hApp.went.acc; omega); have HA := Lib.hid (show App w1 v2 q' qm s' t s2 t2 x' x' x2 x2 by have h := hApp; rw [EY.out] at h; exact h); have SM := Lib.hid (lsame_any 0 0 q' qm s2 t2 x2 v2 HA.out.two.a HA.out.two.m (Nat.zero_le _) HA.out.two.ns HA.out.two.cs HA.out.two.gen); clear hApp))
          go_meet
          have hw := HA.out.went
          have B2 : RowKit.Below w.heap.size w v2 := M1.out.2.trans (HA.out.fr.below M1.out.2.size (fun k hk => hk.elim (M1.out.1 k) (MB.out.2.1 k)))
          exact ⟨rfl, s2, t2, x2, HA.out.two.below S3.out, (⟨hw.len.1, hw.len.2, hw.cs, hw.gen.1, hw.gen.2, hw.acc.1, hw.acc.2.1⟩ : _ ∧ _ ∧ _ ∧ _ ∧ _ ∧ _ ∧ _), (⟨fun k hk => (HA.out.mua k hk).elim (M1.out.1 k) (fun h => by have := M1.out.2.size; omega), fun k hk => (HA.out.mum k hk).elim (MB.out.2.1 k) (fun h => by have := M1.out.2.size; omega), B2.trans (S3.out.mono B2.size)⟩ : _ ∧ _ ∧ _)⟩
        case rest =>
          obtain ⟨rfl, s2, t2, x2, T2, N2, M2⟩ := hcut
          have nb := NB.out
          have n1 := N1.out
          have n2 := N2.out
          have hwz : IntKind.i64.wrap ((i : Int) + 1) = (i : Int) + 1 := by rw [IntKind.wrap_i64]; omega
          have NN := Lib.hid (⟨by omega, by omega, by omega, by omega, by push_cast; omega, by omega, by push_cast; omega⟩ : 2 ≤ s2.ns.length ∧ s2.ns.length ≤ 9 + (i + 1) ∧ s2.cs.length ≤ 9 + (i + 1) ∧ 0 ≤ s2.gen ∧ s2.gen ≤ 3 + ((i + 1 : Nat) : Int) ∧ 0 ≤ x2 ∧ x2 ≤ ((i + 1 : Nat) : Int))
          clear nb n1 n2
          go_wp2_with fail
          go_roundg (25 - (i + 1))
          case measure => omega
          case rel => exact ⟨i + 1, q', s2, t2, x2, rfl, by go_num, by omega, by omega, T2.out, NN.out, M2.out⟩
    · have SM := Lib.hid (lsame_any 0 0 qa qm s t x wo T0.out.a T0.out.m (Nat.zero_le _) T0.out.ns T0.out.cs T0.out.gen)
      have AW := Lib.hid (fun X => awake_any X)
      have hh : (¬ i < len1) ∨ (i < len1 ∧ ¬ i < 25) := by
        by_cases h1 : i < len1
        · exact .inr ⟨h1, fun h2 => hcond ⟨h1, h2⟩⟩
        · exact .inl h1
      clear hcond
      rcases hh with h1 | ⟨h1, h2⟩
      · have h1z : ¬ (i : Int) < (len1 : Int) := by omega
        go_wp2_with (first
          | (go_at_call 18; refine SM.out.mono ?_; rintro e v3 ⟨rfl, hb⟩; have S3 := Lib.hid hb; clear hb)
          | (go_at_call 19; refine (AW.out _).mono ?_; rintro e v4 ⟨rfl, hb⟩; have S4 := Lib.hid hb; clear hb))
        go_ret
        exact ⟨rfl, (MB.out.2.2.trans (S3.out.mono MB.out.2.2.size)).trans (S4.out.mono (Nat.le_trans MB.out.2.2.size S3.out.size))⟩
      · have h1z : (i : Int) < (len1 : Int) := by omega
        have h2z : ¬ (i : Int) < 25 := by omega
        go_wp2_with (first
          | (go_at_call 18; refine SM.out.mono ?_; rintro e v3 ⟨rfl, hb⟩; have S3 := Lib.hid hb; clear hb)
          | (go_at_call 19; refine (AW.out _).mono ?_; rintro e v4 ⟨rfl, hb⟩; have S4 := Lib.hid hb; clear hb))
        go_ret
        exact ⟨rfl, (MB.out.2.2.trans (S3.out.mono MB.out.2.2.size)).trans (S4.out.mono (Nat.le_trans MB.out.2.2.size S3.out.size))⟩

/-! ### THE ROW's STEP -/
set_option maxRecDepth 100000 in
theorem lifted (os : Os) (started : os.Started) (H : Type) (enc : TypeId × Value → H) :
    ReturnsInHanded {} Try.checked os 3 .any (Rows.arenaPlaysSpec.pre6 enc Try.prog Try.f3 Rows.arenaPlaysRow.domain false) (Rows.arenaPlaysSpec.post enc Try.prog Try.f3 false true false false) := by
  refine returnsInHanded_of_change (C := Try.checked) own started (by kernel_rfl) Try.func3
    (ChangeSpec.witness6 (enc := enc) (C := Try.checked) false ⟨#[], #[.slice none 0 0, .slice none 0 0, .bool false], []⟩ 8 (by kernel_rfl) (by kernel_rfl) (by kernel_rfl) (by kernel_rfl)) ?_
  intro W base args ds gs before hval0 hW hcnd _
  have hval : ∀ (j : Nat) t v, Try.f3.params[j]? = some t → args[j]? = some v → Value.okWide Try.prog W .any base t v := hval0
  have hW' := hW
  obtain ⟨p, q, hA0, hV, rfl, hfz, hnd⟩ := hW
  have hA : DataW.TrodAll enc Try.prog W 0 (fun _ => true) true Try.f3.params.toList args.toList ds p := hA0
  rw [Try.params3] at hA hval
  obtain ⟨v0, vs0, d0, ds0, p0, q0, hargs, rfl, rfl, h0, r0⟩ := trodAll_cons hA
  obtain ⟨v1, vs1, d1, ds1, p1, q1, rfl, rfl, rfl, h1, r1⟩ := trodAll_cons r0
  obtain ⟨v2, vs2, d2, ds2, p2, q2, rfl, rfl, rfl, h2, r2⟩ := trodAll_cons r1
  obtain ⟨rfl, rfl, rfl⟩ := trodAll_nil r2
  obtain rfl : args = #[v0, v1, v2] := by cases args; simp_all
  obtain ⟨rfl, rfl⟩ := trodVars_none hV
  obtain ⟨a0, len0, cap0, rfl⟩ := okWide_slice Try.underlying22 (hval 0 22 v0 rfl rfl)
  have k0 := h0
  have lt0 : ∀ x ∈ p0, x.block < W.heap.size := by obtain ⟨m, hm⟩ := k0; exact DataW.trod_lt m _ _ _ hm
  have w0 := open_intsT h0
  obtain ⟨a1, len1, cap1, rfl⟩ := okWide_slice Try.underlying23 (hval 1 23 v1 rfl rfl)
  have k1 := h1
  have lt1 : ∀ x ∈ p1, x.block < W.heap.size := by obtain ⟨m, hm⟩ := k1; exact DataW.trod_lt m _ _ _ hm
  have w1 := open_steps h1
  obtain ⟨a2, rfl, rfl, rfl⟩ := open_bool Try.underlying4 (hval 2 4 v2 rfl rfl) h2
  clear hA0 hval0
  refine (walk a0 len0 cap0 a1 len1 cap1 a2 W w0 w1 trivial).mono fun e W' ⟨he, bel⟩ => ?_
  subst he
  exact ⟨_, rfl, _, _, _, [], _, [], hW', trodAll_mk1 (shut_bool Try.underlying4 _), (trodAll_cons_mk (Below.trod laidOut (by kernel_rfl) (of_decide_eq_true (by kernel_rfl)) k0 bel lt0) (trodAll_cons_mk (Below.trod laidOut (by kernel_rfl) (of_decide_eq_true (by kernel_rfl)) k1 bel lt1) (trodAll_cons_mk (shut_bool Try.underlying4 _) trodAll_mk0))), rfl, bel.frame _, fun h => by cases h⟩

theorem over : Rows.arenaPlaysRow.holds Try.pinned (OpenSpec.ofChange Rows.arenaPlaysSpec) :=
  OpenClaim.holds_of_wide 3 Try.f3 rfl rfl rfl rfl rfl rfl rfl ⟨rfl, rfl, rfl, rfl, rfl⟩ rfl rfl rfl rfl rfl (by kernel_rfl) Try.func3 (by kernel_rfl)
    (of_decide_eq_true (by kernel_rfl)) (by unfold Func.isWrapper; first | (rw [if_pos (by decide +kernel)]; kernel_rfl) | (rw [if_neg (by decide +kernel)]; exact ⟨rfl, rfl⟩))
    (fun os started H enc _ => lifted os started H enc)

/-- ████ THE STATEMENT ████ -/
theorem proved : Rows.ArenaPlaysSaid := over
#print axioms proved
end Go.Proofs.Ytcmnmimkjkpimaa.arenaPlays
