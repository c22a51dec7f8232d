/-
  The reference: the walk of Nodes.
-/
import Derived.Test.YtkenhghaiedhnaaDuI
import Derived.Test.YtkenhghaiedhnaaDuG
import Derived.Deep.DeepCutAuto
import Derived.Deep.RegionHeld3
set_option linter.unusedVariables false
set_option maxRecDepth 100000
namespace Go.Proofs.Ytkenhghaiedhnaa
open Go.Shelf Go.RowKit Go.Lib Go.Sort
theorem Own.blk {w : World} {base : Nat} {A : Option Addr} {n c : Nat} {xs : List Pr} (h : Own w base (.slice A n c) xs) : ∀ ad, A = some ad → base ≤ ad.block ∧ ad.block < w.heap.size := fun ad e => by
  rcases h.2 with ⟨hv, _⟩ | ⟨g, cap, cur, hv, hb, hg, _⟩
  · injection hv with e1; rw [e] at e1; cases e1
  · injection hv with e1; rw [e] at e1; injection e1 with e1; subst e1; exact ⟨hb, (Array.getElem?_eq_some_iff.1 hg).1⟩
theorem nok_base {w3 wr : World} {M : Nat → Prop} {x : Nd} (hr : NRd wr wr.heap.size x) (ba : x.bA = none → x.bc = 0) (pa : x.pA = none → x.pc = 0) (h1 : ∀ ad, x.bA = some ad → ad.block < w3.heap.size) (h2 : ∀ ad, x.pA = some ad → ad.block < w3.heap.size) (hM : ∀ k, M k → w3.heap.size ≤ k) (hs : w3.heap.size ≤ wr.heap.size) : NOk wr M x :=
  ⟨hr, ba, pa, fun ad e hm => by have := hM _ hm; have := h1 ad e; omega, fun ad e hm => by have := hM _ hm; have := h2 ad e; omega, fun ad e => Nat.lt_of_lt_of_le (h1 ad e) hs, fun ad e => Nat.lt_of_lt_of_le (h2 ad e) hs⟩
/-- Both lists as far as m levels above the lowest. -/
def NLs (w wr : World) (v1 v2 : Value) (l : List (Nd × Int)) : Prop := ∃ ns, NL w wr v1 v2 ns (l.map (·.2)) ∧ SameL (l.map (·.1)) ns
theorem sameL_cons {a b : Nd} {xs ys : List Nd} (h : sameN a b) (k : SameL xs ys) : SameL (a :: xs) (b :: ys) := by
  refine ⟨by simp [k.1], fun i x y hx hy => ?_⟩
  cases i with
  | zero => simp at hx hy; subst hx hy; exact h
  | succ i => simp at hx hy; exact k.2 i x y hx hy
theorem rdR_one {w : World} {g : Nat} {a : Int} (h : w.heap[g]? = some (.cells #[.int .i64 a] 26 (0, 0))) : RdR w w.heap.size (some ⟨g, 0, none⟩) [a] := fun _ =>
  ⟨⟨g, 0, none⟩, rfl, (Array.getElem?_eq_some_iff.1 h).1, fun j u hj => by
    rw [Addr.add_lit, Nat.zero_add, cell_of_row w g j _ 26 (0, 0) h]
    simpa [flatR] using hj⟩
theorem dual_last {n : Nd} {x K : Int} {key : ByteArray} {val gen f : Int} {c : Nat} (h : c = 11) : dualL (duOf n x K key val gen c) f 0 = [(listN K (ofL [(n.key, n.val), (key, val)]), 0)] := by
  show (if c = 11 then _ else _) = _
  rw [if_pos h]
  rfl
theorem dual_low {n : Nd} {x K : Int} {key : ByteArray} {val gen f : Int} {c : Nat} (h : ¬ c = 11) : dualL (duOf n x K key val gen c) f 0 = [(singN K key val, 0), (cndN (withI (withI 0 (sl n.hash c)) (sl K c)) (if sl K c < sl n.hash c then [f, x] else [x, f]), 0)] := by
  show (if c = 11 then _ else _) = _
  rw [if_neg h]
  rfl
theorem dual_up {n : Nd} {x K : Int} {key : ByteArray} {val gen f : Int} {c : Nat} (m : Nat) : dualL (duOf n x K key val gen c) f (m + 1) = dualL (duOf n x K key val gen c) f m ++ [(innN gen, f - 1 + ((dualL (duOf n x K key val gen c) f m).length : Int)), (cndN (withI 0 (sl K (c - (m + 1)))) [f + ((dualL (duOf n x K key val gen c) f m).length : Int)], 0)] := rfl
section
attribute [local go_sem ↓] exec_load28 exec_store44 exec_build1 exec_build2
def NodesP (l : List (Nd × Int)) (w : World) (e : Ending) (w' : World) : Prop := ∃ v1 v2, e = .returned (.tuple #[v1, v2]) ∧ NLs w w' v1 v2 l
set_option maxHeartbeats 8000000 in
theorem nodes_any (n : Nd) (x K : Int) (key : ByteArray) (val gen f : Int) (level c : Nat) (w : World) (hH : U64 n.hash) (hK : U64 K) (hC : IsCom n.hash K c) (hlc : level ≤ c) (hf : 1 ≤ f ∧ f ≤ 100000) :
    Calls Try.prog 26 #[.agg n.cs, .int .i64 x, .int .u64 K, .string key, .int .u64 val, .int .i64 level, .int .i64 gen, .int .i64 f] w (NodesP (dualL (duOf n x K key val gen c) f (c - level)) w) := by
  have mixed := mixedOrders
  obtain ⟨W, hW⟩ : ∃ W, W = w.alloc (.cells n.cs 52) := ⟨_, rfl⟩
  have BW := Lib.hid (show Below w.heap.size w W by rw [hW]; exact (Below.refl _ w).alloc (Nat.le_refl _) _)
  have HB := Lib.hid (show W.heap[w.heap.size]? = some (.cells n.cs 52 (0, 0)) by rw [hW]; exact heap_alloc_new w _)
  have HW := Lib.hid hW.symm
  have HCOM := Lib.hid (fun V => rcommon_any n.hash K c hH hK hC V)
  have c5 := node_cellA HB.out (i := 5) (v := .int .u64 n.hash) rfl
  have c6 := node_cellA HB.out (i := 6) (v := .string n.key) rfl
  have c7 := node_cellA HB.out (i := 7) (v := .int .u64 n.val) rfl
  clear hW
  go_enter Try.func26, Try.ntmps26
  go_upto_region 1 with (fail)
  rw [HW.out]
  clear HW
  go_upto_if 28 with (go_at_call 18; refine (HCOM.out _).mono ?_; rintro e w2 ⟨rfl, rfl⟩)
  go_cut [16, 17, 18] (fun s16 s17 s18 wx => s18 = .int .i64 c ∧ Aside (NLs w wx s16 s17 (dualL (duOf n x K key val gen c) f 0)))
  case first =>
    by_cases h11 : c = 11
    · subst h11
      have PO := Lib.hid (show Calls Try.prog 43 #[.slice (some ⟨W.heap.size, 0, none⟩) 2 2] (W.alloc (.cells #[.string n.key, .int .u64 n.val, .string key, .int .u64 val] 89)) (OfPost [(n.key, n.val), (key, val)] (W.alloc (.cells #[.string n.key, .int .u64 n.val, .string key, .int .u64 val] 89))) from
        refOf_any (some ⟨W.heap.size, 0, none⟩) 2 [(n.key, n.val), (key, val)] _ (lit_rd W [(n.key, n.val), (key, val)]) (by simp))
      have rb := fun X A c ys => run_build1 { Nd.zero with kind := 6, hash := K, pA := A, pc := c, ps := ys } X
      have ELIT := Lib.hid (fun A c (ys : List Pr) => show Nd.cs { Nd.zero with kind := 6, hash := K, pA := A, pc := c, ps := ys } = #[.int .i64 6, .int .i64 0, .int .i64 0, .int .u64 0, .slice none 0 0, .int .u64 K, .string ⟨#[]⟩, .int .u64 0, .slice A ys.length c, .int .i64 0, .int .i64 0, .int .i64 0, .int .i64 0, .int .i64 0] from rfl)
      simp only [ELIT.out] at rb
      go_wp2_with (go_at_call 43; refine PO.out.mono ?_; rintro e w3 ⟨ys, hof, v, rfl, ho, hb⟩; obtain ⟨A3, c3, rfl, hr, ha, hcc⟩ := ho.open2; have O3 := Lib.hid ho; have P3 := Lib.hid (⟨hr, ha, hcc⟩ : _ ∧ _ ∧ _); have EL := Lib.hid (ofL_eq hof); have EL2 := Lib.hid hof.2.2; have B3 := Lib.hid (below_of (BW.out.alloc BW.out.size _) hb); clear hof ho hr ha hcc hb)
      have HD := Lib.hid (show dualL (duOf n x K key val gen 11) f 0 = [(listN K (ofL [(n.key, n.val), (key, val)]), 0)] from dual_last rfl)
      obtain ⟨m, hm⟩ : ∃ m : Nd, m = { Nd.zero with kind := 6, hash := K, pA := A3, pc := c3, ps := ys } := ⟨_, rfl⟩
      have EM := Lib.hid hm
      have BX := Lib.hid (show Below w3.heap.size w3 ((w3.alloc (.cells (rowOf [m.cs]) 52)).alloc (.cells #[.int .i64 0] 26)) from ((Below.refl _ w3).alloc (Nat.le_refl _) _).alloc (by simp) _)
      have X1 := Lib.hid (show ((w3.alloc (.cells (rowOf [m.cs]) 52)).alloc (.cells #[.int .i64 0] 26)).heap[w3.heap.size]? = some (.cells (rowOf [m.cs]) 52 (0, 0)) from (Below.heap_alloc _ _ _ (by simp)).trans (heap_alloc_new w3 _))
      have X2 := Lib.hid (show ((w3.alloc (.cells (rowOf [m.cs]) 52)).alloc (.cells #[.int .i64 0] 26)).heap[w3.heap.size + 1]? = some (.cells #[.int .i64 0] 26 (0, 0)) by
        have h := heap_alloc_new (w3.alloc (.cells (rowOf [m.cs]) 52)) (.cells #[.int .i64 0] 26)
        rw [show (w3.alloc (.cells (rowOf [m.cs]) 52)).heap.size = w3.heap.size + 1 by simp] at h
        exact h)
      have XE := Lib.hid (show (w3.alloc (.cells (rowOf [#[.int .i64 6, .int .i64 0, .int .i64 0, .int .u64 0, .slice none 0 0, .int .u64 K, .string ⟨#[]⟩, .int .u64 0, .slice A3 ys.length c3, .int .i64 0, .int .i64 0, .int .i64 0, .int .i64 0, .int .i64 0]]) 52)).alloc (.cells #[.int .i64 0] 26) = (w3.alloc (.cells (rowOf [m.cs]) 52)).alloc (.cells #[.int .i64 0] 26) by rw [hm]; rfl)
      clear hm
      rw [XE.out]
      clear XE
      generalize (w3.alloc (.cells (rowOf [m.cs]) 52)).alloc (.cells #[.int .i64 0] 26) = X at BX X1 X2 ⊢
      go_meet
      refine ⟨rfl, ⟨[m], ⟨ownN_row (ms := [m]) X1.out B3.out.size (by show 1 ≤ 1000; omega), ?_, fun y hy => ?_, ?_⟩, ?_⟩⟩
      · rw [HD.out]
        exact ownR_row (is := [0]) X2.out (Nat.le_trans B3.out.size (Nat.le_succ _)) (by show 1 ≤ 1000; omega)
      · obtain rfl : y = m := by simpa using hy
        have hpa : ∀ ad, y.pA = some ad → w3.heap.size > ad.block ∧ w.heap.size ≤ ad.block := fun ad e => by
          have e' : A3 = some ad := by rw [← e, EM.out]
          have := O3.out.blk ad e'
          have h2 : (W.alloc (.cells #[.string n.key, .int .u64 n.val, .string key, .int .u64 val] 89)).heap.size = W.heap.size + 1 := by simp
          have := BW.out.size
          omega
        have hba : ∀ ad, y.bA = some ad → False := fun ad e => by rw [EM.out] at e; cases e
        refine ⟨nok_base (w3 := w3) ?_ ?_ ?_ (fun ad e => (hba ad e).elim) (fun ad e => (hpa ad e).1) ?_ BX.out.size, ⟨fun ad e => (hba ad e).elim, fun ad e => (hpa ad e).2⟩⟩
        · rw [EM.out]
          exact ⟨RdR.nil, P3.out.1.up BX.out, u0, Nat.zero_le _, by have h := EL2.out; simp at h; show ys.length ≤ 1000; omega⟩
        · rw [EM.out]; exact fun _ => rfl
        · rw [EM.out]; exact P3.out.2.1
        · intro k hk
          rcases hk with hk | hk
          · have hk' : some w3.heap.size = some k := hk
            injection hk' with hk'; omega
          · have hk' : some (w3.heap.size + 1) = some k := hk
            injection hk' with hk'; omega
      · exact below_of B3.out BX.out
      · rw [HD.out]
        refine sameL_cons ?_ SameL.nil_
        rw [EM.out, ← EL.out]
        exact ⟨none, 0, A3, c3, rfl⟩
    · have hlt : c < 11 := by have := hC.1; omega
      have HS1 := Lib.hid (fun V => rslice_in n.hash c hH hlt V)
      have HS2 := Lib.hid (fun V => rslice_in K c hK hlt V)
      have HDI := Lib.hid (show inr (sl n.hash c) = true from sl_inr _ _)
      have HD := Lib.hid (show dualL (duOf n x K key val gen c) f 0 = [(singN K key val, 0), (cndN (withI (withI 0 (sl n.hash c)) (sl K c)) (if sl K c < sl n.hash c then [f, x] else [x, f]), 0)] from dual_low h11)
      generalize sl n.hash c = i at HS1 HDI HD
      generalize sl K c = k at HS2 HD
      obtain ⟨L, hL⟩ : ∃ L, L = (if k < i then [f, x] else [x, f]) := ⟨_, rfl⟩
      rw [← hL] at HD
      obtain ⟨bm, hbm⟩ : ∃ bm, bm = withI (withI 0 i) k := ⟨_, rfl⟩
      rw [← hbm] at HD
      have LL := Lib.hid (show L.length = 2 by rw [hL]; split <;> rfl)
      have HP := Lib.hid (fun V => by have h := pair_any i x k f HDI.out V; rw [← hL, ← hbm] at h; exact h)
      clear hL hbm
      have d1 : decide ((11 : Int) ≤ (c : Int)) = false := decide_eq_false (by omega)
      have rb := fun X A c => run_build2 (singN K key val).cs (mkC bm A c L).cs (by simp [cs_size14]) X
      have ELIT := Lib.hid (show (singN K key val).cs = #[.int .i64 4, .int .i64 0, .int .i64 0, .int .u64 0, .slice none 0 0, .int .u64 K, .string key, .int .u64 val, .slice none 0 0, .int .i64 0, .int .i64 0, .int .i64 0, .int .i64 0, .int .i64 0] from rfl)
      rw [ELIT.out] at rb
      clear hC hH hK hlc hf h11
      go_wp2_with (first
        | (go_at_call 33; (with_reducible refine (HS1.out _).mono ?_); rintro e w2 ⟨rfl, rfl⟩)
        | (go_at_call 33; (with_reducible refine (HS2.out _).mono ?_); rintro e w2 ⟨rfl, rfl⟩)
        | (go_at_call 44; (with_reducible refine (HP.out _).mono ?_); rintro e w3 ⟨A3, c3, rfl, hg, hf, hb⟩; have G3 := Lib.hid hg; have F3 := Lib.hid hf; have B3 := Lib.hid (below_of BW.out hb); have S3 := Lib.hid hb.size; clear hg hf hb))
      obtain ⟨m, hm⟩ : ∃ m : Nd, m = mkC bm A3 c3 L := ⟨_, rfl⟩
      have EM := Lib.hid hm
      have FB := Lib.hid (show ∀ ad, A3 = some ad → ad.block < w3.heap.size from fun ad e => by
        obtain ⟨ad', e', hb', _⟩ := G3.out.rd.r (by show 0 < L.length; have := LL.out; omega)
        have e2 : A3 = some ad' := e'
        rw [e] at e2
        injection e2 with e2
        subst e2
        exact hb')
      have BX := Lib.hid (show Below w3.heap.size w3 ((w3.alloc (.cells (rowOf [(singN K key val).cs, m.cs]) 52)).alloc (.cells #[.int .i64 0, .int .i64 0] 26)) from ((Below.refl _ w3).alloc (Nat.le_refl _) _).alloc (by simp) _)
      have X1 := Lib.hid (show ((w3.alloc (.cells (rowOf [(singN K key val).cs, m.cs]) 52)).alloc (.cells #[.int .i64 0, .int .i64 0] 26)).heap[w3.heap.size]? = some (.cells (rowOf [(singN K key val).cs, m.cs]) 52 (0, 0)) from (Below.heap_alloc _ _ _ (by simp)).trans (heap_alloc_new w3 _))
      have X2 := Lib.hid (show ((w3.alloc (.cells (rowOf [(singN K key val).cs, m.cs]) 52)).alloc (.cells #[.int .i64 0, .int .i64 0] 26)).heap[w3.heap.size + 1]? = some (.cells #[.int .i64 0, .int .i64 0] 26 (0, 0)) by
        have h := heap_alloc_new (w3.alloc (.cells (rowOf [(singN K key val).cs, m.cs]) 52)) (.cells #[.int .i64 0, .int .i64 0] 26)
        rw [show (w3.alloc (.cells (rowOf [(singN K key val).cs, m.cs]) 52)).heap.size = w3.heap.size + 1 by simp] at h
        exact h)
      rw [← ELIT.out, ← EM.out]
      clear hm rb
      generalize (w3.alloc (.cells (rowOf [(singN K key val).cs, m.cs]) 52)).alloc (.cells #[.int .i64 0, .int .i64 0] 26) = X at BX X1 X2 ⊢
      go_meet
      refine ⟨rfl, ⟨[singN K key val, m], ⟨ownN_row (ms := [singN K key val, m]) X1.out B3.out.size (by show 2 ≤ 1000; omega), ?_, fun y hy => ?_, ?_⟩, ?_⟩⟩
      · rw [HD.out]
        exact ownR_row (is := [0, 0]) X2.out (Nat.le_trans B3.out.size (Nat.le_succ _)) (by show 2 ≤ 1000; omega)
      · have hM : ∀ k, Mv (.slice (some ⟨w3.heap.size, 0, none⟩) 2 2) (.slice (some ⟨w3.heap.size + 1, 0, none⟩) 2 2) k → w3.heap.size ≤ k := by
          intro k hk
          rcases hk with hk | hk
          · have hk' : some w3.heap.size = some k := hk
            injection hk' with hk'; omega
          · have hk' : some (w3.heap.size + 1) = some k := hk
            injection hk' with hk'; omega
        rcases List.mem_cons.1 hy with rfl | hy
        · exact ⟨nok_base (w3 := w3) ⟨RdR.nil, Rd.nil, u0, Nat.zero_le _, Nat.zero_le _⟩ (fun _ => rfl) (fun _ => rfl) (fun ad e => by cases e) (fun ad e => by cases e) hM BX.out.size, frs_none rfl rfl⟩
        · obtain rfl : y = m := by simpa using hy
          have hba : ∀ ad, y.bA = some ad → A3 = some ad := fun ad e => by rw [← e, EM.out]; rfl
          have hpa : ∀ ad, y.pA = some ad → False := fun ad e => by rw [EM.out] at e; cases e
          refine ⟨nok_base (w3 := w3) (by rw [EM.out]; exact (G3.out.up BX.out).rd) (by rw [EM.out]; exact G3.out.ba) (by rw [EM.out]; exact fun _ => rfl) (fun ad e => FB.out ad (hba ad e)) (fun ad e => (hpa ad e).elim) hM BX.out.size, ⟨fun ad e => by have := F3.out ad (hba ad e); have := BW.out.size; omega, fun ad e => (hpa ad e).elim⟩⟩
      · exact below_of B3.out BX.out
      · rw [HD.out]
        refine sameL_cons (sameN.refl _) (sameL_cons ?_ SameL.nil_)
        rw [EM.out]
        exact ⟨A3, c3, none, 0, rfl⟩
  case rest =>
    obtain ⟨rfl, hnl⟩ := hcut
    have N0 := Lib.hid hnl.out
    have HK := Lib.hid hK
    have HF := Lib.hid hf
    have HSL := Lib.hid (fun (j : Nat) (hj : j < 11) V => rslice_in K j hK hj V)
    have HC11 := Lib.hid hC.1
    have HLC := Lib.hid hlc
    clear hnl hH hK hC c5 c6 c7 HCOM hf
    go_upto_region 8 with (fail)
    have j0 : IntKind.i64.wrap ((c : Int) - 1) = (c : Int) - 1 := by have := HC11.out; rw [IntKind.wrap_i64]; omega
    go_wp2_with fail
    clear j0
    go_loopg [16, 17, 20, 21, 22] (c - level) (fun kx s16 s17 s20 s21 s22 wr => ∃ m : Nat, s20 = .int .i64 ((c : Int) - 1 - (m : Int)) ∧ m ≤ c - level ∧ c - level - m ≤ kx ∧ Aside (NLs w wr s16 s17 (dualL (duOf n x K key val gen c) f m)))
    case atStart => exact ⟨0, by go_num, Nat.zero_le _, Nat.le_refl _, N0.out⟩
    case round =>
      clear N0
      obtain ⟨m, rfl, hm, hkx, hN⟩ := hrel
      by_cases hlt : m < c - level
      · obtain ⟨j, hj⟩ : ∃ j : Nat, j = c - (m + 1) := ⟨_, rfl⟩
        have hj2 : (c : Int) - 1 - (m : Int) = (j : Int) := by omega
        rw [hj2]
        have hj3 : (level : Int) ≤ (j : Int) := by omega
        have hj4 : (j : Int) ≥ (level : Int) := hj3
        have CS := Lib.hid (HSL.out j (by have := HC11.out; omega))
        obtain ⟨ns, hnl, hsl⟩ := hN.out
        have DP := Lib.hid (dual_pos (duOf n x K key val gen c) f m)
        have DU := Lib.hid (dual_up (n := n) (x := x) (K := K) (key := key) (val := val) (gen := gen) (f := f) (c := c) m)
        rw [← hj] at DU
        obtain ⟨l, hl⟩ : ∃ l, l = dualL (duOf n x K key val gen c) f m := ⟨_, rfl⟩
        rw [← hl] at DU DP hnl hsl
        have NLn := Lib.hid (show l.length = ns.length by have := hsl.1; simpa using this)
        have HNL := Lib.hid hnl
        have HSM := Lib.hid hsl
        have HLB := Lib.hid (show ns.length ≤ 24 by have h1 := DP.out.2; have h2 := NLn.out; have h3 := HC11.out; omega)
        obtain ⟨A1, c1, rfl, _⟩ := hnl.n.open2
        have t1 : IntKind.i64.wrap (f + (ns.length : Int)) = f + (ns.length : Int) := by have := HLB.out; have := HF.out; rw [IntKind.wrap_i64]; omega
        have t2 : IntKind.i64.wrap (f + (ns.length : Int) - 1) = f + (ns.length : Int) - 1 := by have := HLB.out; have := HF.out; rw [IntKind.wrap_i64]; omega
        have t3 : IntKind.i64.wrap (f + (ns.length : Int) - 1 + 1) = f + (ns.length : Int) - 1 + 1 := by have := HLB.out; have := HF.out; rw [IntKind.wrap_i64]; omega
        have CW := Lib.hid (fun V => rwith_any 0 (sl K j) u0 V)
        obtain ⟨bm, hbm⟩ : ∃ bm, bm = withI 0 (sl K j) := ⟨_, rfl⟩
        have UB := Lib.hid (show U64 bm by rw [hbm]; exact with_u64 _ u0)
        rw [← hbm] at CW DU
        generalize sl K j = ix at CS CW
        have rb := fun X A => run_build2 (innN gen).cs (mkC bm A 1 [f + (ns.length : Int)]).cs (by simp [cs_size14]) X
        have E1 := Lib.hid (show (innN gen).cs = #[.int .i64 2, .int .i64 gen, .int .i64 0, .int .u64 0, .slice none 0 0, .int .u64 0, .string ⟨#[]⟩, .int .u64 0, .slice none 0 0, .int .i64 0, .int .i64 0, .int .i64 0, .int .i64 0, .int .i64 0] from rfl)
        have E2 := Lib.hid (fun A z => show (mkC bm A 1 [z]).cs = #[.int .i64 3, .int .i64 0, .int .i64 0, .int .u64 bm, .slice A 1 1, .int .u64 0, .string ⟨#[]⟩, .int .u64 0, .slice none 0 0, .int .i64 0, .int .i64 0, .int .i64 0, .int .i64 0, .int .i64 0] from rfl)
        rw [E1.out] at rb
        simp only [E2.out] at rb
        have HJ := Lib.hid (show (j : Int) - 1 = (c : Int) - 1 - ((m + 1 : Nat) : Int) ∧ (j : Int) ≤ 11 by have := HC11.out; constructor <;> omega)
        clear hnl hsl hbm hl hj hj2 hN
        go_upto_region 13 with (go_at_call 33; (with_reducible refine (CS.out _).mono ?_); rintro e w2 ⟨rfl, rfl⟩)
        obtain ⟨C, hC⟩ : ∃ C : Nd, C = mkC bm (some ⟨wr.heap.size, 0, none⟩) 1 [f + (ns.length : Int)] := ⟨_, rfl⟩
        obtain ⟨X2, hX2⟩ : ∃ X2, X2 = (wr.alloc (.cells #[.int .i64 (f + (ns.length : Int))] 26)).alloc (.cells (rowOf ([innN gen, C].map Nd.cs)) 52) := ⟨_, rfl⟩
        have BX := Lib.hid (show Below wr.heap.size wr X2 by rw [hX2]; exact ((Below.refl _ wr).alloc (Nat.le_refl _) _).alloc (by simp) _)
        have XA := Lib.hid (show X2.heap[wr.heap.size]? = some (.cells #[.int .i64 (f + (ns.length : Int))] 26 (0, 0)) by rw [hX2]; exact (Below.heap_alloc _ _ _ (by simp)).trans (heap_alloc_new wr _))
        have XB := Lib.hid (show X2.heap[wr.heap.size + 1]? = some (.cells (rowOf ([innN gen, C].map Nd.cs)) 52 (0, 0)) by
          rw [hX2]
          have h := heap_alloc_new (wr.alloc (.cells #[.int .i64 (f + (ns.length : Int))] 26)) (.cells (rowOf ([innN gen, C].map Nd.cs)) 52)
          rw [show (wr.alloc (.cells #[.int .i64 (f + (ns.length : Int))] 26)).heap.size = wr.heap.size + 1 by simp] at h
          exact h)
        have XS := Lib.hid (show X2.heap.size = wr.heap.size + 2 by rw [hX2]; simp)
        have rb2 : Sem.run Try.prog (buildVals [.agg #[.int .i64 2, .int .i64 gen, .int .i64 0, .int .u64 0, .slice none 0 0, .int .u64 0, .string ⟨#[]⟩, .int .u64 0, .slice none 0 0, .int .i64 0, .int .i64 0, .int .i64 0, .int .i64 0, .int .i64 0], .agg #[.int .i64 3, .int .i64 0, .int .i64 0, .int .u64 bm, .slice (some ⟨wr.heap.size, 0, none⟩) 1 1, .int .u64 0, .string ⟨#[]⟩, .int .u64 0, .slice none 0 0, .int .i64 0, .int .i64 0, .int .i64 0, .int .i64 0, .int .i64 0]]) (wr.alloc (.cells #[.int .i64 (f + (ns.length : Int))] 26)) = .ok (.slice (some ⟨wr.heap.size + 1, 0, none⟩) 2 2) X2 := by
          have h := run_build2 (innN gen).cs C.cs (by simp [cs_size14]) (wr.alloc (.cells #[.int .i64 (f + (ns.length : Int))] 26))
          rw [show (wr.alloc (.cells #[.int .i64 (f + (ns.length : Int))] 26)).heap.size = wr.heap.size + 1 by simp] at h
          rw [hX2, hC]
          rw [hC] at h
          exact h
        have EC := Lib.hid hC
        have N2 := Lib.hid (HNL.out.below BX.out)
        have HMS := Lib.hid (show ∀ y ∈ [innN gen, C], NOk X2 (Mv (.slice A1 ns.length c1) u17) y ∧ FRs w.heap.size y from fun y hy => by
          rcases List.mem_cons.1 hy with rfl | hy
          · exact ⟨nok_new HNL.out ⟨RdR.nil, Rd.nil, u0, Nat.zero_le _, Nat.zero_le _⟩ (fun _ => rfl) (fun _ => rfl) (frs_none rfl rfl) (fun ad e => by cases e) (fun ad e => by cases e), frs_none rfl rfl⟩
          · obtain rfl : y = C := by simpa using hy
            have hba : ∀ ad, y.bA = some ad → ad = ⟨wr.heap.size, 0, none⟩ := fun ad e => by rw [EC.out] at e; injection e with e; exact e.symm
            have hpa : ∀ ad, y.pA = some ad → False := fun ad e => by rw [EC.out] at e; cases e
            have hs := HNL.out.bel.size
            refine ⟨nok_new HNL.out ?_ ?_ ?_ ⟨fun ad e => by rw [hba ad e]; exact Nat.le_refl _, fun ad e => (hpa ad e).elim⟩ (fun ad e => by rw [hba ad e, XS.out]; show wr.heap.size < wr.heap.size + 2; omega) (fun ad e => (hpa ad e).elim), ⟨fun ad e => by rw [hba ad e]; exact hs, fun ad e => (hpa ad e).elim⟩⟩
            · rw [EC.out]
              exact ⟨rdR_one XA.out, Rd.nil, UB.out, by show 1 ≤ 1000; omega, Nat.zero_le _⟩
            · rw [EC.out]; exact fun e => by cases e
            · rw [EC.out]; exact fun _ => rfl)
        clear rb hC hX2 E1 E2
        go_upto_region 14 with (first
          | (go_at_call 45; (with_reducible refine (CW.out _).mono ?_); rintro e w2 ⟨rfl, rfl⟩)
          | (at_builtin; refine wpList_append_nodes rfl (.tmp 75) (.tmp 84) rfl w.heap.size (.slice A1 ns.length c1) ns rfl N2.out.n ⟨wr.heap.size + 1, 0, none⟩ 2 2 [innN gen, C] rfl rfl (fun jj u hu => by rw [Addr.add_lit, Nat.zero_add, cell_of_row X2 _ jj _ 52 (0, 0) XB.out]; exact rowOf_flat [innN gen, C] jj u hu) (by have := HLB.out; show ns.length + 2 ≤ 1000; omega) (Nat.le_trans HNL.out.bel.size BX.out.size) ?_; intro v5 w5 ho5 hg5 hat5))
        have N5 := Lib.hid (N2.out.pushN ho5.out hg5.out hat5.out HMS.out)
        clear ho5 hg5 hat5 rb2 HMS
        have Z5 := Lib.hid (fun o => N5.out.below ((Below.refl _ w5).alloc (Nat.le_refl _) o))
        have L5 := Lib.hid (show (l.map (·.2)).length ≤ 24 by rw [List.length_map, NLn.out]; exact HLB.out)
        go_wp2_with (at_builtin; refine wpList_append_ints rfl (.tmp 86) (.tmp 88) rfl w.heap.size u17 (l.map (·.2)) rfl (Z5.out _).i ⟨w5.heap.size, 0, none⟩ 2 2 [f + (ns.length : Int) - 1, 0] rfl rfl (fun jj u hu => by rw [Addr.add_lit, Nat.zero_add, cell_of_row _ w5.heap.size jj _ 26 (0, 0) (heap_alloc_new w5 _)]; simpa [flatR] using hu) (by have := L5.out; show (l.map (·.2)).length + 2 ≤ 1000; omega) (Nat.le_trans N5.out.bel.size (by simp)) ?_; intro v6 w6 ho6 hg6 hat6)
        have N6 := Lib.hid ((Z5.out _).pushI ho6.out hg6.out hat6.out)
        clear ho6 hg6 hat6 Z5
        go_roundg (c - level - (m + 1))
        case measure => omega
        case rel =>
          refine ⟨m + 1, ?_, by omega, by omega, ?_⟩
          · show Value.int .i64 (wrap64 ((j : Int) - 1)) = _
            rw [IntWalk.wrap64_in _ (by have := HJ.out.2; omega), HJ.out.1]
          · show NLs w w6 v5 v6 (dualL (duOf n x K key val gen c) f (m + 1))
            rw [DU.out]
            refine ⟨ns ++ [innN gen, C], ?_, ?_⟩
            · rw [List.map_append]
              show NL w w6 v5 v6 (ns ++ [innN gen, C]) (l.map (·.2) ++ [f - 1 + (l.length : Int), 0])
              rw [NLn.out, show f - 1 + (ns.length : Int) = f + (ns.length : Int) - 1 by omega]
              exact N6.out
            · rw [List.map_append]
              show SameL (l.map (·.1) ++ [innN gen, cndN bm [f + (l.length : Int)]]) (ns ++ [innN gen, C])
              have h := (HSM.out.snoc (sameN.refl (innN gen))).snoc (x := cndN bm [f + (l.length : Int)]) (y := C) (by rw [EC.out, NLn.out]; exact ⟨some ⟨wr.heap.size, 0, none⟩, 1, none, 0, rfl⟩)
              rw [List.append_assoc, List.append_assoc] at h
              exact h
      · obtain rfl : m = c - level := by omega
        have hj4 : ¬ ((c : Int) - 1 - ((c - level : Nat) : Int) ≥ (level : Int)) := by omega
        have hj5 : ¬ ((level : Int) ≤ (c : Int) - 1 - ((c - level : Nat) : Int)) := by omega
        go_wp2
        exact bodyPost_ret (v := .tuple #[_, _]) (by simp [results, Try.results26]) rfl ⟨_, _, rfl, hN.out⟩
end
end Go.Proofs.Ytkenhghaiedhnaa
/-
  The reference: the walks of Error, Build.
-/
set_option linter.unusedVariables false
set_option maxRecDepth 100000
namespace Go.Proofs.Ytkenhghaiedhnaa
open Go.Shelf Go.RowKit Go.Lib Go.Sort
theorem err_range (q : Nat) (x K : Int) (key : ByteArray) (level gen : Int) (w : World) (hr : level < 0 ∨ 11 < level ∨ gen < 1) :
    Calls Try.prog 17 #[.pointer (some ⟨q, 0, none⟩), .int .i64 x, .int .u64 K, .string key, .int .i64 level, .int .i64 gen] w fun e w' => e = .returned (.int .i64 2) ∧ w = w' := by
  by_cases h1 : level < 0
  · go_enter Try.func17, Try.ntmps17
    go_wp2
    go_ret
    exact ⟨rfl, rfl⟩
  · by_cases h2 : 11 < level
    · have h3 : level > 11 := h2
      go_enter Try.func17, Try.ntmps17
      go_wp2
      go_ret
      exact ⟨rfl, rfl⟩
    · have h3 : gen < 1 := by omega
      go_enter Try.func17, Try.ntmps17
      go_wp2
      go_ret
      exact ⟨rfl, rfl⟩
section
attribute [local go_sem ↓] exec_load28 exec_store44
set_option maxHeartbeats 8000000 in
theorem err_more (base q : Nat) (s : Sd) (acc x K : Int) (key : ByteArray) (val level gen : Int) (c : Nat) (w : World) (h : Ob w base 40 q s acc) (h0 : 0 ≤ level) (h1 : level ≤ 11) (h2 : 1 ≤ gen) (hK : U64 K)
    (hU : (nodeV s x).kind = 4 → U64 (nodeV s x).hash ∧ IsCom (nodeV s x).hash K c) :
    Calls Try.prog 17 #[.pointer (some ⟨q, 0, none⟩), .int .i64 x, .int .u64 K, .string key, .int .i64 level, .int .i64 gen] w fun e w' => (Meet (nodeV s x) (singN K key val) c level → e = .returned (.int .i64 0)) ∧ (¬ Meet (nodeV s x) (singN K key val) c level → e = .returned (.int .i64 1)) ∧ Below w.heap.size w w' := by
  have mixed := mixedOrders
  have NG := Lib.hid (rnode_get base q s acc x w h)
  unfold RNodeP at NG
  have l1 : decide (level < 0) = false := decide_eq_false (by omega)
  have l2 : decide (11 < level) = false := decide_eq_false (by omega)
  have l3 : decide (gen < 1) = false := decide_eq_false (by omega)
  obtain ⟨n, hn⟩ : ∃ n, n = nodeV s x := ⟨_, rfl⟩
  rw [← hn] at hU NG ⊢
  have KC := Lib.hid (fun (hk : n.kind = 4) V => rcommon_any n.hash K c (hU hk).1 hK (hU hk).2 V)
  have st := fun X => run_storeNode_new X n
  clear h hn hU hK h0 h1 h2
  by_cases h1 : n.kind = 4
  · have q1 : (n.kind != 4) = false := by rw [h1]; rfl
    have HK := Lib.hid h1
    by_cases h2 : (key.size : Int) ≤ 64
    · have q2 : decide ((64 : Int) < (key.size : Int)) = false := decide_eq_false (by omega)
      have q2' : decide ((key.size : Int) > 64) = false := q2
      by_cases h3 : key = n.key
      · have q3 : (n.key.toList == key.toList) = true := by rw [tl_ne]; exact decide_eq_true h3.symm
        have HM := Lib.hid (show ¬ Meet n (singN K key val) c level from fun h => h.2.2.1 h3)
        clear h1 h3 h2
        go_enter Try.func17, Try.ntmps17
        go_upto_region 4 with (go_at_call 16; refine NG.out.mono ?_; rintro e w2 ⟨rfl, hb⟩; have B2 := Lib.hid hb; clear hb)
        obtain ⟨V, hV⟩ : ∃ V, V = w2.alloc (.cells n.cs 52) := ⟨_, rfl⟩
        rw [← hV]
        have BV := Lib.hid (show Below w.heap.size w V by rw [hV]; exact B2.out.alloc B2.out.size _)
        have HB := Lib.hid (show V.heap[w2.heap.size]? = some (.cells n.cs 52 (0, 0)) by rw [hV]; exact heap_alloc_new w2 _)
        clear hV st
        have c0 := node_cellA HB.out (i := 0) (v := .int .i64 n.kind) rfl
        have c5 := node_cellA HB.out (i := 5) (v := .int .u64 n.hash) rfl
        have c6 := node_cellA HB.out (i := 6) (v := .string n.key) rfl
        go_wp2_with (go_at_call 18; refine (KC.out HK.out _).mono ?_; rintro e w3 ⟨rfl, rfl⟩)
        go_ret
        exact ⟨fun h => absurd h HM.out, fun _ => rfl, BV.out⟩
      · have q3 : (n.key.toList == key.toList) = false := by rw [tl_ne]; exact decide_eq_false (fun e => h3 e.symm)
        by_cases h4 : level ≤ c
        · have HM := Lib.hid (show Meet n (singN K key val) c level from ⟨h1, h2, h3, h4⟩)
          have q4 : decide ((c : Int) < level) = false := decide_eq_false (by omega)
          clear h1 h3 h2 h4
          go_enter Try.func17, Try.ntmps17
          go_upto_region 4 with (go_at_call 16; refine NG.out.mono ?_; rintro e w2 ⟨rfl, hb⟩; have B2 := Lib.hid hb; clear hb)
          obtain ⟨V, hV⟩ : ∃ V, V = w2.alloc (.cells n.cs 52) := ⟨_, rfl⟩
          rw [← hV]
          have BV := Lib.hid (show Below w.heap.size w V by rw [hV]; exact B2.out.alloc B2.out.size _)
          have HB := Lib.hid (show V.heap[w2.heap.size]? = some (.cells n.cs 52 (0, 0)) by rw [hV]; exact heap_alloc_new w2 _)
          clear hV st
          have c0 := node_cellA HB.out (i := 0) (v := .int .i64 n.kind) rfl
          have c5 := node_cellA HB.out (i := 5) (v := .int .u64 n.hash) rfl
          have c6 := node_cellA HB.out (i := 6) (v := .string n.key) rfl
          go_wp2_with (go_at_call 18; refine (KC.out HK.out _).mono ?_; rintro e w3 ⟨rfl, rfl⟩)
          go_ret
          exact ⟨fun _ => rfl, fun h => absurd HM.out h, BV.out⟩
        · have HM := Lib.hid (show ¬ Meet n (singN K key val) c level from fun h => h4 h.2.2.2)
          have q4 : decide ((c : Int) < level) = true := decide_eq_true (by omega)
          clear h1 h3 h2 h4
          go_enter Try.func17, Try.ntmps17
          go_upto_region 4 with (go_at_call 16; refine NG.out.mono ?_; rintro e w2 ⟨rfl, hb⟩; have B2 := Lib.hid hb; clear hb)
          obtain ⟨V, hV⟩ : ∃ V, V = w2.alloc (.cells n.cs 52) := ⟨_, rfl⟩
          rw [← hV]
          have BV := Lib.hid (show Below w.heap.size w V by rw [hV]; exact B2.out.alloc B2.out.size _)
          have HB := Lib.hid (show V.heap[w2.heap.size]? = some (.cells n.cs 52 (0, 0)) by rw [hV]; exact heap_alloc_new w2 _)
          clear hV st
          have c0 := node_cellA HB.out (i := 0) (v := .int .i64 n.kind) rfl
          have c5 := node_cellA HB.out (i := 5) (v := .int .u64 n.hash) rfl
          have c6 := node_cellA HB.out (i := 6) (v := .string n.key) rfl
          go_wp2_with (go_at_call 18; refine (KC.out HK.out _).mono ?_; rintro e w3 ⟨rfl, rfl⟩)
          go_ret
          exact ⟨fun h => absurd h HM.out, fun _ => rfl, BV.out⟩
    · have q2 : decide ((64 : Int) < (key.size : Int)) = true := decide_eq_true (by omega)
      have q2' : decide ((key.size : Int) > 64) = true := q2
      have HM := Lib.hid (show ¬ Meet n (singN K key val) c level from fun h => h2 h.2.1)
      clear h1 h2
      go_enter Try.func17, Try.ntmps17
      go_upto_region 4 with (go_at_call 16; refine NG.out.mono ?_; rintro e w2 ⟨rfl, hb⟩; have B2 := Lib.hid hb; clear hb)
      obtain ⟨V, hV⟩ : ∃ V, V = w2.alloc (.cells n.cs 52) := ⟨_, rfl⟩
      rw [← hV]
      have BV := Lib.hid (show Below w.heap.size w V by rw [hV]; exact B2.out.alloc B2.out.size _)
      have HB := Lib.hid (show V.heap[w2.heap.size]? = some (.cells n.cs 52 (0, 0)) by rw [hV]; exact heap_alloc_new w2 _)
      clear hV st
      have c0 := node_cellA HB.out (i := 0) (v := .int .i64 n.kind) rfl
      have c5 := node_cellA HB.out (i := 5) (v := .int .u64 n.hash) rfl
      have c6 := node_cellA HB.out (i := 6) (v := .string n.key) rfl
      go_wp2_with (go_at_call 18; refine (KC.out HK.out _).mono ?_; rintro e w3 ⟨rfl, rfl⟩)
      go_ret
      exact ⟨fun h => absurd h HM.out, fun _ => rfl, BV.out⟩
  · have q1 : (n.kind != 4) = true := by simpa using h1
    have HM := Lib.hid (show ¬ Meet n (singN K key val) c level from fun h => h1 h.1)
    clear h1
    go_enter Try.func17, Try.ntmps17
    go_upto_region 4 with (go_at_call 16; refine NG.out.mono ?_; rintro e w2 ⟨rfl, hb⟩; have B2 := Lib.hid hb; clear hb)
    obtain ⟨V, hV⟩ : ∃ V, V = w2.alloc (.cells n.cs 52) := ⟨_, rfl⟩
    rw [← hV]
    have BV := Lib.hid (show Below w.heap.size w V by rw [hV]; exact B2.out.alloc B2.out.size _)
    have HB := Lib.hid (show V.heap[w2.heap.size]? = some (.cells n.cs 52 (0, 0)) by rw [hV]; exact heap_alloc_new w2 _)
    clear hV st
    have c0 := node_cellA HB.out (i := 0) (v := .int .i64 n.kind) rfl
    have c5 := node_cellA HB.out (i := 5) (v := .int .u64 n.hash) rfl
    have c6 := node_cellA HB.out (i := 6) (v := .string n.key) rfl
    go_wp2_with fail
    go_ret
    exact ⟨fun h => absurd h HM.out, fun _ => rfl, BV.out⟩
set_option maxHeartbeats 8000000 in
theorem rbuild_range (q : Nat) (x K : Int) (key : ByteArray) (val level gen : Int) (w : World) (hr : level < 0 ∨ 11 < level ∨ gen < 1) :
    Calls Try.prog 9 #[.pointer (some ⟨q, 0, none⟩), .int .i64 x, .int .u64 K, .string key, .int .u64 val, .int .i64 level, .int .i64 gen] w fun e w' => e = .returned (.tuple #[.int .i64 0, .int .i64 2]) ∧ w = w' := by
  have ER := Lib.hid (err_range q x K key level gen w hr)
  clear hr
  go_enter Try.func9, Try.ntmps9
  go_wp2_with (go_at_call 17; refine ER.out.mono ?_; rintro e w2 ⟨rfl, rfl⟩)
  exact bodyPost_ret (v := .tuple #[.int .i64 0, .int .i64 2]) (by simp [results, Try.results9]) rfl ⟨rfl, rfl⟩
set_option maxHeartbeats 8000000 in
theorem rbuild_bad (base q : Nat) (s : Sd) (acc x K : Int) (key : ByteArray) (val level gen : Int) (c : Nat) (w : World) (h : Ob w base 40 q s acc) (h0 : 0 ≤ level) (h1 : level ≤ 11) (h2 : 1 ≤ gen) (hK : U64 K)
    (hU : (nodeV s x).kind = 4 → U64 (nodeV s x).hash ∧ IsCom (nodeV s x).hash K c) (hM : ¬ Meet (nodeV s x) (singN K key val) c level) :
    Calls Try.prog 9 #[.pointer (some ⟨q, 0, none⟩), .int .i64 x, .int .u64 K, .string key, .int .u64 val, .int .i64 level, .int .i64 gen] w fun e w' => e = .returned (.tuple #[.int .i64 0, .int .i64 1]) ∧ Below w.heap.size w w' := by
  have ER := Lib.hid (err_more base q s acc x K key val level gen c w h h0 h1 h2 hK hU)
  have HM := Lib.hid hM
  clear h h0 h1 h2 hK hU hM
  go_enter Try.func9, Try.ntmps9
  go_wp2_with (go_at_call 17; refine ER.out.mono ?_; rintro e w2 ⟨_, hn, hb⟩; obtain rfl := hn HM.out; have B2 := Lib.hid hb; clear hn hb)
  exact bodyPost_ret (v := .tuple #[.int .i64 0, .int .i64 1]) (by simp [results, Try.results9]) rfl ⟨rfl, B2.out⟩
/-- What the reference's Build returns where it does not refuse. -/
def RBuildP (base q : Nat) (s : Sd) (acc : Int) (l : List (Nd × Int)) (w : World) (e : Ending) (w' : World) : Prop :=
  ∃ t : Sd, e = .returned (.tuple #[.int .i64 ((s.ns.length : Int) + (l.length : Int)), .int .i64 0]) ∧ Rn 40 base q s acc l w w' t
set_option maxHeartbeats 8000000 in
theorem rbuild_ok (base q : Nat) (s : Sd) (acc x K : Int) (key : ByteArray) (val gen : Int) (level c : Nat) (w : World) (h : Ob w base 40 q s acc) (h1 : level ≤ 11) (h2 : 1 ≤ gen) (hK : U64 K) (hl : s.ns.length < 900) (hcl : s.cs.length < 900)
    (hU : (nodeV s x).kind = 4 → U64 (nodeV s x).hash ∧ IsCom (nodeV s x).hash K c) (hM : Meet (nodeV s x) (singN K key val) c level) :
    Calls Try.prog 9 #[.pointer (some ⟨q, 0, none⟩), .int .i64 x, .int .u64 K, .string key, .int .u64 val, .int .i64 level, .int .i64 gen] w (RBuildP base q s acc (dualL (duOf (nodeV s x) x K key val gen c) ((s.ns.length : Int) + 1) (c - level)) w) := by
  have mixed := mixedOrders
  have ER := Lib.hid (err_more base q s acc x K key val level gen c w h (by omega) (by omega) h2 hK hU)
  have HM := Lib.hid hM
  have H := Lib.hid h
  have NG := Lib.hid (fun V hV => rnode_get base q s acc x V (h.up hV))
  unfold RNodeP at NG
  have ND := Lib.hid (fun V => nodes_any (nodeV s x) x K key val gen ((s.ns.length : Int) + 1) level c V (hU hM.1).1 hK (hU hM.1).2 (by have := hM.2.2.2; omega) (by omega))
  have DP := Lib.hid (dual_pos (duOf (nodeV s x) x K key val gen c) ((s.ns.length : Int) + 1) (c - level))
  have HLC := Lib.hid (show s.ns.length < 900 ∧ s.cs.length < 900 ∧ c - level ≤ 11 from ⟨hl, hcl, by have := (hU hM.1).2.1; omega⟩)
  obtain ⟨l, hll⟩ : ∃ l, l = dualL (duOf (nodeV s x) x K key val gen c) ((s.ns.length : Int) + 1) (c - level) := ⟨_, rfl⟩
  rw [← hll] at ND DP ⊢
  have j1 : IntKind.i64.wrap ((s.ns.length : Int) + 1) = (s.ns.length : Int) + 1 := by rw [IntKind.wrap_i64]; omega
  clear h h1 h2 hK hl hcl hU hM hll
  go_enter Try.func9, Try.ntmps9
  go_upto_region 4 with (go_at_call 17; refine ER.out.mono ?_; rintro e w2 ⟨hy, _, hb⟩; obtain rfl := hy HM.out; have B2 := Lib.hid hb; clear hy hb)
  have KQ := Lib.hid (show ∀ V, Below w.heap.size w V → V.cell? ⟨q, 0, none⟩ = some (.slice s.nA s.ns.length s.nc) from fun V hV => block_cell (H.out.up hV).blk rfl)
  have BD := Lib.hid (show Below w.heap.size w w2.drew from ⟨B2.out.os, B2.out.tape, B2.out.output, B2.out.size, B2.out.block⟩)
  generalize nodeV s x = n at NG ND HM
  clear ER HM
  go_region_held3 (fun w' => w'.cell? ⟨q, 0, none⟩ = some (.slice s.nA s.ns.length s.nc))
    (exact KQ.out _ (by first | exact B4.out | exact B3.out | exact BD.out))
    (first
      | (go_at_call 26; (with_reducible refine (ND.out _).mono ?_); rintro e w4 ⟨v1, v2, rfl, hnl⟩; have N4 := Lib.hid hnl; have B4 := Lib.hid (show Below w.heap.size w w4 by obtain ⟨ns, h1, _⟩ := hnl; exact below_of B3.out h1.bel); clear hnl)
      | (go_at_call 16; (with_reducible refine (NG.out _ BD.out).mono ?_); rintro e w3 ⟨rfl, hb⟩; have B3 := Lib.hid (below_of BD.out hb); clear hb))
  all_goals
    obtain ⟨ns, hnl, hsl⟩ := N4.out
    have HN := Lib.hid hnl
    have NLn := Lib.hid (show l.length = ns.length by have := hsl.1; simpa using this)
    have HS := Lib.hid hsl
    have DL := Lib.hid (show 1 ≤ ns.length ∧ ns.length ≤ 24 from ⟨by have := DP.out.1; have := NLn.out; omega, by have := DP.out.2; have := NLn.out; have := HLC.out.2.2; omega⟩)
    obtain ⟨g1, c1, e1, _⟩ := World.ownsRow.form hnl.n (by have := DL.out.1; omega)
    obtain ⟨g2, c2, e2, _⟩ := World.ownsRow.form hnl.i (by have := DL.out.1; have := NLn.out; simp; omega)
    have hml : (l.map (·.2)).length = ns.length := by rw [List.length_map]; exact NLn.out
    rw [hml] at e2
    subst e1 e2
    have HG1 := Lib.hid (OwnN.lt_ (k := g1) hnl.n rfl)
    have HG2 := Lib.hid (OwnR.lt_ (k := g2) hnl.i rfl)
    have MU := Lib.hid (show ∀ k, Mu q s k → k < w3.heap.size from fun k hk => Nat.lt_of_lt_of_le (H.out.mu_lt hk).2 B3.out.size)
    have R0 := Lib.hid (Rn.start (H.out.up B4.out))
    clear hnl hsl hml N4 KQ NG ND DP j1
    have HM3 := Lib.hid (show w3.heap.size ≤ w4.heap.size from HN.out.bel.size)
    go_wp2_with fail
    go_loopg [19, 20] ns.length (fun kx s19 s20 wr => ∃ (i : Nat) (t : Sd) (z : Int), s20 = .int .i64 i ∧ s19 = .int .i64 z ∧ i ≤ ns.length ∧ ns.length - i ≤ kx ∧ (1 ≤ i → z = (s.ns.length : Int) + (i : Int)) ∧ Aside (Rn 40 base q s acc (l.take i) w4 wr t))
    case atStart => exact ⟨0, s, 0, rfl, rfl, Nat.zero_le _, by omega, (fun h => absurd h (by omega)), (by rw [List.take_zero]; exact R0.out : Rn 40 base q s acc (l.take 0) w4 _ s)⟩
    case round =>
      clear R0
      obtain ⟨i, t, z, rfl, rfl, hi, hkx, hz, R⟩ := hrel
      by_cases hlt : i < ns.length
      · have hltz : (i : Int) < (ns.length : Int) := by omega
        have hi0 : (0 : Int) ≤ (i : Int) := by omega
        have hx : ns[i]? = some ns[i] := List.getElem?_eq_getElem hlt
        generalize ns[i] = y at hx
        have hli : l[i]? = some (l[i]'(by rw [NLn.out]; exact hlt)) := List.getElem?_eq_getElem _
        generalize l[i]'(by rw [NLn.out]; exact hlt) = o at hli
        obtain ⟨n0, v0⟩ := o
        have SY := Lib.hid (show sameN n0 y from HS.out.2 i n0 y (by rw [List.getElem?_map, hli]; rfl) hx)
        have hok := HN.out.l y (List.mem_of_getElem? hx)
        have OKM := Lib.hid (show NOk w4 (fun k => k < w3.heap.size ∨ w4.heap.size ≤ k) y from ⟨hok.1.rd, hok.1.ba, hok.1.pa, fun ad e hm => by have := hok.2.1 ad e; have := hok.1.lb ad e; omega, fun ad e hm => by have := hok.2.2 ad e; have := hok.1.lp ad e; omega, hok.1.lb, hok.1.lp⟩)
        have KF := Lib.hid (show ∀ V, Fr (fun k => k < w3.heap.size ∨ w4.heap.size ≤ k) w4 V → (Sem.run Try.prog (loadNode (.pointer (some ⟨g1, i * 14, none⟩))) V = .ok (.agg y.cs) V ∧ V.cell? ⟨g2, i, none⟩ = some (.int .i64 v0)) from fun V hV => by
          have n1 : ¬ (g1 < w3.heap.size ∨ w4.heap.size ≤ g1) := by have := HG1.out; omega
          have n2 : ¬ (g2 < w3.heap.size ∨ w4.heap.size ≤ g2) := by have := HG2.out; omega
          have o1 : OwnN V w3.heap.size (.slice (some ⟨g1, 0, none⟩) ns.length c1) ns := HN.out.n.keepFrom fun k hk hk2 => by
            have hk' : some g1 = some k := hk
            injection hk' with hk'
            subst hk'
            exact hV.block g1 hk2 n1
          obtain ⟨A, cc, ee, hr, _⟩ := o1.open2
          injection ee with ea
          subst ea
          have ld := hr.load hx
          rw [Nat.zero_add] at ld
          refine ⟨ld, ?_⟩
          have o2 : OwnR V w3.heap.size (.slice (some ⟨g2, 0, none⟩) ns.length c2) (l.map (·.2)) := OwnR.keepAt HN.out.i fun k hk hk2 => by
            have hk' : some g2 = some k := hk
            injection hk' with hk'
            subst hk'
            exact hV.block g2 hk2 n2
          obtain ⟨A, cc, ee, hr, _⟩ := o2.open2
          injection ee with ea
          subst ea
          obtain ⟨ad, ee, _, hc⟩ := hr (by rw [List.length_map, NLn.out]; omega)
          injection ee with ee
          subst ee
          have hv : (flatR (l.map (·.2)))[i]? = some (.int .i64 v0) := flatR_get (by rw [List.getElem?_map, hli]; rfl)
          have := hc i _ hv
          rw [Addr.add_lit, Nat.zero_add] at this
          exact this)
        have FM := Lib.hid (show Fr (fun k => k < w3.heap.size ∨ w4.heap.size ≤ k) w4 wr from R.out.fr.mono fun k _ hk => .inl (MU.out k hk))
        have FD := Lib.hid (show Fr (fun k => k < w3.heap.size ∨ w4.heap.size ≤ k) w4 wr.drew from ⟨FM.out.os, FM.out.tape, FM.out.output, FM.out.size, FM.out.block⟩)
        have BDR := Lib.hid (show Below wr.heap.size wr wr.drew from ⟨rfl, rfl, rfl, Nat.le_refl _, fun _ _ => rfl⟩)
        have RD := Lib.hid (R.out.below BDR.out)
        have MT := Lib.hid (show ∀ k, Mu q t k → k < w3.heap.size ∨ w4.heap.size ≤ k from fun k hk => (R.out.mu k hk).elim (fun hk => .inl (MU.out k hk)) .inr)
        have TL := Lib.hid (show t.ns.length = s.ns.length + i ∧ t.cs.length ≤ s.cs.length + i from ⟨by have h1 := R.out.len; rw [List.length_take, NLn.out] at h1; omega, by have h1 := R.out.clen; rw [List.length_take, NLn.out] at h1; omega⟩)
        have YD := Lib.hid (OKM.out.fr FD.out (M' := fun k => k < w3.heap.size ∨ w4.heap.size ≤ k) fun k hk => .inl hk)
        have AL := Lib.hid (ralloc_any base q t acc y v0 wr.drew RD.out.ob YD.out.rd YD.out.ba YD.out.pa (fun ad e hm => YD.out.ab ad e (MT.out _ hm)) (fun ad e hm => YD.out.ap ad e (MT.out _ hm)) (by have := TL.out.1; have := HLC.out.1; have := DL.out.2; omega) (by have := TL.out.2; have := HLC.out.2.1; have := DL.out.2; omega))
        have TK := Lib.hid (show l.take (i + 1) = l.take i ++ [(n0, v0)] by rw [List.take_add_one, hli]; rfl)
        clear hx hli hok
        go_upto_region 9 with (fail)
        go_region_held3 (fun w' => Sem.run Try.prog (loadNode (.pointer (some ⟨g1, i * 14, none⟩))) w' = .ok (.agg y.cs) w' ∧ w'.cell? ⟨g2, i, none⟩ = some (.int .i64 v0))
          (exact KF.out _ (by first | exact F5.out | exact FD.out))
          (first
            | (go_at_call 22; (with_reducible refine AL.out.mono ?_); rintro e w5 ⟨u, rfl, hA, ho, hf, hm⟩; have R5 := Lib.hid (RD.out.alloc hA ho hf hm SY.out); have F5 := Lib.hid (show Fr (fun k => k < w3.heap.size ∨ w4.heap.size ≤ k) w4 w5 from FD.out.trans hf fun k hk => .inl (MT.out k hk)); clear hA ho hf hm))
        all_goals
          have hb24 := DL.out.2
          go_wp2
          go_roundg (ns.length - (i + 1))
          case measure => omega
          case rel => exact ⟨i + 1, u, (t.ns.length : Int) + 1, by go_num, rfl, by omega, Nat.le_refl _, (fun _ => by rw [TL.out.1]; omega), (by rw [TK.out]; exact R5.out : Rn 40 base q s acc (l.take (i + 1)) w4 w5 u)⟩
      · obtain rfl : i = ns.length := by omega
        have hzz := hz DL.out.1
        subst hzz
        go_wp2
        refine bodyPost_ret (v := .tuple #[.int .i64 ((s.ns.length : Int) + (ns.length : Int)), .int .i64 0]) (by simp [results, Try.results9]) rfl ⟨t, by rw [NLn.out], ?_⟩
        have hR := R.out.lift (w := w) B4.out
        rw [List.take_of_length_le (by rw [NLn.out]; exact Nat.le_refl _)] at hR
        exact hR
end
end Go.Proofs.Ytkenhghaiedhnaa
