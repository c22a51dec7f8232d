/-
  A state and a node as arguments, with the bound of what they hold.
-/
import Derived.Test.YtcmnmimkjkpimaaLFrame
import Derived.Test.YtcmnmimkjkpimaaLOfB
import Derived.Deep.Slices
import Derived.Test.YtcmnmimkjkpimaaRows
set_option linter.unusedVariables false
set_option maxRecDepth 100000
namespace Go.Proofs.Ytcmnmimkjkpimaa
open Go.ChangeShapes Go.WideShapes Go.ChangeAt Go.RowKit Go.Deep Go.Joins

theorem bulk_pos {H : Type} (d : DataW H) : 1 ≤ Rows.uptoBulk d := by
  cases d with
  | lit l => cases l <;> simp [Rows.uptoBulk]
  | nil => simp [Rows.uptoBulk]
  | ptr d => simp [Rows.uptoBulk]
  | slice elems spare => simp [Rows.uptoBulk]
  | agg parts => simp [Rows.uptoBulk]
  | iface t d => simp [Rows.uptoBulk]
  | map entries => simp [Rows.uptoBulk]
  | held h => simp [Rows.uptoBulk]
theorem bulk_mem {H : Type} {d : DataW H} : ∀ {l : List (DataW H)}, d ∈ l → Rows.uptoBulk d ≤ Rows.uptoBulkAll l
  | [], h => by cases h
  | x :: r, h => by
    rw [Rows.uptoBulkAll]
    rcases List.mem_cons.1 h with rfl | h
    · omega
    · have := bulk_mem h; omega
theorem bulk_count {H : Type} : ∀ l : List (DataW H), l.length ≤ Rows.uptoBulkAll l
  | [] => Nat.le_refl _
  | x :: r => by have := bulk_pos x; have := bulk_count r; rw [Rows.uptoBulkAll, List.length_cons]; omega
theorem bulk_len {H : Type} {n : Nat} {Pl : List MemPlace} (es sp : List (DataW H)) (h : n ≤ es.length) : n ≤ Rows.uptoBulk (DataW.slice es sp, Pl).1 := by
  have := bulk_count es
  simp only [Rows.uptoBulk]
  omega
theorem bulk_part {H : Type} {Pl : List MemPlace} {y : DataW H × List MemPlace} {xs : List (DataW H × List MemPlace)} (h : y ∈ xs) : Rows.uptoBulk y.1 ≤ Rows.uptoBulk (DataW.agg (xs.map (·.1)), Pl).1 := by
  have := bulk_mem (List.mem_map.2 ⟨y, h, rfl⟩ : y.1 ∈ xs.map (·.1))
  simp only [Rows.uptoBulk]
  omega
theorem bulk_elem {H : Type} {Pl : List MemPlace} {D : DataW H} {es sp : List (DataW H)} (h : D ∈ es) : Rows.uptoBulk D ≤ Rows.uptoBulk (DataW.slice es sp, Pl).1 := by
  have := bulk_mem h
  simp only [Rows.uptoBulk]
  omega
theorem i64_wf {h : Int} (hw : (Lit.int IntKind.i64 h).wf = true) : I64 h := by
  simpa [Lit.wf, IntKind.min, IntKind.max, IntKind.signed, IntKind.bits, I64] using hw
theorem spot_none {w : World} {a : Addr} {v : Value} (h : w.cell? a = some v) : a.spot = none := by
  unfold World.cell? at h
  split at h
  · split at h
    · cases h
    · next hs => cases e : a.spot with
      | none => rfl
      | some k => rw [e] at hs; exact absurd rfl hs
  · cases h
section
variable {H : Type} {encH : TypeId × Value → H} {W : World}
theorem open_listB {n : Nat} {cs : List Value} {x : DataW H × List MemPlace} (hf : DataW.trod encH Try.prog W 0 (fun _ => true) true n 41 cs = some x) : ∃ a len cap xs, cs = [.slice a len cap] ∧ IsList W a len cap xs ∧ xs.length ≤ Rows.uptoBulk x.1 := by
  rcases Go.Deep.open_slice_pairs Try.underlying41 (show Try.prog.underlying 66 = some (.struct _) from Try.underlying66) (by kernel_rfl) rfl rfl (by kernel_rfl) (by kernel_rfl) hf with ⟨hcs, _⟩ | ⟨x, len, cap, m, n, V0, V1, D0, D1, P0, P1, hcs, _, hl, _, hm, hxe, hall⟩
  · exact ⟨none, 0, 0, [], hcs, ⟨rfl, Nat.le_refl _, Rd.nil, fun _ => rfl⟩, Nat.zero_le _⟩
  · refine ⟨some x, len, cap, ?_⟩
    have hlm : len ≤ m := by rw [hm]; simpa using hl
    have each : ∀ i, i < len → ∃ y : Pr, W.cell? (x.add (i * 2)) = some (.string y.1) ∧ W.cell? (x.add (i * 2 + 1)) = some (.int .u64 y.2) := fun i hi => by
      obtain ⟨h0, h1, t0, t1⟩ := hall i (by omega)
      obtain ⟨s, e0, _⟩ := DataW.trod_string Try.underlying9 t0
      obtain ⟨k, e1, _⟩ := DataW.trod_int Try.underlying40 t1
      injection e0 with e0
      injection e1 with e1
      exact ⟨(s, k), by rw [h0, e0], by rw [h1, e1]⟩
    have mk : ∀ q, q ≤ len → ∃ xs : List Pr, xs.length = q ∧ ∀ j u, (flat xs)[j]? = some u → W.cell? (x.add j) = some u := by
      intro q
      induction q with
      | zero => exact fun _ => ⟨[], rfl, fun j u hj => by simp [flat_nil] at hj⟩
      | succ q ih =>
        intro hq
        obtain ⟨xs, hx, hc⟩ := ih (by omega)
        obtain ⟨y, y0, y1⟩ := each q (by omega)
        refine ⟨xs ++ [y], by simp [hx], fun j u hj => ?_⟩
        rw [flat_append] at hj
        by_cases hlt : j < (flat xs).length
        · rw [List.getElem?_append_left hlt] at hj
          exact hc j u hj
        · rw [List.getElem?_append_right (by omega), flat_length, hx] at hj
          rw [flat_length, hx] at hlt
          obtain ⟨r, hr⟩ : ∃ r, j = q * 2 + r := ⟨j - q * 2, by omega⟩
          subst hr
          rw [show q * 2 + r - q * 2 = r by omega] at hj
          match r, hj with
          | 0, hj => simp [flat, Ytcmnmimkjkpimaa.enc] at hj; subst hj; exact y0
          | 1, hj => simp [flat, Ytcmnmimkjkpimaa.enc] at hj; subst hj; exact y1
    obtain ⟨xs, hx, hc⟩ := mk len (Nat.le_refl _)
    refine ⟨xs, hcs, ⟨hx, hl, fun hn => ⟨x, rfl, ?_, hc⟩, fun e => by cases e⟩, by rw [hxe, hx]; exact bulk_len _ _ (by simp)⟩
    obtain ⟨y, y0, _⟩ := each 0 (by omega)
    have := block_of_cell y0
    rwa [block_add] at this
theorem open_refsB {n : Nat} {cs : List Value} {x : DataW H × List MemPlace} (hf : DataW.trod encH Try.prog W 0 (fun _ => true) true n 33 cs = some x) : ∃ a len cap zs, cs = [.slice a len cap] ∧ IsRefs W a len cap zs ∧ zs.length ≤ Rows.uptoBulk x.1 := by
  rcases open_ints Try.underlying33 Try.underlying42 (by kernel_rfl) hf with ⟨hcs, _⟩ | ⟨x, len, cap, zs, hcs, _, hl, hm, hz, hxe, hcell, hwz⟩
  · exact ⟨none, 0, 0, [], hcs, ⟨rfl, Nat.le_refl _, RdR.nil, fun _ => rfl⟩, Nat.zero_le _⟩
  · have hz' : zs.length = cap := by simpa using hz
    refine ⟨some x, len, cap, zs.take len, hcs, ⟨by simp; omega, hl, fun hn => ⟨x, rfl, ?_, fun j u hj => ?_⟩, fun e => by cases e⟩, by rw [hxe]; exact bulk_len _ _ (by simp [lits])⟩
    · have := block_of_cell (hcell 0 (by simp at hn; omega))
      rwa [block_add] at this
    · have hj2 : j < len := by
        have := (List.getElem?_eq_some_iff.1 hj).1
        rw [flatR_length] at this
        simp at this; omega
      rw [hcell j (by omega)]
      rw [flatR, List.map_take, List.getElem?_take, if_pos hj2, List.getElem?_map, List.getElem?_eq_getElem (by omega)] at hj
      simp at hj
      rw [← hj, List.getD_eq_getElem?_getD, List.getElem?_eq_getElem (by omega)]
      rfl
set_option maxHeartbeats 1000000 in
theorem open_nodeB {fuel : Nat} {l : List Value} {x : DataW H × List MemPlace} (hf : DataW.trod encH Try.prog W 0 (fun _ => true) true fuel 44 l = some x) : ∃ n : Nd, l = n.cs.toList ∧ (IsNode W n ∧ Rg n) ∧ n.bs.length ≤ Rows.uptoBulk x.1 ∧ n.ps.length ≤ Rows.uptoBulk x.1 := by
  obtain ⟨xs, n, _, hx, hln, hlen, hg⟩ := DataW.trod_struct (show Try.prog.underlying 44 = some (.struct _) from Try.underlying44) hf
  have hl : l.length = 14 := hln.trans (by kernel_rfl)
  match l, hl with
  | [c0, c1, c2, c3, c4, c5, c6, c7, c8, c9, c10, c11, c12, c13], _ =>
    have k3 : Try.prog.cellsOf 3 = 1 := by kernel_rfl
    have k22 : Try.prog.cellsOf 39 = 1 := by kernel_rfl
    have k23 : Try.prog.cellsOf 40 = 1 := by kernel_rfl
    have k24 : Try.prog.cellsOf 33 = 1 := by kernel_rfl
    have k9 : Try.prog.cellsOf 9 = 1 := by kernel_rfl
    have k25 : Try.prog.cellsOf 41 = 1 := by kernel_rfl
    have k26 : Try.prog.cellsOf 42 = 1 := by kernel_rfl
    have hlx : xs.length = 14 := hlen
    have hat : ∀ i, i < 14 → ∃ y, xs[i]? = some y := fun i hi => ⟨_, List.getElem?_eq_getElem (by omega)⟩
    obtain ⟨y0, hy0⟩ := hat 0 (by omega)
    have g0 : DataW.trod encH Try.prog W 0 (fun _ => true) true n 3 [c0] = some y0 := by
      have := hg 0 _ rfl
      rw [hy0] at this
      simpa [k3, Value.cells] using this
    obtain ⟨y1, hy1⟩ := hat 1 (by omega)
    have g1 : DataW.trod encH Try.prog W 0 (fun _ => true) true n 3 [c1] = some y1 := by
      have := hg 1 _ rfl
      rw [hy1] at this
      simpa [k3, Value.cells] using this
    obtain ⟨y2, hy2⟩ := hat 2 (by omega)
    have g2 : DataW.trod encH Try.prog W 0 (fun _ => true) true n 39 [c2] = some y2 := by
      have := hg 2 _ rfl
      rw [hy2] at this
      simpa [k22, Value.cells] using this
    obtain ⟨y3, hy3⟩ := hat 3 (by omega)
    have g3 : DataW.trod encH Try.prog W 0 (fun _ => true) true n 40 [c3] = some y3 := by
      have := hg 3 _ rfl
      rw [hy3] at this
      simpa [k23, Value.cells] using this
    obtain ⟨y4, hy4⟩ := hat 4 (by omega)
    have g4 : DataW.trod encH Try.prog W 0 (fun _ => true) true n 33 [c4] = some y4 := by
      have := hg 4 _ rfl
      rw [hy4] at this
      simpa [k24, Value.cells] using this
    obtain ⟨y5, hy5⟩ := hat 5 (by omega)
    have g5 : DataW.trod encH Try.prog W 0 (fun _ => true) true n 40 [c5] = some y5 := by
      have := hg 5 _ rfl
      rw [hy5] at this
      simpa [k23, Value.cells] using this
    obtain ⟨y6, hy6⟩ := hat 6 (by omega)
    have g6 : DataW.trod encH Try.prog W 0 (fun _ => true) true n 9 [c6] = some y6 := by
      have := hg 6 _ rfl
      rw [hy6] at this
      simpa [k9, Value.cells] using this
    obtain ⟨y7, hy7⟩ := hat 7 (by omega)
    have g7 : DataW.trod encH Try.prog W 0 (fun _ => true) true n 40 [c7] = some y7 := by
      have := hg 7 _ rfl
      rw [hy7] at this
      simpa [k23, Value.cells] using this
    obtain ⟨y8, hy8⟩ := hat 8 (by omega)
    have g8 : DataW.trod encH Try.prog W 0 (fun _ => true) true n 41 [c8] = some y8 := by
      have := hg 8 _ rfl
      rw [hy8] at this
      simpa [k25, Value.cells] using this
    obtain ⟨y9, hy9⟩ := hat 9 (by omega)
    have g9 : DataW.trod encH Try.prog W 0 (fun _ => true) true n 39 [c9] = some y9 := by
      have := hg 9 _ rfl
      rw [hy9] at this
      simpa [k22, Value.cells] using this
    obtain ⟨y10, hy10⟩ := hat 10 (by omega)
    have g10 : DataW.trod encH Try.prog W 0 (fun _ => true) true n 42 [c10] = some y10 := by
      have := hg 10 _ rfl
      rw [hy10] at this
      simpa [k26, Value.cells] using this
    obtain ⟨y11, hy11⟩ := hat 11 (by omega)
    have g11 : DataW.trod encH Try.prog W 0 (fun _ => true) true n 42 [c11] = some y11 := by
      have := hg 11 _ rfl
      rw [hy11] at this
      simpa [k26, Value.cells] using this
    obtain ⟨y12, hy12⟩ := hat 12 (by omega)
    have g12 : DataW.trod encH Try.prog W 0 (fun _ => true) true n 42 [c12] = some y12 := by
      have := hg 12 _ rfl
      rw [hy12] at this
      simpa [k26, Value.cells] using this
    obtain ⟨y13, hy13⟩ := hat 13 (by omega)
    have g13 : DataW.trod encH Try.prog W 0 (fun _ => true) true n 39 [c13] = some y13 := by
      have := hg 13 _ rfl
      rw [hy13] at this
      simpa [k22, Value.cells] using this
    obtain ⟨z0, e0, _, f0⟩ := DataW.trod_int Try.underlying3 g0
    injection e0 with e0
    obtain ⟨z1, e1, _, f1⟩ := DataW.trod_int Try.underlying3 g1
    injection e1 with e1
    obtain ⟨z2, e2, _, f2⟩ := DataW.trod_int Try.underlying39 g2
    injection e2 with e2
    obtain ⟨z3, e3, _, f3⟩ := DataW.trod_int Try.underlying40 g3
    injection e3 with e3
    obtain ⟨A, lA, cA, zs, e4, hr, hb4⟩ := open_refsB g4
    injection e4 with e4
    obtain ⟨z5, e5, _, f5⟩ := DataW.trod_int Try.underlying40 g5
    injection e5 with e5
    obtain ⟨s6, e6, _⟩ := DataW.trod_string Try.underlying9 g6
    injection e6 with e6
    obtain ⟨z7, e7, _, f7⟩ := DataW.trod_int Try.underlying40 g7
    injection e7 with e7
    obtain ⟨P, lP, cP, ps, e8, hp, hb8⟩ := open_listB g8
    injection e8 with e8
    obtain ⟨z9, e9, _, f9⟩ := DataW.trod_int Try.underlying39 g9
    injection e9 with e9
    obtain ⟨z10, e10, _, f10⟩ := DataW.trod_int Try.underlying42 g10
    injection e10 with e10
    obtain ⟨z11, e11, _, f11⟩ := DataW.trod_int Try.underlying42 g11
    injection e11 with e11
    obtain ⟨z12, e12, _, f12⟩ := DataW.trod_int Try.underlying42 g12
    injection e12 with e12
    obtain ⟨z13, e13, _, f13⟩ := DataW.trod_int Try.underlying39 g13
    injection e13 with e13
    obtain ⟨hr1, hr2, hr3, hr4⟩ := hr
    obtain ⟨hp1, hp2, hp3, hp4⟩ := hp
    refine ⟨⟨z0, z1, z2, z3, A, cA, zs, z5, s6, z7, P, cP, ps, z9, z10, z11, z12, z13⟩, ?_, ⟨⟨hr3, hp3, u64_of_wf f3, hr4, hp4, by show zs.length ≤ cA; omega, by show ps.length ≤ cP; omega⟩, i64_wf f2, i64_wf f9, i64_wf f13⟩, Nat.le_trans hb4 (by rw [hx]; exact bulk_part (List.mem_of_getElem? hy4)), Nat.le_trans hb8 (by rw [hx]; exact bulk_part (List.mem_of_getElem? hy8))⟩
    rw [e0, e1, e2, e3, e4, e5, e6, e7, e8, e9, e10, e11, e12, e13, ← hr1, ← hp1]
    rfl


structure IsState (w : World) (b : Nat) (s : Sd) : Prop where
  n : RdN w w.heap.size s.nA s.ns
  c : RdR w w.heap.size s.cA s.cs
  ca : s.cA = none → s.cc = 0
  na : s.nA = none → s.nc = 0
  l : ∀ n ∈ s.ns, (IsNode w n ∧ Rg n) ∧ n.bs.length ≤ b ∧ n.ps.length ≤ b
  nl : s.ns.length ≤ b
  cl : s.cs.length ≤ b
theorem open_nodesB {fuel : Nat} {cs : List Value} {x : DataW H × List MemPlace} (hf : DataW.trod encH Try.prog W 0 (fun _ => true) true fuel 32 cs = some x) :
    ∃ A c ns, cs = [.slice A ns.length c] ∧ RdN W W.heap.size A ns ∧ (A = none → c = 0) ∧ (∀ n ∈ ns, (IsNode W n ∧ Rg n) ∧ n.bs.length ≤ Rows.uptoBulk x.1 ∧ n.ps.length ≤ Rows.uptoBulk x.1) ∧ ns.length ≤ Rows.uptoBulk x.1 := by
  rcases Go.Deep.open_slice Try.underlying32 hf with ⟨hcs, _⟩ | ⟨a, len, cap, m, n, D, Pl, hcs, _, hl, _, hm, hxe, hall⟩
  · exact ⟨none, 0, [], hcs, RdN.nil, fun _ => rfl, fun n hn => (by cases hn), Nat.zero_le _⟩
  · have hlm : len ≤ m := by rw [hm]; simpa using hl
    have each : ∀ i, i < len → ∃ n : Nd, (∀ j, j < 14 → W.cell? (a.add (i * 14 + j)) = n.cs[j]?) ∧ (IsNode W n ∧ Rg n) ∧ n.bs.length ≤ Rows.uptoBulk (D i) ∧ n.ps.length ≤ Rows.uptoBulk (D i) := fun i hi => by
      obtain ⟨cs', h1, h2⟩ := hall i (by omega)
      rw [show Try.prog.cellsOf 44 = 14 by kernel_rfl] at h1
      obtain ⟨_, hlen, hcell⟩ := World.cells?_some h1
      obtain ⟨nd, e, hN, hb1, hb2⟩ := open_nodeB h2
      exact ⟨nd, fun j hj => by rw [← add_add, hcell j hj, e]; simp, hN, hb1, hb2⟩
    have hDle : ∀ i, i < len → Rows.uptoBulk (D i) ≤ Rows.uptoBulk x.1 := fun i hi => by rw [hxe]; exact bulk_elem (List.mem_map.2 ⟨i, List.mem_range.2 hi, rfl⟩)
    have mk : ∀ q, q ≤ len → ∃ ns : List Nd, ns.length = q ∧ (∀ n ∈ ns, (IsNode W n ∧ Rg n) ∧ n.bs.length ≤ Rows.uptoBulk x.1 ∧ n.ps.length ≤ Rows.uptoBulk x.1) ∧ ∀ j u, (flatN ns)[j]? = some u → W.cell? (a.add j) = some u := by
      intro q
      induction q with
      | zero => exact fun _ => ⟨[], rfl, fun n hn => (by cases hn), fun j u hj => by simp [flatN] at hj⟩
      | succ q ih =>
        intro hq
        obtain ⟨ns, hx, hN, hc⟩ := ih (by omega)
        obtain ⟨y, y0, y1, y2, y3⟩ := each q (by omega)
        have hd := hDle q (by omega)
        refine ⟨ns ++ [y], by simp [hx], fun n hn => ?_, fun j u hj => ?_⟩
        · rcases List.mem_append.1 hn with hn | hn
          · exact hN n hn
          · rw [List.mem_singleton.1 hn]; exact ⟨y1, by omega, by omega⟩
        · rw [flatN_append] at hj
          by_cases hlt : j < (flatN ns).length
          · rw [List.getElem?_append_left hlt] at hj
            exact hc j u hj
          · rw [List.getElem?_append_right (by omega), flatN_length, hx] at hj
            rw [flatN_length, hx] at hlt
            obtain ⟨r, hr⟩ : ∃ r, j = q * 14 + r := ⟨j - q * 14, by omega⟩
            subst hr
            rw [show q * 14 + r - q * 14 = r by omega] at hj
            have hr14 : r < 14 := by have := (List.getElem?_eq_some_iff.1 hj).1; rw [flatN_length] at this; simpa using this
            have e2 := flatN_get [y] 0 y r rfl hr14
            rw [Nat.zero_mul, Nat.zero_add] at e2
            rw [y0 r hr14, ← e2]
            exact hj
    obtain ⟨ns, hx, hN, hc⟩ := mk len (Nat.le_refl _)
    have hle : ns.length ≤ Rows.uptoBulk x.1 := by rw [hx, hxe]; exact bulk_len _ _ (by simp)
    refine ⟨some a, cap, ns, by rw [hx]; exact hcs, fun hn => ?_, fun e => (by cases e), hN, hle⟩
    obtain ⟨y, y0, _⟩ := each 0 (by omega)
    have hbl := block_of_cell ((y0 0 (by omega)).trans (by rfl : y.cs[0]? = some (.int .i64 y.kind)))
    rw [block_add] at hbl
    have hsp := spot_none ((y0 0 (by omega)).trans (by rfl : y.cs[0]? = some (.int .i64 y.kind)))
    rw [show a.add (0 * 14 + 0) = a from rfl] at hsp
    obtain ⟨ab, ao, af⟩ := a
    have hsp' : af = none := hsp
    subst hsp'
    exact ⟨ab, ao, rfl, hbl, fun j u hu => by rw [← Addr.add_lit]; exact hc j u hu⟩
theorem open_stateT {fuel : Nat} {l : List Value} {x : DataW H × List MemPlace} (hf : DataW.trod encH Try.prog W 0 (fun _ => true) true fuel 35 l = some x) : ∃ s : Sd, l = s.vals.toList ∧ IsState W (Rows.uptoBulk x.1) s := by
  obtain ⟨xs, n, _, hx, hln, hlen, hg⟩ := DataW.trod_struct (show Try.prog.underlying 35 = some (.struct _) from Try.underlying35) hf
  have hl : l.length = 3 := hln.trans (by kernel_rfl)
  match l, hl with
  | [c0, c1, c2], _ =>
    have k0 : Try.prog.cellsOf 32 = 1 := by kernel_rfl
    have k1 : Try.prog.cellsOf 33 = 1 := by kernel_rfl
    have k2 : Try.prog.cellsOf 3 = 1 := by kernel_rfl
    have hlx : xs.length = 3 := hlen
    have hat : ∀ i, i < 3 → ∃ y, xs[i]? = some y := fun i hi => ⟨_, List.getElem?_eq_getElem (by omega)⟩
    obtain ⟨y0, hy0⟩ := hat 0 (by omega)
    have g0 : DataW.trod encH Try.prog W 0 (fun _ => true) true n 32 [c0] = some y0 := by
      have := hg 0 _ rfl
      rw [hy0] at this
      simpa [k0, Value.cells] using this
    obtain ⟨y1, hy1⟩ := hat 1 (by omega)
    have g1 : DataW.trod encH Try.prog W 0 (fun _ => true) true n 33 [c1] = some y1 := by
      have := hg 1 _ rfl
      rw [hy1] at this
      simpa [k1, Value.cells] using this
    obtain ⟨y2, hy2⟩ := hat 2 (by omega)
    have g2 : DataW.trod encH Try.prog W 0 (fun _ => true) true n 3 [c2] = some y2 := by
      have := hg 2 _ rfl
      rw [hy2] at this
      simpa [k2, Value.cells] using this
    obtain ⟨A, c, ns, e0, h1, h2, h3, h4⟩ := open_nodesB g0
    injection e0 with e0
    obtain ⟨A', l', c', zs, e1, ⟨r1, r2, r3, r4⟩, hb⟩ := open_refsB g1
    injection e1 with e1
    obtain ⟨z, e2, _, _⟩ := DataW.trod_int Try.underlying3 g2
    injection e2 with e2
    have b0 : Rows.uptoBulk y0.1 ≤ Rows.uptoBulk x.1 := by rw [hx]; exact bulk_part (List.mem_of_getElem? hy0)
    have b1 : Rows.uptoBulk y1.1 ≤ Rows.uptoBulk x.1 := by rw [hx]; exact bulk_part (List.mem_of_getElem? hy1)
    refine ⟨⟨A, c, ns, A', c', zs, z⟩, ?_, h1, r3, r4, h2, fun n hn => ⟨(h3 n hn).1, Nat.le_trans (h3 n hn).2.1 b0, Nat.le_trans (h3 n hn).2.2 b0⟩, Nat.le_trans h4 b0, Nat.le_trans hb b1⟩
    rw [e0, e1, e2, ← r1]
    rfl
theorem open_state {b0 : Nat} {r : Reach} {v : Value} {d : DataW H} {p : List MemPlace} (hv : Value.okWide Try.prog W r b0 35 v) (h : DataW.Trod encH Try.prog W 0 (fun _ => true) true 35 v d p) : ∃ s : Sd, v = .agg s.vals ∧ IsState W (Rows.uptoBulk d) s := by
  obtain ⟨cs, rfl, hsz⟩ := okWide_struct (show Try.prog.underlying 35 = some (.struct _) from Try.underlying35) hv
  obtain ⟨fuel, hf⟩ := h
  obtain ⟨s, e, hs⟩ := open_stateT hf
  refine ⟨s, ?_, hs⟩
  congr 1
  apply Array.ext'
  rw [← e]
  rfl
theorem open_nodeU {b0 : Nat} {r : Reach} {v : Value} {d : DataW H} {p : List MemPlace} (hv : Value.okWide Try.prog W r b0 44 v) (h : DataW.Trod encH Try.prog W 0 (fun _ => true) true 44 v d p) : ∃ n : Nd, v = .agg n.cs ∧ (IsNode W n ∧ Rg n) ∧ n.bs.length ≤ Rows.uptoBulk d ∧ n.ps.length ≤ Rows.uptoBulk d := by
  obtain ⟨cs, rfl, hsz⟩ := okWide_struct (show Try.prog.underlying 44 = some (.struct _) from Try.underlying44) hv
  obtain ⟨fuel, hf⟩ := h
  obtain ⟨n, e, hs⟩ := open_nodeB hf
  refine ⟨n, ?_, hs⟩
  congr 1
  apply Array.ext'
  rw [← e]
  rfl
end
end Go.Proofs.Ytcmnmimkjkpimaa
