/-
  The walks of Put, Drop, Find of package pairs.
-/
import Derived.Test.YtpopoihggomfiaaTbC
import Derived.Test.YtpopoihggomfiaaWalksI
import Derived.Deep.Upon
set_option linter.unusedVariables false
set_option maxRecDepth 100000
namespace Go.Proofs.Ytpopoihggomfiaa
open Go.Shelf Go.RowKit Go.Lib Go.Sort

theorem pairSize : (Try.prog.info? 54).map (·.size) = some 2 := by kernel_rfl

/-- What make leaves. -/
theorem made_heap {w w1 : World} {n : Nat} {xs : List Value} (h : w1.ownsRow w.heap.size 54 2 (.slice (some ⟨w.heap.size, 0, none⟩) n n) n xs) :
    ∃ Z : List Value, Z.length = n * 2 ∧ w1.heap[w.heap.size]? = some (.cells Z.toArray 54 (0, 0)) := by
  rcases h.2 with ⟨e, _⟩ | ⟨g, cap, cur, e, hb, hg, hnc, hcm, hcs, ht⟩
  · cases e
  · simp only [Value.slice.injEq, Option.some.injEq, Addr.mk.injEq, and_true, true_and] at e
    obtain ⟨rfl, rfl⟩ := e
    exact ⟨cur.toList, by simpa using hcs, by simpa using hg⟩

theorem own_of_heap {w : World} {base g : Nat} {xs : List Pr} {n c : Nat} (hn : xs.length = n) (hb : base ≤ g) (hc : n ≤ c) (hcm : c ≤ maxLen) {cur : List Value} (hcs : cur.length = c * 2) (ht : cur.take (n * 2) = flat xs)
    (hg : w.heap[g]? = some (.cells cur.toArray 54 (0, 0))) : Own w base (.slice (some ⟨g, 0, none⟩) n c) xs := by
  subst hn
  exact ⟨flat_length xs, .inr ⟨g, c, cur.toArray, rfl, hb, hg, hc, hcm, by simpa using hcs, by simpa using ht⟩⟩


/-- copy: as many elements as the shorter of the two has go over. -/
theorem copy2_ex {w0 w : World} (ty : TypeId) (dp sp : Option Addr) (dLen dCap sLen sCap : Nat) (g off : Nat) (cur : List Value) (hg : w.heap[g]? = some (.cells cur.toArray 54 (0, 0))) (cs : List Value) (k : Nat) (hk : k = Nat.min sLen dLen) (hn : cs.length = k * 2)
    (hpos : 0 < k → dp = some ⟨g, off, none⟩ ∧ ∃ ad, sp = some ad ∧ ∀ j v, cs[j]? = some v → w.cell? (ad.add j) = some v)
    (hfit : off + cs.length ≤ cur.length) (h1 : ∀ v ∈ cs, v.oneCell' = true) (B : Nat) (hb : Below B w0 w) (hBg : B ≤ g) :
    ∃ w', (Builtin.copy_ #[25, 25] ty #[.slice dp dLen dCap, .slice sp sLen sCap]).run Try.prog w = .ok (.int .i64 k) w' ∧ Hid (w'.heap[g]? = some (.cells (splice cur off cs).toArray 54 (0, 0))) ∧ Below B w0 w' := by
  by_cases h0 : k = 0
  · subst h0
    obtain rfl : cs = [] := List.eq_nil_of_length_eq_zero (by omega)
    exact ⟨w, run_copy2_none (P := Try.prog) w 25 25 ty 54 dp sp dLen dCap sLen sCap Try.underlying25 pairSize hk.symm, (show _ = _ by simpa [splice] using hg), hb⟩
  · obtain ⟨rfl, ad, rfl, hsrc⟩ := hpos (by omega)
    exact ⟨_, run_copy2_row (P := Try.prog) w 25 25 ty 54 g off dLen dCap ad sLen sCap cur.toArray 54 cs k Try.underlying25 pairSize hg hk hn hsrc (by simpa using hfit) h1,
      (show _ = _ by simpa [splice] using setRow_heap w g _ _ 54 _ hg), below_setRow hb hBg _⟩

theorem upon_copy {o : Oper} {a : Act} {K : Act → World → Prop} {Q : Exit → Act → World → Prop} {w w0 : World} (ty : TypeId) (dp sp : Option Addr) (dLen dCap sLen sCap : Nat) (g off : Nat) (cur : List Value) (hg : Hid (w.heap[g]? = some (.cells cur.toArray 54 (0, 0)))) (cs : List Value) (k : Nat) (hk : k = Nat.min sLen dLen) (hn : Hid (cs.length = k * 2))
    (hpos : 0 < k → dp = some ⟨g, off, none⟩ ∧ ∃ ad, sp = some ad ∧ ∀ j v, cs[j]? = some v → w.cell? (ad.add j) = some v)
    (hfit : off + cs.length ≤ cur.length) (h1 : ∀ v ∈ cs, v.oneCell' = true) (B : Nat) (hb : Below B w0 w) (hBg : B ≤ g)
    (h : ∀ w', Hid (w'.heap[g]? = some (.cells (splice cur off cs).toArray 54 (0, 0))) → Below B w0 w' → K (a.put o.dst (.int .i64 k)) w') :
    Oper.upon Try.prog o a K Q ((Sem.run Try.prog (Builtin.copy_ #[25, 25] ty #[.slice dp dLen dCap, .slice sp sLen sCap]) w).andThen fun a w' => Result.ok (Next.value a) w') := by
  obtain ⟨w', e, h2, h3⟩ := copy2_ex ty dp sp dLen dCap sLen sCap g off cur hg.out cs k hk hn.out hpos hfit h1 B hb hBg
  rw [e]
  simp only [Result.andThen]
  rw [Oper.upon_value]
  exact h w' h2 h3

theorem replaced_end {w w4 : World} {xs ys : List Pr} {f t N : Nat} {Z X1 X2 X3 : List Value} (hft : f ≤ t) (ht : t ≤ xs.length) (hX1 : Hid (X1 = flat (xs.take f))) (hX2 : Hid (X2 = flat ys)) (hX3 : Hid (X3 = flat (xs.drop t)))
    (hZ : Hid (Z.length = N * 2)) (hN : Hid (N = xs.length - (t - f) + ys.length)) (hG : Hid (w4.heap[w.heap.size]? = some (.cells (splice (splice (splice Z 0 X1) (f * 2) X2) (f * 2 + ys.length * 2) X3).toArray 54 (0, 0)))) (hN1 : N ≤ 2000000) (hb : Below w.heap.size w w4) :
    OwnPost (xs.take f ++ (ys ++ xs.drop t)) w (.returned (.slice (some ⟨w.heap.size, 0, none⟩) N N)) w4 := by
  have hX1 := hX1.out; have hX2 := hX2.out; have hX3 := hX3.out; have hZ := hZ.out; have hN := hN.out; have hG := hG.out
  have l1 : X1.length = f * 2 := by rw [hX1, flat_length]; simp; omega
  have l2 : X2.length = ys.length * 2 := by rw [hX2, flat_length]
  have l3 : X3.length = (xs.length - t) * 2 := by rw [hX3, flat_length]; simp
  rw [splice_splice_splice Z X1 X2 X3 _ _ l1 l2 (by rw [hZ, l3]; omega)] at hG
  refine ⟨_, rfl, own_of_heap (by simp; omega) (Nat.le_refl _) (Nat.le_refl _) (by simp only [maxLen]; omega) (by simp only [List.length_append, l1, l2, l3]; omega) ?_ hG, hb⟩
  rw [List.take_of_length_le (by simp only [List.length_append, l1, l2, l3]; omega), flat_append, flat_append, hX1, hX2, hX3]

set_option maxHeartbeats 4000000 in
theorem replaced_any (A : Option Addr) (c : Nat) (xs : List Pr) (f t : Nat) (Y : Option Addr) (d : Nat) (ys : List Pr) (B : Nat) (w : World) (h : Rd w B A xs) (hy : Rd w B Y ys) (hB : B ≤ w.heap.size)
    (hft : f ≤ t) (ht : t ≤ xs.length) (hc : xs.length ≤ c) (hn : xs.length ≤ 1000000) (hm : ys.length ≤ 1000000) :
    Calls Try.prog 57 #[.slice A xs.length c, .int .i64 f, .int .i64 t, .slice Y ys.length d] w (OwnPost (xs.take f ++ (ys ++ xs.drop t)) w) := by
  obtain ⟨i0, hi0, hz0, hz1, hz2⟩ := info_parts pairInfo
  have HX := Lib.hid h
  have HY := Lib.hid hy
  obtain ⟨N, hN⟩ : ∃ N : Nat, N = xs.length - (t - f) + ys.length := ⟨_, rfl⟩
  have hN1 : N ≤ 2000000 := by omega
  have hNf : f ≤ N := by omega
  have hNm : f + ys.length ≤ N := by omega
  have HN := Lib.hid hN
  obtain ⟨X1, hX1⟩ : ∃ X1, X1 = flat (xs.take f) := ⟨_, rfl⟩
  obtain ⟨X2, hX2⟩ : ∃ X2, X2 = flat ys := ⟨_, rfl⟩
  obtain ⟨X3, hX3⟩ : ∃ X3, X3 = flat (xs.drop t) := ⟨_, rfl⟩
  have HX1 := Lib.hid hX1
  have HX2 := Lib.hid hX2
  have HX3 := Lib.hid hX3
  have L1 : Hid (X1.length = f * 2) := by show _ = _; rw [hX1, flat_length]; simp; omega
  have L2 : Hid (X2.length = ys.length * 2) := by show _ = _; rw [hX2, flat_length]
  have L3 : Hid (X3.length = (xs.length - t) * 2) := by show _ = _; rw [hX3, flat_length]; simp
  clear h hy hN hX1 hX2 hX3
  go_enter Try.func57, Try.ntmps57
  go_wp2_with (first
    | (at_make
       refine wpList_make_full w rfl (.tmp 19) (.tmp 19) 25 rfl w.heap.size 54 i0 _ 2 Try.underlying25 hi0 hz0 hz1 _ _ _ _ N rfl rfl (by have := HN.out; omega) (by have := HN.out; omega) (by rw [hz2]; omega) (by simp only [maxLen]; omega) (Nat.le_refl _) ?_
       intro w1 hown1 hg1
       obtain ⟨Z, hZ, hG1⟩ := made_heap hown1
       have HZ := Lib.hid hZ
       have HG1 := Lib.hid hG1
       have hB1 : Below w.heap.size w w1 := (Below.refl _ _).grown hg1 (Nat.le_refl _) (by simp)
       clear hown1 hg1 hZ hG1))
  -- the first part
  have src1 : Hid (0 < f → ∃ ad, A = some ad ∧ ∀ j v, X1[j]? = some v → w1.cell? (ad.add j) = some v) := fun hf => by
    obtain ⟨ad, e, _, hcell⟩ := ((HX.out.more hB).below hB1).take f (by simp; omega)
    exact ⟨ad, e, by rw [HX1.out]; exact hcell⟩
  refine upon_copy (w0 := w) _ _ _ _ _ _ _ w.heap.size 0 Z HG1 X1 f (Nat.min_eq_left hNf).symm L1 (fun hf => ⟨rfl, src1.out hf⟩) (by rw [L1.out, HZ.out]; omega) (by rw [HX1.out]; exact flat_one _) w.heap.size hB1 (Nat.le_refl _) ?_
  intro w2 HG2 hB2
  have src2 : Hid (0 < ys.length → ∃ ad, Y = some ad ∧ ∀ j v, X2[j]? = some v → w2.cell? (ad.add j) = some v) := fun hf => by
    obtain ⟨ad, e, _, hcell⟩ := (HY.out.more hB).below hB2 hf
    exact ⟨ad, e, by rw [HX2.out]; exact hcell⟩
  have S1 : Hid ((splice Z 0 X1).length = N * 2) := by show _ = _; rw [length_splice _ _ _ (by rw [L1.out, HZ.out]; omega), HZ.out]
  clear src1 HG1 hB1
  go_wp2_with fail
  all_goals
    refine upon_copy (w0 := w) _ _ _ _ _ _ _ w.heap.size (f * 2) (splice Z 0 X1) HG2 X2 ys.length (by show _ = min _ _; omega) L2 (fun hf => by first | (exfalso; omega) | exact ⟨rfl, src2.out hf⟩) (by rw [L2.out, S1.out]; omega) (by rw [HX2.out]; exact flat_one _) w.heap.size hB2 (Nat.le_refl _) ?_
    intro w3 HG3 hB3
    clear src2 HG2 hB2
    have S2 : Hid ((splice (splice Z 0 X1) (f * 2) X2).length = (splice Z 0 X1).length) := by show _ = _; rw [length_splice _ _ _ (by rw [L2.out, S1.out]; omega)]
    have S2 := Lib.hid (S2.out.trans S1.out)
    have src3 : Hid (0 < xs.length - t → ∃ ad, Option.map (fun x : Addr => x.add (t * 2)) A = some ad ∧ ∀ j v, X3[j]? = some v → w3.drew.cell? (ad.add j) = some v) := fun hf => by
      obtain ⟨ad, e, _, hcell⟩ := ((HX.out.more hB).below hB3) (by omega)
      refine ⟨ad.add (t * 2), by rw [e]; rfl, fun j v hj => ?_⟩
      rw [HX3.out, ← flat_drop, List.getElem?_drop] at hj
      rw [add_add_]
      exact hcell _ v hj
    have tn : ((f : Int) + (ys.length : Int)).toNat = f + ys.length := by omega
    have tn2 : IntKind.i64.wrap ((f : Int) + (ys.length : Int)) = (f : Int) + (ys.length : Int) := by rw [IntKind.wrap_i64]; omega
    have tn3 : (0 : Int) ≤ (f : Int) + (ys.length : Int) := by omega
    go_wp2_with fail
  · obtain rfl : ys = [] := List.eq_nil_of_length_eq_zero (by omega)
    obtain rfl : f = N := by omega
    have ht' : xs.length - t = 0 := by have := HN.out; simp at this; omega
    by_cases q2 : t = c
    · subst q2
      go_still_tail 6, (by kernel_rfl)
      change wpList _ _ _ _ _ w3.drew
      go_wp2_with fail
      refine upon_copy (w := w3.drew) (w0 := w) _ _ _ _ _ _ _ w.heap.size (f * 2 + 0) (splice (splice Z 0 X1) (f * 2) X2) HG3 X3 (xs.length - t) (by show _ = min _ _; have := HN.out; (try simp only [List.length_nil] at this); omega) L3 (fun hf => by first | (exfalso; have := HN.out; (try simp only [List.length_nil] at this); omega) | exact ⟨by congr 2; omega, src3.out hf⟩) (by rw [L3.out, S2.out]; have := HN.out; (try simp only [List.length_nil] at this ⊢); omega) (by rw [HX3.out]; exact flat_one _) w.heap.size (below_drew hB3 1) (Nat.le_refl _) ?_
      intro w4 HG4 hB4
      clear HG3 src3
      go_wp2
      go_ret
      exact replaced_end hft ht HX1 HX2 HX3 HZ HN HG4 hN1 hB4
    · have q3 : ¬ c = t := fun e => q2 e.symm
      go_still_tail 6, (by kernel_rfl)
      change wpList _ _ _ _ _ w3.drew
      go_wp2_with fail
      refine upon_copy (w := w3.drew) (w0 := w) _ _ _ _ _ _ _ w.heap.size (f * 2 + 0) (splice (splice Z 0 X1) (f * 2) X2) HG3 X3 (xs.length - t) (by show _ = min _ _; have := HN.out; (try simp only [List.length_nil] at this); omega) L3 (fun hf => by first | (exfalso; have := HN.out; (try simp only [List.length_nil] at this); omega) | exact ⟨by congr 2; omega, src3.out hf⟩) (by rw [L3.out, S2.out]; have := HN.out; (try simp only [List.length_nil] at this ⊢); omega) (by rw [HX3.out]; exact flat_one _) w.heap.size (below_drew hB3 1) (Nat.le_refl _) ?_
      intro w4 HG4 hB4
      clear HG3 src3
      go_wp2
      go_ret
      exact replaced_end hft ht HX1 HX2 HX3 HZ HN HG4 hN1 hB4
  · have tn4 : (f : Int) + (ys.length : Int) ≤ (N : Int) := by omega
    by_cases q1 : f + ys.length = N
    · subst q1
      by_cases q2 : t = c
      · subst q2
        go_still_tail 6, (by kernel_rfl)
        change wpList _ _ _ _ _ w3.drew
        go_wp2_with fail
        refine upon_copy (w := w3.drew) (w0 := w) _ _ _ _ _ _ _ w.heap.size (f * 2 + ys.length * 2) (splice (splice Z 0 X1) (f * 2) X2) HG3 X3 (xs.length - t) (by show _ = min _ _; have := HN.out; (try simp only [List.length_nil] at this); omega) L3 (fun hf => by first | (exfalso; have := HN.out; (try simp only [List.length_nil] at this); omega) | exact ⟨by congr 2; omega, src3.out hf⟩) (by rw [L3.out, S2.out]; have := HN.out; (try simp only [List.length_nil] at this ⊢); omega) (by rw [HX3.out]; exact flat_one _) w.heap.size (below_drew hB3 1) (Nat.le_refl _) ?_
        intro w4 HG4 hB4
        clear HG3 src3
        go_wp2
        go_ret
        exact replaced_end hft ht HX1 HX2 HX3 HZ HN HG4 hN1 hB4
      · have q3 : ¬ c = t := fun e => q2 e.symm
        go_still_tail 6, (by kernel_rfl)
        change wpList _ _ _ _ _ w3.drew
        go_wp2_with fail
        refine upon_copy (w := w3.drew) (w0 := w) _ _ _ _ _ _ _ w.heap.size (f * 2 + ys.length * 2) (splice (splice Z 0 X1) (f * 2) X2) HG3 X3 (xs.length - t) (by show _ = min _ _; have := HN.out; (try simp only [List.length_nil] at this); omega) L3 (fun hf => by first | (exfalso; have := HN.out; (try simp only [List.length_nil] at this); omega) | exact ⟨by congr 2; omega, src3.out hf⟩) (by rw [L3.out, S2.out]; have := HN.out; (try simp only [List.length_nil] at this ⊢); omega) (by rw [HX3.out]; exact flat_one _) w.heap.size (below_drew hB3 1) (Nat.le_refl _) ?_
        intro w4 HG4 hB4
        clear HG3 src3
        go_wp2
        go_ret
        exact replaced_end hft ht HX1 HX2 HX3 HZ HN HG4 hN1 hB4
    · have q1' : ¬ N = f + ys.length := fun e => q1 e.symm
      by_cases q2 : t = c
      · subst q2
        go_still_tail 6, (by kernel_rfl)
        change wpList _ _ _ _ _ w3.drew
        go_wp2_with fail
        refine upon_copy (w := w3.drew) (w0 := w) _ _ _ _ _ _ _ w.heap.size (f * 2 + ys.length * 2) (splice (splice Z 0 X1) (f * 2) X2) HG3 X3 (xs.length - t) (by show _ = min _ _; have := HN.out; (try simp only [List.length_nil] at this); omega) L3 (fun hf => by first | (exfalso; have := HN.out; (try simp only [List.length_nil] at this); omega) | exact ⟨by congr 2; omega, src3.out hf⟩) (by rw [L3.out, S2.out]; have := HN.out; (try simp only [List.length_nil] at this ⊢); omega) (by rw [HX3.out]; exact flat_one _) w.heap.size (below_drew hB3 1) (Nat.le_refl _) ?_
        intro w4 HG4 hB4
        clear HG3 src3
        go_wp2
        go_ret
        exact replaced_end hft ht HX1 HX2 HX3 HZ HN HG4 hN1 hB4
      · have q3 : ¬ c = t := fun e => q2 e.symm
        go_still_tail 6, (by kernel_rfl)
        change wpList _ _ _ _ _ w3.drew
        go_wp2_with fail
        refine upon_copy (w := w3.drew) (w0 := w) _ _ _ _ _ _ _ w.heap.size (f * 2 + ys.length * 2) (splice (splice Z 0 X1) (f * 2) X2) HG3 X3 (xs.length - t) (by show _ = min _ _; have := HN.out; (try simp only [List.length_nil] at this); omega) L3 (fun hf => by first | (exfalso; have := HN.out; (try simp only [List.length_nil] at this); omega) | exact ⟨by congr 2; omega, src3.out hf⟩) (by rw [L3.out, S2.out]; have := HN.out; (try simp only [List.length_nil] at this ⊢); omega) (by rw [HX3.out]; exact flat_one _) w.heap.size (below_drew hB3 1) (Nat.le_refl _) ?_
        intro w4 HG4 hB4
        clear HG3 src3
        go_wp2
        go_ret
        exact replaced_end hft ht HX1 HX2 HX3 HZ HN HG4 hN1 hB4

theorem pv_true (A : Option Addr) (c : Nat) (xs : List Pr) (B : Nat) (w : World) (h : Rd w B A xs) (hn : xs.length < 4611686018427387904) (ha : Asc xs) :
    Calls Try.prog 55 #[.slice A xs.length c] w fun e w' => e = .returned (.bool true) ∧ ∃ q, w' = w.drewN q :=
  (pvalid_any A c xs B w h hn).mono fun e w' ⟨he, hq⟩ => ⟨by rw [he, validB_true ha], hq⟩
theorem pv_false (A : Option Addr) (c : Nat) (xs : List Pr) (B : Nat) (w : World) (h : Rd w B A xs) (hn : xs.length < 4611686018427387904) (ha : ¬ Asc xs) :
    Calls Try.prog 55 #[.slice A xs.length c] w fun e w' => e = .returned (.bool false) ∧ ∃ q, w' = w.drewN q :=
  (pvalid_any A c xs B w h hn).mono fun e w' ⟨he, hq⟩ => ⟨by rw [he, validB_false ha], hq⟩

def PutPost (xs : List Pr) (k : ByteArray) (v : Int) (w : World) (e : Ending) (w' : World) : Prop := ∃ ys, PutOf xs k v ys ∧ OwnPost ys w e w'
def DropPost (xs : List Pr) (k : ByteArray) (w : World) (e : Ending) (w' : World) : Prop := ∃ ys, DropOf xs k ys ∧ OwnPost ys w e w'
def FindPost (xs : List Pr) (k : ByteArray) (w : World) (e : Ending) (w' : World) : Prop := e = .returned (.tuple #[.int .u64 ((lk xs k).getD 0), .bool (lk xs k).isSome]) ∧ Below w.heap.size w w'

theorem OwnPost.up {xs : List Pr} {w w1 : World} {e : Ending} {w' : World} (h : OwnPost xs w1 e w') (hb : Below w.heap.size w w1) : OwnPost xs w e w' := by
  obtain ⟨v, he, ho, hb'⟩ := h
  exact ⟨v, he, ho.mono hb.size, hb.trans (hb'.mono hb.size)⟩

theorem one_rd (w : World) (k : ByteArray) (v : Int) : Rd (w.alloc (.cells #[.string k, .int .u64 v] 54)) (w.heap.size + 1) (some ⟨w.heap.size, 0, none⟩) [(k, v)] := fun _ =>
  ⟨_, rfl, Nat.lt_succ_self _, fun j u hj => by
    match j, hj with
    | 0, hj => simp [flat, enc] at hj; subst hj; simp [Addr.add]
    | 1, hj => simp [flat, enc] at hj; subst hj; simp [Addr.add]⟩

/-- What Put and Drop do with the span that they found. -/
theorem Found.putOf {xs : List Pr} {k : ByteArray} {i j : Nat} {f : Bool} (h : Found xs k i f) (hj : j = if f then i + 1 else i) (ha : Asc xs) (v : Int) : i ≤ j ∧ j ≤ xs.length ∧ PutOf xs k v (xs.take i ++ ([(k, v)] ++ xs.drop j)) ∧ DropOf xs k (xs.take i ++ ([] ++ xs.drop j)) := by
  obtain ⟨hi, ⟨rfl, u, hu, hs⟩ | ⟨rfl, hs⟩⟩ := h
  · simp only [if_true] at hj
    subst hj
    exact ⟨by omega, (List.getElem?_eq_some_iff.1 hu).1, hs.put ha v, hs.drop ha⟩
  · simp only [Bool.false_eq_true, if_false] at hj
    subst hj
    exact ⟨Nat.le_refl _, hi, hs.put ha v, hs.drop ha⟩

set_option maxHeartbeats 1000000 in
theorem put_any (A : Option Addr) (c : Nat) (xs : List Pr) (k : ByteArray) (v : Int) (B : Nat) (w : World) (h : Rd w B A xs) (hB : B ≤ w.heap.size) (ha : Asc xs) (hc : xs.length ≤ c) (hn : xs.length ≤ 1000000) :
    Calls Try.prog 37 #[.slice A xs.length c, .string k, .int .u64 v] w (PutPost xs k v w) := by
  have c19 := Lib.hid (pv_true A c xs B w h (by omega) ha)
  have HH := Lib.hid h
  have HA := Lib.hid ha
  clear h ha
  go_enter Try.func37, Try.ntmps37
  go_wp2_with (first
    | (go_at_call 55; refine c19.out.mono ?_; rintro e w' ⟨rfl, q, rfl⟩)
    | (go_at_call 56; refine (span_any A c xs k B _ (HH.out.drewN q) hB HA.out (by omega)).mono ?_; rintro e w1 ⟨i, j, f, rfl, hF, hj, hb⟩; have HP := Lib.hid (hF.putOf hj HA.out v); have HB := Lib.hid ((below_drew (Below.refl _ w) q).trans hb); have z1 := HP.out.1; have z2 := HP.out.2.1; clear hF hj hb c19)
    | (go_at_call 57; refine (replaced_any A c xs i j (some ⟨w1.heap.size, 0, none⟩) 1 [(k, v)] (w1.heap.size + 1) _ (((((HH.out.more hB).below HB.out).alloc HB.out.size _).more (by have := HB.out.size; omega))) (one_rd w1 k v) (by simp) z1 z2 hc hn (by simp)).mono ?_; rintro e w2 ⟨v2, rfl, ho, hb2⟩; have HO := Lib.hid ho; have HB2 := Lib.hid hb2; clear ho hb2))
  go_ret
  have hb1 : Below w.heap.size w (w1.alloc (.cells #[.string k, .int .u64 v] 54)) := HB.out.alloc HB.out.size _
  exact ⟨_, HP.out.2.2.1, OwnPost.up ⟨v2, rfl, HO.out, HB2.out⟩ hb1⟩

set_option maxHeartbeats 1000000 in
theorem drop_any (A : Option Addr) (c : Nat) (xs : List Pr) (k : ByteArray) (B : Nat) (w : World) (h : Rd w B A xs) (hB : B ≤ w.heap.size) (ha : Asc xs) (hc : xs.length ≤ c) (hn : xs.length ≤ 1000000) :
    Calls Try.prog 43 #[.slice A xs.length c, .string k] w (DropPost xs k w) := by
  have c19 := Lib.hid (pv_true A c xs B w h (by omega) ha)
  have HH := Lib.hid h
  have HA := Lib.hid ha
  clear h ha
  go_enter Try.func43, Try.ntmps43
  go_wp2_with (first
    | (go_at_call 55; refine c19.out.mono ?_; rintro e w' ⟨rfl, q, rfl⟩)
    | (go_at_call 56; refine (span_any A c xs k B _ (HH.out.drewN q) hB HA.out (by omega)).mono ?_; rintro e w1 ⟨i, j, f, rfl, hF, hj, hb⟩; have HP := Lib.hid (hF.putOf hj HA.out 0); have HB := Lib.hid ((below_drew (Below.refl _ w) q).trans hb); have z1 := HP.out.1; have z2 := HP.out.2.1; clear hF hj hb c19)
    | (go_at_call 57; refine (replaced_any A c xs i j none 0 [] w1.heap.size _ ((((HH.out.more hB).below HB.out).more HB.out.size)) Rd.nil (Nat.le_refl _) z1 z2 hc hn (by simp)).mono ?_; rintro e w2 ⟨v2, rfl, ho, hb2⟩; have HO := Lib.hid ho; have HB2 := Lib.hid hb2; clear ho hb2))
  go_ret
  exact ⟨_, HP.out.2.2.2, OwnPost.up ⟨v2, rfl, HO.out, HB2.out⟩ HB.out⟩

theorem Found.look {xs : List Pr} {k : ByteArray} {i : Nat} {f : Bool} (h : Found xs k i f) : (f = true ∧ i < xs.length ∧ ∃ u, xs[i]? = some (k, u) ∧ lk xs k = some u) ∨ (f = false ∧ lk xs k = none) := by
  obtain ⟨hi, ⟨rfl, u, hu, hs⟩ | ⟨rfl, hs⟩⟩ := h
  · exact .inl ⟨rfl, (List.getElem?_eq_some_iff.1 hu).1, u, hu, by rw [hs.lk_, lk_one, if_pos rfl]⟩
  · exact .inr ⟨rfl, by rw [hs.lk_]; rfl⟩

set_option maxHeartbeats 1000000 in
theorem find_any (A : Option Addr) (c : Nat) (xs : List Pr) (k : ByteArray) (B : Nat) (w : World) (h : Rd w B A xs) (hB : B ≤ w.heap.size) (ha : Asc xs) (hn : xs.length ≤ 1000000) :
    Calls Try.prog 42 #[.slice A xs.length c, .string k] w (FindPost xs k w) := by
  have c19 := Lib.hid (pv_true A c xs B w h (by omega) ha)
  have HH := Lib.hid h
  have HA := Lib.hid ha
  clear h ha
  go_enter Try.func42, Try.ntmps42
  go_wp2_with (go_at_call 55; refine c19.out.mono ?_; rintro e w' ⟨rfl, q, rfl⟩)
  refine (span_any A c xs k B _ (HH.out.drewN q) hB HA.out (by omega)).mono ?_
  rintro e w1 ⟨i, j, f, rfl, hF, hj, hb⟩
  have HB := Lib.hid ((below_drew (Below.refl _ w) q).trans hb)
  clear hb c19
  rcases hF.look with ⟨rfl, hil, u, hu, hlk⟩ | ⟨rfl, hlk⟩
  · simp only [if_true] at hj
    subst hj
    obtain ⟨ad, p, x, rfl, hp, hpb, hx, c0, c1⟩ := ((HH.out.more hB).below HB.out).at2 hil
    obtain rfl : (k, u) = x := by rw [hu] at hx; injection hx
    have HLK := Lib.hid hlk
    clear hlk hF hu hx c0
    go_wp2
    refine bodyPost_ret (v := .tuple #[.int .u64 u, .bool true]) (by simp [results, Try.results42]) rfl ⟨?_, HB.out⟩
    rw [HLK.out]
    rfl
  · simp only [Bool.false_eq_true, if_false] at hj
    subst hj
    have HLK := Lib.hid hlk
    clear hlk hF
    go_wp2
    refine bodyPost_ret (v := .tuple #[.int .u64 0, .bool false]) (by simp [results, Try.results42]) rfl ⟨?_, HB.out⟩
    rw [HLK.out]
    rfl

theorem put_bad (A : Option Addr) (c : Nat) (xs : List Pr) (k : ByteArray) (v : Int) (B : Nat) (w : World) (h : Rd w B A xs) (ha : ¬ Asc xs) (hn : xs.length ≤ 1000000) :
    Calls Try.prog 37 #[.slice A xs.length c, .string k, .int .u64 v] w (OwnPost [] w) := by
  have c19 := Lib.hid (pv_false A c xs B w h (by omega) ha)
  clear h
  go_enter Try.func37, Try.ntmps37
  go_wp2_with (go_at_call 55; refine c19.out.mono ?_; rintro e w' ⟨rfl, q, rfl⟩)
  go_ret
  exact ⟨_, rfl, Own.nil_ _ _, below_drew (Below.refl _ _) q⟩
theorem drop_bad (A : Option Addr) (c : Nat) (xs : List Pr) (k : ByteArray) (B : Nat) (w : World) (h : Rd w B A xs) (ha : ¬ Asc xs) (hn : xs.length ≤ 1000000) :
    Calls Try.prog 43 #[.slice A xs.length c, .string k] w (OwnPost [] w) := by
  have c19 := Lib.hid (pv_false A c xs B w h (by omega) ha)
  clear h
  go_enter Try.func43, Try.ntmps43
  go_wp2_with (go_at_call 55; refine c19.out.mono ?_; rintro e w' ⟨rfl, q, rfl⟩)
  go_ret
  exact ⟨_, rfl, Own.nil_ _ _, below_drew (Below.refl _ _) q⟩
theorem find_bad (A : Option Addr) (c : Nat) (xs : List Pr) (k : ByteArray) (B : Nat) (w : World) (h : Rd w B A xs) (ha : ¬ Asc xs) (hn : xs.length ≤ 1000000) :
    Calls Try.prog 42 #[.slice A xs.length c, .string k] w fun e w' => e = .returned (.tuple #[.int .u64 0, .bool false]) ∧ Below w.heap.size w w' := by
  have c19 := Lib.hid (pv_false A c xs B w h (by omega) ha)
  clear h
  go_enter Try.func42, Try.ntmps42
  go_wp2_with (go_at_call 55; refine c19.out.mono ?_; rintro e w' ⟨rfl, q, rfl⟩)
  refine bodyPost_ret (v := .tuple #[.int .u64 0, .bool false]) (by simp [results, Try.results42]) rfl ⟨rfl, below_drew (Below.refl _ _) q⟩

end Go.Proofs.Ytpopoihggomfiaa
