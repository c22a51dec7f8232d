/-
  The walks of the statements' helpers over memory: Equal, Spare, Wipe, Kept.
-/
import Derived.Test.YtpjfeaccicmgoaaWalksL
set_option linter.unusedVariables false
namespace Go.Proofs.Ytpjfeaccicmgoaa
open Go.Shelf Go.RowKit Go.Lib Go.Sort

set_option maxHeartbeats 1000000 in
/-- The helpers' Equal at two equal lists. -/
theorem hequal_any (A : Option Addr) (c : Nat) (B : Option Addr) (d : Nat) (xs : List Pr) (b : Nat) (w : World) (h : Rd w b A xs) (g : Rd w b B xs) (hn : xs.length ≤ 1000000) :
    Calls Try.prog 35 #[.slice A xs.length c, .slice B xs.length d] w fun e w' => e = .returned (.bool true) ∧ ∃ q, w' = w.drewN q := by
  have H := Lib.hid h
  have G := Lib.hid g
  clear h g
  have mixed := mixedOrders
  have ht : ((xs.length : Int) != (xs.length : Int)) = false := by simp
  go_enter Try.func35, Try.ntmps35
  go_wp2
  go_loopg [5] xs.length (fun kx s5 wr => ∃ i : Nat, s5 = .int .i64 i ∧ i ≤ xs.length ∧ xs.length - i ≤ kx ∧ Aside (∃ q, wr = w.drewN q))
  case atStart => exact ⟨0, rfl, Nat.zero_le _, by omega, (⟨0, rfl⟩ : ∃ q, w = w.drewN q)⟩
  case round =>
    obtain ⟨i, rfl, hi, hkx, W⟩ := hrel
    by_cases hlt : i < xs.length
    · have hltz : (i : Int) < (xs.length : Int) := by omega
      have hr : Rd wr b A xs := by obtain ⟨q, hq⟩ := W.out; rw [hq]; exact H.out.drewN q
      have gr : Rd wr b B xs := by obtain ⟨q, hq⟩ := W.out; rw [hq]; exact G.out.drewN q
      obtain ⟨ad, p, x, rfl, hp, hb, hx, c0, c1⟩ := hr.at2 hlt
      obtain ⟨ad2, p2, x2, rfl, hp2, hb2, hx2, d0, d1⟩ := gr.at2 hlt
      obtain rfl : x = x2 := by rw [hx] at hx2; injection hx2
      have heq := eq_pair x
      clear hx hx2 hr gr
      go_wp2_with fail
      go_quiet (fail)
      clear c0 c1 d0 d1 heq hp hp2
      go_wp2
      go_roundg (xs.length - (i + 1))
      case measure => omega
      case rel => exact ⟨i + 1, by go_num, by omega, Nat.le_refl _, (by obtain ⟨q, hq⟩ := W.out; exact ⟨q + nq, by rw [hq]; exact World.drewN_drewN ..⟩ : ∃ q, _)⟩
    · go_wp2
      go_ret
      exact ⟨rfl, W.out⟩


theorem wpList_append_list {w w0 : World} {ops : Array Oper} {rest : List Oper} {o : Oper} {a : Act} {Q : Exit → Act → World → Prop} (hgd : o.guard = none) (s x : Operand)
    (ho : o.op = .call { callee := .builtin .append, args := #[s, x], argTypes := #[22, 22] }) (base : Nat) (v : Value) (ys : List Pr) (hs : a.eval s = v) (hown : Own w base v ys)
    (A : Option Addr) (m c B : Nat) (ns : List Pr) (hx : a.eval x = .slice A m c) (hm : m = ns.length) (hR : Rd w B A ns) (hA : A = none → c = 0)
    (hn : ys.length + ns.length ≤ 1000000) (hb : Below base w0 w) (hbase : base ≤ w.heap.size)
    (h : ∀ v' w', Hid (Own w' base v' (ys ++ ns)) → Below base w0 w' → wpList Try.prog ops Q rest (a.put o.dst v') w') :
    wpList Try.prog ops Q (o :: rest) a w := by
  refine wpList_plain hgd fun K hK => ?_
  obtain ⟨v', w', hr, h2, h3⟩ := run_append_any o.type base v ys hown A m c B ns hm hR hA hn hbase
  unfold Oper.wp execOp
  simp only [ho, resolve, invoke, builtin, Sem.run_bind, Sem.run_pure, Result.andThen_ok, List.map_toArray, List.map_cons, List.map_nil, hs, hx]
  simp only [hr, Result.andThen_ok]
  exact hK _ _ (h v' w' h2 (hb.trans h3))

theorem own_empty (w : World) : Own (w.alloc (.cells #[] 27)) w.heap.size (.slice (some ⟨w.heap.size, 0, none⟩) 0 0) [] :=
  ⟨rfl, .inr ⟨w.heap.size, 0, #[], rfl, Nat.le_refl _, heap_alloc_new w _, Nat.le_refl _, by simp [maxLen], rfl, rfl⟩⟩

def SparePost (xs : List Pr) (f : Pr) (w : World) (e : Ending) (w' : World) : Prop :=
  ∃ A, e = .returned (.slice A xs.length (xs.length + 3)) ∧ Rd w' w'.heap.size A (xs ++ [f, f, f]) ∧ Below w.heap.size w w'

set_option maxHeartbeats 1000000 in
theorem spare_any (A : Option Addr) (c : Nat) (xs : List Pr) (f : Pr) (w : World) (h : Rd w w.heap.size A xs) (hA : A = none → c = 0) (hn : xs.length ≤ 50000) :
    Calls Try.prog 21 #[.slice A xs.length c, .agg #[.string f.1, .int .u64 f.2]] w (SparePost xs f w) := by
  have H := Lib.hid h
  have HA := Lib.hid hA
  clear h hA
  go_enter Try.func21, Try.ntmps21
  go_wp2_with (first
    | (at_builtin
       refine wpList_append_list (w0 := w.alloc (.cells #[.string f.1, .int .u64 f.2] 27)) rfl (.tmp 6) (.tmp 7) rfl (w.heap.size + 1) (.slice (some ⟨w.heap.size + 1, 0, none⟩) 0 0) [] rfl (by have := own_empty (w.alloc (.cells #[.string f.1, .int .u64 f.2] 27)); simpa using this) A xs.length c w.heap.size xs rfl rfl ((H.out.alloc (Nat.le_refl _) _).alloc (by simp) _) HA.out (by simp; omega) ((Below.refl _ _).alloc (by simp) _) (by simp) ?_
       intro va wa HOa HBa
       have HI := Lib.hid (⟨HOa.out, HBa⟩ : WithI f w wa va ([] ++ xs))
       obtain ⟨b0, b1⟩ := HI.out.box)
    | (at_builtin
       refine wpList_append_list (w0 := w.alloc (.cells #[.string f.1, .int .u64 f.2] 27)) rfl (.tmp 9) (.tmp 13) rfl (w.heap.size + 1) va ([] ++ xs) rfl (HOa.out.alloc _) _ 3 3 _ [f, f, f] rfl rfl (lit_rd wa [f, f, f]) (fun e => by cases e) (by simp; omega) (HBa.alloc HI.out.size _) (by have := HI.out.size; simp; omega) ?_
       intro vb wb HOb HBb
       obtain ⟨Ab, cb, rfl, hRb, _, hcb⟩ := HOb.out.open2
       have HRb := Lib.hid hRb
       obtain ⟨N, hN⟩ : ∃ N, N = ([] ++ xs ++ [f, f, f]).length := ⟨_, rfl⟩
       rw [← hN] at hcb ⊢
       have hN3 : N = xs.length + 3 := by rw [hN]; simp
       have t1 : ((N : Int) - 3).toNat = xs.length := by omega
       have t2 : (0 : Int) ≤ (N : Int) - 3 := by omega
       have t3 : (3 : Int) ≤ (N : Int) := by omega
       have t4 : (N : Int) - 3 ≤ (N : Int) := by omega
       have HN3 := Lib.hid hN3
       clear hN hN3 hRb b0 b1))
  go_ret
  obtain rfl : N = xs.length + 3 := HN3.out
  refine ⟨Ab, rfl, by simpa using HRb.out, ((Below.refl _ w).alloc (Nat.le_refl _) _).trans (HBb.mono (Nat.le_succ _))⟩

/-! ### Wipe -/
/-- Row g, of so many cells. -/
def RowN (w : World) (g S : Nat) : Prop := ∃ cur, w.heap[g]? = some (.cells cur 27 (0, 0)) ∧ cur.size = S
theorem RowN.lt {w : World} {g S : Nat} (h : RowN w g S) : g < w.heap.size := by
  obtain ⟨cur, hg, _⟩ := h
  exact (Array.getElem?_eq_some_iff.1 hg).1
theorem RowN.cell {w : World} {g S i : Nat} (h : RowN w g S) (hi : i < S) : (∃ v, w.cell? ⟨g, i, none⟩ = some v) ∧ w.frozen? ⟨g, i, none⟩ = false := by
  obtain ⟨cur, hg, hs⟩ := h
  refine ⟨⟨cur[i]'(by omega), ?_⟩, by simp [World.frozen?, hg]⟩
  rw [cell_of_row w g i cur 27 (0, 0) hg, Array.getElem?_eq_getElem (by omega)]
theorem RowN.set {w : World} {g S : Nat} (h : RowN w g S) (b o : Nat) (v : Value) : RowN (w.setCell ⟨b, o, none⟩ v) g S := by
  obtain ⟨cur, hg, hs⟩ := h
  by_cases e : b = g
  · subst e
    refine ⟨cur.setIfInBounds o v, ?_, by simpa using hs⟩
    simp [World.setCell, Array.getElem?_modify, hg]
  · exact ⟨cur, (Below.heap_setCell w ⟨b, o, none⟩ v g (fun h => e h.symm)).trans hg, hs⟩
theorem grown_set {w w' : World} {g : Nat} (h : w.grownBy w' (some g)) (o : Nat) (v : Value) : w.grownBy (w'.setCell ⟨g, o, none⟩ v) (some g) :=
  ⟨h.os, h.tape, h.output, by simpa using h.size, fun k hk hne => (Below.heap_setCell w' ⟨g, o, none⟩ v k (fun e => hne (by rw [e]))).trans (h.block k hk hne)⟩
theorem RowN.old {w w' : World} {g S : Nat} (h : RowN w g S) (e : w'.heap[g]? = w.heap[g]?) : RowN w' g S := by
  obtain ⟨cur, hg, hs⟩ := h
  exact ⟨cur, e.trans hg, hs⟩

def WipePost (g S : Nat) (w : World) (e : Ending) (w' : World) : Prop := e = .returned (.tuple #[]) ∧ w.grownBy w' (some g) ∧ RowN w' g S

set_option maxHeartbeats 1000000 in
theorem wipe_any (g m c S : Nat) (f : Pr) (w : World) (h : RowN w g S) (hm : m * 2 ≤ S) (hn : m ≤ 1000000) :
    Calls Try.prog 22 #[.slice (some ⟨g, 0, none⟩) m c, .agg #[.string f.1, .int .u64 f.2]] w (WipePost g S w) := by
  have H := Lib.hid h
  have hgw := h.lt
  clear h
  have I0 : Aside (RowN (w.alloc (.cells #[.string f.1, .int .u64 f.2] 27)) g S) := H.out.old (Below.heap_alloc w _ g hgw)
  have G0 : Aside (w.grownBy (w.alloc (.cells #[.string f.1, .int .u64 f.2] 27)) (some g)) := ⟨rfl, rfl, rfl, by simp, fun k hk _ => Below.heap_alloc w _ k hk⟩
  go_enter Try.func22, Try.ntmps22
  go_wp2
  go_loopg [4] m (fun kx s4 wr => ∃ i : Nat, s4 = .int .i64 i ∧ i ≤ m ∧ m - i ≤ kx ∧ Aside (RowN wr g S) ∧ Aside (w.grownBy wr (some g)) ∧ Aside (wr.cell? ⟨w.heap.size, 0, none⟩ = some (.string f.1) ∧ wr.cell? ⟨w.heap.size, 1, none⟩ = some (.int .u64 f.2)))
  case atStart => exact ⟨0, rfl, Nat.zero_le _, by omega, I0, G0, (⟨by simp, by simp⟩ : _ ∧ _)⟩
  case round =>
    clear I0 G0
    obtain ⟨i, rfl, hi, hkx, R, G, BX⟩ := hrel
    by_cases hlt : i < m
    · have hltz : (i : Int) < (m : Int) := by omega
      obtain ⟨b0, b1⟩ := BX.out
      obtain ⟨⟨u0, c0⟩, f0⟩ := R.out.cell (i := i * 2) (by omega)
      obtain ⟨⟨u1, c1⟩, f1⟩ := R.out.cell (i := i * 2 + 1) (by omega)
      have hgb : ¬ g = w.heap.size := by omega
      have hgb' : ¬ w.heap.size = g := by omega
      go_wp2
      go_roundg (m - (i + 1))
      case measure => omega
      case rel =>
        refine ⟨i + 1, by go_num, by omega, Nat.le_refl _, (R.out.set _ _ _).set _ _ _, grown_set (grown_set G.out _ _) _ _, (⟨?_, ?_⟩ : _ ∧ _)⟩
        · rw [World.cell?_setCell_other _ _ _ _ (fun e => hgb (by injection e)), World.cell?_setCell_other _ _ _ _ (fun e => hgb (by injection e))]; exact BX.out.1
        · rw [World.cell?_setCell_other _ _ _ _ (fun e => hgb (by injection e)), World.cell?_setCell_other _ _ _ _ (fun e => hgb (by injection e))]; exact BX.out.2
    · go_wp2
      go_end0
      exact ⟨rfl, G.out, R.out⟩


theorem wipe_nil (c : Nat) (f : Pr) (w : World) :
    Calls Try.prog 22 #[.slice none 0 c, .agg #[.string f.1, .int .u64 f.2]] w fun e w' => e = .returned (.tuple #[]) ∧ Below w.heap.size w w' := by
  go_enter Try.func22, Try.ntmps22
  go_wp2
  go_loopg [4] 1 (fun kx s4 wr => s4 = .int .i64 0 ∧ Aside (Below w.heap.size w wr))
  case atStart => exact ⟨rfl, (Below.refl _ w).alloc (Nat.le_refl _) _⟩
  case round =>
    obtain ⟨rfl, HB⟩ := hrel
    go_wp2
    go_end0
    exact ⟨rfl, HB.out⟩

/-! ### Kept -/
theorem Rd.take_left {w : World} {B : Nat} {A : Option Addr} {xs ys : List Pr} (h : Rd w B A (xs ++ ys)) : Rd w B A xs := by
  have := h.take xs.length
  rwa [List.take_left] at this

set_option maxHeartbeats 2000000 in
theorem kept_any (A : Option Addr) (B : Option Addr) (d : Nat) (xs : List Pr) (f : Pr) (w : World) (h : Rd w w.heap.size A (xs ++ [f, f, f])) (g : Rd w w.heap.size B xs) (hn : xs.length ≤ 50000) :
    Calls Try.prog 23 #[.slice A xs.length (xs.length + 3), .slice B xs.length d, .agg #[.string f.1, .int .u64 f.2]] w fun e w' => e = .returned (.bool true) ∧ Below w.heap.size w w' := by
  have mixed := mixedOrders
  obtain ⟨w1, hw1⟩ : ∃ w1, w1 = w.alloc (.cells #[.string f.1, .int .u64 f.2] 27) := ⟨_, rfl⟩
  have hB1 : Below w.heap.size w w1 := by rw [hw1]; exact (Below.refl _ w).alloc (Nat.le_refl _) _
  have hz : w1.heap.size = w.heap.size + 1 := by rw [hw1]; simp
  have b0 : w1.cell? ⟨w.heap.size, 0, none⟩ = some (.string f.1) := by rw [hw1]; simp
  have b1 : w1.cell? ⟨w.heap.size, 1, none⟩ = some (.int .u64 f.2) := by rw [hw1]; simp
  have c35 := hequal_any A (xs.length + 3) B d xs _ w1 (h.below hB1).take_left (g.below hB1) (by omega)
  rw [hw1] at c35
  have C35 := Lib.hid c35
  have H1 := h.below hB1
  obtain ⟨ad, p0, x0, rfl, hp0, hq0, hx0, a0, a0'⟩ := H1.at2 (i := xs.length) (by simp)
  obtain ⟨_, p1, x1, e1, hp1, hq1, hx1, a1, a1'⟩ := H1.at2 (i := xs.length + 1) (by simp)
  obtain ⟨_, p2, x2, e2, hp2, hq2, hx2, a2, a2'⟩ := H1.at2 (i := xs.length + 2) (by simp)
  cases e1
  cases e2
  obtain rfl : x0 = f := by simpa [List.getElem?_append_right] using hx0.symm
  obtain rfl : x1 = x0 := by simpa [List.getElem?_append_right] using hx1.symm
  obtain rfl : x2 = x1 := by simpa [List.getElem?_append_right] using hx2.symm
  have heq := eq_pair x2
  have HB1 := Lib.hid hB1
  rw [hw1] at b0 b1 a0 a0' a1 a1' a2 a2'
  have n1 : ((xs.length : Int) + 1).toNat = xs.length + 1 := by omega
  have n2 : ((xs.length : Int) + 2).toNat = xs.length + 2 := by omega
  have n3 : ((xs.length : Int) + 3).toNat = xs.length + 3 := by omega
  have m1 : IntKind.i64.wrap ((xs.length : Int) + 1) = (xs.length : Int) + 1 := by rw [IntKind.wrap_i64]; omega
  have m2 : IntKind.i64.wrap ((xs.length : Int) + 2) = (xs.length : Int) + 2 := by rw [IntKind.wrap_i64]; omega
  have k1 : (0 : Int) ≤ (xs.length : Int) + 1 := by omega
  have k2 : (0 : Int) ≤ (xs.length : Int) + 2 := by omega
  have k3 : (0 : Int) ≤ (xs.length : Int) + 3 := by omega
  have q0 : (xs.length : Int) < (xs.length : Int) + 3 := by omega
  have q1 : (xs.length : Int) + 1 < (xs.length : Int) + 3 := by omega
  have q2 : (xs.length : Int) + 2 < (xs.length : Int) + 3 := by omega
  have HW1 := Lib.hid hw1
  clear hw1 c35 h g H1 hx0 hx1 hx2 hq0 hq1 hq2 hB1 hz
  go_enter Try.func23, Try.ntmps23
  go_wp2_with (go_at_call 35; refine C35.out.mono ?_; rintro e w' ⟨rfl, q, rfl⟩)
  go_quiet (fail)
  go_wp2
  go_ret
  have e1 := HB1.out
  rw [HW1.out] at e1
  exact ⟨rfl, below_drew (below_drew e1 _) _⟩


theorem refOf_up2 (A : Option Addr) (c : Nat) (xs : List Pr) (w : World) (h : Rd w w.heap.size A xs) (hn : xs.length ≤ 50000) :
    Calls Try.prog 10 #[.slice A xs.length c] w fun e w' => ∃ (A' : Option Addr) (c' : Nat) (ys : List Pr), e = .returned (.slice A' ys.length c') ∧ OfOf xs ys ∧ Rd w' w'.heap.size A' ys ∧ (A' = none → c' = 0) ∧ ys.length ≤ c' ∧ Below w.heap.size w w' :=
  (refOf_any A c xs w h hn).mono fun _ _ ⟨ys, hP, v, he, ho, hb⟩ => by
    obtain ⟨A', c', rfl, h1, h2, h3⟩ := ho.open2
    exact ⟨A', c', ys, he, hP, h1, h2, h3, hb⟩

/-- A value that is nil or leads to a row between two blocks. -/
def RowV (B H : Nat) (w : World) (v : Value) : Prop :=
  v = .slice none 0 0 ∨ ∃ g m c S, v = .slice (some ⟨g, 0, none⟩) m c ∧ RowN w g S ∧ m * 2 ≤ S ∧ m ≤ 1000000 ∧ B ≤ g ∧ g < H
theorem Own.rowV {w : World} {base B : Nat} {v : Value} {xs : List Pr} (h : Own w base v xs) (hB : B ≤ base) (hn : xs.length ≤ 1000000) : RowV B w.heap.size w v := by
  rcases h.2 with ⟨rfl, _⟩ | ⟨g, cap, cur, rfl, hb, hg, hnc, hcm, hcs, ht⟩
  · exact .inl rfl
  · exact .inr ⟨g, xs.length, cap, cur.size, rfl, ⟨cur, hg, rfl⟩, by rw [hcs]; omega, hn, by omega, (Array.getElem?_eq_some_iff.1 hg).1⟩
theorem RowV.below {B H : Nat} {w w' : World} {v : Value} (h : RowV B H w v) (hb : Below H w w') {H' : Nat} (hH : H ≤ H') : RowV B H' w' v := by
  rcases h with rfl | ⟨g, m, c, S, rfl, hr, h1, h2, h3, h4⟩
  · exact .inl rfl
  · exact .inr ⟨g, m, c, S, rfl, hr.old (hb.block g h4), h1, h2, h3, by omega⟩
theorem RowN.size_eq {w : World} {g S T : Nat} (h : RowN w g S) (k : RowN w g T) : S = T := by
  obtain ⟨c1, h1, h2⟩ := h
  obtain ⟨c2, k1, k2⟩ := k
  rw [h1] at k1
  injection k1 with k1
  injection k1 with k1
  rw [← h2, ← k2, k1]
theorem RowV.wipe {B H : Nat} {w w' : World} {v : Value} (h : RowV B H w v) {g S : Nat} (hg : RowN w g S) (hw : w.grownBy w' (some g)) (hr : RowN w' g S) : RowV B H w' v := by
  rcases h with rfl | ⟨g', m, c, S', rfl, hr', h1, h2, h3, h4⟩
  · exact .inl rfl
  · by_cases e : g' = g
    · subst e
      obtain rfl := hr'.size_eq hg
      exact .inr ⟨g', m, c, S', rfl, hr, h1, h2, h3, h4⟩
    · exact .inr ⟨g', m, c, S', rfl, hr'.old (hw.block g' hr'.lt (fun e' => e (by injection e'))), h1, h2, h3, h4⟩

structure KI (w3 : World) (H : Nat) (v4 v5 v6 : Value) (wr : World) : Prop where
  below : Below w3.heap.size w3 wr
  blk : wr.heap[H]? = some (.cells #[v4, v5, v6] 22 (0, 0))
  r4 : RowV w3.heap.size H wr v4
  r5 : RowV w3.heap.size H wr v5
  r6 : RowV w3.heap.size H wr v6
theorem KI.wipe {w3 wr w' : World} {H : Nat} {v4 v5 v6 : Value} (h : KI w3 H v4 v5 v6 wr) {g S : Nat} (hg : RowN wr g S) (h1 : w3.heap.size ≤ g) (h2 : g < H) (hw : wr.grownBy w' (some g)) (hr : RowN w' g S) : KI w3 H v4 v5 v6 w' :=
  ⟨h.below.trans ((Below.refl w3.heap.size wr).grown hw h.below.size (fun k hk => by injection hk with hk; omega)),
    (hw.block H (Array.getElem?_eq_some_iff.1 h.blk).1 (fun e => by injection e with e; omega)).trans h.blk, h.r4.wipe hg hw hr, h.r5.wipe hg hw hr, h.r6.wipe hg hw hr⟩
theorem KI.up {w3 wr w' : World} {H : Nat} {v4 v5 v6 : Value} (h : KI w3 H v4 v5 v6 wr) (hb : Below wr.heap.size wr w') : KI w3 H v4 v5 v6 w' := by
  have hH : H < wr.heap.size := (Array.getElem?_eq_some_iff.1 h.blk).1
  have hb' : Below H wr w' := hb.mono (Nat.le_of_lt hH)
  exact ⟨h.below.trans (hb.mono h.below.size), (hb.block H hH).trans h.blk, h.r4.below hb' (Nat.le_refl _), h.r5.below hb' (Nat.le_refl _), h.r6.below hb' (Nat.le_refl _)⟩
theorem KI.cells {w3 wr : World} {H : Nat} {v4 v5 v6 : Value} (h : KI w3 H v4 v5 v6 wr) : wr.cell? ⟨H, 0, none⟩ = some v4 ∧ wr.cell? ⟨H, 1, none⟩ = some v5 ∧ wr.cell? ⟨H, 2, none⟩ = some v6 :=
  ⟨cell_of_row wr H 0 _ 22 (0, 0) h.blk, cell_of_row wr H 1 _ 22 (0, 0) h.blk, cell_of_row wr H 2 _ 22 (0, 0) h.blk⟩

/-- Wipe at one of the three. -/
theorem wipe_ki {w3 wr : World} {H : Nat} {v4 v5 v6 v : Value} (h : KI w3 H v4 v5 v6 wr) (f : Pr) (hv : RowV w3.heap.size H wr v) :
    Calls Try.prog 22 #[v, .agg #[.string f.1, .int .u64 f.2]] wr fun e w' => e = .returned (.tuple #[]) ∧ KI w3 H v4 v5 v6 w' := by
  rcases hv with rfl | ⟨g, m, c, S, rfl, hr, h1, h2, h3, h4⟩
  · exact (wipe_nil 0 f wr).mono fun _ _ ⟨he, hb⟩ => ⟨he, h.up hb⟩
  · exact (wipe_any g m c S f wr hr h1 h2).mono fun _ _ ⟨he, hg, hr'⟩ => ⟨he, h.wipe hr h3 h4 hg hr'⟩

end Go.Proofs.Ytpjfeaccicmgoaa
