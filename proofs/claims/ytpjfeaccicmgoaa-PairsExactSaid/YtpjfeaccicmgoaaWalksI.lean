/-
  The walk of package pairs: Of.
-/
import Derived.Test.YtpjfeaccicmgoaaWalksH
set_option linter.unusedVariables false
namespace Go.Proofs.Ytpjfeaccicmgoaa
open Go.Shelf Go.RowKit Go.Lib Go.Sort

/-- One element appended within a row that is known whole. -/
theorem wpList_append_row {w : World} {ops : Array Oper} {rest : List Oper} {o : Oper} {a : Act} {Q : Exit → Act → World → Prop} (hgd : o.guard = none) (s x : Operand)
    (ho : o.op = .call { callee := .builtin .append, args := #[s, x], argTypes := #[22, 22] }) (g k cap : Nat) (cur : List Value) (hs : a.eval s = .slice (some ⟨g, 0, none⟩) k cap) (hg : Hid (w.heap[g]? = some (.cells cur.toArray 27 (0, 0))))
    (ad : Addr) (c : Nat) (news : List Value) (hx : a.eval x = .slice (some ad) 1 c) (hl : news.length = 2) (hnews : ∀ j u, news[j]? = some u → w.cell? (ad.add j) = some u) (h1 : ∀ u ∈ news, u.oneCell' = true)
    (hroom : k + 1 ≤ cap) (hfit : k * 2 + 2 ≤ cur.length) (B : Nat) (w0 : World) (hb : Below B w0 w) (hB : B ≤ g)
    (h : ∀ w', Hid (w'.heap[g]? = some (.cells (splice cur (k * 2) news).toArray 27 (0, 0))) → Below B w0 w' → wpList Try.prog ops Q rest (a.put o.dst (.slice (some ⟨g, 0, none⟩) (k + 1) cap)) w') :
    wpList Try.prog ops Q (o :: rest) a w := by
  obtain ⟨i0, hi0, hz0, hz1, hz2⟩ := info_parts pairInfo
  refine wpList_plain hgd fun K hK => ?_
  have hr := run_append_room (P := Try.prog) w 22 o.type 27 i0 Try.underlying22 hi0 g k cap cur.toArray hg.out ad 1 c news (by rw [hl, hz1]) hnews h1 hroom (by rw [hz1, hl]; simpa using hfit)
  unfold Oper.wp execOp
  simp only [ho, resolve, invoke, builtin, Sem.run_bind, Sem.run_pure, Result.andThen_ok, List.map_toArray, List.map_cons, List.map_nil, hs, hx, hr]
  refine hK _ _ (h _ (show _ = _ from ?_) (below_setRow hb hB _))
  rw [hz1]
  simpa [splice] using setRow_heap w g _ _ 27 _ hg.out

def OfPost (xs : List Pr) (w : World) (e : Ending) (w' : World) : Prop := ∃ ys, OfOf xs ys ∧ OwnPost ys w e w'

theorem splice_flat (a r : List Pr) (x : Pr) (r0 : Pr) : splice (flat (a ++ r0 :: r)) (a.length * 2) (enc x) = flat ((a ++ [x]) ++ r) := by
  unfold splice
  rw [flat_take, show a.length * 2 + (enc x).length = (a.length + 1) * 2 by simp [enc]; omega, flat_drop]
  have e1 : (a ++ r0 :: r).take a.length = a := by simp
  have e2 : (a ++ r0 :: r).drop (a.length + 1) = r := by
    rw [List.drop_append]
    simp
  rw [e1, e2, flat_append, flat_append, List.append_assoc]
  rfl

theorem splice_whole {Z X : List Value} (h : Z.length = X.length) : splice Z 0 X = X := by
  unfold splice
  simp [List.drop_of_length_le (Nat.le_of_eq h)]

/-- What the loop knows of its row: the kept ones stand ahead, what is not yet read is as it was. -/
structure Kept (g : Nat) (d : Array Pr) (i : Nat) (w0 w : World) : Prop where
  ex : ∃ rest : List Pr, (kp d i).length + rest.length = d.size ∧ (∀ t, i ≤ t → t < d.size → (kp d i ++ rest)[t]? = some d[t]!) ∧ w.heap[g]? = some (.cells (flat (kp d i ++ rest)).toArray 27 (0, 0))
  below : Below g w0 w

theorem Kept.cells {g : Nat} {d : Array Pr} {i : Nat} {w0 w : World} (h : Kept g d i w0 w) {t : Nat} (h1 : i ≤ t) (h2 : t < d.size) :
    w.cell? ⟨g, t * 2, none⟩ = some (.string d[t]!.1) ∧ w.cell? ⟨g, t * 2 + 1, none⟩ = some (.int .u64 d[t]!.2) := by
  obtain ⟨rest, hl, ht, hg⟩ := h.ex
  have hx := ht t h1 h2
  exact ⟨by rw [cell_of_row w g _ _ 27 (0, 0) hg]; simpa using flat_get0 _ t _ hx, by rw [cell_of_row w g _ _ 27 (0, 0) hg]; simpa using flat_get1 _ t _ hx⟩
theorem Kept.lt {g : Nat} {d : Array Pr} {i : Nat} {w0 w : World} (h : Kept g d i w0 w) : g < w.heap.size := by
  obtain ⟨rest, hl, ht, hg⟩ := h.ex
  exact (Array.getElem?_eq_some_iff.1 hg).1
theorem Kept.up {g : Nat} {d : Array Pr} {i : Nat} {w0 w w' : World} (h : Kept g d i w0 w) {B : Nat} (hb : Below B w w') (hB : g < B) : Kept g d i w0 w' := by
  obtain ⟨rest, hl, ht, hg⟩ := h.ex
  exact ⟨⟨rest, hl, ht, (hb.block g hB).trans hg⟩, h.below.trans (hb.mono (by omega))⟩
theorem Kept.skip {g : Nat} {d : Array Pr} {i : Nat} {w0 w : World} (h : Kept g d i w0 w) (hk : keepB d i = false) : Kept g d (i + 1) w0 w := by
  obtain ⟨rest, hl, ht, hg⟩ := h.ex
  have e : kp d (i + 1) = kp d i := by rw [kp, hk]; rfl
  exact ⟨⟨rest, by rw [e]; exact hl, fun t h1 h2 => by rw [e]; exact ht t (by omega) h2, by rw [e]; exact hg⟩, h.below⟩
theorem kp_succ_length {d : Array Pr} {i : Nat} (hk : keepB d i = true) : (kp d (i + 1)).length = (kp d i).length + 1 := by rw [kp, hk]; simp
/-- The row behind an append. -/
theorem Kept.push {g : Nat} {d : Array Pr} {i : Nat} {w0 w w' : World} {cur : List Value} (h : Kept g d i w0 w) (hi : i < d.size) (hk : keepB d i = true) (hc : w.heap[g]? = some (.cells cur.toArray 27 (0, 0)))
    (hG : w'.heap[g]? = some (.cells (splice cur ((kp d i).length * 2) (enc d[i]!)).toArray 27 (0, 0))) (hb : Below g w0 w') : Kept g d (i + 1) w0 w' := by
  obtain ⟨rest, hl, ht, hg⟩ := h.ex
  have e : kp d (i + 1) = kp d i ++ [d[i]!] := by rw [kp, hk]; rfl
  have hle := kp_le d i
  obtain ⟨r0, rest', rfl⟩ : ∃ r0 rest', rest = r0 :: rest' := by
    cases rest with
    | nil => simp at hl; omega
    | cons r0 r => exact ⟨r0, r, rfl⟩
  have ec : cur = flat (kp d i ++ r0 :: rest') := by
    rw [hg] at hc
    injection hc with hc
    injection hc with hc
    exact (List.toArray_inj hc).symm
  rw [ec, splice_flat] at hG
  refine ⟨⟨rest', by rw [e]; simp at hl ⊢; omega, fun t h1 h2 => ?_, by rw [e]; exact hG⟩, hb⟩
  rw [e]
  have := ht t (by omega) h2
  rw [List.getElem?_append_right (by omega)] at this
  rw [List.getElem?_append_right (by simp; omega)]
  obtain ⟨q, hq⟩ : ∃ q, t - (kp d i).length = q + 1 := ⟨t - (kp d i).length - 1, by omega⟩
  rw [hq, List.getElem?_cons_succ] at this
  rw [List.length_append, List.length_singleton, show t - ((kp d i).length + 1) = q by omega]
  exact this

theorem heap_alloc_old {w : World} {g : Nat} {o : Option Obj} (h : Hid (w.heap[g]? = o)) (hg : g < w.heap.size) (x : Obj) : Hid ((w.alloc x).heap[g]? = o) := by
  show _ = _
  rw [← h.out]
  exact Below.heap_alloc w x g hg
theorem one_cells (w : World) (x : Pr) (t : TypeId) : ∀ j u, (enc x)[j]? = some u → (w.alloc (.cells #[.string x.1, .int .u64 x.2] t)).cell? ((⟨w.heap.size, 0, none⟩ : Addr).add j) = some u := by
  intro j u hj
  match j, hj with
  | 0, hj => simp [enc] at hj; subst hj; simp [Addr.add]
  | 1, hj => simp [enc] at hj; subst hj; simp [Addr.add]

set_option maxHeartbeats 4000000 in
theorem of_any (A : Option Addr) (c : Nat) (xs : List Pr) (B : Nat) (w : World) (h : Rd w B A xs) (hB : B ≤ w.heap.size) (hn : xs.length < 40) :
    Calls Try.prog 15 #[.slice A xs.length c] w (OfPost xs w) := by
  obtain ⟨i0, hi0, hz0, hz1, hz2⟩ := info_parts pairInfo
  have HX := Lib.hid h
  clear h
  have mixed := mixedOrders
  go_enter Try.func15, Try.ntmps15
  go_wp2_with (at_make
               refine wpList_make_full w rfl (.tmp 8) (.tmp 8) 22 rfl w.heap.size 27 i0 _ 2 Try.underlying22 hi0 hz0 hz1 _ _ _ _ xs.length rfl rfl rfl rfl (by rw [hz2]; omega) (by simp only [maxLen]; omega) (Nat.le_refl _) ?_
               intro w1 hown1 hg1
               obtain ⟨Z, hZ, hG1⟩ := made_heap hown1
               have HZ := Lib.hid hZ
               have HG1 := Lib.hid hG1
               have hB1 : Below w.heap.size w w1 := (Below.refl _ _).grown hg1 (Nat.le_refl _) (by simp)
               clear hown1 hg1 hZ hG1)
  refine upon_copy (w0 := w) _ _ _ _ _ _ _ w.heap.size 0 Z HG1 (flat xs) xs.length (Nat.min_self _).symm (flat_length xs) (fun hf => ⟨rfl, by obtain ⟨ad, e, _, hc⟩ := (HX.out.more hB).below hB1 hf; exact ⟨ad, e, hc⟩⟩) (by rw [flat_length, HZ.out]; omega) (flat_one _) w.heap.size hB1 (Nat.le_refl _) ?_
  intro w2 HG2' hB2
  have HG2 : Hid (w2.heap[w.heap.size]? = some (.cells (flat xs).toArray 27 (0, 0))) := by
    have := HG2'.out
    rw [splice_whole (by rw [HZ.out, flat_length])] at this
    exact this
  clear HG2' HG1 hB1
  have c31 := Lib.hid (sortStable_any w.heap.size 0 xs.length xs.toArray w2 (row_of_flat HG2.out) (by simpa using hn))
  go_wp2_with (go_at_call 31; refine (c31.out).mono ?_; rintro e w3 ⟨rfl, d', hm, hS⟩; have HM := Lib.hid hm; have HS := Lib.hid hS; clear hm hS c31)
  have hz : d'.size = xs.length := by have := HM.out.chg.size; simpa using this
  have HZ' := Lib.hid hz
  have K0 : Aside (Kept w.heap.size d' 0 w w3) := ⟨⟨d'.toList, by simp [kp], fun t _ ht => by simp only [kp, List.nil_append]; exact get_toList d' t ht, (blk_sorted HG2.out (by simp [flat_length, hz]) HS.out : w3.heap[w.heap.size]? = some (.cells (flat ([] ++ d'.toList)).toArray 27 (0, 0)))⟩, hB2.trans (below_sorted (Nat.le_refl _) (Array.getElem?_eq_some_iff.1 HG2.out).1 HS.out)⟩
  clear hz HG2 HS hB2
  go_loopg [4, 19] xs.length (fun kx s4 s19 wr => ∃ i j : Nat, s4 = .slice (some ⟨w.heap.size, 0, none⟩) j xs.length ∧ s19 = .int .i64 i ∧ i ≤ xs.length ∧ xs.length - i ≤ kx ∧ Aside (j = (kp d' i).length) ∧ Aside (Kept w.heap.size d' i w wr))
  case atStart => exact ⟨0, 0, rfl, rfl, Nat.zero_le _, by omega, rfl, K0⟩
  case round =>
    clear K0
    obtain ⟨i, j, rfl, rfl, hi, hkx, J, K1⟩ := hrel
    by_cases hlt : i < xs.length
    · have hltz : (i : Int) < (xs.length : Int) := by omega
      have hgl := K1.out.lt
      obtain ⟨c0, c1⟩ := K1.out.cells (Nat.le_refl i) (by rw [HZ'.out]; exact hlt)
      obtain ⟨x, hx⟩ : ∃ x, x = d'[i]! := ⟨_, rfl⟩
      rw [← hx] at c0 c1
      have X : Aside _ := hx
      clear hx
      go_wp2_with fail
      obtain ⟨wb, hwb⟩ : ∃ wb, wb = wr.alloc (.cells #[.string x.1, .int .u64 x.2] 27) := ⟨_, rfl⟩
      rw [← hwb]
      have b0 : wb.cell? ⟨wr.heap.size, 0, none⟩ = some (.string x.1) := by rw [hwb]; simp
      have b1 : wb.cell? ⟨wr.heap.size, 1, none⟩ = some (.int .u64 x.2) := by rw [hwb]; simp
      have hgb : w.heap.size < wb.heap.size := by rw [hwb]; simp; omega
      have KK : Aside (Kept w.heap.size d' i w wb) := by
        show Kept _ _ _ _ _
        rw [hwb]
        exact K1.out.up ((Below.refl wr.heap.size wr).alloc (Nat.le_refl _) _) hgl
      have hBb := KK.out.below
      obtain ⟨rest, hl, _, hgc⟩ := KK.out.ex
      have HGc := Lib.hid hgc
      have HL := Lib.hid hl
      have hjn : j + 1 ≤ xs.length := by have := kp_le d' i; have := J.out; omega
      have ni : (0 : Int) ≤ (i : Int) + 1 := by omega
      have ni2 : ((i : Int) + 1).toNat = i + 1 := by omega
      have ni3 : IntKind.i64.wrap ((i : Int) + 1) = (i : Int) + 1 := by rw [IntKind.wrap_i64]; omega
      clear hwb c0 c1 K1 hl hgc hgl
      by_cases hlast : i + 1 = xs.length
      · have t1 : ((i : Int) + 1 == (xs.length : Int)) = true := by rw [beq_iff_eq]; omega
        have HLA := Lib.hid hlast
        clear hlast
        go_quiet (fail)
        have HK : Hid (keepB d' i = true) := decide_eq_true (.inl (HLA.out.trans HZ'.out.symm))
        clear t1 ni ni2 ni3
        go_wp2_with (at_builtin; refine wpList_append_row rfl (.tmp 40) (.tmp 42) rfl w.heap.size j xs.length (flat (kp d' i ++ rest)) rfl (heap_alloc_old HGc hgb _) ⟨wb.heap.size, 0, none⟩ 1 (enc x) rfl rfl (one_cells (wb.drewN nq) x 27) (enc_one x) hjn (by rw [flat_length, List.length_append]; have h1 := HL.out; have h2 := HZ'.out; have h3 := J.out; omega) w.heap.size w ((below_drew hBb nq).alloc (Nat.le_of_lt hgb) _) (Nat.le_refl _) ?_; intro w5 HG5 hB5)
        go_roundg (xs.length - (i + 1))
        case measure => omega
        case rel =>
          have e5 : (kp d' (i + 1)).length = j + 1 := by rw [kp_succ_length HK.out, ← J.out]
          exact ⟨i + 1, j + 1, rfl, by go_num, by omega, Nat.le_refl _, e5.symm, KK.out.push (by rw [HZ'.out]; exact hlt) HK.out HGc.out (by rw [← J.out, ← X.out]; exact HG5.out) hB5⟩
      · have t1 : ((i : Int) + 1 == (xs.length : Int)) = false := by rw [beq_eq_false_iff_ne]; omega
        have b3 : (i : Int) + 1 < (xs.length : Int) := by omega
        obtain ⟨y0, y1⟩ := KK.out.cells (t := i + 1) (by omega) (by rw [HZ'.out]; omega)
        obtain ⟨y, hy⟩ : ∃ y, y = d'[i + 1]! := ⟨_, rfl⟩
        rw [← hy] at y0 y1
        have Y : Aside _ := hy
        clear hy y1
        by_cases hk : y.1 = x.1
        · have t2 : (y.1.toList == x.1.toList) = true := by rw [hk]; exact beq_self_eq_true _
          have HK : Hid (keepB d' i = false) := decide_eq_false (by
            rintro (e | e)
            · rw [HZ'.out] at e; exact hlast e
            · rw [← X.out, ← Y.out] at e; exact e hk)
          clear hk
          go_quiet (fail)
          clear y0 b0 b1 t1 t2 ni2 ni3
          go_wp2
          go_roundg (xs.length - (i + 1))
          case measure => omega
          case rel =>
            have e5 : j = (kp d' (i + 1)).length := by rw [kp, HK.out]; exact J.out
            exact ⟨i + 1, j, rfl, by go_num, by omega, Nat.le_refl _, e5, (KK.out.skip HK.out).up (below_drew (Below.refl wb.heap.size wb) nq) hgb⟩
        · have t2 : (y.1.toList == x.1.toList) = false := by rw [beq_eq_false_iff_ne, Lib.toList_data, Lib.toList_data]; exact fun e => hk (key_ext e)
          have HNE := Lib.hid hk
          clear hk
          go_quiet (fail)
          have HK : Hid (keepB d' i = true) := decide_eq_true (.inr (by rw [← X.out, ← Y.out]; exact HNE.out))
          clear y0 t1 t2 ni ni2 ni3
          go_wp2_with (at_builtin; refine wpList_append_row rfl (.tmp 40) (.tmp 42) rfl w.heap.size j xs.length (flat (kp d' i ++ rest)) rfl (heap_alloc_old HGc hgb _) ⟨wb.heap.size, 0, none⟩ 1 (enc x) rfl rfl (one_cells (wb.drewN nq) x 27) (enc_one x) hjn (by rw [flat_length, List.length_append]; have h1 := HL.out; have h2 := HZ'.out; have h3 := J.out; omega) w.heap.size w ((below_drew hBb nq).alloc (Nat.le_of_lt hgb) _) (Nat.le_refl _) ?_; intro w5 HG5 hB5)
          go_roundg (xs.length - (i + 1))
          case measure => omega
          case rel =>
            have e5 : (kp d' (i + 1)).length = j + 1 := by rw [kp_succ_length HK.out, ← J.out]
            exact ⟨i + 1, j + 1, rfl, by go_num, by omega, Nat.le_refl _, e5.symm, KK.out.push (by rw [HZ'.out]; exact hlt) HK.out HGc.out (by rw [← J.out, ← X.out]; exact HG5.out) hB5⟩
    · obtain rfl : i = xs.length := by omega
      go_wp2
      go_ret
      obtain ⟨rest, hl, _, hg⟩ := K1.out.ex
      have ho := of_sorted HM.out
      rw [HZ'.out] at ho
      refine ⟨_, ho, _, rfl, own_of_heap J.out.symm (Nat.le_refl _) (by have := kp_le d' xs.length; have := J.out; omega) (by simp only [maxLen]; omega) (by rw [flat_length, List.length_append]; rw [HZ'.out] at hl; omega) ?_ hg, K1.out.below⟩
      rw [J.out, flat_take]
      simp


end Go.Proofs.Ytpjfeaccicmgoaa
