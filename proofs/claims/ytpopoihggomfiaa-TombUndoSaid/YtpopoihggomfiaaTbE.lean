/-
  The walks of the reference of layer 3: without, with.
-/
import Derived.Test.YtpopoihggomfiaaTbD
import Derived.Deep.RegionLaw
import Derived.RegionTactic
import Derived.Laws.AppendOwnNone
set_option linter.unusedVariables false
set_option maxRecDepth 100000
namespace Go.Proofs.Ytpopoihggomfiaa
open Go.Shelf Go.RowKit Go.Lib Go.Sort

def UpPost (P : List Pr → Prop) (w : World) (e : Ending) (w' : World) : Prop :=
  ∃ (A : Option Addr) (c : Nat) (ys : List Pr), e = .returned (.slice A ys.length c) ∧ P ys ∧ Rd w' w'.heap.size A ys ∧ ys.length ≤ c ∧ Below w.heap.size w w'

theorem OwnPost.upPost {P : List Pr → Prop} {ys : List Pr} {w : World} {e : Ending} {w' : World} (h : OwnPost ys w e w') (hP : P ys) : UpPost P w e w' := by
  obtain ⟨v, rfl, ho, hb⟩ := h
  obtain ⟨A, c, rfl, hR, _, hc⟩ := ho.open_
  exact ⟨A, c, ys, rfl, hP, hR, hc, hb⟩

theorem put_up (A : Option Addr) (c : Nat) (xs : List Pr) (k : ByteArray) (v : Int) (w : World) (h : Rd w w.heap.size A xs) (ha : Asc xs) (hc : xs.length ≤ c) (hn : xs.length ≤ 1000000) :
    Calls Try.prog 37 #[.slice A xs.length c, .string k, .int .u64 v] w (UpPost (PutOf xs k v) w) :=
  (put_any A c xs k v _ w h (Nat.le_refl _) ha hc hn).mono fun _ _ ⟨_, hP, ho⟩ => ho.upPost hP
theorem drop_up (A : Option Addr) (c : Nat) (xs : List Pr) (k : ByteArray) (w : World) (h : Rd w w.heap.size A xs) (ha : Asc xs) (hc : xs.length ≤ c) (hn : xs.length ≤ 1000000) :
    Calls Try.prog 43 #[.slice A xs.length c, .string k] w (UpPost (DropOf xs k) w) :=
  (drop_any A c xs k _ w h (Nat.le_refl _) ha hc hn).mono fun _ _ ⟨_, hP, ho⟩ => ho.upPost hP
theorem find_up (A : Option Addr) (c : Nat) (xs : List Pr) (k : ByteArray) (w : World) (h : Rd w w.heap.size A xs) (ha : Asc xs) (hn : xs.length ≤ 1000000) :
    Calls Try.prog 42 #[.slice A xs.length c, .string k] w fun e w' => e = .returned (.tuple #[.int .u64 ((lk xs k).getD 0), .bool (lk xs k).isSome]) ∧ Below w.heap.size w w' :=
  find_any A c xs k _ w h (Nat.le_refl _) ha hn
theorem valid_up (A : Option Addr) (c : Nat) (xs : List Pr) (w : World) (h : Rd w w.heap.size A xs) (hn : xs.length ≤ 1000000) (ha : Asc xs) :
    Calls Try.prog 55 #[.slice A xs.length c] w fun e w' => e = .returned (.bool true) ∧ Below w.heap.size w w' :=
  (pv_true A c xs _ w h (by omega) ha).mono fun _ _ ⟨he, q, hq⟩ => ⟨he, by rw [hq]; exact below_drew (Below.refl _ _) q⟩
theorem find_at (A : Option Addr) (c : Nat) (xs : List Pr) (k : ByteArray) (w : World) (h : Rd w w.heap.size A xs) (ha : Asc xs) (hn : xs.length ≤ 1000000) (g : Int) (s : Bool) (hg : (lk xs k).getD 0 = g) (hs : (lk xs k).isSome = s) :
    Calls Try.prog 42 #[.slice A xs.length c, .string k] w fun e w' => e = .returned (.tuple #[.int .u64 g, .bool s]) ∧ Below w.heap.size w w' := by
  subst hg hs
  exact find_up A c xs k w h ha hn
theorem PutOf.le {xs : List Pr} {k : ByteArray} {v : Int} {ys : List Pr} (h : PutOf xs k v ys) : ys.length ≤ xs.length + 1 := by
  have := h.2.2
  split at this <;> omega
theorem DropOf.le {xs : List Pr} {k : ByteArray} {ys : List Pr} (h : DropOf xs k ys) : ys.length ≤ xs.length := by
  have := h.2.2
  split at this <;> omega
theorem PutOf.same {xs : List Pr} {k : ByteArray} {v : Int} {ys : List Pr} (h : PutOf xs k v ys) : lk ys k = some v := by rw [h.2.1, if_pos rfl]
theorem PutOf.other {xs : List Pr} {k j : ByteArray} {v : Int} {ys : List Pr} (h : PutOf xs k v ys) (hj : j ≠ k) : lk ys j = lk xs j := by rw [h.2.1, if_neg hj]
theorem DropOf.same {xs : List Pr} {k : ByteArray} {ys : List Pr} (h : DropOf xs k ys) : lk ys k = none := by rw [h.2.1, if_pos rfl]
theorem DropOf.other {xs : List Pr} {k j : ByteArray} {ys : List Pr} (h : DropOf xs k ys) (hj : j ≠ k) : lk ys j = lk xs j := by rw [h.2.1, if_neg hj]

theorem lit_rd (w : World) (xs : List Pr) : Rd (w.alloc (.cells (flat xs).toArray 54)) (w.alloc (.cells (flat xs).toArray 54)).heap.size (some ⟨w.heap.size, 0, none⟩) xs := fun _ =>
  ⟨_, rfl, by simp, fun j u hj => by
    have := cell_of_row (w.alloc (.cells (flat xs).toArray 54)) w.heap.size j (flat xs).toArray 54 (0, 0) (heap_alloc_new w _)
    have e : (⟨w.heap.size, 0, none⟩ : Addr).add j = ⟨w.heap.size, j, none⟩ := by
      unfold Addr.add
      split
      · subst_vars; rfl
      · simp
    rw [e, this]
    simpa using hj⟩

theorem one_cells (w : World) (x : Pr) (t : TypeId) : ∀ j u, (enc x)[j]? = some u → (w.alloc (.cells #[.string x.1, .int .u64 x.2] t)).cell? ((⟨w.heap.size, 0, none⟩ : Addr).add j) = some u := by
  intro j u hj
  match j, hj with
  | 0, hj => simp [enc] at hj; subst hj; simp [Addr.add]
  | 1, hj => simp [enc] at hj; subst hj; simp [Addr.add]

theorem wpList_append_pair {w w0 : World} {ops : Array Oper} {rest : List Oper} {o : Oper} {a : Act} {Q : Exit → Act → World → Prop} (hgd : o.guard = none) (s x : Operand)
    (ho : o.op = .call { callee := .builtin .append, args := #[s, x], argTypes := #[25, 25] }) (base : Nat) (v : Value) (ys : List Pr) (hs : a.eval s = v) (hown : Own w base v ys)
    (ad : Addr) (c : Nat) (y : Pr) (hx : a.eval x = .slice (some ad) 1 c) (hnews : ∀ j u, (enc y)[j]? = some u → w.cell? (ad.add j) = some u)
    (hn : ys.length ≤ 100000) (hb : Below base w0 w) (hbase : base ≤ w.heap.size)
    (h : ∀ v' w', Hid (Own w' base v' (ys ++ [y])) → Below base w0 w' → wpList Try.prog ops Q rest (a.put o.dst v') w') :
    wpList Try.prog ops Q (o :: rest) a w := by
  refine wpList_plain hgd fun K hK => ?_
  obtain ⟨v', w', hr, h2, h3⟩ := run_append_pair o.type base v ys hown ad c [y] (by simpa [flat] using hnews) (by simp; omega) hbase
  unfold Oper.wp execOp
  simp only [ho, resolve, invoke, builtin, Sem.run_bind, Sem.run_pure, Result.andThen_ok, List.map_toArray, List.map_cons, List.map_nil, hs, hx]
  simp only [List.length_singleton] at hr
  simp only [hr, Result.andThen_ok]
  exact hK _ _ (h v' w' h2 (hb.trans h3))

/-- The pairs with other keys. -/
def wo (xs : List Pr) (k : ByteArray) : List Pr := xs.filter fun p => !(p.1.toList == k.toList)
theorem wo_le (xs : List Pr) (k : ByteArray) : (wo xs k).length ≤ xs.length := List.length_filter_le _ _
theorem wo_ne {xs : List Pr} {k : ByteArray} {p : Pr} (h : p ∈ wo xs k) : p.1 ≠ k := by
  have := (List.mem_filter.1 h).2
  rintro rfl
  simp at this
theorem wo_asc {xs : List Pr} (h : Asc xs) (k : ByteArray) : Asc (wo xs k) := h.sublist List.filter_sublist
theorem wo_lk (xs : List Pr) (k j : ByteArray) : lk (wo xs k) j = if j = k then none else lk xs j := by
  by_cases hj : j = k
  · subst hj
    rw [if_pos rfl]
    exact lk_none fun p hp => wo_ne hp
  · rw [if_neg hj]
    refine lk_filter _ _ _ fun x _ hx => ?_
    simp only [Bool.not_eq_true', beq_eq_false_iff_ne]
    rw [Lib.toList_data, Lib.toList_data]
    exact fun e => hj (hx ▸ key_ext e)
theorem wo_succ (xs : List Pr) (k : ByteArray) (i : Nat) (x : Pr) (hx : xs[i]? = some x) : wo (xs.take (i + 1)) k = wo (xs.take i) k ++ (if (x.1.toList == k.toList) then [] else [x]) := by
  rw [List.take_add_one, hx]
  unfold wo
  rw [List.filter_append]
  congr 1
  cases h : x.1.toList == k.toList <;> simp [h]

set_option maxHeartbeats 1000000 in
theorem without_any (A : Option Addr) (c : Nat) (xs : List Pr) (k : ByteArray) (w : World) (h : Rd w w.heap.size A xs) (hn : xs.length ≤ 100000) :
    Calls Try.prog 50 #[.slice A xs.length c, .string k] w (OwnPost (wo xs k) w) := by
  have H := Lib.hid h
  clear h
  have O0 : Aside (Own w w.heap.size (.slice none 0 0) (wo (xs.take 0) k)) := Own.nil_ _ _
  go_enter Try.func50, Try.ntmps50
  go_wp2
  go_loopg [5, 6] xs.length (fun kx s5 s6 wr => ∃ i : Nat, s6 = .int .i64 i ∧ i ≤ xs.length ∧ xs.length - i ≤ kx ∧ Aside (Own wr w.heap.size s5 (wo (xs.take i) k)) ∧ Aside (Below w.heap.size w wr))
  case atStart => exact ⟨0, rfl, Nat.zero_le _, by omega, O0, Below.refl _ _⟩
  case round =>
    clear O0
    obtain ⟨i, rfl, hi, hkx, O, HB⟩ := hrel
    by_cases hlt : i < xs.length
    · have hltz : (i : Int) < (xs.length : Int) := by omega
      obtain ⟨ad, p, x, rfl, hp, hb, hx, c0, c1⟩ := (H.out.below HB.out).at2 hlt
      have S := Lib.hid (wo_succ xs k i x hx)
      have hwl : (wo (xs.take i) k).length ≤ 100000 := Nat.le_trans (wo_le _ _) (by simp; omega)
      clear hx
      cases hk : x.1.toList == k.toList with
      | true =>
        have S2 : Hid (wo (xs.take (i + 1)) k = wo (xs.take i) k) := by show _ = _; rw [S.out, hk]; simp
        go_wp2
        go_roundg (xs.length - (i + 1))
        case measure => omega
        case rel => exact ⟨i + 1, by go_num, by omega, Nat.le_refl _, by show Own _ _ _ _; rw [S2.out]; exact O.out, HB⟩
      | false =>
        have S2 : Hid (wo (xs.take (i + 1)) k = wo (xs.take i) k ++ [x]) := by show _ = _; rw [S.out, hk]; simp
        go_wp2_with (at_builtin; refine wpList_append_pair (w0 := w) rfl (.tmp 20) (.tmp 25) rfl w.heap.size _ (wo (xs.take i) k) rfl (O.out.alloc _) ⟨wr.heap.size, 0, none⟩ 1 x rfl (one_cells wr x 54) hwl (HB.out.alloc HB.out.size _) (by have := HB.out.size; simp; omega) ?_; intro v' w5 HO5 hB5)
        go_roundg (xs.length - (i + 1))
        case measure => omega
        case rel => exact ⟨i + 1, by go_num, by omega, Nat.le_refl _, by show Own _ _ _ _; rw [S2.out]; exact HO5.out, hB5⟩
    · obtain rfl : i = xs.length := by omega
      go_wp2
      go_ret
      refine ⟨_, rfl, ?_, HB.out⟩
      have := O.out
      rwa [List.take_length] at this


theorem step_append_any {w w0 : World} {ops : Array Oper} {o : Oper} {a : Act} {K : Act → World → Prop} {Q : Exit → Act → World → Prop} {E : Prop} (hgd : o.guard = none) (s x : Operand)
    (ho : o.op = .call { callee := .builtin .append, args := #[s, x], argTypes := #[25, 25] }) (base : Nat) (v : Value) (ys : List Pr) (hs : a.eval s = v) (hown : Own w base v ys)
    (A : Option Addr) (m c B : Nat) (ns : List Pr) (hx : a.eval x = .slice A m c) (hm : m = ns.length) (hR : Rd w B A ns) (hA : A = none → c = 0)
    (hn : ys.length + ns.length ≤ 1000000) (hb : Below base w0 w) (hbase : base ≤ w.heap.size)
    (h : ∀ v' w', Hid (Own w' base v' (ys ++ ns)) → Below base w0 w' → K (a.put o.dst v') w') :
    if Region.wanted o (yielded ops a.tmps) = true then Oper.wp Try.prog o a w K Q else E := by
  have hw : Region.wanted o (yielded ops a.tmps) = true := by simp [Region.wanted, hgd]
  rw [if_pos hw]
  obtain ⟨v', w', hr, h2, h3⟩ := run_append_any o.type base v ys hown A m c B ns hm hR hA hn hbase
  unfold Oper.wp execOp
  simp only [ho, resolve, invoke, builtin, Sem.run_bind, Sem.run_pure, Result.andThen_ok, List.map_toArray, List.map_cons, List.map_nil, hs, hx, hr]
  exact h v' w' h2 (hb.trans h3)

theorem one_rd' (w : World) (x : Pr) : Rd (w.alloc (.cells #[.string x.1, .int .u64 x.2] 54)) (w.heap.size + 1) (some ⟨w.heap.size, 0, none⟩) [x] := fun _ =>
  ⟨_, rfl, Nat.lt_succ_self _, by simpa [flat] using one_cells w x 54⟩

/-- What the loop of 'with' finds. -/
theorem put_at {xs : List Pr} (ha : Asc xs) {x : Pr} (hne : ∀ y ∈ xs, y.1 ≠ x.1) {i : Nat} (hi : i ≤ xs.length) (h1 : ∀ t y, t < i → xs[t]? = some y → kl y.1 x.1 = true) (h2 : ∀ y, xs[i]? = some y → kl y.1 x.1 = false) :
    PutOf xs x.1 x.2 ((xs.take i ++ [x]) ++ xs.drop i) := by
  have h2' : ∀ t y, i ≤ t → xs[t]? = some y → kl y.1 x.1 = false := fun t y ht hy => by
    rcases Nat.eq_or_lt_of_le ht with e | e
    · subst e; exact h2 y hy
    · obtain ⟨hl, e1⟩ := List.getElem?_eq_some_iff.1 hy
      have hil : i < xs.length := by omega
      have hlt := List.pairwise_iff_getElem.1 ha i t hil hl e
      rw [e1] at hlt
      exact kl_ntrans (kl_asymm hlt) (h2 _ (List.getElem?_eq_getElem hil))
  rcases split_of ha hi h1 h2' with ⟨u, hu, _⟩ | ⟨_, hs⟩
  · exact absurd rfl (hne (x.1, u) (List.mem_of_getElem? hu))
  · have := hs.put ha x.2
    rw [List.append_assoc]
    exact this

structure WithI (x : Pr) (w wr : World) (s5 : Value) (ys : List Pr) : Prop where
  own : Own wr (w.heap.size + 1) s5 ys
  below : Below (w.heap.size + 1) (w.alloc (.cells #[.string x.1, .int .u64 x.2] 54)) wr
theorem WithI.box {x : Pr} {w wr : World} {s5 : Value} {ys : List Pr} (h : WithI x w wr s5 ys) : wr.cell? ⟨w.heap.size, 0, none⟩ = some (.string x.1) ∧ wr.cell? ⟨w.heap.size, 1, none⟩ = some (.int .u64 x.2) := by
  rw [h.below.cell (p := ⟨w.heap.size, 0, none⟩) (Nat.lt_succ_self _), h.below.cell (p := ⟨w.heap.size, 1, none⟩) (Nat.lt_succ_self _)]
  simp
theorem WithI.all {x : Pr} {w wr : World} {s5 : Value} {ys : List Pr} (h : WithI x w wr s5 ys) : Below w.heap.size w wr :=
  ((Below.refl _ w).alloc (Nat.le_refl _) _).trans (h.below.mono (Nat.le_succ _))
theorem WithI.size {x : Pr} {w wr : World} {s5 : Value} {ys : List Pr} (h : WithI x w wr s5 ys) : w.heap.size + 1 ≤ wr.heap.size := by
  have := h.below.size
  simpa using this

set_option maxHeartbeats 4000000 in
theorem with_any (A : Option Addr) (c : Nat) (xs : List Pr) (x : Pr) (w : World) (h : Rd w w.heap.size A xs) (hc : xs.length ≤ c) (hA : A = none → c = 0) (ha : Asc xs) (hne : ∀ y ∈ xs, y.1 ≠ x.1) (hn : xs.length ≤ 100000) :
    Calls Try.prog 49 #[.slice A xs.length c, .agg #[.string x.1, .int .u64 x.2]] w (fun e w' => ∃ ys, PutOf xs x.1 x.2 ys ∧ OwnPost ys w e w') := by
  have H := Lib.hid h
  have HA := Lib.hid hA
  have AS := Lib.hid ha
  have NE := Lib.hid hne
  clear h hA ha hne
  have mixed := mixedOrders
  have I0 : Aside (WithI x w (w.alloc (.cells #[.string x.1, .int .u64 x.2] 54)) (.slice none 0 0) (xs.take 0)) := ⟨Own.nil_ _ _, Below.refl _ _⟩
  go_enter Try.func49, Try.ntmps49
  go_wp2
  go_loopg [5, 6] xs.length (fun kx s5 s6 wr => ∃ i : Nat, s6 = .int .i64 i ∧ i ≤ xs.length ∧ xs.length - i ≤ kx ∧ Aside (WithI x w wr s5 (xs.take i)) ∧ Aside (∀ t y, t < i → xs[t]? = some y → kl y.1 x.1 = true))
  case atStart => exact ⟨0, rfl, Nat.zero_le _, by omega, I0, (fun t y ht => by omega)⟩
  case round =>
    clear I0
    obtain ⟨i, rfl, hi, hkx, I, L⟩ := hrel
    obtain ⟨b0, b1⟩ := I.out.box
    by_cases hlt : i < xs.length
    · have hltz : (i : Int) < (xs.length : Int) := by omega
      have hd : decide ((i : Int) < (xs.length : Int)) = true := decide_eq_true hltz
      obtain ⟨ad, p, y, rfl, hp, hb, hy, c0, c1⟩ := (H.out.below I.out.all).at2 hlt
      have Y := Lib.hid hy
      clear hy
      cases hk : kl y.1 x.1 with
      | true =>
        have ht : Op.bytesLess y.1.toList x.1.toList = true := by rw [bl_kl]; exact hk
        have HK := Lib.hid hk
        clear hk
        go_wp2_with fail
        go_quiet (fail)
        go_wp2_with (at_builtin; refine wpList_append_pair (w0 := wr) rfl (.tmp 24) (.tmp 29) rfl (w.heap.size + 1) _ (xs.take i) rfl (I.out.own.alloc _) ⟨wr.heap.size, 0, none⟩ 1 y rfl (one_cells (wr.drewN nq) y 54) (by simp; omega) ((below_drew (Below.refl _ wr) nq).alloc I.out.size _) (by have := I.out.size; simp; omega) ?_; intro v' w5 HO5 hB5)
        go_roundg (xs.length - (i + 1))
        case measure => omega
        case rel =>
          have e5 : xs.take (i + 1) = xs.take i ++ [y] := by rw [List.take_add_one, Y.out]; rfl
          refine ⟨i + 1, by go_num, by omega, Nat.le_refl _, (⟨by rw [e5]; exact HO5.out, I.out.below.trans hB5⟩ : WithI _ _ _ _ _), (fun t z ht hz => ?_)⟩
          by_cases e : t = i
          · subst e; rw [Y.out] at hz; injection hz with hz; rw [← hz]; exact HK.out
          · exact L.out t z (by omega) hz
      | false =>
        have ht : Op.bytesLess y.1.toList x.1.toList = false := by rw [bl_kl]; exact hk
        have PO := Lib.hid (put_at AS.out NE.out hi L.out fun z hz => by rw [Y.out] at hz; injection hz with hz; rw [← hz]; exact hk)
        clear hk L
        go_wp2_with fail
        go_quiet (fail)
        have hci : ¬ c = i := by omega
        have hci' : ¬ i = c := by omega
        have htl : (xs.take i).length = i := by simp; omega
        have I2 : Aside (WithI x w (wr.drewN nq) _ (xs.take i)) := ⟨I.out.own, below_drew I.out.below nq⟩
        clear c0 c1 ht I b0 b1 hp
        generalize wr.drewN nq = wq at I2 ⊢
        obtain ⟨Ao, co, hs5, _, _, _⟩ := I2.out.own.open_
        rw [htl] at hs5
        subst hs5
        have OW := Lib.hid I2.out.own
        have BW := Lib.hid I2.out.below
        have HS := Lib.hid I2.out.size
        obtain ⟨b0, b1⟩ := I2.out.box
        have RD : Hid (Rd wq w.heap.size (some (ad.add (i * 2))) (xs.drop i)) := by have := (H.out.below I2.out.all).cut (k := i) (cap := c) hi hc; rwa [if_neg hci] at this
        clear I2
        go_wp2_with fail
        go_region_law (first
          | (refine step_append_any (w0 := wq) rfl (.tmp 33) (.tmp 35) rfl (w.heap.size + 1) _ (xs.take i) rfl (OW.out.alloc _) _ 1 1 _ [x] rfl rfl (one_rd' _ x) (fun e => by cases e) (by simp; omega) ((below_drew (Below.refl _ wq) 1).alloc HS.out _) (by have := HS.out; simp; omega) ?_
             intro va wa HOa HBa)
          | (refine step_append_any (w0 := wq) rfl (.tmp 36) (.tmp 39) rfl (w.heap.size + 1) _ (xs.take i ++ [x]) rfl HOa.out _ _ _ w.heap.size (xs.drop i) rfl (by simp) (RD.out.keep fun p hp => HBa.cell (p := p) (by omega)) (fun e => by cases e) (by simp; omega) HBa (by have := HS.out; have := HBa.size; omega) ?_
             intro vb wb HOb HBb))
        go_wp2
        go_ret
        exact ⟨_, PO.out, vb, rfl, HOb.out.mono (Nat.le_succ _), ((Below.refl _ w).alloc (Nat.le_refl _) _).trans ((BW.out.trans HBb).mono (Nat.le_succ _))⟩
    · obtain rfl : i = xs.length := by omega
      have hltz : decide ((xs.length : Int) < (xs.length : Int)) = false := decide_eq_false (by omega)
      have hltz' : ¬ (xs.length : Int) < (xs.length : Int) := by omega
      have PO := Lib.hid (put_at AS.out NE.out hi L.out fun z hz => by have := (List.getElem?_eq_some_iff.1 hz).1; omega)
      clear L
      go_wp2_with fail
      go_quiet (fail)
      have htl : (xs.take xs.length).length = xs.length := by simp
      have I2 : Aside (WithI x w (wr.drewN nq) _ (xs.take xs.length)) := ⟨I.out.own, below_drew I.out.below nq⟩
      clear I b0 b1 hltz hltz'
      generalize wr.drewN nq = wq at I2 ⊢
      by_cases hcn : c = xs.length
      · subst hcn
        obtain ⟨Ao, co, hs5, _, _, _⟩ := I2.out.own.open_
        rw [htl] at hs5
        subst hs5
        have OW := Lib.hid I2.out.own
        have BW := Lib.hid I2.out.below
        have HS := Lib.hid I2.out.size
        obtain ⟨b0, b1⟩ := I2.out.box
        have RD : Hid (Rd wq w.heap.size A (xs.drop xs.length)) := by rw [List.drop_length]; exact Rd.nil
        clear I2
        go_wp2_with fail
        go_region_law (first
          | (refine step_append_any (w0 := wq) rfl (.tmp 33) (.tmp 35) rfl (w.heap.size + 1) _ (xs.take xs.length) rfl (OW.out.alloc _) _ 1 1 _ [x] rfl rfl (one_rd' _ x) (fun e => by cases e) (by simp; omega) ((below_drew (Below.refl _ wq) 1).alloc HS.out _) (by have := HS.out; simp; omega) ?_
             intro va wa HOa HBa)
          | (refine step_append_any (w0 := wq) rfl (.tmp 36) (.tmp 39) rfl (w.heap.size + 1) _ (xs.take xs.length ++ [x]) rfl HOa.out _ _ _ w.heap.size (xs.drop xs.length) rfl (by simp) (RD.out.keep fun p hp => HBa.cell (p := p) (by omega)) (fun _ => rfl) (by simp; omega) HBa (by have := HS.out; have := HBa.size; omega) ?_
             intro vb wb HOb HBb))
        go_wp2
        go_ret
        exact ⟨_, PO.out, vb, rfl, HOb.out.mono (Nat.le_succ _), ((Below.refl _ w).alloc (Nat.le_refl _) _).trans ((BW.out.trans HBb).mono (Nat.le_succ _))⟩
      · have hcn2 : ¬ xs.length = c := fun e => hcn e.symm
        obtain ⟨Ao, co, hs5, _, _, _⟩ := I2.out.own.open_
        rw [htl] at hs5
        subst hs5
        have OW := Lib.hid I2.out.own
        have BW := Lib.hid I2.out.below
        have HS := Lib.hid I2.out.size
        obtain ⟨b0, b1⟩ := I2.out.box
        have RD : Hid (Rd wq w.heap.size (Option.map (fun q : Addr => q.add (xs.length * 2)) A) (xs.drop xs.length)) := by rw [List.drop_length]; exact Rd.nil
        clear I2
        go_wp2_with fail
        go_region_law (first
          | (refine step_append_any (w0 := wq) rfl (.tmp 33) (.tmp 35) rfl (w.heap.size + 1) _ (xs.take xs.length) rfl (OW.out.alloc _) _ 1 1 _ [x] rfl rfl (one_rd' _ x) (fun e => by cases e) (by simp; omega) ((below_drew (Below.refl _ wq) 1).alloc HS.out _) (by have := HS.out; simp; omega) ?_
             intro va wa HOa HBa)
          | (refine step_append_any (w0 := wq) rfl (.tmp 36) (.tmp 39) rfl (w.heap.size + 1) _ (xs.take xs.length ++ [x]) rfl HOa.out _ _ _ w.heap.size (xs.drop xs.length) rfl (by simp) (RD.out.keep fun p hp => HBa.cell (p := p) (by omega)) (fun e => by have := HA.out (by cases A with | none => rfl | some _ => cases e); omega) (by simp; omega) HBa (by have := HS.out; have := HBa.size; omega) ?_
             intro vb wb HOb HBb))
        go_wp2
        go_ret
        exact ⟨_, PO.out, vb, rfl, HOb.out.mono (Nat.le_succ _), ((Below.refl _ w).alloc (Nat.le_refl _) _).trans ((BW.out.trans HBb).mono (Nat.le_succ _))⟩

end Go.Proofs.Ytpopoihggomfiaa
