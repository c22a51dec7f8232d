/-
  The contracts of the functions of layer 2 that layer 4 calls: how many elements a bitmap has.
-/
import Derived.Test.YtbknbjabkhhlfaaChecked
import Derived.Test.YtbknbjabkhhlfaaBitB
import Derived.WalkKit
import Derived.Lib.Hide
import Derived.WalkLawsBesides
import Derived.ProofKit
import Derived.Shelf.SlSortCmp.QuietGrown
import Derived.Deep.LoopGhost
import Derived.BigRegion
import Derived.OwnWalk
import Derived.Laws.CopyOwn
import Derived.Laws.OwnMore
import Derived.Maps.AppendAt
import Derived.StillTailTactics
import Derived.Deep.QuietTactic
import Derived.BigQuiet
import Derived.Deep.AppendLies
import Derived.Deep.OwnRows
import Derived.Laws.Cover1
import Derived.Laws.StructEq
import Derived.Laws.AppendOwnNone
import Derived.Deep.RegionLaw
import Derived.RegionTactic
import Derived.Sort.LotA
import Derived.Sort.Walk0
set_option linter.unusedVariables false
set_option maxRecDepth 100000
namespace Go.Proofs.Ytbknbjabkhhlfaa
open Go.RowKit
theorem ret_int {k : IntKind} {a b : Int} (h : a = b) : Ending.returned (.int k a) = .returned (.int k b) := by rw [h]
theorem ret_bool {a b : Bool} (h : a = b) : Ending.returned (.bool a) = .returned (.bool b) := by rw [h]
theorem wl_any (b : Int) (hb : U64 b) (h0 : 0 < b) (w : World) :
    Calls Try.prog 86 #[.int .u64 b] w fun e w' => e = .returned (.int .u64 (wlI b)) ∧ w = w' := by
  have hu := hb.2
  have H := Lib.hid hb; clear hb
  go_enter Try.func86, Try.ntmps86
  go_wp2
  go_ret
  exact ⟨ret_int (wl_walk H.out h0), rfl⟩
theorem count_any (b : Int) (hb : U64 b) (w : World) :
    Calls Try.prog 78 #[.int .u64 b] w fun e w' => e = .returned (.int .i64 (cntI b)) ∧ w = w' := by
  have H := Lib.hid hb; clear hb
  go_enter Try.func78, Try.ntmps78
  go_wp2
  go_loop [0, 3] (fun x n => ∃ (m c : Int), U64 m ∧ x = .int .u64 m ∧ n = .int .i64 c ∧ 0 ≤ c ∧ c + cntI m = cntI b) (fun x _ => (intOf x).toNat)
  case atStart => exact ⟨b, 0, H.out, rfl, rfl, by omega, by omega⟩
  case round =>
    obtain ⟨m, c, hm, rfl, rfl, hc0, hc⟩ := hrel
    have r1 := cnt_range b
    have r2 := cnt_range m
    have hcu : c ≤ 64 := by omega
    have M := Lib.hid hm
    have hm0 := hm.1
    have C := Lib.hid hc; clear hc hm r1 r2
    by_cases h0 : 0 < m
    · have hz : (m != 0) = true := by simp; omega
      have W := Lib.hid (wl_lt' h0)
      have S := Lib.hid (cnt_step M.out h0)
      go_wp2_with (go_at_call 86; refine (wl_any _ M.out h0 _).mono ?_; rintro e w' ⟨rfl, rfl⟩)
      go_round
      case rel => exact ⟨_, c + 1, wl_u64 M.out, rfl, by go_num, by omega, by have := C.out; have := S.out; omega⟩
      case measure => have := W.out; simp [intOf]; omega
    · obtain rfl : m = 0 := by omega
      go_wp2
      go_ret
      exact ⟨ret_int (by have := C.out; rw [cnt_zero] at this; omega), rfl⟩
end Go.Proofs.Ytbknbjabkhhlfaa
/-
  Pairs and nodes in memory: the order of keys, lists that read, rows that the call made, what a call may change.
-/
set_option linter.unusedVariables false
set_option maxRecDepth 100000
namespace Go.Proofs.Ytbknbjabkhhlfaa
open Go.Shelf Go.RowKit Go.Lib Go.Sort

abbrev Pr := ByteArray × Int
/-- A pair's two cells. -/
def enc (x : Pr) : List Value := [.string x.1, .int .u64 x.2]
theorem enc_one (x : Pr) : ∀ v ∈ enc x, v.oneCell' = true := fun v hv => by
  simp [enc] at hv
  rcases hv with rfl | rfl <;> rfl

/-- The order of the keys. -/
def kl (a b : ByteArray) : Bool := ltStr a.data.toList b.data.toList
theorem key_ext {a b : ByteArray} (h : a.data.toList = b.data.toList) : a = b := by
  cases a; cases b
  simp only at h
  rw [Array.toList_inj.1 h]
theorem kl_irrefl (a : ByteArray) : kl a a = false := swo_ltStr.irrefl _
theorem kl_trans {a b c : ByteArray} (h : kl a b = true) (k : kl b c = true) : kl a c = true := swo_ltStr.trans _ _ _ h k
theorem kl_ntrans {a b c : ByteArray} (h : kl a b = false) (k : kl b c = false) : kl a c = false := swo_ltStr.ntrans _ _ _ h k
theorem kl_asymm {a b : ByteArray} (h : kl a b = true) : kl b a = false := swo_ltStr.asymmA h
theorem kl_eq {a b : ByteArray} (h : kl a b = false) (k : kl b a = false) : a = b := by
  apply key_ext
  simp only [kl, ltStr, decide_eq_false_iff_not, List.not_lt] at h k
  exact List.le_antisymm k h
theorem kl_ne {a b : ByteArray} (h : kl a b = true) : a ≠ b := by
  rintro rfl
  rw [kl_irrefl] at h
  cases h
theorem kl_of_ne {a b : ByteArray} (h : kl a b = false) (hne : a ≠ b) : kl b a = true := by
  cases hk : kl b a with
  | true => rfl
  | false => exact absurd (kl_eq h hk) hne

/-- Strictly ascending keys. -/
def Asc (xs : List Pr) : Prop := xs.Pairwise fun x y => kl x.1 y.1 = true

theorem bl_kl (a b : ByteArray) : Op.bytesLess a.toList b.toList = kl a b := by
  rw [bytesLess_eq, Lib.toList_data, Lib.toList_data]; rfl

theorem asc_of_adj : ∀ xs : List Pr, (∀ t x y, xs[t]? = some x → xs[t + 1]? = some y → kl x.1 y.1 = true) → Asc xs
  | [], _ => List.Pairwise.nil
  | [x], _ => List.pairwise_singleton _ _
  | x :: y :: r, h => by
    have h1 := h 0 x y rfl rfl
    have ih := asc_of_adj (y :: r) fun t a b ha hb => h (t + 1) a b (by simpa using ha) (by simpa using hb)
    refine List.pairwise_cons.2 ⟨fun z hz => ?_, ih⟩
    rcases List.mem_cons.1 hz with e | e
    · subst e; exact h1
    · exact kl_trans h1 ((List.pairwise_cons.1 ih).1 z e)
theorem adj_of_asc {xs : List Pr} (h : Asc xs) {t : Nat} {x y : Pr} (hx : xs[t]? = some x) (hy : xs[t + 1]? = some y) : kl x.1 y.1 = true := by
  obtain ⟨hl, e⟩ := List.getElem?_eq_some_iff.1 hx
  obtain ⟨hl', e'⟩ := List.getElem?_eq_some_iff.1 hy
  rw [← e, ← e']
  exact List.pairwise_iff_getElem.1 h t (t + 1) hl hl' (by omega)

noncomputable def validB (xs : List Pr) : Bool := @decide (Asc xs) (Classical.propDecidable _)
theorem validB_true {xs : List Pr} (h : Asc xs) : validB xs = true := by unfold validB; exact @decide_eq_true _ (Classical.propDecidable _) h
theorem validB_false {xs : List Pr} (h : ¬ Asc xs) : validB xs = false := by unfold validB; exact @decide_eq_false _ (Classical.propDecidable _) h

/-- The cells of a list of pairs. -/
def flat (xs : List Pr) : List Value := xs.flatMap enc
theorem flat_nil : flat [] = [] := rfl
theorem flat_cons (x : Pr) (xs : List Pr) : flat (x :: xs) = .string x.1 :: .int .u64 x.2 :: flat xs := rfl
theorem flat_append (xs ys : List Pr) : flat (xs ++ ys) = flat xs ++ flat ys := by simp [flat]
theorem flat_length : ∀ xs : List Pr, (flat xs).length = xs.length * 2
  | [] => rfl
  | x :: xs => by rw [flat_cons, List.length_cons, List.length_cons, List.length_cons, flat_length xs]; omega
theorem flat_get0 : ∀ (xs : List Pr) (i : Nat) (x : Pr), xs[i]? = some x → (flat xs)[i * 2]? = some (.string x.1)
  | [], i, x, h => by simp at h
  | y :: ys, 0, x, h => by simp at h; subst h; rfl
  | y :: ys, i + 1, x, h => by
    rw [flat_cons, show (i + 1) * 2 = i * 2 + 1 + 1 by omega, List.getElem?_cons_succ, List.getElem?_cons_succ]
    exact flat_get0 ys i x (by simpa using h)
theorem flat_get1 : ∀ (xs : List Pr) (i : Nat) (x : Pr), xs[i]? = some x → (flat xs)[i * 2 + 1]? = some (.int .u64 x.2)
  | [], i, x, h => by simp at h
  | y :: ys, 0, x, h => by simp at h; subst h; rfl
  | y :: ys, i + 1, x, h => by
    rw [flat_cons, show (i + 1) * 2 + 1 = i * 2 + 1 + 1 + 1 by omega, List.getElem?_cons_succ, List.getElem?_cons_succ]
    exact flat_get1 ys i x (by simpa using h)
theorem flat_take : ∀ (xs : List Pr) (k : Nat), (flat xs).take (k * 2) = flat (xs.take k)
  | [], k => by simp [flat_nil]
  | y :: ys, 0 => by simp [flat_nil]
  | y :: ys, k + 1 => by
    rw [flat_cons, show (k + 1) * 2 = k * 2 + 1 + 1 by omega, List.take_succ_cons, List.take_succ_cons, flat_take ys k, List.take_succ_cons, flat_cons]
theorem flat_drop : ∀ (xs : List Pr) (k : Nat), (flat xs).drop (k * 2) = flat (xs.drop k)
  | [], k => by simp [flat_nil]
  | y :: ys, 0 => by simp
  | y :: ys, k + 1 => by
    rw [flat_cons, show (k + 1) * 2 = k * 2 + 1 + 1 by omega, List.drop_succ_cons, List.drop_succ_cons, flat_drop ys k, List.drop_succ_cons]
theorem flat_one (xs : List Pr) : ∀ v ∈ flat xs, v.oneCell' = true := fun v hv => by
  obtain ⟨x, _, hx⟩ := List.mem_flatMap.1 hv
  exact enc_one x v hx

theorem block_add (a : Addr) (n : Nat) : (a.add n).block = a.block := by unfold Addr.add; split <;> rfl
theorem add_add_ (a : Addr) (i j : Nat) : (a.add i).add j = a.add (i + j) := by
  unfold Addr.add
  by_cases hi : i = 0 <;> by_cases hj : j = 0 <;> simp [hi, hj, Nat.add_assoc]
theorem add_zero_ (a : Addr) : a.add 0 = a := by simp [Addr.add]

/-- The slice at A reads as xs, and lies below block B. -/
def Rd (w : World) (B : Nat) (A : Option Addr) (xs : List Pr) : Prop :=
  0 < xs.length → ∃ ad, A = some ad ∧ ad.block < B ∧ ∀ j u, (flat xs)[j]? = some u → w.cell? (ad.add j) = some u

section
variable {w w' : World} {B B' : Nat} {A : Option Addr} {xs : List Pr}
theorem Rd.nil : Rd w B A [] := fun h => absurd h (by simp)
theorem Rd.at_ (h : Rd w B A xs) {i : Nat} (hi : i < xs.length) : ∃ ad x, A = some ad ∧ ad.block < B ∧ xs[i]? = some x ∧ w.cell? (ad.add (i * 2)) = some (.string x.1) ∧ w.cell? ((ad.add (i * 2)).add 1) = some (.int .u64 x.2) := by
  obtain ⟨ad, e, hb, hc⟩ := h (by omega)
  have hx := List.getElem?_eq_getElem hi
  exact ⟨ad, xs[i], e, hb, hx, hc _ _ (flat_get0 xs i _ hx), by rw [add_add_]; exact hc _ _ (flat_get1 xs i _ hx)⟩
theorem Rd.keep (h : Rd w B A xs) (hk : ∀ p : Addr, p.block < B → w'.cell? p = w.cell? p) : Rd w' B A xs := fun hn => by
  obtain ⟨ad, e, hb, hc⟩ := h hn
  exact ⟨ad, e, hb, fun j u hu => (hk _ (by rw [block_add]; exact hb)).trans (hc j u hu)⟩
theorem Rd.more (h : Rd w B A xs) (hB : B ≤ B') : Rd w B' A xs := fun hn => by
  obtain ⟨ad, e, hb, hc⟩ := h hn
  exact ⟨ad, e, by omega, hc⟩
theorem Rd.below (h : Rd w B A xs) (hb : Below B w w') : Rd w' B A xs := h.keep fun _ hp => hb.cell hp
theorem Rd.drewN (h : Rd w B A xs) (k : Nat) : Rd (w.drewN k) B A xs := h
theorem Rd.alloc (h : Rd w B A xs) (hB : B ≤ w.heap.size) (o : Obj) : Rd (w.alloc o) B A xs := h.keep fun p hp => World.cell?_alloc_lt w o p (by omega)
theorem Rd.take (h : Rd w B A xs) (k : Nat) : Rd w B A (xs.take k) := fun hn => by
  obtain ⟨ad, e, hb, hc⟩ := h (by simp at hn; omega)
  refine ⟨ad, e, hb, fun j u hu => hc j u ?_⟩
  rw [← flat_take] at hu
  rw [List.getElem?_take] at hu
  split at hu
  · exact hu
  · cases hu
theorem Rd.cut (h : Rd w B A xs) {k cap : Nat} (hk : k ≤ xs.length) (hc : xs.length ≤ cap) : Rd w B (if cap = k then A else A.map (·.add (k * 2))) (xs.drop k) := fun hn => by
  have hn' : k < xs.length := by simp at hn; omega
  obtain ⟨ad, rfl, hb, hcell⟩ := h (by omega)
  rw [if_neg (by omega)]
  refine ⟨ad.add (k * 2), rfl, by rw [block_add]; exact hb, fun j u hu => ?_⟩
  rw [add_add_]
  refine hcell _ u ?_
  rw [← flat_drop, List.getElem?_drop] at hu
  exact hu
end

/-- A row that the call made: it holds xs. -/
def Own (w : World) (base : Nat) (v : Value) (xs : List Pr) : Prop := w.ownsRow base 56 2 v xs.length (flat xs)

theorem Own.open_ {w : World} {base : Nat} {v : Value} {xs : List Pr} (h : Own w base v xs) : ∃ A c, v = .slice A xs.length c ∧ Rd w w.heap.size A xs ∧ (∀ a, A = some a → base ≤ a.block) ∧ xs.length ≤ c := by
  rcases h.2 with ⟨rfl, hn⟩ | ⟨g, cap, cur, rfl, hb, hg, hnc, hcm, hcs, ht⟩
  · have : xs = [] := List.eq_nil_of_length_eq_zero hn
    subst this
    exact ⟨none, 0, rfl, Rd.nil, fun a ha => (by cases ha), Nat.le_refl _⟩
  · exact ⟨_, cap, rfl, fun _ => ⟨_, rfl, (Array.getElem?_eq_some_iff.1 hg).1, h.cells (g := g) rfl⟩, fun a ha => (by cases ha; exact hb), hnc⟩
theorem Own.below {w w' : World} {base B : Nat} {v : Value} {xs : List Pr} (h : Own w base v xs) (hb : Below B w w') (hB : w.heap.size ≤ B) : Own w' base v xs := by
  refine ⟨h.1, ?_⟩
  rcases h.2 with hn | ⟨g, cap, cur, hv, hbg, hg, rest⟩
  · exact .inl hn
  · exact .inr ⟨g, cap, cur, hv, hbg, (hb.block g (Nat.lt_of_lt_of_le (Array.getElem?_eq_some_iff.1 hg).1 hB)).trans hg, rest⟩
theorem Own.mono {w : World} {base base' : Nat} {v : Value} {xs : List Pr} (h : Own w base v xs) (hb : base' ≤ base) : Own w base' v xs := by
  refine ⟨h.1, ?_⟩
  rcases h.2 with hn | ⟨g, cap, cur, hv, hbg, rest⟩
  · exact .inl hn
  · exact .inr ⟨g, cap, cur, hv, by omega, rest⟩
theorem Own.nil_ (w : World) (base : Nat) : Own w base (.slice none 0 0) [] := ⟨rfl, .inl ⟨rfl, rfl⟩⟩

theorem pairInfo : (Try.prog.info? 56).map (fun i => (i.zero, i.size, i.bytes)) = some (some (.agg #[.string ⟨#[]⟩, .int .u64 0]), 2, 24) := by kernel_rfl

theorem Rd.at2 {w : World} {B : Nat} {A : Option Addr} {xs : List Pr} (h : Rd w B A xs) {i : Nat} (hi : i < xs.length) :
    ∃ ad p x, A = some ad ∧ ad.add (i * 2) = p ∧ p.block < B ∧ xs[i]? = some x ∧ w.cell? p = some (.string x.1) ∧ w.cell? ⟨p.block, p.off + 1, none⟩ = some (.int .u64 x.2) := by
  obtain ⟨ad, x, e, hb, hx, c0, c1⟩ := h.at_ hi
  refine ⟨ad, _, x, e, rfl, by rw [block_add]; exact hb, hx, c0, ?_⟩
  rw [← c1]
  congr 1

/-! ### The search -/
/-- What the search knows of the world behind its start. -/
structure BS (w : World) (k : ByteArray) (wr : World) : Prop where
  below : Below w.heap.size w wr
  c0 : wr.cell? ⟨w.heap.size, 0, none⟩ = some (.string k)
  c1 : wr.cell? ⟨w.heap.size, 1, none⟩ = some (.int .u64 0)
  lt : w.heap.size < wr.heap.size

theorem below_drew {B : Nat} {a w : World} (h : Below B a w) (n : Nat) : Below B a (w.drewN n) := ⟨h.os, h.tape, h.output, h.size, h.block⟩
theorem Own.open2 {w : World} {base : Nat} {v : Value} {xs : List Pr} (h : Own w base v xs) : ∃ A c, v = .slice A xs.length c ∧ Rd w w.heap.size A xs ∧ (A = none → c = 0) ∧ xs.length ≤ c := by
  rcases h.2 with ⟨rfl, hn⟩ | ⟨g, cap, cur, rfl, hb, hg, hnc, hcm, hcs, ht⟩
  · have : xs = [] := List.eq_nil_of_length_eq_zero hn
    subst this
    exact ⟨none, 0, rfl, Rd.nil, fun _ => rfl, Nat.le_refl _⟩
  · exact ⟨_, cap, rfl, fun _ => ⟨_, rfl, (Array.getElem?_eq_some_iff.1 hg).1, h.cells (g := g) rfl⟩, fun e => (by cases e), hnc⟩

theorem Own.alloc {w : World} {base : Nat} {v : Value} {xs : List Pr} (h : Own w base v xs) (o : Obj) : Own (w.alloc o) base v xs := World.ownsRow.alloc h o
theorem Own.drewN {w : World} {base : Nat} {v : Value} {xs : List Pr} (h : Own w base v xs) (n : Nat) : Own (w.drewN n) base v xs := h

theorem run_append_pair {w : World} (ty : TypeId) (base : Nat) (v : Value) (ys : List Pr) (hown : Own w base v ys) (ad : Addr) (c : Nat) (ns : List Pr) (hnews : ∀ j u, (flat ns)[j]? = some u → w.cell? (ad.add j) = some u)
    (hn : ys.length + ns.length ≤ 1000000) (hbase : base ≤ w.heap.size) :
    ∃ v' w', (Builtin.append_ #[33, 33] ty #[v, .slice (some ad) ns.length c]).run Try.prog w = .ok v' w' ∧ Own w' base v' (ys ++ ns) ∧ Below base w w' := by
  obtain ⟨i0, hi0, hz0, hz1, hz2⟩ := info_parts pairInfo
  obtain ⟨v', w', hr, h2, h3, _, _⟩ := run_append_own_at (P := Try.prog) w base 33 ty 56 i0 _ 2 24 Try.underlying33 hi0 hz0 hz1 hz2 rfl (by omega) v ys.length (flat ys) hown ad ns.length c (flat ns) (flat_length ns) hnews (flat_one ns)
    (by simp only [maxLen]; omega) (by omega) hbase
  refine ⟨v', w', hr, ?_, (Below.refl base w).grown h3 hbase (fun k hk => (hown.lt k hk).1)⟩
  show w'.ownsRow base 56 2 v' (ys ++ ns).length (flat (ys ++ ns))
  rw [List.length_append, flat_append]
  exact h2

theorem run_append_any {w : World} (ty : TypeId) (base : Nat) (v : Value) (ys : List Pr) (hown : Own w base v ys) (A : Option Addr) (m c B : Nat) (ns : List Pr) (hm : m = ns.length) (hR : Rd w B A ns) (hA : A = none → c = 0)
    (hn : ys.length + ns.length ≤ 1000000) (hbase : base ≤ w.heap.size) :
    ∃ v' w', (Builtin.append_ #[33, 33] ty #[v, .slice A m c]).run Try.prog w = .ok v' w' ∧ Own w' base v' (ys ++ ns) ∧ Below base w w' := by
  subst hm
  obtain ⟨i0, hi0, hz0, hz1, hz2⟩ := info_parts pairInfo
  cases A with
  | none =>
    obtain rfl : c = 0 := hA rfl
    have hns : ns = [] := by
      rcases Nat.eq_zero_or_pos ns.length with h | h
      · exact List.eq_nil_of_length_eq_zero h
      · obtain ⟨ad, e, _⟩ := hR h
        cases e
    subst hns
    exact ⟨v, w, run_append_owned_none (P := Try.prog) (w := w) base 33 ty 56 i0 2 Try.underlying33 hi0 v ys.length (flat ys) hown, by simpa using hown, Below.refl _ _⟩
  | some ad =>
    refine run_append_pair ty base v ys hown ad c ns (fun j u hj => ?_) hn hbase
    rcases Nat.eq_zero_or_pos ns.length with h | h
    · have : ns = [] := List.eq_nil_of_length_eq_zero h
      subst this
      simp [flat_nil] at hj
    · obtain ⟨ad', e, _, hc⟩ := hR h
      injection e with e
      subst e
      exact hc j u hj

theorem wpList_append_list {w w0 : World} {ops : Array Oper} {rest : List Oper} {o : Oper} {a : Act} {Q : Exit → Act → World → Prop} (hgd : o.guard = none) (s x : Operand)
    (ho : o.op = .call { callee := .builtin .append, args := #[s, x], argTypes := #[33, 33] }) (base : Nat) (v : Value) (ys : List Pr) (hs : a.eval s = v) (hown : Own w base v ys)
    (A : Option Addr) (m c B : Nat) (ns : List Pr) (hx : a.eval x = .slice A m c) (hm : m = ns.length) (hR : Rd w B A ns) (hA : A = none → c = 0)
    (hn : ys.length + ns.length ≤ 1000000) (hb : Below base w0 w) (hbase : base ≤ w.heap.size)
    (h : ∀ v' w', Hid (Own w' base v' (ys ++ ns)) → Below base w0 w' → wpList Try.prog ops Q rest (a.put o.dst v') w') :
    wpList Try.prog ops Q (o :: rest) a w := by
  refine wpList_plain hgd fun K hK => ?_
  obtain ⟨v', w', hr, h2, h3⟩ := run_append_any o.type base v ys hown A m c B ns hm hR hA hn hbase
  unfold Oper.wp execOp
  simp only [ho, resolve, invoke, builtin, Sem.run_bind, Sem.run_pure, Result.andThen_ok, List.map_toArray, List.map_cons, List.map_nil, hs, hx]
  simp only [hr, Result.andThen_ok]
  exact hK _ _ (h v' w' h2 (hb.trans h3))

theorem own_empty (w : World) : Own (w.alloc (.cells #[] 56)) w.heap.size (.slice (some ⟨w.heap.size, 0, none⟩) 0 0) [] :=
  ⟨rfl, .inr ⟨w.heap.size, 0, #[], rfl, Nat.le_refl _, heap_alloc_new w _, Nat.le_refl _, by simp [maxLen], rfl, rfl⟩⟩

end Go.Proofs.Ytbknbjabkhhlfaa
/-
  Lists of refs in memory; worlds that only grow; nodes.
-/
set_option linter.unusedVariables false
set_option maxRecDepth 100000
namespace Go.Proofs.Ytbknbjabkhhlfaa
open Go.Shelf Go.RowKit Go.Lib Go.Sort

/-! ### Lists of refs -/
def flatR (zs : List Int) : List Value := zs.map fun z => .int .i64 z
theorem flatR_length (zs : List Int) : (flatR zs).length = zs.length := by simp [flatR]
theorem flatR_get {zs : List Int} {i : Nat} {z : Int} (h : zs[i]? = some z) : (flatR zs)[i]? = some (.int .i64 z) := by simp [flatR, h]
theorem flatR_append (xs ys : List Int) : flatR (xs ++ ys) = flatR xs ++ flatR ys := by simp [flatR]
theorem flatR_one (xs : List Int) : ∀ v ∈ flatR xs, v.oneCell' = true := fun v hv => by
  obtain ⟨x, _, rfl⟩ := List.mem_map.1 hv
  rfl
def RdR (w : World) (B : Nat) (A : Option Addr) (zs : List Int) : Prop :=
  0 < zs.length → ∃ ad, A = some ad ∧ ad.block < B ∧ ∀ j u, (flatR zs)[j]? = some u → w.cell? (ad.add j) = some u
section
variable {w w' : World} {B B' : Nat} {A : Option Addr} {zs : List Int}
theorem RdR.nil : RdR w B A [] := fun h => absurd h (by simp)
theorem RdR.at_ (h : RdR w B A zs) {i : Nat} (hi : i < zs.length) : ∃ ad z, A = some ad ∧ ad.block < B ∧ zs[i]? = some z ∧ w.cell? (ad.add i) = some (.int .i64 z) := by
  obtain ⟨ad, e, hb, hc⟩ := h (by omega)
  have hx := List.getElem?_eq_getElem hi
  exact ⟨ad, zs[i], e, hb, hx, hc _ _ (flatR_get hx)⟩
theorem RdR.keep (h : RdR w B A zs) (hk : ∀ p : Addr, p.block < B → w'.cell? p = w.cell? p) : RdR w' B A zs := fun hn => by
  obtain ⟨ad, e, hb, hc⟩ := h hn
  exact ⟨ad, e, hb, fun j u hu => (hk _ (by rw [block_add]; exact hb)).trans (hc j u hu)⟩
theorem RdR.more (h : RdR w B A zs) (hB : B ≤ B') : RdR w B' A zs := fun hn => by
  obtain ⟨ad, e, hb, hc⟩ := h hn
  exact ⟨ad, e, by omega, hc⟩
theorem RdR.below (h : RdR w B A zs) (hb : Below B w w') : RdR w' B A zs := h.keep fun _ hp => hb.cell hp
theorem RdR.drewN (h : RdR w B A zs) (k : Nat) : RdR (w.drewN k) B A zs := h
theorem RdR.alloc (h : RdR w B A zs) (hB : B ≤ w.heap.size) (o : Obj) : RdR (w.alloc o) B A zs := h.keep fun p hp => World.cell?_alloc_lt w o p (by omega)
theorem RdR.take (h : RdR w B A zs) (k : Nat) : RdR w B A (zs.take k) := fun hn => by
  obtain ⟨ad, e, hb, hc⟩ := h (by simp at hn; omega)
  refine ⟨ad, e, hb, fun j u hu => hc j u ?_⟩
  rw [flatR, List.map_take, List.getElem?_take] at hu
  split at hu
  · exact hu
  · cases hu
theorem RdR.up (h : RdR w w.heap.size A zs) (hb : Below w.heap.size w w') : RdR w' w'.heap.size A zs := (h.below hb).more hb.size
end
theorem Rd.up {w w' : World} {A : Option Addr} {xs : List Pr} (h : Rd w w.heap.size A xs) (hb : Below w.heap.size w w') : Rd w' w'.heap.size A xs := (h.below hb).more hb.size

def OwnR (w : World) (base : Nat) (v : Value) (zs : List Int) : Prop := w.ownsRow base 29 1 v zs.length (flatR zs)
theorem OwnR.open2 {w : World} {base : Nat} {v : Value} {xs : List Int} (h : OwnR w base v xs) : ∃ A c, v = .slice A xs.length c ∧ RdR w w.heap.size A xs ∧ (A = none → c = 0) ∧ xs.length ≤ c := by
  rcases h.2 with ⟨rfl, hn⟩ | ⟨g, cap, cur, rfl, hb, hg, hnc, hcm, hcs, ht⟩
  · have : xs = [] := List.eq_nil_of_length_eq_zero hn
    subst this
    exact ⟨none, 0, rfl, RdR.nil, fun _ => rfl, Nat.le_refl _⟩
  · exact ⟨_, cap, rfl, fun _ => ⟨_, rfl, (Array.getElem?_eq_some_iff.1 hg).1, h.cells (g := g) rfl⟩, fun e => (by cases e), hnc⟩
theorem OwnR.below {w w' : World} {base B : Nat} {v : Value} {xs : List Int} (h : OwnR w base v xs) (hb : Below B w w') (hB : w.heap.size ≤ B) : OwnR w' base v xs := by
  refine ⟨h.1, ?_⟩
  rcases h.2 with hn | ⟨g, cap, cur, hv, hbg, hg, rest⟩
  · exact .inl hn
  · exact .inr ⟨g, cap, cur, hv, hbg, (hb.block g (Nat.lt_of_lt_of_le (Array.getElem?_eq_some_iff.1 hg).1 hB)).trans hg, rest⟩
theorem OwnR.nil_ (w : World) (base : Nat) : OwnR w base (.slice none 0 0) [] := ⟨rfl, .inl ⟨rfl, rfl⟩⟩
theorem OwnR.alloc {w : World} {base : Nat} {v : Value} {xs : List Int} (h : OwnR w base v xs) (o : Obj) : OwnR (w.alloc o) base v xs := World.ownsRow.alloc h o
theorem OwnR.drewN {w : World} {base : Nat} {v : Value} {xs : List Int} (h : OwnR w base v xs) (n : Nat) : OwnR (w.drewN n) base v xs := h
theorem OwnR.mono {w : World} {base base' : Nat} {v : Value} {xs : List Int} (h : OwnR w base v xs) (hb : base' ≤ base) : OwnR w base' v xs := by
  refine ⟨h.1, ?_⟩
  rcases h.2 with hn | ⟨g, cap, cur, hv, hbg, rest⟩
  · exact .inl hn
  · exact .inr ⟨g, cap, cur, hv, by omega, rest⟩
theorem refInfo : (Try.prog.info? 29).map (fun i => (i.zero, i.size, i.bytes)) = some (some (.int .i64 0), 1, 8) := by kernel_rfl
theorem run_append_ref {w : World} (ty : TypeId) (base : Nat) (v : Value) (ys : List Int) (hown : OwnR w base v ys) (ad : Addr) (c : Nat) (ns : List Int) (hnews : ∀ j u, (flatR ns)[j]? = some u → w.cell? (ad.add j) = some u)
    (hn : ys.length + ns.length ≤ 1000000) (hbase : base ≤ w.heap.size) :
    ∃ v' w', (Builtin.append_ #[32, 32] ty #[v, .slice (some ad) ns.length c]).run Try.prog w = .ok v' w' ∧ OwnR w' base v' (ys ++ ns) ∧ Below base w w' := by
  obtain ⟨i0, hi0, hz0, hz1, hz2⟩ := info_parts refInfo
  obtain ⟨v', w', hr, h2, h3, _, _⟩ := run_append_own_at (P := Try.prog) w base 32 ty 29 i0 _ 1 8 Try.underlying32 hi0 hz0 hz1 hz2 rfl (by omega) v ys.length (flatR ys) hown ad ns.length c (flatR ns) (by rw [flatR_length]; omega) hnews (flatR_one ns)
    (by simp only [maxLen]; omega) (by omega) hbase
  refine ⟨v', w', hr, ?_, (Below.refl base w).grown h3 hbase (fun k hk => (hown.lt k hk).1)⟩
  show w'.ownsRow base 29 1 v' (ys ++ ns).length (flatR (ys ++ ns))
  rw [List.length_append, flatR_append]
  exact h2
theorem run_append_anyR {w : World} (ty : TypeId) (base : Nat) (v : Value) (ys : List Int) (hown : OwnR w base v ys) (A : Option Addr) (m c B : Nat) (ns : List Int) (hm : m = ns.length) (hR : RdR w B A ns) (hA : A = none → c = 0)
    (hn : ys.length + ns.length ≤ 1000000) (hbase : base ≤ w.heap.size) :
    ∃ v' w', (Builtin.append_ #[32, 32] ty #[v, .slice A m c]).run Try.prog w = .ok v' w' ∧ OwnR w' base v' (ys ++ ns) ∧ Below base w w' := by
  subst hm
  obtain ⟨i0, hi0, hz0, hz1, hz2⟩ := info_parts refInfo
  cases A with
  | none =>
    obtain rfl : c = 0 := hA rfl
    have hns : ns = [] := by
      rcases Nat.eq_zero_or_pos ns.length with h | h
      · exact List.eq_nil_of_length_eq_zero h
      · obtain ⟨ad, e, _⟩ := hR h
        cases e
    subst hns
    exact ⟨v, w, run_append_owned_none (P := Try.prog) (w := w) base 32 ty 29 i0 1 Try.underlying32 hi0 v ys.length (flatR ys) hown, by simpa using hown, Below.refl _ _⟩
  | some ad =>
    refine run_append_ref ty base v ys hown ad c ns (fun j u hj => ?_) hn hbase
    rcases Nat.eq_zero_or_pos ns.length with h | h
    · have : ns = [] := List.eq_nil_of_length_eq_zero h
      subst this
      simp [flatR] at hj
    · obtain ⟨ad', e, _, hc⟩ := hR h
      injection e with e
      subst e
      exact hc j u hj
theorem wpList_append_refs {w w0 : World} {ops : Array Oper} {rest : List Oper} {o : Oper} {a : Act} {Q : Exit → Act → World → Prop} (hgd : o.guard = none) (s x : Operand)
    (ho : o.op = .call { callee := .builtin .append, args := #[s, x], argTypes := #[32, 32] }) (base : Nat) (v : Value) (ys : List Int) (hs : a.eval s = v) (hown : OwnR w base v ys)
    (A : Option Addr) (m c B : Nat) (ns : List Int) (hx : a.eval x = .slice A m c) (hm : m = ns.length) (hR : RdR w B A ns) (hA : A = none → c = 0)
    (hn : ys.length + ns.length ≤ 1000000) (hb : Below base w0 w) (hbase : base ≤ w.heap.size)
    (h : ∀ v' w', Hid (OwnR w' base v' (ys ++ ns)) → Below base w0 w' → wpList Try.prog ops Q rest (a.put o.dst v') w') :
    wpList Try.prog ops Q (o :: rest) a w := by
  refine wpList_plain hgd fun K hK => ?_
  obtain ⟨v', w', hr, h2, h3⟩ := run_append_anyR o.type base v ys hown A m c B ns hm hR hA hn hbase
  unfold Oper.wp execOp
  simp only [ho, resolve, invoke, builtin, Sem.run_bind, Sem.run_pure, Result.andThen_ok, List.map_toArray, List.map_cons, List.map_nil, hs, hx]
  simp only [hr, Result.andThen_ok]
  exact hK _ _ (h v' w' h2 (hb.trans h3))
theorem ownR_empty (w : World) : OwnR (w.alloc (.cells #[] 29)) w.heap.size (.slice (some ⟨w.heap.size, 0, none⟩) 0 0) [] :=
  ⟨rfl, .inr ⟨w.heap.size, 0, #[], rfl, Nat.le_refl _, heap_alloc_new w _, Nat.le_refl _, by simp [maxLen], rfl, rfl⟩⟩

/-! ### Worlds that only grow -/
/-- From w to w' blocks were laid and orders drawn; nothing else. -/
structure Gr (w w' : World) : Prop where
  b : Below w.heap.size w w'
  d : w.drawn ≤ w'.drawn
theorem Gr.refl (w : World) : Gr w w := ⟨Below.refl _ _, Nat.le_refl _⟩
theorem Gr.size {a b : World} (h : Gr a b) : a.heap.size ≤ b.heap.size := h.b.size
theorem Gr.trans {a b c : World} (h : Gr a b) (k : Gr b c) : Gr a c := ⟨h.b.trans (k.b.mono h.b.size), Nat.le_trans h.d k.d⟩
theorem Gr.alloc {a b : World} (h : Gr a b) (o : Obj) : Gr a (b.alloc o) := ⟨h.b.alloc h.b.size o, h.d⟩
theorem Gr.drewN {a b : World} (h : Gr a b) (n : Nat) : Gr a (b.drewN n) := ⟨below_drew h.b n, Nat.le_trans h.d (Nat.le_add_right _ _)⟩
theorem Gr.setCell {a b : World} (h : Gr a b) {p : Addr} (hp : a.heap.size ≤ p.block) (v : Value) : Gr a (b.setCell p v) := ⟨h.b.setCell hp v, h.d⟩
theorem Gr.grow {a b : World} (h : Gr a b) (n : Nat) (os : Array Obj) : Gr a (grow (b.drewN n) os) :=
  h.trans ⟨⟨rfl, rfl, rfl, by simp, fun k hk => heap_grow_old _ _ hk⟩, Nat.le_add_right _ _⟩
theorem Gr.ex {w w' : World} (h : Gr w w') : ∃ q os', w' = Go.Sort.grow (w.drewN q) os' := by
  obtain ⟨⟨h1, h2, h3, h4, h5⟩, hd⟩ := h
  refine ⟨w'.drawn - w.drawn, w'.heap.extract w.heap.size w'.heap.size, ?_⟩
  obtain ⟨heap, tape, drawn, os, output⟩ := w
  obtain ⟨heap', tape', drawn', os', output'⟩ := w'
  simp only at h1 h2 h3 h4 h5 hd
  subst h1 h2 h3
  have e : heap' = heap ++ heap'.extract heap.size heap'.size := by
    apply Array.ext_getElem?
    intro k
    rw [Array.getElem?_append]
    split
    · exact h5 k ‹_›
    · rw [Array.getElem?_extract]
      by_cases hk : k < heap'.size
      · rw [if_pos (by omega)]; congr 1; omega
      · rw [if_neg (by omega), Array.getElem?_eq_none (by omega)]
  unfold Go.Sort.grow World.drewN
  show World.mk heap' tape' drawn' os' output' = World.mk (heap ++ heap'.extract heap.size heap'.size) tape' (drawn + (drawn' - drawn)) os' output'
  rw [← e, show drawn + (drawn' - drawn) = drawn' by omega]
theorem Gr.called {P : Program} {f : FuncId} {args : Array Value} {w : World} {n : Nat} {os : Array Obj} {v : Value}
    (h : Calls P f args (Go.Sort.grow (w.drewN n) os) fun e w' => e = .returned v ∧ Gr (Go.Sort.grow (w.drewN n) os) w') :
    Calls P f args (Go.Sort.grow (w.drewN n) os) fun e w'' => e = .returned v ∧ ∃ p : GrownBy, w'' = Go.Sort.grow (w.drewN p.n) p.os :=
  Calls.grown_of (h.mono fun _ _ ⟨he, hg⟩ => ⟨he, hg.ex⟩)
theorem RdR.gr {w w' : World} {B : Nat} {A : Option Addr} {zs : List Int} (h : RdR w B A zs) (hB : B ≤ w.heap.size) (g : Gr w w') : RdR w' B A zs := h.below (g.b.mono hB)
theorem Rd.gr {w w' : World} {B : Nat} {A : Option Addr} {zs : List Pr} (h : Rd w B A zs) (hB : B ≤ w.heap.size) (g : Gr w w') : Rd w' B A zs := h.below (g.b.mono hB)

/-! ### Nodes -/
structure Nd where
  kind : Int
  gen : Int
  main : Int
  bm : Int
  bA : Option Addr
  bc : Nat
  bs : List Int
  hash : Int
  key : ByteArray
  val : Int
  pA : Option Addr
  pc : Nat
  ps : List Pr
  prev : Int
  old : Int
  exp : Int
  new : Int
  status : Int
/-- A node's fourteen cells. -/
def Nd.cs (n : Nd) : Array Value := #[.int .i64 n.kind, .int .i64 n.gen, .int .i64 n.main, .int .u64 n.bm, .slice n.bA n.bs.length n.bc, .int .u64 n.hash, .string n.key, .int .u64 n.val, .slice n.pA n.ps.length n.pc, .int .i64 n.prev, .int .i64 n.old, .int .i64 n.exp, .int .i64 n.new, .int .i64 n.status]
def Nd.zero : Nd := ⟨0, 0, 0, 0, none, 0, [], 0, ⟨#[]⟩, 0, none, 0, [], 0, 0, 0, 0, 0⟩
/-- The node's lists read, below block B; its numbers are those of their types; its lists are short. -/
structure NRd (w : World) (B : Nat) (n : Nd) : Prop where
  r : RdR w B n.bA n.bs
  p : Rd w B n.pA n.ps
  bm : U64 n.bm
  bl : n.bs.length ≤ 1000
  pl : n.ps.length ≤ 1000
theorem NRd.gr {w w' : World} {B : Nat} {n : Nd} (h : NRd w B n) (hB : B ≤ w.heap.size) (g : Gr w w') : NRd w' B n := ⟨h.r.gr hB g, h.p.gr hB g, h.bm, h.bl, h.pl⟩
theorem NRd.below {w w' : World} {B : Nat} {n : Nd} (h : NRd w B n) (hb : Below B w w') : NRd w' B n := ⟨h.r.below hb, h.p.below hb, h.bm, h.bl, h.pl⟩
theorem NRd.more {w : World} {B B' : Nat} {n : Nd} (h : NRd w B n) (hB : B ≤ B') : NRd w B' n := ⟨h.r.more hB, h.p.more hB, h.bm, h.bl, h.pl⟩
theorem NRd.up {w w' : World} {n : Nd} (h : NRd w w.heap.size n) (hb : Below w.heap.size w w') : NRd w' w'.heap.size n := (h.below hb).more hb.size
/-- Equal field by field. -/
def eqN (a b : Nd) : Bool :=
  a.kind == b.kind && (a.gen == b.gen && (a.main == b.main && (a.bm == b.bm && (decide (a.bs = b.bs) && (a.hash == b.hash && (decide (a.key = b.key) && (a.val == b.val && (decide (a.ps = b.ps) &&
    (a.prev == b.prev && (a.old == b.old && (a.exp == b.exp && (a.new == b.new && a.status == b.status))))))))))))

end Go.Proofs.Ytbknbjabkhhlfaa
