/-
  Lists of pairs in memory: slices that read as a list, rows that the call made, copying and appending within a row.
-/
import Derived.Test.YtpjfeaccicmgoaaMathB
import Derived.OwnWalk
import Derived.Laws.CopyOwn
import Derived.Laws.OwnMore
import Derived.Maps.AppendAt
import Derived.StillTailTactics
import Derived.Deep.QuietTactic
import Derived.BigQuiet
import Derived.Deep.AppendLies
import Derived.Deep.OwnRows
set_option linter.unusedVariables false
namespace Go.Proofs.Ytpjfeaccicmgoaa
open Go.Shelf Go.RowKit Go.Lib Go.Sort

/-- The cells of a list of pairs. -/
def flat (xs : List Pr) : List Value := xs.flatMap enc
theorem flat_nil : flat [] = [] := rfl
theorem flat_cons (x : Pr) (xs : List Pr) : flat (x :: xs) = .string x.1 :: .int .u64 x.2 :: flat xs := rfl
theorem flat_append (xs ys : List Pr) : flat (xs ++ ys) = flat xs ++ flat ys := by simp [flat]
theorem flat_length : ∀ xs : List Pr, (flat xs).length = xs.length * 2
  | [] => rfl
  | x :: xs => by rw [flat_cons, List.length_cons, List.length_cons, List.length_cons, flat_length xs]; omega
theorem flat_get0 : ∀ (xs : List Pr) (i : Nat) (x : Pr), xs[i]? = some x → (flat xs)[i * 2]? = some (.string x.1)
  | [], i, x, h => by simp at h
  | y :: ys, 0, x, h => by simp at h; subst h; rfl
  | y :: ys, i + 1, x, h => by
    rw [flat_cons, show (i + 1) * 2 = i * 2 + 1 + 1 by omega, List.getElem?_cons_succ, List.getElem?_cons_succ]
    exact flat_get0 ys i x (by simpa using h)
theorem flat_get1 : ∀ (xs : List Pr) (i : Nat) (x : Pr), xs[i]? = some x → (flat xs)[i * 2 + 1]? = some (.int .u64 x.2)
  | [], i, x, h => by simp at h
  | y :: ys, 0, x, h => by simp at h; subst h; rfl
  | y :: ys, i + 1, x, h => by
    rw [flat_cons, show (i + 1) * 2 + 1 = i * 2 + 1 + 1 + 1 by omega, List.getElem?_cons_succ, List.getElem?_cons_succ]
    exact flat_get1 ys i x (by simpa using h)
theorem flat_take : ∀ (xs : List Pr) (k : Nat), (flat xs).take (k * 2) = flat (xs.take k)
  | [], k => by simp [flat_nil]
  | y :: ys, 0 => by simp [flat_nil]
  | y :: ys, k + 1 => by
    rw [flat_cons, show (k + 1) * 2 = k * 2 + 1 + 1 by omega, List.take_succ_cons, List.take_succ_cons, flat_take ys k, List.take_succ_cons, flat_cons]
theorem flat_drop : ∀ (xs : List Pr) (k : Nat), (flat xs).drop (k * 2) = flat (xs.drop k)
  | [], k => by simp [flat_nil]
  | y :: ys, 0 => by simp
  | y :: ys, k + 1 => by
    rw [flat_cons, show (k + 1) * 2 = k * 2 + 1 + 1 by omega, List.drop_succ_cons, List.drop_succ_cons, flat_drop ys k, List.drop_succ_cons]
theorem flat_one (xs : List Pr) : ∀ v ∈ flat xs, v.oneCell' = true := fun v hv => by
  obtain ⟨x, _, hx⟩ := List.mem_flatMap.1 hv
  exact enc_one x v hx

theorem block_add (a : Addr) (n : Nat) : (a.add n).block = a.block := by unfold Addr.add; split <;> rfl
theorem add_add_ (a : Addr) (i j : Nat) : (a.add i).add j = a.add (i + j) := by
  unfold Addr.add
  by_cases hi : i = 0 <;> by_cases hj : j = 0 <;> simp [hi, hj, Nat.add_assoc]
theorem add_zero_ (a : Addr) : a.add 0 = a := by simp [Addr.add]

/-- The slice at A reads as xs, and lies below block B. -/
def Rd (w : World) (B : Nat) (A : Option Addr) (xs : List Pr) : Prop :=
  0 < xs.length → ∃ ad, A = some ad ∧ ad.block < B ∧ ∀ j u, (flat xs)[j]? = some u → w.cell? (ad.add j) = some u

section
variable {w w' : World} {B B' : Nat} {A : Option Addr} {xs : List Pr}
theorem Rd.nil : Rd w B A [] := fun h => absurd h (by simp)
theorem Rd.at_ (h : Rd w B A xs) {i : Nat} (hi : i < xs.length) : ∃ ad x, A = some ad ∧ ad.block < B ∧ xs[i]? = some x ∧ w.cell? (ad.add (i * 2)) = some (.string x.1) ∧ w.cell? ((ad.add (i * 2)).add 1) = some (.int .u64 x.2) := by
  obtain ⟨ad, e, hb, hc⟩ := h (by omega)
  have hx := List.getElem?_eq_getElem hi
  exact ⟨ad, xs[i], e, hb, hx, hc _ _ (flat_get0 xs i _ hx), by rw [add_add_]; exact hc _ _ (flat_get1 xs i _ hx)⟩
theorem Rd.keep (h : Rd w B A xs) (hk : ∀ p : Addr, p.block < B → w'.cell? p = w.cell? p) : Rd w' B A xs := fun hn => by
  obtain ⟨ad, e, hb, hc⟩ := h hn
  exact ⟨ad, e, hb, fun j u hu => (hk _ (by rw [block_add]; exact hb)).trans (hc j u hu)⟩
theorem Rd.more (h : Rd w B A xs) (hB : B ≤ B') : Rd w B' A xs := fun hn => by
  obtain ⟨ad, e, hb, hc⟩ := h hn
  exact ⟨ad, e, by omega, hc⟩
theorem Rd.below (h : Rd w B A xs) (hb : Below B w w') : Rd w' B A xs := h.keep fun _ hp => hb.cell hp
theorem Rd.drewN (h : Rd w B A xs) (k : Nat) : Rd (w.drewN k) B A xs := h
theorem Rd.alloc (h : Rd w B A xs) (hB : B ≤ w.heap.size) (o : Obj) : Rd (w.alloc o) B A xs := h.keep fun p hp => World.cell?_alloc_lt w o p (by omega)
theorem Rd.take (h : Rd w B A xs) (k : Nat) : Rd w B A (xs.take k) := fun hn => by
  obtain ⟨ad, e, hb, hc⟩ := h (by simp at hn; omega)
  refine ⟨ad, e, hb, fun j u hu => hc j u ?_⟩
  rw [← flat_take] at hu
  rw [List.getElem?_take] at hu
  split at hu
  · exact hu
  · cases hu
theorem Rd.cut (h : Rd w B A xs) {k cap : Nat} (hk : k ≤ xs.length) (hc : xs.length ≤ cap) : Rd w B (if cap = k then A else A.map (·.add (k * 2))) (xs.drop k) := fun hn => by
  have hn' : k < xs.length := by simp at hn; omega
  obtain ⟨ad, rfl, hb, hcell⟩ := h (by omega)
  rw [if_neg (by omega)]
  refine ⟨ad.add (k * 2), rfl, by rw [block_add]; exact hb, fun j u hu => ?_⟩
  rw [add_add_]
  refine hcell _ u ?_
  rw [← flat_drop, List.getElem?_drop] at hu
  exact hu
end

/-- A row that the call made: it holds xs. -/
def Own (w : World) (base : Nat) (v : Value) (xs : List Pr) : Prop := w.ownsRow base 27 2 v xs.length (flat xs)

theorem Own.open_ {w : World} {base : Nat} {v : Value} {xs : List Pr} (h : Own w base v xs) : ∃ A c, v = .slice A xs.length c ∧ Rd w w.heap.size A xs ∧ (∀ a, A = some a → base ≤ a.block) ∧ xs.length ≤ c := by
  rcases h.2 with ⟨rfl, hn⟩ | ⟨g, cap, cur, rfl, hb, hg, hnc, hcm, hcs, ht⟩
  · have : xs = [] := List.eq_nil_of_length_eq_zero hn
    subst this
    exact ⟨none, 0, rfl, Rd.nil, fun a ha => (by cases ha), Nat.le_refl _⟩
  · exact ⟨_, cap, rfl, fun _ => ⟨_, rfl, (Array.getElem?_eq_some_iff.1 hg).1, h.cells (g := g) rfl⟩, fun a ha => (by cases ha; exact hb), hnc⟩
theorem Own.below {w w' : World} {base B : Nat} {v : Value} {xs : List Pr} (h : Own w base v xs) (hb : Below B w w') (hB : w.heap.size ≤ B) : Own w' base v xs := by
  refine ⟨h.1, ?_⟩
  rcases h.2 with hn | ⟨g, cap, cur, hv, hbg, hg, rest⟩
  · exact .inl hn
  · exact .inr ⟨g, cap, cur, hv, hbg, (hb.block g (Nat.lt_of_lt_of_le (Array.getElem?_eq_some_iff.1 hg).1 hB)).trans hg, rest⟩
theorem Own.mono {w : World} {base base' : Nat} {v : Value} {xs : List Pr} (h : Own w base v xs) (hb : base' ≤ base) : Own w base' v xs := by
  refine ⟨h.1, ?_⟩
  rcases h.2 with hn | ⟨g, cap, cur, hv, hbg, rest⟩
  · exact .inl hn
  · exact .inr ⟨g, cap, cur, hv, by omega, rest⟩
theorem Own.nil_ (w : World) (base : Nat) : Own w base (.slice none 0 0) [] := ⟨rfl, .inl ⟨rfl, rfl⟩⟩

theorem pairInfo : (Try.prog.info? 27).map (fun i => (i.zero, i.size, i.bytes)) = some (some (.agg #[.string ⟨#[]⟩, .int .u64 0]), 2, 24) := by kernel_rfl

/-! ### copy, at elements of two cells -/
section
variable {P : Program}
theorem run_copy2_none (w : World) (dT sT ty elem : TypeId) (dp sp : Option Addr) (dLen dCap sLen sCap : Nat) (hu : P.underlying dT = some (.slice elem)) (hs : (P.info? elem).map (·.size) = some 2) (hn : Nat.min sLen dLen = 0) :
    (Builtin.copy_ #[dT, sT] ty #[.slice dp dLen dCap, .slice sp sLen sCap]).run P w = .ok (goInt 0) w := by
  cases hq : P.info? elem with
  | none => simp [hq] at hs
  | some i =>
    cases dp <;> cases sp <;> simp [Builtin.copy_, run_underlying hu, Builtin.lenOf, Builtin.firstCells, sizeOf, typeInfo, hq, hn, storeCells, loadCells, loadCellsFrom]

theorem run_copy2_row (w : World) (dT sT ty elem : TypeId) (g o dLen dCap : Nat) (a : Addr) (sLen sCap : Nat) (cur : Array Value) (t : TypeId) (cs : List Value) (k : Nat)
    (hu : P.underlying dT = some (.slice elem)) (hs : (P.info? elem).map (·.size) = some 2)
    (hg : w.heap[g]? = some (.cells cur t (0, 0))) (hk : k = Nat.min sLen dLen) (hn : cs.length = k * 2)
    (hsrc : ∀ j v, cs[j]? = some v → w.cell? (a.add j) = some v) (hfit : o + cs.length ≤ cur.size) (h1 : ∀ v ∈ cs, v.oneCell' = true) :
    (Builtin.copy_ #[dT, sT] ty #[.slice (some ⟨g, o, none⟩) dLen dCap, .slice (some a) sLen sCap]).run P w =
      .ok (goInt k) (w.setRow g (cur.toList.take o ++ cs ++ cur.toList.drop (o + cs.length)).toArray) := by
  have hl := run_loadCells_list (P := P) w a cs hsrc
  have hst := run_storeCells_at P g o t cs 0 cur w hg (by simpa using hfit) h1
  rw [hn] at hl
  cases hq : P.info? elem with
  | none => simp [hq] at hs
  | some i =>
    have hi : i.size = 2 := by simpa [hq] using hs
    simp [Builtin.copy_, run_underlying hu, Builtin.lenOf, Builtin.firstCells, sizeOf, typeInfo, hq, hi, ← hk, hl, hst]

theorem wpList_copy2 {w : World} {ops : Array Oper} {rest : List Oper} {o : Oper} {a : Act} {Q : Exit → Act → World → Prop} (hgd : o.guard = none) (d s : Operand) (dT sT : TypeId)
    (ho : o.op = .call { callee := .builtin .copy, args := #[d, s], argTypes := #[dT, sT] }) (elem : TypeId) (hu : P.underlying dT = some (.slice elem)) (hsz : (P.info? elem).map (·.size) = some 2)
    (dp sp : Option Addr) (dLen dCap sLen sCap : Nat) (hd : a.eval d = .slice dp dLen dCap) (hs : a.eval s = .slice sp sLen sCap)
    (g off : Nat) (cur : List Value) (t : TypeId) (hg : w.heap[g]? = some (.cells cur.toArray t (0, 0))) (cs : List Value) (k : Nat) (hk : k = Nat.min sLen dLen) (hn : cs.length = k * 2)
    (hpos : 0 < k → dp = some ⟨g, off, none⟩ ∧ ∃ ad, sp = some ad ∧ ∀ j v, cs[j]? = some v → w.cell? (ad.add j) = some v)
    (hfit : off + cs.length ≤ cur.length) (h1 : ∀ v ∈ cs, v.oneCell' = true) (B : Nat) (w0 : World) (hb : Below B w0 w) (hBg : B ≤ g)
    (h : ∀ w', Hid (w'.heap[g]? = some (.cells (splice cur off cs).toArray t (0, 0))) → Below B w0 w' → wpList P ops Q rest (a.put o.dst (goInt k)) w') :
    wpList P ops Q (o :: rest) a w := by
  refine wpList_plain hgd fun K hK => ?_
  by_cases h0 : k = 0
  · subst h0
    obtain rfl : cs = [] := List.eq_nil_of_length_eq_zero (by omega)
    have hrun := run_copy2_none (P := P) w dT sT o.type elem dp sp dLen dCap sLen sCap hu hsz hk.symm
    unfold Oper.wp
    simp [execOp, ho, resolve, invoke, builtin, hd, hs, hrun, Result.andThen]
    exact hK _ _ (h w (show _ = _ by simpa [splice] using hg) hb)
  · obtain ⟨rfl, ad, rfl, hsrc⟩ := hpos (by omega)
    have hrun := run_copy2_row (P := P) w dT sT o.type elem g off dLen dCap ad sLen sCap cur.toArray t cs k hu hsz hg hk hn hsrc (by simpa using hfit) h1
    unfold Oper.wp
    simp [execOp, ho, resolve, invoke, builtin, hd, hs, hrun, Result.andThen]
    exact hK _ _ (h _ (show _ = _ by simpa [splice] using setRow_heap w g _ _ t _ hg) (below_setRow hb hBg _))
end

/-! ### behind the sort -/
theorem flatK_flat (d : Array Pr) : flatK enc 2 d = (flat d.toList).toArray := by
  refine ext_get! (by simp [flat_length]) fun t ht => ?_
  have ht' : t < d.size * 2 := by simpa using ht
  rw [get_flatK _ _ _ _ ht']
  have hx := get_toList d (t / 2) (by omega)
  rcases Nat.mod_two_eq_zero_or_one t with h | h
  · have e := flat_get0 d.toList (t / 2) _ hx
    rw [show t / 2 * 2 = t by omega] at e
    rw [h]
    simp [getElem!_def, e, enc]
  · have e := flat_get1 d.toList (t / 2) _ hx
    rw [show t / 2 * 2 + 1 = t by omega] at e
    rw [h]
    simp [getElem!_def, e, enc]

theorem putCells_all (F cur : Array Value) (h : cur.size = F.size) : putCells id 0 F cur = F := by
  apply Array.ext
  · simp [putCells, h]
  · intro i h1 h2
    simp [putCells, h2]

theorem blk_sorted {w0 W : World} {g : Nat} {cur : Array Value} {d : Array Pr} (hg : w0.heap[g]? = some (.cells cur 27 (0, 0))) (hc : cur.size = d.size * 2) (S : SWK enc 2 w0 g 0 d W) :
    W.heap[g]? = some (.cells (flat d.toList).toArray 27 (0, 0)) := by
  obtain ⟨n, os, rfl⟩ := S
  have hlt : g < w0.heap.size := (Array.getElem?_eq_some_iff.1 hg).1
  unfold sortWorldK
  rw [heap_grow_old _ _ (by rw [size_putRowK]; exact hlt)]
  show (w0.heap.modify g (onCells (putCells id 0 (flatK enc 2 d))))[g]? = _
  rw [Array.getElem?_modify, if_pos rfl, hg]
  simp only [Option.map_some, onCells]
  rw [putCells_all _ _ (by rw [size_flatK]; exact hc), flatK_flat]

theorem below_sorted {w0 W : World} {g B : Nat} {d : Array Pr} (hB : B ≤ g) (hg : g < w0.heap.size) (S : SWK enc 2 w0 g 0 d W) : Below B w0 W := by
  have hle := S.le
  obtain ⟨n, os, rfl⟩ := S
  refine ⟨rfl, rfl, rfl, hle, fun k hk => ?_⟩
  unfold sortWorldK
  rw [heap_grow_old _ _ (by rw [size_putRowK]; show k < w0.heap.size; omega)]
  show (w0.heap.modify g _)[k]? = _
  rw [Array.getElem?_modify, if_neg (by omega)]

theorem holds_flat {w : World} {g : Nat} {xs : List Pr} (hg : w.heap[g]? = some (.cells (flat xs).toArray 27 (0, 0))) : HoldsK enc 2 w g 0 xs.toArray := by
  intro j hj
  have e : flatK enc 2 xs.toArray = (flat xs).toArray := flatK_flat xs.toArray
  rw [e] at hj ⊢
  have hc := cell_of_row w g (0 + j) _ 27 (0, 0) hg
  refine ⟨?_, by simp [World.frozen?, hg]⟩
  rw [hc, Nat.zero_add]
  simp only [id]
  rw [getElem!_pos _ j hj, Array.getElem?_eq_getElem hj]

theorem row_of_flat {w : World} {g : Nat} {xs : List Pr} (hg : w.heap[g]? = some (.cells (flat xs).toArray 27 (0, 0))) : RowK enc 2 w g 0 xs.toArray :=
  ⟨fun _ => rfl, enc_one, holds_flat hg, (Array.getElem?_eq_some_iff.1 hg).1⟩

end Go.Proofs.Ytpjfeaccicmgoaa
