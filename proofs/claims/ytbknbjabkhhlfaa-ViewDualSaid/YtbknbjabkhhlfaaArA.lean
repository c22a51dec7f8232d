/-
  Lists of nodes in memory; states.
-/
import Derived.Test.YtbknbjabkhhlfaaWalksU
import Derived.Test.YtbknbjabkhhlfaaWalksZ
import Derived.Deep.WholeRow
set_option linter.unusedVariables false
set_option maxRecDepth 100000
namespace Go.Proofs.Ytbknbjabkhhlfaa
open Go.Shelf Go.RowKit Go.Lib Go.Sort

/-! ### Lists of nodes -/
def flatN : List Nd → List Value
  | [] => []
  | n :: ns => n.cs.toList ++ flatN ns
theorem flatN_length : ∀ ns : List Nd, (flatN ns).length = ns.length * 14
  | [] => rfl
  | n :: ns => by
    rw [flatN, List.length_append, flatN_length ns]
    simp [Nd.cs]; omega
theorem flatN_append : ∀ xs ys : List Nd, flatN (xs ++ ys) = flatN xs ++ flatN ys
  | [], ys => rfl
  | n :: ns, ys => by rw [List.cons_append, flatN, flatN, flatN_append ns ys, List.append_assoc]
theorem cs_len (n : Nd) : n.cs.toList.length = 14 := rfl
theorem flatN_get (ns : List Nd) : ∀ (i : Nat) (n : Nd) (j : Nat), ns[i]? = some n → j < 14 → (flatN ns)[i * 14 + j]? = n.cs[j]? := by
  induction ns with
  | nil => intro i n j h; simp at h
  | cons x xs ih =>
    intro i n j h hj
    cases i with
    | zero =>
      have e : x = n := by simpa using h
      subst e
      rw [flatN, Nat.zero_mul, Nat.zero_add, List.getElem?_append_left (by rw [cs_len]; exact hj)]
      exact Array.getElem?_toList
    | succ i =>
      have h' : xs[i]? = some n := by simpa using h
      rw [flatN, List.getElem?_append_right (by rw [cs_len]; omega), cs_len, ← ih i n j h' hj]
      congr 1
      omega
theorem flatN_one : ∀ ns : List Nd, ∀ v ∈ flatN ns, v.oneCell' = true
  | [], v, hv => by cases hv
  | n :: ns, v, hv => by
    rcases List.mem_append.1 hv with h | h
    · have := cs_all n
      exact (Array.all_eq_true_iff_forall_mem.1 this) v (by simpa using h)
    · exact flatN_one ns v h

/-- The list reads at A, below block B. -/
def RdN (w : World) (B : Nat) (A : Option Addr) (ns : List Nd) : Prop :=
  0 < ns.length → ∃ b o, A = some ⟨b, o, none⟩ ∧ b < B ∧ ∀ j u, (flatN ns)[j]? = some u → w.cell? ⟨b, o + j, none⟩ = some u
section
variable {w w' : World} {B B' : Nat} {A : Option Addr} {ns : List Nd}
theorem RdN.nil : RdN w B A [] := fun h => absurd h (by simp)
theorem RdN.keep (h : RdN w B A ns) (hk : ∀ p : Addr, p.block < B → w'.cell? p = w.cell? p) : RdN w' B A ns := fun hn => by
  obtain ⟨b, o, e, hb, hc⟩ := h hn
  exact ⟨b, o, e, hb, fun j u hu => (hk _ hb).trans (hc j u hu)⟩
theorem RdN.more (h : RdN w B A ns) (hB : B ≤ B') : RdN w B' A ns := fun hn => by
  obtain ⟨b, o, e, hb, hc⟩ := h hn
  exact ⟨b, o, e, by omega, hc⟩
theorem RdN.below (h : RdN w B A ns) (hb : Below B w w') : RdN w' B A ns := h.keep fun _ hp => hb.cell hp
theorem RdN.gr (h : RdN w B A ns) (hB : B ≤ w.heap.size) (g : Gr w w') : RdN w' B A ns := h.below (g.b.mono hB)
theorem RdN.up (h : RdN w w.heap.size A ns) (hb : Below w.heap.size w w') : RdN w' w'.heap.size A ns := (h.below hb).more hb.size
theorem RdN.at_ (h : RdN w B A ns) {i : Nat} {n : Nd} (hi : ns[i]? = some n) : ∃ b o, A = some ⟨b, o, none⟩ ∧ b < B ∧ ∀ j, j < 14 → w.cell? ⟨b, o + i * 14 + j, none⟩ = n.cs[j]? := by
  have hil := (List.getElem?_eq_some_iff.1 hi).1
  obtain ⟨b, o, e, hb, hc⟩ := h (by omega)
  refine ⟨b, o, e, hb, fun j hj => ?_⟩
  have hv := flatN_get ns i n j hi hj
  have hs : j < n.cs.size := by rw [cs_size14]; exact hj
  rw [Array.getElem?_eq_getElem hs] at hv ⊢
  rw [← hc _ _ hv]
  congr 2
  omega
end
/-- The load of node i. -/
theorem RdN.load {w : World} {B b o : Nat} {ns : List Nd} (h : RdN w B (some ⟨b, o, none⟩) ns) {i : Nat} {n : Nd} (hi : ns[i]? = some n) : Sem.run Try.prog (loadNode (.pointer (some ⟨b, o + i * 14, none⟩))) w = .ok (.agg n.cs) w := by
  obtain ⟨b', o', e, hb, hc⟩ := h.at_ hi
  injection e with e
  injection e with e1 e2
  subst e1 e2
  exact run_loadNodeAt hc

def OwnN (w : World) (base : Nat) (v : Value) (ns : List Nd) : Prop := w.ownsRow base 35 14 v ns.length (flatN ns)
theorem OwnN.nil_ (w : World) (base : Nat) : OwnN w base (.slice none 0 0) [] := ⟨rfl, .inl ⟨rfl, rfl⟩⟩
theorem OwnN.mono {w : World} {base base' : Nat} {v : Value} {xs : List Nd} (h : OwnN w base v xs) (hb : base' ≤ base) : OwnN w base' v xs := by
  refine ⟨h.1, ?_⟩
  rcases h.2 with hn | ⟨g, cap, cur, hv, hbg, rest⟩
  · exact .inl hn
  · exact .inr ⟨g, cap, cur, hv, by omega, rest⟩
theorem OwnN.keepFrom {w w' : World} {base : Nat} {v : Value} {xs : List Nd} (h : OwnN w base v xs) (hk : ∀ k, v.ownBlock = some k → k < w.heap.size → w'.heap[k]? = w.heap[k]?) : OwnN w' base v xs := by
  refine ⟨h.1, ?_⟩
  rcases h.2 with hn | ⟨g, cap, cur, hv, hbg, hg, rest⟩
  · exact .inl hn
  · exact .inr ⟨g, cap, cur, hv, hbg, (hk g (by rw [hv]; rfl) (Array.getElem?_eq_some_iff.1 hg).1).trans hg, rest⟩
theorem OwnR.keepAt {w w' : World} {base : Nat} {v : Value} {xs : List Int} (h : OwnR w base v xs) (hk : ∀ k, v.ownBlock = some k → k < w.heap.size → w'.heap[k]? = w.heap[k]?) : OwnR w' base v xs := by
  refine ⟨h.1, ?_⟩
  rcases h.2 with hn | ⟨g, cap, cur, hv, hbg, hg, rest⟩
  · exact .inl hn
  · exact .inr ⟨g, cap, cur, hv, hbg, (hk g (by rw [hv]; rfl) (Array.getElem?_eq_some_iff.1 hg).1).trans hg, rest⟩
/-- What such a row's value looks like. -/
theorem OwnN.open2 {w : World} {base : Nat} {v : Value} {xs : List Nd} (h : OwnN w base v xs) : ∃ A c, v = .slice A xs.length c ∧ RdN w w.heap.size A xs ∧ (A = none → c = 0) ∧ xs.length ≤ c := by
  rcases h.2 with ⟨rfl, hn⟩ | ⟨g, cap, cur, rfl, hb, hg, hnc, hcm, hcs, ht⟩
  · have : xs = [] := List.eq_nil_of_length_eq_zero hn
    subst this
    exact ⟨none, 0, rfl, RdN.nil, fun _ => rfl, Nat.le_refl _⟩
  · refine ⟨_, cap, rfl, fun _ => ⟨g, 0, rfl, (Array.getElem?_eq_some_iff.1 hg).1, fun j u hu => ?_⟩, fun e => (by cases e), hnc⟩
    rw [Nat.zero_add, cell_of_row w g j cur 35 (0, 0) hg]
    rw [← ht, List.getElem?_take] at hu
    split at hu
    · simpa using hu
    · cases hu
theorem OwnN.lt_ {w : World} {base : Nat} {v : Value} {xs : List Nd} (h : OwnN w base v xs) {k : Nat} (hk : v.ownBlock = some k) : base ≤ k ∧ k < w.heap.size ∧ ∃ cs, w.heap[k]? = some (.cells cs 35 (0, 0)) := by
  rcases h.2 with ⟨rfl, hn⟩ | ⟨g, cap, cur, rfl, hb, hg, _⟩
  · cases hk
  · injection hk with hk
    subst hk
    exact ⟨hb, (Array.getElem?_eq_some_iff.1 hg).1, cur, hg⟩
theorem OwnR.lt_ {w : World} {base : Nat} {v : Value} {xs : List Int} (h : OwnR w base v xs) {k : Nat} (hk : v.ownBlock = some k) : base ≤ k ∧ k < w.heap.size ∧ ∃ cs, w.heap[k]? = some (.cells cs 29 (0, 0)) := by
  rcases h.2 with ⟨rfl, hn⟩ | ⟨g, cap, cur, rfl, hb, hg, _⟩
  · cases hk
  · injection hk with hk
    subst hk
    exact ⟨hb, (Array.getElem?_eq_some_iff.1 hg).1, cur, hg⟩
theorem nodeInfo14 : (Try.prog.info? 35).map (fun i => (i.zero, i.size, i.bytes)) = some (some (.agg Nd.zero.cs), 14, 152) := by kernel_rfl

/-! ### The store of a node, whole -/
def storeNode (p v : Value) : Sem Unit := Instr.storeAt 35 p v
theorem exec_store44 (ρ : Operand → Value) (dst : Option Tmp) (x y : Operand) (ty : TypeId) (pos : String) (after : Array Edge) (guard : Option (Nat × Bool)) :
    execOp ρ { dst, op := .store 35 x y, type := ty, pos, after, guard } = (do storeNode (ρ x) (ρ y); pure .skip) := rfl
theorem run_storeNode {V : World} {b : Nat} {old : Array Value} {t : TypeId} (n : Nd) (hg : V.heap[b]? = some (.cells old t (0, 0))) (ho : old.size = 14) :
    Sem.run Try.prog (storeNode (.pointer (some ⟨b, 0, none⟩)) (.agg n.cs)) V = .ok () (V.setRow b n.cs) := by
  have hi : (Try.prog.info? 35).map (·.size) = some n.cs.size := nodeSize
  simp only [storeNode, Instr.storeAt, Instr.sureAddr, Sem.run_bind, Sem.run_pure, Result.andThen]
  exact run_storeVar_row V b t 35 old n.cs hg hi ho (cs_all n)
theorem run_storeNode_new (X : World) (n : Nd) :
    Sem.run Try.prog (storeNode (.pointer (some ⟨X.heap.size, 0, none⟩)) (.agg n.cs)) (X.alloc (.cells #[.int .i64 0, .int .i64 0, .int .i64 0, .int .u64 0, .slice none 0 0, .int .u64 0, .string ⟨#[]⟩, .int .u64 0, .slice none 0 0, .int .i64 0, .int .i64 0, .int .i64 0, .int .i64 0, .int .i64 0] 35)) = .ok () (X.alloc (.cells n.cs 35)) := by
  rw [run_storeNode n (heap_alloc_new X _) rfl, World.setRow_alloc_new]

/-! ### What a step leaves as it was -/
/-- From w to w' no old block turned but those of M. -/
structure Fr (M : Nat → Prop) (w w' : World) : Prop where
  os : w'.os = w.os
  tape : w'.tape = w.tape
  output : w'.output = w.output
  size : w.heap.size ≤ w'.heap.size
  block : ∀ k, k < w.heap.size → ¬ M k → w'.heap[k]? = w.heap[k]?
theorem Fr.refl (M : Nat → Prop) (w : World) : Fr M w w := ⟨rfl, rfl, rfl, Nat.le_refl _, fun _ _ _ => rfl⟩
theorem Fr.of_below {M : Nat → Prop} {w w' : World} (h : Below w.heap.size w w') : Fr M w w' := ⟨h.os, h.tape, h.output, h.size, fun k hk _ => h.block k hk⟩
theorem Fr.mono {M M' : Nat → Prop} {w w' : World} (h : Fr M w w') (hM : ∀ k, k < w.heap.size → M k → M' k) : Fr M' w w' := ⟨h.os, h.tape, h.output, h.size, fun k hk hn => h.block k hk fun hm => hn (hM k hk hm)⟩
theorem Fr.trans {M M' : Nat → Prop} {a b c : World} (h : Fr M a b) (k : Fr M' b c) (hM : ∀ i, M' i → M i ∨ a.heap.size ≤ i) : Fr M a c :=
  ⟨k.os.trans h.os, k.tape.trans h.tape, k.output.trans h.output, Nat.le_trans h.size k.size, fun i hi hn => (k.block i (Nat.lt_of_lt_of_le hi h.size) fun hm => (hM i hm).elim hn (fun h => by omega)).trans (h.block i hi hn)⟩
theorem Fr.then_ {M : Nat → Prop} {a b c : World} (h : Fr M a b) (k : Fr M b c) : Fr M a c := h.trans k fun _ hm => .inl hm
theorem Fr.of_grown {w w' : World} {row : Option Nat} (h : w.grownBy w' row) : Fr (fun k => row = some k) w w' := ⟨h.os, h.tape, h.output, h.size, fun k hk hn => h.block k hk fun e => hn e.symm⟩
theorem Fr.setCell {M : Nat → Prop} {w w' : World} (h : Fr M w w') {p : Addr} (hp : M p.block ∨ w.heap.size ≤ p.block) (v : Value) : Fr M w (w'.setCell p v) :=
  ⟨h.os, h.tape, h.output, by simpa using h.size, fun k hk hn => (Below.heap_setCell w' p v k (fun e => by rcases hp with hp | hp; exact hn (e ▸ hp); omega)).trans (h.block k hk hn)⟩
theorem Fr.alloc {M : Nat → Prop} {w w' : World} (h : Fr M w w') (o : Obj) : Fr M w (w'.alloc o) :=
  ⟨h.os, h.tape, h.output, Nat.le_trans h.size (by simp), fun k hk hn => (Below.heap_alloc w' o k (Nat.lt_of_lt_of_le hk h.size)).trans (h.block k hk hn)⟩
theorem Fr.drewN {M : Nat → Prop} {w w' : World} (h : Fr M w w') (n : Nat) : Fr M w (w'.drewN n) := ⟨h.os, h.tape, h.output, h.size, h.block⟩
theorem Fr.below {M : Nat → Prop} {w w' : World} (h : Fr M w w') {B : Nat} (hB : B ≤ w.heap.size) (hM : ∀ k, M k → B ≤ k) : Below B w w' :=
  ⟨h.os, h.tape, h.output, h.size, fun k hk => h.block k (by omega) fun hm => by have := hM k hm; omega⟩
theorem Fr.cell {M : Nat → Prop} {w w' : World} (h : Fr M w w') {p : Addr} (hp : p.block < w.heap.size) (hn : ¬ M p.block) : w'.cell? p = w.cell? p := World.cell?_of_block (w := w) (h.block p.block hp hn)

/-! ### Lists away from what turns -/
def Av (M : Nat → Prop) (A : Option Addr) : Prop := ∀ ad, A = some ad → ¬ M ad.block
theorem RdR.fr {M : Nat → Prop} {w w' : World} {A : Option Addr} {zs : List Int} (h : RdR w w.heap.size A zs) (hf : Fr M w w') (ha : Av M A) : RdR w' w'.heap.size A zs := fun hn => by
  obtain ⟨ad, e, hb, hc⟩ := h hn
  exact ⟨ad, e, Nat.lt_of_lt_of_le hb hf.size, fun j u hu => (hf.cell (by rw [block_add]; exact hb) (by rw [block_add]; exact ha ad e)).trans (hc j u hu)⟩
theorem Rd.fr {M : Nat → Prop} {w w' : World} {A : Option Addr} {zs : List Pr} (h : Rd w w.heap.size A zs) (hf : Fr M w w') (ha : Av M A) : Rd w' w'.heap.size A zs := fun hn => by
  obtain ⟨ad, e, hb, hc⟩ := h hn
  exact ⟨ad, e, Nat.lt_of_lt_of_le hb hf.size, fun j u hu => (hf.cell (by rw [block_add]; exact hb) (by rw [block_add]; exact ha ad e)).trans (hc j u hu)⟩
/-- A node whose lists read and lie in blocks that there are, away from M. -/
structure NOk (w : World) (M : Nat → Prop) (n : Nd) : Prop where
  rd : NRd w w.heap.size n
  ba : n.bA = none → n.bc = 0
  pa : n.pA = none → n.pc = 0
  ab : Av M n.bA
  ap : Av M n.pA
  lb : ∀ ad, n.bA = some ad → ad.block < w.heap.size
  lp : ∀ ad, n.pA = some ad → ad.block < w.heap.size
theorem NOk.fr {M M' : Nat → Prop} {w w' : World} {n : Nd} (h : NOk w M n) (hf : Fr M w w') (hM : ∀ k, M' k → M k ∨ w.heap.size ≤ k) : NOk w' M' n :=
  ⟨⟨h.rd.r.fr hf h.ab, h.rd.p.fr hf h.ap, h.rd.bm, h.rd.bl, h.rd.pl⟩, h.ba, h.pa, fun ad e hm => (hM _ hm).elim (h.ab ad e) (fun hs => by have := h.lb ad e; omega), fun ad e hm => (hM _ hm).elim (h.ap ad e) (fun hs => by have := h.lp ad e; omega),
    fun ad e => Nat.lt_of_lt_of_le (h.lb ad e) hf.size, fun ad e => Nat.lt_of_lt_of_le (h.lp ad e) hf.size⟩

/-! ### States -/
structure Sd where
  nA : Option Addr
  nc : Nat
  ns : List Nd
  cA : Option Addr
  cc : Nat
  cs : List Int
  gen : Int
def Sd.vals (s : Sd) : Array Value := #[.slice s.nA s.ns.length s.nc, .slice s.cA s.cs.length s.cc, .int .i64 s.gen]
/-- A state that reads below block B. -/
structure SRd (w : World) (B : Nat) (s : Sd) : Prop where
  n : RdN w B s.nA s.ns
  c : RdR w B s.cA s.cs
  ca : s.cA = none → s.cc = 0
  l : ∀ n ∈ s.ns, NRd w B n ∧ (n.bA = none → n.bc = 0) ∧ (n.pA = none → n.pc = 0)
  nl : s.ns.length ≤ 1000
  cl : s.cs.length ≤ 1000
theorem SRd.gr {w w' : World} {B : Nat} {s : Sd} (h : SRd w B s) (hB : B ≤ w.heap.size) (g : Gr w w') : SRd w' B s :=
  ⟨h.n.gr hB g, h.c.gr hB g, h.ca, fun n hn => ⟨(h.l n hn).1.gr hB g, (h.l n hn).2⟩, h.nl, h.cl⟩
theorem SRd.below {w w' : World} {B : Nat} {s : Sd} (h : SRd w B s) (hb : Below B w w') : SRd w' B s :=
  ⟨h.n.below hb, h.c.below hb, h.ca, fun n hn => ⟨(h.l n hn).1.below hb, (h.l n hn).2⟩, h.nl, h.cl⟩
theorem SRd.more {w : World} {B B' : Nat} {s : Sd} (h : SRd w B s) (hB : B ≤ B') : SRd w B' s :=
  ⟨h.n.more hB, h.c.more hB, h.ca, fun n hn => ⟨(h.l n hn).1.more hB, (h.l n hn).2⟩, h.nl, h.cl⟩
/-- The blocks that turn: the object itself, its nodes' row, its cells' row. -/
def Mu (q : Nat) (s : Sd) (k : Nat) : Prop := k = q ∨ (∃ ad, s.nA = some ad ∧ ad.block = k) ∨ (∃ ad, s.cA = some ad ∧ ad.block = k)
/-- An object of type T at block q: a state and a number. -/
structure Ob (w : World) (base : Nat) (T : TypeId) (q : Nat) (s : Sd) (acc : Int) : Prop where
  blk : w.heap[q]? = some (.cells #[.slice s.nA s.ns.length s.nc, .slice s.cA s.cs.length s.cc, .int .i64 s.gen, .int .i64 acc] T (0, 0))
  hq : base ≤ q
  nod : OwnN w base (.slice s.nA s.ns.length s.nc) s.ns
  cel : OwnR w base (.slice s.cA s.cs.length s.cc) s.cs
  l : ∀ n ∈ s.ns, NOk w (Mu q s) n
  nl : s.ns.length ≤ 1000
  cl : s.cs.length ≤ 1000
section
variable {w : World} {base : Nat} {T : TypeId} {q : Nat} {s : Sd} {acc : Int}
theorem Ob.lt (h : Ob w base T q s acc) : q < w.heap.size := (Array.getElem?_eq_some_iff.1 h.blk).1
theorem Ob.srd (h : Ob w base T q s acc) : SRd w w.heap.size s := by
  obtain ⟨A, c, e, hr, ha, _⟩ := h.nod.open2
  injection e with e1 e2 e3
  obtain ⟨A', c', e', hr', ha', _⟩ := h.cel.open2
  injection e' with e1' e2' e3'
  subst e1 e1'
  exact ⟨hr, hr', (fun hn => by rw [e3']; exact ha' hn), fun n hn => ⟨(h.l n hn).rd, (h.l n hn).ba, (h.l n hn).pa⟩, h.nl, h.cl⟩
theorem Ob.mu_lt (h : Ob w base T q s acc) {k : Nat} (hk : Mu q s k) : base ≤ k ∧ k < w.heap.size := by
  rcases hk with rfl | ⟨ad, e, rfl⟩ | ⟨ad, e, rfl⟩
  · exact ⟨h.hq, h.lt⟩
  · have := h.nod.lt_ (k := ad.block) (by rw [e]; rfl); exact ⟨this.1, this.2.1⟩
  · have := h.cel.lt_ (k := ad.block) (by rw [e]; rfl); exact ⟨this.1, this.2.1⟩
end

end Go.Proofs.Ytbknbjabkhhlfaa
