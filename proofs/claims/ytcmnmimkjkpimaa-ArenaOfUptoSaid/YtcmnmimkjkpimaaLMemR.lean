/-
  Lists of refs in memory; worlds that only grow; nodes.
-/
import Derived.Test.YtcmnmimkjkpimaaLMemP
set_option linter.unusedVariables false
set_option maxRecDepth 100000
namespace Go.Proofs.Ytcmnmimkjkpimaa
open Go.Shelf Go.RowKit Go.Lib Go.Sort

/-! ### Lists of refs -/
def flatR (zs : List Int) : List Value := zs.map fun z => .int .i64 z
theorem flatR_length (zs : List Int) : (flatR zs).length = zs.length := by simp [flatR]
theorem flatR_get {zs : List Int} {i : Nat} {z : Int} (h : zs[i]? = some z) : (flatR zs)[i]? = some (.int .i64 z) := by simp [flatR, h]
theorem flatR_append (xs ys : List Int) : flatR (xs ++ ys) = flatR xs ++ flatR ys := by simp [flatR]
theorem flatR_one (xs : List Int) : ∀ v ∈ flatR xs, v.oneCell' = true := fun v hv => by
  obtain ⟨x, _, rfl⟩ := List.mem_map.1 hv
  rfl
def RdR (w : World) (B : Nat) (A : Option Addr) (zs : List Int) : Prop :=
  0 < zs.length → ∃ ad, A = some ad ∧ ad.block < B ∧ ∀ j u, (flatR zs)[j]? = some u → w.cell? (ad.add j) = some u
section
variable {w w' : World} {B B' : Nat} {A : Option Addr} {zs : List Int}
theorem RdR.nil : RdR w B A [] := fun h => absurd h (by simp)
theorem RdR.at_ (h : RdR w B A zs) {i : Nat} (hi : i < zs.length) : ∃ ad z, A = some ad ∧ ad.block < B ∧ zs[i]? = some z ∧ w.cell? (ad.add i) = some (.int .i64 z) := by
  obtain ⟨ad, e, hb, hc⟩ := h (by omega)
  have hx := List.getElem?_eq_getElem hi
  exact ⟨ad, zs[i], e, hb, hx, hc _ _ (flatR_get hx)⟩
theorem RdR.keep (h : RdR w B A zs) (hk : ∀ p : Addr, p.block < B → w'.cell? p = w.cell? p) : RdR w' B A zs := fun hn => by
  obtain ⟨ad, e, hb, hc⟩ := h hn
  exact ⟨ad, e, hb, fun j u hu => (hk _ (by rw [block_add]; exact hb)).trans (hc j u hu)⟩
theorem RdR.more (h : RdR w B A zs) (hB : B ≤ B') : RdR w B' A zs := fun hn => by
  obtain ⟨ad, e, hb, hc⟩ := h hn
  exact ⟨ad, e, by omega, hc⟩
theorem RdR.below (h : RdR w B A zs) (hb : Below B w w') : RdR w' B A zs := h.keep fun _ hp => hb.cell hp
theorem RdR.drewN (h : RdR w B A zs) (k : Nat) : RdR (w.drewN k) B A zs := h
theorem RdR.alloc (h : RdR w B A zs) (hB : B ≤ w.heap.size) (o : Obj) : RdR (w.alloc o) B A zs := h.keep fun p hp => World.cell?_alloc_lt w o p (by omega)
theorem RdR.take (h : RdR w B A zs) (k : Nat) : RdR w B A (zs.take k) := fun hn => by
  obtain ⟨ad, e, hb, hc⟩ := h (by simp at hn; omega)
  refine ⟨ad, e, hb, fun j u hu => hc j u ?_⟩
  rw [flatR, List.map_take, List.getElem?_take] at hu
  split at hu
  · exact hu
  · cases hu
theorem RdR.up (h : RdR w w.heap.size A zs) (hb : Below w.heap.size w w') : RdR w' w'.heap.size A zs := (h.below hb).more hb.size
end
theorem Rd.up {w w' : World} {A : Option Addr} {xs : List Pr} (h : Rd w w.heap.size A xs) (hb : Below w.heap.size w w') : Rd w' w'.heap.size A xs := (h.below hb).more hb.size

def OwnR (w : World) (base : Nat) (v : Value) (zs : List Int) : Prop := w.ownsRow base 42 1 v zs.length (flatR zs)
theorem OwnR.open2 {w : World} {base : Nat} {v : Value} {xs : List Int} (h : OwnR w base v xs) : ∃ A c, v = .slice A xs.length c ∧ RdR w w.heap.size A xs ∧ (A = none → c = 0) ∧ xs.length ≤ c := by
  rcases h.2 with ⟨rfl, hn⟩ | ⟨g, cap, cur, rfl, hb, hg, hnc, hcm, hcs, ht⟩
  · have : xs = [] := List.eq_nil_of_length_eq_zero hn
    subst this
    exact ⟨none, 0, rfl, RdR.nil, fun _ => rfl, Nat.le_refl _⟩
  · exact ⟨_, cap, rfl, fun _ => ⟨_, rfl, (Array.getElem?_eq_some_iff.1 hg).1, h.cells (g := g) rfl⟩, fun e => (by cases e), hnc⟩
theorem OwnR.below {w w' : World} {base B : Nat} {v : Value} {xs : List Int} (h : OwnR w base v xs) (hb : Below B w w') (hB : w.heap.size ≤ B) : OwnR w' base v xs := by
  refine ⟨h.1, ?_⟩
  rcases h.2 with hn | ⟨g, cap, cur, hv, hbg, hg, rest⟩
  · exact .inl hn
  · exact .inr ⟨g, cap, cur, hv, hbg, (hb.block g (Nat.lt_of_lt_of_le (Array.getElem?_eq_some_iff.1 hg).1 hB)).trans hg, rest⟩
theorem OwnR.nil_ (w : World) (base : Nat) : OwnR w base (.slice none 0 0) [] := ⟨rfl, .inl ⟨rfl, rfl⟩⟩
theorem OwnR.alloc {w : World} {base : Nat} {v : Value} {xs : List Int} (h : OwnR w base v xs) (o : Obj) : OwnR (w.alloc o) base v xs := World.ownsRow.alloc h o
theorem OwnR.drewN {w : World} {base : Nat} {v : Value} {xs : List Int} (h : OwnR w base v xs) (n : Nat) : OwnR (w.drewN n) base v xs := h
theorem OwnR.mono {w : World} {base base' : Nat} {v : Value} {xs : List Int} (h : OwnR w base v xs) (hb : base' ≤ base) : OwnR w base' v xs := by
  refine ⟨h.1, ?_⟩
  rcases h.2 with hn | ⟨g, cap, cur, hv, hbg, rest⟩
  · exact .inl hn
  · exact .inr ⟨g, cap, cur, hv, by omega, rest⟩
theorem refInfo : (Try.prog.info? 42).map (fun i => (i.zero, i.size, i.bytes)) = some (some (.int .i64 0), 1, 8) := by kernel_rfl
theorem run_append_ref {w : World} (ty : TypeId) (base : Nat) (v : Value) (ys : List Int) (hown : OwnR w base v ys) (ad : Addr) (c : Nat) (ns : List Int) (hnews : ∀ j u, (flatR ns)[j]? = some u → w.cell? (ad.add j) = some u)
    (hn : ys.length + ns.length ≤ 2000000) (hbase : base ≤ w.heap.size) :
    ∃ v' w', (Builtin.append_ #[33, 33] ty #[v, .slice (some ad) ns.length c]).run Try.prog w = .ok v' w' ∧ OwnR w' base v' (ys ++ ns) ∧ Below base w w' := by
  obtain ⟨i0, hi0, hz0, hz1, hz2⟩ := info_parts refInfo
  obtain ⟨v', w', hr, h2, h3, _, _⟩ := run_append_own_at (P := Try.prog) w base 33 ty 42 i0 _ 1 8 Try.underlying33 hi0 hz0 hz1 hz2 rfl (by omega) v ys.length (flatR ys) hown ad ns.length c (flatR ns) (by rw [flatR_length]; omega) hnews (flatR_one ns)
    (by simp only [maxLen]; omega) (by omega) hbase
  refine ⟨v', w', hr, ?_, (Below.refl base w).grown h3 hbase (fun k hk => (hown.lt k hk).1)⟩
  show w'.ownsRow base 42 1 v' (ys ++ ns).length (flatR (ys ++ ns))
  rw [List.length_append, flatR_append]
  exact h2
theorem run_append_anyR {w : World} (ty : TypeId) (base : Nat) (v : Value) (ys : List Int) (hown : OwnR w base v ys) (A : Option Addr) (m c B : Nat) (ns : List Int) (hm : m = ns.length) (hR : RdR w B A ns) (hA : A = none → c = 0)
    (hn : ys.length + ns.length ≤ 2000000) (hbase : base ≤ w.heap.size) :
    ∃ v' w', (Builtin.append_ #[33, 33] ty #[v, .slice A m c]).run Try.prog w = .ok v' w' ∧ OwnR w' base v' (ys ++ ns) ∧ Below base w w' := by
  subst hm
  obtain ⟨i0, hi0, hz0, hz1, hz2⟩ := info_parts refInfo
  cases A with
  | none =>
    obtain rfl : c = 0 := hA rfl
    have hns : ns = [] := by
      rcases Nat.eq_zero_or_pos ns.length with h | h
      · exact List.eq_nil_of_length_eq_zero h
      · obtain ⟨ad, e, _⟩ := hR h
        cases e
    subst hns
    exact ⟨v, w, run_append_owned_none (P := Try.prog) (w := w) base 33 ty 42 i0 1 Try.underlying33 hi0 v ys.length (flatR ys) hown, by simpa using hown, Below.refl _ _⟩
  | some ad =>
    refine run_append_ref ty base v ys hown ad c ns (fun j u hj => ?_) hn hbase
    rcases Nat.eq_zero_or_pos ns.length with h | h
    · have : ns = [] := List.eq_nil_of_length_eq_zero h
      subst this
      simp [flatR] at hj
    · obtain ⟨ad', e, _, hc⟩ := hR h
      injection e with e
      subst e
      exact hc j u hj
theorem wpList_append_refs {w w0 : World} {ops : Array Oper} {rest : List Oper} {o : Oper} {a : Act} {Q : Exit → Act → World → Prop} (hgd : o.guard = none) (s x : Operand)
    (ho : o.op = .call { callee := .builtin .append, args := #[s, x], argTypes := #[33, 33] }) (base : Nat) (v : Value) (ys : List Int) (hs : a.eval s = v) (hown : OwnR w base v ys)
    (A : Option Addr) (m c B : Nat) (ns : List Int) (hx : a.eval x = .slice A m c) (hm : m = ns.length) (hR : RdR w B A ns) (hA : A = none → c = 0)
    (hn : ys.length + ns.length ≤ 2000000) (hb : Below base w0 w) (hbase : base ≤ w.heap.size)
    (h : ∀ v' w', Hid (OwnR w' base v' (ys ++ ns)) → Below base w0 w' → wpList Try.prog ops Q rest (a.put o.dst v') w') :
    wpList Try.prog ops Q (o :: rest) a w := by
  refine wpList_plain hgd fun K hK => ?_
  obtain ⟨v', w', hr, h2, h3⟩ := run_append_anyR o.type base v ys hown A m c B ns hm hR hA hn hbase
  unfold Oper.wp execOp
  simp only [ho, resolve, invoke, builtin, Sem.run_bind, Sem.run_pure, Result.andThen_ok, List.map_toArray, List.map_cons, List.map_nil, hs, hx]
  simp only [hr, Result.andThen_ok]
  exact hK _ _ (h v' w' h2 (hb.trans h3))
theorem ownR_empty (w : World) : OwnR (w.alloc (.cells #[] 42)) w.heap.size (.slice (some ⟨w.heap.size, 0, none⟩) 0 0) [] :=
  ⟨rfl, .inr ⟨w.heap.size, 0, #[], rfl, Nat.le_refl _, heap_alloc_new w _, Nat.le_refl _, by simp [maxLen], rfl, rfl⟩⟩

/-! ### Worlds that only grow -/
/-- From w to w' blocks were laid and orders drawn; nothing else. -/
structure Gr (w w' : World) : Prop where
  b : Below w.heap.size w w'
  d : w.drawn ≤ w'.drawn
theorem Gr.refl (w : World) : Gr w w := ⟨Below.refl _ _, Nat.le_refl _⟩
theorem Gr.size {a b : World} (h : Gr a b) : a.heap.size ≤ b.heap.size := h.b.size
theorem Gr.trans {a b c : World} (h : Gr a b) (k : Gr b c) : Gr a c := ⟨h.b.trans (k.b.mono h.b.size), Nat.le_trans h.d k.d⟩
theorem Gr.alloc {a b : World} (h : Gr a b) (o : Obj) : Gr a (b.alloc o) := ⟨h.b.alloc h.b.size o, h.d⟩
theorem Gr.drewN {a b : World} (h : Gr a b) (n : Nat) : Gr a (b.drewN n) := ⟨below_drew h.b n, Nat.le_trans h.d (Nat.le_add_right _ _)⟩
theorem Gr.setCell {a b : World} (h : Gr a b) {p : Addr} (hp : a.heap.size ≤ p.block) (v : Value) : Gr a (b.setCell p v) := ⟨h.b.setCell hp v, h.d⟩
theorem Gr.grow {a b : World} (h : Gr a b) (n : Nat) (os : Array Obj) : Gr a (grow (b.drewN n) os) :=
  h.trans ⟨⟨rfl, rfl, rfl, by simp, fun k hk => heap_grow_old _ _ hk⟩, Nat.le_add_right _ _⟩
theorem Gr.ex {w w' : World} (h : Gr w w') : ∃ q os', w' = Go.Sort.grow (w.drewN q) os' := by
  obtain ⟨⟨h1, h2, h3, h4, h5⟩, hd⟩ := h
  refine ⟨w'.drawn - w.drawn, w'.heap.extract w.heap.size w'.heap.size, ?_⟩
  obtain ⟨heap, tape, drawn, os, output⟩ := w
  obtain ⟨heap', tape', drawn', os', output'⟩ := w'
  simp only at h1 h2 h3 h4 h5 hd
  subst h1 h2 h3
  have e : heap' = heap ++ heap'.extract heap.size heap'.size := by
    apply Array.ext_getElem?
    intro k
    rw [Array.getElem?_append]
    split
    · exact h5 k ‹_›
    · rw [Array.getElem?_extract]
      by_cases hk : k < heap'.size
      · rw [if_pos (by omega)]; congr 1; omega
      · rw [if_neg (by omega), Array.getElem?_eq_none (by omega)]
  unfold Go.Sort.grow World.drewN
  show World.mk heap' tape' drawn' os' output' = World.mk (heap ++ heap'.extract heap.size heap'.size) tape' (drawn + (drawn' - drawn)) os' output'
  rw [← e, show drawn + (drawn' - drawn) = drawn' by omega]
theorem Gr.called {P : Program} {f : FuncId} {args : Array Value} {w : World} {n : Nat} {os : Array Obj} {v : Value}
    (h : Calls P f args (Go.Sort.grow (w.drewN n) os) fun e w' => e = .returned v ∧ Gr (Go.Sort.grow (w.drewN n) os) w') :
    Calls P f args (Go.Sort.grow (w.drewN n) os) fun e w'' => e = .returned v ∧ ∃ p : GrownBy, w'' = Go.Sort.grow (w.drewN p.n) p.os :=
  Calls.grown_of (h.mono fun _ _ ⟨he, hg⟩ => ⟨he, hg.ex⟩)
theorem RdR.gr {w w' : World} {B : Nat} {A : Option Addr} {zs : List Int} (h : RdR w B A zs) (hB : B ≤ w.heap.size) (g : Gr w w') : RdR w' B A zs := h.below (g.b.mono hB)
theorem Rd.gr {w w' : World} {B : Nat} {A : Option Addr} {zs : List Pr} (h : Rd w B A zs) (hB : B ≤ w.heap.size) (g : Gr w w') : Rd w' B A zs := h.below (g.b.mono hB)

/-! ### Nodes -/
structure Nd where
  kind : Int
  gen : Int
  main : Int
  bm : Int
  bA : Option Addr
  bc : Nat
  bs : List Int
  hash : Int
  key : ByteArray
  val : Int
  pA : Option Addr
  pc : Nat
  ps : List Pr
  prev : Int
  old : Int
  exp : Int
  new : Int
  status : Int
/-- A node's fourteen cells. -/
def Nd.cs (n : Nd) : Array Value := #[.int .i64 n.kind, .int .i64 n.gen, .int .i64 n.main, .int .u64 n.bm, .slice n.bA n.bs.length n.bc, .int .u64 n.hash, .string n.key, .int .u64 n.val, .slice n.pA n.ps.length n.pc, .int .i64 n.prev, .int .i64 n.old, .int .i64 n.exp, .int .i64 n.new, .int .i64 n.status]
def Nd.zero : Nd := ⟨0, 0, 0, 0, none, 0, [], 0, ⟨#[]⟩, 0, none, 0, [], 0, 0, 0, 0, 0⟩
/-- The node's lists read, below block B; its numbers are those of their types; its lists are short. -/
structure NRd (w : World) (B : Nat) (n : Nd) : Prop where
  r : RdR w B n.bA n.bs
  p : Rd w B n.pA n.ps
  bm : U64 n.bm
  bl : n.bs.length ≤ 1100000
  pl : n.ps.length ≤ 1100000
theorem NRd.gr {w w' : World} {B : Nat} {n : Nd} (h : NRd w B n) (hB : B ≤ w.heap.size) (g : Gr w w') : NRd w' B n := ⟨h.r.gr hB g, h.p.gr hB g, h.bm, h.bl, h.pl⟩
theorem NRd.below {w w' : World} {B : Nat} {n : Nd} (h : NRd w B n) (hb : Below B w w') : NRd w' B n := ⟨h.r.below hb, h.p.below hb, h.bm, h.bl, h.pl⟩
theorem NRd.more {w : World} {B B' : Nat} {n : Nd} (h : NRd w B n) (hB : B ≤ B') : NRd w B' n := ⟨h.r.more hB, h.p.more hB, h.bm, h.bl, h.pl⟩
theorem NRd.up {w w' : World} {n : Nd} (h : NRd w w.heap.size n) (hb : Below w.heap.size w w') : NRd w' w'.heap.size n := (h.below hb).more hb.size
/-- Equal field by field. -/
def eqN (a b : Nd) : Bool :=
  a.kind == b.kind && (a.gen == b.gen && (a.main == b.main && (a.bm == b.bm && (decide (a.bs = b.bs) && (a.hash == b.hash && (decide (a.key = b.key) && (a.val == b.val && (decide (a.ps = b.ps) &&
    (a.prev == b.prev && (a.old == b.old && (a.exp == b.exp && (a.new == b.new && a.status == b.status))))))))))))

end Go.Proofs.Ytcmnmimkjkpimaa
