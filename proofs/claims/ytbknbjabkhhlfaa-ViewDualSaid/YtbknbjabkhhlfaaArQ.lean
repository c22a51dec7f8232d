/-
  The states of a tape are proper.
-/
import Derived.Test.YtbknbjabkhhlfaaArL
import Derived.Test.YtbknbjabkhhlfaaArE
import Derived.Test.YtbknbjabkhhlfaaArO
import Derived.Deep.RegionLaw
import Derived.Deep.DrawnRows
set_option linter.unusedVariables false
set_option maxRecDepth 100000
namespace Go.Proofs.Ytbknbjabkhhlfaa
open Go.Shelf Go.RowKit Go.Lib Go.Sort

theorem ownScan_true (s : Sd) : ∀ (ns : List Nd) (used : List Nat) (a m : Nat), ns.filterMap cellOf = (List.range m).map (fun i => ((a + i : Nat) : Int) + 1) → (∀ u ∈ used, u < a) → a + m ≤ s.cs.length → ownScan s ns used = true := by
  intro ns
  induction ns with
  | nil => intros; rfl
  | cons n ns ih =>
    intro used a m h hu hm
    cases hc : cellOf n with
    | none =>
      rw [List.filterMap_cons_none hc] at h
      simp only [ownScan, hc]
      exact ih used a m h hu hm
    | some c =>
      rw [List.filterMap_cons_some hc] at h
      cases m with
      | zero => simp at h
      | succ m =>
        rw [List.range_succ_eq_map, List.map_cons, List.map_map] at h
        injection h with h1 h2
        have e1 : c = (a : Int) + 1 := by simpa using h1
        have e2 : c.toNat - 1 = a := by omega
        have e3 : hasC s c = true := by simp [hasC]; omega
        have e4 : decide (a ∈ used) = false := decide_eq_false fun hin => absurd (hu a hin) (Nat.lt_irrefl a)
        simp only [ownScan, hc, e2, e3, e4, Bool.true_and, Bool.not_false]
        refine ih (a :: used) (a + 1) m ?_ (fun u hu' => ?_) (by omega)
        · rw [h2]
          apply List.map_congr_left
          intro i _
          simp
          omega
        · rcases List.mem_cons.1 hu' with h | h
          · omega
          · have := hu u h; omega

def refOk (r : Nat) (n : Nd) : Prop := (∀ z ∈ n.bs, 0 ≤ z ∧ z ≤ (r : Int)) ∧ (0 ≤ n.old ∧ n.old ≤ r) ∧ (0 ≤ n.exp ∧ n.exp ≤ r) ∧ (0 ≤ n.new ∧ n.new ≤ r)
/-- A state of a tape. -/
structure GS (lo : Nat) (s : Sd) : Prop where
  m0 : ∃ n, s.ns[0]? = some n ∧ n.kind = 1
  m1 : ∃ n, s.ns[1]? = some n ∧ n.kind = 1
  ok : ∀ n ∈ s.ns, nodeP 3 n = true ∧ refOk s.ns.length n ∧ FRs lo n
  own : s.ns.filterMap cellOf = (List.range s.cs.length).map fun (i : Nat) => (i : Int) + 1
  cs : ∀ z ∈ s.cs, 0 ≤ z ∧ z ≤ s.ns.length
  gen : s.gen = 3
theorem missR_no {s : Sd} {z : Int} (h : 0 ≤ z ∧ z ≤ s.ns.length) : missR s z = false := by simp [missR]; omega
theorem missB_no {s : Sd} {zs : List Int} (h : ∀ z ∈ zs, 0 ≤ z ∧ z ≤ (s.ns.length : Int)) : missB s zs = false := by
  rw [missB, List.any_eq_false]
  intro z hz
  simp [missR_no (h z hz)]
theorem GS.proper {lo : Nat} {s : Sd} (h : GS lo s) : properB s = true := by
  have h1 : markedB s = true := by
    obtain ⟨a, ha, ka⟩ := h.m0
    obtain ⟨b, hb, kb⟩ := h.m1
    have := (List.getElem?_eq_some_iff.1 hb).1
    simp [markedB, kindAt, ha, hb, ka, kb]
    omega
  have h2 : nodesB s = true := by
    rw [nodesB, h.gen, List.all_eq_true]
    exact fun n hn => (h.ok n hn).1
  have h3 : refsB s = true := by
    rw [refsB, missB_no h.cs, List.all_eq_true.2]
    · rfl
    · intro n hn
      obtain ⟨_, ⟨hb, ho, he, hw⟩, _⟩ := h.ok n hn
      simp [nodeM, missR_no ho, missR_no he, missR_no hw, missB_no hb]
  have h4 : ownedB s = true := ownScan_true s s.ns [] 0 s.cs.length (by rw [h.own]; simp) (fun u hu => by cases hu) (by omega)
  simp [properB, h1, h2, h3, h4]

theorem kinds_of_valid {n : Nd} (h : validN n = true) : n.kind = 1 ∨ n.kind = 2 ∨ n.kind = 3 ∨ n.kind = 4 ∨ n.kind = 5 ∨ n.kind = 6 ∨ n.kind = 7 ∨ n.kind = 8 := by
  have hf : fieldsB n = true := by
    simp only [validN, Bool.and_eq_true] at h
    exact h.2.2
  unfold fieldsB at hf
  repeat (split at hf; omega)
  cases hf
theorem validN_same {a b : Nd} (h : sameN a b) : validN b = validN a := by
  obtain ⟨A, c, P, d, rfl⟩ := h
  have e1 : eqN { a with bA := A, bc := c, pA := P, pc := d } (own { a with bA := A, bc := c, pA := P, pc := d }) = eqN a (own a) := by
    unfold own
    repeat (split; rfl)
    rfl
  simp only [validN, e1]
  rfl
theorem validN_al {n : Nd} (h : validN n = true) (h1 : n.main = 0) (h2 : n.prev = 0) (h3 : n.status = 0) {c : Int} (hc : 0 ≤ c) : validN (alN n c) = true := by
  obtain ⟨kind, gen, main, bm, bA, bc, bs, hash, key, val, pA, pc, ps, prev, old, exp, new, status⟩ := n
  simp only at h1 h2 h3
  subst h1 h2 h3
  have hk := kinds_of_valid h
  simp only at hk
  rcases hk with rfl | rfl | rfl | rfl | rfl | rfl | rfl | rfl <;> simp [validN, eqN, own, cellsB, fieldsB, alN, Nd.zero] at h ⊢ <;> simp_all
theorem cellOf_al (n : Nd) (c : Int) : cellOf (alN n c) = if hasO n then some c else none := by
  unfold cellOf alN hasO mainB
  by_cases h2 : n.kind = 2
  · simp [h2]
  by_cases h8 : n.kind = 8
  · simp [h8]
  by_cases h3 : n.kind = 3
  · simp [h3]
  by_cases h5 : n.kind = 5
  · simp [h5]
  by_cases h6 : n.kind = 6
  · simp [h6]
  simp [h2, h3, h5, h6, h8]
theorem cellOf_same {a b : Nd} (h : sameN a b) : cellOf b = cellOf a := by
  obtain ⟨A, c, P, d, rfl⟩ := h
  rfl
theorem GS.alloc {lo lo' : Nat} {s t : Sd} {n : Nd} {v : Int} (h : GS lo s) (ha : Alloced lo' s t n v) (hlo : lo ≤ lo') (hn : VN s.ns.length n) (hv : 0 ≤ v ∧ v ≤ s.ns.length) : GS lo t := by
  obtain ⟨y, hy, hs, hf⟩ := ha.ns
  have hlen : t.ns.length = s.ns.length + 1 := by rw [hy]; simp
  obtain ⟨a, ha0, ka⟩ := h.m0
  obtain ⟨b, hb0, kb⟩ := h.m1
  have l0 := (List.getElem?_eq_some_iff.1 ha0).1
  have l1 := (List.getElem?_eq_some_iff.1 hb0).1
  refine ⟨⟨a, by rw [hy, List.getElem?_append_left l0]; exact ha0, ka⟩, ⟨b, by rw [hy, List.getElem?_append_left l1]; exact hb0, kb⟩, fun x hx => ?_, ?_, fun z hz => ?_, by rw [ha.gen]; exact h.gen⟩
  · rw [hlen]
    rw [hy] at hx
    rcases List.mem_append.1 hx with hx | hx
    · obtain ⟨g1, ⟨g2, g3, g4, g5⟩, g6⟩ := h.ok x hx
      exact ⟨g1, ⟨fun z hz => by have := g2 z hz; omega, by omega, by omega, by omega⟩, g6⟩
    · have := List.mem_singleton.1 hx
      subst this
      have hval : validN x = true := by rw [validN_same hs]; exact validN_al hn.val hn.main hn.prev hn.status (by omega)
      obtain ⟨A, c, P, d, rfl⟩ := hs
      refine ⟨?_, ⟨fun z hz => by have := hn.bs z hz; omega, ?_, ?_, ?_⟩, fun ad e => Nat.le_trans hlo (hf.1 ad e), fun ad e => Nat.le_trans hlo (hf.2 ad e)⟩
      · simp only [nodeP, hval, Bool.true_and]
        exact decide_eq_true hn.gen
      · have := hn.old; show 0 ≤ n.old ∧ n.old ≤ _; omega
      · have := hn.exp; show 0 ≤ n.exp ∧ n.exp ≤ _; omega
      · have := hn.new; show 0 ≤ n.new ∧ n.new ≤ _; omega
  · rw [hy, List.filterMap_append, h.own, ha.cs]
    have e : [y].filterMap cellOf = if hasO n then [((s.cs.length : Int) + 1)] else [] := by
      simp only [List.filterMap_cons, List.filterMap_nil, cellOf_same hs, cellOf_al]
      cases hasO n <;> rfl
    rw [e]
    cases hasO n with
    | true => simp [List.range_succ]
    | false => simp
  · rw [hlen]
    rw [ha.cs] at hz
    cases ho : hasO n with
    | true =>
      rw [ho] at hz
      rcases List.mem_append.1 hz with hz | hz
      · have := h.cs z hz; omega
      · have := List.mem_singleton.1 hz; omega
    | false =>
      rw [ho] at hz
      have := h.cs z hz
      omega

end Go.Proofs.Ytbknbjabkhhlfaa
/-
  The walk of Mem.
-/
set_option linter.unusedVariables false
set_option maxRecDepth 100000
namespace Go.Proofs.Ytbknbjabkhhlfaa
open Go.Shelf Go.RowKit Go.Lib Go.Sort
attribute [local go_sem ↓] exec_load28 exec_store44 Go.wp_at_zero Go.wp_at_succ

def MemP (T : Nat) (w : World) (e : Ending) (w' : World) : Prop := ∃ q s, e = .returned (.pointer (some ⟨q, 0, none⟩)) ∧ Ob w' w.heap.size 40 q s 0 ∧ GS w.heap.size s ∧ s.ns.length ≤ 9 ∧ s.cs.length ≤ 9 ∧ w.grownBy w' (some T)
theorem Ob.setGen {w : World} {base : Nat} {T : TypeId} {q : Nat} {s : Sd} {acc : Int} (h : Ob w base T q s acc) (h42 : T ≠ 29) (h44 : T ≠ 35) (g : Int) : Ob (w.setCell ⟨q, 2, none⟩ (.int .i64 g)) base T q { s with gen := g } acc := by
  have hf : Fr (Mu q s) w (w.setCell ⟨q, 2, none⟩ (.int .i64 g)) := (Fr.refl _ w).setCell (.inl (.inl rfl)) _
  have hk : ∀ k, k ≠ q → (w.setCell ⟨q, 2, none⟩ (.int .i64 g)).heap[k]? = w.heap[k]? := fun k hk => Below.heap_setCell w ⟨q, 2, none⟩ _ k hk
  exact ⟨set_block (t := T) h.blk 2 _, h.hq, h.nod.keepFrom fun k hk1 _ => hk k (h.nod_ne h44 hk1), h.cel.keepAt fun k hk1 _ => hk k (h.cel_ne h42 hk1), fun n hn => (h.l n hn).fr hf fun _ hm => .inl hm, h.nl, h.cl⟩
theorem gs_new (lo g : Nat) : GS lo { newS g with gen := 3 } := by
  have hv : validN markN = true := by simp [validN, eqN, own, cellsB, fieldsB, markN, Nd.zero]
  refine ⟨⟨markN, rfl, rfl⟩, ⟨markN, rfl, rfl⟩, fun n hn => ?_, by simp [newS, cellOf, mainB, markN, Nd.zero], fun z hz => (by cases hz), rfl⟩
  have : n = markN := by
    have hn' : n ∈ [markN, markN] := hn
    simpa using hn'
  subst this
  refine ⟨?_, ⟨fun z hz => (by cases hz), ?_, ?_, ?_⟩, fun ad e => (by cases e), fun ad e => (by cases e)⟩
  · simp only [nodeP, hv, Bool.true_and]
    exact decide_eq_true (by show (0 : Int) ≤ 3; omega)
  · show (0 : Int) ≤ 0 ∧ (0 : Int) ≤ 2; omega
  · show (0 : Int) ≤ 0 ∧ (0 : Int) ≤ 2; omega
  · show (0 : Int) ≤ 0 ∧ (0 : Int) ≤ 2; omega
/-- Behind a step of the tape the object stands. -/
theorem Ob.tape {w w' : World} {base : Nat} {T : TypeId} {q t : Nat} {s : Sd} {acc : Int} (h : Ob w base T q s acc) (hl : ∀ n ∈ s.ns, FRs base n) (ht : t < base) (hg : w.grownBy w' (some t)) : Ob w' base T q s acc :=
  h.fr (Fr.of_grown hg) (fun k hk hm => by have := (h.mu_lt hk).1; have hm' : some t = some k := hm; injection hm' with hm'; omega) fun n hn => ⟨fun ad e hm => by have := (hl n hn).1 ad e; have hm' : some t = some ad.block := hm; injection hm' with hm'; omega, fun ad e hm => by have := (hl n hn).2 ad e; have hm' : some t = some ad.block := hm; injection hm' with hm'; omega⟩

theorem grown_fr {w wr w' : World} {t : Nat} {M : Nat → Prop} (G : w.grownBy wr (some t)) (hf : Fr M wr w') (hM : ∀ k, M k → w.heap.size ≤ k) : w.grownBy w' (some t) :=
  ⟨hf.os.trans G.os, hf.tape.trans G.tape, hf.output.trans G.output, Nat.le_trans G.size hf.size, fun k hk hne => (hf.block k (Nat.lt_of_lt_of_le hk G.size) (fun hm => by have := hM k hm; omega)).trans (G.block k hk hne)⟩
theorem next_s (T n : Nat) (w : World) (h : Tape T w) (h2 : n ≤ 1000000) : Calls Try.prog 19 #[.pointer (some ⟨T, 0, none⟩), .int .i64 ((n : Int) + 1)] w (NextPost T (n + 1) w) := next_any T (n + 1) w h (by omega) (by omega)
theorem nrd_tape {u1 u2 : World} {n : Nd} {lo t : Nat} (h : NRd u1 u1.heap.size n) (hf : FRs lo n) (ht : t < lo) (hg : u1.grownBy u2 (some t)) : NRd u2 u2.heap.size n :=
  ⟨h.r.fr (Fr.of_grown hg) fun ad e hm => by have := hf.1 ad e; have hm' : some t = some ad.block := hm; injection hm' with hm'; omega, h.p.fr (Fr.of_grown hg) fun ad e hm => by have := hf.2 ad e; have hm' : some t = some ad.block := hm; injection hm' with hm'; omega, h.bm, h.bl, h.pl⟩
theorem av_of {wr : World} {base : Nat} {T : TypeId} {q : Nat} {s : Sd} {acc : Int} {n : Nd} (hO : Ob wr base T q s acc) (hf : FRs wr.heap.size n) : Av (Mu q s) n.bA ∧ Av (Mu q s) n.pA :=
  ⟨fun ad e hm => by have := (hO.mu_lt hm).2; have := hf.1 ad e; omega, fun ad e hm => by have := (hO.mu_lt hm).2; have := hf.2 ad e; omega⟩
end Go.Proofs.Ytbknbjabkhhlfaa
