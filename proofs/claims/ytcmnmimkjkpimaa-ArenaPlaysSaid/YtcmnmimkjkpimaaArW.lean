/-
  An arena and the reference's, side by side.
-/
import Derived.Test.YtcmnmimkjkpimaaArV
set_option linter.unusedVariables false
set_option maxRecDepth 100000
namespace Go.Proofs.Ytcmnmimkjkpimaa
open Go.Shelf Go.RowKit Go.Lib Go.Sort

theorem sameN.symm {a b : Nd} (h : sameN a b) : sameN b a := by
  obtain ⟨A, c, P, d, rfl⟩ := h
  exact ⟨a.bA, a.bc, a.pA, a.pc, rfl⟩
theorem sameN.trans {a b c : Nd} (h : sameN a b) (k : sameN b c) : sameN a c := by
  obtain ⟨A, c', P, d, rfl⟩ := h
  obtain ⟨A', c'', P', d', rfl⟩ := k
  exact ⟨A', c'', P', d', rfl⟩
theorem SameL.symm {xs ys : List Nd} (h : SameL xs ys) : SameL ys xs := ⟨h.1.symm, fun i a b ha hb => (h.2 i b a hb ha).symm⟩
theorem SameL.snoc {xs ys : List Nd} {x y : Nd} (h : SameL xs ys) (k : sameN x y) : SameL (xs ++ [x]) (ys ++ [y]) := by
  refine ⟨by simp [h.1], fun i a b ha hb => ?_⟩
  by_cases hi : i < xs.length
  · rw [List.getElem?_append_left hi] at ha
    rw [List.getElem?_append_left (h.1 ▸ hi)] at hb
    exact h.2 i a b ha hb
  · by_cases hi2 : i = xs.length
    · subst hi2
      rw [List.getElem?_append_right (Nat.le_refl _)] at ha
      rw [List.getElem?_append_right (by rw [← h.1]; exact Nat.le_refl _), ← h.1] at hb
      simp at ha hb
      subst ha hb
      exact k
    · have := (List.getElem?_eq_some_iff.1 ha).1
      simp at this
      omega
/-- Both arenas, apart from one another, with equal states. -/
structure Two (w : World) (qa qm : Nat) (s t : Sd) (x y : Int) : Prop where
  a : Ob w 0 77 qa s x
  m : Ob w 0 37 qm t y
  d : ∀ k, Mu qa s k → ¬ Mu qm t k
  la : ∀ n ∈ s.ns, Av (Mu qm t) n.bA ∧ Av (Mu qm t) n.pA
  lm : ∀ n ∈ t.ns, Av (Mu qa s) n.bA ∧ Av (Mu qa s) n.pA
  ns : SameL t.ns s.ns
  cs : s.cs = t.cs
  gen : s.gen = t.gen
/-- What a call of one arena leaves. -/
structure Did (w w' : World) (q : Nat) (s s' : Sd) : Prop where
  fr : Fr (Mu q s) w w'
  mu : ∀ k, Mu q s' k → Mu q s k ∨ w.heap.size ≤ k
  l : ∀ n ∈ s'.ns, n ∈ s.ns ∨ FRs w.heap.size n
section
variable {w w1 w2 : World} {qa qm : Nat} {s s' t t' : Sd} {x x' y y' : Int}
/-- Behind the arena's call the reference's stands. -/
theorem Two.mid (h : Two w qa qm s t x y) (D1 : Did w w1 qa s s') : Ob w1 0 37 qm t y :=
  h.m.fr D1.fr (fun k hk hm => h.d k hm hk) h.lm
/-- Behind both calls both stand apart. -/
theorem Two.step (h : Two w qa qm s t x y) (Oa : Ob w1 0 77 qa s' x') (D1 : Did w w1 qa s s') (Om : Ob w2 0 37 qm t' y') (D2 : Did w1 w2 qm t t') (hl : SameL t'.ns s'.ns) (hc : s'.cs = t'.cs) (hg : s'.gen = t'.gen) : Two w2 qa qm s' t' x' y' := by
  have hmt : ∀ k, Mu qm t k → k < w.heap.size := fun k hk => (h.m.mu_lt hk).2
  have hms : ∀ k, Mu qa s' k → k < w1.heap.size := fun k hk => (Oa.mu_lt hk).2
  have hd1 : ∀ k, Mu qa s' k → ¬ Mu qm t k := fun k hk hm => (D1.mu k hk).elim (fun hk => h.d k hk hm) fun hk => by have := hmt k hm; omega
  have hla : ∀ n ∈ s'.ns, Av (Mu qm t) n.bA ∧ Av (Mu qm t) n.pA := fun n hn => (D1.l n hn).elim (fun hn => h.la n hn) fun hf =>
    ⟨fun ad e hm => by have := hf.1 ad e; have := hmt _ hm; omega, fun ad e hm => by have := hf.2 ad e; have := hmt _ hm; omega⟩
  refine ⟨Oa.fr D2.fr hd1 hla, Om, fun k hk hm => (D2.mu k hm).elim (fun hm => hd1 k hk hm) fun hm => by have := hms k hk; omega, fun n hn => ?_, fun n hn => ?_, hl, hc, hg⟩
  · have hn' := Oa.l n hn
    exact ⟨fun ad e hm => (D2.mu _ hm).elim (fun hm => (hla n hn).1 ad e hm) fun hm => by have := hn'.lb ad e; omega, fun ad e hm => (D2.mu _ hm).elim (fun hm => (hla n hn).2 ad e hm) fun hm => by have := hn'.lp ad e; omega⟩
  · rcases D2.l n hn with hn' | hf
    · have hlm := h.lm n hn'
      have ho := h.m.l n hn'
      exact ⟨fun ad e hm => (D1.mu _ hm).elim (fun hm => hlm.1 ad e hm) fun hm => by have := ho.lb ad e; omega, fun ad e hm => (D1.mu _ hm).elim (fun hm => hlm.2 ad e hm) fun hm => by have := ho.lp ad e; omega⟩
    · exact ⟨fun ad e hm => by have := hf.1 ad e; have := hms _ hm; omega, fun ad e hm => by have := hf.2 ad e; have := hms _ hm; omega⟩
/-- What leaves the blocks of both leaves both. -/
theorem Two.up (h : Two w qa qm s t x y) (hf : Fr (fun _ => False) w w1) : Two w1 qa qm s t x y :=
  ⟨h.a.fr hf (fun _ _ e => e) fun _ _ => ⟨fun _ _ e => e, fun _ _ e => e⟩, h.m.fr hf (fun _ _ e => e) fun _ _ => ⟨fun _ _ e => e, fun _ _ e => e⟩, h.d, h.la, h.lm, h.ns, h.cs, h.gen⟩
theorem Two.below (h : Two w qa qm s t x y) (hb : RowKit.Below w.heap.size w w1) : Two w1 qa qm s t x y := h.up (Fr.of_below hb)
/-- From (s, x) to (s', x') one call of the arena has run. -/
theorem did_alloc {T : TypeId} {q : Nat} {n : Nd} {v : Int} (hA : Alloced w.heap.size s s' n v) (hf : Fr (Mu q s) w w1) (hm : ∀ k, Mu q s' k → Mu q s k ∨ w.heap.size ≤ k) : Did w w1 q s s' := by
  obtain ⟨z, hz, _, hfz⟩ := hA.ns
  refine ⟨hf, hm, fun n hn => ?_⟩
  rw [hz] at hn
  rcases List.mem_append.1 hn with hn | hn
  · exact .inl hn
  · exact .inr (by rw [List.mem_singleton.1 hn]; exact hfz)
theorem did_self {q : Nat} (hf : Fr (fun k => k = q) w w1) : Did w w1 q s s := ⟨hf.mono fun k _ e => .inl e, fun _ hk => .inl hk, fun _ hn => .inl hn⟩
theorem did_gen {q : Nat} {g : Int} (hf : Fr (fun k => k = q) w w1) : Did w w1 q s (s.withGen g) := ⟨hf.mono fun k _ e => .inl e, fun _ hk => .inl hk, fun _ hn => .inl hn⟩
theorem did_newC {q g cap : Nat} {v : Int} (hf : Fr (Mu q s) w w1) (hm : ∀ k, Mu q (s.addC g cap v) k → Mu q s k ∨ w.heap.size ≤ k) : Did w w1 q s (s.addC g cap v) := ⟨hf, hm, fun _ hn => .inl hn⟩
theorem casS_ns (s : Sd) (c old new : Int) : (casS s c old new).ns = s.ns ∧ (casS s c old new).gen = s.gen := by
  unfold casS
  split <;> exact ⟨rfl, rfl⟩
theorem did_cas {q : Nat} {c old new : Int} (hf : Fr (Mu q s) w w1) : Did w w1 q s (casS s c old new) :=
  ⟨hf, fun k hk => .inl (by unfold casS at hk; split at hk <;> exact hk), fun n hn => .inl (by rw [(casS_ns s c old new).1] at hn; exact hn)⟩
theorem has_eq (h : s.cs = t.cs) (c : Int) : hasC s c = hasC t c := by unfold hasC; rw [h]
theorem cell_eq (h : s.cs = t.cs) (c : Int) : cellV s c = cellV t c := by unfold cellV; rw [has_eq h, h]
theorem casB_eq (h : s.cs = t.cs) (c old : Int) : casB s c old = casB t c old := by unfold casB; rw [has_eq h, cell_eq h]
theorem casS_cs (h : s.cs = t.cs) (c old new : Int) : (casS s c old new).cs = (casS t c old new).cs := by
  simp only [casS, casB_eq h]
  split
  · simp only [Sd.setC, h]
  · exact h
theorem alloced_same {n : Nd} {v : Int} {lo lo' : Nat} (h : Two w qa qm s t x y) (A1 : Alloced lo s s' n v) (A2 : Alloced lo' t t' n v) : SameL t'.ns s'.ns ∧ s'.cs = t'.cs ∧ s'.gen = t'.gen := by
  obtain ⟨z, hz, sz, _⟩ := A1.ns
  obtain ⟨z', hz', sz', _⟩ := A2.ns
  refine ⟨?_, by rw [A1.cs, A2.cs, h.cs], by rw [A1.gen, A2.gen, h.gen]⟩
  rw [hz, hz']
  rw [← h.cs] at sz'
  exact h.ns.snoc (sz'.symm.trans sz)
end

/-- What a step leaves of the numbers. -/
structure Went (s s' : Sd) (x x' y y' : Int) : Prop where
  ns : ∃ l, s'.ns = s.ns ++ l ∧ l.length ≤ 1
  cs : s'.cs.length ≤ s.cs.length + 1
  gen : s.gen ≤ s'.gen ∧ s'.gen ≤ s.gen + 1
  acc : x ≤ x' ∧ x' ≤ x + 1 ∧ x' - x = y' - y
/-- What a step of a law leaves. -/
structure App (w w' : World) (qa qm : Nat) (s t s' t' : Sd) (x y x' y' : Int) : Prop where
  two : Two w' qa qm s' t' x' y'
  went : Went s s' x x' y y'
  fr : Fr (fun k => Mu qa s k ∨ Mu qm t k) w w'
  mua : ∀ k, Mu qa s' k → Mu qa s k ∨ w.heap.size ≤ k
  mum : ∀ k, Mu qm t' k → Mu qm t k ∨ w.heap.size ≤ k
  la : ∀ n ∈ s'.ns, n ∈ s.ns ∨ FRs w.heap.size n
  lm : ∀ n ∈ t'.ns, n ∈ t.ns ∨ FRs w.heap.size n
theorem App.mk_ {w wc w1 w2 : World} {qa qm : Nat} {s s' t t' : Sd} {x x' y y' : Int} (hb : RowKit.Below w.heap.size w wc) (h : Two wc qa qm s t x y) (Oa : Ob w1 0 77 qa s' x') (D1 : Did wc w1 qa s s') (Om : Ob w2 0 37 qm t' y') (D2 : Did w1 w2 qm t t') (hl : SameL t'.ns s'.ns) (hc : s'.cs = t'.cs) (hg : s'.gen = t'.gen) (hw : Went s s' x x' y y') : App w w2 qa qm s t s' t' x y x' y' := by
  have h1 : w.heap.size ≤ wc.heap.size := hb.size
  have h2 : wc.heap.size ≤ w1.heap.size := D1.fr.size
  refine ⟨h.step Oa D1 Om D2 hl hc hg, hw, ?_, fun k hk => (D1.mu k hk).imp id (fun hk => by omega), fun k hk => (D2.mu k hk).imp id (fun hk => by omega), fun n hn => (D1.l n hn).imp id fun hf => ⟨fun ad e => Nat.le_trans h1 (hf.1 ad e), fun ad e => Nat.le_trans h1 (hf.2 ad e)⟩, fun n hn => (D2.l n hn).imp id fun hf => ⟨fun ad e => Nat.le_trans (Nat.le_trans h1 h2) (hf.1 ad e), fun ad e => Nat.le_trans (Nat.le_trans h1 h2) (hf.2 ad e)⟩⟩
  exact ((Fr.of_below hb).then_ (D1.fr.mono fun k _ hk => .inl hk)).then_ (D2.fr.mono fun k _ hk => .inr hk)
theorem went_alloc {lo : Nat} {s s' : Sd} {n : Nd} {v x y : Int} (A : Alloced lo s s' n v) : Went s s' x x y y := by
  obtain ⟨z, hz, _⟩ := A.ns
  refine ⟨⟨[z], hz, by simp⟩, ?_, by rw [A.gen]; omega, by omega⟩
  rw [A.cs]
  split <;> simp
theorem went_self {s : Sd} {x y : Int} : Went s s x (x + 1) y (y + 1) ∧ Went s s x x y y := by
  refine ⟨⟨⟨[], by simp, by simp⟩, by omega, by omega, by omega⟩, ⟨⟨[], by simp, by simp⟩, by omega, by omega, by omega⟩⟩
theorem went_gen {s : Sd} {x y : Int} : Went s (s.withGen (s.gen + 1)) x x y y := ⟨⟨[], by simp [Sd.withGen], by simp⟩, by simp [Sd.withGen], by simp [Sd.withGen]; omega, by omega⟩
theorem went_newC {s : Sd} {x y v : Int} {g cap : Nat} : Went s (s.addC g cap v) x x y y := ⟨⟨[], by simp [Sd.addC], by simp⟩, by simp [Sd.addC], (by show s.gen ≤ s.gen ∧ s.gen ≤ s.gen + 1; omega), by omega⟩
theorem went_cas {s : Sd} {x y c old new : Int} : Went s (casS s c old new) x (x + 1) y (y + 1) := by
  refine ⟨⟨[], by simp [(casS_ns s c old new).1], by simp⟩, ?_, by rw [(casS_ns s c old new).2]; omega, by omega⟩
  unfold casS
  split <;> simp [Sd.setC]

end Go.Proofs.Ytcmnmimkjkpimaa
