/-
  The walks of both NewCells.
-/
import Derived.Test.YtbknbjabkhhlfaaArF
import Derived.Deep.AppendLies
set_option linter.unusedVariables false
set_option maxRecDepth 100000
namespace Go.Proofs.Ytbknbjabkhhlfaa
open Go.Shelf Go.RowKit Go.Lib Go.Sort
attribute [local go_sem ↓] exec_load28 exec_store44
attribute [local go_sem] run_storeNode_new

section
variable {w w1 : World} {base : Nat} {T : TypeId} {q : Nat} {s : Sd} {acc : Int}
theorem Ob.cel_ne (h : Ob w base T q s acc) (hT : T ≠ 29) {k : Nat} (hk : (Value.slice s.cA s.cs.length s.cc).ownBlock = some k) : k ≠ q := fun e => by
  obtain ⟨_, _, cs, hcs⟩ := h.cel.lt_ hk
  rw [e, h.blk] at hcs
  injection hcs with hcs
  injection hcs with _ hcs _
  exact hT hcs
theorem Ob.nod_ne (h : Ob w base T q s acc) (hT : T ≠ 35) {k : Nat} (hk : (Value.slice s.nA s.ns.length s.nc).ownBlock = some k) : k ≠ q := fun e => by
  obtain ⟨_, _, cs, hcs⟩ := h.nod.lt_ hk
  rw [e, h.blk] at hcs
  injection hcs with hcs
  injection hcs with _ hcs _
  exact hT hcs
theorem Ob.rows_ne (h : Ob w base T q s acc) {k k' : Nat} (hk : (Value.slice s.nA s.ns.length s.nc).ownBlock = some k) (hk' : (Value.slice s.cA s.cs.length s.cc).ownBlock = some k') : k ≠ k' := fun e => by
  obtain ⟨_, _, cs, hcs⟩ := h.nod.lt_ hk
  obtain ⟨_, _, cs', hcs'⟩ := h.cel.lt_ hk'
  rw [e, hcs'] at hcs
  injection hcs with hcs
  injection hcs with _ hcs _
  exact absurd hcs (by decide)
theorem own_some {A : Option Addr} {n c k : Nat} (h : (Value.slice A n c).ownBlock = some k) : ∃ ad, A = some ad ∧ ad.block = k := by
  cases A with
  | none => cases h
  | some ad => injection h with h; exact ⟨ad, rfl, h⟩
theorem own_of {A : Option Addr} {n c k : Nat} (h : ∃ ad, A = some ad ∧ ad.block = k) : (Value.slice A n c).ownBlock = some k := by
  obtain ⟨ad, rfl, rfl⟩ := h
  rfl
/-- The state with one cell more. -/
def Sd.addC (s : Sd) (g cap : Nat) (v : Int) : Sd := { s with cA := some ⟨g, 0, none⟩, cc := cap, cs := s.cs ++ [v] }
theorem Ob.newCell (h : Ob w base T q s acc) (h42 : T ≠ 29) (h44 : T ≠ 35) (hl : s.cs.length < 1000) {g cap : Nat} {v : Int} (o : Obj)
    (hown : w1.ownsRow base 29 1 (.slice (some ⟨g, 0, none⟩) (s.cs.length + 1) cap) (s.cs.length + 1) (flatR s.cs ++ [.int .i64 v]))
    (hg : (w.alloc o).grownBy w1 (Value.slice s.cA s.cs.length s.cc).ownBlock) (hat : (Value.slice s.cA s.cs.length s.cc).ownBlock = some g ∨ g = w.heap.size + 1) :
    Ob (w1.setCell ⟨q, 1, none⟩ (.slice (some ⟨g, 0, none⟩) (s.cs.length + 1) cap)) base T q (s.addC g cap v) acc ∧ Fr (Mu q s) w (w1.setCell ⟨q, 1, none⟩ (.slice (some ⟨g, 0, none⟩) (s.cs.length + 1) cap)) ∧ (∀ k, Mu q (s.addC g cap v) k → Mu q s k ∨ w.heap.size ≤ k) := by
  have hqlt := h.lt
  have hkeep : ∀ k, k < w.heap.size → (Value.slice s.cA s.cs.length s.cc).ownBlock ≠ some k → k ≠ q → (w1.setCell ⟨q, 1, none⟩ (.slice (some ⟨g, 0, none⟩) (s.cs.length + 1) cap)).heap[k]? = w.heap[k]? := fun k hk h1 h2 =>
    ((Below.heap_setCell w1 ⟨q, 1, none⟩ _ k h2).trans (hg.block k (by simp; omega) (fun e => h1 e.symm))).trans (Below.heap_alloc w o k hk)
  have hgq : g ≠ q := by
    rcases hat with hat | hat
    · exact h.cel_ne h42 hat
    · omega
  have hq1 : w1.heap[q]? = w.heap[q]? := (hg.block q (by simp; omega) (fun e => h.cel_ne h42 e.symm rfl)).trans (Below.heap_alloc w o q hqlt)
  have hMu : ∀ k, Mu q (s.addC g cap v) k → Mu q s k ∨ w.heap.size ≤ k := fun k hk => by
    rcases hk with hk | hk | ⟨ad, e, hk⟩
    · exact .inl (.inl hk)
    · exact .inl (.inr (.inl hk))
    · have e' : some (⟨g, 0, none⟩ : Addr) = some ad := e
      injection e' with e'
      subst e'
      have hk' : g = k := hk
      subst hk'
      rcases hat with hat | hat
      · exact .inl (.inr (.inr (own_some hat)))
      · exact .inr (by omega)
  have hfr : Fr (Mu q s) w (w1.setCell ⟨q, 1, none⟩ (.slice (some ⟨g, 0, none⟩) (s.cs.length + 1) cap)) :=
    ⟨hg.os, hg.tape, hg.output, by have := hg.size; simp at this ⊢; omega, fun k hk hn => hkeep k hk (fun e => hn (.inr (.inr (own_some e)))) (fun e => hn (.inl e))⟩
  have hlen : (s.cs ++ [v]).length = s.cs.length + 1 := by simp
  refine ⟨⟨?_, h.hq, ?_, ?_, fun n hn => (h.l n hn).fr hfr hMu, h.nl, by show (s.cs ++ [v]).length ≤ 1000; omega⟩, hfr, hMu⟩
  · show _ = some (Obj.cells #[.slice s.nA s.ns.length s.nc, .slice (some ⟨g, 0, none⟩) (s.cs ++ [v]).length cap, .int .i64 s.gen, .int .i64 acc] T (0, 0))
    rw [hlen]
    exact set_block (t := T) (hq1.trans h.blk) 1 _
  · exact h.nod.keepFrom fun k hk hk2 => hkeep k hk2 (fun e => h.rows_ne hk e rfl) (h.nod_ne h44 hk)
  · show (w1.setCell _ _).ownsRow base 29 1 (.slice (some ⟨g, 0, none⟩) (s.cs ++ [v]).length cap) (s.cs ++ [v]).length (flatR (s.cs ++ [v]))
    rw [hlen, flatR_append]
    have ho : OwnR w1 base (.slice (some ⟨g, 0, none⟩) (s.cs.length + 1) cap) (s.cs ++ [v]) := by
      show w1.ownsRow base 29 1 _ (s.cs ++ [v]).length (flatR (s.cs ++ [v]))
      rw [hlen, flatR_append]
      exact hown
    have := ho.keepAt (w' := w1.setCell ⟨q, 1, none⟩ (.slice (some ⟨g, 0, none⟩) (s.cs.length + 1) cap)) fun k hk _ => Below.heap_setCell w1 ⟨q, 1, none⟩ _ k (fun e => by
      injection hk with hk
      exact hgq (hk.trans e))
    have h2 : (w1.setCell ⟨q, 1, none⟩ (.slice (some ⟨g, 0, none⟩) (s.cs.length + 1) cap)).ownsRow base 29 1 _ (s.cs ++ [v]).length (flatR (s.cs ++ [v])) := this
    rw [hlen, flatR_append] at h2
    exact h2
end
def NewCPost (base : Nat) (T : TypeId) (q : Nat) (s : Sd) (acc v : Int) (w : World) (e : Ending) (w' : World) : Prop :=
  ∃ g cap, e = .returned (.int .i64 ((s.cs.length : Int) + 1)) ∧ Ob w' base T q (s.addC g cap v) acc ∧ Fr (Mu q s) w w' ∧ (∀ k, Mu q (s.addC g cap v) k → Mu q s k ∨ w.heap.size ≤ k)
set_option maxHeartbeats 4000000 in
theorem newCell_a (base q : Nat) (s : Sd) (acc v : Int) (w : World) (h : Ob w base 69 q s acc) (hl : s.cs.length < 1000) :
    Calls Try.prog 10 #[.pointer (some ⟨q, 0, none⟩), .int .i64 v] w (NewCPost base 69 q s acc v w) := by
  have H := Lib.hid h
  have hqw := h.lt
  have hbw : base ≤ w.heap.size := Nat.le_trans h.hq (Nat.le_of_lt hqw)
  obtain ⟨i0, hi0, hz0, hz1, hz2⟩ := info_parts refInfo
  have HI := Lib.hid (⟨hi0, hz0, hz1, hz2⟩ : _ ∧ _ ∧ _ ∧ _)
  have HBW := Lib.hid hbw
  have HQW := Lib.hid hqw
  have c1 := block_cell h.blk (i := 1) (v := .slice s.cA s.cs.length s.cc) rfl
  have hqn : q ≠ w.heap.size := by omega
  have c1' := fun o => (World.cell?_alloc_lt w o ⟨q, 1, none⟩ hqw).trans c1
  clear h hbw hi0 hz0 hz1 hz2 hqw
  go_enter Try.func10, Try.ntmps10
  go_wp2_with (at_builtin
               refine wpList_append_lies _ rfl (.tmp 10) (.tmp 12) 32 rfl base 29 i0 _ 1 8 Try.underlying32 HI.out.1 HI.out.2.1 HI.out.2.2.1 HI.out.2.2.2 rfl (by omega) (.slice s.cA s.cs.length s.cc) s.cs.length (flatR s.cs) rfl (OwnR.alloc H.out.cel _) ⟨w.heap.size, 0, none⟩ 1 1 [.int .i64 v] rfl rfl (fun j u hj => by
                 rw [Addr.add_lit, Nat.zero_add]
                 exact (cell_of_row (w.alloc (.cells #[.int .i64 v] 29)) w.heap.size j #[.int .i64 v] 29 (0, 0) (heap_alloc_new w _)).trans (by simpa using hj)) (fun u hu => by rw [List.mem_singleton.1 hu]; rfl) (by omega) (by simp only [maxLen]; omega) (by omega) (Nat.le_trans HBW.out (by simp)) (w.heap.size + 1) (by simp) ?_
               intro g cap w1 hown hgrow hat hlt
               have N := Lib.hid (H.out.newCell (by decide) (by decide) hl _ hown hgrow hat)
               have hb1 : w1.heap[q]? = w.heap[q]? := (hgrow.block q (by have := HQW.out; simp; omega) (fun e => H.out.cel_ne (by decide) e.symm rfl)).trans (Below.heap_alloc w _ q HQW.out)
               have e1 := block_cell (hb1.trans H.out.blk) (i := 1) (v := .slice s.cA s.cs.length s.cc) rfl
               have f1 := block_frozen (hb1.trans H.out.blk) 1
               clear hown hgrow hat hlt hb1)
  go_ret
  refine ⟨g, cap, ?_, N.out⟩
  first | rfl | exact ret_int (by simp)
set_option maxHeartbeats 4000000 in
theorem newCell_m (base q : Nat) (s : Sd) (acc v : Int) (w : World) (h : Ob w base 40 q s acc) (hl : s.cs.length < 1000) :
    Calls Try.prog 20 #[.pointer (some ⟨q, 0, none⟩), .int .i64 v] w (NewCPost base 40 q s acc v w) := by
  have H := Lib.hid h
  have hqw := h.lt
  have hbw : base ≤ w.heap.size := Nat.le_trans h.hq (Nat.le_of_lt hqw)
  obtain ⟨i0, hi0, hz0, hz1, hz2⟩ := info_parts refInfo
  have HI := Lib.hid (⟨hi0, hz0, hz1, hz2⟩ : _ ∧ _ ∧ _ ∧ _)
  have HBW := Lib.hid hbw
  have HQW := Lib.hid hqw
  have c1 := block_cell h.blk (i := 1) (v := .slice s.cA s.cs.length s.cc) rfl
  have hqn : q ≠ w.heap.size := by omega
  have c1' := fun o => (World.cell?_alloc_lt w o ⟨q, 1, none⟩ hqw).trans c1
  clear h hbw hi0 hz0 hz1 hz2 hqw
  go_enter Try.func20, Try.ntmps20
  go_wp2_with (at_builtin
               refine wpList_append_lies _ rfl (.tmp 10) (.tmp 12) 32 rfl base 29 i0 _ 1 8 Try.underlying32 HI.out.1 HI.out.2.1 HI.out.2.2.1 HI.out.2.2.2 rfl (by omega) (.slice s.cA s.cs.length s.cc) s.cs.length (flatR s.cs) rfl (OwnR.alloc H.out.cel _) ⟨w.heap.size, 0, none⟩ 1 1 [.int .i64 v] rfl rfl (fun j u hj => by
                 rw [Addr.add_lit, Nat.zero_add]
                 exact (cell_of_row (w.alloc (.cells #[.int .i64 v] 29)) w.heap.size j #[.int .i64 v] 29 (0, 0) (heap_alloc_new w _)).trans (by simpa using hj)) (fun u hu => by rw [List.mem_singleton.1 hu]; rfl) (by omega) (by simp only [maxLen]; omega) (by omega) (Nat.le_trans HBW.out (by simp)) (w.heap.size + 1) (by simp) ?_
               intro g cap w1 hown hgrow hat hlt
               have N := Lib.hid (H.out.newCell (by decide) (by decide) hl _ hown hgrow hat)
               have hb1 : w1.heap[q]? = w.heap[q]? := (hgrow.block q (by have := HQW.out; simp; omega) (fun e => H.out.cel_ne (by decide) e.symm rfl)).trans (Below.heap_alloc w _ q HQW.out)
               have e1 := block_cell (hb1.trans H.out.blk) (i := 1) (v := .slice s.cA s.cs.length s.cc) rfl
               have f1 := block_frozen (hb1.trans H.out.blk) 1
               clear hown hgrow hat hlt hb1)
  go_ret
  refine ⟨g, cap, ?_, N.out⟩
  first | rfl | exact ret_int (by simp)

end Go.Proofs.Ytbknbjabkhhlfaa
/-
  The walks of access, Load, CAS, Node, State.
-/
set_option linter.unusedVariables false
set_option maxRecDepth 100000
namespace Go.Proofs.Ytbknbjabkhhlfaa
open Go.Shelf Go.RowKit Go.Lib Go.Sort
attribute [local go_sem ↓] exec_load28 exec_store44
attribute [local go_sem] run_storeNode_new

section
variable {w w' : World} {base : Nat} {T : TypeId} {q : Nat} {s : Sd} {acc : Int}
/-- What leaves the object's own blocks, and those of its lists, as they were, leaves the object. -/
theorem Ob.fr (h : Ob w base T q s acc) {M : Nat → Prop} (hf : Fr M w w') (h1 : ∀ k, Mu q s k → ¬ M k) (h2 : ∀ n ∈ s.ns, Av M n.bA ∧ Av M n.pA) : Ob w' base T q s acc := by
  have hb : ∀ k, Mu q s k → w'.heap[k]? = w.heap[k]? := fun k hk => hf.block k (h.mu_lt hk).2 (h1 k hk)
  refine ⟨(hb q (.inl rfl)).trans h.blk, h.hq, h.nod.keepFrom fun k hk _ => hb k (.inr (.inl (own_some hk))), h.cel.keepAt fun k hk _ => hb k (.inr (.inr (own_some hk))), fun n hn => ?_, h.nl, h.cl⟩
  have hn' := h.l n hn
  exact ⟨⟨hn'.rd.r.fr hf (h2 n hn).1, hn'.rd.p.fr hf (h2 n hn).2, hn'.rd.bm, hn'.rd.bl, hn'.rd.pl⟩, hn'.ba, hn'.pa, hn'.ab, hn'.ap, fun ad e => Nat.lt_of_lt_of_le (hn'.lb ad e) hf.size, fun ad e => Nat.lt_of_lt_of_le (hn'.lp ad e) hf.size⟩
theorem Ob.up (h : Ob w base T q s acc) (hb : Below w.heap.size w w') : Ob w' base T q s acc :=
  h.fr (M := fun _ => False) (Fr.of_below hb) (fun _ _ hf => hf) fun n _ => ⟨fun _ _ hf => hf, fun _ _ hf => hf⟩
theorem Ob.setAcc (h : Ob w base T q s acc) (h42 : T ≠ 29) (h44 : T ≠ 35) (a' : Int) : Ob (w.setCell ⟨q, 3, none⟩ (.int .i64 a')) base T q s a' := by
  have hf : Fr (Mu q s) w (w.setCell ⟨q, 3, none⟩ (.int .i64 a')) := (Fr.refl _ w).setCell (.inl (.inl rfl)) _
  have hk : ∀ k, k ≠ q → (w.setCell ⟨q, 3, none⟩ (.int .i64 a')).heap[k]? = w.heap[k]? := fun k hk => Below.heap_setCell w ⟨q, 3, none⟩ _ k hk
  exact ⟨set_block (t := T) h.blk 3 _, h.hq, h.nod.keepFrom fun k hk1 _ => hk k (h.nod_ne h44 hk1), h.cel.keepAt fun k hk1 _ => hk k (h.cel_ne h42 hk1), fun n hn => (h.l n hn).fr hf fun _ hm => .inl hm, h.nl, h.cl⟩
def Sd.setC (s : Sd) (i : Nat) (v : Int) : Sd := { s with cs := s.cs.set i v }
theorem flatR_set (xs : List Int) (i : Nat) (v : Int) : flatR (xs.set i v) = (flatR xs).set i (.int .i64 v) := by simp [flatR, List.map_set]
theorem Ob.setC (h : Ob w base T q s acc) (h42 : T ≠ 29) {g : Nat} (hg : s.cA = some ⟨g, 0, none⟩) {i : Nat} (hi : i < s.cs.length) (v : Int) : Ob (w.setCell ⟨g, i, none⟩ (.int .i64 v)) base T q (s.setC i v) acc := by
  have hgo : (Value.slice s.cA s.cs.length s.cc).ownBlock = some g := by rw [hg]; rfl
  have hf : Fr (Mu q s) w (w.setCell ⟨g, i, none⟩ (.int .i64 v)) := (Fr.refl _ w).setCell (.inl (.inr (.inr ⟨_, hg, rfl⟩))) _
  have hk : ∀ k, k ≠ g → (w.setCell ⟨g, i, none⟩ (.int .i64 v)).heap[k]? = w.heap[k]? := fun k hk => Below.heap_setCell w ⟨g, i, none⟩ _ k hk
  have hl : (s.cs.set i v).length = s.cs.length := by simp
  refine ⟨?_, h.hq, h.nod.keepFrom fun k hk1 _ => hk k (h.rows_ne hk1 hgo), ?_, fun n hn => (h.l n hn).fr hf fun _ hm => .inl hm, h.nl, by show (s.cs.set i v).length ≤ 1000; rw [hl]; exact h.cl⟩
  · show _ = some (Obj.cells #[.slice s.nA s.ns.length s.nc, .slice s.cA (s.cs.set i v).length s.cc, .int .i64 s.gen, .int .i64 acc] T (0, 0))
    rw [hl]
    exact (hk q (Ne.symm (h.cel_ne h42 hgo))).trans h.blk
  · show (w.setCell _ _).ownsRow base 29 1 (.slice s.cA (s.cs.set i v).length s.cc) (s.cs.set i v).length (flatR (s.cs.set i v))
    rw [hl]
    refine ⟨by rw [flatR_length, hl]; omega, ?_⟩
    rcases h.cel.2 with ⟨hv, _⟩ | ⟨g', cap, cur, hv, hb, hg', h1, h2, h3, h4⟩
    · rw [hg] at hv; cases hv
    · rw [hg] at hv
      injection hv with e1 e2 e3
      injection e1 with e1
      injection e1 with e1 _
      subst e1
      refine .inr ⟨g, cap, cur.setIfInBounds i (.int .i64 v), by rw [hg, e3], hb, set_block (t := 29) hg' i _, h1, h2, by simpa using h3, ?_⟩
      rw [flatR_set, ← h4, Array.toList_setIfInBounds, List.take_set]
end

def accP (s : Sd) (c : Int) : Option Addr := if hasC s c then s.cA.map fun a => ⟨a.block, (c - 1).toNat, none⟩ else none
def AccPost (base q : Nat) (s : Sd) (acc c : Int) (w : World) (e : Ending) (w' : World) : Prop :=
  e = .returned (.pointer (accP s c)) ∧ Ob w' base 69 q s (acc + 1) ∧ Fr (fun k => k = q) w w'
theorem Ob.cel_at {w : World} {base : Nat} {T : TypeId} {q : Nat} {s : Sd} {acc : Int} (h : Ob w base T q s acc) (hp : 0 < s.cs.length) : ∃ g, s.cA = some ⟨g, 0, none⟩ := by
  obtain ⟨g, cap, hv, _⟩ := World.ownsRow.form h.cel hp
  injection hv with hv _ _
  exact ⟨g, hv⟩
/-! ### Load, CAS -/
def cellV (s : Sd) (c : Int) : Int := if hasC s c then (s.cs[(c - 1).toNat]?).getD 0 else 0
def LoadPost (base q : Nat) (s : Sd) (acc c : Int) (w : World) (e : Ending) (w' : World) : Prop :=
  e = .returned (.int .i64 (cellV s c)) ∧ Ob w' base 69 q s (acc + 1) ∧ Fr (fun k => k = q) w w'
theorem accP_some {s : Sd} {c : Int} {g : Nat} (hg : s.cA = some ⟨g, 0, none⟩) (hh : hasC s c = true) : ∃ k : Nat, ∃ v : Int, c = (k : Int) + 1 ∧ k < s.cs.length ∧ s.cs[k]? = some v ∧ accP s c = some ⟨g, k, none⟩ ∧ cellV s c = v := by
  have hc : 1 ≤ c ∧ c ≤ (s.cs.length : Int) := by simpa [hasC] using hh
  obtain ⟨k, rfl⟩ : ∃ k : Nat, c = (k : Int) + 1 := ⟨(c - 1).toNat, by omega⟩
  have hk : k < s.cs.length := by omega
  exact ⟨k, s.cs[k], rfl, hk, List.getElem?_eq_getElem hk, by simp [accP, hh, hg], by simp [cellV, hh, hk]⟩
theorem Ob.cell_ {w : World} {base : Nat} {T : TypeId} {q : Nat} {s : Sd} {acc : Int} (h : Ob w base T q s acc) {g k : Nat} {v : Int} (hg : s.cA = some ⟨g, 0, none⟩) (hv : s.cs[k]? = some v) : w.cell? ⟨g, k, none⟩ = some (.int .i64 v) ∧ w.frozen? ⟨g, k, none⟩ = false := by
  rcases h.cel.2 with ⟨hx, _⟩ | ⟨g', cap, cur, hx, _, hg', _, _, hcs, ht⟩
  · rw [hg] at hx; cases hx
  · rw [hg] at hx
    injection hx with e1 e2 e3
    injection e1 with e1
    injection e1 with e1 _
    subst e1
    refine ⟨?_, block_frozen hg' k⟩
    refine block_cell hg' ?_
    have := flatR_get hv
    rw [← ht, List.getElem?_take] at this
    split at this
    · simpa using this
    · cases this
def casB (s : Sd) (c old : Int) : Bool := hasC s c && (cellV s c == old)
def casS (s : Sd) (c old new : Int) : Sd := if casB s c old then s.setC (c - 1).toNat new else s
def CasPost (base q : Nat) (s : Sd) (acc c old new : Int) (w : World) (e : Ending) (w' : World) : Prop :=
  e = .returned (.bool (casB s c old)) ∧ Ob w' base 69 q (casS s c old new) (acc + 1) ∧ Fr (Mu q s) w w'
end Go.Proofs.Ytbknbjabkhhlfaa
