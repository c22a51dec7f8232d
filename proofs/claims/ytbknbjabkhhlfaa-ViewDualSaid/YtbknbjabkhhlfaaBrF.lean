/-
  Layer 6: what Inserted, Updated and Removed return; the three lists joined.
-/
import Derived.Test.YtbknbjabkhhlfaaBrE
import Derived.BigQuiet
set_option linter.unusedVariables false
set_option maxRecDepth 100000
namespace Go.Proofs.Ytbknbjabkhhlfaa
open Go.Shelf Go.RowKit Go.Lib Go.Sort
attribute [local go_sem ↓] exec_load28 exec_store44

noncomputable def insOk (n : Nd) (i r : Int) : Bool := isC n && (inr i && (!hasB n.bm i && decide (1 ≤ r)))
noncomputable def updOk (n : Nd) (i r : Int) : Bool := isC n && (hasB n.bm i && decide (1 ≤ r))
noncomputable def remOk (n : Nd) (i : Int) : Bool := isC n && hasB n.bm i
/-- A node as Go passes it. -/
structure GN (w : World) (n : Nd) : Prop where
  rd : NRd w w.heap.size n
  ba : n.bA = none → n.bc = 0
  pa : n.pA = none → n.pc = 0
  bc : n.bs.length ≤ n.bc
  pc : n.ps.length ≤ n.pc
theorem GN.up {w w' : World} {n : Nd} (h : GN w n) (hb : Below w.heap.size w w') : GN w' n := ⟨h.rd.up hb, h.ba, h.pa, h.bc, h.pc⟩
theorem gn_zero (w : World) : GN w Nd.zero := ⟨⟨RdR.nil, Rd.nil, u64_zero, Nat.zero_le _, Nat.zero_le _⟩, fun _ => rfl, fun _ => rfl, Nat.le_refl _, Nat.le_refl _⟩
theorem gn_C {w : World} {bm : Int} {A : Option Addr} {c : Nat} {L : List Int} (hb : U64 bm) (hR : RdR w w.heap.size A L) (hA : A = none → c = 0) (hc : L.length ≤ c) (hl : L.length ≤ 1000) : GN w (mkC bm A c L) :=
  ⟨⟨hR, Rd.nil, hb, hl, Nat.zero_le _⟩, hA, fun _ => rfl, hc, Nat.le_refl _⟩
/-- A node and whether there is one. -/
def CPost (ok : Bool) (bm : Int) (L : List Int) (w : World) (e : Ending) (w' : World) : Prop :=
  ∃ n : Nd, e = .returned (.tuple #[.agg n.cs, .bool ok]) ∧ (ok = false → n = Nd.zero) ∧ (ok = true → ∃ A c, n = mkC bm A c L) ∧ GN w' n ∧ (n.pA = none ∧ ∀ ad, n.bA = some ad → w.heap.size ≤ ad.block) ∧ Below w.heap.size w w'
theorem RdR.cut {w : World} {B : Nat} {A : Option Addr} {zs : List Int} (h : RdR w B A zs) {k : Nat} (hk : k ≤ zs.length) : RdR w B (A.map (·.add k)) (zs.drop k) := fun hn => by
  obtain ⟨ad, e, hb, hc⟩ := h (by simp at hn; omega)
  refine ⟨ad.add k, by rw [e]; rfl, by rw [block_add]; exact hb, fun j u hu => ?_⟩
  rw [add_add_]
  refine hc _ _ ?_
  rw [flatR, List.map_drop, List.getElem?_drop] at hu
  exact hu
/-- Three lists in a row, the second made just now. -/
theorem join3 (w1 X : World) (A1 A3 : Option Addr) (c1 c3 k1 k3 : Nat) (L1 L3 : List Int) (r : Int) (hg : Below w1.heap.size w1 X) (h1 : RdR w1 w1.heap.size A1 L1) (h3 : RdR w1 w1.heap.size A3 L3) (a1 : A1 = none → c1 = 0) (a3 : A3 = none → c3 = 0)
    (e1 : k1 = L1.length) (e3 : k3 = L3.length) (hn : L1.length + L3.length ≤ 1000) :
    Calls Try.prog 74 #[.slice (some ⟨(X.alloc (.cells #[.int .i64 r] 29)).heap.size, 0, none⟩) 3 3] ((X.alloc (.cells #[.int .i64 r] 29)).alloc (.cells #[.slice A1 k1 c1, .slice (some ⟨X.heap.size, 0, none⟩) 1 1, .slice A3 k3 c3] 32))
      (JoinPost (L1 ++ r :: L3) w1) := by
  subst e1 e3
  have e : catL [⟨A1, c1, L1⟩, ⟨some ⟨X.heap.size, 0, none⟩, 1, [r]⟩, ⟨A3, c3, L3⟩] = L1 ++ r :: L3 := by simp [catL]
  have hs := hg.size
  have := joined_any (X.alloc (.cells #[.int .i64 r] 29)).heap.size [⟨A1, c1, L1⟩, ⟨some ⟨X.heap.size, 0, none⟩, 1, [r]⟩, ⟨A3, c3, L3⟩] 3 ((X.alloc (.cells #[.int .i64 r] 29)).alloc (.cells #[.slice A1 L1.length c1, .slice (some ⟨X.heap.size, 0, none⟩) 1 1, .slice A3 L3.length c3] 32)) ?_ (by simp) rfl (by omega) (by rw [e]; simp; omega)
  · rw [e] at this
    exact this.mono fun e w' ⟨A, c, he, hr, ha, hc, hf, hb⟩ => ⟨A, c, he, hr, ha, hc, (fun ad e => Nat.le_trans (by simp; omega) (hf ad e)), ((hg.alloc hs _).alloc (by simp; omega) _).trans (hb.mono (by simp; omega))⟩
  · have hup : ∀ {A : Option Addr} {L : List Int}, RdR w1 w1.heap.size A L → RdR ((X.alloc (.cells #[.int .i64 r] 29)).alloc (.cells #[.slice A1 L1.length c1, .slice (some ⟨X.heap.size, 0, none⟩) 1 1, .slice A3 L3.length c3] 32)) ((X.alloc (.cells #[.int .i64 r] 29)).alloc (.cells #[.slice A1 L1.length c1, .slice (some ⟨X.heap.size, 0, none⟩) 1 1, .slice A3 L3.length c3] 32)).heap.size A L := fun h =>
      h.up ((hg.alloc hs _).alloc (by simp; omega) _)
    have hc := fun i => cell_of_row ((X.alloc (.cells #[.int .i64 r] 29)).alloc (.cells #[.slice A1 L1.length c1, .slice (some ⟨X.heap.size, 0, none⟩) 1 1, .slice A3 L3.length c3] 32)) (X.alloc (.cells #[.int .i64 r] 29)).heap.size i _ 32 (0, 0) (heap_alloc_new _ _)
    intro i s hs'
    rcases i with _ | _ | _ | i
    · simp at hs'; subst hs'
      exact ⟨(hc 0).trans rfl, hup h1, a1⟩
    · simp at hs'; subst hs'
      refine ⟨(hc 1).trans rfl, ?_, fun e => by cases e⟩
      exact (fun _ => ⟨_, rfl, by simp; omega, fun j u hj => by
        have q := cell_of_row (X.alloc (.cells #[.int .i64 r] 29)) X.heap.size j #[.int .i64 r] 29 (0, 0) (heap_alloc_new X _)
        rw [Addr.add_lit, Nat.zero_add]
        refine (World.cell?_alloc_lt _ _ ⟨X.heap.size, j, none⟩ (by simp)).trans (q.trans ?_)
        simpa [flatR] using hj⟩)
    · simp at hs'; subst hs'
      exact ⟨(hc 2).trans rfl, hup h3, a3⟩
    · simp at hs'
/-- Two lists in a row. -/
theorem join2 (w1 X : World) (A1 A3 : Option Addr) (c1 c3 k1 k3 : Nat) (L1 L3 : List Int) (hg : Below w1.heap.size w1 X) (h1 : RdR w1 w1.heap.size A1 L1) (h3 : RdR w1 w1.heap.size A3 L3) (a1 : A1 = none → c1 = 0) (a3 : A3 = none → c3 = 0)
    (e1 : k1 = L1.length) (e3 : k3 = L3.length) (hn : L1.length + L3.length ≤ 1000) :
    Calls Try.prog 74 #[.slice (some ⟨X.heap.size, 0, none⟩) 2 2] (X.alloc (.cells #[.slice A1 k1 c1, .slice A3 k3 c3] 32))
      (JoinPost (L1 ++ L3) w1) := by
  subst e1 e3
  have e : catL [⟨A1, c1, L1⟩, ⟨A3, c3, L3⟩] = L1 ++ L3 := by simp [catL]
  have hs := hg.size
  have := joined_any X.heap.size [⟨A1, c1, L1⟩, ⟨A3, c3, L3⟩] 2 (X.alloc (.cells #[.slice A1 L1.length c1, .slice A3 L3.length c3] 32)) ?_ (by simp) rfl (by omega) (by rw [e]; simp; omega)
  · rw [e] at this
    exact this.mono fun e w' ⟨A, c, he, hr, ha, hc, hf, hb⟩ => ⟨A, c, he, hr, ha, hc, (fun ad e => Nat.le_trans (by simp; omega) (hf ad e)), (hg.alloc hs _).trans (hb.mono (by simp; omega))⟩
  · have hup : ∀ {A : Option Addr} {L : List Int}, RdR w1 w1.heap.size A L → RdR (X.alloc (.cells #[.slice A1 L1.length c1, .slice A3 L3.length c3] 32)) (X.alloc (.cells #[.slice A1 L1.length c1, .slice A3 L3.length c3] 32)).heap.size A L := fun h =>
      h.up (hg.alloc hs _)
    have hc := fun i => cell_of_row (X.alloc (.cells #[.slice A1 L1.length c1, .slice A3 L3.length c3] 32)) X.heap.size i _ 32 (0, 0) (heap_alloc_new _ _)
    intro i s hs'
    rcases i with _ | _ | i
    · simp at hs'; subst hs'
      exact ⟨(hc 0).trans rfl, hup h1, a1⟩
    · simp at hs'; subst hs'
      exact ⟨(hc 1).trans rfl, hup h3, a3⟩
    · simp at hs'
def zV : Array Value := #[.int .i64 0, .int .i64 0, .int .i64 0, .int .u64 0, .slice none 0 0, .int .u64 0, .string ⟨#[]⟩, .int .u64 0, .slice none 0 0, .int .i64 0, .int .i64 0, .int .i64 0, .int .i64 0, .int .i64 0]
theorem join3d (w1 : World) (q : Nat) (A1 A3 : Option Addr) (c1 c3 k1 k3 : Nat) (L1 L3 : List Int) (r : Int) (h1 : RdR w1 w1.heap.size A1 L1) (h3 : RdR w1 w1.heap.size A3 L3) (a1 : A1 = none → c1 = 0) (a3 : A3 = none → c3 = 0)
    (e1 : k1 = L1.length) (e3 : k3 = L3.length) (hn : L1.length + L3.length ≤ 1000) :
    Calls Try.prog 74 #[.slice (some ⟨w1.heap.size + 1, 0, none⟩) 3 3] (((w1.drewN q).alloc (.cells #[.int .i64 r] 29)).alloc (.cells #[.slice A1 k1 c1, .slice (some ⟨w1.heap.size, 0, none⟩) 1 1, .slice A3 k3 c3] 32)) (JoinPost (L1 ++ r :: L3) w1) := by
  have h := join3 w1 (w1.drewN q) A1 A3 c1 c3 k1 k3 L1 L3 r ⟨rfl, rfl, rfl, Nat.le_refl _, fun _ _ => rfl⟩ h1 h3 a1 a3 e1 e3 hn
  rw [show ((w1.drewN q).alloc (.cells #[.int .i64 r] 29)).heap.size = w1.heap.size + 1 by simp] at h
  exact h
theorem join2d (w1 : World) (q : Nat) (A1 A3 : Option Addr) (c1 c3 k1 k3 : Nat) (L1 L3 : List Int) (h1 : RdR w1 w1.heap.size A1 L1) (h3 : RdR w1 w1.heap.size A3 L3) (a1 : A1 = none → c1 = 0) (a3 : A3 = none → c3 = 0)
    (e1 : k1 = L1.length) (e3 : k3 = L3.length) (hn : L1.length + L3.length ≤ 1000) :
    Calls Try.prog 74 #[.slice (some ⟨w1.heap.size, 0, none⟩) 2 2] ((w1.drewN q).alloc (.cells #[.slice A1 k1 c1, .slice A3 k3 c3] 32)) (JoinPost (L1 ++ L3) w1) :=
  join2 w1 (w1.drewN q) A1 A3 c1 c3 k1 k3 L1 L3 ⟨rfl, rfl, rfl, Nat.le_refl _, fun _ _ => rfl⟩ h1 h3 a1 a3 e1 e3 hn
/-- What is known once the list is joined and the node made. -/
theorem made_st (w1 w5 : World) (s : Nat) (bm : Int) (A : Option Addr) (c : Nat) (L : List Int) (hb : Below w1.heap.size w1 w5) (hz : w1.heap[s]? = some (.cells zV 35 (0, 0))) :
    Calls Try.prog 72 #[.int .u64 bm, .slice A L.length c] w5 fun e w' => e = .returned (.agg (mkC bm A c L).cs) ∧ Gr w5 w' ∧ Sem.run Try.prog (storeNode (.pointer (some ⟨s, 0, none⟩)) (.agg (mkC bm A c L).cs)) w' = .ok () (w'.setRow s (mkC bm A c L).cs) ∧ w'.heap[s]? = some (.cells zV 35 (0, 0)) :=
  (made_any bm A c L w5).mono fun e w' ⟨he, hg⟩ => by
    have hs := (Array.getElem?_eq_some_iff.1 hz).1
    have h5 : w5.heap[s]? = some (.cells zV 35 (0, 0)) := (hb.block s hs).trans hz
    have h6 : w'.heap[s]? = some (.cells zV 35 (0, 0)) := (hg.b.block s (Nat.lt_of_lt_of_le hs hb.size)).trans h5
    exact ⟨he, hg, run_storeNode _ h6 rfl, h6⟩
theorem rdR_setRow {V : World} {s : Nat} {A : Option Addr} {L : List Int} (h : RdR V V.heap.size A L) (hs : ∀ ad, A = some ad → ad.block ≠ s) (cs : Array Value) : RdR (V.setRow s cs) (V.setRow s cs).heap.size A L := fun hn => by
  obtain ⟨ad, e, hb, hc⟩ := h hn
  refine ⟨ad, e, by simpa using hb, fun j u hu => (World.cell?_of_block ?_).trans (hc j u hu)⟩
  exact setRow_other _ _ _ _ (by rw [block_add]; exact hs ad e)
theorem gn_made {w w' : World} {bm : Int} {A : Option Addr} {c : Nat} {L : List Int} {e : Ending} {ok : Bool} (hb : Below w.heap.size w w') (he : e = .returned (.tuple #[.agg (mkC bm A c L).cs, .bool true])) (hok : ok = true) (hG : GN w' (mkC bm A c L)) (hf : ∀ ad, A = some ad → w.heap.size ≤ ad.block) : CPost ok bm L w e w' :=
  ⟨_, by rw [he, hok], (fun h => by rw [hok] at h; cases h), fun _ => ⟨A, c, rfl⟩, hG, ⟨rfl, hf⟩, hb⟩
theorem gn_none {w w' : World} {bm : Int} {L : List Int} {e : Ending} {ok : Bool} (hb : Below w.heap.size w w') (he : e = .returned (.tuple #[.agg Nd.zero.cs, .bool false])) (hok : ok = false) : CPost ok bm L w e w' :=
  ⟨_, by rw [he, hok], fun _ => rfl, (fun h => by rw [hok] at h; cases h), gn_zero _, ⟨rfl, fun ad e => (by cases e)⟩, hb⟩
theorem run_storeZ {V : World} {b : Nat} (hg : V.heap[b]? = some (.cells zV 35 (0, 0))) :
    Sem.run Try.prog (storeNode (.pointer (some ⟨b, 0, none⟩)) (.agg #[.int .i64 0, .int .i64 0, .int .i64 0, .int .u64 0, .slice none 0 0, .int .u64 0, .string ⟨#[]⟩, .int .u64 0, .slice none 0 0, .int .i64 0, .int .i64 0, .int .i64 0, .int .i64 0, .int .i64 0])) V = .ok () (V.setRow b zV) := run_storeNode Nd.zero hg rfl
theorem below_setRow {w V : World} {b : Nat} (hb : Below w.heap.size w V) (h : w.heap.size ≤ b) (cs : Array Value) : Below w.heap.size w (V.setRow b cs) :=
  hb.trans ⟨rfl, rfl, rfl, by simp, fun k hk => setRow_other _ _ _ _ (by omega)⟩
end Go.Proofs.Ytbknbjabkhhlfaa
