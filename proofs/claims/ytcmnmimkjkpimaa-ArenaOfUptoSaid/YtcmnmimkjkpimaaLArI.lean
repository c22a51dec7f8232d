/-
  The walks of access, Load, CAS, Node, State.
-/
import Derived.Test.YtcmnmimkjkpimaaLArH
set_option linter.unusedVariables false
set_option maxRecDepth 100000
namespace Go.Proofs.Ytcmnmimkjkpimaa
open Go.Shelf Go.RowKit Go.Lib Go.Sort
attribute [local go_sem ↓] exec_load28 exec_store44
attribute [local go_sem] run_storeNode_new

section
variable {w w' : World} {base : Nat} {T : TypeId} {q : Nat} {s : Sd} {acc : Int}
/-- What leaves the object's own blocks, and those of its lists, as they were, leaves the object. -/
theorem Ob.fr (h : Ob w base T q s acc) {M : Nat → Prop} (hf : Fr M w w') (h1 : ∀ k, Mu q s k → ¬ M k) (h2 : ∀ n ∈ s.ns, Av M n.bA ∧ Av M n.pA) : Ob w' base T q s acc := by
  have hb : ∀ k, Mu q s k → w'.heap[k]? = w.heap[k]? := fun k hk => hf.block k (h.mu_lt hk).2 (h1 k hk)
  refine ⟨(hb q (.inl rfl)).trans h.blk, h.hq, h.nod.keepFrom fun k hk _ => hb k (.inr (.inl (own_some hk))), h.cel.keepAt fun k hk _ => hb k (.inr (.inr (own_some hk))), fun n hn => ?_, h.nl, h.cl⟩
  have hn' := h.l n hn
  exact ⟨⟨hn'.rd.r.fr hf (h2 n hn).1, hn'.rd.p.fr hf (h2 n hn).2, hn'.rd.bm, hn'.rd.bl, hn'.rd.pl⟩, hn'.ba, hn'.pa, hn'.ab, hn'.ap, fun ad e => Nat.lt_of_lt_of_le (hn'.lb ad e) hf.size, fun ad e => Nat.lt_of_lt_of_le (hn'.lp ad e) hf.size⟩
theorem Ob.up (h : Ob w base T q s acc) (hb : Below w.heap.size w w') : Ob w' base T q s acc :=
  h.fr (M := fun _ => False) (Fr.of_below hb) (fun _ _ hf => hf) fun n _ => ⟨fun _ _ hf => hf, fun _ _ hf => hf⟩
theorem Ob.setAcc (h : Ob w base T q s acc) (h42 : T ≠ 42) (h44 : T ≠ 44) (a' : Int) : Ob (w.setCell ⟨q, 3, none⟩ (.int .i64 a')) base T q s a' := by
  have hf : Fr (Mu q s) w (w.setCell ⟨q, 3, none⟩ (.int .i64 a')) := (Fr.refl _ w).setCell (.inl (.inl rfl)) _
  have hk : ∀ k, k ≠ q → (w.setCell ⟨q, 3, none⟩ (.int .i64 a')).heap[k]? = w.heap[k]? := fun k hk => Below.heap_setCell w ⟨q, 3, none⟩ _ k hk
  exact ⟨set_block (t := T) h.blk 3 _, h.hq, h.nod.keepFrom fun k hk1 _ => hk k (h.nod_ne h44 hk1), h.cel.keepAt fun k hk1 _ => hk k (h.cel_ne h42 hk1), fun n hn => (h.l n hn).fr hf fun _ hm => .inl hm, h.nl, h.cl⟩
def Sd.setC (s : Sd) (i : Nat) (v : Int) : Sd := { s with cs := s.cs.set i v }
theorem flatR_set (xs : List Int) (i : Nat) (v : Int) : flatR (xs.set i v) = (flatR xs).set i (.int .i64 v) := by simp [flatR, List.map_set]
theorem Ob.setC (h : Ob w base T q s acc) (h42 : T ≠ 42) {g : Nat} (hg : s.cA = some ⟨g, 0, none⟩) {i : Nat} (hi : i < s.cs.length) (v : Int) : Ob (w.setCell ⟨g, i, none⟩ (.int .i64 v)) base T q (s.setC i v) acc := by
  have hgo : (Value.slice s.cA s.cs.length s.cc).ownBlock = some g := by rw [hg]; rfl
  have hf : Fr (Mu q s) w (w.setCell ⟨g, i, none⟩ (.int .i64 v)) := (Fr.refl _ w).setCell (.inl (.inr (.inr ⟨_, hg, rfl⟩))) _
  have hk : ∀ k, k ≠ g → (w.setCell ⟨g, i, none⟩ (.int .i64 v)).heap[k]? = w.heap[k]? := fun k hk => Below.heap_setCell w ⟨g, i, none⟩ _ k hk
  have hl : (s.cs.set i v).length = s.cs.length := by simp
  refine ⟨?_, h.hq, h.nod.keepFrom fun k hk1 _ => hk k (h.rows_ne hk1 hgo), ?_, fun n hn => (h.l n hn).fr hf fun _ hm => .inl hm, h.nl, by show (s.cs.set i v).length ≤ 1100000; rw [hl]; exact h.cl⟩
  · show _ = some (Obj.cells #[.slice s.nA s.ns.length s.nc, .slice s.cA (s.cs.set i v).length s.cc, .int .i64 s.gen, .int .i64 acc] T (0, 0))
    rw [hl]
    exact (hk q (Ne.symm (h.cel_ne h42 hgo))).trans h.blk
  · show (w.setCell _ _).ownsRow base 42 1 (.slice s.cA (s.cs.set i v).length s.cc) (s.cs.set i v).length (flatR (s.cs.set i v))
    rw [hl]
    refine ⟨by rw [flatR_length, hl]; omega, ?_⟩
    rcases h.cel.2 with ⟨hv, _⟩ | ⟨g', cap, cur, hv, hb, hg', h1, h2, h3, h4⟩
    · rw [hg] at hv; cases hv
    · rw [hg] at hv
      injection hv with e1 e2 e3
      injection e1 with e1
      injection e1 with e1 _
      subst e1
      refine .inr ⟨g, cap, cur.setIfInBounds i (.int .i64 v), by rw [hg, e3], hb, set_block (t := 42) hg' i _, h1, h2, by simpa using h3, ?_⟩
      rw [flatR_set, ← h4, Array.toList_setIfInBounds, List.take_set]
end

def accP (s : Sd) (c : Int) : Option Addr := if hasC s c then s.cA.map fun a => ⟨a.block, (c - 1).toNat, none⟩ else none
def AccPost (base q : Nat) (s : Sd) (acc c : Int) (w : World) (e : Ending) (w' : World) : Prop :=
  e = .returned (.pointer (accP s c)) ∧ Ob w' base 77 q s (acc + 1) ∧ Fr (fun k => k = q) w w'
theorem Ob.cel_at {w : World} {base : Nat} {T : TypeId} {q : Nat} {s : Sd} {acc : Int} (h : Ob w base T q s acc) (hp : 0 < s.cs.length) : ∃ g, s.cA = some ⟨g, 0, none⟩ := by
  obtain ⟨g, cap, hv, _⟩ := World.ownsRow.form h.cel hp
  injection hv with hv _ _
  exact ⟨g, hv⟩
set_option maxHeartbeats 4000000 in
theorem access_any (base q : Nat) (s : Sd) (acc c : Int) (w : World) (h : Ob w base 77 q s acc) (ha : 0 ≤ acc ∧ acc ≤ 2000000) :
    Calls Try.prog 35 #[.pointer (some ⟨q, 0, none⟩), .int .i64 c] w (AccPost base q s acc c w) := by
  have H := Lib.hid h
  have wr : IntKind.i64.wrap (acc + 1) = acc + 1 := by rw [IntKind.wrap_i64]; omega
  have c3 := block_cell h.blk (i := 3) (v := .int .i64 acc) rfl
  have f3 := block_frozen h.blk 3
  obtain ⟨W, hW⟩ : ∃ W, W = w.setCell ⟨q, 3, none⟩ (.int .i64 (acc + 1)) := ⟨_, rfl⟩
  have H1 := Lib.hid (show Ob W base 77 q s (acc + 1) by rw [hW]; exact h.setAcc (by decide) (by decide) _)
  have FW := Lib.hid (show Fr (fun k => k = q) w W by rw [hW]; exact (Fr.refl (fun k => k = q) w).setCell (p := ⟨q, 3, none⟩) (.inl rfl) _)
  have HW := Lib.hid hW.symm
  have hx := Lib.hid (hasCell_any s c W)
  unfold Sd.vals at hx
  clear h hW
  go_enter Try.func35, Try.ntmps35
  go_upto_region 2 with (fail)
  rw [HW.out]
  clear c3 f3 wr
  have d0 := block_cell H1.out.blk (i := 0) (v := .slice s.nA s.ns.length s.nc) rfl
  have d1 := block_cell H1.out.blk (i := 1) (v := .slice s.cA s.cs.length s.cc) rfl
  have d2 := block_cell H1.out.blk (i := 2) (v := .int .i64 s.gen) rfl
  cases hh : hasC s c with
  | false =>
    have E := Lib.hid (show accP s c = none by simp [accP, hh])
    rw [hh] at hx
    clear hh
    go_wp2_with (go_at_call 57; refine hx.out.mono ?_; rintro e w' ⟨rfl, hg⟩; have HG := Lib.hid hg; clear hg)
    go_ret
    exact ⟨by rw [E.out]; rfl, H1.out.up HG.out.b, FW.out.then_ (Fr.of_below HG.out.b)⟩
  | true =>
    have hc : 1 ≤ c ∧ c ≤ (s.cs.length : Int) := by simpa [hasC] using hh
    obtain ⟨g, hg⟩ := H.out.cel_at (by omega)
    obtain ⟨k, rfl⟩ : ∃ k : Nat, c = (k : Int) + 1 := ⟨(c - 1).toNat, by omega⟩
    have E := Lib.hid (show accP s ((k : Int) + 1) = some ⟨g, k, none⟩ by simp [accP, hh, hg])
    have hk : (k : Int) < (s.cs.length : Int) := by omega
    have hk0 : (0 : Int) ≤ (k : Int) := by omega
    have hcl := H.out.cl
    have j3 : IntKind.i64.wrap (k : Int) = (k : Int) := by rw [IntKind.wrap_i64]; omega
    rw [hh] at hx
    have HGA := Lib.hid hg
    clear hh hc
    rw [HGA.out] at d1 hx
    go_wp2_with (go_at_call 57; refine hx.out.mono ?_; rintro e w' ⟨rfl, hg⟩; have HG := Lib.hid hg; have e1 := (hg.b.cell (p := ⟨q, 1, none⟩) H1.out.lt).trans d1; clear hg)
    go_ret
    exact ⟨by rw [E.out]; rfl, H1.out.up HG.out.b, FW.out.then_ (Fr.of_below HG.out.b)⟩


/-! ### Load, CAS -/
def cellV (s : Sd) (c : Int) : Int := if hasC s c then (s.cs[(c - 1).toNat]?).getD 0 else 0
def LoadPost (base q : Nat) (s : Sd) (acc c : Int) (w : World) (e : Ending) (w' : World) : Prop :=
  e = .returned (.int .i64 (cellV s c)) ∧ Ob w' base 77 q s (acc + 1) ∧ Fr (fun k => k = q) w w'
theorem accP_some {s : Sd} {c : Int} {g : Nat} (hg : s.cA = some ⟨g, 0, none⟩) (hh : hasC s c = true) : ∃ k : Nat, ∃ v : Int, c = (k : Int) + 1 ∧ k < s.cs.length ∧ s.cs[k]? = some v ∧ accP s c = some ⟨g, k, none⟩ ∧ cellV s c = v := by
  have hc : 1 ≤ c ∧ c ≤ (s.cs.length : Int) := by simpa [hasC] using hh
  obtain ⟨k, rfl⟩ : ∃ k : Nat, c = (k : Int) + 1 := ⟨(c - 1).toNat, by omega⟩
  have hk : k < s.cs.length := by omega
  exact ⟨k, s.cs[k], rfl, hk, List.getElem?_eq_getElem hk, by simp [accP, hh, hg], by simp [cellV, hh, hk]⟩
theorem Ob.cell_ {w : World} {base : Nat} {T : TypeId} {q : Nat} {s : Sd} {acc : Int} (h : Ob w base T q s acc) {g k : Nat} {v : Int} (hg : s.cA = some ⟨g, 0, none⟩) (hv : s.cs[k]? = some v) : w.cell? ⟨g, k, none⟩ = some (.int .i64 v) ∧ w.frozen? ⟨g, k, none⟩ = false := by
  rcases h.cel.2 with ⟨hx, _⟩ | ⟨g', cap, cur, hx, _, hg', _, _, hcs, ht⟩
  · rw [hg] at hx; cases hx
  · rw [hg] at hx
    injection hx with e1 e2 e3
    injection e1 with e1
    injection e1 with e1 _
    subst e1
    refine ⟨?_, block_frozen hg' k⟩
    refine block_cell hg' ?_
    have := flatR_get hv
    rw [← ht, List.getElem?_take] at this
    split at this
    · simpa using this
    · cases this
set_option maxHeartbeats 4000000 in
theorem load_any (base q : Nat) (s : Sd) (acc c : Int) (w : World) (h : Ob w base 77 q s acc) (ha : 0 ≤ acc ∧ acc ≤ 2000000) :
    Calls Try.prog 15 #[.pointer (some ⟨q, 0, none⟩), .int .i64 c] w (LoadPost base q s acc c w) := by
  have A := Lib.hid (access_any base q s acc c w h ha)
  have H := Lib.hid h
  clear h
  cases hh : hasC s c with
  | false =>
    have E := Lib.hid (show accP s c = none by simp [accP, hh])
    have EV := Lib.hid (show cellV s c = 0 by simp [cellV, hh])
    unfold AccPost at A
    rw [E.out] at A
    clear hh
    go_enter Try.func15, Try.ntmps15
    go_wp2_with (go_at_call 35; refine A.out.mono ?_; rintro e w' ⟨rfl, hob, hf⟩; have HO := Lib.hid hob; have HF := Lib.hid hf; clear hob hf)
    go_ret
    exact ⟨by rw [EV.out]; rfl, HO.out, HF.out⟩
  | true =>
    have hc : 1 ≤ c ∧ c ≤ (s.cs.length : Int) := by simpa [hasC] using hh
    obtain ⟨g, hg⟩ := H.out.cel_at (by omega)
    obtain ⟨k, v, rfl, hk, hv, hE, hEV⟩ := accP_some hg hh
    have EV := Lib.hid hEV
    have X := Lib.hid (⟨hg, hv⟩ : _ ∧ _)
    unfold AccPost at A
    rw [hE] at A
    clear hh hc hg hk hv hE hEV
    go_enter Try.func15, Try.ntmps15
    go_wp2_with (go_at_call 35; refine A.out.mono ?_; rintro e w' ⟨rfl, hob, hf⟩; have HO := Lib.hid hob; have HF := Lib.hid hf; have e1 := (hob.cell_ X.out.1 X.out.2).1; clear hob hf)
    go_ret
    exact ⟨by rw [EV.out]; rfl, HO.out, HF.out⟩
def casB (s : Sd) (c old : Int) : Bool := hasC s c && (cellV s c == old)
def casS (s : Sd) (c old new : Int) : Sd := if casB s c old then s.setC (c - 1).toNat new else s
def CasPost (base q : Nat) (s : Sd) (acc c old new : Int) (w : World) (e : Ending) (w' : World) : Prop :=
  e = .returned (.bool (casB s c old)) ∧ Ob w' base 77 q (casS s c old new) (acc + 1) ∧ Fr (Mu q s) w w'
set_option maxHeartbeats 4000000 in
theorem cas_any (base q : Nat) (s : Sd) (acc c old new : Int) (w : World) (h : Ob w base 77 q s acc) (ha : 0 ≤ acc ∧ acc ≤ 2000000) :
    Calls Try.prog 14 #[.pointer (some ⟨q, 0, none⟩), .int .i64 c, .int .i64 old, .int .i64 new] w (CasPost base q s acc c old new w) := by
  have A := Lib.hid (access_any base q s acc c w h ha)
  have H := Lib.hid h
  clear h
  cases hh : hasC s c with
  | false =>
    have E := Lib.hid (show accP s c = none by simp [accP, hh])
    have EV := Lib.hid (show casB s c old = false by simp [casB, hh])
    unfold AccPost at A
    rw [E.out] at A
    clear hh
    go_enter Try.func14, Try.ntmps14
    go_wp2_with (go_at_call 35; refine A.out.mono ?_; rintro e w' ⟨rfl, hob, hf⟩; have HO := Lib.hid hob; have HF := Lib.hid hf; clear hob hf)
    go_ret
    exact ⟨by rw [EV.out]; rfl, by rw [casS, EV.out]; exact HO.out, HF.out.mono fun k _ e => .inl e⟩
  | true =>
    have hc : 1 ≤ c ∧ c ≤ (s.cs.length : Int) := by simpa [hasC] using hh
    obtain ⟨g, hg⟩ := H.out.cel_at (by omega)
    obtain ⟨k, v, rfl, hk, hv, hE, hEV⟩ := accP_some hg hh
    have X := Lib.hid (⟨hg, hv, hk⟩ : _ ∧ _ ∧ _)
    unfold AccPost at A
    rw [hE] at A
    cases ho : (v == old) with
    | false =>
      have EV := Lib.hid (show casB s ((k : Int) + 1) old = false by simp only [casB, hEV, ho, Bool.and_false])
      clear hh hc hg hk hv hE hEV
      go_enter Try.func14, Try.ntmps14
      go_wp2_with (go_at_call 35; refine A.out.mono ?_; rintro e w' ⟨rfl, hob, hf⟩; have HO := Lib.hid hob; have HF := Lib.hid hf; have e1 := (hob.cell_ X.out.1 X.out.2.1).1; clear hob hf)
      go_ret
      exact ⟨by rw [EV.out]; rfl, by rw [casS, EV.out]; exact HO.out, HF.out.mono fun k _ e => .inl e⟩
    | true =>
      have EV := Lib.hid (show casB s ((k : Int) + 1) old = true by simp only [casB, hEV, ho, hh, Bool.and_true])
      clear hh hc hg hk hv hE hEV
      go_enter Try.func14, Try.ntmps14
      go_wp2_with (go_at_call 35; refine A.out.mono ?_; rintro e w' ⟨rfl, hob, hf⟩; have HO := Lib.hid hob; have HF := Lib.hid hf; have e1 := (hob.cell_ X.out.1 X.out.2.1).1; have f1 := (hob.cell_ X.out.1 X.out.2.1).2; clear hob hf)
      go_ret
      refine ⟨by rw [EV.out]; rfl, ?_, (HF.out.mono fun k _ e => .inl e).setCell (.inl (.inr (.inr ⟨_, X.out.1, rfl⟩))) _⟩
      rw [casS, EV.out, show ((k : Int) + 1 - 1).toNat = k by omega]
      exact HO.out.setC (by decide) X.out.1 X.out.2.2 new

end Go.Proofs.Ytcmnmimkjkpimaa
