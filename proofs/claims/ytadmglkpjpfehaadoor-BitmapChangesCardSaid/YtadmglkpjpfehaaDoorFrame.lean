/- What the rows' one listed variable gives the walks, a start that meets the condition, and the step from a walk to a row. -/
import Derived.Test.YtadmglkpjpfehaaDoorRows
import Derived.Test.YtadmglkpjpfehaaDoorMath4
import Derived.WalkKit
import Derived.ProofKit
import Derived.LaidMore
import Derived.LaidOnce
import Derived.OpenShut
import Derived.Below
import Derived.ChangeSame
namespace Go.Proofs.YtadmglkpjpfehaaDoor
open Go.ChangeShapes Go.WideShapes Go.ChangeAt Go.RowKit

theorem own : ownKnob Tryd.prog.godebug = none := by kernel_rfl
abbrev laidL : List (String × DataW Unit) := [("math/bits.deBruijn64tab", Rows.laid_math_bits_deBruijn64tab)]
theorem gTab : Tryd.prog.globalNamed "math/bits.deBruijn64tab" = some 0 := by kernel_rfl
theorem tTab : (Tryd.prog.globals[0]?).map (·.type) = some 38 := by kernel_rfl
theorem cTab : Tryd.prog.cellsOf 5 = 1 := by kernel_rfl
theorem datum : (Rows.laid_math_bits_deBruijn64tab : DataW Unit) = .agg (tabL.map fun (k : Nat) => .lit (.int .u8 (k : Int))) := by
  unfold Rows.laid_math_bits_deBruijn64tab tabL; rfl

/-- A world in which the listed places pass the test by bits meets the condition. -/
theorem laidMet_of_bits {P : Program} {w : World} {l : List (String × DataW Unit)} (fuel M : Nat)
    (h1 : (DataW.laidRun P w fuel (l.map (·.1))).map (·.1) = some l)
    (h2 : (DataW.laidRun P w fuel (l.map (·.1))).map (fun x => nodupBits M x.2 0) = some true)
    (h3 : (DataW.laidRun P w fuel (l.map (·.1))).map (fun x => laidRowsB P w x.2) = some true) : laidMet P l w := by
  obtain ⟨x, hx, e⟩ := Option.map_eq_some_iff.1 h1
  rw [hx] at h2 h3
  exact laidMet_of_run (ps := x.2) fuel (by rw [hx, ← e]) (decide_eq_true (nodupBits_sound (Option.some.inj h2)).1) (Option.some.inj h3)
/-- A start: the variable's cells as its initialiser lays them. -/
noncomputable def startW (os : Os) : World :=
  { World.holding Tryd.prog os ⟨#[], #[], []⟩ with heap := (World.holding Tryd.prog os ⟨#[], #[], []⟩).heap.modify 0 fun
      | .cells _ t frozen => .cells (tabL.map fun (k : Nat) => Value.int .u8 (k : Int)).toArray t frozen
      | o => o }
theorem start_met (os : Os) (args : Array Value) : laidMetH Tryd.prog laidL ((startW os).forCall (fun _ _ => 0) ⟨#[], args, []⟩).memory := by
  rw [MakeChecks.laidMetH_plain _ _ _ (by kernel_rfl)]
  exact laidMet_of_bits 8 65 (by kernel_rfl) (by kernel_rfl) (by kernel_rfl)

theorem take_one {cs : Array Value} {i : Nat} {v : Value} (h : (cs.toList.drop i).take 1 = [v]) : cs[i]? = some v := by
  rw [List.take_one, List.head?_drop, Array.getElem?_toList] at h
  cases hc : cs[i]? with
  | none => rw [hc] at h; cases h
  | some u => rw [hc] at h; cases h; rfl
theorem of_laid {W : World} (h : laidMetH Tryd.prog laidL W) : Tab W := by
  rw [MakeChecks.laidMetH_plain _ _ _ (by kernel_rfl)] at h
  obtain ⟨ps, ⟨g0, t0, cs0, f0, p0, q0, hg0, ht0, hv0, hd0, _⟩, _, _⟩ := h
  obtain rfl := Option.some.inj (gTab.symm.trans hg0)
  obtain rfl := Option.some.inj (tTab.symm.trans ht0)
  obtain ⟨xs, m1, rfl, hx1, hlen, hn3, hel⟩ := DataW.trod_array Tryd.underlying38 hd0
  rw [datum] at hx1
  simp only [Prod.mk.injEq, DataW.agg.injEq] at hx1
  intro t ht
  have hi := db_lt t
  have hel := hel (dbIx t) hi
  rw [cTab, Nat.mul_one] at hel
  have hx := congrArg (fun l => l[dbIx t]?) hx1.1
  simp only [List.getElem?_map, db_tab t ht, Option.map_some] at hx
  cases hy : xs[dbIx t]? with
  | none => rw [hy] at hx; cases hx
  | some y =>
    rw [hy] at hx hel
    simp only [Option.map_some, Option.some.injEq] at hx
    obtain ⟨k, e1, e2, _⟩ := DataW.trod_int Tryd.underlying5 hel
    rw [e2] at hx
    simp only [DataW.lit.injEq, Lit.int.injEq, true_and] at hx
    subst hx
    rw [World.var?_cell hg0 hv0]
    exact take_one e1

/-- The post of a row whose arguments meet no memory: what was there before the call is as it was. -/
theorem post_below {H : Type} {enc : TypeId × Value → H} {P : Program} {f : Func} {s : ChangeSpec} {apart fresh handsOn again : Bool} {W W' : World} {args : Array Value} {v : Value} {ds gs : List (DataW H)} {pa pv : List MemPlace}
    (hW : DataW.Whole enc P f.params.toList s.vars apart W args.toList ds gs [])
    (hres : ∀ (b : Nat) (sp : Nat → Bool) (hd : Bool), DataW.TrodAll enc P W' b sp hd f.resultTypes.toList (v.resultList f.resultTypes.size) (s.fn H (ds ++ gs)).results [])
    (hargs : ∀ sp : Nat → Bool, (∀ p ∈ ([] : List MemPlace), sp p.block = true) → DataW.TrodAll enc P W' 0 sp true f.params.toList args.toList (s.fn H (ds ++ gs)).args pa)
    (hvars : ∀ sp : Nat → Bool, (∀ p ∈ ([] : List MemPlace), sp p.block = true) → DataW.TrodVars enc P W' sp s.vars (s.fn H (ds ++ gs)).vars pv)
    (hps : [] = pa ++ pv) (hb : Below W.heap.size W W')
    (hok : ∀ (j : Nat) (t : TypeId) (r : Value), f.resultTypes[j]? = some t → (v.resultList f.resultTypes.size)[j]? = some r → Value.okWide P W' .any 0 t r) :
    s.post enc P f apart fresh handsOn again W args v W' := by
  obtain ⟨rfl, rfl⟩ := List.append_eq_nil_iff.1 hps.symm
  refine ⟨ds, gs, [], [], [], [], hW, hres _ _ _, hargs _ (by simp), hvars _ (by simp), World.keptBut_mono (fun p hp => ⟨hp, by cases hp⟩) (hb.frame (· ∈ [])), fun _ => ?_⟩
  exact ⟨hok, _, _, [], ⟨[], [], trodAll_append (hargs _ (by simp)) (hres _ _ _), hvars _ (by simp), rfl, (fun _ _ h => (by cases h)), fun _ => List.nodup_nil⟩, fun _ h _ => h⟩
end Go.Proofs.YtadmglkpjpfehaaDoor
