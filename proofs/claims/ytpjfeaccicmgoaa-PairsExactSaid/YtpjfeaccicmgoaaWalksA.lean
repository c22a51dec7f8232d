/-
  The walks of the library's comparison and of the block exchange, over the program.
-/
import Derived.Test.YtpjfeaccicmgoaaMathA
import Derived.Test.YtpjfeaccicmgoaaChecked
import Derived.ProofKit
import Derived.Lib.Hide
import Derived.Lib.Bytealg
import Derived.Shelf.SlSortCmp.KitK
import Derived.Deep.LoopGhost
import Derived.BigRegion
set_option linter.unusedVariables false
namespace Go.Proofs.Ytpjfeaccicmgoaa
open Go.Shelf Go.RowKit Go.Lib Go.Sort

abbrev Pr := ByteArray × Int
/-- A pair's two cells. -/
def enc (x : Pr) : List Value := [.string x.1, .int .u64 x.2]
def cfK (x y : Pr) : Int := Lib.compareBytes x.1.data.toList y.1.data.toList

set_option maxHeartbeats 1000000 in
theorem cmpString (a b : ByteArray) (w : World) : Calls Try.prog 42 #[.string a, .string b] w fun e w' => e = .returned (.int .i64 (Lib.compareBytes a.data.toList b.data.toList)) ∧ w = w' := by
  go_enter Try.func42, Try.ntmps42
  go_wp2
  rw [run_callFunc_extern Try.func44 (by kernel_rfl) (by kernel_rfl) (by kernel_rfl) (e := Extern.BytealgCompare.compare) (by kernel_rfl), Lib.run_compareString]
  simp only [Result.andThen]
  rw [Oper.upon_value]
  go_wp2
  go_ret
  exact ⟨rfl, rfl⟩

theorem compare_any (a b : ByteArray) (w : World) : Calls Try.prog 38 #[.string a, .string b] w fun e w' => e = .returned (.int .i64 (Lib.compareBytes a.data.toList b.data.toList)) ∧ w = w' := by
  go_enter Try.func38, Try.ntmps38
  go_wp2_with (go_at_call 42; refine (cmpString _ _ _).mono ?_; rintro e w' ⟨rfl, rfl⟩)
  go_ret
  exact ⟨rfl, rfl⟩

set_option maxHeartbeats 1000000 in
theorem byKey_any (x y : Pr) (W : World) : Calls Try.prog 32 #[.agg #[.string x.1, .int .u64 x.2], .agg #[.string y.1, .int .u64 y.2]] W fun e w' => e = .returned (.int .i64 (cfK x y)) ∧ ∃ q os', w' = grow (W.drewN q) os' := by
  have hcon := fun W' => compare_any x.1 y.1 W'
  unfold cfK
  generalize Lib.compareBytes x.1.data.toList y.1.data.toList = r at hcon ⊢
  go_enter Try.func32, Try.ntmps32
  go_wp2_with (go_at_call 38; refine (hcon _).mono ?_; rintro e w' ⟨rfl, rfl⟩)
  go_ret
  exact ⟨rfl, 0, _, by rw [alloc_eq_grow, alloc_eq_grow, grow_grow]; rfl⟩

theorem cmpLays (blk off size : Nat) (w : World) : CmpLays Try.prog 32 #[] enc 2 cfK blk off size w :=
  fun _ _ _ _ x y => byKey_any x y _

theorem enters32 : ∀ args w, (callFunc 32 args).run Try.prog w = .ok (.enter 32 args) w := enters_of Try.func32 (by kernel_rfl) rfl

/-- The pairwise exchange of [a, a+n) and [b, b+n). -/
def SwpR (a b n : Nat) (d d' : Array Pr) : Prop :=
  ∀ t, d'[t]! = if a ≤ t ∧ t < a + n then d[t - a + b]! else if b ≤ t ∧ t < b + n then d[t - b + a]! else d[t]!

theorem swpR_zero (a b : Nat) (d : Array Pr) : SwpR a b 0 d d := fun t => by
  rw [if_neg (by omega), if_neg (by omega)]
theorem swpR_succ {a b n : Nat} {d d' : Array Pr} (h : SwpR a b n d d') (hs : d'.size = d.size) (hab : a + n < b) (hb : b + n < d.size) : SwpR a b (n + 1) d (swp d' (a + n) (b + n)) := fun t => by
  rw [swp_get d' (by omega) (by omega), h, h, h]
  rw [if_neg (show ¬(a ≤ a + n ∧ a + n < a + n) by omega), if_neg (show ¬ (b ≤ a + n ∧ a + n < b + n) by omega), if_neg (show ¬(a ≤ b + n ∧ b + n < a + n) by omega), if_neg (show ¬ (b ≤ b + n ∧ b + n < b + n) by omega)]
  by_cases c1 : t = b + n
  · subst c1
    rw [if_pos rfl, if_neg (by omega), if_pos (by omega), show b + n - b + a = a + n by omega]
  · rw [if_neg c1]
    by_cases c2 : t = a + n
    · subst c2
      rw [if_pos rfl, if_pos (by omega), show a + n - a + b = b + n by omega]
    · rw [if_neg c2]
      by_cases c3 : a ≤ t ∧ t < a + n
      · rw [if_pos c3, if_pos (by omega)]
      · rw [if_neg c3, if_neg (show ¬ (a ≤ t ∧ t < a + (n + 1)) by omega)]
        by_cases c4 : b ≤ t ∧ t < b + n
        · rw [if_pos c4, if_pos (by omega)]
        · rw [if_neg c4, if_neg (by omega)]

section
variable {w0 W : World} {blk off : Nat} {dk d0 : Array Pr}
/-- Element i's two cells, behind a draw. -/
theorem _root_.Go.Proofs.SWK.at2 (h : SWK enc 2 w0 blk off dk W) (R : RowK enc 2 w0 blk off d0) (hs : dk.size = d0.size) (i : Nat) (hi : i < dk.size) :
    (W.cell? ⟨blk, off + i * 2, none⟩ = some (.string dk[i]!.1) ∧ W.frozen? ⟨blk, off + i * 2, none⟩ = false) ∧ (W.cell? ⟨blk, off + i * 2 + 1, none⟩ = some (.int .u64 dk[i]!.2) ∧ W.frozen? ⟨blk, off + i * 2 + 1, none⟩ = false) :=
  ⟨(h.holds R.hblk R.hH hs).cell hi (show 0 < 2 by omega), (h.holds R.hblk R.hH hs).cell hi (show 1 < 2 by omega)⟩
end

theorem mixedOrders : Try.prog.follows .mixedOrders = true := by kernel_rfl

set_option maxHeartbeats 4000000 in
set_option maxRecDepth 100000 in
theorem swapRange_any (blk off cap a b n : Nat) (d0 d : Array Pr) (w0 w : World) (R : RowK enc 2 w0 blk off d0) (hs : d0.size = d.size) (S : SWK enc 2 w0 blk off d w)
    (hab : a + n ≤ b) (hb : b + n ≤ d.size) (hsz : d.size < 4611686018427387904) :
    Calls Try.prog 45 #[.slice (some ⟨blk, off, none⟩) d.size cap, .int .i64 a, .int .i64 b, .int .i64 n, .func (.func 32) #[] #[]] w fun e w' =>
      e = .returned (.tuple #[]) ∧ ∃ d', d'.size = d.size ∧ SwpR a b n d d' ∧ SWK enc 2 w0 blk off d' w' := by
  have S0 : Aside _ := S
  clear S
  have mixed := mixedOrders
  go_enter Try.func45, Try.ntmps45
  go_wp2
  go_loopg [10] n (fun kx s10 wr => ∃ (i : Nat) (dk : Array Pr), s10 = .int .i64 i ∧ i ≤ n ∧ n - i ≤ kx ∧ dk.size = d.size ∧ Aside (SWK enc 2 w0 blk off dk wr) ∧ Aside (SwpR a b i d dk))
  case atStart => exact ⟨0, d, rfl, Nat.zero_le _, Nat.le_refl _, rfl, S0, swpR_zero a b d⟩
  case round =>
    clear S0
    obtain ⟨i, dk, rfl, hin, hkx, hds, S1, I⟩ := hrel
    by_cases hlt : i < n
    · have hltz : (i : Int) < (n : Int) := by omega
      have ea : ((a : Int) + (i : Int)).toNat = a + i := by omega
      have pa : (0 : Int) ≤ (a : Int) + (i : Int) := by omega
      have ba : (a : Int) + (i : Int) < (d.size : Int) := by omega
      have ra : IntKind.i64.wrap ((a : Int) + (i : Int)) = (a : Int) + (i : Int) := by rw [IntKind.wrap_i64]; omega
      have eb : ((b : Int) + (i : Int)).toNat = b + i := by omega
      have pb : (0 : Int) ≤ (b : Int) + (i : Int) := by omega
      have bb : (b : Int) + (i : Int) < (d.size : Int) := by omega
      have rb : IntKind.i64.wrap ((b : Int) + (i : Int)) = (b : Int) + (i : Int) := by rw [IntKind.wrap_i64]; omega
      have S2 := S1.out.swapped R (a + i) (b + i) (by omega) (by omega)
      have I2 : Aside (SwpR a b (i + 1) d (swp dk (a + i) (b + i))) := swpR_succ I.out hds (by omega) (by omega)
      obtain ⟨⟨ca0, fa0⟩, ⟨ca1, fa1⟩⟩ := S1.out.at2 R (by omega) (a + i) (by omega)
      obtain ⟨⟨cb0, fb0⟩, ⟨cb1, fb1⟩⟩ := S1.out.at2 R (by omega) (b + i) (by omega)
      generalize dk[a + i]! = xa at S2 ca0 ca1
      generalize dk[b + i]! = xb at S2 cb0 cb1
      obtain ⟨ka, va⟩ := xa
      obtain ⟨kb, vb⟩ := xb
      have S2 : Aside _ := S2
      clear S1 I
      go_wp2_with fail
      go_big_region
      clear ca0 ca1 cb0 cb1 fa0 fa1 fb0 fb1
      go_wp2
      go_roundg (n - (i + 1))
      case measure => omega
      case rel => exact ⟨i + 1, swp dk (a + i) (b + i), by go_num, by omega, Nat.le_refl _, by rw [size_swp]; exact hds, S2, I2⟩
    · go_wp2
      go_end0
      obtain rfl : i = n := by omega
      exact ⟨rfl, dk, hds, I.out, S1.out⟩

end Go.Proofs.Ytpjfeaccicmgoaa
