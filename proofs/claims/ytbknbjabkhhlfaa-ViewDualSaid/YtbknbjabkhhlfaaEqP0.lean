/-
  The walks of Equal of the program, the lists: nodes that differ first at one field, or at none.
-/
import Derived.Test.YtbknbjabkhhlfaaWalksC
import Derived.BigGuard
set_option linter.unusedVariables false
set_option maxRecDepth 100000
namespace Go.Proofs.Ytbknbjabkhhlfaa
open Go.Shelf Go.RowKit Go.Lib Go.Sort

theorem sequalR_is {xs ys : List Int} (r : Bool) (hr : decide (xs = ys) = r) (A : Option Addr) (c : Nat) (B : Option Addr) (d : Nat) (b : Nat) (w : World) (h : RdR w b A xs) (g : RdR w b B ys) (hn : xs.length ≤ 1000000) (hm : ys.length ≤ 1000000) :
    Calls Try.prog 76 #[.slice A xs.length c, .slice B ys.length d] w fun e w' => e = .returned (.bool r) ∧ ∃ q, w' = w.drewN q := by
  subst hr
  exact sequalR_any A c xs B d ys b w h g hn hm

theorem sequalP_is {xs ys : List Pr} (r : Bool) (hr : decide (xs = ys) = r) (A : Option Addr) (c : Nat) (B : Option Addr) (d : Nat) (b : Nat) (w : World) (h : Rd w b A xs) (g : Rd w b B ys) (hn : xs.length ≤ 1000000) (hm : ys.length ≤ 1000000) :
    Calls Try.prog 77 #[.slice A xs.length c, .slice B ys.length d] w fun e w' => e = .returned (.bool r) ∧ ∃ q, w' = w.drewN q := by
  subst hr
  exact sequalP_any A c xs B d ys b w h g hn hm

end Go.Proofs.Ytbknbjabkhhlfaa
