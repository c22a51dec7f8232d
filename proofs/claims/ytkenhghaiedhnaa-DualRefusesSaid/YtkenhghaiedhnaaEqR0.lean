/-
  The walks of Equal of the reference, the lists: nodes that differ first at one field, or at none.
-/
import Derived.Test.YtkenhghaiedhnaaWalksC
import Derived.BigGuard
set_option linter.unusedVariables false
set_option maxRecDepth 100000
namespace Go.Proofs.Ytkenhghaiedhnaa
open Go.Shelf Go.RowKit Go.Lib Go.Sort

theorem requalR_is {xs ys : List Int} (r : Bool) (hr : decide (xs = ys) = r) (A : Option Addr) (c : Nat) (B : Option Addr) (d : Nat) (b : Nat) (w : World) (h : RdR w b A xs) (g : RdR w b B ys) (hn : xs.length ≤ 1000000) (hm : ys.length ≤ 1000000) :
    Calls Try.prog 27 #[.slice A xs.length c, .slice B ys.length d] w fun e w' => e = .returned (.bool r) ∧ ∃ q, w' = w.drewN q := by
  subst hr
  exact requalR_any A c xs B d ys b w h g hn hm

theorem requalP_is {xs ys : List Pr} (r : Bool) (hr : decide (xs = ys) = r) (A : Option Addr) (c : Nat) (B : Option Addr) (d : Nat) (b : Nat) (w : World) (h : Rd w b A xs) (g : Rd w b B ys) (hn : xs.length ≤ 1000000) (hm : ys.length ≤ 1000000) :
    Calls Try.prog 46 #[.slice A xs.length c, .slice B ys.length d] w fun e w' => e = .returned (.bool r) ∧ ∃ q, w' = w.drewN q := by
  subst hr
  exact requalP_any A c xs B d ys b w h g hn hm

end Go.Proofs.Ytkenhghaiedhnaa
