/-
  The walk of the statement's helper agrees.
-/
import Derived.Test.YtpjfeaccicmgoaaWalksM
set_option linter.unusedVariables false
namespace Go.Proofs.Ytpjfeaccicmgoaa
open Go.Shelf Go.RowKit Go.Lib Go.Sort

theorem OwnPost.upPost' {ys : List Pr} {w : World} {e : Ending} {w' : World} (h : OwnPost ys w e w') : UpPost (fun zs => zs = ys) w e w' := h.upPost rfl
theorem refPut_up (A : Option Addr) (c : Nat) (xs : List Pr) (k : ByteArray) (v : Int) (w : World) (h : Rd w w.heap.size A xs) (ha : Asc xs) (hn : xs.length ≤ 50000) :
    Calls Try.prog 29 #[.slice A xs.length c, .string k, .int .u64 v] w (UpPost (PutOf (wo xs k) k v) w) :=
  (refPut_any A c xs k v w h ha hn).mono fun _ _ ⟨_, hP, ho⟩ => ho.upPost hP
theorem refDrop_up (A : Option Addr) (c : Nat) (xs : List Pr) (k : ByteArray) (w : World) (h : Rd w w.heap.size A xs) (ha : Asc xs) (hn : xs.length ≤ 50000) :
    Calls Try.prog 30 #[.slice A xs.length c, .string k] w (UpPost (fun zs => zs = wo xs k) w) :=
  (refDrop_any A c xs k w h ha hn).mono fun _ _ h => h.upPost'
theorem refValid_up (A : Option Addr) (c : Nat) (xs : List Pr) (w : World) (h : Rd w w.heap.size A xs) (hn : xs.length ≤ 1000000) (ha : Asc xs) :
    Calls Try.prog 28 #[.slice A xs.length c] w fun e w' => e = .returned (.bool true) ∧ Below w.heap.size w w' :=
  (refValid_true A c xs _ w h hn ha).mono fun _ _ ⟨he, q, hq⟩ => ⟨he, by rw [hq]; exact below_drew (Below.refl _ _) q⟩
theorem refValid_upF (A : Option Addr) (c : Nat) (xs : List Pr) (w : World) (h : Rd w w.heap.size A xs) (hn : xs.length ≤ 1000000) (ha : ¬ Asc xs) :
    Calls Try.prog 28 #[.slice A xs.length c] w fun e w' => e = .returned (.bool false) ∧ Below w.heap.size w w' :=
  (refValid_false A c xs _ w h hn ha).mono fun _ _ ⟨he, q, hq⟩ => ⟨he, by rw [hq]; exact below_drew (Below.refl _ _) q⟩
theorem valid_upF (A : Option Addr) (c : Nat) (xs : List Pr) (w : World) (h : Rd w w.heap.size A xs) (hn : xs.length ≤ 1000000) (ha : ¬ Asc xs) :
    Calls Try.prog 19 #[.slice A xs.length c] w fun e w' => e = .returned (.bool false) ∧ Below w.heap.size w w' :=
  (valid_false A c xs _ w h (by omega) ha).mono fun _ _ ⟨he, q, hq⟩ => ⟨he, by rw [hq]; exact below_drew (Below.refl _ _) q⟩

set_option maxHeartbeats 2000000 in
theorem agrees_yes (A : Option Addr) (c : Nat) (xs : List Pr) (k : ByteArray) (v : Int) (w : World) (h : Rd w w.heap.size A xs) (hc : xs.length ≤ c) (ha : Asc xs) (hn : xs.length ≤ 30) :
    Calls Try.prog 13 #[.slice A xs.length c, .string k, .int .u64 v] w fun e w' => e = .returned (.bool true) ∧ Below w.heap.size w w' := by
  have R0 := Lib.hid h
  have HA := Lib.hid ha
  clear h ha
  have HB := Lib.hid (Below.refl w.heap.size w)
  obtain ⟨g, hg⟩ : ∃ g, (lk xs k).getD 0 = g := ⟨_, rfl⟩
  obtain ⟨s, hs⟩ : ∃ s, (lk xs k).isSome = s := ⟨_, rfl⟩
  have HG := Lib.hid hg
  have HS := Lib.hid hs
  clear hg hs
  have tg : (g == g) = true := beq_self_eq_true g
  have ts : (s == s) = true := beq_self_eq_true s
  go_enter Try.func13, Try.ntmps13
  go_wp2_with fail
  refine (find_at A c xs k _ R0.out HA.out (by omega) g s HG.out HS.out).mono ?_
  rintro e v1 ⟨rfl, hb⟩
  have R0 := Lib.hid (R0.out.up hb)
  have HB := Lib.hid (HB.out.trans (hb.mono HB.out.size))
  clear hb
  go_wp2_with fail
  refine (refFind_any A c xs k _ R0.out HA.out (by omega) g s HG.out HS.out).mono ?_
  rintro e v2 ⟨rfl, hb⟩
  have R0 := Lib.hid (R0.out.up hb)
  have HB := Lib.hid (HB.out.trans (hb.mono HB.out.size))
  clear hb
  go_wp2_with fail
  refine (valid_up A c xs _ R0.out (by omega) HA.out).mono ?_
  rintro e v3 ⟨rfl, hb⟩
  have R0 := Lib.hid (R0.out.up hb)
  have HB := Lib.hid (HB.out.trans (hb.mono HB.out.size))
  clear hb
  go_wp2_with fail
  refine (refValid_up A c xs _ R0.out (by omega) HA.out).mono ?_
  rintro e v4 ⟨rfl, hb⟩
  have R0 := Lib.hid (R0.out.up hb)
  have HB := Lib.hid (HB.out.trans (hb.mono HB.out.size))
  clear hb
  go_wp2_with fail
  refine (put_up A c xs k v _ R0.out HA.out hc (by omega)).mono ?_
  rintro e v5 ⟨A1, c1, p1, rfl, hP, hR, hc1, hb⟩
  have R0 := Lib.hid (R0.out.up hb)
  have HB := Lib.hid (HB.out.trans (hb.mono HB.out.size))
  have P1 := Lib.hid hP
  have R1 := Lib.hid hR
  have l1 : p1.length ≤ 32 := by have := hP.le; omega
  clear hP hR
  clear hb
  go_wp2_with fail
  refine (refPut_up A c xs k v _ R0.out HA.out (by omega)).mono ?_
  rintro e v6 ⟨A2, c2, p2, rfl, hP, hR, hc2, hb⟩
  have R0 := Lib.hid (R0.out.up hb)
  have R1 := Lib.hid (R1.out.up hb)
  have HB := Lib.hid (HB.out.trans (hb.mono HB.out.size))
  have P2 := Lib.hid hP
  have R2 := Lib.hid hR
  clear hP hR
  clear hb
  go_wp2_with fail
  refine (equal_up A1 c1 A2 c2 p1 p2 _ R1.out R2.out (by omega) (put_ref P1.out P2.out)).mono ?_
  rintro e v7 ⟨rfl, hb⟩
  have R0 := Lib.hid (R0.out.up hb)
  have R1 := Lib.hid (R1.out.up hb)
  have R2 := Lib.hid (R2.out.up hb)
  have HB := Lib.hid (HB.out.trans (hb.mono HB.out.size))
  clear hb
  go_wp2_with fail
  refine (drop_up A c xs k _ R0.out HA.out hc (by omega)).mono ?_
  rintro e v8 ⟨A3, c3, p3, rfl, hP, hR, hc3, hb⟩
  have R0 := Lib.hid (R0.out.up hb)
  have HB := Lib.hid (HB.out.trans (hb.mono HB.out.size))
  have P3 := Lib.hid hP
  have R3 := Lib.hid hR
  have l3 : p3.length ≤ 32 := by have := hP.le; omega
  clear hP hR
  clear hb
  go_wp2_with fail
  refine (refDrop_up A c xs k _ R0.out HA.out (by omega)).mono ?_
  rintro e v9 ⟨A4, c4, p4, rfl, hP, hR, hc4, hb⟩
  have R0 := Lib.hid (R0.out.up hb)
  have R3 := Lib.hid (R3.out.up hb)
  have HB := Lib.hid (HB.out.trans (hb.mono HB.out.size))
  have P4 := Lib.hid hP
  have R4 := Lib.hid hR
  clear hP hR
  clear hb
  go_wp2_with fail
  refine (equal_up A3 c3 A4 c4 p3 p4 _ R3.out R4.out (by omega) ((drop_ref HA.out P3.out).trans P4.out.symm)).mono ?_
  rintro e v10 ⟨rfl, hb⟩
  have R0 := Lib.hid (R0.out.up hb)
  have R3 := Lib.hid (R3.out.up hb)
  have R4 := Lib.hid (R4.out.up hb)
  have HB := Lib.hid (HB.out.trans (hb.mono HB.out.size))
  clear hb
  go_wp2_with fail
  refine (of_up A c xs _ R0.out (by omega)).mono ?_
  rintro e v11 ⟨A5, c5, p5, rfl, hP, hR, hc5, hb⟩
  have R0 := Lib.hid (R0.out.up hb)
  have HB := Lib.hid (HB.out.trans (hb.mono HB.out.size))
  have P5 := Lib.hid hP
  have R5 := Lib.hid hR
  have l5 : p5.length ≤ 32 := by have := hP.2.2; omega
  clear hP hR
  clear hb
  go_wp2_with fail
  refine (refOf_up A c xs _ R0.out (by omega)).mono ?_
  rintro e v12 ⟨A6, c6, p6, rfl, hP, hR, hc6, hb⟩
  have R0 := Lib.hid (R0.out.up hb)
  have R5 := Lib.hid (R5.out.up hb)
  have HB := Lib.hid (HB.out.trans (hb.mono HB.out.size))
  have P6 := Lib.hid hP
  have R6 := Lib.hid hR
  clear hP hR
  clear hb
  go_wp2_with fail
  refine (equal_up A5 c5 A6 c6 p5 p6 _ R5.out R6.out (by omega) (P5.out.unique P6.out)).mono ?_
  rintro e v13 ⟨rfl, hb⟩
  have R0 := Lib.hid (R0.out.up hb)
  have R5 := Lib.hid (R5.out.up hb)
  have R6 := Lib.hid (R6.out.up hb)
  have HB := Lib.hid (HB.out.trans (hb.mono HB.out.size))
  clear hb
  go_wp2
  go_ret
  exact ⟨rfl, HB.out⟩

set_option maxHeartbeats 2000000 in
theorem agrees_no (A : Option Addr) (c : Nat) (xs : List Pr) (k : ByteArray) (v : Int) (w : World) (h : Rd w w.heap.size A xs) (hc : xs.length ≤ c) (ha : ¬ Asc xs) (hn : xs.length ≤ 30) :
    Calls Try.prog 13 #[.slice A xs.length c, .string k, .int .u64 v] w fun e w' => e = .returned (.bool true) ∧ Below w.heap.size w w' := by
  have R0 := Lib.hid h
  have HA := Lib.hid ha
  clear h ha
  have HB := Lib.hid (Below.refl w.heap.size w)
  go_enter Try.func13, Try.ntmps13
  go_wp2_with fail
  refine ((find_bad A c xs k _ _ R0.out HA.out (by omega))).mono ?_
  rintro e v1 ⟨rfl, hb⟩
  have R0 := Lib.hid (R0.out.up hb)
  have HB := Lib.hid (HB.out.trans (hb.mono HB.out.size))
  clear hb
  go_wp2_with fail
  refine (refFind_bad A c xs k _ R0.out HA.out (by omega)).mono ?_
  rintro e v2 ⟨rfl, hb⟩
  have R0 := Lib.hid (R0.out.up hb)
  have HB := Lib.hid (HB.out.trans (hb.mono HB.out.size))
  clear hb
  go_wp2_with fail
  refine (valid_upF A c xs _ R0.out (by omega) HA.out).mono ?_
  rintro e v3 ⟨rfl, hb⟩
  have R0 := Lib.hid (R0.out.up hb)
  have HB := Lib.hid (HB.out.trans (hb.mono HB.out.size))
  clear hb
  go_wp2_with fail
  refine (refValid_upF A c xs _ R0.out (by omega) HA.out).mono ?_
  rintro e v4 ⟨rfl, hb⟩
  have R0 := Lib.hid (R0.out.up hb)
  have HB := Lib.hid (HB.out.trans (hb.mono HB.out.size))
  clear hb
  go_wp2_with fail
  refine (((put_bad A c xs k v _ _ R0.out HA.out (by omega)).mono fun _ _ h => h.upPost')).mono ?_
  rintro e v5 ⟨A1, c1, p1, rfl, hP, hR, hc1, hb⟩
  have R0 := Lib.hid (R0.out.up hb)
  have HB := Lib.hid (HB.out.trans (hb.mono HB.out.size))
  have P1 := Lib.hid hP
  have R1 := Lib.hid hR
  have l1 : p1.length ≤ 32 := by rw [hP]; simp
  clear hP hR
  clear hb
  go_wp2_with fail
  refine (((refPut_bad A c xs k v _ R0.out HA.out (by omega)).mono fun _ _ h => h.upPost')).mono ?_
  rintro e v6 ⟨A2, c2, p2, rfl, hP, hR, hc2, hb⟩
  have R0 := Lib.hid (R0.out.up hb)
  have R1 := Lib.hid (R1.out.up hb)
  have HB := Lib.hid (HB.out.trans (hb.mono HB.out.size))
  have P2 := Lib.hid hP
  have R2 := Lib.hid hR
  clear hP hR
  clear hb
  go_wp2_with fail
  refine (equal_up A1 c1 A2 c2 p1 p2 _ R1.out R2.out (by omega) (P1.out.trans P2.out.symm)).mono ?_
  rintro e v7 ⟨rfl, hb⟩
  have R0 := Lib.hid (R0.out.up hb)
  have R1 := Lib.hid (R1.out.up hb)
  have R2 := Lib.hid (R2.out.up hb)
  have HB := Lib.hid (HB.out.trans (hb.mono HB.out.size))
  clear hb
  go_wp2_with fail
  refine (((drop_bad A c xs k _ _ R0.out HA.out (by omega)).mono fun _ _ h => h.upPost')).mono ?_
  rintro e v8 ⟨A3, c3, p3, rfl, hP, hR, hc3, hb⟩
  have R0 := Lib.hid (R0.out.up hb)
  have HB := Lib.hid (HB.out.trans (hb.mono HB.out.size))
  have P3 := Lib.hid hP
  have R3 := Lib.hid hR
  have l3 : p3.length ≤ 32 := by rw [hP]; simp
  clear hP hR
  clear hb
  go_wp2_with fail
  refine (((refDrop_bad A c xs k _ R0.out HA.out (by omega)).mono fun _ _ h => h.upPost')).mono ?_
  rintro e v9 ⟨A4, c4, p4, rfl, hP, hR, hc4, hb⟩
  have R0 := Lib.hid (R0.out.up hb)
  have R3 := Lib.hid (R3.out.up hb)
  have HB := Lib.hid (HB.out.trans (hb.mono HB.out.size))
  have P4 := Lib.hid hP
  have R4 := Lib.hid hR
  clear hP hR
  clear hb
  go_wp2_with fail
  refine (equal_up A3 c3 A4 c4 p3 p4 _ R3.out R4.out (by omega) (P3.out.trans P4.out.symm)).mono ?_
  rintro e v10 ⟨rfl, hb⟩
  have R0 := Lib.hid (R0.out.up hb)
  have R3 := Lib.hid (R3.out.up hb)
  have R4 := Lib.hid (R4.out.up hb)
  have HB := Lib.hid (HB.out.trans (hb.mono HB.out.size))
  clear hb
  go_wp2_with fail
  refine (of_up A c xs _ R0.out (by omega)).mono ?_
  rintro e v11 ⟨A5, c5, p5, rfl, hP, hR, hc5, hb⟩
  have R0 := Lib.hid (R0.out.up hb)
  have HB := Lib.hid (HB.out.trans (hb.mono HB.out.size))
  have P5 := Lib.hid hP
  have R5 := Lib.hid hR
  have l5 : p5.length ≤ 32 := by have := hP.2.2; omega
  clear hP hR
  clear hb
  go_wp2_with fail
  refine (refOf_up A c xs _ R0.out (by omega)).mono ?_
  rintro e v12 ⟨A6, c6, p6, rfl, hP, hR, hc6, hb⟩
  have R0 := Lib.hid (R0.out.up hb)
  have R5 := Lib.hid (R5.out.up hb)
  have HB := Lib.hid (HB.out.trans (hb.mono HB.out.size))
  have P6 := Lib.hid hP
  have R6 := Lib.hid hR
  clear hP hR
  clear hb
  go_wp2_with fail
  refine (equal_up A5 c5 A6 c6 p5 p6 _ R5.out R6.out (by omega) (P5.out.unique P6.out)).mono ?_
  rintro e v13 ⟨rfl, hb⟩
  have R0 := Lib.hid (R0.out.up hb)
  have R5 := Lib.hid (R5.out.up hb)
  have R6 := Lib.hid (R6.out.up hb)
  have HB := Lib.hid (HB.out.trans (hb.mono HB.out.size))
  clear hb
  go_wp2
  go_ret
  exact ⟨rfl, HB.out⟩

theorem agrees_any (A : Option Addr) (c : Nat) (xs : List Pr) (k : ByteArray) (v : Int) (w : World) (h : Rd w w.heap.size A xs) (hc : xs.length ≤ c) (hn : xs.length ≤ 30) :
    Calls Try.prog 13 #[.slice A xs.length c, .string k, .int .u64 v] w fun e w' => e = .returned (.bool true) ∧ Below w.heap.size w w' := by
  by_cases ha : Asc xs
  · exact agrees_yes A c xs k v w h hc ha hn
  · exact agrees_no A c xs k v w h hc ha hn

end Go.Proofs.Ytpjfeaccicmgoaa
