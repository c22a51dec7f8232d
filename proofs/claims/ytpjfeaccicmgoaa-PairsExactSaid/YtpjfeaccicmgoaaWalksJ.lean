/-
  The helpers of the statements: First, the reference's Equal, awake; the contracts of package pairs as the statements use them.
-/
import Derived.Test.YtpjfeaccicmgoaaWalksI
set_option linter.unusedVariables false
namespace Go.Proofs.Ytpjfeaccicmgoaa
open Go.Shelf Go.RowKit Go.Lib Go.Sort

theorem first_any (A : Option Addr) (c : Nat) (xs : List Pr) (w : World) (hc : xs.length ≤ c) :
    Calls Try.prog 8 #[.slice A xs.length c, .int .i64 30] w fun e w' => e = .returned (.slice A (xs.take 30).length c) ∧ w = w' := by
  by_cases h : 30 < xs.length
  · have hz : (30 : Int) < (xs.length : Int) := by omega
    have hc' : 30 ≤ c := by omega
    have e : (xs.take 30).length = 30 := by simp; omega
    rw [e]
    clear e
    go_enter Try.func8, Try.ntmps8
    go_wp2
    go_ret
    exact ⟨rfl, rfl⟩
  · have hz : ¬ (30 : Int) < (xs.length : Int) := by omega
    rw [List.take_of_length_le (by omega)]
    go_enter Try.func8, Try.ntmps8
    go_wp2
    go_ret
    exact ⟨rfl, rfl⟩

theorem eq_pair (x : Pr) (w : World) : (Op.equalIn 10000 27 (.agg #[.string x.1, .int .u64 x.2]) (.agg #[.string x.1, .int .u64 x.2])).run Try.prog w = .ok true w := by
  have hS : Try.prog.underlying 27 = some (.struct (Try.prog.fieldsOf 27)) := by kernel_rfl
  have hp : Try.prog.stoodInHeld 27 = false := by kernel_rfl
  have a9 := Try.isAgg9; have z9 := Try.sizeOf9; have u9 := Try.underlying9
  have a24 := Try.isAgg24; have z24 := Try.sizeOf24; have u24 := Try.underlying24
  rw [show (10000 : Nat) = 9999 + 1 from rfl, run_equalIn_agg w 9999 27 _ _ hS hp]
  simp only [Program.fieldsOf, Try.underlying27]
  go_simp

set_option maxHeartbeats 1000000 in
/-- The reference's Equal at two equal lists. -/
theorem equal_any (A : Option Addr) (c : Nat) (B : Option Addr) (d : Nat) (xs : List Pr) (b : Nat) (w : World) (h : Rd w b A xs) (g : Rd w b B xs) (hn : xs.length ≤ 1000000) :
    Calls Try.prog 20 #[.slice A xs.length c, .slice B xs.length d] w fun e w' => e = .returned (.bool true) ∧ ∃ q, w' = w.drewN q := by
  have H := Lib.hid h
  have G := Lib.hid g
  clear h g
  have mixed := mixedOrders
  have ht : ((xs.length : Int) != (xs.length : Int)) = false := by simp
  go_enter Try.func20, Try.ntmps20
  go_wp2
  go_loopg [5] xs.length (fun kx s5 wr => ∃ i : Nat, s5 = .int .i64 i ∧ i ≤ xs.length ∧ xs.length - i ≤ kx ∧ Aside (∃ q, wr = w.drewN q))
  case atStart => exact ⟨0, rfl, Nat.zero_le _, by omega, (⟨0, rfl⟩ : ∃ q, w = w.drewN q)⟩
  case round =>
    obtain ⟨i, rfl, hi, hkx, W⟩ := hrel
    by_cases hlt : i < xs.length
    · have hltz : (i : Int) < (xs.length : Int) := by omega
      have hr : Rd wr b A xs := by obtain ⟨q, hq⟩ := W.out; rw [hq]; exact H.out.drewN q
      have gr : Rd wr b B xs := by obtain ⟨q, hq⟩ := W.out; rw [hq]; exact G.out.drewN q
      obtain ⟨ad, p, x, rfl, hp, hb, hx, c0, c1⟩ := hr.at2 hlt
      obtain ⟨ad2, p2, x2, rfl, hp2, hb2, hx2, d0, d1⟩ := gr.at2 hlt
      obtain rfl : x = x2 := by rw [hx] at hx2; injection hx2
      have heq := eq_pair x
      clear hx hx2 hr gr
      go_wp2_with fail
      go_quiet (fail)
      clear c0 c1 d0 d1 heq hp hp2
      go_wp2
      go_roundg (xs.length - (i + 1))
      case measure => omega
      case rel => exact ⟨i + 1, by go_num, by omega, Nat.le_refl _, (by obtain ⟨q, hq⟩ := W.out; exact ⟨q + nq, by rw [hq]; exact World.drewN_drewN ..⟩ : ∃ q, _)⟩
    · go_wp2
      go_ret
      exact ⟨rfl, W.out⟩

/-! ### As the statements use them -/
def UpPost (P : List Pr → Prop) (w : World) (e : Ending) (w' : World) : Prop :=
  ∃ (A : Option Addr) (c : Nat) (ys : List Pr), e = .returned (.slice A ys.length c) ∧ P ys ∧ Rd w' w'.heap.size A ys ∧ ys.length ≤ c ∧ Below w.heap.size w w'

theorem Rd.up {w w' : World} {A : Option Addr} {xs : List Pr} (h : Rd w w.heap.size A xs) (hb : Below w.heap.size w w') : Rd w' w'.heap.size A xs := (h.below hb).more hb.size

theorem OwnPost.upPost {P : List Pr → Prop} {ys : List Pr} {w : World} {e : Ending} {w' : World} (h : OwnPost ys w e w') (hP : P ys) : UpPost P w e w' := by
  obtain ⟨v, rfl, ho, hb⟩ := h
  obtain ⟨A, c, rfl, hR, _, hc⟩ := ho.open_
  exact ⟨A, c, ys, rfl, hP, hR, hc, hb⟩

theorem put_up (A : Option Addr) (c : Nat) (xs : List Pr) (k : ByteArray) (v : Int) (w : World) (h : Rd w w.heap.size A xs) (ha : Asc xs) (hc : xs.length ≤ c) (hn : xs.length ≤ 1000000) :
    Calls Try.prog 16 #[.slice A xs.length c, .string k, .int .u64 v] w (UpPost (PutOf xs k v) w) :=
  (put_any A c xs k v _ w h (Nat.le_refl _) ha hc hn).mono fun _ _ ⟨_, hP, ho⟩ => ho.upPost hP
theorem drop_up (A : Option Addr) (c : Nat) (xs : List Pr) (k : ByteArray) (w : World) (h : Rd w w.heap.size A xs) (ha : Asc xs) (hc : xs.length ≤ c) (hn : xs.length ≤ 1000000) :
    Calls Try.prog 17 #[.slice A xs.length c, .string k] w (UpPost (DropOf xs k) w) :=
  (drop_any A c xs k _ w h (Nat.le_refl _) ha hc hn).mono fun _ _ ⟨_, hP, ho⟩ => ho.upPost hP
theorem of_up (A : Option Addr) (c : Nat) (xs : List Pr) (w : World) (h : Rd w w.heap.size A xs) (hn : xs.length < 40) :
    Calls Try.prog 15 #[.slice A xs.length c] w (UpPost (OfOf xs) w) :=
  (of_any A c xs _ w h (Nat.le_refl _) hn).mono fun _ _ ⟨_, hP, ho⟩ => ho.upPost hP
theorem find_up (A : Option Addr) (c : Nat) (xs : List Pr) (k : ByteArray) (w : World) (h : Rd w w.heap.size A xs) (ha : Asc xs) (hn : xs.length ≤ 1000000) :
    Calls Try.prog 18 #[.slice A xs.length c, .string k] w fun e w' => e = .returned (.tuple #[.int .u64 ((lk xs k).getD 0), .bool (lk xs k).isSome]) ∧ Below w.heap.size w w' :=
  find_any A c xs k _ w h (Nat.le_refl _) ha hn
theorem valid_up (A : Option Addr) (c : Nat) (xs : List Pr) (w : World) (h : Rd w w.heap.size A xs) (hn : xs.length ≤ 1000000) (ha : Asc xs) :
    Calls Try.prog 19 #[.slice A xs.length c] w fun e w' => e = .returned (.bool true) ∧ Below w.heap.size w w' :=
  (valid_true A c xs _ w h (by omega) ha).mono fun _ _ ⟨he, q, hq⟩ => ⟨he, by rw [hq]; exact below_drew (Below.refl _ _) q⟩
theorem equal_up (A : Option Addr) (c : Nat) (B : Option Addr) (d : Nat) (xs ys : List Pr) (w : World) (h : Rd w w.heap.size A xs) (g : Rd w w.heap.size B ys) (hn : xs.length ≤ 1000000) (e : xs = ys) :
    Calls Try.prog 20 #[.slice A xs.length c, .slice B ys.length d] w fun e w' => e = .returned (.bool true) ∧ Below w.heap.size w w' := by
  subst e
  exact (equal_any A c B d xs _ w h g hn).mono fun _ _ ⟨he, q, hq⟩ => ⟨he, by rw [hq]; exact below_drew (Below.refl _ _) q⟩

theorem find_at (A : Option Addr) (c : Nat) (xs : List Pr) (k : ByteArray) (w : World) (h : Rd w w.heap.size A xs) (ha : Asc xs) (hn : xs.length ≤ 1000000) (g : Int) (s : Bool) (hg : (lk xs k).getD 0 = g) (hs : (lk xs k).isSome = s) :
    Calls Try.prog 18 #[.slice A xs.length c, .string k] w fun e w' => e = .returned (.tuple #[.int .u64 g, .bool s]) ∧ Below w.heap.size w w' := by
  subst hg hs
  exact find_up A c xs k w h ha hn
theorem PutOf.le {xs : List Pr} {k : ByteArray} {v : Int} {ys : List Pr} (h : PutOf xs k v ys) : ys.length ≤ xs.length + 1 := by
  have := h.2.2
  split at this <;> omega
theorem DropOf.le {xs : List Pr} {k : ByteArray} {ys : List Pr} (h : DropOf xs k ys) : ys.length ≤ xs.length := by
  have := h.2.2
  split at this <;> omega
theorem PutOf.same {xs : List Pr} {k : ByteArray} {v : Int} {ys : List Pr} (h : PutOf xs k v ys) : lk ys k = some v := by rw [h.2.1, if_pos rfl]
theorem PutOf.other {xs : List Pr} {k j : ByteArray} {v : Int} {ys : List Pr} (h : PutOf xs k v ys) (hj : j ≠ k) : lk ys j = lk xs j := by rw [h.2.1, if_neg hj]
theorem DropOf.same {xs : List Pr} {k : ByteArray} {ys : List Pr} (h : DropOf xs k ys) : lk ys k = none := by rw [h.2.1, if_pos rfl]
theorem DropOf.other {xs : List Pr} {k j : ByteArray} {ys : List Pr} (h : DropOf xs k ys) (hj : j ≠ k) : lk ys j = lk xs j := by rw [h.2.1, if_neg hj]

/-! ### awake -/
theorem lit_rd (w : World) (xs : List Pr) : Rd (w.alloc (.cells (flat xs).toArray 27)) (w.alloc (.cells (flat xs).toArray 27)).heap.size (some ⟨w.heap.size, 0, none⟩) xs := fun _ =>
  ⟨_, rfl, by simp, fun j u hj => by
    have := cell_of_row (w.alloc (.cells (flat xs).toArray 27)) w.heap.size j (flat xs).toArray 27 (0, 0) (heap_alloc_new w _)
    have e : (⟨w.heap.size, 0, none⟩ : Addr).add j = ⟨w.heap.size, j, none⟩ := by
      unfold Addr.add
      split
      · subst_vars; rfl
      · simp
    rw [e, this]
    simpa using hj⟩

def kA : ByteArray := ⟨#[97]⟩
def kB : ByteArray := ⟨#[98]⟩
def kC : ByteArray := ⟨#[99]⟩
theorem kAB : kl kA kB = true := by decide
theorem kBC : kl kB kC = true := by decide
theorem kAC : kl kA kC = true := by decide

theorem awake_put : PutOf [(kA, 1), (kC, 3)] kB 2 [(kA, 1), (kB, 2), (kC, 3)] := by
  have ha : Asc [(kA, 1), (kC, 3)] := by simp [Asc, kAC]
  have hs : Split [(kA, 1), (kC, 3)] kB [(kA, 1)] [] [(kC, 3)] := ⟨rfl, by simp [kAB], by simp [kBC], .inl rfl⟩
  exact hs.put ha 2
theorem awake_of : OfOf [(kB, 1), (kA, 2), (kB, 3)] [(kA, 2), (kB, 3)] := by
  have hne : kA ≠ kB := kl_ne kAB
  refine ⟨by simp [Asc, kAB], fun j => ?_, by simp⟩
  by_cases h1 : kA = j
  · subst h1
    simp [lk, Ne.symm hne]
  · by_cases h2 : kB = j
    · subst h2
      simp [lk]
    · simp [lk, h1, h2]

set_option maxHeartbeats 1000000 in
theorem awake_any (w : World) : Calls Try.prog 12 #[] w fun e w' => e = .returned (.bool true) ∧ Below w.heap.size w w' := by
  have asc0 : Asc [(kA, 1), (kC, 3)] := by simp [Asc, kAC]
  have A0 := Lib.hid asc0
  clear asc0
  go_enter Try.func12, Try.ntmps12
  go_wp2_with fail
  refine (put_up _ 2 [(kA, 1), (kC, 3)] kB 2 (w.alloc (.cells (flat [(kA, 1), (kC, 3)]).toArray 27)) (lit_rd w _) A0.out (by simp) (by simp)).mono ?_
  rintro e w1 ⟨A1, c1, y1, rfl, hP, hR, hc, hb⟩
  obtain rfl := hP.unique awake_put
  have HB1 := Lib.hid (((Below.refl w.heap.size w).alloc (Nat.le_refl _) (.cells (flat [(kA, 1), (kC, 3)]).toArray 27)).trans (hb.mono (by simp)))
  have HR := Lib.hid hR
  clear hP hR hc hb
  go_wp2_with fail
  refine (equal_up A1 c1 _ 3 [(kA, 1), (kB, 2), (kC, 3)] [(kA, 1), (kB, 2), (kC, 3)] (w1.alloc (.cells (flat [(kA, 1), (kB, 2), (kC, 3)]).toArray 27)) (HR.out.up ((Below.refl _ _).alloc (Nat.le_refl _) _)) (lit_rd w1 _) (by simp) rfl).mono ?_
  rintro e w2 ⟨rfl, hb⟩
  have HB2 := Lib.hid (HB1.out.trans ((((Below.refl w1.heap.size w1).alloc (Nat.le_refl _) (.cells (flat [(kA, 1), (kB, 2), (kC, 3)]).toArray 27)).trans (hb.mono (by simp))).mono HB1.out.size))
  clear hb HR HB1
  go_wp2_with fail
  refine (of_up _ 3 [(kB, 1), (kA, 2), (kB, 3)] (w2.alloc (.cells (flat [(kB, 1), (kA, 2), (kB, 3)]).toArray 27)) (lit_rd w2 _) (by simp)).mono ?_
  rintro e w3 ⟨A3, c3, y3, rfl, hP, hR, hc, hb⟩
  obtain rfl := hP.unique awake_of
  have HB3 := Lib.hid (HB2.out.trans ((((Below.refl w2.heap.size w2).alloc (Nat.le_refl _) (.cells (flat [(kB, 1), (kA, 2), (kB, 3)]).toArray 27)).trans (hb.mono (by simp))).mono HB2.out.size))
  have HR := Lib.hid hR
  clear hP hR hc hb HB2
  go_wp2_with fail
  refine (equal_up A3 c3 _ 2 [(kA, 2), (kB, 3)] [(kA, 2), (kB, 3)] (w3.alloc (.cells (flat [(kA, 2), (kB, 3)]).toArray 27)) (HR.out.up ((Below.refl _ _).alloc (Nat.le_refl _) _)) (lit_rd w3 _) (by simp) rfl).mono ?_
  rintro e w4 ⟨rfl, hb⟩
  have HB4 := Lib.hid (HB3.out.trans ((((Below.refl w3.heap.size w3).alloc (Nat.le_refl _) (.cells (flat [(kA, 2), (kB, 3)]).toArray 27)).trans (hb.mono (by simp))).mono HB3.out.size))
  clear hb HR HB3
  go_wp2
  go_ret
  exact ⟨rfl, HB4.out⟩

end Go.Proofs.Ytpjfeaccicmgoaa
