/-
  The walks of the reference of layer 3: Of, Put, Drop, Find.
-/
import Derived.Test.YtpopoihggomfiaaTbE
set_option linter.unusedVariables false
set_option maxRecDepth 100000
namespace Go.Proofs.Ytpopoihggomfiaa
open Go.Shelf Go.RowKit Go.Lib Go.Sort

def OfPost (xs : List Pr) (w : World) (e : Ending) (w' : World) : Prop := ∃ ys, OfOf xs ys ∧ OwnPost ys w e w'

theorem without_up (A : Option Addr) (c : Nat) (xs : List Pr) (k : ByteArray) (w : World) (h : Rd w w.heap.size A xs) (hn : xs.length ≤ 100000) :
    Calls Try.prog 50 #[.slice A xs.length c, .string k] w fun e w' => ∃ A' c', e = .returned (.slice A' (wo xs k).length c') ∧ Own w' w.heap.size (.slice A' (wo xs k).length c') (wo xs k) ∧ Rd w' w'.heap.size A' (wo xs k) ∧ (A' = none → c' = 0) ∧ (wo xs k).length ≤ c' ∧ Below w.heap.size w w' :=
  (without_any A c xs k w h hn).mono fun e w' ⟨v, he, ho, hb⟩ => by
    obtain ⟨A', c', rfl, h1, h2, h3⟩ := ho.open2
    exact ⟨A', c', he, ho, h1, h2, h3, hb⟩

structure OfI (xs : List Pr) (i : Nat) (ys : List Pr) : Prop where
  asc : Asc ys
  look : ∀ k, lk ys k = lk (xs.take i) k
  len : ys.length ≤ i
theorem OfI.step {xs ys zs : List Pr} {i : Nat} {x : Pr} (h : OfI xs i ys) (hx : xs[i]? = some x) (hz : PutOf (wo ys x.1) x.1 x.2 zs) : OfI xs (i + 1) zs := by
  refine ⟨hz.1, fun k => ?_, ?_⟩
  · rw [hz.2.1, wo_lk, h.look, List.take_add_one, hx]
    simp only [Option.toList]
    rw [lk_append, lk_one]
    by_cases e : k = x.1
    · subst e; simp
    · rw [if_neg e, if_neg e, if_neg (Ne.symm e)]; rfl
  · have := hz.le
    have := wo_le ys x.1
    have := h.len
    omega

set_option maxHeartbeats 4000000 in
theorem refOf_any (A : Option Addr) (c : Nat) (xs : List Pr) (w : World) (h : Rd w w.heap.size A xs) (hn : xs.length ≤ 50000) :
    Calls Try.prog 28 #[.slice A xs.length c] w (OfPost xs w) := by
  have H := Lib.hid h
  clear h
  have mixed := mixedOrders
  have I0 : Aside (OfI xs 0 []) := ⟨List.Pairwise.nil, fun _ => rfl, Nat.le_refl _⟩
  go_enter Try.func28, Try.ntmps28
  go_wp2
  go_loopg [3, 4] xs.length (fun kx s3 s4 wr => ∃ (i : Nat) (ys : List Pr), s4 = .int .i64 i ∧ i ≤ xs.length ∧ xs.length - i ≤ kx ∧ Aside (Own wr w.heap.size s3 ys) ∧ Aside (Below w.heap.size w wr) ∧ Aside (OfI xs i ys))
  case atStart => exact ⟨0, [], rfl, Nat.zero_le _, by omega, Own.nil_ _ _, Below.refl _ _, I0⟩
  case round =>
    clear I0
    obtain ⟨i, ys, rfl, hi, hkx, O, HB, I⟩ := hrel
    by_cases hlt : i < xs.length
    · have hltz : (i : Int) < (xs.length : Int) := by omega
      obtain ⟨ad, p, x, rfl, hp, hb, hx, c0, c1⟩ := (H.out.below HB.out).at2 hlt
      obtain ⟨Ao, co, rfl, hR, _, _⟩ := O.out.open2
      have hyl : ys.length ≤ 100000 := by have := I.out.len; omega
      have cw := without_up Ao co ys x.1 wr.drew hR hyl
      have CW := Lib.hid cw
      have X := Lib.hid hx
      have hbw : p.block < wr.heap.size := Nat.lt_of_lt_of_le hb HB.out.size
      have AY := Lib.hid I.out.asc
      clear cw hx hR
      go_wp2_with fail
      go_region_with (first
        | (go_at_call 50
           refine CW.out.mono ?_
           rintro e w1 ⟨A1, d1, rfl, hO1, hR1, hA1, hd1, hb1⟩
           have c0' : w1.cell? p = some (.string x.1) := (hb1.cell (p := p) hbw).trans c0
           have c1' : w1.cell? ⟨p.block, p.off + 1, none⟩ = some (.int .u64 x.2) := (hb1.cell (p := ⟨p.block, p.off + 1, none⟩) hbw).trans c1
           have HR1 := Lib.hid hR1
           have HA1 := Lib.hid hA1
           have HB1 := Lib.hid hb1
           clear hO1 hR1 hA1 hb1)
        | (go_at_call 49
           refine (with_any A1 d1 (wo ys x.1) x w1 HR1.out hd1 HA1.out (wo_asc AY.out _) (fun y hy => wo_ne hy) (Nat.le_trans (wo_le _ _) hyl)).mono ?_
           rintro e w2 ⟨zs, hP, v2, rfl, hO2, hb2⟩
           have HP := Lib.hid hP
           have HO2 := Lib.hid hO2
           have HB2 := Lib.hid hb2
           clear hP hO2 hb2))
      all_goals
        clear c0 c1 c0' c1' CW
        go_wp2
        go_roundg (xs.length - (i + 1))
        case measure => omega
        case rel =>
          have B1 : Below w.heap.size w w1 := (below_drew HB.out 1).trans (HB1.out.mono HB.out.size)
          exact ⟨i + 1, zs, by go_num, by omega, Nat.le_refl _, HO2.out.mono B1.size, B1.trans (HB2.out.mono B1.size), I.out.step X.out HP.out⟩
    · obtain rfl : i = xs.length := by omega
      go_wp2
      go_ret
      refine ⟨ys, ⟨I.out.asc, fun k => by rw [I.out.look, List.take_length], I.out.len⟩, _, rfl, O.out, HB.out⟩


theorem refOf_up (A : Option Addr) (c : Nat) (xs : List Pr) (w : World) (h : Rd w w.heap.size A xs) (hn : xs.length ≤ 50000) :
    Calls Try.prog 28 #[.slice A xs.length c] w (UpPost (OfOf xs) w) :=
  (refOf_any A c xs w h hn).mono fun _ _ ⟨_, hP, ho⟩ => ho.upPost hP

theorem PutOf.of_wo {xs ys : List Pr} {k : ByteArray} {v : Int} (h : PutOf (wo xs k) k v ys) : Asc ys ∧ ∀ j, lk ys j = if j = k then some v else lk xs j :=
  ⟨h.1, fun j => by
    rw [h.2.1, wo_lk]
    split <;> rfl⟩
theorem put_ref {xs ys zs : List Pr} {k : ByteArray} {v : Int} (h : PutOf xs k v ys) (g : PutOf (wo xs k) k v zs) : ys = zs :=
  asc_ext h.1 g.1 fun j => by rw [h.2.1, g.of_wo.2]
theorem drop_ref {xs ys : List Pr} {k : ByteArray} (ha : Asc xs) (h : DropOf xs k ys) : ys = wo xs k :=
  asc_ext h.1 (wo_asc ha k) fun j => by rw [h.2.1, wo_lk]

theorem refValid_true (A : Option Addr) (c : Nat) (xs : List Pr) (B : Nat) (w : World) (h : Rd w B A xs) (hn : xs.length ≤ 1000000) (ha : Asc xs) :
    Calls Try.prog 38 #[.slice A xs.length c] w fun e w' => e = .returned (.bool true) ∧ ∃ q, w' = w.drewN q :=
  (prvalid_any A c xs B w h (by omega)).mono fun e w' ⟨he, hq⟩ => ⟨by rw [he, validB_true ha], hq⟩
theorem refValid_false (A : Option Addr) (c : Nat) (xs : List Pr) (B : Nat) (w : World) (h : Rd w B A xs) (hn : xs.length ≤ 1000000) (ha : ¬ Asc xs) :
    Calls Try.prog 38 #[.slice A xs.length c] w fun e w' => e = .returned (.bool false) ∧ ∃ q, w' = w.drewN q :=
  (prvalid_any A c xs B w h (by omega)).mono fun e w' ⟨he, hq⟩ => ⟨by rw [he, validB_false ha], hq⟩

set_option maxHeartbeats 1000000 in
theorem refPut_any (A : Option Addr) (c : Nat) (xs : List Pr) (k : ByteArray) (v : Int) (w : World) (h : Rd w w.heap.size A xs) (ha : Asc xs) (hn : xs.length ≤ 50000) :
    Calls Try.prog 46 #[.slice A xs.length c, .string k, .int .u64 v] w (fun e w' => ∃ ys, PutOf (wo xs k) k v ys ∧ OwnPost ys w e w') := by
  have c28 := Lib.hid (refValid_true A c xs _ w h (by omega) ha)
  have HH := Lib.hid h
  have HA := Lib.hid ha
  clear h ha
  go_enter Try.func46, Try.ntmps46
  go_wp2_with (go_at_call 38; refine c28.out.mono ?_; rintro e w' ⟨rfl, q, rfl⟩)
  refine (without_up A c xs k (w.drewN q) (HH.out.drewN q) (by omega)).mono ?_
  rintro e w1 ⟨A1, d1, rfl, hO1, hR1, hA1, hd1, hb1⟩
  have HR1 := Lib.hid hR1
  have HA1 := Lib.hid hA1
  have HB1 := Lib.hid ((below_drew (Below.refl _ w) q).trans hb1)
  clear hR1 hA1 hb1 hO1
  go_wp2_with fail
  refine (with_any A1 d1 (wo xs k) (k, v) w1 HR1.out hd1 HA1.out (wo_asc HA.out _) (fun y hy => wo_ne hy) (Nat.le_trans (wo_le _ _) (by omega))).mono ?_
  rintro e w2 ⟨zs, hP, v2, rfl, hO2, hb2⟩
  have HP := Lib.hid hP
  have HO2 := Lib.hid hO2
  have HB2 := Lib.hid hb2
  clear hP hO2 hb2
  go_wp2
  go_ret
  exact ⟨zs, HP.out, OwnPost.up ⟨v2, rfl, HO2.out, HB2.out⟩ HB1.out⟩

set_option maxHeartbeats 1000000 in
theorem refDrop_any (A : Option Addr) (c : Nat) (xs : List Pr) (k : ByteArray) (w : World) (h : Rd w w.heap.size A xs) (ha : Asc xs) (hn : xs.length ≤ 50000) :
    Calls Try.prog 47 #[.slice A xs.length c, .string k] w (OwnPost (wo xs k) w) := by
  have c28 := Lib.hid (refValid_true A c xs _ w h (by omega) ha)
  have HH := Lib.hid h
  clear h
  go_enter Try.func47, Try.ntmps47
  go_wp2_with (go_at_call 38; refine c28.out.mono ?_; rintro e w' ⟨rfl, q, rfl⟩)
  refine (without_any A c xs k (w.drewN q) (HH.out.drewN q) (by omega)).mono ?_
  rintro e w1 ⟨v1, rfl, hO, hb⟩
  have HO := Lib.hid hO
  have HB := Lib.hid ((below_drew (Below.refl _ w) q).trans hb)
  clear hO hb
  go_wp2
  go_ret
  exact ⟨v1, rfl, HO.out, HB.out⟩

theorem refPut_bad (A : Option Addr) (c : Nat) (xs : List Pr) (k : ByteArray) (v : Int) (w : World) (h : Rd w w.heap.size A xs) (ha : ¬ Asc xs) (hn : xs.length ≤ 50000) :
    Calls Try.prog 46 #[.slice A xs.length c, .string k, .int .u64 v] w (OwnPost [] w) := by
  have c28 := Lib.hid (refValid_false A c xs _ w h (by omega) ha)
  clear h
  go_enter Try.func46, Try.ntmps46
  go_wp2_with (go_at_call 38; refine c28.out.mono ?_; rintro e w' ⟨rfl, q, rfl⟩)
  go_ret
  exact ⟨_, rfl, Own.nil_ _ _, below_drew (Below.refl _ _) q⟩
theorem refDrop_bad (A : Option Addr) (c : Nat) (xs : List Pr) (k : ByteArray) (w : World) (h : Rd w w.heap.size A xs) (ha : ¬ Asc xs) (hn : xs.length ≤ 50000) :
    Calls Try.prog 47 #[.slice A xs.length c, .string k] w (OwnPost [] w) := by
  have c28 := Lib.hid (refValid_false A c xs _ w h (by omega) ha)
  clear h
  go_enter Try.func47, Try.ntmps47
  go_wp2_with (go_at_call 38; refine c28.out.mono ?_; rintro e w' ⟨rfl, q, rfl⟩)
  go_ret
  exact ⟨_, rfl, Own.nil_ _ _, below_drew (Below.refl _ _) q⟩

set_option maxHeartbeats 1000000 in
/-- The reference's Find. -/
theorem refFind_any (A : Option Addr) (c : Nat) (xs : List Pr) (k : ByteArray) (w : World) (h : Rd w w.heap.size A xs) (ha : Asc xs) (hn : xs.length ≤ 50000) (g : Int) (s : Bool) (hg : (lk xs k).getD 0 = g) (hs : (lk xs k).isSome = s) :
    Calls Try.prog 18 #[.slice A xs.length c, .string k] w fun e w' => e = .returned (.tuple #[.int .u64 g, .bool s]) ∧ Below w.heap.size w w' := by
  have H := Lib.hid h
  have HA := Lib.hid ha
  have HG := Lib.hid hg
  have HS := Lib.hid hs
  clear h ha hg hs
  go_enter Try.func18, Try.ntmps18
  go_wp2
  go_loopg [6] xs.length (fun kx s6 wr => ∃ i : Nat, s6 = .int .i64 i ∧ i ≤ xs.length ∧ xs.length - i ≤ kx ∧ Aside (∃ q, wr = w.drewN q) ∧ Aside (lk (xs.take i) k = none))
  case atStart => exact ⟨0, rfl, Nat.zero_le _, by omega, (⟨0, rfl⟩ : ∃ q, w = w.drewN q), (rfl : lk [] k = none)⟩
  case round =>
    obtain ⟨i, rfl, hi, hkx, W, L⟩ := hrel
    by_cases hlt : i < xs.length
    · have hltz : (i : Int) < (xs.length : Int) := by omega
      have hd : decide ((i : Int) < (xs.length : Int)) = true := decide_eq_true hltz
      have hr : Rd wr w.heap.size A xs := by obtain ⟨q, hq⟩ := W.out; rw [hq]; exact H.out.drewN q
      obtain ⟨ad, p, x, rfl, hp, hb, hx, c0, c1⟩ := hr.at2 hlt
      have c28 := Lib.hid (refValid_true (some ad) c xs _ wr hr (by omega) HA.out)
      have X := Lib.hid hx
      clear hx hr
      cases hk : x.1.toList == k.toList with
      | true =>
        go_wp2_with (go_at_call 38; refine c28.out.mono ?_; rintro e w' ⟨rfl, q, rfl⟩)
        have ek : x.1 = k := by
          rw [beq_iff_eq, Lib.toList_data, Lib.toList_data] at hk
          exact key_ext hk
        have hl : lk xs k = some x.2 := (lk_mem HA.out k x.2).1 (by rw [← ek]; exact List.mem_of_getElem? X.out)
        have e1 : g = x.2 := by rw [← HG.out, hl]; rfl
        have e2 : s = true := by rw [← HS.out, hl]; rfl
        refine bodyPost_ret (v := .tuple #[.int .u64 x.2, .bool true]) (by simp [results, Try.results18]) rfl ⟨by rw [e1, e2], ?_⟩
        obtain ⟨q', hq'⟩ := W.out
        rw [hq']
        exact below_drew (below_drew (Below.refl _ w) q') q
      | false =>
        go_wp2_with (go_at_call 38; refine c28.out.mono ?_; rintro e w' ⟨rfl, q, rfl⟩)
        go_roundg (xs.length - (i + 1))
        case measure => omega
        case rel =>
          refine ⟨i + 1, by go_num, by omega, Nat.le_refl _, (by obtain ⟨q', hq'⟩ := W.out; exact ⟨q' + q, by rw [hq']; exact World.drewN_drewN ..⟩ : ∃ q, _), ?_⟩
          show lk (xs.take (i + 1)) k = none
          have hne : x.1 ≠ k := fun e => by rw [e] at hk; simp at hk
          rw [List.take_add_one, X.out]
          simp only [Option.toList]
          rw [lk_append, lk_one, if_neg hne, L.out]
          rfl
    · obtain rfl : i = xs.length := by omega
      have hltz : decide ((xs.length : Int) < (xs.length : Int)) = false := decide_eq_false (by omega)
      have hltz' : ¬ (xs.length : Int) < (xs.length : Int) := by omega
      go_wp2
      have hl : lk xs k = none := by have := L.out; rwa [List.take_length] at this
      have e1 : g = 0 := by rw [← HG.out, hl]; rfl
      have e2 : s = false := by rw [← HS.out, hl]; rfl
      refine bodyPost_ret (v := .tuple #[.int .u64 0, .bool false]) (by simp [results, Try.results18]) rfl ⟨by rw [e1, e2], ?_⟩
      obtain ⟨q', hq'⟩ := W.out
      rw [hq']
      exact below_drew (Below.refl _ w) q'

set_option maxHeartbeats 1000000 in
theorem refFind_bad (A : Option Addr) (c : Nat) (xs : List Pr) (k : ByteArray) (w : World) (h : Rd w w.heap.size A xs) (ha : ¬ Asc xs) (hn : xs.length ≤ 50000) :
    Calls Try.prog 18 #[.slice A xs.length c, .string k] w fun e w' => e = .returned (.tuple #[.int .u64 0, .bool false]) ∧ Below w.heap.size w w' := by
  have hpos : 0 < xs.length := by
    rcases Nat.eq_zero_or_pos xs.length with h0 | h0
    · have : xs = [] := List.eq_nil_of_length_eq_zero h0
      subst this
      exact absurd List.Pairwise.nil ha
    · exact h0
  have c28 := Lib.hid (refValid_false A c xs _ w h (by omega) ha)
  have hd : decide ((0 : Int) < (xs.length : Int)) = true := decide_eq_true (by omega)
  have hd' : (0 : Int) < (xs.length : Int) := by omega
  clear h
  go_enter Try.func18, Try.ntmps18
  go_wp2
  go_loopg [6] 1 (fun _ s6 wr => s6 = .int .i64 0 ∧ wr = w)
  case atStart => exact ⟨rfl, rfl⟩
  case round =>
    obtain ⟨rfl, rfl⟩ := hrel
    go_wp2_with (go_at_call 38; refine c28.out.mono ?_; rintro e w' ⟨rfl, q, rfl⟩)
    exact bodyPost_ret (v := .tuple #[.int .u64 0, .bool false]) (by simp [results, Try.results18]) rfl ⟨rfl, below_drew (Below.refl _ _) q⟩

end Go.Proofs.Ytpopoihggomfiaa
