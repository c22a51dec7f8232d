/-
  The stable sort of at most 39 pairs: insertion of the blocks, one merge.
-/
import Derived.Test.YtpjfeaccicmgoaaWalksD
set_option linter.unusedVariables false
namespace Go.Proofs.Ytpjfeaccicmgoaa
open Go.Shelf Go.RowKit Go.Lib Go.Sort

/-- The numbering of the library's insertion sort at this program. -/
def insRen : Go.Shelf.Ren := ⟨fun | 20 => 40 | n => n, fun | 24 => 27 | 25 => 53 | n => n, fun n => n⟩

theorem insL : SlLaysF0.n20 Try.prog insRen := {
  mixed := mixedOrders
  f20 := ⟨Try.f40.name, by decide, Try.func40.trans (congrArg some (by kernel_rfl))⟩
  t0 := Try.underlying0
  a0 := Try.isAgg0
  z0 := Try.sizeOf0
  v0 := Try.zeroValue0
  t3 := Try.underlying3
  a3 := Try.isAgg3
  z3 := Try.sizeOf3
  v3 := Try.zeroValue3
  t4 := Try.underlying4
  a4 := Try.isAgg4
  z4 := Try.sizeOf4
  v4 := Try.zeroValue4
  t22 := Try.underlying22
  a22 := Try.isAgg22
  z22 := Try.sizeOf22
  v22 := Try.zeroValue22
  t25 := Try.underlying53
  a25 := Try.isAgg53
  z25 := Try.sizeOf53
  v25 := Try.zeroValue53 }

theorem enc_one (x : Pr) : ∀ v ∈ enc x, v.oneCell' = true := fun v hv => by
  simp [enc] at hv
  rcases hv with rfl | rfl <;> rfl

theorem insertion_any (blk off cap a b : Nat) (za zb : Int) (ha : za = a) (hzb : zb = b) (sz : Nat) (d0 d : Array Pr) (hz : sz = d.size) (w0 w : World) (R : RowK enc 2 w0 blk off d0) (hs : d.size = d0.size) (S : SWK enc 2 w0 blk off d w)
    (hS : SWO lt') (hab : a ≤ b) (hb : b ≤ d.size) (hsz : d0.size < 4611686018427387904) :
    Calls Try.prog 40 #[.slice (some ⟨blk, off, none⟩) sz cap, .int .i64 za, .int .i64 zb, .func (.func 32) #[] #[]] w fun e w' =>
      e = .returned (.tuple #[]) ∧ ∃ d', Merged lt' a b d d' ∧ SWK enc 2 w0 blk off d' w' := by
  subst ha hzb hz
  have h := AnyQ.insertionSortCmpFunc insL 2 Try.isAgg27 Try.sizeOf27 enc (fun _ => rfl) enc_one cfK 32 #[] blk off cap a b d w enters32 (cmpLays blk off d.size w) (S.holds R.hblk R.hH hs) (S.lt R.hblk) hab hb (by omega)
  refine h.mono ?_
  rintro e w' ⟨rfl, n, os, rfl⟩
  have hm := merged_insertion hS a b d hab hb
  exact ⟨rfl, _, hm, S.on R.hblk n _ os hm.chg.size⟩

theorem sym_at (blk off cap : Nat) (d0 : Array Pr) (w0 : World) (R : RowK enc 2 w0 blk off d0) (hS : SWO lt') (hsz : d0.size < 4611686018427387904) (a m b : Nat) (za zm zb : Int) (ha : za = a) (hm : zm = m) (hzb : zb = b) (sz : Nat) (hz : sz = d0.size) (d : Array Pr) (w : World) (hs : d.size = d0.size) (S : SWK enc 2 w0 blk off d w)
    (ham : a < m) (hmb : m < b) (hb : b ≤ d.size) (hl : SortedIn lt' a m d) (hr : SortedIn lt' m b d) :
    Calls Try.prog 41 #[.slice (some ⟨blk, off, none⟩) sz cap, .int .i64 za, .int .i64 zm, .int .i64 zb, .func (.func 32) #[] #[]] w fun e w' =>
      e = .returned (.tuple #[]) ∧ ∃ d', Merged lt' a b d d' ∧ SWK enc 2 w0 blk off d' w' := by
  subst hz
  exact sym_all blk off cap d0 w0 R hS hsz (b - a) a m b za zm zb ha hm hzb d w (Nat.le_refl _) hs S ham hmb hb hl hr

set_option maxHeartbeats 1000000 in
set_option maxRecDepth 100000 in
/-- Fewer than 20 elements: one block. -/
theorem stable_few (blk off cap : Nat) (d : Array Pr) (w : World) (R : RowK enc 2 w blk off d) (hS : SWO lt') (hn : d.size < 20) :
    Calls Try.prog 37 #[.slice (some ⟨blk, off, none⟩) d.size cap, .int .i64 d.size, .func (.func 32) #[] #[]] w fun e w' =>
      e = .returned (.tuple #[]) ∧ ∃ d', Merged lt' 0 d.size d d' ∧ SWK enc 2 w blk off d' w' := by
  have S0 := SWK.start R.hH
  have c := insertion_any blk off cap 0 d.size 0 d.size rfl rfl d.size d d rfl w w R rfl S0 hS (Nat.zero_le _) (Nat.le_refl _) (by omega)
  have h1 : ¬ ((20 : Int) ≤ (d.size : Int)) := by omega
  have h2 : ¬ ((20 : Int) < (d.size : Int)) := by omega
  go_enter Try.func37, Try.ntmps37
  go_wp2
  go_loopg [7, 8] 1 (fun _ s7 s8 wr => s7 = .int .i64 0 ∧ s8 = .int .i64 20 ∧ wr = w)
  case atStart => exact ⟨rfl, rfl, rfl⟩
  case round =>
    obtain ⟨rfl, rfl, rfl⟩ := hrel
    go_wp2_with (go_at_call 40; refine c.mono ?_; rintro e w' ⟨rfl, d', hm, S1⟩)
    go_loopg [6, 7, 8, 9] 1 (fun _ s6 s7 s8 s9 wr => s6 = .int .i64 20 ∧ wr = w')
    case atStart => exact ⟨rfl, rfl⟩
    case round =>
      obtain ⟨rfl, rfl⟩ := hrel
      go_wp2
      go_end0
      exact ⟨rfl, d', hm, S1⟩

theorem Merged.keep {lt : Pr → Pr → Bool} {a b m : Nat} {d d1 d2 : Array Pr} (h : Merged lt a m d d1) (k : Merged lt m b d1 d2) (ham : a ≤ m) (hmb : m ≤ b) : Chg lt a b d d2 ∧ SortedIn lt a m d2 :=
  ⟨(h.chg.mono (Nat.le_refl _) hmb).trans (k.chg.mono ham (Nat.le_refl _)), fun p q hp hpq hq => by rw [k.chg.out p (by omega), k.chg.out q (by omega)]; exact h.sorted p q hp hpq hq⟩

set_option maxHeartbeats 1000000 in
set_option maxRecDepth 100000 in
/-- 20 to 39 elements: two blocks and one merge. -/
theorem stable_more (blk off cap : Nat) (d : Array Pr) (w : World) (R : RowK enc 2 w blk off d) (hS : SWO lt') (hn0 : 20 ≤ d.size) (hn : d.size < 40) :
    Calls Try.prog 37 #[.slice (some ⟨blk, off, none⟩) d.size cap, .int .i64 d.size, .func (.func 32) #[] #[]] w fun e w' =>
      e = .returned (.tuple #[]) ∧ ∃ d', Merged lt' 0 d.size d d' ∧ SWK enc 2 w blk off d' w' := by
  have S0 := SWK.start R.hH
  have c := insertion_any blk off cap 0 20 0 20 rfl rfl d.size d d rfl w w R rfl S0 hS (Nat.zero_le _) hn0 (by omega)
  have h1 : (20 : Int) ≤ (d.size : Int) := by omega
  have h2 : ¬ ((40 : Int) ≤ (d.size : Int)) := by omega
  have h3 : ¬ ((40 : Int) < (d.size : Int)) := by omega
  have HN : Aside (d.size < 4611686018427387904) := by show _ < _; omega
  go_enter Try.func37, Try.ntmps37
  go_wp2
  go_loopg [7, 8] 1 (fun g s7 s8 wr => (s7 = .int .i64 0 ∧ s8 = .int .i64 20 ∧ wr = w ∧ g = 1) ∨ (∃ d1, s7 = .int .i64 20 ∧ s8 = .int .i64 40 ∧ Aside (Merged lt' 0 20 d d1) ∧ Aside (SWK enc 2 w blk off d1 wr) ∧ g = 0))
  case atStart => exact .inl ⟨rfl, rfl, rfl, rfl⟩
  case round =>
    rcases hrel with ⟨rfl, rfl, rfl, rfl⟩ | ⟨d1, rfl, rfl, M1, S1, rfl⟩
    · go_wp2_with (go_at_call 40; refine c.mono ?_; rintro e w' ⟨rfl, d', hm', S1'⟩; have hm : Aside _ := hm'; have S1 : Aside _ := S1'; clear hm' S1')
      go_roundg 0
      case measure => omega
      case rel => exact .inr ⟨d', rfl, rfl, hm, S1, rfl⟩
    · have M1 : Aside (Merged lt' 0 20 d d1) := M1
      have z1 : d1.size = d.size := M1.out.chg.size
      have Z1 := Lib.hid z1
      clear z1
      have c2 := insertion_any blk off cap 20 d.size 20 d.size rfl rfl d.size d d1 Z1.out.symm w wr R Z1.out S1.out hS hn0 (by rw [Z1.out]; omega) HN.out
      clear c
      go_wp2_with (go_at_call 40; refine c2.mono ?_; rintro e w' ⟨rfl, d2, hm', S2'⟩; have M2 : Aside (Merged lt' 20 d.size d1 d2) := hm'; have S2 : Aside _ := S2'; clear hm' S2')
      clear c2 S1 S0
      have z2 : d2.size = d.size := M2.out.chg.size.trans Z1.out
      have Z2 := Lib.hid z2
      clear z2
      by_cases hb : 20 < d.size
      · have hbz : (20 : Int) < (d.size : Int) := by omega
        have K := Lib.hid (M1.out.keep M2.out (Nat.zero_le _) hn0)
        have c3 := sym_at blk off cap d w R hS HN.out 0 20 d.size 0 20 d.size rfl rfl rfl d.size rfl d2 w' Z2.out S2.out (by omega) hb (by rw [Z2.out]; omega) K.out.2 M2.out.sorted
        go_loopg [6, 7, 8, 9] 1 (fun g s6 s7 s8 s9 wr => (s6 = .int .i64 20 ∧ wr = w' ∧ g = 1) ∨ (∃ d3, s6 = .int .i64 40 ∧ Aside (Merged lt' 0 d.size d2 d3) ∧ Aside (SWK enc 2 w blk off d3 wr) ∧ g = 0))
        case atStart => exact .inl ⟨rfl, rfl, rfl⟩
        case round =>
          rcases hrel with ⟨rfl, rfl, rfl⟩ | ⟨d3, rfl, M3, S3, rfl⟩
          · go_wp2
            go_loopg [7, 8] 1 (fun _ s7 s8 wr4 => s7 = .int .i64 0 ∧ s8 = .int .i64 40 ∧ wr4 = wr)
            case atStart => exact ⟨rfl, rfl, rfl⟩
            case round =>
              obtain ⟨rfl, rfl, rfl⟩ := hrel
              go_wp2_with (go_at_call 41; refine c3.mono ?_; rintro e w3 ⟨rfl, d3, hm', S3'⟩; have M3 : Aside (Merged lt' 0 d.size d2 d3) := hm'; have S3 : Aside _ := S3'; clear hm' S3')
              go_roundg 0
              case measure => omega
              case rel => exact .inr ⟨d3, rfl, M3, S3, rfl⟩
          · clear c3
            go_wp2
            go_end0
            exact ⟨rfl, d3, ⟨K.out.1.trans M3.out.chg, M3.out.sorted⟩, S3.out⟩
      · have hbz : ¬ (20 : Int) < (d.size : Int) := by omega
        have K := Lib.hid (M1.out.keep M2.out (Nat.zero_le _) hn0)
        go_loopg [6, 7, 8, 9] 1 (fun _ s6 s7 s8 s9 wr => s6 = .int .i64 20 ∧ wr = w')
        case atStart => exact ⟨rfl, rfl⟩
        case round =>
          obtain ⟨rfl, rfl⟩ := hrel
          go_wp2
          go_end0
          exact ⟨rfl, d2, ⟨K.out.1, by have := K.out.2; rwa [show d.size = 20 by omega]⟩, S2.out⟩

theorem swo_lt : SWO lt' := by
  have e : ∀ x y : Pr, lt' x y = ltStr x.1.data.toList y.1.data.toList := fun x y => by
    show decide (Lib.compareBytes _ _ < 0) = _
    have h : ∀ a b : List UInt8, decide (Lib.compareBytes a b < 0) = ltStr a b := by
      intro a
      induction a with
      | nil => intro b; cases b <;> simp [Lib.compareBytes, ltStr]
      | cons u a ih =>
        intro b
        cases b with
        | nil => simp [Lib.compareBytes, ltStr]
        | cons v b =>
          rw [Lib.compareBytes]
          by_cases h1 : u < v
          · simp [h1, ltStr, List.cons_lt_cons_iff]
          · by_cases h2 : v < u
            · have h3 : ¬ u = v := by rintro rfl; exact h1 h2
              simp [h1, h2, h3, ltStr, List.cons_lt_cons_iff]
            · have h3 : u = v := by
                rw [UInt8.lt_iff_toNat_lt] at h1 h2
                exact UInt8.toNat_inj.1 (by omega)
              subst h3
              rw [if_neg h1, if_neg h1, ih b]
              simp [ltStr]
    exact h _ _
  refine ⟨fun x => ?_, fun x y z h1 h2 => ?_, fun x y z h1 h2 => ?_⟩
  · rw [e]; exact swo_ltStr.irrefl _
  · rw [e] at *; exact swo_ltStr.trans _ _ _ h1 h2
  · rw [e] at *; exact swo_ltStr.ntrans _ _ _ h1 h2

theorem stable_any (blk off cap : Nat) (d : Array Pr) (w : World) (R : RowK enc 2 w blk off d) (hn : d.size < 40) :
    Calls Try.prog 37 #[.slice (some ⟨blk, off, none⟩) d.size cap, .int .i64 d.size, .func (.func 32) #[] #[]] w fun e w' =>
      e = .returned (.tuple #[]) ∧ ∃ d', Merged lt' 0 d.size d d' ∧ SWK enc 2 w blk off d' w' := by
  by_cases h : d.size < 20
  · exact stable_few blk off cap d w R swo_lt h
  · exact stable_more blk off cap d w R swo_lt (by omega) hn

set_option maxHeartbeats 1000000 in
theorem sortStable_any (blk off cap : Nat) (d : Array Pr) (w : World) (R : RowK enc 2 w blk off d) (hn : d.size < 40) :
    Calls Try.prog 31 #[.slice (some ⟨blk, off, none⟩) d.size cap, .func (.func 32) #[] #[]] w fun e w' =>
      e = .returned (.tuple #[]) ∧ ∃ d', Merged lt' 0 d.size d d' ∧ SWK enc 2 w blk off d' w' := by
  have c := stable_any blk off cap d w R hn
  have c := Lib.hid c
  clear R
  go_enter Try.func31, Try.ntmps31
  go_wp2_with (go_at_call 37; refine c.out.mono ?_; rintro e w' ⟨rfl, d', h1, h2⟩)
  go_end0
  exact ⟨rfl, d', h1, h2⟩

end Go.Proofs.Ytpjfeaccicmgoaa
