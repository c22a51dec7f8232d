/-
  The walk of the tape's node: a C-node's two loops.
-/
import Derived.Test.YtcmnmimkjkpimaaLWalksT
set_option linter.unusedVariables false
set_option maxRecDepth 100000
namespace Go.Proofs.Ytcmnmimkjkpimaa
open Go.Shelf Go.RowKit Go.Lib Go.Sort

def cZ : Array Value := #[.int .i64 0, .int .i64 0, .int .i64 0, .int .u64 0, .slice none 0 0, .int .u64 0, .string ⟨#[]⟩, .int .u64 0, .slice none 0 0, .int .i64 0, .int .i64 0, .int .i64 0, .int .i64 0, .int .i64 0]
def cC (bm : Int) (A : Option Addr) (l c : Nat) : Array Value := #[.int .i64 3, .int .i64 0, .int .i64 0, .int .u64 bm, .slice A l c, .int .u64 0, .string ⟨#[]⟩, .int .u64 0, .slice none 0 0, .int .i64 0, .int .i64 0, .int .i64 0, .int .i64 0, .int .i64 0]
structure CI (T s b : Nat) (w : World) (bm : Int) (A : Option Addr) (c : Nat) (ys : List Int) (wr : World) : Prop where
  tape : Tape T wr
  grown : w.grownBy wr (some T)
  sblk : wr.heap[s]? = some (.cells cZ 44 (0, 0))
  bblk : wr.heap[b]? = some (.cells (cC bm A ys.length c) 44 (0, 0))
  own : OwnR wr (b + 1) (.slice A ys.length c) ys
  u : U64 bm
  tb : T < s ∧ s < b ∧ w.heap.size ≤ s
section
variable {T s b : Nat} {w : World} {bm : Int} {A : Option Addr} {c : Nat} {ys : List Int} {wr : World}
theorem CI.drewN (h : CI T s b w bm A c ys wr) (n : Nat) : CI T s b w bm A c ys (wr.drewN n) :=
  ⟨h.tape.kept (fun _ _ => rfl) (Nat.le_refl _), ⟨h.grown.os, h.grown.tape, h.grown.output, h.grown.size, h.grown.block⟩, h.sblk, h.bblk, h.own.drewN n, h.u, h.tb⟩
theorem CI.lt (h : CI T s b w bm A c ys wr) : b < wr.heap.size := (Array.getElem?_eq_some_iff.1 h.bblk).1
theorem CI.call (h : CI T s b w bm A c ys wr) {w5 : World} (hT : Tape T w5) (hg : wr.grownBy w5 (some T)) : CI T s b w bm A c ys w5 := by
  have tb := h.tb
  have hl := h.lt
  exact ⟨hT, grown_trans_ h.grown hg, (hg.block s (by omega) (fun e => by injection e; omega)).trans h.sblk, (hg.block b (by omega) (fun e => by injection e; omega)).trans h.bblk,
    h.own.keepFrom fun k hk hk2 => hg.block k hk2 (fun e => by injection e; omega), h.u, tb⟩
theorem CI.setBm (h : CI T s b w bm A c ys wr) {x : Int} (hx : U64 x) : CI T s b w x A c ys (wr.setCell ⟨b, 3, none⟩ (.int .u64 x)) := by
  have tb := h.tb
  refine ⟨h.tape.kept (fun k hk => Below.heap_setCell wr ⟨b, 3, none⟩ _ k (by simp; omega)) (by simp), ?_, (Below.heap_setCell wr ⟨b, 3, none⟩ _ s (by simp; omega)).trans h.sblk, set_field h.bblk 3 _, h.own.keepFrom fun k hk _ => Below.heap_setCell wr ⟨b, 3, none⟩ _ k (by simp; omega), hx, tb⟩
  exact ⟨h.grown.os, h.grown.tape, h.grown.output, by simpa using h.grown.size, fun k hk hne => (Below.heap_setCell wr ⟨b, 3, none⟩ _ k (by simp; omega)).trans (h.grown.block k hk hne)⟩
theorem CI.setBr (h : CI T s b w bm A c ys wr) {A' : Option Addr} {c' : Nat} {zs : List Int} {wa : World} (ho : OwnR wa (b + 1) (.slice A' zs.length c') zs) (hb : Below (b + 1) wr wa) : CI T s b w bm A' c' zs (wa.setCell ⟨b, 4, none⟩ (.slice A' zs.length c')) := by
  have tb := h.tb
  refine ⟨h.tape.kept (fun k hk => (Below.heap_setCell wa ⟨b, 4, none⟩ _ k (by simp; omega)).trans (hb.block k (by omega))) (by simpa using hb.size), ?_, ((Below.heap_setCell wa ⟨b, 4, none⟩ _ s (by simp; omega)).trans (hb.block s (by omega))).trans h.sblk,
    set_field ((hb.block b (by omega)).trans h.bblk) 4 _, ho.keepFrom fun k hk _ => Below.heap_setCell wa ⟨b, 4, none⟩ _ k (by simp; omega), h.u, tb⟩
  exact ⟨hb.os.trans h.grown.os, hb.tape.trans h.grown.tape, hb.output.trans h.grown.output, by simpa using Nat.le_trans h.grown.size hb.size, fun k hk hne => ((Below.heap_setCell wa ⟨b, 4, none⟩ _ k (by simp; omega)).trans (hb.block k (by omega))).trans (h.grown.block k hk hne)⟩
theorem CI.cell (h : CI T s b w bm A c ys wr) {i : Nat} {v : Value} (hv : (cC bm A ys.length c)[i]? = some v) : wr.cell? ⟨b, i, none⟩ = some v := node_cellA h.bblk hv
theorem CI.froz (h : CI T s b w bm A c ys wr) (i : Nat) : wr.frozen? ⟨b, i, none⟩ = false := node_frozen h.bblk i
end

end Go.Proofs.Ytcmnmimkjkpimaa
