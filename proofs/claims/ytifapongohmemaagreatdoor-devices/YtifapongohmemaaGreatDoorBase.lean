/- The devices' memory, said of blocks: frames, rows of bytes, the two devices, the list of all. Nothing of the program's text is in this file but types' numbers. -/
import Derived.WalkKit
import Derived.Deep.AppendSrc
import Derived.Lib.ConvBytes
import Derived.Deep.Draws
namespace Go.Proofs.YtifapongohmemaaGreatDoor
open Go.RowKit

/-- All blocks but those of S are as they were. -/
structure Fr (S : List Nat) (w w' : World) : Prop where
  os : w'.os = w.os
  tape : w'.tape = w.tape
  output : w'.output = w.output
  size : w.heap.size ≤ w'.heap.size
  block : ∀ k, k < w.heap.size → k ∉ S → w'.heap[k]? = w.heap[k]?

theorem Fr.refl (S : List Nat) (w : World) : Fr S w w := ⟨rfl, rfl, rfl, Nat.le_refl _, fun _ _ _ => rfl⟩
theorem Fr.trans {S : List Nat} {a b c : World} (h : Fr S a b) (k : Fr S b c) : Fr S a c :=
  ⟨k.os.trans h.os, k.tape.trans h.tape, k.output.trans h.output, Nat.le_trans h.size k.size, fun i hi hn => (k.block i (Nat.lt_of_lt_of_le hi h.size) hn).trans (h.block i hi hn)⟩
theorem Fr.mono {S S' : List Nat} {a b : World} (h : Fr S a b) (hs : ∀ k, k ∈ S → k ∈ S') : Fr S' a b :=
  ⟨h.os, h.tape, h.output, h.size, fun k hk hn => h.block k hk fun hm => hn (hs k hm)⟩
theorem Fr.drewN {S : List Nat} {a w : World} (h : Fr S a w) (n : Nat) : Fr S a (w.drewN n) := ⟨h.os, h.tape, h.output, h.size, h.block⟩
theorem Fr.drew {S : List Nat} {a w : World} (h : Fr S a w) : Fr S a w.drew := ⟨h.os, h.tape, h.output, h.size, h.block⟩
theorem Fr.ofDrewN {S : List Nat} {a w : World} {n : Nat} (h : Fr S (a.drewN n) w) : Fr S a w := ⟨h.os, h.tape, h.output, h.size, h.block⟩
theorem Fr.ofDrew {S : List Nat} {a w : World} (h : Fr S a.drew w) : Fr S a w := ⟨h.os, h.tape, h.output, h.size, h.block⟩
theorem Fr.setCell {S : List Nat} {a w : World} (h : Fr S a w) {p : Addr} (hp : p.block ∈ S ∨ a.heap.size ≤ p.block) (u : Value) : Fr S a (w.setCell p u) :=
  ⟨h.os, h.tape, h.output, by simp [World.setCell]; exact h.size, fun k hk hn => by
    rw [heap_setCell_other w p k u (by rintro rfl; rcases hp with hp | hp; exact hn hp; omega)]; exact h.block k hk hn⟩
theorem Fr.alloc {S : List Nat} {a w : World} (h : Fr S a w) (o : Obj) : Fr S a (w.alloc o) :=
  ⟨h.os, h.tape, h.output, by simp; have := h.size; omega, fun k hk hn => by rw [Below.heap_alloc w o k (Nat.lt_of_lt_of_le hk h.size)]; exact h.block k hk hn⟩
/-- What is new may be written. -/
theorem Fr.fresh {S S' : List Nat} {a b c : World} (h : Fr S a b) (k : Fr S' b c) (hs : ∀ i, i ∈ S' → i ∈ S ∨ a.heap.size ≤ i) : Fr S a c :=
  ⟨k.os.trans h.os, k.tape.trans h.tape, k.output.trans h.output, Nat.le_trans h.size k.size, fun i hi hn => (k.block i (Nat.lt_of_lt_of_le hi h.size) (fun hm => by rcases hs i hm with h1 | h1; exact hn h1; omega)).trans (h.block i hi hn)⟩
theorem Fr.below {S : List Nat} {N : Nat} {a b : World} (h : Fr S a b) (hN : N ≤ a.heap.size) (hs : ∀ k, k ∈ S → N ≤ k) : Below N a b :=
  ⟨h.os, h.tape, h.output, h.size, fun k hk => h.block k (by omega) fun hm => by have := hs k hm; omega⟩
theorem Fr.at {S : List Nat} {a b : World} (h : Fr S a b) {k : Nat} {o : Obj} (hk : a.heap[k]? = some o) (hn : k ∉ S) : b.heap[k]? = some o := by
  rw [h.block k (Array.getElem?_eq_some_iff.1 hk).1 hn]; exact hk

theorem lt_of_at {w : World} {k : Nat} {o : Obj} (hk : w.heap[k]? = some o) : k < w.heap.size := (Array.getElem?_eq_some_iff.1 hk).1

/-- Blocks of other types are other blocks. -/
theorem ne_of_type {w : World} {b b' : Nat} {c c' : Array Value} {t t' : TypeId} {f f' : Nat × Nat} (h : w.heap[b]? = some (.cells c t f)) (h' : w.heap[b']? = some (.cells c' t' f')) (ht : t ≠ t') : b ≠ b' := by
  rintro rfl
  rw [h] at h'
  simp at h'
  exact ht h'.2.1

/-- A slice of bytes and what it holds. -/
def Row (w : World) (v : Value) (rb : Option Nat) (B : ByteArray) : Prop :=
  (v = .slice none 0 0 ∧ rb = none ∧ B.size = 0) ∨
  ∃ g cap cur fz, v = .slice (some ⟨g, 0, none⟩) B.size cap ∧ rb = some g ∧ w.heap[g]? = some (.cells cur 5 fz) ∧ (∀ j, j < cur.size → (decide (fz.1 ≤ j) && decide (j < fz.2)) = false) ∧ B.size ≤ cap ∧ cap ≤ maxLen ∧ cur.size = cap ∧
    ∀ j (hj : j < B.size), cur[j]? = some (.int .u8 (B[j].toNat : Int))

/-- The program's device. -/
def XD (w : World) (b : Nat) (q : Int) (B : ByteArray) (s : Nat) (f : Int) (d : Bool) (rb : Option Nat) : Prop :=
  ∃ v n, w.heap[b]? = some (.cells #[.int .i64 q, v, .int .i64 s, .int .i64 f, .bool d, .int .i64 n, .pointer none] 101 (0, 0)) ∧ Row w v rb B

/-- The document's device. -/
def YD (w : World) (b : Nat) (q : Int) (B : ByteArray) (s : Nat) (l : Int) (d : Bool) : Prop :=
  w.heap[b]? = some (.cells #[.int .i64 q, .string B, .int .i64 s, .int .i64 l, .bool d] 173 (0, 0))

theorem YD.fr {w w' : World} {S : List Nat} {b : Nat} {q : Int} {B : ByteArray} {s : Nat} {l : Int} {d : Bool} (h : YD w b q B s l d) (k : Fr S w w') (hn : b ∉ S) : YD w' b q B s l d := k.at h hn

theorem Row.fr {w w' : World} {S : List Nat} {v : Value} {rb : Option Nat} {B : ByteArray} (h : Row w v rb B) (k : Fr S w w') (hn : ∀ g, rb = some g → g ∉ S) : Row w' v rb B := by
  rcases h with h | ⟨g, cap, cur, fz, h1, h2, h3, h4⟩
  · exact .inl h
  · exact .inr ⟨g, cap, cur, fz, h1, h2, k.at h3 (hn g h2), h4⟩

theorem XD.fr {w w' : World} {S : List Nat} {b : Nat} {q : Int} {B : ByteArray} {s : Nat} {f : Int} {d : Bool} {rb : Option Nat} (h : XD w b q B s f d rb) (k : Fr S w w') (hb : b ∉ S) (hn : ∀ g, rb = some g → g ∉ S) : XD w' b q B s f d rb := by
  obtain ⟨v, n, h1, h2⟩ := h
  exact ⟨v, n, k.at h1 hb, h2.fr k hn⟩

/-- The cells of a block of five. -/
theorem five {w : World} {b : Nat} {t : TypeId} {c0 c1 c2 c3 c4 : Value} (h : w.heap[b]? = some (.cells #[c0, c1, c2, c3, c4] t (0, 0))) :
    (w.cell? ⟨b, 0, none⟩ = some c0 ∧ w.cell? ⟨b, 1, none⟩ = some c1 ∧ w.cell? ⟨b, 2, none⟩ = some c2 ∧ w.cell? ⟨b, 3, none⟩ = some c3 ∧ w.cell? ⟨b, 4, none⟩ = some c4) ∧
    (w.frozen? ⟨b, 1, none⟩ = false ∧ w.frozen? ⟨b, 2, none⟩ = false ∧ w.frozen? ⟨b, 3, none⟩ = false ∧ w.frozen? ⟨b, 4, none⟩ = false) := by
  refine ⟨⟨?_, ?_, ?_, ?_, ?_⟩, ?_, ?_, ?_, ?_⟩ <;> first | (rw [cell_of_row w b _ _ t (0, 0) h]; rfl) | exact frozen_of_row w b _ _ t h
/-- The cells of a block of seven (the program's device). -/
theorem seven {w : World} {b : Nat} {t : TypeId} {c0 c1 c2 c3 c4 c5 c6 : Value} (h : w.heap[b]? = some (.cells #[c0, c1, c2, c3, c4, c5, c6] t (0, 0))) :
    (w.cell? ⟨b, 0, none⟩ = some c0 ∧ w.cell? ⟨b, 1, none⟩ = some c1 ∧ w.cell? ⟨b, 2, none⟩ = some c2 ∧ w.cell? ⟨b, 3, none⟩ = some c3 ∧ w.cell? ⟨b, 4, none⟩ = some c4) ∧
    (w.frozen? ⟨b, 1, none⟩ = false ∧ w.frozen? ⟨b, 2, none⟩ = false ∧ w.frozen? ⟨b, 3, none⟩ = false ∧ w.frozen? ⟨b, 4, none⟩ = false) := by
  refine ⟨⟨?_, ?_, ?_, ?_, ?_⟩, ?_, ?_, ?_, ?_⟩ <;> first | (rw [cell_of_row w b _ _ t (0, 0) h]; rfl) | exact frozen_of_row w b _ _ t h
theorem seven5 {w : World} {b : Nat} {t : TypeId} {c0 c1 c2 c3 c4 c5 c6 : Value} (h : w.heap[b]? = some (.cells #[c0, c1, c2, c3, c4, c5, c6] t (0, 0))) :
    w.cell? ⟨b, 5, none⟩ = some c5 ∧ w.frozen? ⟨b, 5, none⟩ = false ∧ w.cell? ⟨b, 6, none⟩ = some c6 ∧ w.frozen? ⟨b, 6, none⟩ = false := by
  refine ⟨?_, ?_, ?_, ?_⟩ <;> first | (rw [cell_of_row w b _ _ t (0, 0) h]; rfl) | exact frozen_of_row w b _ _ t h
theorem three {w : World} {b : Nat} {t : TypeId} {c0 c1 c2 : Value} (h : w.heap[b]? = some (.cells #[c0, c1, c2] t (0, 0))) :
    w.cell? ⟨b, 0, none⟩ = some c0 ∧ w.cell? ⟨b, 1, none⟩ = some c1 ∧ w.cell? ⟨b, 2, none⟩ = some c2 ∧ w.frozen? ⟨b, 0, none⟩ = false := by
  refine ⟨?_, ?_, ?_, ?_⟩ <;> first | (rw [cell_of_row w b _ _ t (0, 0) h]; rfl) | exact frozen_of_row w b _ _ t h

end Go.Proofs.YtifapongohmemaaGreatDoor
