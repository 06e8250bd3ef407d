/- All devices of a script: what holds of them between two steps. -/
import Derived.Test.YtifapongohmemaaGreatDoorWalkE
namespace Go.Proofs.YtifapongohmemaaGreatDoor
open Go.RowKit

/-- A device of the script, the program's and the document's side by side. -/
structure Dv where
  bd : Nat
  bx : Nat
  bY : Nat
  rb : Option Nat
  q : Int
  B : ByteArray
  s : Nat
  f : Int
  d : Bool

structure Dv.ok (N : Nat) (w : World) (x : Dv) : Prop where
  nd : N ≤ x.bd
  nx : N ≤ x.bx
  ny : N ≤ x.bY
  nr : ∀ g, x.rb = some g → N ≤ g
  hd : w.heap[x.bd]? = some (.cells #[P64 x.bx, P64 x.bY, .pointer none] 141 (0, 0))
  hx : XD w x.bx x.q x.B x.s x.f x.d x.rb
  hy : YD w x.bY x.q x.B x.s (max x.f (-1)) x.d
  q0 : 0 ≤ x.q
  q1 : x.q ≤ 1048576
  hB : (x.B.size : Int) ≤ x.q
  hs : x.s ≤ x.B.size
  f0 : -9223372036854775808 ≤ x.f
  f1 : x.f ≤ 9223372036854775807

def Apart (x y : Dv) : Prop := x.bx ≠ y.bx ∧ x.bY ≠ y.bY ∧ ∀ g, x.rb = some g → y.rb ≠ some g
theorem Apart.symm {x y : Dv} (h : Apart x y) : Apart y x := ⟨fun e => h.1 e.symm, fun e => h.2.1 e.symm, fun g hg hx => h.2.2 g hx hg⟩

structure Inv (N pw : Nat) (w : World) (ds : List Dv) : Prop where
  np : N ≤ pw
  world : ∃ v, w.heap[pw]? = some (.cells #[v, .slice none 0 0, .slice none 0 0] 92 (0, 0)) ∧ w.ownsRow N 94 1 v ds.length (ds.map fun x => P64 x.bd)
  each : ∀ x, x ∈ ds → x.ok N w
  apart : ds.Pairwise Apart

/-- One device has turned, the others have not. -/
structure Turn (N : Nat) (w w' : World) (x x' : Dv) : Prop where
  ed : x'.bd = x.bd
  ex : x'.bx = x.bx
  ey : x'.bY = x.bY
  er : x'.rb = x.rb ∨ ∃ g, x'.rb = some g ∧ w.heap.size ≤ g
  ok : x'.ok N w'
  fr : Fr (x.bx :: x.bY :: x.rb.toList) w w'

theorem XD.rowAt {w : World} {b : Nat} {q : Int} {B : ByteArray} {s : Nat} {f : Int} {d : Bool} {rb : Option Nat} (h : XD w b q B s f d rb) : ∀ g, rb = some g → ∃ c fz, w.heap[g]? = some (.cells c 5 fz) := by
  rintro g rfl
  obtain ⟨v, n7, h1, h2⟩ := h
  rcases h2 with ⟨_, h3, _⟩ | ⟨g', cap, cur, fz, _, h3, h4, _⟩
  · cases h3
  · cases h3
    exact ⟨cur, fz, h4⟩

theorem Dv.ok.foot {N : Nat} {w : World} {x : Dv} (h : x.ok N w) {k : Nat} (hk : k ∈ x.bx :: x.bY :: x.rb.toList) : ∃ c t fz, w.heap[k]? = some (.cells c t fz) ∧ (t = 101 ∨ t = 173 ∨ t = 5) := by
  simp only [List.mem_cons, Option.mem_toList] at hk
  rcases hk with rfl | rfl | hk
  · obtain ⟨v, n7, h1, _⟩ := h.hx
    exact ⟨_, _, _, h1, .inl rfl⟩
  · exact ⟨_, _, _, h.hy, .inr (.inl rfl)⟩
  · obtain ⟨c, fz, h1⟩ := h.hx.rowAt k hk
    exact ⟨_, _, _, h1, .inr (.inr rfl)⟩

/-- A block of another type is not in a device's foot. -/
theorem Dv.ok.notFoot {N : Nat} {w : World} {x : Dv} (h : x.ok N w) {k : Nat} {c : Array Value} {t : TypeId} {fz : Nat × Nat} (hk : w.heap[k]? = some (.cells c t fz)) (h1 : t ≠ 101) (h2 : t ≠ 173) (h3 : t ≠ 5) : k ∉ x.bx :: x.bY :: x.rb.toList := by
  intro hm
  obtain ⟨c', t', fz', h4, h5⟩ := h.foot hm
  rw [hk] at h4
  simp at h4
  obtain ⟨_, rfl, _⟩ := h4
  rcases h5 with rfl | rfl | rfl
  · exact h1 rfl
  · exact h2 rfl
  · exact h3 rfl

theorem Dv.ok.geN {N : Nat} {w : World} {x : Dv} (h : x.ok N w) : ∀ k, k ∈ x.bx :: x.bY :: x.rb.toList → N ≤ k := by
  intro k hk
  simp only [List.mem_cons, Option.mem_toList] at hk
  rcases hk with rfl | rfl | hk
  · exact h.nx
  · exact h.ny
  · exact h.nr k hk

/-- Another device's foot. -/
theorem Dv.ok.kept {N : Nat} {w w' : World} {x y : Dv} (hx : x.ok N w) (hy : y.ok N w) (ha : Apart x y) (hf : Fr (x.bx :: x.bY :: x.rb.toList) w w') : y.ok N w' := by
  have hxb : y.bx ∉ x.bx :: x.bY :: x.rb.toList := by
    obtain ⟨v, n7, h1, _⟩ := hy.hx
    simp only [List.mem_cons, Option.mem_toList, not_or]
    refine ⟨fun e => ha.1 e.symm, fun e => ?_, fun e => ?_⟩
    · exact ne_of_type h1 hx.hy (by decide) e
    · obtain ⟨c, fz, h2⟩ := hx.hx.rowAt _ e
      exact ne_of_type h1 h2 (by decide) rfl
  have hyb : y.bY ∉ x.bx :: x.bY :: x.rb.toList := by
    simp only [List.mem_cons, Option.mem_toList, not_or]
    refine ⟨fun e => ?_, fun e => ha.2.1 e.symm, fun e => ?_⟩
    · obtain ⟨v, n7, h1, _⟩ := hx.hx
      exact ne_of_type hy.hy h1 (by decide) e
    · obtain ⟨c, fz, h2⟩ := hx.hx.rowAt _ e
      exact ne_of_type hy.hy h2 (by decide) rfl
  have hrb : ∀ g, y.rb = some g → g ∉ x.bx :: x.bY :: x.rb.toList := by
    intro g hg
    obtain ⟨c, fz, h2⟩ := hy.hx.rowAt g hg
    simp only [List.mem_cons, Option.mem_toList, not_or]
    refine ⟨fun e => ?_, fun e => ?_, fun e => ha.2.2 g e hg⟩
    · obtain ⟨v, n7, h1, _⟩ := hx.hx
      exact ne_of_type h2 h1 (by decide) e
    · exact ne_of_type h2 hx.hy (by decide) e
  exact { hy with hd := hf.at hy.hd (hx.notFoot hy.hd (by decide) (by decide) (by decide)), hx := hy.hx.fr hf hxb hrb, hy := hy.hy.fr hf hyb }

/-- Whoever is below is below. -/
theorem Dv.ok.lt {N : Nat} {w : World} {x : Dv} (h : x.ok N w) : ∀ k, k ∈ x.bx :: x.bY :: x.rb.toList → k < w.heap.size := by
  intro k hk
  obtain ⟨_, _, _, h1, _⟩ := h.foot hk
  exact lt_of_at h1

theorem Fr.ownsRow {w w' : World} {S : List Nat} {base : Nat} {e : TypeId} {v : Value} {n : Nat} {xs : List Value} (hf : Fr S w w') (h : w.ownsRow base e 1 v n xs) (hn : ∀ g, v.ownBlock = some g → g ∉ S) : w'.ownsRow base e 1 v n xs := by
  refine ⟨h.1, ?_⟩
  rcases h.2 with h2 | ⟨g, cap, cur, rfl, hb, hg, r⟩
  · exact .inl h2
  · exact .inr ⟨g, cap, cur, rfl, hb, hf.at hg (hn g rfl), r⟩

theorem ownsRow_at {w : World} {base : Nat} {e : TypeId} {v : Value} {n : Nat} {xs : List Value} (h : w.ownsRow base e 1 v n xs) {g : Nat} (hg : v.ownBlock = some g) : ∃ c, w.heap[g]? = some (.cells c e (0, 0)) := by
  rcases h.2 with ⟨rfl, _⟩ | ⟨g', cap, cur, rfl, _, hh, _⟩
  · cases hg
  · cases hg
    exact ⟨_, hh⟩

theorem pairwise_set {α : Type} {R : α → α → Prop} (hsym : ∀ {a b}, R a b → R b a) : ∀ (l : List α) (i : Nat) (x' : α), l.Pairwise R → (∀ j (hj : j < l.length), j ≠ i → R l[j] x') → (l.set i x').Pairwise R
  | [], _, _, _, _ => by simp
  | a :: l, 0, x', h, hx => by
    simp only [List.set_cons_zero, List.pairwise_cons] at h ⊢
    refine ⟨fun b hb => ?_, h.2⟩
    obtain ⟨j, hj, rfl⟩ := List.mem_iff_getElem.1 hb
    exact hsym (hx (j + 1) (by simpa using hj) (by omega))
  | a :: l, i + 1, x', h, hx => by
    simp only [List.set_cons_succ, List.pairwise_cons] at h ⊢
    refine ⟨fun b hb => ?_, pairwise_set hsym l i x' h.2 (fun j hj hne => ?_)⟩
    · rcases List.mem_or_eq_of_mem_set hb with hb | rfl
      · exact h.1 b hb
      · exact hx 0 (by simp) (by omega)
    · have := hx (j + 1) (by simpa using hj) (by omega)
      simpa using this

theorem pairwise_ne {α : Type} {R : α → α → Prop} (hsym : ∀ {a b}, R a b → R b a) {l : List α} (h : l.Pairwise R) {i j : Nat} (hi : i < l.length) (hj : j < l.length) (hne : i ≠ j) : R l[i] l[j] := by
  rw [List.pairwise_iff_getElem] at h
  rcases Nat.lt_or_ge i j with hlt | hge
  · exact h i j hi hj hlt
  · exact hsym (h j i hj hi (by omega))

theorem Inv.turn {N pw : Nat} {w w' : World} {ds : List Dv} (h : Inv N pw w ds) (i : Nat) (hi : i < ds.length) (x' : Dv) (ht : Turn N w w' ds[i] x') : Inv N pw w' (ds.set i x') := by
  have hok := h.each _ (List.getElem_mem hi)
  obtain ⟨v, hp, hrow⟩ := h.world
  refine ⟨h.np, ⟨v, ht.fr.at hp (hok.notFoot hp (by decide) (by decide) (by decide)), ?_⟩, ?_, ?_⟩
  · have hm : (ds.set i x').map (fun x => P64 x.bd) = ds.map fun x => P64 x.bd := by
      rw [List.map_set, ht.ed]
      have : P64 ds[i].bd = (ds.map fun x => P64 x.bd)[i]'(by simpa using hi) := by simp
      rw [this, List.set_getElem_self]
    rw [hm, List.length_set]
    refine ht.fr.ownsRow hrow (fun g hg => ?_)
    obtain ⟨c, hc⟩ := ownsRow_at hrow hg
    exact hok.notFoot hc (by decide) (by decide) (by decide)
  · intro y hy
    obtain ⟨j, hj, rfl⟩ := List.mem_iff_getElem.1 hy
    rw [List.length_set] at hj
    by_cases hij : i = j
    · subst hij
      simpa using ht.ok
    · rw [List.getElem_set_ne hij]
      exact hok.kept (h.each _ (List.getElem_mem hj)) (pairwise_ne Apart.symm h.apart hi hj hij) ht.fr
  · refine pairwise_set Apart.symm _ _ _ h.apart (fun j hj hne => ?_)
    have ha := pairwise_ne Apart.symm h.apart hj hi hne
    refine ⟨by rw [ht.ex]; exact ha.1, by rw [ht.ey]; exact ha.2.1, fun g hg hx => ?_⟩
    rcases ht.er with e | ⟨g', e, hle⟩
    · rw [e] at hx
      exact ha.2.2 g hg hx
    · rw [e] at hx
      cases hx
      have := (h.each _ (List.getElem_mem hj)).lt g (by simp [hg])
      omega

theorem Turn.below {N : Nat} {w w' : World} {x x' : Dv} (hx : x.ok N w) (ht : Turn N w w' x x') (hN : N ≤ w.heap.size) : Below N w w' := ht.fr.below hN hx.geN

theorem bE_max (f : Int) (d : Bool) : bE (max f (-1)) d = bE f d := by
  have : (max f (-1) == 0) = (f == 0) := by rw [Bool.eq_iff_iff]; simp; omega
  simp [bE, this]
theorem bD_max (f : Int) (d : Bool) : bD (max f (-1)) d = bD f d := by
  have : (max f (-1) == 0) = (f == 0) := by rw [Bool.eq_iff_iff]; simp; omega
  simp [bD, this]
theorem bS_max (f : Int) (d : Bool) (s n : Nat) : bS (max f (-1)) d s n = bS f d s n := by
  have : (max f (-1) == 0) = (f == 0) := by rw [Bool.eq_iff_iff]; simp; omega
  simp [bS, this]
theorem bF_max (f : Int) (d : Bool) : bF (max f (-1)) d = max (bF f d) (-1) := by
  cases d
  · simp only [bF, Bool.false_eq_true, if_false]
    split <;> split <;> omega
  · simp [bF]
theorem aE_max (o : Bool) (f : Int) (d : Bool) : aE o (max f (-1)) d = aE o f d := by simp [aE, bE_max]
theorem aF_max (o : Bool) (f : Int) (d : Bool) : aF o (max f (-1)) d = max (aF o f d) (-1) := by
  cases o
  · simp [aF, bF_max]
  · simp [aF]
theorem aD_max (o : Bool) (f : Int) (d : Bool) : aD o (max f (-1)) d = aD o f d := by simp [aD, bD_max]
theorem aB_max (o : Bool) (f : Int) (d : Bool) (B C : ByteArray) : aB o (max f (-1)) d B C = aB o f d B C := by
  have : (max f (-1) == 0) = (f == 0) := by rw [Bool.eq_iff_iff]; simp; omega
  simp [aB, this]
theorem aS_max (o : Bool) (f : Int) (d : Bool) (s n : Nat) : aS o (max f (-1)) d s n = aS o f d s n := by
  have : (max f (-1) == 0) = (f == 0) := by rw [Bool.eq_iff_iff]; simp; omega
  simp [aS, this]
theorem bF_range (f : Int) (d : Bool) (h0 : -9223372036854775808 ≤ f) (h1 : f ≤ 9223372036854775807) : -9223372036854775808 ≤ bF f d ∧ bF f d ≤ 9223372036854775807 := by
  unfold bF
  split
  · exact ⟨h0, h1⟩
  · split <;> omega
theorem aF_range (o : Bool) (f : Int) (d : Bool) (h0 : -9223372036854775808 ≤ f) (h1 : f ≤ 9223372036854775807) : -9223372036854775808 ≤ aF o f d ∧ aF o f d ≤ 9223372036854775807 := by
  unfold aF
  split
  · exact ⟨h0, h1⟩
  · exact bF_range f d h0 h1

/-- The document's device, behind the program's call. -/
theorem Dv.ok.yd {N : Nat} {w w0 w1 : World} {x : Dv} (h : x.ok N w) (h0 : Fr [] w w0) (h1 : Fr (x.bx :: x.rb.toList) w0 w1) : YD w1 x.bY x.q x.B x.s (max x.f (-1)) x.d := by
  refine ((h.hy.fr h0 (by simp)).fr h1 ?_)
  simp only [List.mem_cons, Option.mem_toList, not_or]
  refine ⟨fun e => ?_, fun e => ?_⟩
  · obtain ⟨v, n7, h1, _⟩ := h.hx
    exact ne_of_type h.hy h1 (by decide) e
  · obtain ⟨c, fz, h2⟩ := h.hx.rowAt _ e
    exact ne_of_type h.hy h2 (by decide) rfl

theorem Dv.ok.xd {N : Nat} {w w0 : World} {x : Dv} (h : x.ok N w) (h0 : Fr [] w w0) : XD w0 x.bx x.q x.B x.s x.f x.d x.rb := h.hx.fr h0 (by simp) (by simp)

/-- Both devices have made one call. -/
theorem mkTurn {N : Nat} {w w0 w1 w1' w2 w3 : World} {x : Dv} {B : ByteArray} {s : Nat} {f : Int} {d : Bool} (h : x.ok N w) (hN : N ≤ w.heap.size) (h0 : Fr [] w w0) (hx : XPost w0 w1 x.bx x.q B s f d x.rb) (h1 : Fr [] w1 w1')
    (hy : Fr [x.bY] w1' w2) (hY : YD w2 x.bY x.q B s (max f (-1)) d) (h2 : Fr [] w2 w3) (hB : (B.size : Int) ≤ x.q) (hs : s ≤ B.size) (f0 : -9223372036854775808 ≤ f) (f1 : f ≤ 9223372036854775807) : ∃ x', Turn N w w3 x x' := by
  obtain ⟨hf, rb', hX, hrb⟩ := hx
  have hd0 := h0.at h.hd (by simp)
  have hd1 := hf.at hd0 (by
    have := h.notFoot h.hd (by decide) (by decide) (by decide)
    simp only [List.mem_cons, not_or] at this ⊢
    exact ⟨this.1, this.2.2⟩)
  have hd2 := hy.at (h1.at hd1 (by simp)) (by
    have := h.notFoot h.hd (by decide) (by decide) (by decide)
    simp only [List.mem_cons, not_or] at this
    rw [List.mem_singleton]
    exact this.2.1)
  have hd3 := h2.at hd2 (by simp)
  have hY0 : YD w1' x.bY x.q x.B x.s (max x.f (-1)) x.d := (h.yd h0 hf).fr h1 (by simp)
  have hX1 : XD w1' x.bx x.q B s f d rb' := hX.fr h1 (by simp) (by simp)
  have hX2 : XD w2 x.bx x.q B s f d rb' := by
    refine hX1.fr hy ?_ ?_
    · obtain ⟨v, n7, h3, _⟩ := hX1
      rw [List.mem_singleton]
      exact ne_of_type h3 hY0 (by decide)
    · intro g hg
      obtain ⟨c, fz, h3⟩ := hX1.rowAt g hg
      rw [List.mem_singleton]
      exact ne_of_type h3 hY0 (by decide)
  refine ⟨{ x with rb := rb', B := B, s := s, f := f, d := d }, rfl, rfl, rfl, ?_, ?_, ?_⟩
  · rcases hrb with e | ⟨g, e, hle⟩
    · exact .inl e
    · exact .inr ⟨g, e, Nat.le_trans h0.size hle⟩
  · refine { nd := h.nd, nx := h.nx, ny := h.ny, nr := ?_, hd := hd3, hx := hX2.fr h2 (by simp) (by simp), hy := hY.fr h2 (by simp), q0 := h.q0, q1 := h.q1, hB := hB, hs := hs, f0 := f0, f1 := f1 }
    intro g hg
    rcases hrb with e | ⟨g', e, hle⟩
    · exact h.nr g (by rw [← e]; exact hg)
    · have : g = g' := by
        have h5 : rb' = some g := hg
        rw [e] at h5
        exact (Option.some.inj h5).symm
      have := h0.size
      omega
  · exact ((((h0.mono (by simp)).trans (hf.mono (by simp +contextual))).trans (h1.mono (by simp))).trans (hy.mono (by simp))).trans (h2.mono (by simp))

theorem Turn.refl {N : Nat} {w w' : World} {x : Dv} (h : x.ok N w) (hf : Fr [] w w') : Turn N w w' x x :=
  ⟨rfl, rfl, rfl, .inl rfl, { h with hd := hf.at h.hd (by simp), hx := h.hx.fr hf (by simp) (by simp), hy := h.hy.fr hf (by simp) }, hf.mono (by simp)⟩

end Go.Proofs.YtifapongohmemaaGreatDoor
