/- Crash and NewDevice of both devices. -/
import Derived.Test.YtifapongohmemaaGreatDoorWalkD
namespace Go.Proofs.YtifapongohmemaaGreatDoor
open Go.RowKit

/-- How many bytes a crash leaves. -/
def cN (k : Int) (s n : Nat) : Nat := s + (min (max k 0) ((n : Int) - s)).toNat
theorem cN_le (k : Int) (s n : Nat) (h : s ≤ n) : cN k s n ≤ n := by unfold cN; omega
theorem cN_ge (k : Int) (s n : Nat) : s ≤ cN k s n := by unfold cN; omega

theorem crash_close {w : World} {b n cap m nq : Nat} {q f n7 : Int} {B : ByteArray} {s : Nat} {d : Bool} {rb : Option Nat} {a : Option Addr}
    (H : w.heap[b]? = some (.cells #[.int .i64 q, .slice a n cap, .int .i64 s, .int .i64 f, .bool d, .int .i64 n7, .pointer none] 101 (0, 0))) (R : Row w (.slice a n cap) rb B) (N : ∀ g, rb = some g → g ≠ b) (hm : m ≤ B.size) :
    Fr [b] w ((((((w.drewN nq).setCell ⟨b, 2, none⟩ (.int .i64 m)).setCell ⟨b, 1, none⟩ (.slice a m cap)).setCell ⟨b, 3, none⟩ (.int .i64 (-1))).setCell ⟨b, 4, none⟩ (.bool false)).setCell ⟨b, 6, none⟩ (.pointer none)).drew ∧
      XD ((((((w.drewN nq).setCell ⟨b, 2, none⟩ (.int .i64 m)).setCell ⟨b, 1, none⟩ (.slice a m cap)).setCell ⟨b, 3, none⟩ (.int .i64 (-1))).setCell ⟨b, 4, none⟩ (.bool false)).setCell ⟨b, 6, none⟩ (.pointer none)).drew b q (B.extract 0 m) m (-1) false rb := by
  have hf : Fr [b] w ((((((w.drewN nq).setCell ⟨b, 2, none⟩ (.int .i64 m)).setCell ⟨b, 1, none⟩ (.slice a m cap)).setCell ⟨b, 3, none⟩ (.int .i64 (-1))).setCell ⟨b, 4, none⟩ (.bool false)).setCell ⟨b, 6, none⟩ (.pointer none)).drew :=
    (((((((Fr.refl [b] w).drewN nq).setCell (by simp) _).setCell (by simp) _).setCell (by simp) _).setCell (by simp) _).setCell (by simp) _).drew
  have h0 : (w.drewN nq).heap[b]? = some (.cells #[.int .i64 q, .slice a n cap, .int .i64 s, .int .i64 f, .bool d, .int .i64 n7, .pointer none] 101 (0, 0)) := H
  have h2 : ((w.drewN nq).setCell ⟨b, 2, none⟩ (.int .i64 m)).heap[b]? = some (.cells #[.int .i64 q, .slice a n cap, .int .i64 m, .int .i64 f, .bool d, .int .i64 n7, .pointer none] 101 (0, 0)) := setFive 2 _ h0
  generalize (w.drewN nq).setCell ⟨b, 2, none⟩ (.int .i64 m) = w2 at h2 hf ⊢
  have h1 : (w2.setCell ⟨b, 1, none⟩ (.slice a m cap)).heap[b]? = some (.cells #[.int .i64 q, .slice a m cap, .int .i64 m, .int .i64 f, .bool d, .int .i64 n7, .pointer none] 101 (0, 0)) := setFive 1 _ h2
  generalize w2.setCell ⟨b, 1, none⟩ (.slice a m cap) = w1 at h1 hf ⊢
  have h3 : (w1.setCell ⟨b, 3, none⟩ (.int .i64 (-1))).heap[b]? = some (.cells #[.int .i64 q, .slice a m cap, .int .i64 m, .int .i64 (-1), .bool d, .int .i64 n7, .pointer none] 101 (0, 0)) := setFive 3 _ h1
  generalize w1.setCell ⟨b, 3, none⟩ (.int .i64 (-1)) = w3 at h3 hf ⊢
  have h4 : (w3.setCell ⟨b, 4, none⟩ (.bool false)).heap[b]? = some (.cells #[.int .i64 q, .slice a m cap, .int .i64 m, .int .i64 (-1), .bool false, .int .i64 n7, .pointer none] 101 (0, 0)) := setFive 4 _ h3
  generalize w3.setCell ⟨b, 4, none⟩ (.bool false) = w4 at h4 hf ⊢
  have h5 : (w4.setCell ⟨b, 6, none⟩ (.pointer none)).heap[b]? = some (.cells #[.int .i64 q, .slice a m cap, .int .i64 m, .int .i64 (-1), .bool false, .int .i64 n7, .pointer none] 101 (0, 0)) := setFive 6 _ h4
  generalize w4.setCell ⟨b, 6, none⟩ (.pointer none) = w5 at h5 hf ⊢
  exact ⟨hf, .slice a m cap, n7, h5, (R.cut m hm).fr hf (fun g hg => by simpa using N g hg)⟩

set_option maxHeartbeats 800000 in
set_option maxRecDepth 100000 in
theorem crash_x (w : World) (b : Nat) (q : Int) (B : ByteArray) (s : Nat) (f : Int) (d : Bool) (rb : Option Nat) (h : XD w b q B s f d rb) (hs : s ≤ B.size) (hB : B.size ≤ 1048576) (k : Int) (hk1 : -9223372036854775808 ≤ k) (hk2 : k ≤ 9223372036854775807) :
    Calls Tryz.prog 25 #[P64 b, .int .i64 k] w fun e w' => e = .returned (.tuple #[]) ∧ Fr [b] w w' ∧ XD w' b q (B.extract 0 (cN k s B.size)) (cN k s B.size) (-1) false rb := by
  obtain ⟨v, n7, h1, h2⟩ := h
  obtain ⟨a, cap, rfl, hc1, hc2⟩ := h2.len
  have hne := h2.rowNe h1 (by decide)
  have R : Hid (Row w _ rb B) := h2
  have N : Hid (∀ g, rb = some g → g ≠ b) := hne
  obtain ⟨⟨c0, c1, c2, c3, c4⟩, f1, f2, f3, f4⟩ := seven h1
  obtain ⟨-, -, c6, f6⟩ := seven5 h1
  have H : Hid (w.heap[b]? = _) := h1
  have hle := cN_le k s B.size hs
  have HC : Hid (cN k s B.size = s + (min (max k 0) ((B.size : Int) - s)).toNat) := rfl
  clear h1 h2 hne
  generalize cN k s B.size = m at hle HC ⊢
  have hmc : (m : Int) ≤ (cap : Int) := by omega
  by_cases h1 : k < 0
  · have hms : m = s := by have := HC.out; omega
    subst hms
    go_enter Tryz.func25, Tryz.ntmps25
    go_wp2_with fail
    go_quiet (fail)
    go_wp2_with fail
    go_region
    go_wp2_with fail
    go_end0
    exact ⟨rfl, crash_close H.out R.out N.out hle⟩
  by_cases h2 : (B.size : Int) - s < k
  · have h0 : 0 ≤ k := by omega
    go_enter Tryz.func25, Tryz.ntmps25
    go_wp2_with fail
    go_quiet (fail)
    go_wp2_with fail
    rw [show ((s : Int) + ((B.size : Int) - s)) = (m : Int) from by have := HC.out; omega]
    go_region
    go_wp2_with fail
    go_end0
    exact ⟨rfl, crash_close H.out R.out N.out hle⟩
  · have h0 : 0 ≤ k := by omega
    go_enter Tryz.func25, Tryz.ntmps25
    go_wp2_with fail
    go_quiet (fail)
    go_wp2_with fail
    rw [show ((s : Int) + k) = (m : Int) from by have := HC.out; omega]
    go_region
    go_wp2_with fail
    go_end0
    exact ⟨rfl, crash_close H.out R.out N.out hle⟩

set_option maxHeartbeats 800000 in
set_option maxRecDepth 100000 in
theorem crash_y (w : World) (b : Nat) (q : Int) (B : ByteArray) (s : Nat) (f : Int) (d : Bool) (h : YD w b q B s f d) (hs : s ≤ B.size) (hB : B.size ≤ 1048576) (k : Int) (hk1 : -9223372036854775808 ≤ k) (hk2 : k ≤ 9223372036854775807) :
    Calls Tryz.prog 115 #[P64 b, .int .i64 k] w fun e w' => e = .returned (.tuple #[]) ∧ Fr [b] w w' ∧ YD w' b q (B.extract 0 (cN k s B.size)) (cN k s B.size) (-1) false := by
  unfold YD at h
  obtain ⟨⟨c0, c1, c2, c3, c4⟩, f1, f2, f3, f4⟩ := five h
  have H : Hid (w.heap[b]? = _) := h
  have hle := cN_le k s B.size hs
  have HC : Hid (cN k s B.size = s + (min (max k 0) ((B.size : Int) - s)).toNat) := rfl
  clear h
  generalize cN k s B.size = m at hle HC ⊢
  have hmc : (m : Int) ≤ (B.size : Int) := by omega
  go_enter Tryz.func115, Tryz.ntmps115
  by_cases h1 : k < (B.size : Int) - s
  · by_cases h2 : 0 < k
    · have e : (s : Int) + k = m := by have := HC.out; omega
      go_wp2_with fail
      go_end0
      exact ⟨rfl, ((((Fr.refl [b] w).setCell (by simp) _).setCell (by simp) _).setCell (by simp) _).setCell (by simp) _, setFive 4 _ (setFive 3 _ (setFive 2 _ (setFive 1 _ H.out)))⟩
    · have e : s = m := by have := HC.out; omega
      subst e
      go_wp2_with fail
      go_end0
      exact ⟨rfl, ((((Fr.refl [b] w).setCell (by simp) _).setCell (by simp) _).setCell (by simp) _).setCell (by simp) _, setFive 4 _ (setFive 3 _ (setFive 2 _ (setFive 1 _ H.out)))⟩
  · by_cases h2 : 0 < (B.size : Int) - s
    · have e : (s : Int) + ((B.size : Int) - s) = m := by have := HC.out; omega
      go_wp2_with fail
      go_end0
      exact ⟨rfl, ((((Fr.refl [b] w).setCell (by simp) _).setCell (by simp) _).setCell (by simp) _).setCell (by simp) _, setFive 4 _ (setFive 3 _ (setFive 2 _ (setFive 1 _ H.out)))⟩
    · have e : s = m := by have := HC.out; omega
      subst e
      go_wp2_with fail
      go_end0
      exact ⟨rfl, ((((Fr.refl [b] w).setCell (by simp) _).setCell (by simp) _).setCell (by simp) _).setCell (by simp) _, setFive 4 _ (setFive 3 _ (setFive 2 _ (setFive 1 _ H.out)))⟩

theorem Row.none (w : World) : Row w (.slice .none 0 0) .none ByteArray.empty := .inl ⟨rfl, rfl, rfl⟩

set_option maxHeartbeats 400000 in
theorem new_x_bad (w : World) (q : Int) (h : q < 0 ∨ 1048576 < q) :
    Calls Tryz.prog 29 #[.int .i64 q] w fun e w' => e = .returned (.tuple #[.pointer .none, .int .i64 1]) ∧ w = w' := by
  by_cases h1 : q < 0
  · go_enter Tryz.func29, Tryz.ntmps29
    go_wp2_with fail
    go_ret2
    exact ⟨rfl, rfl⟩
  · have h2 : 1048576 < q := by omega
    go_enter Tryz.func29, Tryz.ntmps29
    go_wp2_with fail
    go_ret2
    exact ⟨rfl, rfl⟩

set_option maxHeartbeats 400000 in
theorem new_y_bad (w : World) (q : Int) (h : q < 0 ∨ 1048576 < q) :
    Calls Tryz.prog 79 #[.int .i64 q] w fun e w' => e = .returned (.tuple #[.pointer .none, .int .i64 1]) ∧ w = w' := by
  by_cases h1 : q < 0
  · go_enter Tryz.func79, Tryz.ntmps79
    go_wp2_with fail
    go_ret2
    exact ⟨rfl, rfl⟩
  · have h2 : 1048576 < q := by omega
    go_enter Tryz.func79, Tryz.ntmps79
    go_wp2_with fail
    go_ret2
    exact ⟨rfl, rfl⟩

set_option maxHeartbeats 400000 in
theorem new_x (w : World) (q : Int) (h1 : 0 ≤ q) (h2 : q ≤ 1048576) :
    Calls Tryz.prog 29 #[.int .i64 q] w fun e w' => e = .returned (.tuple #[P64 w.heap.size, .int .i64 0]) ∧ Fr [] w w' ∧ w'.heap.size = w.heap.size + 1 ∧ XD w' w.heap.size q ByteArray.empty 0 (-1) false .none := by
  go_enter Tryz.func29, Tryz.ntmps29
  go_wp2_with fail
  go_ret2
  exact ⟨rfl, (Fr.refl _ _).alloc _, by simp, _, _, heap_alloc_new w _, Row.none _⟩

set_option maxHeartbeats 400000 in
theorem new_y (w : World) (q : Int) (h1 : 0 ≤ q) (h2 : q ≤ 1048576) :
    Calls Tryz.prog 79 #[.int .i64 q] w fun e w' => e = .returned (.tuple #[P64 w.heap.size, .int .i64 0]) ∧ Fr [] w w' ∧ w'.heap.size = w.heap.size + 1 ∧ YD w' w.heap.size q ByteArray.empty 0 (-1) false := by
  go_enter Tryz.func79, Tryz.ntmps79
  go_wp2_with fail
  go_ret2
  exact ⟨rfl, (Fr.refl _ _).alloc _, by simp, heap_alloc_new w _⟩

end Go.Proofs.YtifapongohmemaaGreatDoor
