/- The small methods of both devices. -/
import Derived.Test.YtifapongohmemaaGreatDoorRows
import Derived.Test.YtifapongohmemaaGreatDoorBase
import Derived.WalkSpells
import Derived.WalkLawsBesides
import Derived.Deep.QuietTactic
import Derived.BigQuiet
namespace Go.Proofs.YtifapongohmemaaGreatDoor
open Go.RowKit

/-- A change that would answer OK: its answer, the fuse, whether the device is dead. -/
def bE (f : Int) (d : Bool) : Int := if d || f == 0 then 4 else 0
def bF (f : Int) (d : Bool) : Int := if d then f else if 0 < f then f - 1 else f
def bD (f : Int) (d : Bool) : Bool := d || f == 0
def bS (f : Int) (d : Bool) (s n : Nat) : Nat := if d || f == 0 then s else n

theorem bE_dead (f : Int) : bE f true = 4 := rfl
theorem bF_dead (f : Int) : bF f true = f := rfl
theorem bD_dead (f : Int) : bD f true = true := rfl
theorem bS_dead (f : Int) (s n : Nat) : bS f true s n = s := rfl
theorem bE_zero : bE 0 false = 4 := rfl
theorem bF_zero : bF 0 false = 0 := rfl
theorem bD_zero : bD 0 false = true := rfl
theorem bS_zero (s n : Nat) : bS 0 false s n = s := rfl
theorem bE_ok {f : Int} (h : f ≠ 0) : bE f false = 0 := by simp [bE, h]
theorem bF_ok {f : Int} : bF f false = if 0 < f then f - 1 else f := rfl
theorem bD_ok {f : Int} (h : f ≠ 0) : bD f false = false := by simp [bD, h]
theorem bS_ok {f : Int} (h : f ≠ 0) (s n : Nat) : bS f false s n = n := by simp [bS, h]

abbrev P64 (x : Nat) : Value := .pointer (some ⟨x, 0, none⟩)

set_option maxHeartbeats 400000 in
theorem isDead_any {n : Int} (w : World) (b : Nat) (q : Int) (v : Value) (s f : Int) (d : Bool) (h : w.heap[b]? = some (.cells #[.int .i64 q, v, .int .i64 s, .int .i64 f, .bool d, .int .i64 n, .pointer none] 101 (0, 0))) :
    Calls Tryz.prog 51 #[P64 b] w fun e w' => e = .returned (.bool d) ∧ w = w' := by
  obtain ⟨⟨c0, c1, c2, c3, c4⟩, f1, f2, f3, f4⟩ := seven h
  clear h
  go_enter Tryz.func51, Tryz.ntmps51
  go_wp2
  go_ret
  exact ⟨rfl, rfl⟩

theorem setFive {w : World} {b : Nat} {t : TypeId} {c : Array Value} (i : Nat) (v : Value) (h : w.heap[b]? = some (.cells c t (0, 0))) : (w.setCell ⟨b, i, none⟩ v).heap[b]? = some (.cells (c.setIfInBounds i v) t (0, 0)) := heap_setCell_same w b i c t v h

set_option maxHeartbeats 400000 in
theorem burn_dead {n : Int} (w : World) (b : Nat) (q : Int) (v : Value) (s : Int) (d : Bool) (h : w.heap[b]? = some (.cells #[.int .i64 q, v, .int .i64 s, .int .i64 0, .bool d, .int .i64 n, .pointer none] 101 (0, 0))) :
    Calls Tryz.prog 52 #[P64 b] w fun e w' => e = .returned (.bool false) ∧ Fr [b] w w' ∧ w'.heap[b]? = some (.cells #[.int .i64 q, v, .int .i64 s, .int .i64 0, .bool true, .int .i64 n, .pointer none] 101 (0, 0)) := by
  obtain ⟨⟨c0, c1, c2, c3, c4⟩, f1, f2, f3, f4⟩ := seven h
  have H : Hid (w.heap[b]? = _) := h
  clear h
  go_enter Tryz.func52, Tryz.ntmps52
  go_wp2
  go_ret
  exact ⟨rfl, (Fr.refl _ _).setCell (by simp) _, setFive 4 _ H.out⟩

set_option maxHeartbeats 400000 in
theorem burn_ok {n : Int} (w : World) (b : Nat) (q : Int) (v : Value) (s f : Int) (d : Bool) (h : w.heap[b]? = some (.cells #[.int .i64 q, v, .int .i64 s, .int .i64 f, .bool d, .int .i64 n, .pointer none] 101 (0, 0))) (hf : f ≠ 0) (hd : d = false) (hlo : -9223372036854775808 ≤ f) (hhi : f ≤ 9223372036854775807) :
    Calls Tryz.prog 52 #[P64 b] w fun e w' => e = .returned (.bool true) ∧ Fr [b] w w' ∧ ∃ n', w'.heap[b]? = some (.cells #[.int .i64 q, v, .int .i64 s, .int .i64 (bF f d), .bool d, .int .i64 n', .pointer none] 101 (0, 0)) := by
  obtain ⟨⟨c0, c1, c2, c3, c4⟩, f1, f2, f3, f4⟩ := seven h
  obtain ⟨c5, f5, c6, f6⟩ := seven5 h
  have H : Hid (w.heap[b]? = _) := h
  clear h
  have hne : (f == 0) = false := by simp [hf]
  subst hd
  rw [bF_ok]
  by_cases hp : 0 < f
  · rw [if_pos hp]
    go_enter Tryz.func52, Tryz.ntmps52
    go_wp2
    go_ret
    exact ⟨rfl, ((Fr.refl _ _).setCell (by simp) _).setCell (by simp) _, _, setFive 5 _ (setFive 3 _ H.out)⟩
  · rw [if_neg hp]
    go_enter Tryz.func52, Tryz.ntmps52
    go_wp2
    go_ret
    exact ⟨rfl, (Fr.refl _ _).setCell (by simp) _, _, setFive 5 _ H.out⟩

set_option maxHeartbeats 400000 in
theorem burnt_dead (w : World) (b : Nat) (q : Int) (v : Value) (s : Int) (d : Bool) (h : w.heap[b]? = some (.cells #[.int .i64 q, v, .int .i64 s, .int .i64 0, .bool d] 173 (0, 0))) :
    Calls Tryz.prog 113 #[P64 b] w fun e w' => e = .returned (.bool true) ∧ Fr [b] w w' ∧ w'.heap[b]? = some (.cells #[.int .i64 q, v, .int .i64 s, .int .i64 0, .bool true] 173 (0, 0)) := by
  obtain ⟨⟨c0, c1, c2, c3, c4⟩, f1, f2, f3, f4⟩ := five h
  have H : Hid (w.heap[b]? = _) := h
  clear h
  go_enter Tryz.func113, Tryz.ntmps113
  go_wp2
  go_ret
  exact ⟨rfl, (Fr.refl _ _).setCell (by simp) _, setFive 4 _ H.out⟩

set_option maxHeartbeats 400000 in
theorem burnt_ok (w : World) (b : Nat) (q : Int) (v : Value) (s f : Int) (d : Bool) (h : w.heap[b]? = some (.cells #[.int .i64 q, v, .int .i64 s, .int .i64 f, .bool d] 173 (0, 0))) (hf : f ≠ 0) (hd : d = false) (hlo : -9223372036854775808 ≤ f) (hhi : f ≤ 9223372036854775807) :
    Calls Tryz.prog 113 #[P64 b] w fun e w' => e = .returned (.bool false) ∧ Fr [b] w w' ∧ w'.heap[b]? = some (.cells #[.int .i64 q, v, .int .i64 s, .int .i64 (bF f d), .bool d] 173 (0, 0)) := by
  obtain ⟨⟨c0, c1, c2, c3, c4⟩, f1, f2, f3, f4⟩ := five h
  have H : Hid (w.heap[b]? = _) := h
  clear h
  have hne : (f == 0) = false := by simp [hf]
  subst hd
  rw [bF_ok]
  by_cases hp : 0 < f
  · rw [if_pos hp]
    go_enter Tryz.func113, Tryz.ntmps113
    go_wp2
    go_ret
    exact ⟨rfl, (Fr.refl _ _).setCell (by simp) _, setFive 3 _ H.out⟩
  · rw [if_neg hp]
    go_enter Tryz.func113, Tryz.ntmps113
    go_wp2
    go_ret
    exact ⟨rfl, Fr.refl _ _, H.out⟩

set_option maxHeartbeats 400000 in
theorem num_any (w : World) (n : Int) : Calls Tryz.prog 80 #[.int .i64 n] w fun e w' => e = .returned (.int .i64 n) ∧ w = w' := by
  go_enter Tryz.func80, Tryz.ntmps80
  go_wp2
  go_ret
  exact ⟨rfl, rfl⟩

end Go.Proofs.YtifapongohmemaaGreatDoor
