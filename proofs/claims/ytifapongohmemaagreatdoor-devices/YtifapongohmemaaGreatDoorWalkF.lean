/- pick, looks. -/
import Derived.Test.YtifapongohmemaaGreatDoorInv
import Derived.Deep.RegionWith
import Derived.Deep.DeepCutAuto
import Derived.Deep.RegionHeld3
namespace Go.Proofs.YtifapongohmemaaGreatDoor
open Go.RowKit

/-- Which of n things. -/
def pk (c : Int) (n : Nat) : Nat := ((if c < 0 then -(c + 1) else c) % (n : Int)).toNat
theorem pk_lt (c : Int) (n : Nat) (h : 0 < n) : pk c n < n := by
  unfold pk
  have h1 := Int.emod_nonneg (if c < 0 then -(c + 1) else c) (show (n : Int) ≠ 0 by omega)
  have h2 := Int.emod_lt_of_pos (if c < 0 then -(c + 1) else c) (show (0 : Int) < n by omega)
  omega
theorem pk_cast (c : Int) (n : Nat) (h : 0 < n) : (pk c n : Int) = (if c < 0 then -(c + 1) else c) % (n : Int) := by
  unfold pk
  have h1 := Int.emod_nonneg (if c < 0 then -(c + 1) else c) (show (n : Int) ≠ 0 by omega)
  omega

set_option maxHeartbeats 400000 in
theorem pick_any (w : World) (c : Int) (n : Nat) (h1 : -9223372036854775808 ≤ c) (h2 : c ≤ 9223372036854775807) (hn : 0 < n) (hn2 : (n : Int) ≤ 9223372036854775807) :
    Calls Tryz.prog 88 #[.int .i64 c, .int .i64 n] w fun e w' => e = .returned (.int .i64 (pk c n)) ∧ w' = w := by
  rw [pk_cast c n hn]
  have hn3 : (0 : Int) < n := by omega
  have hn0 : ((n : Int) == 0) = false := by simp; omega
  by_cases hc : c < 0
  · rw [if_pos hc]
    go_enter Tryz.func88, Tryz.ntmps88
    go_wp2_with fail
    go_ret
    have e : -(c + 1).tmod (n : Int) = -(c + 1) % (n : Int) := by
      rw [← Int.neg_tmod, Int.tmod_eq_emod_of_nonneg (by omega)]
    exact ⟨congrArg (fun z => Ending.returned (.int .i64 z)) e, rfl⟩
  · rw [if_neg hc]
    have hc0 : 0 ≤ c := by omega
    go_enter Tryz.func88, Tryz.ntmps88
    go_wp2_with fail
    go_ret
    exact ⟨rfl, rfl⟩

set_option maxHeartbeats 400000 in
theorem looks_any (w : World) (pw : Nat) (v : Value) (h : w.heap[pw]? = some (.cells #[v, .slice none 0 0, .slice none 0 0] 92 (0, 0))) :
    Calls Tryz.prog 49 #[P64 pw] w fun e w' => e = .returned (.bool true) ∧ w = w' := by
  obtain ⟨c0, c1, c2, f0⟩ := three h
  clear h
  go_enter Tryz.func49, Tryz.ntmps49
  go_wp2_with fail
  refine wp_loop_rounds 1 ?_
  rw [rounds_succ]
  go_wp2_with fail
  go_ret
  exact ⟨rfl, rfl⟩

end Go.Proofs.YtifapongohmemaaGreatDoor
