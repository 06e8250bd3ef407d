/- plain: a step on a device on which there is no service. -/
import Derived.Test.YtifapongohmemaaGreatDoorWalkF
namespace Go.Proofs.YtifapongohmemaaGreatDoor
open Go.RowKit

/-- The value of a script's step: twenty cells. -/
abbrev opV (k D A Bv C : Int) (S : ByteArray) (r0 r1 r2 r3 r4 r5 r6 r7 r8 r9 r10 r11 r12 r13 : Value) : Value :=
  .agg #[.int .i64 k, .int .i64 D, .int .i64 A, .int .i64 Bv, .int .i64 C, .string S, r0, r1, r2, r3, r4, r5, r6, r7, r8, r9, r10, r11, r12, r13]

theorem Dv.ok.ltd {N : Nat} {w : World} {x : Dv} (h : x.ok N w) : x.bd < w.heap.size := lt_of_at h.hd

theorem Hid.mk {p : Prop} (h : p) : Hid p := h

theorem sync_y' (w : World) (b : Nat) (q : Int) (B : ByteArray) (s : Nat) (f : Int) (d : Bool) (h : YD w b q B s (max f (-1)) d) (hhi : f ≤ 9223372036854775807) :
    Calls Tryz.prog 82 #[P64 b] w fun e w' => e = .returned (.int .i64 (bE f d)) ∧ Fr [b] w w' ∧ YD w' b q B (bS f d s B.size) (max (bF f d) (-1)) (bD f d) := by
  have := sync_y w b q B s (max f (-1)) d h (by omega) (by omega)
  rw [bE_max, bF_max, bD_max, bS_max] at this
  exact this
theorem append_y' (w : World) (b : Nat) (q : Int) (B : ByteArray) (s : Nat) (f : Int) (d : Bool) (h : YD w b q B s (max f (-1)) d) (hhi : f ≤ 9223372036854775807)
    (hq0 : 0 ≤ q) (hq : q ≤ 1048576) (hB : (B.size : Int) ≤ q) (S : ByteArray) (hS : S.size ≤ 140737488351232) :
    Calls Tryz.prog 81 #[P64 b, .string S] w fun e w' => e = .returned (.int .i64 (aE (over q B S) f d)) ∧ Fr [b] w w' ∧
      YD w' b q (aB (over q B S) f d B (B ++ S)) s (max (aF (over q B S) f d) (-1)) (aD (over q B S) f d) := by
  have := append_y w b q B s (max f (-1)) d h (by omega) (by omega) hq0 hq hB S hS
  rw [aE_max, aF_max, aD_max, aB_max] at this
  exact this
theorem swap_y' (w : World) (b : Nat) (q : Int) (B : ByteArray) (s : Nat) (f : Int) (d : Bool) (h : YD w b q B s (max f (-1)) d) (hhi : f ≤ 9223372036854775807) (S : ByteArray) :
    Calls Tryz.prog 84 #[P64 b, .string S] w fun e w' => e = .returned (.int .i64 (aE (overS q S) f d)) ∧ Fr [b] w w' ∧
      YD w' b q (aB (overS q S) f d B S) (aS (overS q S) f d s S.size) (max (aF (overS q S) f d) (-1)) (aD (overS q S) f d) := by
  have := swap_y w b q B s (max f (-1)) d h (by omega) (by omega) S
  rw [aE_max, aF_max, aD_max, aB_max, aS_max] at this
  exact this

theorem bS_le (f : Int) (d : Bool) (s n : Nat) (h : s ≤ n) : bS f d s n ≤ n := by unfold bS; split <;> omega
theorem aB_size (q : Int) (B S : ByteArray) (f : Int) (d : Bool) (h : (B.size : Int) ≤ q) : ((aB (over q B S) f d B (B ++ S)).size : Int) ≤ q := by
  unfold aB
  split
  · exact h
  · rename_i h1
    simp only [Bool.or_eq_true, not_or, over, decide_eq_true_eq] at h1
    have := h1.1.2
    simp only [ByteArray.size_append]
    omega
theorem aB_le (o : Bool) (B S : ByteArray) (f : Int) (d : Bool) (s : Nat) (h : s ≤ B.size) : s ≤ (aB o f d B (B ++ S)).size := by
  unfold aB
  split
  · exact h
  · simp only [ByteArray.size_append]
    omega
theorem aB_sizeS (q : Int) (B S : ByteArray) (f : Int) (d : Bool) (h : (B.size : Int) ≤ q) : ((aB (overS q S) f d B S).size : Int) ≤ q := by
  unfold aB
  split
  · exact h
  · rename_i h1
    simp only [Bool.or_eq_true, not_or, overS, decide_eq_true_eq] at h1
    have := h1.1.2
    omega
theorem aS_leS (o : Bool) (B S : ByteArray) (f : Int) (d : Bool) (s : Nat) (h : s ≤ B.size) : aS o f d s S.size ≤ (aB o f d B S).size := by
  unfold aB aS
  split
  · exact h
  · exact Nat.le_refl _

/-- The step's device, behind the program's call. -/
theorem Dv.ok.hd1 {N : Nat} {w w0 w1 : World} {x : Dv} (h : x.ok N w) (h0 : Fr [] w w0) (hf : Fr (x.bx :: x.rb.toList) w0 w1) : w1.heap[x.bd]? = some (.cells #[P64 x.bx, P64 x.bY, .pointer none] 141 (0, 0)) :=
  hf.at (h0.at h.hd (by simp)) (by
    have := h.notFoot h.hd (by decide) (by decide) (by decide)
    simp only [List.mem_cons, not_or] at this ⊢
    exact ⟨this.1, this.2.2⟩)

set_option maxHeartbeats 800000 in
set_option maxRecDepth 100000 in
theorem plain_sync (N : Nat) (w : World) (x : Dv) (h : x.ok N w) (hN : N ≤ w.heap.size) (D A Bv C : Int) (S : ByteArray) (r0 r1 r2 r3 r4 r5 r6 r7 r8 r9 r10 r11 r12 r13 : Value) :
    Calls Tryz.prog 47 #[P64 x.bd, opV 3 D A Bv C S r0 r1 r2 r3 r4 r5 r6 r7 r8 r9 r10 r11 r12 r13] w fun e w' => e = .returned (.bool true) ∧ ∃ x', Turn N w w' x x' := by
  have HO : Hid (x.ok N w) := h
  obtain ⟨c0, c1, c2, _⟩ := three h.hd
  have hlt := h.ltd
  clear h
  go_enter Tryz.func47, Tryz.ntmps47
  go_wp2_with fail
  refine (sync_x _ _ _ _ _ _ _ _ (HO.out.xd ((Fr.refl [] w).alloc _)) HO.out.f0 HO.out.f1).mono ?_
  rintro e w1 ⟨rfl, hf1, hx1⟩
  have hd1 := HO.out.hd1 ((Fr.refl [] w).alloc _) (hf1.mono (by simp))
  have HY : Hid (YD w1 x.bY x.q x.B x.s (max x.f (-1)) x.d) := HO.out.yd ((Fr.refl [] w).alloc _) (hf1.mono (by simp))
  have HP := Hid.mk (XPost.same hf1 hx1)
  obtain ⟨k0, k1, k2, _⟩ := three hd1
  have hlt1 := lt_of_at hd1
  clear hd1 hx1 c0 c1 c2 hlt hf1
  go_wp2_with fail
  refine (sync_y' _ _ _ _ _ _ _ HY.out HO.out.f1).mono ?_
  rintro e w2 ⟨rfl, hf2, hy2⟩
  have HP2 := Hid.mk (And.intro hf2 hy2)
  clear k0 k1 k2 hlt1 hf2 hy2
  go_wp2_with (go_at_call 80; refine (num_any _ _).mono ?_; rintro e w' ⟨rfl, rfl⟩)
  go_ret
  exact ⟨rfl, mkTurn HO.out hN ((Fr.refl [] w).alloc _) HP.out (Fr.refl _ _) HP2.out.1 HP2.out.2 (Fr.refl _ _) HO.out.hB (bS_le _ _ _ _ HO.out.hs) (bF_range _ _ HO.out.f0 HO.out.f1).1 (bF_range _ _ HO.out.f0 HO.out.f1).2⟩

end Go.Proofs.YtifapongohmemaaGreatDoor
