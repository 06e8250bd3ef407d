/- plain: Swap, Read, Safe; and all of it. -/
import Derived.Test.YtifapongohmemaaGreatDoorWalkH
namespace Go.Proofs.YtifapongohmemaaGreatDoor
open Go.RowKit

set_option maxHeartbeats 1600000 in
set_option maxRecDepth 100000 in
theorem plain_swap (N : Nat) (w : World) (x : Dv) (h : x.ok N w) (hN : N ≤ w.heap.size) (D A Bv C : Int) (S : ByteArray) (hS : S.size ≤ 140737488351232) (r0 r1 r2 r3 r4 r5 r6 r7 r8 r9 r10 r11 r12 r13 : Value) :
    Calls Tryz.prog 47 #[P64 x.bd, opV 4 D A Bv C S r0 r1 r2 r3 r4 r5 r6 r7 r8 r9 r10 r11 r12 r13] w fun e w' => e = .returned (.bool true) ∧ ∃ x', Turn N w w' x x' := by
  have HO : Hid (x.ok N w) := h
  obtain ⟨c0, c1, c2, _⟩ := three h.hd
  have hlt := h.ltd
  clear h
  go_enter Tryz.func47, Tryz.ntmps47
  go_upto_region 11 with fail
  go_cut [9] (fun s5 wx => s5 = .int .i64 (aE (overS x.q S) x.f x.d) ∧ XPost w wx x.bx x.q (aB (overS x.q S) x.f x.d x.B S) (aS (overS x.q S) x.f x.d x.s S.size) (aF (overS x.q S) x.f x.d) (aD (overS x.q S) x.f x.d) x.rb ∧ wx.cell? ⟨w.heap.size, 5, none⟩ = some (.string S) ∧ w.heap.size < wx.heap.size)
  case first =>
    go_region_with (go_at_call 83; refine (swap_x _ _ _ _ _ _ _ _ (by exact HO.out.xd ((Fr.refl [] w).alloc _).drew) HO.out.f0 HO.out.f1 HO.out.q0 HO.out.q1 _ hS).mono ?_; rintro e w1 ⟨rfl, hp⟩)
    all_goals (go_wp2_with fail; go_meet)
    all_goals
      have hsz := hp.1.size
      have hbx := HO.out.box5 (j := 5) (heap_alloc_new w _) hp.1.ofDrew rfl
      exact ⟨rfl, XPost.from ((Fr.refl [] w).alloc _).drew hp, hbx, by simp at hsz; omega⟩
  case rest =>
  obtain ⟨rfl, hp, hbx, hsz⟩ := hcut
  have hd1 := HO.out.hd1 (Fr.refl [] w) hp.1
  have HY : Hid (YD wc x.bY x.q x.B x.s (max x.f (-1)) x.d) := HO.out.yd (Fr.refl [] w) hp.1
  have HP := Hid.mk hp
  obtain ⟨k0, k1, k2, _⟩ := three hd1
  have hlt1 := lt_of_at hd1
  clear hd1 hp c0 c1 c2
  go_upto_region 12 with fail
  go_cut [10] (fun s6 wx => s6 = .int .i64 (aE (overS x.q S) x.f x.d) ∧ Fr [x.bY] wc wx ∧ YD wx x.bY x.q (aB (overS x.q S) x.f x.d x.B S) (aS (overS x.q S) x.f x.d x.s S.size) (max (aF (overS x.q S) x.f x.d) (-1)) (aD (overS x.q S) x.f x.d))
  case first =>
    go_region_with (go_at_call 84; refine (swap_y' _ _ _ _ _ _ _ (by exact HY.out) HO.out.f1 _).mono ?_; rintro e w1 ⟨rfl, hf2, hy2⟩)
    all_goals (go_wp2_with fail; go_meet)
    all_goals exact ⟨rfl, hf2.ofDrew, hy2⟩
  case rest =>
  obtain ⟨rfl, hf2, hy2⟩ := hcut
  have HP2 := Hid.mk (And.intro hf2 hy2)
  clear k0 k1 k2 hlt1 hf2 hy2
  go_wp2_with (go_at_call 80; refine (num_any _ _).mono ?_; rintro e w' ⟨rfl, rfl⟩)
  go_ret
  exact ⟨rfl, mkTurn HO.out hN (Fr.refl [] w) HP.out (Fr.refl _ _) HP2.out.1 HP2.out.2 (Fr.refl _ _) (aB_sizeS _ _ _ _ _ HO.out.hB) (aS_leS _ _ _ _ _ _ HO.out.hs) (aF_range _ _ _ HO.out.f0 HO.out.f1).1 (aF_range _ _ _ HO.out.f0 HO.out.f1).2⟩

set_option maxHeartbeats 800000 in
set_option maxRecDepth 100000 in
theorem plain_read (N : Nat) (w : World) (x : Dv) (h : x.ok N w) (D A Bv C : Int) (S : ByteArray) (r0 r1 r2 r3 r4 r5 r6 r7 r8 r9 r10 r11 r12 r13 : Value) :
    Calls Tryz.prog 47 #[P64 x.bd, opV 5 D A Bv C S r0 r1 r2 r3 r4 r5 r6 r7 r8 r9 r10 r11 r12 r13] w fun e w' => e = .returned (.bool true) ∧ ∃ x', Turn N w w' x x' := by
  have HO : Hid (x.ok N w) := h
  obtain ⟨c0, c1, c2, _⟩ := three h.hd
  have hlt := h.ltd
  clear h
  go_enter Tryz.func47, Tryz.ntmps47
  go_wp2_with (first
    | (go_at_call 28; refine (read_x _ _ _ _ _ _ _ _ (by exact HO.out.xd ((Fr.refl [] w).alloc _))).mono ?_; rintro e w' ⟨rfl, rfl⟩)
    | (go_at_call 85; refine (read_y _ _ _ _ _ _ _ (by exact HO.out.hy.fr ((Fr.refl [] w).alloc _) (by simp))).mono ?_; rintro e w' ⟨rfl, rfl⟩)
    | (go_at_call 80; refine (num_any _ _).mono ?_; rintro e w' ⟨rfl, rfl⟩))
  go_ret
  exact ⟨rfl, x, Turn.refl HO.out ((Fr.refl [] w).alloc _)⟩

set_option maxHeartbeats 800000 in
set_option maxRecDepth 100000 in
theorem plain_safe (N : Nat) (w : World) (x : Dv) (h : x.ok N w) (D A Bv C : Int) (S : ByteArray) (r0 r1 r2 r3 r4 r5 r6 r7 r8 r9 r10 r11 r12 r13 : Value) :
    Calls Tryz.prog 47 #[P64 x.bd, opV 6 D A Bv C S r0 r1 r2 r3 r4 r5 r6 r7 r8 r9 r10 r11 r12 r13] w fun e w' => e = .returned (.bool true) ∧ ∃ x', Turn N w w' x x' := by
  have HO : Hid (x.ok N w) := h
  obtain ⟨c0, c1, c2, _⟩ := three h.hd
  have hlt := h.ltd
  clear h
  go_enter Tryz.func47, Tryz.ntmps47
  go_wp2_with (first
    | (go_at_call 86; refine (safe_x _ _ _ _ _ _ _ _ (by exact HO.out.xd ((Fr.refl [] w).alloc _))).mono ?_; rintro e w' ⟨rfl, rfl⟩)
    | (go_at_call 87; refine (safe_y _ _ _ _ _ _ _ (by exact HO.out.hy.fr ((Fr.refl [] w).alloc _) (by simp))).mono ?_; rintro e w' ⟨rfl, rfl⟩)
    | (go_at_call 80; refine (num_any _ _).mono ?_; rintro e w' ⟨rfl, rfl⟩))
  go_ret
  exact ⟨rfl, x, Turn.refl HO.out ((Fr.refl [] w).alloc _)⟩

theorem plain_all (N : Nat) (w : World) (x : Dv) (h : x.ok N w) (hN : N ≤ w.heap.size) (k D A Bv C : Int) (S : ByteArray) (hS : S.size ≤ 140737488351232) (hk1 : 2 ≤ k) (hk2 : k ≤ 6) (r0 r1 r2 r3 r4 r5 r6 r7 r8 r9 r10 r11 r12 r13 : Value) :
    Calls Tryz.prog 47 #[P64 x.bd, opV k D A Bv C S r0 r1 r2 r3 r4 r5 r6 r7 r8 r9 r10 r11 r12 r13] w fun e w' => e = .returned (.bool true) ∧ ∃ x', Turn N w w' x x' := by
  rcases (by omega : k = 2 ∨ k = 3 ∨ k = 4 ∨ k = 5 ∨ k = 6) with rfl | rfl | rfl | rfl | rfl
  · exact plain_append N w x h hN D A Bv C S hS r0 r1 r2 r3 r4 r5 r6 r7 r8 r9 r10 r11 r12 r13
  · exact plain_sync N w x h hN D A Bv C S r0 r1 r2 r3 r4 r5 r6 r7 r8 r9 r10 r11 r12 r13
  · exact plain_swap N w x h hN D A Bv C S hS r0 r1 r2 r3 r4 r5 r6 r7 r8 r9 r10 r11 r12 r13
  · exact plain_read N w x h D A Bv C S r0 r1 r2 r3 r4 r5 r6 r7 r8 r9 r10 r11 r12 r13
  · exact plain_safe N w x h D A Bv C S r0 r1 r2 r3 r4 r5 r6 r7 r8 r9 r10 r11 r12 r13

end Go.Proofs.YtifapongohmemaaGreatDoor
