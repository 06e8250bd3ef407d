/- power: Fuse and Crash of a device without a service. -/
import Derived.Test.YtifapongohmemaaGreatDoorWalkI
namespace Go.Proofs.YtifapongohmemaaGreatDoor
open Go.RowKit

theorem fuse_y' (w : World) (b : Nat) (q : Int) (B : ByteArray) (s : Nat) (f : Int) (d : Bool) (h : YD w b q B s (max f (-1)) d) (n : Int) :
    Calls Tryz.prog 114 #[P64 b, .int .i64 n] w fun e w' => e = .returned (.tuple #[]) ∧ Fr [b] w w' ∧ YD w' b q B s (max (if d then f else n) (-1)) d := by
  have := fuse_y w b q B s (max f (-1)) d h n
  have e : (if d then max f (-1) else max n (-1)) = max (if d then f else n) (-1) := by cases d <;> rfl
  rw [e] at this
  exact this

set_option maxHeartbeats 1600000 in
set_option maxRecDepth 100000 in
theorem power_fuse (N : Nat) (w : World) (x : Dv) (h : x.ok N w) (hN : N ≤ w.heap.size) (D A Bv C : Int) (hA0 : -9223372036854775808 ≤ A) (hA1 : A ≤ 9223372036854775807) (S : ByteArray) (r0 r1 r2 r3 r4 r5 r6 r7 r8 r9 r10 r11 r12 r13 : Value) :
    Calls Tryz.prog 89 #[P64 x.bd, opV 7 D A Bv C S r0 r1 r2 r3 r4 r5 r6 r7 r8 r9 r10 r11 r12 r13] w fun e w' => e = .returned (.bool true) ∧ ∃ x', Turn N w w' x x' := by
  have HO : Hid (x.ok N w) := h
  obtain ⟨c0, c1, c2, _⟩ := three h.hd
  have hlt := h.ltd
  clear h
  go_enter Tryz.func89, Tryz.ntmps89
  go_upto_region 2 with fail
  go_cut [] (fun wx => XPost w wx x.bx x.q x.B x.s (if x.d then x.f else A) x.d x.rb ∧ wx.cell? ⟨w.heap.size, 2, none⟩ = some (.int .i64 A) ∧ w.heap.size < wx.heap.size)
  case first =>
    go_region_with (go_at_call 41; refine (fuse_x _ _ _ _ _ _ _ _ (by exact HO.out.xd ((Fr.refl [] w).alloc _).drew) _).mono ?_; rintro e w1 ⟨rfl, hf1, hx1⟩)
    all_goals (go_wp2_with fail; go_meet)
    all_goals
      have hp := XPost.same hf1 hx1
      have hsz := hp.1.size
      have hbx := HO.out.box5 (j := 2) (heap_alloc_new w _) hp.1.ofDrew rfl
      exact ⟨XPost.from ((Fr.refl [] w).alloc _).drew hp, hbx, by simp at hsz; omega⟩
  case rest =>
  obtain ⟨hp, hbx, hsz⟩ := hcut
  have hd1 := HO.out.hd1 (Fr.refl [] w) hp.1
  have HY : Hid (YD wc x.bY x.q x.B x.s (max x.f (-1)) x.d) := HO.out.yd (Fr.refl [] w) hp.1
  have HP := Hid.mk hp
  obtain ⟨k0, k1, k2, _⟩ := three hd1
  have hlt1 := lt_of_at hd1
  clear hd1 hp c0 c1 c2
  go_upto_region 4 with fail
  go_cut [] (fun wx => Fr [x.bY] wc wx ∧ YD wx x.bY x.q x.B x.s (max (if x.d then x.f else A) (-1)) x.d)
  case first =>
    go_region_with (go_at_call 114; refine (fuse_y' _ _ _ _ _ _ _ (by exact HY.out) _).mono ?_; rintro e w1 ⟨rfl, hf2, hy2⟩)
    all_goals (go_wp2_with fail; go_meet)
    all_goals exact ⟨hf2.ofDrew, hy2⟩
  case rest =>
  obtain ⟨hf2, hy2⟩ := hcut
  have HP2 := Hid.mk (And.intro hf2 hy2)
  clear k0 k1 k2 hlt1 hf2 hy2
  go_wp2_with fail
  go_ret
  refine ⟨rfl, mkTurn HO.out hN (Fr.refl [] w) HP.out (Fr.refl _ _) HP2.out.1 HP2.out.2 (Fr.refl _ _) HO.out.hB HO.out.hs ?_ ?_⟩
  · split
    · exact HO.out.f0
    · exact hA0
  · split
    · exact HO.out.f1
    · exact hA1

theorem extract_size (B : ByteArray) (n : Nat) (h : n ≤ B.size) : (B.extract 0 n).size = n := by simp [ByteArray.size_extract]; omega

set_option maxHeartbeats 1600000 in
set_option maxRecDepth 100000 in
theorem power_crash (N : Nat) (w : World) (x : Dv) (h : x.ok N w) (hN : N ≤ w.heap.size) (D A Bv C : Int) (hA0 : -9223372036854775808 ≤ A) (hA1 : A ≤ 9223372036854775807) (S : ByteArray) (r0 r1 r2 r3 r4 r5 r6 r7 r8 r9 r10 r11 r12 r13 : Value) :
    Calls Tryz.prog 89 #[P64 x.bd, opV 8 D A Bv C S r0 r1 r2 r3 r4 r5 r6 r7 r8 r9 r10 r11 r12 r13] w fun e w' => e = .returned (.bool true) ∧ ∃ x', Turn N w w' x x' := by
  have HO : Hid (x.ok N w) := h
  have HB : x.B.size ≤ 1048576 := by have := h.hB; have := h.q1; omega
  obtain ⟨c0, c1, c2, _⟩ := three h.hd
  have hlt := h.ltd
  clear h
  go_enter Tryz.func89, Tryz.ntmps89
  go_upto_region 8 with fail
  go_cut [] (fun wx => XPost w wx x.bx x.q (x.B.extract 0 (cN A x.s x.B.size)) (cN A x.s x.B.size) (-1) false x.rb ∧ wx.cell? ⟨w.heap.size, 2, none⟩ = some (.int .i64 A) ∧ w.heap.size < wx.heap.size)
  case first =>
    go_region_with (go_at_call 25; refine (crash_x _ _ _ _ _ _ _ _ (by exact HO.out.xd ((Fr.refl [] w).alloc _).drew) HO.out.hs HB _ hA0 hA1).mono ?_; rintro e w1 ⟨rfl, hf1, hx1⟩)
    all_goals (go_wp2_with fail; go_meet)
    all_goals
      have hp := XPost.same hf1 hx1
      have hsz := hp.1.size
      have hbx := HO.out.box5 (j := 2) (heap_alloc_new w _) hp.1.ofDrew rfl
      exact ⟨XPost.from ((Fr.refl [] w).alloc _).drew hp, hbx, by simp at hsz; omega⟩
  case rest =>
  obtain ⟨hp, hbx, hsz⟩ := hcut
  have hd1 := HO.out.hd1 (Fr.refl [] w) hp.1
  have HY : Hid (YD wc x.bY x.q x.B x.s (max x.f (-1)) x.d) := HO.out.yd (Fr.refl [] w) hp.1
  have HP := Hid.mk hp
  obtain ⟨k0, k1, k2, _⟩ := three hd1
  have hlt1 := lt_of_at hd1
  clear hd1 hp c0 c1 c2
  go_upto_region 10 with fail
  go_cut [] (fun wx => Fr [x.bY] wc wx ∧ YD wx x.bY x.q (x.B.extract 0 (cN A x.s x.B.size)) (cN A x.s x.B.size) (-1) false)
  case first =>
    go_region_with (go_at_call 115; refine (crash_y _ _ _ _ _ _ _ (by exact HY.out) HO.out.hs HB _ hA0 hA1).mono ?_; rintro e w1 ⟨rfl, hf2, hy2⟩)
    all_goals (go_wp2_with fail; go_meet)
    all_goals exact ⟨hf2.ofDrew, hy2⟩
  case rest =>
  obtain ⟨hf2, hy2⟩ := hcut
  have HP2 := Hid.mk (And.intro hf2 hy2)
  clear k0 k1 k2 hlt1 hf2 hy2
  go_wp2_with fail
  go_ret
  have hle := cN_le A x.s x.B.size HO.out.hs
  have hes := extract_size x.B _ hle
  have hB := HO.out.hB
  exact ⟨rfl, mkTurn HO.out hN (Fr.refl [] w) HP.out (Fr.refl _ _) HP2.out.1 HP2.out.2 (Fr.refl _ _) (by rw [hes]; omega) (by rw [hes]; omega) (by omega) (by omega)⟩

end Go.Proofs.YtifapongohmemaaGreatDoor
