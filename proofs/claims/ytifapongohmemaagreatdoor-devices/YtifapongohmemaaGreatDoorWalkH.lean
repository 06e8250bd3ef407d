/- plain: Append, Swap. -/
import Derived.Test.YtifapongohmemaaGreatDoorWalkG
namespace Go.Proofs.YtifapongohmemaaGreatDoor
open Go.RowKit

theorem XPost.from {w w0 w1 : World} {b : Nat} {q : Int} {B : ByteArray} {s : Nat} {f : Int} {d : Bool} {rb : Option Nat} (h0 : Fr [] w w0) (h : XPost w0 w1 b q B s f d rb) : XPost w w1 b q B s f d rb := by
  obtain ⟨h1, rb', h2, h3⟩ := h
  refine ⟨(h0.mono (by simp)).trans h1, rb', h2, ?_⟩
  rcases h3 with e | ⟨g, e, hle⟩
  · exact .inl e
  · exact .inr ⟨g, e, Nat.le_trans h0.size hle⟩

/-- The step's own box stands while the devices turn. -/
theorem Dv.ok.box {N : Nat} {w w0 w1 : World} {x : Dv} {o : Obj} (h : x.ok N w) (h0 : w0.heap[w.heap.size]? = some o) (hf : Fr (x.bx :: x.rb.toList) w0 w1) : w1.heap[w.heap.size]? = some o := by
  refine hf.at h0 (fun hm => ?_)
  have := h.lt w.heap.size (by simp only [List.mem_cons] at hm ⊢; rcases hm with hm | hm; exact .inl hm; exact .inr (.inr hm))
  omega

theorem Dv.ok.box5 {N : Nat} {w w0 w1 : World} {x : Dv} {c : Array Value} {t : TypeId} {j : Nat} {v : Value} (h : x.ok N w) (h0 : w0.heap[w.heap.size]? = some (.cells c t (0, 0))) (hf : Fr (x.bx :: x.rb.toList) w0 w1) (hj : c[j]? = some v) : w1.cell? ⟨w.heap.size, j, none⟩ = some v := by
  rw [cell_of_row w1 _ _ _ _ _ (h.box h0 hf)]
  exact hj

set_option maxHeartbeats 1600000 in
set_option maxRecDepth 100000 in
theorem plain_append (N : Nat) (w : World) (x : Dv) (h : x.ok N w) (hN : N ≤ w.heap.size) (D A Bv C : Int) (S : ByteArray) (hS : S.size ≤ 140737488351232) (r0 r1 r2 r3 r4 r5 r6 r7 r8 r9 r10 r11 r12 r13 : Value) :
    Calls Tryz.prog 47 #[P64 x.bd, opV 2 D A Bv C S r0 r1 r2 r3 r4 r5 r6 r7 r8 r9 r10 r11 r12 r13] w fun e w' => e = .returned (.bool true) ∧ ∃ x', Turn N w w' x x' := by
  have HO : Hid (x.ok N w) := h
  obtain ⟨c0, c1, c2, _⟩ := three h.hd
  have hlt := h.ltd
  clear h
  go_enter Tryz.func47, Tryz.ntmps47
  go_upto_region 3 with fail
  go_cut [5] (fun s5 wx => s5 = .int .i64 (aE (over x.q x.B S) x.f x.d) ∧ XPost w wx x.bx x.q (aB (over x.q x.B S) x.f x.d x.B (x.B ++ S)) x.s (aF (over x.q x.B S) x.f x.d) (aD (over x.q x.B S) x.f x.d) x.rb ∧ wx.cell? ⟨w.heap.size, 5, none⟩ = some (.string S) ∧ w.heap.size < wx.heap.size)
  case first =>
    go_region_with (go_at_call 30; refine (append_x _ _ _ _ _ _ _ _ (by exact HO.out.xd ((Fr.refl [] w).alloc _).drew) HO.out.f0 HO.out.f1 HO.out.q0 HO.out.q1 HO.out.hB _ hS).mono ?_; rintro e w1 ⟨rfl, hp⟩)
    all_goals (go_wp2_with fail; go_meet)
    all_goals
      have hsz := hp.1.size
      have hbx := HO.out.box5 (j := 5) (heap_alloc_new w _) hp.1.ofDrew rfl
      exact ⟨rfl, XPost.from ((Fr.refl [] w).alloc _).drew hp, hbx, by simp at hsz; omega⟩
  case rest =>
  obtain ⟨rfl, hp, hbx, hsz⟩ := hcut
  have hd1 := HO.out.hd1 (Fr.refl [] w) hp.1
  have HY : Hid (YD wc x.bY x.q x.B x.s (max x.f (-1)) x.d) := HO.out.yd (Fr.refl [] w) hp.1
  have HP := Hid.mk hp
  obtain ⟨k0, k1, k2, _⟩ := three hd1
  have hlt1 := lt_of_at hd1
  clear hd1 hp c0 c1 c2
  go_upto_region 4 with fail
  go_cut [6] (fun s6 wx => s6 = .int .i64 (aE (over x.q x.B S) x.f x.d) ∧ Fr [x.bY] wc wx ∧ YD wx x.bY x.q (aB (over x.q x.B S) x.f x.d x.B (x.B ++ S)) x.s (max (aF (over x.q x.B S) x.f x.d) (-1)) (aD (over x.q x.B S) x.f x.d))
  case first =>
    go_region_with (go_at_call 81; refine (append_y' _ _ _ _ _ _ _ (by exact HY.out) HO.out.f1 HO.out.q0 HO.out.q1 HO.out.hB _ hS).mono ?_; rintro e w1 ⟨rfl, hf2, hy2⟩)
    all_goals (go_wp2_with fail; go_meet)
    all_goals exact ⟨rfl, hf2.ofDrew, hy2⟩
  case rest =>
  obtain ⟨rfl, hf2, hy2⟩ := hcut
  have HP2 := Hid.mk (And.intro hf2 hy2)
  clear k0 k1 k2 hlt1 hf2 hy2
  go_wp2_with (go_at_call 80; refine (num_any _ _).mono ?_; rintro e w' ⟨rfl, rfl⟩)
  go_ret
  exact ⟨rfl, mkTurn HO.out hN (Fr.refl [] w) HP.out (Fr.refl _ _) HP2.out.1 HP2.out.2 (Fr.refl _ _) (aB_size _ _ _ _ _ HO.out.hB) (aB_le _ _ _ _ _ _ HO.out.hs) (aF_range _ _ _ HO.out.f0 HO.out.f1).1 (aF_range _ _ _ HO.out.f0 HO.out.f1).2⟩

end Go.Proofs.YtifapongohmemaaGreatDoor
