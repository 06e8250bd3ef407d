/- step: a step on a device. -/
import Derived.Test.YtifapongohmemaaGreatDoorWalkL
import Derived.Deep.MidRow
namespace Go.Proofs.YtifapongohmemaaGreatDoor
open Go.RowKit

theorem mid_of_row {w : World} {g : Nat} {cs : List Value} {t : TypeId} (h : w.heap[g]? = some (.cells cs.toArray t (0, 0))) : w.rangeAt g 0 cs := by
  intro j v hv
  rw [Nat.zero_add, cell_of_row w g j _ t (0, 0) h]
  simpa using hv

theorem Tryz.sizeOp : (Tryz.prog.info? 97).map (·.size) = some 20 := by kernel_rfl

set_option maxHeartbeats 1600000 in
set_option maxRecDepth 100000 in
theorem step_plain (N pw : Nat) (w : World) (ds : List Dv) (h : Inv N pw w ds) (hN : N ≤ w.heap.size) (hlen : (ds.length + 1) * 8 ≤ 140737488355328) (k D A Bv C : Int) (hD0 : -9223372036854775808 ≤ D) (hD1 : D ≤ 9223372036854775807) (S : ByteArray) (hS : S.size ≤ 140737488351232) (hk1 : 2 ≤ k) (hk2 : k ≤ 6) (hpos : 0 < ds.length) (r0 r1 r2 r3 r4 r5 r6 r7 r8 r9 r10 r11 r12 r13 : Value) :
    Calls Tryz.prog 48 #[P64 pw, opV k D A Bv C S r0 r1 r2 r3 r4 r5 r6 r7 r8 r9 r10 r11 r12 r13] w (Done N pw w ds) := by
  have HI := Hid.mk h
  obtain ⟨a, cap, hp, hcells⟩ := h.slice
  obtain ⟨g, rfl, hcell⟩ := hcells hpos
  obtain ⟨c0, c1, c2, _⟩ := three hp
  have hlt := lt_of_at hp
  have e1 : (k == 1) = false := by simp; omega
  have e2 : ((ds.length : Int) == 0) = false := by simp; intro e; simp [e] at hpos
  have hil := pk_lt D ds.length hpos
  have hce := hcell _ hil
  have hok := h.each _ (List.getElem_mem hil)
  have hbd := lt_of_at hok.hd
  have hgl := block_lt_of_cell hce
  simp only at hgl
  obtain ⟨k0, k1, k2, _⟩ := three hok.hd
  have HO := Hid.mk hok
  have hpi : ((pk D ds.length : Nat) : Int) < (ds.length : Int) := by omega
  clear h hp hcells hcell hok
  go_enter Tryz.func48, Tryz.ntmps48
  go_wp2_with fail
  go_quiet ((go_at_call 88; exact Calls.quiet_of_same (pick_any _ _ _ hD0 hD1 hpos (by omega))))
  go_upto_region 9 with fail
  have hbox : ((w.alloc (.cells #[.int .i64 k, .int .i64 D, .int .i64 A, .int .i64 Bv, .int .i64 C, .string S, r0, r1, r2, r3, r4, r5, r6, r7, r8, r9, r10, r11, r12, r13] 97)).drewN nq).heap[w.heap.size]? = some (.cells #[.int .i64 k, .int .i64 D, .int .i64 A, .int .i64 Bv, .int .i64 C, .string S, r0, r1, r2, r3, r4, r5, r6, r7, r8, r9, r10, r11, r12, r13] 97 (0, 0)) := heap_alloc_new w _
  have HB := Hid.mk hbox
  clear hbox
  go_wp2_with (refine wpList_load_row rfl 97 (.tmp 3) rfl w.heap.size rfl 97 _ _ _ HB.out Tryz.underlying97 rfl Tryz.sizeOp ?_)
  have hfr : ∀ o : Obj, Fr [] w ((w.alloc o).drewN nq) := fun o => ((Fr.refl [] w).alloc o).drewN nq
  refine (plain_all N _ ds[pk D ds.length] ((HI.out.fr0 (hfr _)).each _ (List.getElem_mem hil)) (Nat.le_trans hN (hfr _).size) k D A Bv C S hS hk1 hk2 r0 r1 r2 r3 r4 r5 r6 r7 r8 r9 r10 r11 r12 r13).mono ?_
  rintro e w1 ⟨rfl, x', ht⟩
  have HD := Hid.mk (done_turn (HI.out.fr0 (hfr _)) hN (hfr _) _ hil ht)
  clear ht hfr
  go_wp2_with fail
  go_ret
  exact HD.out

set_option maxHeartbeats 1600000 in
set_option maxRecDepth 100000 in
theorem step_power (N pw : Nat) (w : World) (ds : List Dv) (h : Inv N pw w ds) (hN : N ≤ w.heap.size) (hlen : (ds.length + 1) * 8 ≤ 140737488355328) (k D A Bv C : Int) (hD0 : -9223372036854775808 ≤ D) (hD1 : D ≤ 9223372036854775807) (hA0 : -9223372036854775808 ≤ A) (hA1 : A ≤ 9223372036854775807) (S : ByteArray) (hk1 : 7 ≤ k) (hk2 : k ≤ 8) (hpos : 0 < ds.length) (r0 r1 r2 r3 r4 r5 r6 r7 r8 r9 r10 r11 r12 r13 : Value) :
    Calls Tryz.prog 48 #[P64 pw, opV k D A Bv C S r0 r1 r2 r3 r4 r5 r6 r7 r8 r9 r10 r11 r12 r13] w (Done N pw w ds) := by
  have HI := Hid.mk h
  obtain ⟨a, cap, hp, hcells⟩ := h.slice
  obtain ⟨g, rfl, hcell⟩ := hcells hpos
  obtain ⟨c0, c1, c2, _⟩ := three hp
  have hlt := lt_of_at hp
  have e1 : (k == 1) = false := by simp; omega
  have e2 : ((ds.length : Int) == 0) = false := by simp; intro e; simp [e] at hpos
  have hil := pk_lt D ds.length hpos
  have hce := hcell _ hil
  have hok := h.each _ (List.getElem_mem hil)
  have hbd := lt_of_at hok.hd
  have hgl := block_lt_of_cell hce
  simp only at hgl
  obtain ⟨k0, k1, k2, _⟩ := three hok.hd
  have HO := Hid.mk hok
  have hpi : ((pk D ds.length : Nat) : Int) < (ds.length : Int) := by omega
  clear h hp hcells hcell hok
  go_enter Tryz.func48, Tryz.ntmps48
  go_wp2_with fail
  go_quiet ((go_at_call 88; exact Calls.quiet_of_same (pick_any _ _ _ hD0 hD1 hpos (by omega))))
  go_upto_region 11 with fail
  have hbox : ((w.alloc (.cells #[.int .i64 k, .int .i64 D, .int .i64 A, .int .i64 Bv, .int .i64 C, .string S, r0, r1, r2, r3, r4, r5, r6, r7, r8, r9, r10, r11, r12, r13] 97)).drewN nq).heap[w.heap.size]? = some (.cells #[.int .i64 k, .int .i64 D, .int .i64 A, .int .i64 Bv, .int .i64 C, .string S, r0, r1, r2, r3, r4, r5, r6, r7, r8, r9, r10, r11, r12, r13] 97 (0, 0)) := heap_alloc_new w _
  have HB := Hid.mk hbox
  clear hbox
  go_wp2_with (refine wpList_load_row rfl 97 (.tmp 3) rfl w.heap.size rfl 97 _ _ _ HB.out Tryz.underlying97 rfl Tryz.sizeOp ?_)
  have hfr : ∀ o : Obj, Fr [] w ((w.alloc o).drewN nq) := fun o => ((Fr.refl [] w).alloc o).drewN nq
  have hpower : ∀ W : World, Fr [] w W → Calls Tryz.prog 89 #[P64 ds[pk D ds.length].bd, opV k D A Bv C S r0 r1 r2 r3 r4 r5 r6 r7 r8 r9 r10 r11 r12 r13] W fun e w' => e = .returned (.bool true) ∧ ∃ x', Turn N W w' ds[pk D ds.length] x' := by
    intro W hW
    rcases (by omega : k = 7 ∨ k = 8) with rfl | rfl
    · exact power_fuse N W _ ((HI.out.fr0 hW).each _ (List.getElem_mem hil)) (Nat.le_trans hN hW.size) D A Bv C hA0 hA1 S r0 r1 r2 r3 r4 r5 r6 r7 r8 r9 r10 r11 r12 r13
    · exact power_crash N W _ ((HI.out.fr0 hW).each _ (List.getElem_mem hil)) (Nat.le_trans hN hW.size) D A Bv C hA0 hA1 S r0 r1 r2 r3 r4 r5 r6 r7 r8 r9 r10 r11 r12 r13
  refine (hpower _ (hfr _)).mono ?_
  rintro e w1 ⟨rfl, x', ht⟩
  have HD := Hid.mk (done_turn (HI.out.fr0 (hfr _)) hN (hfr _) _ hil ht)
  clear ht hfr hpower
  go_wp2_with fail
  go_ret
  exact HD.out

theorem step_all (N pw : Nat) (w : World) (ds : List Dv) (h : Inv N pw w ds) (hN : N ≤ w.heap.size) (hlen : (ds.length + 1) * 8 ≤ 140737488355328) (k D A Bv C : Int) (hk : k ≤ 8) (hD0 : -9223372036854775808 ≤ D) (hD1 : D ≤ 9223372036854775807) (hA0 : -9223372036854775808 ≤ A) (hA1 : A ≤ 9223372036854775807) (S : ByteArray) (hS : S.size ≤ 140737488351232) (r0 r1 r2 r3 r4 r5 r6 r7 r8 r9 r10 r11 r12 r13 : Value) :
    Calls Tryz.prog 48 #[P64 pw, opV k D A Bv C S r0 r1 r2 r3 r4 r5 r6 r7 r8 r9 r10 r11 r12 r13] w (Done N pw w ds) := by
  by_cases h1 : k = 1
  · subst h1
    exact step_made N pw w ds h hN hlen D A Bv C S r0 r1 r2 r3 r4 r5 r6 r7 r8 r9 r10 r11 r12 r13
  · by_cases h2 : ds.length = 0 ∨ k < 1
    · exact step_none N pw w ds h hN k D A Bv C S h1 h2 r0 r1 r2 r3 r4 r5 r6 r7 r8 r9 r10 r11 r12 r13
    · by_cases h3 : k ≤ 6
      · exact step_plain N pw w ds h hN hlen k D A Bv C hD0 hD1 S hS (by omega) h3 (by omega) r0 r1 r2 r3 r4 r5 r6 r7 r8 r9 r10 r11 r12 r13
      · exact step_power N pw w ds h hN hlen k D A Bv C hD0 hD1 hA0 hA1 S (by omega) hk (by omega) r0 r1 r2 r3 r4 r5 r6 r7 r8 r9 r10 r11 r12 r13

end Go.Proofs.YtifapongohmemaaGreatDoor
