/- step: one step of a script, of the kinds up to KCrash. -/
import Derived.Test.YtifapongohmemaaGreatDoorWalkK
namespace Go.Proofs.YtifapongohmemaaGreatDoor
open Go.RowKit

theorem Inv.fr0 {N pw : Nat} {w w' : World} {ds : List Dv} (h : Inv N pw w ds) (hf : Fr [] w w') : Inv N pw w' ds := by
  obtain ⟨v, h1, h2⟩ := h.world
  exact ⟨h.np, ⟨v, hf.at h1 (by simp), hf.ownsRow h2 (by simp)⟩, fun x hx => (h.each x hx).keptTy hf (by simp), h.apart⟩

theorem Inv.slice {N pw : Nat} {w : World} {ds : List Dv} (h : Inv N pw w ds) : ∃ a cap, w.heap[pw]? = some (.cells #[.slice a ds.length cap, .slice none 0 0, .slice none 0 0] 92 (0, 0)) ∧
    (0 < ds.length → ∃ g, a = some ⟨g, 0, none⟩ ∧ ∀ i (hi : i < ds.length), w.cell? ⟨g, i, none⟩ = some (P64 ds[i].bd)) := by
  obtain ⟨v, h1, h2⟩ := h.world
  rcases h2.2 with ⟨rfl, h3⟩ | ⟨g, cap, cur, rfl, _, h4, _⟩
  · exact ⟨none, 0, by rw [h1, h3], fun h => by omega⟩
  · refine ⟨_, cap, h1, fun _ => ⟨g, rfl, fun i hi => ?_⟩⟩
    have := h2.cells (g := g) rfl i (P64 ds[i].bd) (by simp [hi])
    rwa [Addr.add_lit, Nat.zero_add] at this

def Done (N pw : Nat) (w : World) (ds : List Dv) (e : Ending) (w' : World) : Prop := e = .returned (.bool true) ∧ ∃ ds', Inv N pw w' ds' ∧ ds'.length ≤ ds.length + 1 ∧ Below N w w'

theorem done_turn {N pw : Nat} {w w0 w' : World} {ds : List Dv} (h : Inv N pw w0 ds) (hN : N ≤ w.heap.size) (h0 : Fr [] w w0) (i : Nat) (hi : i < ds.length) {x' : Dv} (ht : Turn N w0 w' ds[i] x') : Done N pw w ds (.returned (.bool true)) w' :=
  ⟨rfl, _, h.turn i hi x' ht, by simp, (h0.below hN (by simp)).trans (ht.below (h.each _ (List.getElem_mem hi)) (Nat.le_trans hN h0.size))⟩

set_option maxHeartbeats 800000 in
set_option maxRecDepth 100000 in
theorem step_made (N pw : Nat) (w : World) (ds : List Dv) (h : Inv N pw w ds) (hN : N ≤ w.heap.size) (hlen : (ds.length + 1) * 8 ≤ 140737488355328) (D A Bv C : Int) (S : ByteArray) (r0 r1 r2 r3 r4 r5 r6 r7 r8 r9 r10 r11 r12 r13 : Value) :
    Calls Tryz.prog 48 #[P64 pw, opV 1 D A Bv C S r0 r1 r2 r3 r4 r5 r6 r7 r8 r9 r10 r11 r12 r13] w (Done N pw w ds) := by
  have HI := Hid.mk h
  clear h
  go_enter Tryz.func48, Tryz.ntmps48
  go_wp2_with fail
  by_cases hq : 0 ≤ A ∧ A ≤ 1048576
  · refine (made_ok N pw _ ds (HI.out.fr0 ((Fr.refl [] w).alloc _)) (by simp; omega) hlen A hq.1 hq.2).mono ?_
    rintro e w1 ⟨rfl, x, h1, h2⟩
    have HD : Hid (Done N pw w ds (.returned (.bool true)) w1) := ⟨rfl, _, h1, by simp, (((Fr.refl [] w).alloc _).below hN (by simp)).trans h2⟩
    clear h1 h2 hq
    go_wp2_with fail
    go_ret
    exact HD.out
  · refine (made_bad _ pw A (by omega)).mono ?_
    rintro e w1 ⟨rfl, rfl⟩
    clear hq
    go_wp2_with fail
    go_ret
    exact ⟨rfl, ds, HI.out.fr0 ((Fr.refl [] w).alloc _), by omega, ((Fr.refl [] w).alloc _).below hN (by simp)⟩

set_option maxHeartbeats 800000 in
set_option maxRecDepth 100000 in
theorem step_none (N pw : Nat) (w : World) (ds : List Dv) (h : Inv N pw w ds) (hN : N ≤ w.heap.size) (k D A Bv C : Int) (S : ByteArray) (hk : k ≠ 1) (hno : ds.length = 0 ∨ k < 1) (r0 r1 r2 r3 r4 r5 r6 r7 r8 r9 r10 r11 r12 r13 : Value) :
    Calls Tryz.prog 48 #[P64 pw, opV k D A Bv C S r0 r1 r2 r3 r4 r5 r6 r7 r8 r9 r10 r11 r12 r13] w (Done N pw w ds) := by
  have HI := Hid.mk h
  obtain ⟨a, cap, hp, _⟩ := h.slice
  obtain ⟨c0, c1, c2, _⟩ := three hp
  have hlt := lt_of_at hp
  have hk1 : (k == 1) = false := by simp [hk]
  clear h hp hk
  have HD : Hid (∀ o : Obj, Done N pw w ds (.returned (.bool true)) (w.alloc o)) := fun o => ⟨rfl, ds, HI.out.fr0 ((Fr.refl [] w).alloc _), by omega, ((Fr.refl [] w).alloc _).below hN (by simp)⟩
  by_cases h0 : ds.length = 0
  · rw [h0] at c0
    have H0 := Hid.mk h0
    clear h0 hno
    go_enter Tryz.func48, Tryz.ntmps48
    go_wp2_with fail
    go_ret
    exact HD.out _
  · have h1 : k < 1 := by omega
    have h2 : ((ds.length : Int) == 0) = false := by simp; intro e; simp [e] at h0
    clear hno h0
    go_enter Tryz.func48, Tryz.ntmps48
    go_wp2_with fail
    go_ret
    exact HD.out _

end Go.Proofs.YtifapongohmemaaGreatDoor
