/- played, Devices. -/
import Derived.Test.YtifapongohmemaaGreatDoorWalkM
namespace Go.Proofs.YtifapongohmemaaGreatDoor
open Go.RowKit

/-- A step of the script lies in memory. -/
def StepAt (w : World) (b o : Nat) : Prop := ∃ (k D A Bv C : Int) (S : ByteArray) (r0 r1 r2 r3 r4 r5 r6 r7 r8 r9 r10 r11 r12 r13 : Value),
  w.rangeAt b o [.int .i64 k, .int .i64 D, .int .i64 A, .int .i64 Bv, .int .i64 C, .string S, r0, r1, r2, r3, r4, r5, r6, r7, r8, r9, r10, r11, r12, r13] ∧
  (-9223372036854775808 ≤ D ∧ D ≤ 9223372036854775807) ∧ (-9223372036854775808 ≤ A ∧ A ≤ 9223372036854775807) ∧ S.size ≤ 140737488351232

theorem StepAt.below {N : Nat} {w w' : World} {b o : Nat} (h : StepAt w b o) (hb : b < N) (hB : Below N w w') : StepAt w' b o := by
  obtain ⟨k, D, A, Bv, C, S, r0, r1, r2, r3, r4, r5, r6, r7, r8, r9, r10, r11, r12, r13, h1, h2⟩ := h
  exact ⟨k, D, A, Bv, C, S, r0, r1, r2, r3, r4, r5, r6, r7, r8, r9, r10, r11, r12, r13, fun j v hj => by rw [hB.cell (p := ⟨b, o + j, none⟩) hb]; exact h1 j v hj, h2⟩

theorem Inv.start (w : World) : Inv w.heap.size w.heap.size (w.alloc (.cells #[.slice none 0 0, .slice none 0 0, .slice none 0 0] 92)) [] :=
  ⟨Nat.le_refl _, ⟨_, heap_alloc_new w _, World.ownsRow_nil _ _ _ _⟩, by simp, by simp⟩

set_option maxHeartbeats 1600000 in
set_option maxRecDepth 100000 in
theorem played_any (w : World) (b off n cap : Nat) (hb : b < w.heap.size) (hn : n * 184 ≤ 140737488351232) (hsc : ∀ i, i < n → StepAt w b (off + i * 20)) :
    Calls Tryz.prog 14 #[.slice (some ⟨b, off, none⟩) n cap, .int .i64 8] w fun e w' => e = .returned (.bool true) ∧ Below w.heap.size w w' := by
  have HSC := Hid.mk hsc
  clear hsc
  go_enter Tryz.func14, Tryz.ntmps14
  go_wp2_with fail
  refine (made_ok w.heap.size w.heap.size _ [] (Inv.start w) (by simp) (by simp) 100 (by omega) (by omega)).mono ?_
  rintro e w1 ⟨rfl, x, hinv, hbl⟩
  simp only [List.nil_append] at hinv
  have HI := Hid.mk hinv
  have HB : Hid (Below w.heap.size w w1) := (((Fr.refl [] w).alloc _).below (Nat.le_refl _) (by simp)).trans hbl
  obtain ⟨a, cap1, hp, hcells⟩ := hinv.slice
  obtain ⟨g, rfl, hcell⟩ := hcells (by simp)
  have hc0 := hcell 0 (by simp)
  simp only [List.length_singleton, List.getElem_cons_zero] at hp hc0
  obtain ⟨c0, c1, c2, _⟩ := three hp
  clear hinv hbl hp hcells hcell
  go_wp2_with fail
  refine (plain_append w.heap.size w1 x (HI.out.each x (by simp)) HB.out.size 0 0 0 0 _ (by decide) _ _ _ _ _ _ _ _ _ _ _ _ _ _).mono ?_
  rintro e w2 ⟨rfl, x', ht⟩
  have HI2 : Hid (Inv w.heap.size w.heap.size w2 [x']) := HI.out.turn 0 (by simp) x' ht
  have HB2 : Hid (Below w.heap.size w w2) := HB.out.trans (ht.below (HI.out.each x (by simp)) HB.out.size)
  clear ht c0 c1 c2 hc0 HI HB
  go_wp2_with fail
  go_loopw [6, 7] (fun s6 s7 wr => ∃ (kk : Nat) (ds : List Dv), kk ≤ n ∧ s7 = .int .i64 kk ∧ s6 = .bool true ∧ Inv w.heap.size w.heap.size wr ds ∧ ds.length ≤ kk + 1 ∧ Below w.heap.size w wr) (fun _ s7 _ => n - (intOf s7).toNat)
  case atStart => exact ⟨0, [x'], Nat.zero_le _, rfl, rfl, HI2.out, by simp, HB2.out⟩
  case round =>
    obtain ⟨kk, ds, hkk, rfl, rfl, hinv, hdl, hbl⟩ := hrel
    have HI := Hid.mk hinv
    have HB := Hid.mk hbl
    clear hinv hbl HI2 HB2
    by_cases hlt : kk < n
    · obtain ⟨k, D, A, Bv, C, S, r0, r1, r2, r3, r4, r5, r6, r7, r8, r9, r10, r11, r12, r13, hrg, hD, hA, hS⟩ := (HSC.out kk hlt).below hb HB.out
      have hk0 : wr.cell? ⟨b, off + kk * 20, none⟩ = some (.int .i64 k) := hrg 0 _ rfl
      have HG := Hid.mk hrg
      clear hrg
      by_cases hk8 : k ≤ 8
      · go_wp2_with (refine wpList_load_mid rfl 97 (.tmp 48) rfl b (off + kk * 20) rfl _ _ HG.out Tryz.underlying97 rfl Tryz.sizeOp ?_)
        refine (step_all w.heap.size w.heap.size wr ds HI.out HB.out.size (by omega) k D A Bv C hk8 hD.1 hD.2 hA.1 hA.2 S hS r0 r1 r2 r3 r4 r5 r6 r7 r8 r9 r10 r11 r12 r13).mono ?_
        rintro e w3 ⟨rfl, ds', hinv', hlen', hbl'⟩
        obtain ⟨v, hp', _⟩ := hinv'.world
        have HP := Hid.mk hp'
        have HI3 := Hid.mk hinv'
        have HB3 := Hid.mk (HB.out.trans hbl')
        have hl3 : ds'.length ≤ kk + 2 := by omega
        clear hp' hinv' hbl' hk0 hlen'
        go_wp2_with (go_at_call 49; refine (looks_any _ _ _ HP.out).mono ?_; rintro e w' ⟨rfl, rfl⟩)
        go_roundw
        case rel => exact ⟨kk + 1, ds', by omega, by go_num, rfl, HI3.out, by omega, HB3.out⟩
        case measure => simp [intOf]; omega
      · have hk9 : 8 < k := by omega
        go_wp2_with fail
        go_roundw
        case rel => exact ⟨kk + 1, ds, by omega, by go_num, rfl, HI.out, by omega, HB.out⟩
        case measure => simp [intOf]; omega
    · go_wp2_with fail
      go_ret
      exact ⟨rfl, HB.out⟩

set_option maxHeartbeats 1600000 in
set_option maxRecDepth 100000 in
theorem played_nil (w : World) (a0 : Option Addr) (cap : Nat) :
    Calls Tryz.prog 14 #[.slice a0 0 cap, .int .i64 8] w fun e w' => e = .returned (.bool true) ∧ Below w.heap.size w w' := by
  go_enter Tryz.func14, Tryz.ntmps14
  go_wp2_with fail
  refine (made_ok w.heap.size w.heap.size _ [] (Inv.start w) (by simp) (by simp) 100 (by omega) (by omega)).mono ?_
  rintro e w1 ⟨rfl, x, hinv, hbl⟩
  simp only [List.nil_append] at hinv
  have HI := Hid.mk hinv
  have HB : Hid (Below w.heap.size w w1) := (((Fr.refl [] w).alloc _).below (Nat.le_refl _) (by simp)).trans hbl
  obtain ⟨a, cap1, hp, hcells⟩ := hinv.slice
  obtain ⟨g, rfl, hcell⟩ := hcells (by simp)
  have hc0 := hcell 0 (by simp)
  simp only [List.length_singleton, List.getElem_cons_zero] at hp hc0
  obtain ⟨c0, c1, c2, _⟩ := three hp
  clear hinv hbl hp hcells hcell
  go_wp2_with fail
  refine (plain_append w.heap.size w1 x (HI.out.each x (by simp)) HB.out.size 0 0 0 0 _ (by decide) _ _ _ _ _ _ _ _ _ _ _ _ _ _).mono ?_
  rintro e w2 ⟨rfl, x', ht⟩
  have HB2 : Hid (Below w.heap.size w w2) := HB.out.trans (ht.below (HI.out.each x (by simp)) HB.out.size)
  clear ht c0 c1 c2 hc0 HI HB
  go_wp2_with fail
  refine wp_loop_rounds 1 ?_
  rw [rounds_succ]
  go_wp2_with fail
  go_ret
  exact ⟨rfl, HB2.out⟩

set_option maxHeartbeats 400000 in
theorem devices_any (w : World) (b off n cap : Nat) (hb : b < w.heap.size) (hn : n * 184 ≤ 140737488351232) (hsc : ∀ i, i < n → StepAt w b (off + i * 20)) :
    Calls Tryz.prog 3 #[.slice (some ⟨b, off, none⟩) n cap] w fun e w' => e = .returned (.bool true) ∧ Below w.heap.size w w' := by
  have HSC := Hid.mk hsc
  clear hsc
  go_enter Tryz.func3, Tryz.ntmps3
  go_wp2_with fail
  refine (played_any w b off n cap hb hn HSC.out).mono ?_
  rintro e w1 ⟨rfl, hbl⟩
  go_wp2_with fail
  go_ret
  exact ⟨rfl, hbl⟩

set_option maxHeartbeats 400000 in
theorem devices_nil (w : World) (a0 : Option Addr) (cap : Nat) :
    Calls Tryz.prog 3 #[.slice a0 0 cap] w fun e w' => e = .returned (.bool true) ∧ Below w.heap.size w w' := by
  go_enter Tryz.func3, Tryz.ntmps3
  go_wp2_with fail
  refine (played_nil w a0 cap).mono ?_
  rintro e w1 ⟨rfl, hbl⟩
  go_wp2_with fail
  go_ret
  exact ⟨rfl, hbl⟩

end Go.Proofs.YtifapongohmemaaGreatDoor
