/- Append of the document's device; Swap, Crash, NewDevice of both. -/
import Derived.Test.YtifapongohmemaaGreatDoorWalkC
namespace Go.Proofs.YtifapongohmemaaGreatDoor
open Go.RowKit

set_option maxHeartbeats 800000 in
set_option maxRecDepth 100000 in
theorem append_y (w : World) (b : Nat) (q : Int) (B : ByteArray) (s : Nat) (f : Int) (d : Bool) (h : YD w b q B s f d) (hlo : -9223372036854775808 ≤ f) (hhi : f ≤ 9223372036854775807)
    (hq0 : 0 ≤ q) (hq : q ≤ 1048576) (hB : (B.size : Int) ≤ q) (S : ByteArray) (hS : S.size ≤ 140737488351232) :
    Calls Tryz.prog 81 #[P64 b, .string S] w fun e w' => e = .returned (.int .i64 (aE (over q B S) f d)) ∧ Fr [b] w w' ∧
      YD w' b q (aB (over q B S) f d B (B ++ S)) s (aF (over q B S) f d) (aD (over q B S) f d) := by
  unfold YD at h
  obtain ⟨⟨c0, c1, c2, c3, c4⟩, f1, f2, f3, f4⟩ := five h
  have H : Hid (w.heap[b]? = _) := h
  clear h
  cases d with
  | true =>
    have e0 : aF (over q B S) f true = f := by unfold aF; split <;> rfl
    have e1 : aD (over q B S) f true = true := by unfold aD; split <;> rfl
    rw [e0, e1]
    clear e0 e1
    go_enter Tryz.func81, Tryz.ntmps81
    go_wp2_with fail
    go_ret
    exact ⟨rfl, Fr.refl _ _, H.out⟩
  | false =>
    by_cases ho : q < (B.size : Int) + S.size
    · have e : over q B S = true := by simp [over, ho]
      rw [e]
      clear e
      go_enter Tryz.func81, Tryz.ntmps81
      go_wp2_with fail
      go_quiet (fail)
      go_wp2_with fail
      go_ret
      exact ⟨rfl, (Fr.refl _ _).drewN _, H.out⟩
    · have e : over q B S = false := by simp only [over, ho, decide_false]
      rw [e]
      clear e
      by_cases hf : f = 0
      · subst hf
        go_enter Tryz.func81, Tryz.ntmps81
        go_wp2_with fail
        go_quiet (fail)
        go_wp2_with (go_at_call 113; refine (burnt_dead _ _ _ _ _ _ (by exact H.out)).mono ?_; rintro e w' ⟨rfl, hfr, hb⟩)
        go_ret
        exact ⟨rfl, hfr.ofDrewN, hb⟩
      · have e0 : aE false f false = 0 := bE_ok hf
        have e1 : aB false f false B (B ++ S) = B ++ S := by simp [aB, hf]
        have e2 : aF false f false = bF f false := rfl
        have e3 : aD false f false = false := bD_ok hf
        rw [e0, e1, e2, e3]
        clear e0 e1 e2 e3
        go_enter Tryz.func81, Tryz.ntmps81
        go_wp2_with fail
        go_quiet (fail)
        go_wp2_with fail
        refine (burnt_ok _ _ _ _ _ _ _ (by exact H.out) hf rfl hlo hhi).mono ?_
        rintro e w1 ⟨rfl, hfr, hb⟩
        obtain ⟨⟨d0, d1, d2, d3, d4⟩, g1, g2, g3, g4⟩ := five hb
        have Hb : Hid (w1.heap[b]? = _) := hb
        have Hf : Hid (Fr [b] w w1) := hfr.ofDrewN
        clear hb hfr
        clear c0 c1 c2 c3 c4 f1 f2 f3 f4
        go_wp2_with fail
        go_ret
        exact ⟨rfl, Hf.out.setCell (by simp) _, setFive 1 _ Hb.out⟩

def overS (q : Int) (S : ByteArray) : Bool := decide (q < (S.size : Int))

set_option maxHeartbeats 800000 in
set_option maxRecDepth 100000 in
theorem swap_y (w : World) (b : Nat) (q : Int) (B : ByteArray) (s : Nat) (f : Int) (d : Bool) (h : YD w b q B s f d) (hlo : -9223372036854775808 ≤ f) (hhi : f ≤ 9223372036854775807)
    (S : ByteArray) :
    Calls Tryz.prog 84 #[P64 b, .string S] w fun e w' => e = .returned (.int .i64 (aE (overS q S) f d)) ∧ Fr [b] w w' ∧
      YD w' b q (aB (overS q S) f d B S) (aS (overS q S) f d s S.size) (aF (overS q S) f d) (aD (overS q S) f d) := by
  unfold YD at h
  obtain ⟨⟨c0, c1, c2, c3, c4⟩, f1, f2, f3, f4⟩ := five h
  have H : Hid (w.heap[b]? = _) := h
  clear h
  cases d with
  | true =>
    have e0 : aF (overS q S) f true = f := by unfold aF; split <;> rfl
    have e1 : aD (overS q S) f true = true := by unfold aD; split <;> rfl
    rw [e0, e1]
    clear e0 e1
    go_enter Tryz.func84, Tryz.ntmps84
    go_wp2_with fail
    go_ret
    exact ⟨rfl, Fr.refl _ _, H.out⟩
  | false =>
    by_cases ho : q < (S.size : Int)
    · have e : overS q S = true := by simp [overS, ho]
      rw [e]
      clear e
      go_enter Tryz.func84, Tryz.ntmps84
      go_wp2_with fail
      go_ret
      exact ⟨rfl, Fr.refl _ _, H.out⟩
    · have e : overS q S = false := by simp only [overS, ho, decide_false]
      rw [e]
      clear e
      by_cases hf : f = 0
      · subst hf
        go_enter Tryz.func84, Tryz.ntmps84
        go_wp2_with (go_at_call 113; refine (burnt_dead _ _ _ _ _ _ (by exact H.out)).mono ?_; rintro e w' ⟨rfl, hfr, hb⟩)
        go_ret
        exact ⟨rfl, hfr, hb⟩
      · have e0 : aE false f false = 0 := bE_ok hf
        have e1 : aB false f false B S = S := by simp [aB, hf]
        have e2 : aF false f false = bF f false := rfl
        have e3 : aD false f false = false := bD_ok hf
        have e4 : aS false f false s S.size = S.size := by simp [aS, hf]
        rw [e0, e1, e2, e3, e4]
        clear e0 e1 e2 e3 e4
        go_enter Tryz.func84, Tryz.ntmps84
        go_wp2_with fail
        refine (burnt_ok _ _ _ _ _ _ _ (by exact H.out) hf rfl hlo hhi).mono ?_
        rintro e w1 ⟨rfl, hfr, hb⟩
        obtain ⟨⟨d0, d1, d2, d3, d4⟩, g1, g2, g3, g4⟩ := five hb
        have Hb : Hid (w1.heap[b]? = _) := hb
        clear hb
        clear c0 c1 c2 c3 c4 f1 f2 f3 f4
        go_wp2_with fail
        go_ret
        exact ⟨rfl, (hfr.setCell (by simp) _).setCell (by simp) _, setFive 2 _ (setFive 1 _ Hb.out)⟩

set_option maxHeartbeats 800000 in
set_option maxRecDepth 100000 in
theorem swap_x (w : World) (b : Nat) (q : Int) (B : ByteArray) (s : Nat) (f : Int) (d : Bool) (rb : Option Nat) (h : XD w b q B s f d rb) (hlo : -9223372036854775808 ≤ f) (hhi : f ≤ 9223372036854775807)
    (hq0 : 0 ≤ q) (hq : q ≤ 1048576) (S : ByteArray) (hS : S.size ≤ 140737488351232) :
    Calls Tryz.prog 83 #[P64 b, .string S] w fun e w' => e = .returned (.int .i64 (aE (overS q S) f d)) ∧
      XPost w w' b q (aB (overS q S) f d B S) (aS (overS q S) f d s S.size) (aF (overS q S) f d) (aD (overS q S) f d) rb := by
  obtain ⟨v, n7, h1, h2⟩ := h
  obtain ⟨a, cap, rfl, hc1, hc2⟩ := h2.len
  have hne := h2.rowNe h1 (by decide)
  have R : Hid (Row w _ rb B) := h2
  have N : Hid (∀ g, rb = some g → g ≠ b) := hne
  obtain ⟨⟨c0, c1, c2, c3, c4⟩, f1, f2, f3, f4⟩ := seven h1
  have H : Hid (w.heap[b]? = _) := h1
  clear h1 h2 hne
  cases d with
  | true =>
    have e0 : aF (overS q S) f true = f := by unfold aF; split <;> rfl
    have e1 : aD (overS q S) f true = true := by unfold aD; split <;> rfl
    rw [e0, e1]
    clear e0 e1
    go_enter Tryz.func83, Tryz.ntmps83
    go_wp2_with (go_at_call 51; refine (isDead_any _ _ _ _ _ _ _ H.out).mono ?_; rintro e w' ⟨rfl, rfl⟩)
    go_ret
    exact ⟨rfl, .same (Fr.refl _ _) ⟨_, _, H.out, R.out⟩⟩
  | false =>
    by_cases ho : q < (S.size : Int)
    · have e : overS q S = true := by simp [overS, ho]
      rw [e]
      clear e
      go_enter Tryz.func83, Tryz.ntmps83
      go_wp2_with (go_at_call 51; refine (isDead_any _ _ _ _ _ _ _ H.out).mono ?_; rintro e w' ⟨rfl, rfl⟩)
      go_ret
      exact ⟨rfl, .same (Fr.refl _ _) ⟨_, _, H.out, R.out⟩⟩
    · have e : overS q S = false := by simp only [overS, ho, decide_false]
      rw [e]
      clear e
      by_cases hf : f = 0
      · subst hf
        go_enter Tryz.func83, Tryz.ntmps83
        go_wp2_with (first
          | (go_at_call 51; refine (isDead_any _ _ _ _ _ _ _ H.out).mono ?_; rintro e w' ⟨rfl, rfl⟩)
          | (go_at_call 52; refine (burn_dead _ _ _ _ _ _ (by exact H.out)).mono ?_; rintro e w' ⟨rfl, hfr, hb⟩))
        go_ret
        exact ⟨rfl, .same hfr ⟨_, _, hb, R.out.fr hfr (fun g hg => by simpa using N.out g hg)⟩⟩
      · have e0 : aE false f false = 0 := bE_ok hf
        have e1 : aB false f false B S = S := by simp [aB, hf]
        have e2 : aF false f false = bF f false := rfl
        have e3 : aD false f false = false := bD_ok hf
        have e4 : aS false f false s S.size = S.size := by simp [aS, hf]
        rw [e0, e1, e2, e3, e4]
        clear e0 e1 e2 e3 e4
        go_enter Tryz.func83, Tryz.ntmps83
        go_wp2_with (go_at_call 51; refine (isDead_any _ _ _ _ _ _ _ H.out).mono ?_; rintro e w' ⟨rfl, rfl⟩)
        refine (burn_ok _ _ _ _ _ _ _ (by exact H.out) hf rfl hlo hhi).mono ?_
        rintro e w1 ⟨rfl, hfr, n8, hb⟩
        have hb2 := (fr_convert [] w1 S).at hb (by simp)
        have hsz := Lib.bytesWorld_size w1 5 S
        have hcv := Lib.run_convert_string_bytes (P := Tryz.prog) w1 9 99 5 S Tryz.underlying9 Tryz.underlying99 Tryz.underlying5
        have hrow := row_convert w1 S (by omega)
        have hfw := fr_convert [b] w1 S
        generalize Lib.bytesWorld w1 5 S = w2 at *
        generalize grownCap w1 S.size 0 5 = cap2 at *
        obtain ⟨⟨d0, d1, d2, d3, d4⟩, g1, g2, g3, g4⟩ := seven hb
        obtain ⟨⟨k0, k1, k2, k3, k4⟩, m1, m2, m3, m4⟩ := seven hb2
        have H2 : Hid (w2.heap[b]? = _) := hb2
        have HR : Hid (Row w2 _ (some w1.heap.size) S) := hrow
        have HS : Hid (w2.heap.size = w1.heap.size + 1) := hsz
        have hb1 := lt_of_at hb
        clear hb hb2 hrow hsz
        clear c0 c1 c2 c3 c4 f1 f2 f3 f4
        go_wp2_with fail
        go_ret
        have hf3 : Fr (b :: rb.toList) w w2 := (hfr.trans hfw).mono (by simp)
        have hfs : ∀ (x y : Value), Fr [b] w2 ((w2.setCell ⟨b, 1, none⟩ x).setCell ⟨b, 2, none⟩ y) := fun x y => ((Fr.refl [b] w2).setCell (by simp) _).setCell (by simp) _
        refine ⟨rfl, (hf3.setCell (by simp) _).setCell (by simp) _, some w1.heap.size, ⟨_, _, setFive 2 _ (setFive 1 _ H2.out), ?_⟩, .inr ⟨_, rfl, hfr.size⟩⟩
        refine HR.out.fr (hfs _ _) (fun g hg => ?_)
        rw [List.mem_singleton]
        exact HR.out.rowNe H2.out (by decide) g hg

end Go.Proofs.YtifapongohmemaaGreatDoor
